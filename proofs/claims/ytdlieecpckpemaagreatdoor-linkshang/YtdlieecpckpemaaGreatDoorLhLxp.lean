/- isSome: has a piece some place? hasSome: has a board a cell of these areas? Links' cells whose areas have some. hasSome, whole. Above's closure: what hangs on a cell, met in depth. place: where a cell stands. -/
import Derived.Test.YtdlieecpckpemaaGreatDoorLhLxm
import Derived.Test.YtdlieecpckpemaaGreatDoorLhZq
import Derived.Test.YtdlieecpckpemaaGreatDoorLhTj
namespace Go.Proofs.YtdlieecpckpemaaGreatDoor
open Go.RowKit
def SomR (S : Nat → Bool) (fr : Nat) (w : World) (i : Value) (wr : World) : Prop :=
  ∃ k : Nat, i = .int .i64 (k : Int) ∧ fr / 64 ≤ k ∧ k ≤ 67108864 ∧ (∀ q, S q = true → 64 * k ≤ q) ∧ Kp w wr Nul
set_option maxRecDepth 20000 in
set_option maxHeartbeats 4000000 in
theorem isSome_at (fr tq lb lo lc rb ro rc n : Nat) (L R : Nat → Bool) (w : World) (hfr : fr ≤ 4294967296) (hto : tq ≤ 64 * n) (hn : n ≤ 67108000) (hl : MarksAt w lb lo n L) (hr : MarksAt w rb ro n R) :
    Calls Tryz.prog 90 #[.agg #[.int .i64 (fr : Int), .int .i64 (tq : Int), .slice (some ⟨lb, lo, none⟩) n lc, .slice (some ⟨rb, ro, none⟩) n rc]] w fun e w' =>
      ∃ B, e = .returned (.bool B) ∧ (B = true ↔ ∃ q, pcSet fr tq L R q = true) ∧ Kp w w' Nul := by
  obtain ⟨S, hS⟩ : ∃ S, pcSet fr tq L R = S := ⟨_, rfl⟩
  have HS : Hid (pcSet fr tq L R = S) := hS
  rw [hS]
  clear hS
  have HST : Hid (∀ q, S q = true → q < tq ∧ fr ≤ q) := fun q hq => by
    rw [← HS.out] at hq
    simp [pcSet] at hq
    omega
  have hf2 : fr / 64 ≤ 67108864 := by omega
  obtain ⟨w0, hw0⟩ : ∃ w0, w.alloc (.cells #[.int .i64 (fr : Int), .int .i64 (tq : Int), .slice (some ⟨lb, lo, none⟩) n lc, .slice (some ⟨rb, ro, none⟩) n rc] 126) = w0 := ⟨_, rfl⟩
  have k0 : Kp w w0 Nul := by rw [← hw0]; exact (Kp.refl w Nul).alloc _
  have b0 : Blk w0 w.heap.size [.int .i64 (fr : Int), .int .i64 (tq : Int), .slice (some ⟨lb, lo, none⟩) n lc, .slice (some ⟨rb, ro, none⟩) n rc] 126 := by rw [← hw0]; exact Blk.new w _ _
  have HW0 : Hid (w.alloc (.cells #[.int .i64 (fr : Int), .int .i64 (tq : Int), .slice (some ⟨lb, lo, none⟩) n lc, .slice (some ⟨rb, ro, none⟩) n rc] 126) = w0) := hw0
  have HL : Hid (∀ W, Kp w W Nul → ∀ i, i < n → W.cell? ⟨lb, lo + i, none⟩ = some (.int .u64 ((Wd.wd L i : Nat) : Int))) := fun W g i hi => by
    have h := hl i hi
    have e := g.block lb (cell_lt h) (fun x => x)
    simp only [World.cell?] at h ⊢
    rw [e]; exact h
  have HR : Hid (∀ W, Kp w W Nul → ∀ i, i < n → W.cell? ⟨rb, ro + i, none⟩ = some (.int .u64 ((Wd.wd R i : Nat) : Int))) := fun W g i hi => by
    have h := hr i hi
    have e := g.block rb (cell_lt h) (fun x => x)
    simp only [World.cell?] at h ⊢
    rw [e]; exact h
  have HB0 : Hid (Blk w0 w.heap.size [.int .i64 (fr : Int), .int .i64 (tq : Int), .slice (some ⟨lb, lo, none⟩) n lc, .slice (some ⟨rb, ro, none⟩) n rc] 126) := b0
  have HK0 : Hid (Kp w w0 Nul) := k0
  obtain ⟨f0, hf0⟩ : ∃ f0, fr / 64 = f0 := ⟨_, rfl⟩
  have hfi : ((fr : Int) / 64) = (f0 : Int) := by omega
  have HF0 : Hid (fr / 64 = f0 ∧ fr ≤ 4294967296 ∧ tq ≤ 64 * n ∧ n ≤ 67108000) := ⟨hf0, hfr, hto, hn⟩
  have c0 : w0.cell? ⟨w.heap.size, 0, none⟩ = some (.int .i64 (fr : Int)) := b0.cell rfl
  clear hw0 k0 b0 hl hr hf0 hfr hto hn hf2
  go_enter Tryz.func90, Tryz.ntmps90
  go_upto_region 2 with (first | (rw [HW0.out]) | fail)
  obtain ⟨t0, ht0⟩ : ∃ t0, (tq + 63) / 64 = t0 := ⟨_, rfl⟩
  have hti : ((tq : Int) + 63) / 64 = (t0 : Int) := by omega
  have HT0 : Hid ((tq + 63) / 64 = t0) := ht0
  have HWo : Hid (∀ wq, Calls Tryz.prog 94 #[.int .i64 (tq : Int)] wq fun e w' => e = .returned (.int .i64 (t0 : Int)) ∧ w' = wq) := fun wq => by
    rw [← hti]; exact wordsOf_at _ (by omega) (by have := HF0.out; omega) wq
  have HTN : Hid (t0 ≤ n) := by show _ ≤ _; have := HF0.out; omega
  clear ht0 hti c0
  go_loopw [3] (fun i wr => SomR S fr w0 i wr) (fun i _ => t0 - (intOf i).toNat)
  case atStart =>
    exact ⟨f0, by rw [show wrap64 (f0 : Int) = (f0 : Int) by unfold wrap64; have := HF0.out; omega], by have := HF0.out; omega, by have := HF0.out; omega, fun q hq => by have := (HST.out q hq).2; have := HF0.out; omega, Kp.refl _ _⟩
  case round =>
    obtain ⟨k, rfl, hk1, hk2, hno, hkp⟩ := hrel
    have HNO : Hid (∀ q, S q = true → 64 * k ≤ q) := hno
    have HK : Hid (Kp w0 wr Nul) := hkp
    have HKb : Hid (fr / 64 ≤ k ∧ k ≤ 67108864) := ⟨hk1, hk2⟩
    have hbx := HB0.out.kp hkp (fun x => x)
    have HBx : Hid (Blk wr w.heap.size [.int .i64 (fr : Int), .int .i64 (tq : Int), .slice (some ⟨lb, lo, none⟩) n lc, .slice (some ⟨rb, ro, none⟩) n rc] 126) := hbx
    have c0 : wr.cell? ⟨w.heap.size, 0, none⟩ = some (.int .i64 (fr : Int)) := hbx.cell rfl
    have c1 : wr.cell? ⟨w.heap.size, 1, none⟩ = some (.int .i64 (tq : Int)) := hbx.cell rfl
    have c2 : wr.cell? ⟨w.heap.size, 2, none⟩ = some (.slice (some ⟨lb, lo, none⟩) n lc) := hbx.cell rfl
    have c3 : wr.cell? ⟨w.heap.size, 3, none⟩ = some (.slice (some ⟨rb, ro, none⟩) n rc) := hbx.cell rfl
    clear hk1 hk2 hno hkp hbx
    by_cases hlt : k < t0
    · have hki : (k : Int) < (t0 : Int) := by omega
      have hkn : k < n := by have := HTN.out; omega
      have HWord : Hid (Calls Tryz.prog 110 #[.agg #[.int .i64 (fr : Int), .int .i64 (tq : Int), .slice (some ⟨lb, lo, none⟩) n lc, .slice (some ⟨rb, ro, none⟩) n rc], .int .i64 (k : Int)] wr fun e w2 => e = .returned (.int .u64 (Wd.wd S k : Nat)) ∧ Kp wr w2 Nul) := by
        have hg : Kp w wr Nul := HK0.out.trans HK.out
        refine (word_at fr tq lb lo lc rb ro rc k n _ _ wr hkn HF0.out.2.1 (by have := HF0.out; omega) (by have := HF0.out; omega) (HL.out wr hg k hkn) (HR.out wr hg k hkn)).mono ?_
        rintro e w2 ⟨rfl, d, rfl⟩
        rw [pc_word, HS.out]
        exact ⟨rfl, ((Kp.refl wr Nul).alloc _).drewN d⟩
      by_cases hz : Wd.wd S k = 0
      · have hwk : wrap64 ((k : Int) + 1) = (k : Int) + 1 := by unfold wrap64; have := HKb.out; omega
        have HEND : Hid (∀ w2, Kp wr w2 Nul → SomR S fr w0 (.int .i64 ((k : Int) + 1)) w2) := fun w2 g => ⟨k + 1, by push_cast; rfl, by have := HKb.out; omega, by have := HF0.out; omega, fun q hq => by
          have h1 := HNO.out q hq
          rcases Nat.lt_or_ge q (64 * (k + 1)) with c | c
          · have h2 := Wd.wd_eq_zero hz (q - 64 * k) (by omega)
            rw [show 64 * k + (q - 64 * k) = q by omega, hq] at h2; cases h2
          · exact c, HK.out.trans g⟩
        rw [hz] at HWord
        clear hz
        go_wp2_with (first
          | (go_at_call 94; refine (HWo.out _).mono ?_; rintro e wz ⟨rfl, hz⟩; replace hz := hz.symm; subst hz)
          | (go_at_call 110; refine HWord.out.mono ?_; rintro e w2 ⟨rfl, hk2⟩)
          | fail)
        go_roundw
        case rel => rw [hwk]; exact HEND.out _ hk2
        case measure => rw [hwk]; simp only [intOf]; omega
      · have hz2 : ¬ ((Wd.wd S k : Nat) : Int) = 0 := by omega
        have HF : Hid (∃ q, S q = true) := by obtain ⟨j, _, h⟩ := Wd.wd_ne hz; exact ⟨_, h⟩
        obtain ⟨x, hx⟩ : ∃ x, Wd.wd S k = x := ⟨_, rfl⟩
        rw [hx] at HWord hz2
        clear hz hx
        go_wp2_with (first
          | (go_at_call 94; refine (HWo.out _).mono ?_; rintro e wz ⟨rfl, hz⟩; replace hz := hz.symm; subst hz)
          | (go_at_call 110; refine HWord.out.mono ?_; rintro e w2 ⟨rfl, hk2⟩)
          | fail)
        refine bodyPost_ret (results_tmp rfl _ _ _) rfl ?_
        exact ⟨true, rfl, ⟨fun _ => HF.out, fun _ => rfl⟩, (HK0.out.trans HK.out).trans hk2⟩
    · have hki : ¬ (k : Int) < (t0 : Int) := by omega
      go_wp2_with (first | (go_at_call 94; refine (HWo.out _).mono ?_; rintro e wz ⟨rfl, hz⟩; replace hz := hz.symm; subst hz) | fail)
      refine bodyPost_ret (results_tmp rfl _ _ _) rfl ?_
      refine ⟨false, rfl, Iff.intro (fun h => by cases h) (fun hq => ?_), HK0.out.trans HK.out⟩
      obtain ⟨q, hq⟩ := hq
      have h1 := HNO.out q hq
      have h2 := (HST.out q hq).1
      have := HT0.out
      omega
end Go.Proofs.YtdlieecpckpemaaGreatDoor
namespace Go.Proofs.YtdlieecpckpemaaGreatDoor
open Go.RowKit Go.Sort Go.Lib Go.Maps
/-- Has the area a cell of these? -/
def hasC (L : List (Int × Int)) (a : Ar) : Bool := L.any a.has
theorem inPl_any {L : List (Int × Int)} {a : Ar} : (∃ q, inPl L a q = true) ↔ hasC L a = true := by
  unfold hasC inPl
  rw [List.any_eq_true]
  constructor
  · rintro ⟨q, h⟩
    cases hq : L[q]? with
    | none => rw [hq] at h; cases h
    | some x => rw [hq] at h; exact ⟨x, List.mem_of_getElem? hq, h⟩
  · rintro ⟨x, hx, h⟩
    obtain ⟨q, hq⟩ := List.getElem?_of_mem hx
    exact ⟨q, by rw [hq]; exact h⟩
set_option maxRecDepth 20000 in
set_option maxHeartbeats 2000000 in
theorem hs1_at (F : Nat → Prop) (B ub mb bx : Nat) (L : List (Int × Int)) (a : Ar) (w : World) (h : BoardIn w F B ub mb L) (hb : Blk w bx [.pointer (some ⟨B, 0, none⟩)] 76) (ha : a.ok) (hn : L.length ≤ 4294912000) :
    Calls Tryz.prog 88 #[.agg #[.int .i64 a.c1, .int .i64 a.r1, .int .i64 a.c2, .int .i64 a.r2], .pointer (some ⟨bx, 0, none⟩)] w fun e w' => e = .returned (.bool (hasC L a)) ∧ Kp w w' Nul := by
  obtain ⟨a1, a2, a3, a4⟩ := a
  obtain ⟨h1, h2, h3, h4, h5, h6⟩ := ha
  dsimp only at *
  obtain ⟨l, rfl⟩ : ∃ l : Nat, a1 = (l : Int) + 1 := ⟨(a1 - 1).toNat, by omega⟩
  obtain ⟨c2, rfl⟩ : ∃ c2 : Nat, a3 = (c2 : Int) := ⟨a3.toNat, by omega⟩
  obtain ⟨V, hV⟩ : ∃ V, hasC L ⟨(l : Int) + 1, a2, (c2 : Int), a4⟩ = V := ⟨_, rfl⟩
  have HV : Hid (hasC L ⟨(l : Int) + 1, a2, (c2 : Int), a4⟩ = V) := hV
  obtain ⟨w1, hw1⟩ : ∃ w1, w.alloc (.cells #[.int .i64 ((l : Int) + 1), .int .i64 a2, .int .i64 (c2 : Int), .int .i64 a4] 52) = w1 := ⟨_, rfl⟩
  have HW1 : Hid (w.alloc (.cells #[.int .i64 ((l : Int) + 1), .int .i64 a2, .int .i64 (c2 : Int), .int .i64 a4] 52) = w1) := hw1
  have k1 : Kp w w1 Nul := by rw [← hw1]; exact (Kp.refl w Nul).alloc _
  have HK1 : Hid (Kp w w1 Nul) := k1
  have bx1 : Blk w1 w.heap.size [.int .i64 ((l : Int) + 1), .int .i64 a2, .int .i64 (c2 : Int), .int .i64 a4] 52 := by rw [← hw1]; exact Blk.new w _ _
  have HBI : Hid (BoardIn w1 F B ub mb L) := h.kp k1 (fun x => x) (fun x => x) (fun x => x) (fun _ _ x => x)
  have HPc : Hid (Calls Tryz.prog 89 #[.pointer (some ⟨B, 0, none⟩), .agg #[.int .i64 ((l : Int) + 1), .int .i64 a2, .int .i64 (c2 : Int), .int .i64 a4]] w1 fun e w' => ∃ fr tq : Nat, e = .returned (pcV fr tq mb ((L.length + 63) / 64) l c2) ∧ AheadIs L a2 fr ∧ AheadIs L (a4 + 1) tq ∧ Gr w1 w') :=
    piece_at F B ub mb L l c2 a2 a4 w1 HBI.out (by omega) (by omega) (by omega) (by omega) (by omega)
  have c0 : w1.cell? ⟨bx, 0, none⟩ = some (.pointer (some ⟨B, 0, none⟩)) := (hb.kp k1 (fun x => x)).cell rfl
  have d0 : w1.cell? ⟨w.heap.size, 0, none⟩ = some (.int .i64 ((l : Int) + 1)) := bx1.cell rfl
  have d1 : w1.cell? ⟨w.heap.size, 1, none⟩ = some (.int .i64 a2) := bx1.cell rfl
  have d2 : w1.cell? ⟨w.heap.size, 2, none⟩ = some (.int .i64 (c2 : Int)) := bx1.cell rfl
  have d3 : w1.cell? ⟨w.heap.size, 3, none⟩ = some (.int .i64 a4) := bx1.cell rfl
  have HLc : Hid (l < 257 ∧ c2 < 257 ∧ L.length ≤ 4294912000) := ⟨by omega, by omega, hn⟩
  clear h hb hw1 k1 bx1 hV h1 h2 h3 h4 h5 h6 hn
  go_enter Tryz.func88, Tryz.ntmps88
  go_upto_region 1 with fail
  rw [HW1.out]
  go_wp2_with (first
    | (go_at_call 89; refine HPc.out.mono ?_; rintro e w2 ⟨fr, tq, rfl, hfr, hto, hg⟩)
    | fail)
  have k2 : Kp w1 w2 Nul := Kp.of_gr hg
  have HK2 : Hid (Kp w1 w2 Nul) := k2
  have HS : Hid (Calls Tryz.prog 90 #[pcV fr tq mb ((L.length + 63) / 64) l c2] w2 fun e w' => e = .returned (.bool V) ∧ Kp w2 w' Nul) := by
    obtain ⟨a, cc, hbm, _⟩ := HBI.out.form
    have hbm2 := hbm.kpn k2
    have hl := HLc.out
    have hf1 := hfr.1
    have hf2 := hto.1
    refine (isSome_at fr tq mb (l * ((L.length + 63) / 64)) _ mb (c2 * ((L.length + 63) / 64)) _ ((L.length + 63) / 64) (colTo L l) (colTo L c2) w2 (by omega) (by omega) (by omega) (row_marks hbm2 hl.1) (row_marks hbm2 hl.2.1)).mono ?_
    rintro e w' ⟨Bo, rfl, hB, hk⟩
    refine ⟨?_, hk⟩
    have : Bo = V := by
      rw [← HV.out, Bool.eq_iff_iff, hB, ← inPl_any]
      constructor
      · rintro ⟨q, hq⟩; exact ⟨q, by rw [← pc_area (a := ⟨(l : Int) + 1, a2, (c2 : Int), a4⟩) rfl rfl hfr hto q]; exact hq⟩
      · rintro ⟨q, hq⟩; exact ⟨q, by rw [pc_area (a := ⟨(l : Int) + 1, a2, (c2 : Int), a4⟩) rfl rfl hfr hto q]; exact hq⟩
    rw [this]
  clear hfr hto hg k2
  refine HS.out.mono ?_
  rintro e w3 ⟨rfl, hk3⟩
  go_wp2_with fail
  go_ret
  exact ⟨by rw [HV.out]; rfl, (HK1.out.trans HK2.out).trans hk3⟩
/-- Has one of the areas one of these cells? -/
def anyC (L : List (Int × Int)) (al : List Ar) : Bool := al.any (hasC L)
set_option maxHeartbeats 2000000 in
theorem whoseB_nil (l fb : Nat) (w : World) (hb : Blk w l [.map none] 66) :
    Calls Tryz.prog 44 #[.pointer (some ⟨l, 0, none⟩), .func (.func 52) #[.pointer (some ⟨fb, 0, none⟩)] #[]] w fun e w' => e = .returned (.slice none 0 0) ∧ Kp w w' Nul := by
  have c0 : w.cell? ⟨l, 0, none⟩ = some (.map none) := hb.cell rfl
  have hrg := run_range_nilMap (P := Tryz.prog) w 64 29 31 Tryz.underlying64
  have hnx : ∀ ty, (Instr.next (.pointer (some ⟨w.heap.size, 0, none⟩)) false ty).run Tryz.prog (w.alloc (.mapIter none 0 #[] 0)) = .ok (.tuple #[.bool false]) (w.alloc (.mapIter none 0 #[] 0)) := fun ty => run_next_nilMap w ty 0 0 #[]
  have HS : Hid (∀ wq, Calls Tryz.prog 80 #[.slice none 0 0, .func (.func 50) #[] #[]] wq fun e w' => e = .returned (.tuple #[]) ∧ w' = wq) := fun wq => AnyF.slices_SortFunc_none Tryz.laySortFuncAddr none 0 _ wq
  have HK : Hid (Kp w (w.alloc (.mapIter none 0 #[] 0)) Nul) := (Kp.refl w Nul).alloc _
  clear hb
  go_enter Tryz.func44, Tryz.ntmps44
  go_wp2_with fail
  refine wp_loop_rounds 1 ?_
  rw [rounds_succ]
  go_wp2_with (go_at_call 80; refine (HS.out _).mono ?_; rintro e w' ⟨rfl, hz⟩; subst hz)
  go_ret
  exact ⟨rfl, HK.out⟩
set_option maxRecDepth 20000 in
set_option maxHeartbeats 8000000 in
theorem whoseB_at (F : Nat → Prop) (l m n fb : Nat) (D : DataW Value) (us : Int × Int → Option (List Ar)) (pr : List Ar → Bool) (w : World) (hb : Blk w l [.map (some m)] 66) (hown : w.ownsMap Tryz.prog 29 rawE m n D) (hm : MapHas w F D us n) (hn : n ≤ 1048576)
    (hu2 : ∀ wq av al cv, Kp w wq Nul → (∀ a ∈ al, a.ok) → al.length ≤ 9223372036854775807 → (0 < al.length → ∃ b o, av = some ⟨b, o, none⟩ ∧ AreasAt wq b o al) → Calls Tryz.prog 52 #[.pointer (some ⟨fb, 0, none⟩), .slice av al.length cv] wq fun e w' => e = .returned (.bool (pr al)) ∧ Kp wq w' Nul) :
    Calls Tryz.prog 44 #[.pointer (some ⟨l, 0, none⟩), .func (.func 52) #[.pointer (some ⟨fb, 0, none⟩)] #[]] w fun e w' => ∃ L v', e = .returned v' ∧ CellsFrom w.heap.size w' v' L ∧ Strict L ∧ (∀ x, x ∈ L ↔ (us x).any pr = true) ∧ Kp w w' Nul := by
  have c0 : w.cell? ⟨l, 0, none⟩ = some (.map (some m)) := hb.cell rfl
  obtain ⟨i0, hi, hz0, hz1, hz2⟩ := infoAddr
  have hmlt := hown.lt
  have HM : Hid (MapHas w F D us n) := hm
  have HU2 : Hid (∀ wq av al cv, Kp w wq Nul → (∀ a ∈ al, a.ok) → al.length ≤ 9223372036854775807 → (0 < al.length → ∃ b o, av = some ⟨b, o, none⟩ ∧ AreasAt wq b o al) → Calls Tryz.prog 52 #[.pointer (some ⟨fb, 0, none⟩), .slice av al.length cv] wq fun e w' => e = .returned (.bool (pr al)) ∧ Kp wq w' Nul) := hu2
  have HOwn : Hid (w.ownsMap Tryz.prog 29 rawE m n D) := hown
  clear hb hm hu2 hown
  go_enter Tryz.func44, Tryz.ntmps44
  go_wp2_with (first
    | (at_range; refine wpList_range_own _ rfl _ 64 rfl 29 31 lawAddr Tryz.underlying64 _ m n D rfl HOwn.out ?_; intro w0 hrg0 hg0 hs0)
    | fail)
  have HStart : Hid (WhR w m n D us pr (.slice none 0 0) w0) := by
    refine ⟨_, _, [], hrg0, ⟨by simp, .inl ⟨rfl, rfl⟩⟩, ?_, List.nodup_nil, fun x => ?_, fun k hk => hk, Kp.of_grown hg0 (fun i e => by cases e)⟩
    · rw [HM.out.size]; simp
    · constructor
      · intro h; cases h
      · rintro ⟨h1, h2⟩
        cases hu : us x with
        | none => rw [hu] at h1; cases h1
        | some al =>
          have hi := (HM.out.rng x al hu).i64
          have := HM.out.keys x.1 x.2 hi.1 hi.2
          rw [h2, hu] at this
          cases this
  clear hrg0 hg0
  go_frame
  go_loopw [5] (fun v wr => WhR w m n D us pr v wr) (fun _ wr => wr.rangeLeft m w.heap.size)
  case atStart => exact HStart.out
  case round =>
    clear HStart
    obtain ⟨left, cnt, acc, hrg, hrow, hlen, hnd, hmem, hleft, hkp⟩ := hrel
    have HROW : Hid (wr.ownsRow (w.heap.size + 1) 29 2 u5 acc.length (flatK encA 2 acc.toArray).toList) := hrow
    have HLEN : Hid (acc.length + cnt ≤ n) := hlen
    have HND : Hid acc.Nodup := hnd
    have HMEM : Hid (∀ x, x ∈ acc ↔ ((us x).any pr = true ∧ left (kl x.1 x.2) = false)) := hmem
    have HLEFT : Hid (∀ k, left k = true → Maps.has D k = true) := hleft
    have HKP : Hid (Kp w wr Nul) := hkp
    have HRG : Hid (wr.ranges Tryz.prog 29 rawE m w.heap.size n D left cnt) := hrg
    clear hrow hlen hnd hmem hleft hkp hrg
    go_wp2_with (first
      | (at_next; refine wpList_next_links _ rfl _ rfl m w.heap.size n D left cnt rfl HRG.out ?_ ?_)
      | fail)
    · intro hc0 hl0
      have HSort : Hid (Calls Tryz.prog 80 #[u5, .func (.func 50) #[] #[]] wr fun e w' => e = .returned (.tuple #[]) ∧ CellsFrom w.heap.size w' u5 (acc.mergeSort fun x y => !(ltOf cfA) y x) ∧ Kp w w' Nul) := by
        have hacc : acc.length ≤ 1048576 := by have := HLEN.out; omega
        refine (sort_cells acc u5 (w.heap.size + 1) wr hacc (own1_row rfl HROW.out)).mono ?_
        rintro e w' ⟨rfl, h1, h2⟩
        refine ⟨rfl, ?_, HKP.out.trans' h2 (fun i hi e => absurd e (by omega))⟩
        obtain ⟨a, c, e1, e2⟩ := own1_from h1
        refine ⟨a, c, e1, ?_⟩
        rcases e2 with e2 | ⟨b, f1, f2, f3⟩
        · exact .inl e2
        · exact .inr ⟨b, f1, by omega, f3⟩
      have HM2 : Hid (∀ x, x ∈ (acc.mergeSort fun x y => !(ltOf cfA) y x) ↔ (us x).any pr = true) := fun x => by
        rw [List.mem_mergeSort, HMEM.out, hl0]
        simp
      clear hc0 hl0
      go_wp2_with fail
      refine HSort.out.mono ?_
      rintro e w' ⟨rfl, hcf, hk⟩
      go_wp2_with fail
      go_ret
      exact ⟨_, _, rfl, hcf, merge_strict HND.out, HM2.out, hk⟩
    · intro x1 x2 c w1 cnt1 hi1 hi2 hlx hat hrg1 hlt hg1 hs1 hen
      obtain ⟨al, hu⟩ : ∃ al, us (x1, x2) = some al := by
        have h1 := HLEFT.out _ hlx
        rw [HM.out.keys x1 x2 hi1 hi2] at h1
        exact Option.isSome_iff_exists.1 h1
      obtain ⟨v0, hv0, har⟩ := HM.out.vals x1 x2 al hu
      rw [hat] at hv0
      have hcv : c = v0 := DataW.held.inj hv0
      subst hcv
      obtain ⟨av, cv, hce, hl1, hl2, hal⟩ := har
      subst hce
      have k1 : Kp wr w1 (fun i => i = w.heap.size) := Kp.of_grown hg1 (fun i e => by cases e; rfl)
      have HK1 : Hid (Kp w w1 Nul) := HKP.out.trans' k1 (fun i hi e => absurd e (by omega))
      have hstep := wh_step (pr := pr) (x := (x1, x2)) HM.out.rng ⟨hi1, hi2⟩ hu HMEM.out hlx
      have HNX : Hid ((x1, x2) ∉ acc) := hstep.1
      have HST : Hid (∀ y, y ∈ (if pr al = true then acc ++ [(x1, x2)] else acc) ↔ ((us y).any pr = true ∧ (left (kl y.1 y.2) && !Lit.sameKey (kl y.1 y.2) (kl x1 x2)) = false)) := hstep.2
      have HR1 : Hid (w1.ranges Tryz.prog 29 rawE m w.heap.size n D (fun z => left z && !z.sameKey (kl x1 x2)) cnt1) := hrg1
      have HRow1 : Hid (w1.ownsRow (w.heap.size + 1) 29 2 u5 acc.length (flatK encA 2 acc.toArray).toList) := row_kp HROW.out k1 (fun i hi e => by omega)
      have HLF : Hid (∀ k, (left k && !k.sameKey (kl x1 x2)) = true → Maps.has D k = true) := fun k hk => HLEFT.out k (by rw [Bool.and_eq_true] at hk; exact hk.1)
      have hcl : Hid (∀ wq, Kp w1 wq Nul → Calls Tryz.prog 52 #[.pointer (some ⟨fb, 0, none⟩), .slice av al.length cv] wq fun e w' => e = .returned (.bool (pr al)) ∧ Kp wq w' Nul) := fun wq k => by
        have kq := HK1.out.trans k
        have hmx : maxLen ≤ 9223372036854775807 := by decide
        refine HU2.out wq av al cv kq (HM.out.oks (x1, x2) al hu).1 (by omega) (fun h => ?_)
        obtain ⟨b, o, e1, _, e3⟩ := hal h
        exact ⟨b, o, e1, e3.kp kq (fun x => x)⟩
      have hA : Blk (w1.alloc (.cells #[.int .i64 x1, .int .i64 x2] 29)) w1.heap.size [.int .i64 x1, .int .i64 x2] 29 := Blk.new w1 [.int .i64 x1, .int .i64 x2] _
      have HA : Hid (∀ wq, Kp (w1.alloc (.cells #[.int .i64 x1, .int .i64 x2] 29)) wq Nul → Blk wq w1.heap.size [.int .i64 x1, .int .i64 x2] 29) := fun wq k => hA.kp k (fun x => x)
      have hcntlt : cnt1 < cnt := hlt
      have hs1' := HKP.out.size
      generalize al.length = nl at *
      obtain ⟨pv, hpv⟩ : ∃ pv, pr al = pv := ⟨_, rfl⟩
      have HPV : Hid (pr al = pv) := hpv
      rw [hpv] at hcl HST
      clear hi1 hi2 hlx hat hrg1 hlt hg1 hu hv0 hl1 hl2 hal k1 hstep hA hpv
      go_wp2_with fail
      refine (hcl.out _ ((Kp.refl _ _).alloc _)).mono ?_
      rintro e w3 ⟨rfl, hk3⟩
      have hk13 : Kp w1 w3 Nul := ((Kp.refl w1 Nul).alloc _).trans hk3
      have HK3 : Hid (Kp w w3 Nul) := HK1.out.trans hk13
      have HR3 : Hid (w3.ranges Tryz.prog 29 rawE m w.heap.size n D (fun z => left z && !z.sameKey (kl x1 x2)) cnt1) := HR1.out.kept hk13.grown (by simp) (by simp)
      have HRow3 : Hid (w3.ownsRow (w.heap.size + 1) 29 2 u5 acc.length (flatK encA 2 acc.toArray).toList) := row_kp HRow1.out hk13 (fun i _ e => e)
      have hbx := HA.out w3 hk3
      rw [hs1] at hbx
      have q0 : w3.cell? ⟨wr.heap.size, 0, none⟩ = some (.int .i64 x1) := hbx.cell rfl
      have q1 : w3.cell? ⟨wr.heap.size, 1, none⟩ = some (.int .i64 x2) := hbx.cell rfl
      have hs3 : w1.heap.size ≤ w3.heap.size := hk13.size
      clear hk3 hk13 hbx hcl HA
      cases pv with
      | false =>
        go_wp2_with fail
        go_roundw
        case rel => exact ⟨_, cnt1, acc, HR3.out, HRow3.out, by have := HLEN.out; omega, HND.out, HST.out, HLF.out, HK3.out⟩
        case measure => rw [HR3.out.left_eq, HRG.out.left_eq]; exact hcntlt
      | true =>
        have hb4 := Blk.new w3 [.int .i64 x1, .int .i64 x2] 29
        have HB4 : Hid (Blk (w3.alloc (.cells #[.int .i64 x1, .int .i64 x2] 29)) w3.heap.size [.int .i64 x1, .int .i64 x2] 29) := hb4
        have HRow4 : Hid ((w3.alloc (.cells #[.int .i64 x1, .int .i64 x2] 29)).ownsRow (w.heap.size + 1) 29 2 u5 acc.length (flatK encA 2 acc.toArray).toList) := row_kp HRow3.out ((Kp.refl w3 Nul).alloc _) (fun i _ e => e)
        clear hb4
        go_wp2_with (at_builtin; refine wpList_append_own _ rfl _ _ 30 rfl (w.heap.size + 1) 29 i0 _ 2 16 Tryz.underlying30 hi hz0 hz1 hz2 rfl (by decide) _ _ _ rfl HRow4.out ⟨w3.heap.size, 0, none⟩ 1 1 (encA (x1, x2)) rfl ?qc1 ?qc2 ?qc3 ?qc4 ?qc5 ?qc6 ?_)
        case qc1 => rfl
        case qc2 =>
          intro j u hj
          rw [Addr.add_lit, Nat.zero_add]
          exact HB4.out.at'.trans hj
        case qc3 => exact encA_one _
        case qc4 => have := HLEN.out; unfold maxLen; omega
        case qc5 => have := HLEN.out; omega
        case qc6 => rw [World.size_alloc]; have := HK3.out.size; omega
        intro v5 w5 hrow5 hg5 hnil5
        have hob := own_block HRow4.out
        have k45 := Kp.of_grown (S := fun i => u5.ownBlock = some i) hg5 (fun i e => e)
        have HK5 : Hid (Kp w w5 Nul) := (HK3.out.alloc _).trans' k45 (fun i hi e => by have := hob i e; omega)
        have HR5 : Hid (w5.ranges Tryz.prog 29 rawE m w.heap.size n D (fun z => left z && !z.sameKey (kl x1 x2)) cnt1) := (HR3.out.alloc _).kept hg5 (fun e => by have := hob m e.symm; omega) (fun e => by have := hob _ e.symm; omega)
        have HRow5 : Hid (w5.ownsRow (w.heap.size + 1) 29 2 v5 (acc ++ [(x1, x2)]).length (flatK encA 2 (acc ++ [(x1, x2)]).toArray).toList) := by
          show World.ownsRow _ _ _ _ _ _ _
          rw [flat_snoc, List.length_append]
          exact hrow5
        clear hrow5 hg5 hnil5 k45 hob
        go_wp2_with fail
        go_roundw
        case rel => exact ⟨_, cnt1, acc ++ [(x1, x2)], HR5.out, HRow5.out, by have := HLEN.out; simp; omega, nodup_snoc HND.out HNX.out, HST.out, HLF.out, HK5.out⟩
        case measure => rw [HR5.out.left_eq, HRG.out.left_eq]; exact hcntlt
end Go.Proofs.YtdlieecpckpemaaGreatDoor
namespace Go.Proofs.YtdlieecpckpemaaGreatDoor
open Go.RowKit Go.Sort Go.Lib Go.Maps Go.Shelf
abbrev ArOk := {a : Ar // a.ok}
instance : Inhabited ArOk := ⟨⟨⟨1, 1, 1, 1⟩, by unfold Ar.ok; decide⟩⟩
/-- slices.ContainsFunc of areas that may be: whether one of them is such a one. -/
theorem containsOk_at (p : Ar → Bool) (g : Nat) (lb : Array Value) (eg : ∀ args w, (callFunc g args).run Tryz.prog w = .ok (.enter g args) w) (A : List Ar) (a : Option Addr) (c : Nat) (w : World) (hok : ∀ x ∈ A, x.ok) (hA : A.length ≤ 9223372036854775807) (ha : 0 < A.length → ∃ b o, a = some ⟨b, o, none⟩ ∧ AreasAt w b o A)
    (hp : ∀ (W : World) (x : Ar), x.ok → Kp w W Nul → Calls Tryz.prog g (#[.agg #[.int .i64 x.c1, .int .i64 x.r1, .int .i64 x.c2, .int .i64 x.r2]] ++ lb) W fun e w' => e = .returned (.bool (p x)) ∧ Kp W w' Nul) :
    Calls Tryz.prog 46 #[.slice a A.length c, .func (.func g) #[] lb] w fun e w' => e = .returned (.bool (A.any p)) ∧ Kp w w' Nul := by
  by_cases hl : 0 < A.length
  · obtain ⟨b, o, rfl, hc⟩ := ha hl
    obtain ⟨x0, hx0⟩ : ∃ x, A[0]? = some x := ⟨_, List.getElem?_eq_getElem hl⟩
    obtain ⟨Z, hZ⟩ : ∃ Z : List ArOk, Z.map (fun x => x.1) = A := ⟨A.attach.map (fun x => ⟨x.1, hok x.1 x.2⟩), by rw [List.map_map]; exact List.attach_map_subtype_val A⟩
    subst hZ
    have hpb : PredBelow Tryz.prog g lb (fun x : ArOk => .agg (encR (tupA x.1)).toArray) (fun x => p x.1) w := fun W x hW => by
      have kW : Kp w W Nul := Kp.of_below hW
      refine (hp W x.1 x.2 kW).mono ?_
      rintro e w' ⟨rfl, hg⟩
      exact ⟨rfl, (kW.trans hg).below⟩
    have el : (Z.map (fun x => x.1)).length = Z.length := List.length_map ..
    rw [el] at hl hA ⊢
    have hs := AnyQ.slices_ContainsFunc Tryz.layContainsFuncArea 4 Tryz.isAgg52 Tryz.sizeOf52 (fun x : ArOk => encR (tupA x.1)) (fun x => encR_len _) (fun x => p x.1) g lb eg b o Z.length c Z w hpb (Nat.le_refl _) (by omega) (cell_lt (hc 0 x0 hx0).1) (fun j hj i v hv => by
      rw [getElem!_pos Z j hj] at hv
      exact hc.enc j _ (by rw [List.getElem?_map, List.getElem?_map, List.getElem?_eq_getElem hj]; rfl) i v hv)
    refine hs.mono ?_
    rintro e w' ⟨rfl, hb⟩
    refine ⟨?_, Kp.of_below hb⟩
    rw [List.take_length, List.any_map]
    rfl
  · have h0 : A = [] := List.length_eq_zero_iff.1 (by omega)
    subst h0
    refine (containsR_zero a c _ w).mono ?_
    rintro e w' ⟨rfl, rfl⟩
    exact ⟨rfl, Kp.refl _ _⟩
set_option maxRecDepth 20000 in
set_option maxHeartbeats 2000000 in
theorem hasSome_at (F : Nat → Prop) (B ub mb : Nat) (L : List (Int × Int)) (al : List Ar) (av : Option Addr) (cv : Nat) (w : World) (h : BoardIn w F B ub mb L) (hn : L.length ≤ 4294912000) (hok : ∀ x ∈ al, x.ok) (hal : al.length ≤ 9223372036854775807) (ha : 0 < al.length → ∃ b o, av = some ⟨b, o, none⟩ ∧ AreasAt w b o al) :
    Calls Tryz.prog 52 #[.pointer (some ⟨B, 0, none⟩), .slice av al.length cv] w fun e w' => e = .returned (.bool (anyC L al)) ∧ Kp w w' Nul := by
  obtain ⟨w1, hw1⟩ : ∃ w1, w.alloc (.cells #[.pointer (some ⟨B, 0, none⟩)] 76) = w1 := ⟨_, rfl⟩
  have HW1 : Hid (w.alloc (.cells #[.pointer (some ⟨B, 0, none⟩)] 76) = w1) := hw1
  have k1 : Kp w w1 Nul := by rw [← hw1]; exact (Kp.refl w Nul).alloc _
  have HK1 : Hid (Kp w w1 Nul) := k1
  have hb1 : Blk w1 w.heap.size [.pointer (some ⟨B, 0, none⟩)] 76 := by rw [← hw1]; exact Blk.new w _ _
  have h1 : BoardIn w1 F B ub mb L := h.kp k1 (fun x => x) (fun x => x) (fun x => x) (fun _ _ x => x)
  have HC : Hid (Calls Tryz.prog 46 #[.slice av al.length cv, .func (.func 88) #[] #[.pointer (some ⟨w.heap.size, 0, none⟩)]] w1 fun e w' => e = .returned (.bool (anyC L al)) ∧ Kp w1 w' Nul) :=
    containsOk_at (hasC L) 88 #[.pointer (some ⟨w.heap.size, 0, none⟩)] (enters_of Tryz.func88 (by kernel_rfl) rfl) al av cv w1 hok hal (fun h0 => by obtain ⟨b, o, e, hh⟩ := ha h0; exact ⟨b, o, e, hh.kp k1 (fun x => x)⟩)
      (fun W x hx k => hs1_at F B ub mb w.heap.size L x W (h1.kp k (fun x => x) (fun x => x) (fun x => x) (fun _ _ x => x)) (hb1.kp k (fun x => x)) hx hn)
  obtain ⟨V, hV⟩ : ∃ V, anyC L al = V := ⟨_, rfl⟩
  rw [hV] at HC ⊢
  generalize al.length = nl at *
  clear h hn hok hal ha hw1 k1 hb1 h1 hV
  go_enter Tryz.func52, Tryz.ntmps52
  go_upto_region 1 with fail
  rw [HW1.out]
  go_wp2_with fail
  refine HC.out.mono ?_
  rintro e w' ⟨rfl, hk⟩
  go_wp2_with fail
  go_ret
  exact ⟨rfl, HK1.out.trans hk⟩
end Go.Proofs.YtdlieecpckpemaaGreatDoor
namespace Go.Proofs.YtdlieecpckpemaaGreatDoor
open Go.RowKit Tj
attribute [local go_sem] Oper.semAt_some
/-- Where the walk's things lie. -/
structure Ae where
  n : Nat
  W : Nat
  mb : Nat
  ub : Nat
  wp : Nat
  fb : Nat
  wb : Nat
  kb : Nat
  Cb : Nat
  cells : Value
  U : Nat → Nat → Bool
abbrev Ae.lb (A : Ae) : Array Value := #[.pointer (some ⟨A.fb, 0, none⟩), .pointer (some ⟨A.wb, 0, none⟩), .pointer (some ⟨A.kb, 0, none⟩)]
abbrev Ae.E (A : Ae) : Nat → Nat → Prop := webE A.n A.U
structure AFix (A : Ae) (w : World) : Prop where
  web : WebM w A.wp A.ub A.mb A.cells A.n A.U
  fb : Blk w A.fb [.slice (some ⟨A.Cb, 0, none⟩) A.W A.W] 84
  wb : Blk w A.wb [.pointer (some ⟨A.wp, 0, none⟩)] 81
  kb : Blk w A.kb [.func (.func 55) #[] A.lb] 89
  tab : Tab w
  hW : (A.n + 63) / 64 = A.W
  ord : A.Cb ≠ A.mb ∧ A.Cb ≠ A.ub ∧ A.Cb ≠ A.wp ∧ A.Cb ≠ A.fb ∧ A.Cb ≠ A.wb ∧ A.Cb ≠ A.kb ∧ A.Cb ≠ 0
theorem AFix.kp {A : Ae} {w w' : World} {S : Nat → Prop} (h : AFix A w) (g : Kp w w' S) (hS : ∀ j, j < w.heap.size → S j → j = A.Cb) : AFix A w' := by
  obtain ⟨o1, o2, o3, o4, o5, o6, o7⟩ := h.ord
  refine ⟨h.web.kp g (fun e => o3 (hS _ h.web.bw.lt e).symm) (fun e => o2 (hS _ h.web.bu.lt e).symm) (fun e => o1 (hS _ h.web.bm.lt e).symm), h.fb.kp g (fun e => o4 (hS _ h.fb.lt e).symm), h.wb.kp g (fun e => o5 (hS _ h.wb.lt e).symm), h.kb.kp g (fun e => o6 (hS _ h.kb.lt e).symm), h.tab.kp g (fun e => o7 (hS _ (cell_lt (h.tab 0 (by omega))) e).symm), h.hW, h.ord⟩
def WkA (A : Ae) (F : Nat → Bool) (p : Nat) (w : World) (e : Ending) (w' : World) : Prop :=
  e = .returned (.tuple #[]) ∧ ∃ F', Dp A.E F p F' ∧ Blk w' A.Cb (wds F' A.W) 122 ∧ Kp w w' (fun j => j = A.Cb)
set_option maxRecDepth 100000 in
set_option maxHeartbeats 8000000 in
theorem above_walk (A : Ae) : ∀ (k : Nat) (F : Nat → Bool) (p : Nat) (w : World), lft A.n F < k → p < A.n → AFix A w → Blk w A.Cb (wds F A.W) 122 →
    Calls Tryz.prog 55 (#[.int .i64 (p : Int)] ++ A.lb) w (WkA A F p w) := by
  intro k
  induction k with
  | zero => intro F p w hk; omega
  | succ k ih =>
    intro F p w hk hp hA hF
    have HIH : Hid (∀ (F : Nat → Bool) (p : Nat) (w : World), lft A.n F < k → p < A.n → AFix A w → Blk w A.Cb (wds F A.W) 122 →
      Calls Tryz.prog 55 (#[.int .i64 (p : Int)] ++ A.lb) w (WkA A F p w)) := ih
    have HA : Hid (AFix A w) := hA
    have HF : Hid (Blk w A.Cb (wds F A.W) 122) := hF
    have HKn : Hid (lft A.n F < k + 1) := hk
    have HPN : Hid (p < A.n ∧ A.n ≤ 4096) := ⟨hp, hA.web.le⟩
    have hpW : p / 64 < A.W := by have := hA.hW; omega
    have HPW : Hid (p / 64 < A.W) := hpW
    have c1 : w.cell? ⟨A.fb, 0, none⟩ = some (.slice (some ⟨A.Cb, 0, none⟩) A.W A.W) := hA.fb.cell rfl
    have HHas : Hid (Calls Tryz.prog 56 #[.slice (some ⟨A.Cb, 0, none⟩) A.W A.W, .int .i64 (p : Int)] w fun e w' => e = .returned (.bool (F p)) ∧ w' = w) :=
      mhas_at A.Cb 0 A.W A.W p F w hpW (by have := HPN.out; omega) (fun i hi => by rw [Nat.zero_add]; exact hF.cell (wds_get hi))
    obtain ⟨fp, hfp⟩ : ∃ fp, F p = fp := ⟨_, rfl⟩
    have HFP : Hid (F p = fp) := hfp
    rw [hfp] at HHas
    clear ih hk hp hA hF hpW hfp
    refine (callsIn_wide (n := 12)).1 ?_
    refine callsIn_of_wp_marks Tryz.func55 rfl trivial ?_ rfl
    simp only [Ae.lb, Tryz.ntmps55, List.size_toArray, List.length_cons, List.length_nil, Nat.reduceAdd, Nat.reduceSub, Array.replicate_succ, Array.replicate_zero, List.push_toArray, List.append_toArray, List.nil_append, List.cons_append]
    refine wpIn_wide.2 ?_
    cases fp with
    | true =>
      go_wp2_with (first
        | (go_at_call 56; refine HHas.out.mono ?_; rintro e wz ⟨rfl, hz⟩; replace hz := hz.symm; subst hz)
        | fail)
      refine leaves_dfs (Ds := []) (B := 0) (Dfs.nil _ _) (fun W' hW' => ?_)
      exact ⟨_, res_none rfl _ _, rfl, F, Dp.known HFP.out, HF.out.kp hW' (fun e => by cases e), hW'.mono (fun j _ e => by cases e)⟩
    | false =>
      have HPut : Hid (Calls Tryz.prog 57 #[.slice (some ⟨A.Cb, 0, none⟩) A.W A.W, .int .i64 (p : Int)] w fun e w' => e = .returned (.tuple #[]) ∧ Blk w' A.Cb (wds (ins F p) A.W) 122 ∧ Kp w w' (fun i => i = A.Cb)) :=
        put_blk A.Cb A.W A.W p F w HPW.out (by have := HPN.out; omega) HF.out
      go_upto_region 2 with (first
        | (go_at_call 56; refine HHas.out.mono ?_; rintro e wz ⟨rfl, hz⟩; replace hz := hz.symm; subst hz)
        | (go_at_call 57; refine HPut.out.mono ?_; rintro e w1 ⟨rfl, hb1, hk1⟩)
        | fail)
      have HB1 : Hid (Blk w1 A.Cb (wds (ins F p) A.W) 122) := hb1
      have HK1 : Hid (Kp w w1 (fun i => i = A.Cb)) := hk1
      have HA1 : Hid (AFix A w1) := HA.out.kp hk1 (fun _ _ e => e)
      obtain ⟨ca, cc, hcl⟩ := HA.out.web.cl
      have d1 : w1.cell? ⟨A.wb, 0, none⟩ = some (.pointer (some ⟨A.wp, 0, none⟩)) := HA1.out.wb.cell rfl
      have d2 : w1.cell? ⟨A.wp, 1, none⟩ = some (.slice (some ⟨A.ub, 0, none⟩) A.n A.n) := HA1.out.web.bw.cell rfl
      obtain ⟨uo, huo⟩ : ∃ uo, p * A.W = uo := ⟨_, rfl⟩
      have HUO : Hid (p * A.W = uo) := huo
      obtain ⟨uc, huc⟩ : ∃ uc, (A.n - p) * A.W = uc := ⟨_, rfl⟩
      have d3 : w1.cell? ⟨A.ub, p, none⟩ = some (.slice (some ⟨A.mb, uo, none⟩) A.W uc) := by
        have := HA1.out.web.bu.cell (i := p) (by rw [upL_get HPN.out.1, if_pos HPN.out.1])
        rw [HA.out.hW, huo, huc] at this
        exact this
      have hpi : (p : Int) < (A.n : Int) := by have := HPN.out; omega
      have hp0 : (0 : Int) ≤ (p : Int) := by omega
      clear hb1 hk1 hcl huo huc c1 HHas HPut
      go_wp2_with (first
        | (go_at_call 58; refine (all_at _ _ _ _).mono ?_; rintro e wz ⟨rfl, hz⟩; subst hz)
        | fail)
      obtain ⟨mx, hmx⟩ : ∃ mx, w1.heap.size = mx := ⟨_, rfl⟩
      obtain ⟨MV, hMV⟩ : ∃ MV, Value.slice (some ⟨A.mb, uo, none⟩) A.W uc = MV := ⟨_, rfl⟩
      have HMV : Hid (Value.slice (some ⟨A.mb, uo, none⟩) A.W uc = MV) := hMV
      obtain ⟨w2, hw2⟩ : ∃ w2, w1.alloc (.cells #[.slice (some ⟨A.mb, uo, none⟩) A.W uc] 84) = w2 := ⟨_, rfl⟩
      have k2 : Kp w1 w2 Nul := by rw [← hw2]; exact (Kp.refl w1 Nul).alloc _
      have HMX : Hid (Blk w2 mx [MV] 84) := by show Blk _ _ _ _; rw [← hw2, ← hMV]; exact Blk.at_ hmx _ _
      have HS2 : Hid (w2.heap.size = mx + 1 ∧ A.Cb < mx ∧ w.heap.size ≤ mx) := ⟨by rw [← hw2, World.size_alloc, hmx], by rw [← hmx]; exact HB1.out.lt, by rw [← hmx]; exact HK1.out.size⟩
      rw [hw2, hmx]
      have HB2 : Hid (Blk w2 A.Cb (wds (ins F p) A.W) 122) := HB1.out.kp k2 (fun x => x)
      have HK2 : Hid (Kp w w2 (fun i => i = A.Cb)) := HK1.out.trans k2.of_nul
      clear hmx hMV hw2 k2 d1 d2 d3 HB1 HA1
      generalize hact : Act.mk _ _ = a0
      refine wp_range_all (gf := 95) (lb := #[.pointer (some ⟨mx, 0, none⟩)]) (by rw [← hact]; rfl) (enters_of Tryz.func95 (by kernel_rfl) rfl) (encs := encP (A.U p) A.W) (fun _ => rfl) (AllM mx (some ⟨A.mb, uo, none⟩) A.mb uo A.W uc (A.U p)) (all1_seq (A.U p) mx (some ⟨A.mb, uo, none⟩) A.mb uo A.W uc (by have := HA.out.hW; have := HPN.out; omega) w2)
        (fun j V => ∃ F1, Dm A.E F p ((pl (A.U p) (64 * A.W)).take j) F1 ∧ Blk V A.Cb (wds F1 A.W) 122 ∧ Kp w2 V (fun i => i = A.Cb))
        (fun _ _ => False) ?hM ?hI ?hIx ?h0 ?hround ?hdone ?hstop
      case hM =>
        rintro j V ⟨F1, _, _, hk⟩
        have hfix := HA.out.kp (HK2.out.trans hk) (fun _ _ e => e)
        refine ⟨by rw [HMV.out]; exact (HMX.out.kp hk (fun e => by have e' : mx = A.Cb := e; have := HS2.out; omega)).cell rfl, fun _ => ⟨rfl, fun i hi => ?_⟩, hfix.tab⟩
        have := hfix.web.bm.cell (memL_get (rows := A.U) (c := p) (i := i) (W := (A.n + 63) / 64) (m := A.n) HPN.out.1 (by rw [HA.out.hW]; exact hi))
        rw [HA.out.hW, HUO.out] at this
        exact this
      case hI =>
        rintro j V V' ⟨F1, h1, h2, h3⟩ q
        have h := HS2.out
        exact ⟨F1, h1, h2.kp q (fun e => by rcases e with e | e <;> omega), h3.trans' q (fun i hi e => by rcases e with e | e <;> omega)⟩
      case hIx => exact fun _ _ _ h => h.elim
      case h0 => exact ⟨ins F p, by rw [List.take_zero]; exact Dm.start (fun q => by unfold ins; by_cases e : q = p <;> simp [e]), HB2.out, Kp.refl _ _⟩
      case hround =>
        subst hact
        rintro j V KK hj hsV ⟨F1, hm1, hb1, hk1⟩ hcont
        obtain ⟨u, hu⟩ : ∃ u, (pl (A.U p) (64 * A.W))[j]? = some u := ⟨_, List.getElem?_eq_getElem hj⟩
        have hUu : A.U p u = true := (mem_pl.1 (List.mem_of_getElem? hu)).2
        have HUN : Hid (u < A.n ∧ A.E p u) := ⟨HA.out.web.lt p u hUu, HPN.out.1, hUu⟩
        have HPT : Hid ((pl (A.U p) (64 * A.W)).take (j + 1) = (pl (A.U p) (64 * A.W)).take j ++ [u]) := by
          show _ = _
          rw [List.take_add_one, hu]; rfl
        have henc : encP (A.U p) A.W j = #[.int .i64 (u : Int)] := by unfold encP; rw [List.getD_eq_getElem?_getD, hu]; rfl
        rw [henc]
        have HM1 : Hid (Dm A.E F p ((pl (A.U p) (64 * A.W)).take j) F1) := hm1
        have HBV : Hid (Blk V A.Cb (wds F1 A.W) 122) := hb1
        have HKV : Hid (Kp w2 V (fun i => i = A.Cb)) := hk1
        have HSV : Hid (w2.heap.size + 2 ≤ V.heap.size) := hsV
        clear hm1 hb1 hk1 hu hUu henc hj hsV
        simp only [List.zip_toArray, List.zip_cons_cons, List.zip_nil_right, List.foldl_toArray', List.foldl_cons, List.foldl_nil]
        gi_wp2_with (fail)
        refine hcont _ _ (Kp.refl _ _) (fun X hX hloop hdef => ?_)
        have HKX : Hid (Kp w2 X (fun i => i = A.Cb)) := HKV.out.trans' hX (fun i hi e => by have e' : i = w2.heap.size + 1 := e; omega)
        have HBX : Hid (Blk X A.Cb (wds F1 A.W) 122) := HBV.out.kp hX (fun e => by have e' : A.Cb = w2.heap.size + 1 := e; have := HS2.out; omega)
        have HSX : Hid (w2.heap.size + 2 ≤ X.heap.size) := Nat.le_trans HSV.out hX.size
        have HAX : Hid (AFix A X) := HA.out.kp (HK2.out.trans HKX.out) (fun _ _ e => e)
        have c3 : X.cell? ⟨A.kb, 0, none⟩ = some (.func (.func 55) #[] A.lb) := HAX.out.kb.cell rfl
        have HR : Hid (Calls Tryz.prog 55 (#[.int .i64 (u : Int)] ++ A.lb) X (WkA A F1 u X)) :=
          HIH.out F1 u X (by
            have h1 := lft_le (n := A.n) (F := insM F p) (G := F1) (fun x hx => by
              unfold insM at hx
              by_cases e : x = p
              · subst e; exact HM1.out.has
              · rw [if_neg e] at hx; exact HM1.out.sub x hx)
            have h2 := lft_lt (n := A.n) (F := F) (G := insM F p) (p := p) (fun x hx => by unfold insM; by_cases e : x = p <;> simp [e, hx]) HPN.out.1 HFP.out (by unfold insM; simp)
            have := HKn.out
            omega) HUN.out.1 HAX.out HBX.out
        clear hcont hX hloop hdef HKV HBV
        gi_wp2_with (fail)
        refine ⟨trivial, CallsIn.inRound _ ((callsIn_wide.2 HR.out).mono ?_)⟩
        rintro e Y ⟨rfl, F2, hp2, hb2, hk2⟩
        have HEND : Hid (Own2 w2.heap.size X Y ∧ ∃ F1, Dm A.E F p ((pl (A.U p) (64 * A.W)).take (j + 1)) F1 ∧ Blk Y A.Cb (wds F1 A.W) 122 ∧ Kp w2 Y (fun i => i = A.Cb)) := by
          have h := HS2.out
          have hx := HSX.out
          exact ⟨Own2.of_kp hk2 (by omega) (fun e => by have e' : w2.heap.size = A.Cb := e; omega) (fun e => by have e' : w2.heap.size + 1 = A.Cb := e; omega), F2, by rw [HPT.out]; exact HM1.out.step HUN.out.2 hp2, hb2, HKX.out.trans hk2⟩
        clear hp2 hb2 hk2
        gi_wp2_with (fail)
        exact HEND.out
      case hdone =>
        subst hact
        rintro D X hD ⟨F1, hm1, hb1, hk1⟩ hdef
        rw [List.take_length] at hm1
        have HM1 : Hid (Dm A.E F p (pl (A.U p) (64 * A.W)) F1) := hm1
        have HBX : Hid (Blk X A.Cb (wds F1 A.W) 122) := hb1
        have HKX : Hid (Kp w2 X (fun i => i = A.Cb)) := hk1
        have HDD : Hid (D = w2.heap.size ∧ X.heap[D]? = some (.deferred (some []))) := ⟨hD, hdef⟩
        clear hm1 hb1 hk1 hD hdef
        go_wp2_with fail
        have hdd := HDD.out
        have hs := HS2.out
        refine leaves_dfs (Ds := [D]) (B := w2.heap.size) ⟨by simp, fun E hE => ?_⟩ (fun W' hW' => ?_)
        · rw [List.mem_singleton] at hE; subst hE
          exact ⟨by omega, hdd.2⟩
        · refine ⟨_, res_none rfl _ _, rfl, F1, HM1.out.fin (fun q hq => ?_), HBX.out.kp hW' (fun e => by rw [List.mem_singleton] at e; omega), (HK2.out.trans HKX.out).trans' hW' (fun j hj e => by rw [List.mem_singleton] at e; omega)⟩
          have h1 := HA.out.web.lt p q hq.2
          have := HA.out.hW
          exact mem_pl.2 ⟨by omega, hq.2⟩
      case hstop => exact fun _ _ _ _ h _ => h.elim
end Go.Proofs.YtdlieecpckpemaaGreatDoor
namespace Go.Proofs.YtdlieecpckpemaaGreatDoor
open Go.RowKit Go.Sort
def LoT (t1 r : Int) (x : Int × Int) : Prop := ordC x.1 x.2 t1 r < 0
def AheadT (L : List (Int × Int)) (t1 r : Int) (i : Nat) : Prop := i ≤ L.length ∧ (∀ (p : Nat) (x : Int × Int), L[p]? = some x → p < i → LoT t1 r x) ∧ (∀ (p : Nat) (x : Int × Int), L[p]? = some x → i ≤ p → ¬ LoT t1 r x)
def RiseT (L : List (Int × Int)) (t1 r : Int) : Prop := ∀ (p q : Nat) (x y : Int × Int), L[p]? = some x → L[q]? = some y → p ≤ q → LoT t1 r y → LoT t1 r x
def BsT (L : List (Int × Int)) (t1 r : Int) (w : World) (i j : Value) (wr : World) : Prop :=
  ∃ k l : Nat, i = .int .i64 (k : Int) ∧ j = .int .i64 (l : Int) ∧ k ≤ l ∧ l ≤ L.length ∧ (∀ (p : Nat) (x : Int × Int), L[p]? = some x → p < k → LoT t1 r x) ∧ (∀ (p : Nat) (x : Int × Int), L[p]? = some x → l ≤ p → ¬ LoT t1 r x) ∧ Gr w wr
theorem lo_iff (t1 r : Int) (x : Int × Int) : LoT t1 r x ↔ ltOf cfA x (t1, r) = true := by
  unfold LoT ltOf cfA; simp
theorem strict_lt {L : List (Int × Int)} (h : Strict L) {p q : Nat} {x y : Int × Int} (hx : L[p]? = some x) (hy : L[q]? = some y) (hpq : p < q) : ltOf cfA x y = true := by
  obtain ⟨h1, e1⟩ := List.getElem?_eq_some_iff.1 hx
  obtain ⟨h2, e2⟩ := List.getElem?_eq_some_iff.1 hy
  have := List.pairwise_iff_getElem.1 h p q h1 h2 hpq
  rwa [e1, e2] at this
theorem rise_strict {L : List (Int × Int)} (h : Strict L) (t1 r : Int) : RiseT L t1 r := fun p q x y hx hy hpq hl => by
  rcases Nat.lt_or_ge p q with c | c
  · rw [lo_iff] at hl ⊢
    have h1 := strict_lt h hx hy c
    rw [cfA_lt] at h1 hl ⊢
    simp only at *
    omega
  · have e : p = q := by omega
    subst e
    rw [hx] at hy; cases hy; exact hl
theorem ahead_place {L : List (Int × Int)} (h : Strict L) {t1 r : Int} {i q : Nat} (ha : AheadT L t1 r i) (hq : L[q]? = some (t1, r)) : i = q := by
  have hno : ¬ LoT t1 r (t1, r) := fun e => by rw [lo_iff, cfA_lt] at e; simp at e
  rcases Nat.lt_trichotomy i q with c | c | c
  · obtain ⟨x, hx⟩ : ∃ x, L[i]? = some x := ⟨_, List.getElem?_eq_getElem (Nat.lt_trans c (List.getElem?_eq_some_iff.1 hq).1)⟩
    exact absurd ((lo_iff t1 r x).2 (strict_lt h hx hq c)) (ha.2.2 i x hx (Nat.le_refl _))
  · exact c
  · exact absurd (ha.2.1 q _ hq c) hno
set_option maxRecDepth 20000 in
set_option maxHeartbeats 4000000 in
theorem searchT_at (L : List (Int × Int)) (a : Option Addr) (cc : Nat) (t1 r : Int) (w : World) (hL : L.length ≤ 4294967296) (hup : RiseT L t1 r) (ha : 0 < L.length → ∃ b o, a = some ⟨b, o, none⟩ ∧ CellsAt w b o L) :
    Calls Tryz.prog 97 #[.slice a L.length cc, .agg #[.int .i64 t1, .int .i64 r], .func (.func 50) #[] #[]] w fun e w' => ∃ (i : Nat) (f : Bool), e = .returned (.tuple #[.int .i64 (i : Int), .bool f]) ∧ AheadT L t1 r i ∧ Gr w w' := by
  obtain ⟨n, hn⟩ : ∃ n, L.length = n := ⟨_, rfl⟩
  have HN : Hid (L.length = n) := hn
  have HA : Hid (0 < n → ∃ b o, a = some ⟨b, o, none⟩ ∧ CellsAt w b o L) := by show _; rw [← hn]; exact ha
  have HU : Hid (RiseT L t1 r) := hup
  have h2 := has2_new w (.int .i64 t1) (.int .i64 r) 29
  have HT : Hid (Has2 (w.alloc (.cells #[.int .i64 t1, .int .i64 r] 29)) w.heap.size (.int .i64 t1) (.int .i64 r)) := h2
  rw [hn]
  have hnn : n ≤ 4294967296 := by omega
  clear hn ha hL hup h2
  go_enter Tryz.func97, Tryz.ntmps97
  go_wp2_with fail
  go_loopw [9, 10] (fun i j wr => BsT L t1 r (w.alloc (.cells #[.int .i64 t1, .int .i64 r] 29)) i j wr) (fun i j _ => (intOf j).toNat - (intOf i).toNat)
  case atStart => exact ⟨0, n, rfl, rfl, by omega, by rw [HN.out]; omega, fun p x _ h => by omega, fun p x hx h => by have := (List.getElem?_eq_some_iff.1 hx).1; rw [HN.out] at this; omega, Gr.refl _⟩
  case round =>
    obtain ⟨k, l, rfl, rfl, hkl, hln, hlow, hhigh, hg⟩ := hrel
    rw [HN.out] at hln
    have HLo : Hid (∀ (p : Nat) (x : Int × Int), L[p]? = some x → p < k → LoT t1 r x) := hlow
    have HHi : Hid (∀ (p : Nat) (x : Int × Int), L[p]? = some x → l ≤ p → ¬ LoT t1 r x) := hhigh
    have HG : Hid (Gr (w.alloc (.cells #[.int .i64 t1, .int .i64 r] 29)) wr) := hg
    have HGw : Hid (Gr w wr) := ((Gr.refl w).alloc _ _).trans hg
    have HW : Hid (Has2 wr w.heap.size (.int .i64 t1) (.int .i64 r)) := HT.out.gr hg
    clear hlow hhigh hg
    by_cases hlt : k < l
    · obtain ⟨b, o, rfl, hcl⟩ := HA.out (by omega)
      obtain ⟨h, hh⟩ : ∃ h, (k + l) / 2 = h := ⟨_, rfl⟩
      have hh1 : k ≤ h := by omega
      have hh2 : h < l := by omega
      have HH : Hid (((k : Int) + l) / 2 = (h : Int)) := by show _ = _; omega
      obtain ⟨⟨c, s⟩, hx⟩ : ∃ x, L[h]? = some x := ⟨_, List.getElem?_eq_getElem (by rw [HN.out]; omega)⟩
      have HX : Hid (L[h]? = some (c, s)) := hx
      have q := (hcl.gr HGw.out) h _ hx
      have HOrd : Hid (∀ wq, Gr wr wq → Calls Tryz.prog 50 #[.agg #[.int .i64 c, .int .i64 s], .agg #[.int .i64 t1, .int .i64 r]] wq fun e w' => e = .returned (.int .i64 (ordC c s t1 r)) ∧ Gr wr w') := fun wq hq => by
        refine (pOrder_any c s t1 r wq).mono ?_
        rintro e w' ⟨rfl, h2⟩
        exact ⟨rfl, hq.trans h2⟩
      have KS : Hid (∀ w', Gr wr w' → (w'.cell? ⟨b, o + h * 2, none⟩ = some (.int .i64 c) ∧ w'.cell? ⟨b, o + h * 2 + 1, none⟩ = some (.int .i64 s) ∧ w'.cell? ⟨w.heap.size, 0, none⟩ = some (.int .i64 t1) ∧ w'.cell? ⟨w.heap.size, 1, none⟩ = some (.int .i64 r))) := fun w' g => by
        have q := ((hcl.gr HGw.out).gr g) h _ hx
        have t := HW.out.gr g
        exact ⟨q.1, q.2, t.1.1, t.1.2⟩
      have HLT : Hid ((ordC c s t1 r < 0) ↔ LoT t1 r (c, s)) := Iff.rfl
      have hhi : (0 : Int) ≤ (h : Int) := by omega
      have hhn : (h : Int) < (n : Int) := by omega
      clear hh q hcl hx HA
      generalize ordC c s t1 r = z at *
      go_wp2_with fail
      simp only [HH.out]
      go_region_held3 (fun w' => w'.cell? ⟨b, o + h * 2, none⟩ = some (.int .i64 c) ∧ w'.cell? ⟨b, o + h * 2 + 1, none⟩ = some (.int .i64 s) ∧ w'.cell? ⟨w.heap.size, 0, none⟩ = some (.int .i64 t1) ∧ w'.cell? ⟨w.heap.size, 1, none⟩ = some (.int .i64 r))
        (first | (refine KS.out _ ?_; assumption) | (exact KS.out _ ((Gr.refl _).drew)) | (exact KS.out _ (Gr.refl _)))
        ((go_at_call 50; refine (HOrd.out _ (by repeat (first | exact Gr.refl _ | refine Gr.drew ?_))).mono ?_; rintro e w' ⟨rfl, hg2⟩))
      all_goals
        have HG2 : Hid (Gr wr w') := hg2
        clear hg2 KS HOrd
        by_cases hz : z < 0
        · go_wp2_with fail
          go_roundw
          case rel =>
            exact ⟨h + 1, l, by go_num, rfl, by omega, by rw [HN.out]; omega, fun p x hp hlt => HU.out p h x (c, s) hp HX.out (by omega) (HLT.out.1 hz), HHi.out, HG.out.trans HG2.out⟩
          case measure => simp [intOf]; omega
        · go_wp2_with fail
          go_roundw
          case rel =>
            exact ⟨k, h, rfl, rfl, by omega, by rw [HN.out]; omega, HLo.out, fun p x hp hle hl => hz (HLT.out.2 (HU.out h p (c, s) x HX.out hp (by omega) hl)), HG.out.trans HG2.out⟩
          case measure => simp [intOf]; omega
    · have hkl2 : k = l := by omega
      subst hkl2
      have HR : Hid (AheadT L t1 r k) := ⟨by rw [HN.out]; omega, HLo.out, HHi.out⟩
      by_cases hkn : k < n
      · obtain ⟨b, o, rfl, hcl⟩ := HA.out (by omega)
        obtain ⟨⟨c, s⟩, hx⟩ : ∃ x, L[k]? = some x := ⟨_, List.getElem?_eq_getElem (by rw [HN.out]; omega)⟩
        have HOrd : Hid (∀ wq, Gr wr wq → Calls Tryz.prog 50 #[.agg #[.int .i64 c, .int .i64 s], .agg #[.int .i64 t1, .int .i64 r]] wq fun e w' => e = .returned (.int .i64 (ordC c s t1 r)) ∧ Gr wr w') := fun wq hq => by
          refine (pOrder_any c s t1 r wq).mono ?_
          rintro e w' ⟨rfl, h2⟩
          exact ⟨rfl, hq.trans h2⟩
        have KS : Hid (∀ w', Gr wr w' → (w'.cell? ⟨b, o + k * 2, none⟩ = some (.int .i64 c) ∧ w'.cell? ⟨b, o + k * 2 + 1, none⟩ = some (.int .i64 s) ∧ w'.cell? ⟨w.heap.size, 0, none⟩ = some (.int .i64 t1) ∧ w'.cell? ⟨w.heap.size, 1, none⟩ = some (.int .i64 r))) := fun w' g => by
          have q := ((hcl.gr HGw.out).gr g) k _ hx
          have t := HW.out.gr g
          exact ⟨q.1, q.2, t.1.1, t.1.2⟩
        have hhi : (0 : Int) ≤ (k : Int) := by omega
        have hhn : (k : Int) < (n : Int) := by omega
        clear hcl hx HA
        generalize ordC c s t1 r = z at *
        go_wp2_with fail
        go_region_held3 (fun w' => w'.cell? ⟨b, o + k * 2, none⟩ = some (.int .i64 c) ∧ w'.cell? ⟨b, o + k * 2 + 1, none⟩ = some (.int .i64 s) ∧ w'.cell? ⟨w.heap.size, 0, none⟩ = some (.int .i64 t1) ∧ w'.cell? ⟨w.heap.size, 1, none⟩ = some (.int .i64 r))
          (first | (refine KS.out _ ?_; assumption) | (exact KS.out _ ((Gr.refl _).drew)) | (exact KS.out _ (Gr.refl _)))
          ((go_at_call 50; refine (HOrd.out _ (by repeat (first | exact Gr.refl _ | refine Gr.drew ?_))).mono ?_; rintro e w' ⟨rfl, hg2⟩))
        all_goals
          have HG2 : Hid (Gr wr w') := hg2
          clear hg2 KS HOrd
          go_wp2_with fail
          go_ret2
          exact ⟨k, _, rfl, HR.out, HGw.out.trans HG2.out⟩
      · have hkd : decide ((k : Int) < (n : Int)) = false := by simp; omega
        go_wp2_with fail
        go_region
        all_goals
          go_wp2_with fail
          go_ret2
          exact ⟨k, _, rfl, HR.out, HGw.out.drew⟩
set_option maxRecDepth 20000 in
set_option maxHeartbeats 2000000 in
theorem place_at (L : List (Int × Int)) (wp ub mb n : Nat) (ca : Option Addr) (cc : Nat) (U : Nat → Nat → Bool) (t1 r : Int) (q : Nat) (w : World) (h : WebM w wp ub mb (.slice ca n cc) n U) (hn : L.length = n) (hcl : 0 < n → ∃ b, ca = some ⟨b, 0, none⟩ ∧ CellsAt w b 0 L) (hs : Strict L) (hq : L[q]? = some (t1, r)) :
    Calls Tryz.prog 59 #[.pointer (some ⟨wp, 0, none⟩), .agg #[.int .i64 t1, .int .i64 r]] w fun e w' => e = .returned (.int .i64 (q : Int)) ∧ Kp w w' Nul := by
  subst hn
  obtain ⟨w1, hw1⟩ : ∃ w1, w.alloc (.cells #[.int .i64 t1, .int .i64 r] 29) = w1 := ⟨_, rfl⟩
  have HW1 : Hid (w.alloc (.cells #[.int .i64 t1, .int .i64 r] 29) = w1) := hw1
  have k1 : Kp w w1 Nul := by rw [← hw1]; exact (Kp.refl w Nul).alloc _
  have HK1 : Hid (Kp w w1 Nul) := k1
  have b1 : Blk w1 w.heap.size [.int .i64 t1, .int .i64 r] 29 := by rw [← hw1]; exact Blk.new w _ _
  have HS : Hid (∀ wq, Kp w1 wq Nul → Calls Tryz.prog 97 #[.slice ca L.length cc, .agg #[.int .i64 t1, .int .i64 r], .func (.func 50) #[] #[]] wq fun e w' => ∃ f : Bool, e = .returned (.tuple #[.int .i64 (q : Int), .bool f]) ∧ Kp w1 w' Nul) := fun wq g => by
    refine (searchT_at L ca cc t1 r wq (by have := h.le; omega) (rise_strict hs t1 r) (fun h0 => by obtain ⟨b, e1, e2⟩ := hcl h0; exact ⟨b, 0, e1, (e2.kp k1 (fun x => x)).kp g (fun x => x)⟩)).mono ?_
    rintro e w' ⟨i, f, rfl, hi, hg⟩
    rw [ahead_place hs hi hq]
    exact ⟨f, rfl, g.trans (Kp.of_gr hg)⟩
  have KS : Hid (∀ w', Kp w1 w' Nul → (w'.cell? ⟨wp, 0, none⟩ = some (.slice ca L.length cc) ∧ w'.cell? ⟨w.heap.size, 0, none⟩ = some (.int .i64 t1) ∧ w'.cell? ⟨w.heap.size, 1, none⟩ = some (.int .i64 r))) := fun w' g =>
    ⟨((h.bw.kp k1 (fun x => x)).kp g (fun x => x)).cell rfl, (b1.kp g (fun x => x)).cell rfl, (b1.kp g (fun x => x)).cell rfl⟩
  generalize L.length = n at *
  clear h hcl hs hq hw1 k1 b1
  go_enter Tryz.func59, Tryz.ntmps59
  go_upto_region 1 with fail
  rw [HW1.out]
  go_region_held3 (fun w' => w'.cell? ⟨wp, 0, none⟩ = some (.slice ca n cc) ∧ w'.cell? ⟨w.heap.size, 0, none⟩ = some (.int .i64 t1) ∧ w'.cell? ⟨w.heap.size, 1, none⟩ = some (.int .i64 r))
    (first | (exact KS.out _ (Kp.refl _ _)) | (exact KS.out _ (Kp.refl _ _).drew) | (refine KS.out _ ?_; assumption))
    ((go_at_call 97; refine (HS.out _ (by repeat (first | exact Kp.refl _ _ | refine Kp.drew ?_))).mono ?_; rintro e w' ⟨f, rfl, hg⟩))
  all_goals
    go_wp2_with fail
    go_ret
    exact ⟨rfl, HK1.out.trans hg⟩
end Go.Proofs.YtdlieecpckpemaaGreatDoor
