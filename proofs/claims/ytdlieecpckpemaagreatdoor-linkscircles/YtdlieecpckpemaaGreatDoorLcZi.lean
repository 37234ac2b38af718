/- isNoCell; whether some cell is none; makes; which place is the next one. -/
import Derived.Test.YtdlieecpckpemaaGreatDoorLcZe
import Derived.Test.YtdlieecpckpemaaGreatDoorLcZf
import Derived.Test.YtdlieecpckpemaaGreatDoorLcYv
namespace Go.Proofs.YtdlieecpckpemaaGreatDoor
open Go.RowKit Go.Sort Go.Lib

set_option maxHeartbeats 1000000 in
theorem isNoCell_at (c r : Int) (w : World) : Calls Tryz.prog 51 #[.agg #[.int .i64 c, .int .i64 r]] w fun e w' => e = .returned (.bool (!vC c r)) ∧ Gr w w' := by
  have H1 : Hid (∀ w, Calls Tryz.prog 64 #[.agg #[.int .i64 c, .int .i64 r]] w fun e w' => e = .returned (.bool (vC c r)) ∧ w' = w.alloc (.cells #[.int .i64 c, .int .i64 r] 29)) := pValid_at c r
  have HG : Hid (∀ a t b u, Gr w ((w.alloc (.cells a t)).alloc (.cells b u))) := fun a t b u => ((Gr.refl w).alloc _ _).alloc _ _
  generalize vC c r = V at *
  go_enter Tryz.func51, Tryz.ntmps51
  go_wp2_with (go_at_call 64; refine (H1.out _).mono ?_; rintro e w' ⟨rfl, hz⟩; subst hz)
  go_ret
  exact ⟨rfl, HG.out _ _ _ _⟩
set_option maxHeartbeats 1000000 in
theorem indexF_zero (a : Option Addr) (c : Nat) (f : Value) (w : World) : Calls Tryz.prog 83 #[.slice a 0 c, f] w fun e w' => e = .returned (.int .i64 (-1)) ∧ w' = w := by
  go_enter Tryz.func83, Tryz.ntmps83
  go_wp2
  refine wp_loop_rounds 1 ?_
  rw [rounds_succ]
  go_wp2
  go_ret
  exact ⟨rfl, rfl⟩
set_option maxHeartbeats 1000000 in
theorem containsF_zero (a : Option Addr) (c : Nat) (f : Value) (w : World) : Calls Tryz.prog 73 #[.slice a 0 c, f] w fun e w' => e = .returned (.bool false) ∧ w' = w := by
  go_enter Tryz.func73, Tryz.ntmps73
  go_wp2_with (go_at_call 83; refine (indexF_zero _ _ _ _).mono ?_; rintro e w' ⟨rfl, hz⟩; subst hz)
  go_ret
  exact ⟨rfl, rfl⟩
theorem noCell_any (A : List (Int × Int)) (a : Option Addr) (c : Nat) (w : World) (hA : A.length ≤ 1048576) (ha : 0 < A.length → ∃ b o, a = some ⟨b, o, none⟩ ∧ CellsAt w b o A) :
    Calls Tryz.prog 73 #[.slice a A.length c, .func (.func 51) #[] #[]] w fun e w' => e = .returned (.bool (A.any (fun x => !vC x.1 x.2))) ∧ Kp w w' Nul := by
  by_cases hl : 0 < A.length
  · obtain ⟨b, o, rfl, hc⟩ := ha hl
    obtain ⟨x0, hx0⟩ : ∃ x, A[0]? = some x := ⟨_, List.getElem?_eq_getElem hl⟩
    have hp : PredBelow Tryz.prog 51 #[] (fun x => .agg (encA x).toArray) (fun x => !vC x.1 x.2) w := fun W x hW => by
      refine (isNoCell_at x.1 x.2 W).mono ?_
      rintro e w' ⟨rfl, hg⟩
      refine ⟨rfl, ?_⟩
      have h2 : Kp W w' Nul := Kp.of_gr hg
      exact ⟨h2.os.trans hW.os, h2.tape.trans hW.tape, h2.output.trans hW.output, Nat.le_trans hW.size h2.size, fun i hi => (h2.block i (Nat.lt_of_lt_of_le hi hW.size) (fun x => x)).trans (hW.block i hi)⟩
    have hs := AnyQ.slices_ContainsFunc Tryz.layContainsFuncAddr 2 Tryz.isAgg29 Tryz.sizeOf29 encA encA_len (fun x => !vC x.1 x.2) 51 #[] (enters_of Tryz.func51 (by kernel_rfl) rfl) b o A.length c A w hp (Nat.le_refl _) (by omega) (cell_lt (hc 0 x0 hx0).1) (fun j hj i v hv => by
      rw [getElem!_pos A j hj] at hv
      exact hc.enc j A[j] (List.getElem?_eq_getElem hj) i v hv)
    refine hs.mono ?_
    rintro e w' ⟨rfl, hb⟩
    rw [List.take_length]
    exact ⟨rfl, Kp.of_below hb⟩
  · have h0 : A = [] := List.length_eq_zero_iff.1 (by omega)
    subst h0
    refine (containsF_zero a c _ w).mono ?_
    rintro e w' ⟨rfl, rfl⟩
    exact ⟨rfl, Kp.refl _ _⟩
/-- make of so many cells. -/
theorem make_cells (n : Nat) (hn : n ≤ 1048576) : ∃ cs : Array Value, (∀ w : World, (Instr.makeSlice 30 (.int .i64 (n : Int)) (.int .i64 (n : Int))).run Tryz.prog w = .ok (.slice (some ⟨w.heap.size, 0, none⟩) n n) (w.alloc (.cells cs 29))) ∧
    ∀ w : World, RowA (w.alloc (.cells cs 29)) w.heap.size 0 (Array.replicate n (0, 0)) := by
  obtain ⟨i, hi, hz, hs, hb⟩ := infoAddr
  have hmk := fun w => run_make (P := Tryz.prog) w 30 29 i _ Tryz.underlying30 hi hz .i64 .i64 n n (by omega) (Int.le_refl _) (by rw [hb]; omega) (by omega)
  simp only [Int.toNat_natCast, hs] at hmk
  refine ⟨_, hmk, fun w j hj => ?_⟩
  have hj' : j < n := by simpa using hj
  have e0 : (Array.replicate n ((0 : Int), (0 : Int)))[j]! = (0, 0) := by rw [getElem!_pos _ j hj]; simp
  have hbl := Blk.new' w (madeCells (Value.agg #[.int .i64 0, .int .i64 0]).cells (n * 2)) 29
  have hg : ∀ t, t < n * 2 → (madeCells (Value.agg #[.int .i64 0, .int .i64 0]).cells (n * 2)).toList[t]? = some (.int .i64 0) := fun t ht => by
    simp only [madeCells, Value.cells, Array.toList_map, Array.toList_range, List.getElem?_map]
    rw [List.getElem?_range ht]
    have : t % 2 = 0 ∨ t % 2 = 1 := by omega
    rcases this with e | e <;> simp [e]
  rw [e0, Nat.zero_add]
  exact ⟨⟨hbl.cell (hg _ (by omega)), hbl.cell (hg _ (by omega))⟩, hbl.froz _, hbl.froz _⟩
theorem filter_at (Q : Nat → Bool) (N : Nat) : ∀ n p, ((List.range N).filter Q)[n]? = some p → p < N ∧ Q p = true ∧ Fw.cnt Q 0 p = n := by
  induction N with
  | zero => intro n p h; simp at h
  | succ N ih =>
    intro n p h
    rw [List.range_succ, List.filter_append] at h
    rcases Nat.lt_or_ge n ((List.range N).filter Q).length with hn | hn
    · rw [List.getElem?_append_left hn] at h
      have := ih n p h
      exact ⟨by omega, this.2⟩
    · rw [List.getElem?_append_right hn] at h
      by_cases hq : Q N = true
      · simp only [List.filter_cons, hq, if_true, List.filter_nil] at h
        have h0 : n - ((List.range N).filter Q).length = 0 := by
          rcases Nat.eq_zero_or_pos (n - ((List.range N).filter Q).length) with e | e
          · exact e
          · rw [List.getElem?_eq_none (by simp; omega)] at h; cases h
        rw [h0] at h
        have : N = p := by simpa using h
        subst this
        refine ⟨by omega, hq, ?_⟩
        unfold Fw.cnt
        rw [Nat.sub_zero, ← List.range_eq_range']
        omega
      · simp [hq] at h
theorem filter_len (Q : Nat → Bool) (N : Nat) : ((List.range N).filter Q).length = Fw.cnt Q 0 N := by
  unfold Fw.cnt
  rw [List.range_eq_range']
  rfl
theorem cnt_place {Q : Nat → Bool} {p q : Nat} (hp : Q p = true) (hq : Q q = true) (h : Fw.cnt Q 0 p = Fw.cnt Q 0 q) : p = q := by
  have key : ∀ a b, Q a = true → a < b → Fw.cnt Q 0 a < Fw.cnt Q 0 b := fun a b ha hab => by
    have h1 := Fw.cnt_succ Q (Nat.zero_le a)
    rw [ha] at h1
    have h2 := Fw.cnt_mono Q (Nat.zero_le (a + 1)) (show a + 1 ≤ b by omega)
    simp at h1
    omega
  rcases Nat.lt_trichotomy p q with hlt | e | hlt
  · have := key p q hp hlt; omega
  · exact e
  · have := key q p hq hlt; omega
/-- Those that are ready. -/
theorem TI.rdy {w : World} {F : Nat → Prop} {E : Tb} {L : List (Int × Int)} {U : Nat → Nat → Bool} {blk : Nat → Nat} {M Q : Nat → Bool} {ptr : Nat → Option Addr} {ch : Nat → List Nat} (h : TI w F E L U blk M Q ptr ch none [] Nul) : Od.rdyL L.length U M = (List.range L.length).filter Q := by
  unfold Od.rdyL
  apply List.filter_congr
  intro p hp
  have hpN : p < L.length := by simpa using hp
  have hm := Od.mem_rdyL (N := L.length) (use := U) (T := M) (p := p)
  unfold Od.rdyL at hm
  rw [List.mem_filter] at hm
  rw [Bool.eq_iff_iff]
  constructor
  · intro hr
    have hh := hm.1 ⟨hp, hr⟩
    cases hQ : Q p with
    | true => rfl
    | false =>
      rcases h.all p hh.2.1 hQ (fun x => x) with ⟨l, hl, hu, _⟩ | hc
      · have := hh.2.2 l (h.mN l hl) hl
        rw [hu] at this; cases this
      · cases hc
  · intro hQ
    have hh := h.qM p hQ
    exact (hm.2 ⟨hpN, hh.1, fun q _ hq => hh.2 q hq⟩).2
theorem RowA.kp {w w' : World} {b o : Nat} {d : Array (Int × Int)} {S : Nat → Prop} (h : RowA w b o d) (g : Kp w w' S) (hb : ¬ S b) : RowA w' b o d := fun j hj => by
  obtain ⟨⟨h1, h2⟩, h3, h4⟩ := h j hj
  have e := g.block b (cell_lt h1) hb
  refine ⟨⟨?_, ?_⟩, ?_, ?_⟩
  · simp only [World.cell?] at h1 ⊢; rw [e]; exact h1
  · simp only [World.cell?] at h2 ⊢; rw [e]; exact h2
  · simp only [World.frozen?] at h3 ⊢; rw [e]; exact h3
  · simp only [World.frozen?] at h4 ⊢; rw [e]; exact h4
/-- nth, where the place is known. -/
theorem nth_is {w : World} {F : Nat → Prop} {E : Tb} {L : List (Int × Int)} {U : Nat → Nat → Bool} {blk : Nat → Nat} {M Q : Nat → Bool} {ptr : Nat → Option Addr} {ch : Nat → List Nat} (h : TI w F E L U blk M Q ptr ch none [] Nul) (n0 p : Nat) (hp : ((List.range L.length).filter Q)[n0]? = some p) :
    Calls Tryz.prog 75 #[.pointer (some ⟨E.qb, 0, none⟩), .int .i64 (n0 : Int)] w fun e w' => e = .returned (.int .i64 (p : Int)) ∧ ∃ d, w' = w.drewN d := by
  obtain ⟨h1, h2, h3⟩ := filter_at Q L.length n0 p hp
  have hlen := h.stay.board.len
  have hlt := (List.getElem?_eq_some_iff.1 hp).1
  rw [filter_len] at hlt
  have hb := bitLen_is (L.length + 1) (by omega) (by omega)
  refine (nth_at E.qb E.sb (L.length + 1) (L.length + 1) n0 (Lib.bitLen (L.length + 1)) L.length Q (sc Q L.length) w (h.queue.qq.cell rfl) h.queue.ss rfl (by omega) (sc_cnt Q L.length) hlt h.queue.lo h.queue.hi ?_ ?_ (fun w => ?_)).mono ?_
  · rw [hb]
    have := Nat.lt_log2_self (n := L.length + 1)
    omega
  · rw [hb]
    have := (Nat.log2_lt (n := L.length + 1) (k := 33) (by omega)).2 (by omega)
    omega
  · have := Tryz.bits_Len ((L.length + 1 : Nat) : Int) w (by omega) (by omega)
    rw [Int.toNat_natCast] at this
    exact this
  · rintro e w' ⟨p', rfl, ⟨e1, e2, e3⟩, hd⟩
    have : p' = p := cnt_place e2 h2 (by omega)
    subst this
    exact ⟨rfl, hd⟩
end Go.Proofs.YtdlieecpckpemaaGreatDoor
