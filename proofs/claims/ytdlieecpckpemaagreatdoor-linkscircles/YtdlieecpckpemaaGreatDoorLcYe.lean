/- A piece's last place. manyMarks. A board's marks in memory. newBoard. -/
import Derived.Test.YtdlieecpckpemaaGreatDoorLcYd
import Derived.Test.YtdlieecpckpemaaGreatDoorLcSg
namespace Go.Proofs.YtdlieecpckpemaaGreatDoor
open Go.RowKit

/-- The marks M lie in block b from o on, n words. -/
def MarksAt (w : World) (b o n : Nat) (M : Nat → Bool) : Prop := ∀ i, i < n → w.cell? ⟨b, o + i, none⟩ = some (.int .u64 ((Wd.wd M i : Nat) : Int))
theorem MarksAt.gr {w w' : World} {b o n : Nat} {M : Nat → Bool} (h : MarksAt w b o n M) (g : Gr w w') : MarksAt w' b o n M := fun i hi => g.cell (cell_lt (h i hi)) (h i hi)
theorem MarksAt.of_blk {w : World} {b n m : Nat} {M : Nat → Bool} {t : TypeId} (h : Blk w b (wds M n) t) (hm : m ≤ n) : MarksAt w b 0 m M := fun i hi => by
  rw [Nat.zero_add]; exact h.cell (wds_get (by omega))
theorem bitLen_is (x : Nat) (h : x ≠ 0) (hx : x < 2 ^ 64) : Lib.bitLen x = x.log2 + 1 := by
  induction x using Nat.strongRecOn with
  | _ x ih =>
    rw [Lib.bitLen_half x h hx]
    by_cases h1 : x / 2 = 0
    · have : x = 1 := by omega
      subst this; decide
    · rw [ih (x / 2) (by omega) h1 (by omega), Nat.log2_def x, if_pos (by omega)]; omega
def LastIs (S : Nat → Bool) (r : Int) : Prop := (r = -1 ∧ ∀ q, S q = false) ∨ ∃ q : Nat, r = (q : Int) ∧ S q = true ∧ ∀ q', q < q' → S q' = false
def LastR (S : Nat → Bool) (W fr : Nat) (w : World) (i : Value) (wr : World) : Prop :=
  ∃ k : Int, i = .int .i64 k ∧ k < W ∧ (fr / 64 : Nat) - 1 ≤ k ∧ (∀ q, S q = true → (q : Int) < 64 * (k + 1)) ∧ Gr w wr

set_option maxHeartbeats 2000000 in
theorem last_at (fr to lb lo lc rb ro rc mb mo mc n : Nat) (L R M : Nat → Bool) (w : World) (hfr : fr ≤ to) (hto : to ≤ 64 * n) (hn : n ≤ 67108864)
    (hl : MarksAt w lb lo n L) (hr : MarksAt w rb ro n R) (hm : MarksAt w mb mo n M) :
    Calls Tryz.prog 114 #[.agg #[.int .i64 (fr : Int), .int .i64 (to : Int), .slice (some ⟨lb, lo, none⟩) n lc, .slice (some ⟨rb, ro, none⟩) n rc], .slice (some ⟨mb, mo, none⟩) n mc] w fun e w' =>
      ∃ r : Int, e = .returned (.int .i64 r) ∧ LastIs (fun q => pcSet fr to L R q && M q) r ∧ Gr w w' := by
  obtain ⟨S, hS⟩ : ∃ S, (fun q => pcSet fr to L R q && M q) = S := ⟨_, rfl⟩
  have HSS : Hid ((fun q => pcSet fr to L R q && M q) = S) := hS
  rw [hS]
  clear hS
  have HST : Hid (∀ q, S q = true → q < to ∧ fr ≤ q) := fun q hq => by
    rw [← HSS.out] at hq
    simp [pcSet] at hq
    omega
  have H4 := has4_new w (.int .i64 (fr : Int)) (.int .i64 (to : Int)) (.slice (some ⟨lb, lo, none⟩) n lc) (.slice (some ⟨rb, ro, none⟩) n rc) 126
  have HB : Hid (Has4 (w.alloc (.cells #[.int .i64 (fr : Int), .int .i64 (to : Int), .slice (some ⟨lb, lo, none⟩) n lc, .slice (some ⟨rb, ro, none⟩) n rc] 126)) w.heap.size (.int .i64 (fr : Int)) (.int .i64 (to : Int)) (.slice (some ⟨lb, lo, none⟩) n lc) (.slice (some ⟨rb, ro, none⟩) n rc)) := H4
  have HL : Hid (MarksAt w lb lo n L) := hl
  have HR : Hid (MarksAt w rb ro n R) := hr
  have HM : Hid (MarksAt w mb mo n M) := hm
  clear H4 hl hr hm
  go_enter Tryz.func114, Tryz.ntmps114
  go_wp2_with (go_at_call 94; refine (wordsOf_at _ (by omega) (by omega) _).mono ?_; rintro e w' ⟨rfl, rfl⟩)
  go_loopw [5] (fun i wr => LastR S n fr (w.alloc (.cells #[.int .i64 (fr : Int), .int .i64 (to : Int), .slice (some ⟨lb, lo, none⟩) n lc, .slice (some ⟨rb, ro, none⟩) n rc] 126)) i wr) (fun i _ => (intOf i + 1).toNat)
  case atStart => exact ⟨_, rfl, by omega, by omega, fun q hq => by have := HST.out q hq; omega, Gr.refl _⟩
  case round =>
    obtain ⟨k, rfl, hkn, hkf, hkq, hg⟩ := hrel
    have HG : Hid (Gr (w.alloc (.cells #[.int .i64 (fr : Int), .int .i64 (to : Int), .slice (some ⟨lb, lo, none⟩) n lc, .slice (some ⟨rb, ro, none⟩) n rc] 126)) wr) := hg
    have HGw : Hid (Gr w wr) := ((Gr.refl w).alloc _ _).trans hg
    have HQ : Hid (∀ q, S q = true → (q : Int) < 64 * (k + 1)) := hkq
    have HW := HB.out.gr hg
    have b0 := HW.c0
    clear hg hkq
    by_cases hge : (fr / 64 : Nat) ≤ k
    · obtain ⟨i, rfl⟩ := Int.eq_ofNat_of_zero_le (a := k) (by omega)
      have hin : i < n := by omega
      have HX : Hid ((Wd.wd S i : Nat) = (Wd.wd (fun q => pcSet fr to L R q && M q) i : Nat)) := by rw [HSS.out]; exact rfl
      have HWd : Hid (∀ wq, Gr wr wq → Calls Tryz.prog 110 #[.agg #[.int .i64 (fr : Int), .int .i64 (to : Int), .slice (some ⟨lb, lo, none⟩) n lc, .slice (some ⟨rb, ro, none⟩) n rc], .int .i64 (i : Int)] wq fun e w' => e = .returned (.int .u64 (Wd.wd (pcSet fr to L R) i : Nat)) ∧ Gr wr w') := fun wq hq => by
        refine (word_at fr to lb lo lc rb ro rc i n (Wd.wd L i : Nat) (Wd.wd R i : Nat) wq hin (by omega) (by omega) hn (((HL.out.gr HGw.out).gr hq) i hin) (((HR.out.gr HGw.out).gr hq) i hin)).mono ?_
        rintro e w' ⟨rfl, d, rfl⟩
        rw [pc_word]
        exact ⟨rfl, (hq.alloc _ _).drewN d⟩
      have KM : Hid (∀ w', Gr wr w' → (w'.cell? ⟨w.heap.size, 0, none⟩ = some (.int .i64 (fr : Int)) ∧ w'.cell? ⟨w.heap.size, 1, none⟩ = some (.int .i64 (to : Int)) ∧ w'.cell? ⟨w.heap.size, 2, none⟩ = some (.slice (some ⟨lb, lo, none⟩) n lc) ∧ w'.cell? ⟨w.heap.size, 3, none⟩ = some (.slice (some ⟨rb, ro, none⟩) n rc) ∧ w'.cell? ⟨mb, mo + i, none⟩ = some (.int .u64 ((Wd.wd M i : Nat) : Int)))) := fun w' g => by
        have h4 := HW.gr g
        exact ⟨h4.c0, h4.c1, h4.c2, h4.c3, ((HM.out.gr HGw.out).gr g) i hin⟩
      have HA : Hid (bits .and .u64 (Wd.wd (pcSet fr to L R) i : Nat) (Wd.wd M i : Nat) = (Wd.wd S i : Nat)) := by
        show _ = _
        rw [HX.out, u64_and_nat _ _ (Wd.wd_lt _ _) (Wd.wd_lt _ _), Wd.wd_and]
      have hi1 : (i : Int) < (n : Int) := by omega
      clear HW HX
      go_wp2_with fail
      go_region_held3 (fun w' => w'.cell? ⟨w.heap.size, 0, none⟩ = some (.int .i64 (fr : Int)) ∧ w'.cell? ⟨w.heap.size, 1, none⟩ = some (.int .i64 (to : Int)) ∧ w'.cell? ⟨w.heap.size, 2, none⟩ = some (.slice (some ⟨lb, lo, none⟩) n lc) ∧ w'.cell? ⟨w.heap.size, 3, none⟩ = some (.slice (some ⟨rb, ro, none⟩) n rc) ∧ w'.cell? ⟨mb, mo + i, none⟩ = some (.int .u64 ((Wd.wd M i : Nat) : Int)))
        (first | (refine KM.out _ ?_; assumption) | (exact KM.out _ ((Gr.refl _).drew)) | (exact KM.out _ (Gr.refl _)))
        ((go_at_call 110; refine (HWd.out _ (by repeat (first | exact Gr.refl _ | refine Gr.drew ?_))).mono ?_; rintro e w' ⟨rfl, hg2⟩))
      simp only [HA.out]
      by_cases h0 : Wd.wd S i = 0
      · have HS0 : Hid (∀ j, j < 64 → S (64 * i + j) = false) := fun j hj => Wd.wd_eq_zero h0 j hj
        simp only [h0]
        go_wp2
        go_roundw
        case rel =>
          refine ⟨_, rfl, by omega, by omega, fun q hq => ?_, HG.out.trans hg2⟩
          have h1 := HQ.out q hq
          rcases Int.lt_or_le (q : Int) (64 * (i : Int)) with h2 | h2
          · omega
          · have := HS0.out (q - 64 * i) (by omega)
            rw [show 64 * i + (q - 64 * i) = q by omega, hq] at this; cases this
        case measure => simp [intOf] <;> omega
      · have hne : (((Wd.wd S i : Nat) : Int) != 0) = true := by simp; omega
        have hlt := Wd.wd_lt S i
        have HL := Wd.wd_log h0
        have HLen : Hid (∀ w, Calls Tryz.prog 116 #[.int .u64 ((Wd.wd S i : Nat) : Int)] w fun e w' => e = .returned (.int .i64 (((Wd.wd S i).log2 : Int) + 1)) ∧ w' = w) := fun w => by
          have := Tryz.bits_Len64 ((Wd.wd S i : Nat) : Int) w (by omega) (by omega)
          rw [Int.toNat_natCast, bitLen_is _ h0 (by omega)] at this
          exact this
        obtain ⟨l1, l2, l3⟩ := HL
        have HL2 : Hid (S (64 * i + (Wd.wd S i).log2) = true) := l2
        have HL3 : Hid (∀ j, (Wd.wd S i).log2 < j → j < 64 → S (64 * i + j) = false) := l3
        clear l2 l3 HA
        generalize (Wd.wd S i).log2 = l at *
        generalize Wd.wd S i = x at *
        go_wp2_with (go_at_call 116; refine (HLen.out _).mono ?_; rintro e wz ⟨rfl, rfl⟩)
        go_ret
        refine ⟨_, rfl, .inr ⟨64 * i + l, by omega, HL2.out, fun q hq => ?_⟩, HGw.out.trans hg2⟩
        cases hs : S q
        · rfl
        · have h1 := HQ.out q hs
          have := HL3.out (q - 64 * i) (by omega) (by omega)
          rw [show 64 * i + (q - 64 * i) = q by omega, hs] at this; cases this
    · go_wp2
      go_ret
      refine ⟨_, rfl, .inl ⟨rfl, fun q => ?_⟩, HGw.out⟩
      cases hs : S q
      · rfl
      · have h1 := HQ.out q hs
        have h2 := HST.out q hs
        omega
end Go.Proofs.YtdlieecpckpemaaGreatDoor
namespace Go.Proofs.YtdlieecpckpemaaGreatDoor
open Go.RowKit

theorem infoMarks : (Tryz.prog.info? 84).map (fun i => (i.zero, i.size, i.bytes)) = some (some (.slice none 0 0), 1, 24) := by kernel_rfl
/-- The first k of m marks out of one piece of memory; the others are nil. -/
def upL (mb W m k : Nat) : List Value := (List.range m).map fun i => if i < k then .slice (some ⟨mb, i * W, none⟩) W ((m - i) * W) else .slice none 0 0
theorem upL_get {mb W m k i : Nat} (h : i < m) : (upL mb W m k)[i]? = some (if i < k then .slice (some ⟨mb, i * W, none⟩) W ((m - i) * W) else .slice none 0 0) := by
  unfold upL; rw [List.getElem?_map, List.getElem?_range h]; rfl
theorem upL_zero (mb W m : Nat) : List.replicate m (Value.slice none 0 0) = upL mb W m 0 := by
  apply List.ext_getElem?
  intro i
  by_cases h : i < m
  · rw [upL_get h, List.getElem?_replicate, if_pos h, if_neg (by omega)]
  · rw [List.getElem?_replicate, if_neg h, List.getElem?_eq_none (by simp [upL]; omega)]
theorem upL_set (mb W m k : Nat) : (upL mb W m k).set k (.slice (some ⟨mb, k * W, none⟩) W ((m - k) * W)) = upL mb W m (k + 1) := by
  apply List.ext_getElem?
  intro i
  by_cases h : i < m
  · rw [upL_get h]
    by_cases e : k = i
    · subst e; rw [List.getElem?_set_self (by simp [upL]; exact h), if_pos (by omega)]
    · rw [List.getElem?_set_ne e, upL_get h]
      by_cases hk : i < k
      · rw [if_pos hk, if_pos (by omega)]
      · rw [if_neg hk, if_neg (by omega)]
  · rw [List.getElem?_eq_none (by simp [upL]; omega), List.getElem?_eq_none (by simp [upL]; omega)]
def ManyR (mb W m : Nat) (w : World) (i : Value) (wr : World) : Prop :=
  ∃ k : Nat, i = .int .i64 (k : Int) ∧ k ≤ m ∧ Blk wr mb (wds (fun _ => false) (m * W)) 122 ∧ Blk wr (mb + 1) (upL mb W m k) 84 ∧ Kp w wr Nul
set_option maxHeartbeats 2000000 in
theorem manyMarks_at (m n : Nat) (hm : m ≤ 4100) (hn : n ≤ 4294967296) (w : World) :
    Calls Tryz.prog 82 #[.int .i64 (m : Int), .int .i64 (n : Int)] w fun e w' => e = .returned (.slice (some ⟨w.heap.size + 1, 0, none⟩) m m) ∧
      Blk w' w.heap.size (wds (fun _ => false) (m * ((n + 63) / 64))) 122 ∧ Blk w' (w.heap.size + 1) (upL w.heap.size ((n + 63) / 64) m m) 84 ∧ Kp w w' Nul := by
  obtain ⟨W, hW⟩ : ∃ W, (n + 63) / 64 = W := ⟨_, rfl⟩
  have HWn : Hid ((n + 63) / 64 = W) := hW
  have hWi : ((n : Int) + 63) / 64 = (W : Int) := by omega
  have hWb : W ≤ 67108865 := by omega
  rw [hW]
  clear hW
  have hmw : m * W ≤ 4100 * 67108865 := Nat.mul_le_mul hm hWb
  obtain ⟨X, hX⟩ : ∃ X, m * W = X := ⟨_, rfl⟩
  have hXi : (m : Int) * (W : Int) = (X : Int) := by rw [← hX]; push_cast; rfl
  have HX : Hid (m * W = X) := hX
  rw [hX] at hmw
  have HKW : Hid (∀ k, k < m → ∃ x y : Nat, k * W = x ∧ (k + 1) * W = y ∧ (k : Int) * (W : Int) = (x : Int) ∧ ((k : Int) + 1) * (W : Int) = (y : Int) ∧ y = x + W ∧ y ≤ X ∧ (m - k) * W = X - x) := fun k hk => by
    refine ⟨_, _, rfl, rfl, by push_cast; rfl, by push_cast; rfl, by rw [Nat.add_mul, Nat.one_mul], ?_, ?_⟩
    · rw [← hX]; exact Nat.mul_le_mul_right W (by omega)
    · rw [← hX, Nat.sub_mul]
  rw [hX]
  clear hX
  obtain ⟨cs, hcs, hmk⟩ := make_is 84 122 (.int .u64 0) 8 Tryz.underlying84 infoU64 rfl X (by omega) (by omega)
  obtain ⟨ds, hds, hmk2⟩ := make_is 86 84 (.slice none 0 0) 24 Tryz.underlying86 infoMarks rfl m (by omega) (by omega)
  have HB0 : Hid (∀ o, Blk ((w.alloc (.cells cs 122)).alloc o) w.heap.size (wds (fun _ => false) X) 122) := fun o => by
    have := Blk.new' w cs 122
    rw [hcs, zeros_wds] at this
    exact this.alloc o
  have HB1 : Hid (Blk ((w.alloc (.cells cs 122)).alloc (.cells ds 84)) (w.heap.size + 1) (upL w.heap.size W m 0) 84) := by
    have := Blk.new' (w.alloc (.cells cs 122)) ds 84
    rw [hds, World.size_alloc, upL_zero w.heap.size W m] at this
    exact this
  clear hcs hds
  go_enter Tryz.func82, Tryz.ntmps82
  go_wp2_with (go_at_call 94; refine (wordsOf_at _ (by omega) (by omega) _).mono ?_; rintro e wz ⟨rfl, hz⟩; replace hz := hz.symm; subst hz)
  go_loopw [19] (fun i wr => ManyR w.heap.size W m w i wr) (fun i _ => m - (intOf i).toNat)
  case atStart => exact ⟨0, rfl, by omega, by rw [HX.out]; exact HB0.out _, HB1.out, ((Kp.refl w Nul).alloc _).alloc _⟩
  case round =>
    obtain ⟨k, rfl, hk, b0, b1, kp⟩ := hrel
    have HK0 : Hid (Blk wr w.heap.size (wds (fun _ => false) (m * W)) 122) := b0
    have HK1 : Hid (Blk wr (w.heap.size + 1) (upL w.heap.size W m k) 84) := b1
    have HK2 : Hid (Kp w wr Nul) := kp
    clear b0 b1 kp HB0 HB1 hmk hmk2
    by_cases hlt : k < m
    · obtain ⟨x, y, hx, hy, hxi, hyi, hxy, hyX, hmx⟩ := HKW.out k hlt
      have r1 : wr.cell? ⟨w.heap.size + 1, k, none⟩ = some (.slice none 0 0) := HK1.out.cell (by rw [upL_get hlt, if_neg (by omega)])
      have r2 : wr.frozen? ⟨w.heap.size + 1, k, none⟩ = false := HK1.out.froz k
      have HN0 : Hid (∀ v, Blk (wr.setCell ⟨w.heap.size + 1, k, none⟩ v) w.heap.size (wds (fun _ => false) (m * W)) 122) := fun v => HK0.out.other _ _ (by simp)
      have HN1 : Hid (Blk (wr.setCell ⟨w.heap.size + 1, k, none⟩ (.slice (some ⟨w.heap.size, x, none⟩) W (X - x))) (w.heap.size + 1) (upL w.heap.size W m (k + 1)) 84) := by
        have := HK1.out.set k (.slice (some ⟨w.heap.size, k * W, none⟩) W ((m - k) * W))
        rw [upL_set, hx, hmx] at this
        exact this
      have HN2 : Hid (∀ v, Kp w (wr.setCell ⟨w.heap.size + 1, k, none⟩ v) Nul) := fun v => HK2.out.setCell _ _ (.inl (by simp))
      have HXY : Hid (y = x + W) := hxy
      have hWy : (y : Int) - (x : Int) = (W : Int) := by omega
      have HV : Hid (Value.slice (if X = x then some ⟨w.heap.size, 0, none⟩ else some ⟨w.heap.size, x, none⟩) (y - x) (X - x) = .slice (some ⟨w.heap.size, x, none⟩) W (X - x)) := by
        show _ = _
        rw [show y - x = W by omega]
        by_cases e : X = x
        · have hW0 : W = 0 := by omega
          rw [hW0, Nat.mul_zero] at hx
          subst hx
          rw [if_pos e]
        · rw [if_neg e]
      clear hx hy hmx HK0 HK1 HK2
      have hxX : x ≤ X := by omega
      have hxyl : x ≤ y := by omega
      clear hxy
      go_wp2
      rw [HV.out]
      exact ⟨⟨k + 1, by go_num, by omega, HN0.out _, HN1.out, HN2.out _⟩, by simp [intOf]; omega⟩
    · have : k = m := by omega
      subst this
      go_wp2
      go_ret
      refine ⟨rfl, ?_, HK1.out, HK2.out⟩
      rw [← HX.out]; exact HK0.out
end Go.Proofs.YtdlieecpckpemaaGreatDoor
namespace Go.Proofs.YtdlieecpckpemaaGreatDoor
open Go.RowKit

/-- m rows of W words each, one behind the other. -/
def memL (rows : Nat → Nat → Bool) (W m : Nat) : List Value := (List.range (m * W)).map fun j => .int .u64 ((Wd.wd (rows (j / W)) (j % W) : Nat) : Int)
theorem mem_at {c i W m : Nat} (hc : c < m) (hi : i < W) : c * W + i < m * W ∧ (c * W + i) / W = c ∧ (c * W + i) % W = i := by
  refine ⟨?_, ?_, ?_⟩
  · have : (c + 1) * W ≤ m * W := Nat.mul_le_mul_right W hc
    rw [Nat.add_mul, Nat.one_mul] at this; omega
  · rw [Nat.add_comm, Nat.add_mul_div_right _ _ (by omega), Nat.div_eq_of_lt hi, Nat.zero_add]
  · rw [Nat.add_comm, Nat.add_mul_mod_self_right, Nat.mod_eq_of_lt hi]
theorem memL_get {rows : Nat → Nat → Bool} {c i W m : Nat} (hc : c < m) (hi : i < W) : (memL rows W m)[c * W + i]? = some (.int .u64 ((Wd.wd (rows c) i : Nat) : Int)) := by
  obtain ⟨h1, h2, h3⟩ := mem_at hc hi
  unfold memL
  rw [List.getElem?_map, List.getElem?_range h1]
  simp only [Option.map_some, h2, h3]
theorem memL_zero (W m : Nat) : wds (fun _ => false) (m * W) = memL (fun _ _ => false) W m := by
  unfold memL wds
  apply List.map_congr_left
  intro j _
  rw [Wd.wd_zero, Wd.wd_zero]
theorem memL_set {rows rows' : Nat → Nat → Bool} {c i W m : Nat} (hc : c < m) (hi : i < W) (h : ∀ c' i', c' < m → i' < W → (c' ≠ c ∨ i' ≠ i) → Wd.wd (rows c') i' = Wd.wd (rows' c') i') :
    (memL rows W m).set (c * W + i) (.int .u64 ((Wd.wd (rows' c) i : Nat) : Int)) = memL rows' W m := by
  obtain ⟨h1, h2, h3⟩ := mem_at hc hi
  apply List.ext_getElem?
  intro j
  by_cases hj : j < m * W
  · by_cases e : c * W + i = j
    · subst e
      rw [List.getElem?_set_self (by simp [memL]; exact h1), memL_get hc hi]
    · rw [List.getElem?_set_ne e]
      have hW : 0 < W := by omega
      have hjm : j / W < m := by rw [Nat.div_lt_iff_lt_mul hW]; exact hj
      have hjw : j % W < W := Nat.mod_lt _ hW
      have hdm : j / W * W + j % W = j := by have := Nat.div_add_mod j W; rw [Nat.mul_comm] at this; exact this
      have q1 := memL_get (rows := rows) hjm hjw
      have q2 := memL_get (rows := rows') hjm hjw
      rw [hdm] at q1 q2
      rw [q1, q2, h _ _ hjm hjw]
      by_cases e1 : j / W = c
      · right; intro e2; rw [e1, e2] at hdm; exact e hdm
      · exact .inl e1
  · rw [List.getElem?_eq_none (by simp [memL]; omega), List.getElem?_eq_none (by simp [memL]; omega)]
/-- A board: B its struct, ub its list of marks, mb their memory. -/
structure BoardM (w : World) (B ub mb W : Nat) (cells : Value) (rows : Nat → Nat → Bool) : Prop where
  b : Blk w B [cells, .slice (some ⟨ub, 0, none⟩) 257 257] 109
  u : Blk w ub (upL mb W 257 257) 84
  m : Blk w mb (memL rows W 257) 122
theorem BoardM.kp {w w' : World} {B ub mb W : Nat} {cells : Value} {rows : Nat → Nat → Bool} {S : Nat → Prop} (h : BoardM w B ub mb W cells rows) (g : Kp w w' S) (h1 : ¬ S B) (h2 : ¬ S ub) (h3 : ¬ S mb) : BoardM w' B ub mb W cells rows :=
  ⟨h.b.kp g h1, h.u.kp g h2, h.m.kp g h3⟩
theorem BoardM.kpn {w w' : World} {B ub mb W : Nat} {cells : Value} {rows : Nat → Nat → Bool} (h : BoardM w B ub mb W cells rows) (g : Kp w w' Nul) : BoardM w' B ub mb W cells rows :=
  h.kp g (fun x => x) (fun x => x) (fun x => x)
theorem BoardM.set {w : World} {B ub mb W : Nat} {cells : Value} {rows rows' : Nat → Nat → Bool} (h : BoardM w B ub mb W cells rows) {c i : Nat} (hc : c < 257) (hi : i < W) (hr : ∀ c' i', c' < 257 → i' < W → (c' ≠ c ∨ i' ≠ i) → Wd.wd (rows c') i' = Wd.wd (rows' c') i') :
    BoardM (w.setCell ⟨mb, c * W + i, none⟩ (.int .u64 ((Wd.wd (rows' c) i : Nat) : Int))) B ub mb W cells rows' := by
  refine ⟨h.b.other _ _ (h.b.ne h.m (by decide)), h.u.other _ _ (h.u.ne h.m (by decide)), ?_⟩
  rw [← memL_set (rows := rows) hc hi hr]
  exact h.m.set _ _
/-- One place more in row c. -/
def putRow' (rows : Nat → Nat → Bool) (c p : Nat) : Nat → Nat → Bool := fun c' => if c' = c then ins (rows c) p else rows c'
theorem put_board {w : World} {B ub mb W : Nat} {cells : Value} {rows : Nat → Nat → Bool} (h : BoardM w B ub mb W cells rows) (c p cap : Nat) (hc : c < 257) (hp : p / 64 < W) (hp2 : p < 4294967296) :
    Calls Tryz.prog 57 #[.slice (some ⟨mb, c * W, none⟩) W cap, .int .i64 (p : Int)] w fun e w' => e = .returned (.tuple #[]) ∧ BoardM w' B ub mb W cells (putRow' rows c p) ∧ Kp w w' (fun i => i = mb) := by
  refine (put_at mb (c * W) W cap p (Wd.wd (rows c) (p / 64) : Nat) (Wd.wd (ins (rows c) p) (p / 64) : Nat) w hp hp2 (or_put _ _) (h.m.cell (memL_get hc hp)) (h.m.froz _)).mono ?_
  rintro e w' ⟨rfl, rfl⟩
  have hs := h.set (rows' := putRow' rows c p) hc hp (fun c' i' _ _ hor => by
    unfold putRow'
    by_cases e : c' = c
    · subst e
      rw [if_pos rfl]
      rcases hor with hor | hor
      · exact absurd rfl hor
      · exact wd_far true hor
    · rw [if_neg e])
  have e : putRow' rows c p c = ins (rows c) p := by unfold putRow'; rw [if_pos rfl]
  rw [e] at hs
  exact ⟨rfl, ⟨hs.b.drew, hs.u.drew, hs.m.drew⟩, ((Kp.refl w (fun i => i = mb)).setCell ⟨mb, c * W + p / 64, none⟩ _ (.inr rfl)).drew⟩
end Go.Proofs.YtdlieecpckpemaaGreatDoor
namespace Go.Proofs.YtdlieecpckpemaaGreatDoor
open Go.RowKit

/-- The cells L lie in block b from o on. -/
def CellsAt (w : World) (b o : Nat) (L : List (Int × Int)) : Prop := ∀ i x, L[i]? = some x → w.cell? ⟨b, o + i * 2, none⟩ = some (.int .i64 x.1) ∧ w.cell? ⟨b, o + i * 2 + 1, none⟩ = some (.int .i64 x.2)
theorem CellsAt.kp {w w' : World} {b o : Nat} {L : List (Int × Int)} {S : Nat → Prop} (h : CellsAt w b o L) (g : Kp w w' S) (hb : ¬ S b) : CellsAt w' b o L := fun i x hx => by
  obtain ⟨h1, h2⟩ := h i x hx
  have e := g.block b (cell_lt h1) hb
  have ec : ∀ j, w'.cell? ⟨b, j, none⟩ = w.cell? ⟨b, j, none⟩ := fun j => by simp only [World.cell?]; rw [e]
  rw [ec, ec]; exact ⟨h1, h2⟩
/-- Row c: those of the first k whose column is c. -/
def colIs (L : List (Int × Int)) (k : Nat) : Nat → Nat → Bool := fun c p => decide (p < k) && (match L[p]? with | some x => x.1 == (c : Int) | none => false)
/-- Row c: those whose column is c or less. -/
def colTo (L : List (Int × Int)) : Nat → Nat → Bool := fun c p => match L[p]? with | some x => decide (x.1 ≤ (c : Int)) | none => false
theorem colIs_step (L : List (Int × Int)) (k c : Nat) (x : Int × Int) (hk : L[k]? = some x) (hx : x.1 = (c : Int)) : putRow' (colIs L k) c k = colIs L (k + 1) := by
  funext c' p
  unfold putRow' colIs ins
  by_cases e : c' = c
  · subst e
    rw [if_pos rfl]
    by_cases ep : p = k
    · subst ep; simp [hk, hx]
    · rw [if_neg ep]
      have : decide (p < k) = decide (p < k + 1) := by rw [decide_eq_decide]; omega
      simp only [this]
  · rw [if_neg e]
    by_cases ep : p = k
    · subst ep
      have : (x.1 == (c' : Int)) = false := by rw [hx]; simp; omega
      simp [hk, this]
    · have : decide (p < k) = decide (p < k + 1) := by rw [decide_eq_decide]; omega
      rw [this]
theorem colIs_zero (L : List (Int × Int)) : (fun _ _ => false) = colIs L 0 := by funext c p; simp [colIs]
theorem Kp.nn {w w1 w2 : World} (h : Kp w w1 Nul) (g : Kp w1 w2 Nul) : Kp w w2 Nul := h.trans g
theorem BoardM.congr {w : World} {B ub mb W : Nat} {cells : Value} {rows rows' : Nat → Nat → Bool} (h : BoardM w B ub mb W cells rows) (hr : ∀ c, c < 257 → ∀ p, p < 64 * W → rows c p = rows' c p) : BoardM w B ub mb W cells rows' := by
  refine ⟨h.b, h.u, ?_⟩
  have e : memL rows W 257 = memL rows' W 257 := by
    unfold memL
    apply List.map_congr_left
    intro j hj
    have hj' : j < 257 * W := by simpa using hj
    have hW : 0 < W := by rcases Nat.eq_zero_or_pos W with h0 | h0; subst h0; omega; exact h0
    have h1 : j / W < 257 := by rw [Nat.div_lt_iff_lt_mul hW]; exact hj'
    have h2 : j % W < W := Nat.mod_lt _ hW
    rw [Wd.wd_congr (N := rows' (j / W))]
    intro q hq
    exact hr _ h1 _ (by omega)
  rw [← e]; exact h.m
/-- The rows up to c are done. -/
def rows2 (L : List (Int × Int)) (c : Nat) : Nat → Nat → Bool := fun c' => if c' ≤ c then colTo L c' else colIs L L.length c'
/-- Of the next one the first i words. -/
def rows3 (L : List (Int × Int)) (c i : Nat) : Nat → Nat → Bool := fun c' => if c' = c + 1 then (fun p => if p < 64 * i then colIs L L.length c' p || colTo L c p else colIs L L.length c' p) else rows2 L c c'
theorem rows3_zero (L : List (Int × Int)) (c : Nat) : rows2 L c = rows3 L c 0 := by
  funext c' p
  unfold rows3 rows2
  by_cases h : c' = c + 1
  · subst h; rw [if_neg (by omega), if_pos rfl]; simp
  · rw [if_neg h]
theorem colTo_next (L : List (Int × Int)) (c p : Nat) : (colIs L L.length (c + 1) p || colTo L c p) = colTo L (c + 1) p := by
  unfold colIs colTo
  cases h : L[p]? with
  | none => simp
  | some x =>
    have : p < L.length := (List.getElem?_eq_some_iff.1 h).1
    simp only [this, decide_true, Bool.true_and]
    rw [Bool.eq_iff_iff]
    simp only [Bool.or_eq_true, beq_iff_eq, decide_eq_true_eq]
    push_cast
    omega
theorem rows3_end (L : List (Int × Int)) (c W : Nat) (hW : L.length ≤ 64 * W) : rows3 L c W = rows2 L (c + 1) := by
  funext c' p
  unfold rows3 rows2
  by_cases h : c' = c + 1
  · subst h
    have e1 : (c + 1 ≤ c + 1) = True := by simp
    simp only [if_true, e1]
    by_cases hp : p < 64 * W
    · rw [if_pos hp]; exact colTo_next L c p
    · rw [if_neg hp]
      have : L[p]? = none := List.getElem?_eq_none (by omega)
      simp [colIs, colTo, this]
  · rw [if_neg h]
    by_cases h2 : c' ≤ c
    · rw [if_pos h2, if_pos (by omega)]
    · rw [if_neg h2, if_neg (by omega)]
theorem rows2_zero (L : List (Int × Int)) (hv : ∀ (i : Nat) (x : Int × Int), L[i]? = some x → 1 ≤ x.1 ∧ x.1 ≤ 256) : colIs L L.length = rows2 L 0 := by
  funext c p
  unfold rows2
  by_cases h : c ≤ 0
  · have : c = 0 := by omega
    subst this
    rw [if_pos h]
    unfold colIs colTo
    cases hp : L[p]? with
    | none => simp
    | some x =>
      have := hv p x hp
      have h1 : (x.1 == ((0 : Nat) : Int)) = false := by simp; omega
      have h2 : decide (x.1 ≤ ((0 : Nat) : Int)) = false := by simp; omega
      simp only [h1, h2, Bool.and_false]
  · rw [if_neg h]
theorem rows2_end (L : List (Int × Int)) (c : Nat) (hc : c < 257) (p : Nat) : rows2 L 256 c p = colTo L c p := by
  unfold rows2; rw [if_pos (by omega)]
theorem rows3_step (L : List (Int × Int)) (c i : Nat) (c' i' : Nat) (h : c' ≠ c + 1 ∨ i' ≠ i) : Wd.wd (rows3 L c i c') i' = Wd.wd (rows3 L c (i + 1) c') i' := by
  apply Wd.wd_congr
  intro j hj
  unfold rows3
  by_cases e : c' = c + 1
  · rw [if_pos e, if_pos e]
    rcases h with h | h
    · exact absurd e h
    · by_cases h2 : 64 * i' + j < 64 * i
      · rw [if_pos h2, if_pos (by omega)]
      · rw [if_neg h2, if_neg (by omega)]
  · rw [if_neg e, if_neg e]
theorem rows3_or (L : List (Int × Int)) (c i : Nat) : bits .or .u64 (Wd.wd (rows3 L c i (c + 1)) i : Nat) (Wd.wd (rows3 L c i c) i : Nat) = (Wd.wd (rows3 L c (i + 1) (c + 1)) i : Nat) := by
  rw [u64_or_nat _ _ (Wd.wd_lt _ _) (Wd.wd_lt _ _), Wd.wd_or]
  congr 1
  apply Wd.wd_congr
  intro j hj
  unfold rows3 rows2
  have e1 : ¬ (c = c + 1) := by omega
  have e2 : ¬ (64 * i + j < 64 * i) := by omega
  have e3 : 64 * i + j < 64 * (i + 1) := by omega
  simp only [if_true, e1, e2, e3, if_false, Nat.le_refl]
def NbR2 (L : List (Int × Int)) (B ub mb W : Nat) (cells : Value) (w : World) (i : Value) (wr : World) : Prop :=
  ∃ k : Nat, i = .int .i64 (k : Int) ∧ k ≤ 256 ∧ BoardM wr B ub mb W cells (rows2 L k) ∧ Kp w wr Nul
def NbR3 (L : List (Int × Int)) (c B ub mb W : Nat) (cells : Value) (w : World) (i : Value) (wr : World) : Prop :=
  ∃ k : Nat, i = .int .i64 (k : Int) ∧ k ≤ W ∧ BoardM wr B ub mb W cells (rows3 L c k) ∧ Kp w wr Nul
def NbR1 (L : List (Int × Int)) (B ub mb W : Nat) (cells : Value) (w : World) (i : Value) (wr : World) : Prop :=
  ∃ k : Nat, i = .int .i64 (k : Int) ∧ k ≤ L.length ∧ BoardM wr B ub mb W cells (colIs L k) ∧ Kp w wr Nul

set_option maxRecDepth 20000 in
set_option maxHeartbeats 4000000 in
theorem newBoard_at (L : List (Int × Int)) (a : Option Addr) (cc : Nat) (w : World) (hL : L.length ≤ 4294967296) (hv : ∀ (i : Nat) (x : Int × Int), L[i]? = some x → 1 ≤ x.1 ∧ x.1 ≤ 256) (ha : 0 < L.length → ∃ b o, a = some ⟨b, o, none⟩ ∧ CellsAt w b o L) :
    Calls Tryz.prog 47 #[.slice a L.length cc] w fun e w' => ∃ B ub mb, e = .returned (.pointer (some ⟨B, 0, none⟩)) ∧ BoardM w' B ub mb ((L.length + 63) / 64) (.slice a L.length cc) (colTo L) ∧ (w.heap.size ≤ B ∧ w.heap.size ≤ ub ∧ w.heap.size ≤ mb) ∧ Kp w w' Nul := by
  obtain ⟨n, hn⟩ : ∃ n, L.length = n := ⟨_, rfl⟩
  obtain ⟨W, hW⟩ : ∃ W, (n + 63) / 64 = W := ⟨_, rfl⟩
  have HN : Hid (L.length = n) := hn
  have HA : Hid (0 < n → ∃ b o, a = some ⟨b, o, none⟩ ∧ CellsAt w b o L) := by show _; rw [← hn]; exact ha
  have HV : Hid (∀ (i : Nat) (x : Int × Int), L[i]? = some x → 1 ≤ x.1 ∧ x.1 ≤ 256) := hv
  have HM : Hid (∀ w, Calls Tryz.prog 82 #[.int .i64 (257 : Int), .int .i64 (n : Int)] w fun e w' => e = .returned (.slice (some ⟨w.heap.size + 1, 0, none⟩) 257 257) ∧
      Blk w' w.heap.size (memL (fun _ _ => false) W 257) 122 ∧ Blk w' (w.heap.size + 1) (upL w.heap.size W 257 257) 84 ∧ Kp w w' Nul) := fun w => by
    have := manyMarks_at 257 n (by omega) (by omega) w
    rw [hW, memL_zero] at this
    exact this
  rw [hn, hW]
  have hWn : n ≤ 64 * W := by omega
  have hWb : W ≤ 67108865 := by omega
  have hnn : n ≤ 4294967296 := by omega
  clear hn hW ha hv hL
  go_enter Tryz.func47, Tryz.ntmps47
  go_wp2_with (go_at_call 82; refine (HM.out _).mono ?_; rintro e w1 ⟨rfl, hb0, hb1, hkp⟩)
  have HB0 : Hid (BoardM (w1.alloc (.cells #[.slice a n cc, .slice (some ⟨w.heap.size + 1, 0, none⟩) 257 257] 109)) w1.heap.size (w.heap.size + 1) w.heap.size W (.slice a n cc) (colIs L 0)) := by
    refine ⟨Blk.new w1 [.slice a n cc, .slice (some ⟨w.heap.size + 1, 0, none⟩) 257 257] _, hb1.alloc _, ?_⟩
    rw [← colIs_zero]; exact hb0.alloc _
  have HK0 : Hid (Kp w (w1.alloc (.cells #[.slice a n cc, .slice (some ⟨w.heap.size + 1, 0, none⟩) 257 257] 109)) Nul) := hkp.alloc _
  have hB1 : w.heap.size ≤ w1.heap.size := hkp.size
  clear hb0 hb1 hkp HM
  generalize w1.heap.size = B at *
  go_loopw [17] (fun i wr => NbR1 L B (w.heap.size + 1) w.heap.size W (.slice a n cc) w i wr) (fun i _ => n - (intOf i).toNat)
  case atStart => exact ⟨0, rfl, by omega, HB0.out, HK0.out⟩
  case round =>
    obtain ⟨k, rfl, hk, hbm, hkp⟩ := hrel
    have HBM : Hid (BoardM wr B (w.heap.size + 1) w.heap.size W (.slice a n cc) (colIs L k)) := hbm
    have HKP : Hid (Kp w wr Nul) := hkp
    rw [HN.out] at hk
    clear hbm hkp HB0 HK0
    by_cases hlt : k < n
    · obtain ⟨b, o, rfl, hcl⟩ := HA.out (by omega)
      obtain ⟨x, hx⟩ : ∃ x, L[k]? = some x := ⟨_, List.getElem?_eq_getElem (by rw [HN.out]; exact hlt)⟩
      have hx1 := HV.out k x hx
      obtain ⟨x1, r⟩ := x
      obtain ⟨c, rfl⟩ := Int.eq_ofNat_of_zero_le (a := x1) (by simp at hx1; omega)
      have hc1 : 1 ≤ c := by simp at hx1; omega
      have hc2 : c ≤ 256 := by simp at hx1; omega
      have q := (hcl.kp HKP.out (fun x => x)) k _ hx
      have q1 := q.1
      have q2 := q.2
      simp only at q1 q2
      have hne1 := (HBM.out.b.ne HBM.out.m (by decide))
      have hwr : w.heap.size < wr.heap.size := HBM.out.m.lt
      have HP : Hid (∀ wq, Kp (wr.alloc (.cells #[.int .i64 (c : Int), .int .i64 r] 29)) wq Nul → Calls Tryz.prog 57 #[.slice (some ⟨w.heap.size, c * W, none⟩) W ((257 - c) * W), .int .i64 (k : Int)] wq fun e w' => e = .returned (.tuple #[]) ∧ BoardM w' B (w.heap.size + 1) w.heap.size W (.slice (some ⟨b, o, none⟩) n cc) (colIs L (k + 1)) ∧ Kp w w' Nul ∧ Kp (wr.alloc (.cells #[.int .i64 (c : Int), .int .i64 r] 29)) w' (fun i => i = w.heap.size)) := fun wq hq => by
        have hq' : Kp wr wq Nul := ((Kp.refl wr Nul).alloc _).nn hq
        refine (put_board (HBM.out.kpn hq') c k _ (by omega) (by omega) (by omega)).mono ?_
        rintro e w' ⟨rfl, h1, h2⟩
        rw [colIs_step L k c _ hx rfl] at h1
        exact ⟨rfl, h1, (HKP.out.nn hq').trans' h2 (fun i hi e => by omega), hq.of_nul.trans h2⟩
      have KS : Hid (∀ w', Kp (wr.alloc (.cells #[.int .i64 (c : Int), .int .i64 r] 29)) w' (fun i => i = w.heap.size) → (w'.cell? ⟨B, 1, none⟩ = some (.slice (some ⟨w.heap.size + 1, 0, none⟩) 257 257) ∧ w'.cell? ⟨w.heap.size + 1, c, none⟩ = some (.slice (some ⟨w.heap.size, c * W, none⟩) W ((257 - c) * W)) ∧ w'.cell? ⟨wr.heap.size, 0, none⟩ = some (.int .i64 (c : Int)))) := fun w' g => by
        have hb := HBM.out.kpn ((Kp.refl wr Nul).alloc (.cells #[.int .i64 (c : Int), .int .i64 r] 29))
        exact ⟨(hb.b.kp g hne1).cell rfl, (hb.u.kp g (by simp)).cell (by rw [upL_get (by omega), if_pos (by omega)]), ((Blk.new wr [.int .i64 (c : Int), .int .i64 r] _).kp g (fun e => by have e' : wr.heap.size = w.heap.size := e; omega)).cell rfl⟩
      have hcl' : (c : Int) < 257 := by omega
      clear q hx hx1 hcl HA
      go_wp2_with fail
      go_region_held3 (fun w' => w'.cell? ⟨B, 1, none⟩ = some (.slice (some ⟨w.heap.size + 1, 0, none⟩) 257 257) ∧ w'.cell? ⟨w.heap.size + 1, c, none⟩ = some (.slice (some ⟨w.heap.size, c * W, none⟩) W ((257 - c) * W)) ∧ w'.cell? ⟨wr.heap.size, 0, none⟩ = some (.int .i64 (c : Int)))
        (first | (refine KS.out _ ?_; assumption) | (exact KS.out _ ((Kp.refl _ _).drew)) | (exact KS.out _ (Kp.refl _ _)))
        ((go_at_call 57; refine (HP.out _ (by repeat (first | exact Kp.refl _ Nul | refine Kp.drew ?_ | refine Kp.alloc ?_ _))).mono ?_; rintro e w' ⟨rfl, hbm2, hkp2, hkp3⟩))
      all_goals
        have HBM2 : Hid (BoardM w' B (w.heap.size + 1) w.heap.size W (.slice (some ⟨b, o, none⟩) n cc) (colIs L (k + 1))) := hbm2
        have HKP2 : Hid (Kp w w' Nul) := hkp2
        clear hbm2 hkp2 hkp3 KS HP
        go_wp2_with fail
        go_roundw
        case rel => first | exact ⟨k + 1, by go_num, by rw [HN.out]; omega, HBM2.out, HKP2.out⟩ | ((repeat apply Exists.intro); refine ⟨?_, rfl⟩; exact ⟨k + 1, by go_num, by rw [HN.out]; omega, HBM2.out, HKP2.out⟩)
        case measure => simp [intOf]; omega
    · have : k = n := by omega
      subst this
      have HB2 : Hid (BoardM wr B (w.heap.size + 1) w.heap.size W (.slice a k cc) (rows2 L 0)) := by
        show BoardM _ _ _ _ _ _ _
        rw [← rows2_zero L HV.out, HN.out]; exact HBM.out
      clear HBM HA
      have HK2 : Hid (Kp w wr Nul) := HKP.out
      clear HKP
      generalize wr = wx at HB2 HK2
      go_wp2_with fail
      go_loopw [33] (fun i wr => NbR2 L B (w.heap.size + 1) w.heap.size W (.slice a k cc) w i wr) (fun i _ => 256 - (intOf i).toNat)
      case atStart => exact ⟨0, rfl, by omega, HB2.out, HK2.out⟩
      case round =>
        obtain ⟨c, rfl, hc, hbm, hkp⟩ := hrel
        have HBM : Hid (BoardM wr B (w.heap.size + 1) w.heap.size W (.slice a k cc) (rows2 L c)) := hbm
        have HKP : Hid (Kp w wr Nul) := hkp
        clear hbm hkp HB2 HK2
        by_cases hlt : c < 256
        · have q1 : wr.cell? ⟨B, 1, none⟩ = some (.slice (some ⟨w.heap.size + 1, 0, none⟩) 257 257) := HBM.out.b.cell rfl
          have q2 : wr.cell? ⟨w.heap.size + 1, c, none⟩ = some (.slice (some ⟨w.heap.size, c * W, none⟩) W ((257 - c) * W)) := HBM.out.u.cell (by rw [upL_get (by omega), if_pos (by omega)])
          have hd : decide ((c : Int) < 256) = true := by simp; omega
          have HB3 : Hid (BoardM wr B (w.heap.size + 1) w.heap.size W (.slice a k cc) (rows3 L c 0)) := by show BoardM _ _ _ _ _ _ _; rw [← rows3_zero]; exact HBM.out
          have HK3 : Hid (Kp w wr Nul) := HKP.out
          go_wp2_with fail
          clear HBM HKP q1 q2
          generalize wr = wy at HB3 HK3
          go_loopw [44] (fun i wr => NbR3 L c B (w.heap.size + 1) w.heap.size W (.slice a k cc) w i wr) (fun i _ => W - (intOf i).toNat)
          case atStart => exact ⟨0, rfl, by omega, HB3.out, HK3.out⟩
          case round =>
            obtain ⟨i, rfl, hi, hbm, hkp⟩ := hrel
            have HBM : Hid (BoardM wr B (w.heap.size + 1) w.heap.size W (.slice a k cc) (rows3 L c i)) := hbm
            have HKP : Hid (Kp w wr Nul) := hkp
            clear hbm hkp HB3 HK3
            by_cases hlt2 : i < W
            · have q1 : wr.cell? ⟨B, 1, none⟩ = some (.slice (some ⟨w.heap.size + 1, 0, none⟩) 257 257) := HBM.out.b.cell rfl
              have q2 : wr.cell? ⟨w.heap.size + 1, c + 1, none⟩ = some (.slice (some ⟨w.heap.size, (c + 1) * W, none⟩) W ((257 - (c + 1)) * W)) := HBM.out.u.cell (by rw [upL_get (by omega), if_pos (by omega)])
              have q3 : wr.cell? ⟨w.heap.size, c * W + i, none⟩ = some (.int .u64 ((Wd.wd (rows3 L c i c) i : Nat) : Int)) := HBM.out.m.cell (memL_get (by omega) hlt2)
              have q4 : wr.cell? ⟨w.heap.size, (c + 1) * W + i, none⟩ = some (.int .u64 ((Wd.wd (rows3 L c i (c + 1)) i : Nat) : Int)) := HBM.out.m.cell (memL_get (by omega) hlt2)
              have q5 : wr.frozen? ⟨w.heap.size, (c + 1) * W + i, none⟩ = false := HBM.out.m.froz _
              have HOR : Hid (bits .or .u64 (Wd.wd (rows3 L c i (c + 1)) i : Nat) (Wd.wd (rows3 L c i c) i : Nat) = (Wd.wd (rows3 L c (i + 1) (c + 1)) i : Nat)) := rows3_or L c i
              have HN2 : Hid (BoardM (wr.setCell ⟨w.heap.size, (c + 1) * W + i, none⟩ (.int .u64 ((Wd.wd (rows3 L c (i + 1) (c + 1)) i : Nat) : Int))) B (w.heap.size + 1) w.heap.size W (.slice a k cc) (rows3 L c (i + 1))) := HBM.out.set (by omega) hlt2 (fun c' i' _ _ h => rows3_step L c i c' i' h)
              have HN3 : Hid (∀ v, Kp w (wr.setCell ⟨w.heap.size, (c + 1) * W + i, none⟩ v) Nul) := fun v => HKP.out.setCell _ _ (.inl (Nat.le_refl _))
              generalize Wd.wd (rows3 L c (i + 1) (c + 1)) i = z1 at *
              generalize Wd.wd (rows3 L c i (c + 1)) i = z2 at *
              generalize Wd.wd (rows3 L c i c) i = z3 at *
              generalize (c + 1) * W = e1 at *
              generalize c * W = e2 at *
              generalize (257 - (c + 1)) * W = e3 at *
              clear HBM HKP
              go_wp2_with fail
              rw [HOR.out]
              exact ⟨⟨i + 1, by go_num, by omega, HN2.out, HN3.out _⟩, by simp [intOf]; omega⟩
            · have : i = W := by omega
              subst this
              have HBE : Hid (BoardM wr B (w.heap.size + 1) w.heap.size i (.slice a k cc) (rows2 L (c + 1))) := by
                show BoardM _ _ _ _ _ _ _
                rw [← rows3_end L c i (by rw [HN.out]; exact hWn)]; exact HBM.out
              go_wp2_with fail
              exact ⟨⟨c + 1, by go_num, by omega, HBE.out, HKP.out⟩, by simp [intOf]; omega⟩
        · go_wp2_with fail
          go_ret
          exact ⟨B, w.heap.size + 1, w.heap.size, rfl, (by have : c = 256 := by omega
                                                           subst this; exact HBM.out.congr (fun c hc p _ => rows2_end L c hc p)), ⟨hB1, by omega, by omega⟩, HKP.out⟩
end Go.Proofs.YtdlieecpckpemaaGreatDoor
