/- A piece's last place. -/
import Derived.Test.YtkgolfmnlbmmeaaGreatDoorYd
import Derived.Test.YtkgolfmnlbmmeaaGreatDoorSg
namespace Go.Proofs.YtkgolfmnlbmmeaaGreatDoor
open Go.RowKit

/-- The marks M lie in block b from o on, n words. -/
def MarksAt (w : World) (b o n : Nat) (M : Nat → Bool) : Prop := ∀ i, i < n → w.cell? ⟨b, o + i, none⟩ = some (.int .u64 ((Wd.wd M i : Nat) : Int))
theorem MarksAt.gr {w w' : World} {b o n : Nat} {M : Nat → Bool} (h : MarksAt w b o n M) (g : Gr w w') : MarksAt w' b o n M := fun i hi => g.cell (cell_lt (h i hi)) (h i hi)
theorem MarksAt.of_blk {w : World} {b n m : Nat} {M : Nat → Bool} {t : TypeId} (h : Blk w b (wds M n) t) (hm : m ≤ n) : MarksAt w b 0 m M := fun i hi => by
  rw [Nat.zero_add]; exact h.cell (wds_get (by omega))
theorem bitLen_is (x : Nat) (h : x ≠ 0) (hx : x < 2 ^ 64) : Lib.bitLen x = x.log2 + 1 := by
  induction x using Nat.strongRecOn with
  | _ x ih =>
    rw [Lib.bitLen_half x h hx]
    by_cases h1 : x / 2 = 0
    · have : x = 1 := by omega
      subst this; decide
    · rw [ih (x / 2) (by omega) h1 (by omega), Nat.log2_def x, if_pos (by omega)]; omega
def LastIs (S : Nat → Bool) (r : Int) : Prop := (r = -1 ∧ ∀ q, S q = false) ∨ ∃ q : Nat, r = (q : Int) ∧ S q = true ∧ ∀ q', q < q' → S q' = false
def LastR (S : Nat → Bool) (W fr : Nat) (w : World) (i : Value) (wr : World) : Prop :=
  ∃ k : Int, i = .int .i64 k ∧ k < W ∧ (fr / 64 : Nat) - 1 ≤ k ∧ (∀ q, S q = true → (q : Int) < 64 * (k + 1)) ∧ Gr w wr

set_option maxHeartbeats 2000000 in
theorem last_at (fr to lb lo lc rb ro rc mb mo mc n : Nat) (L R M : Nat → Bool) (w : World) (hfr : fr ≤ to) (hto : to ≤ 64 * n) (hn : n ≤ 67108864)
    (hl : MarksAt w lb lo n L) (hr : MarksAt w rb ro n R) (hm : MarksAt w mb mo n M) :
    Calls Tryz.prog 115 #[.agg #[.int .i64 (fr : Int), .int .i64 (to : Int), .slice (some ⟨lb, lo, none⟩) n lc, .slice (some ⟨rb, ro, none⟩) n rc], .slice (some ⟨mb, mo, none⟩) n mc] w fun e w' =>
      ∃ r : Int, e = .returned (.int .i64 r) ∧ LastIs (fun q => pcSet fr to L R q && M q) r ∧ Gr w w' := by
  obtain ⟨S, hS⟩ : ∃ S, (fun q => pcSet fr to L R q && M q) = S := ⟨_, rfl⟩
  have HSS : Hid ((fun q => pcSet fr to L R q && M q) = S) := hS
  rw [hS]
  clear hS
  have HST : Hid (∀ q, S q = true → q < to ∧ fr ≤ q) := fun q hq => by
    rw [← HSS.out] at hq
    simp [pcSet] at hq
    omega
  have H4 := has4_new w (.int .i64 (fr : Int)) (.int .i64 (to : Int)) (.slice (some ⟨lb, lo, none⟩) n lc) (.slice (some ⟨rb, ro, none⟩) n rc) 127
  have HB : Hid (Has4 (w.alloc (.cells #[.int .i64 (fr : Int), .int .i64 (to : Int), .slice (some ⟨lb, lo, none⟩) n lc, .slice (some ⟨rb, ro, none⟩) n rc] 127)) w.heap.size (.int .i64 (fr : Int)) (.int .i64 (to : Int)) (.slice (some ⟨lb, lo, none⟩) n lc) (.slice (some ⟨rb, ro, none⟩) n rc)) := H4
  have HL : Hid (MarksAt w lb lo n L) := hl
  have HR : Hid (MarksAt w rb ro n R) := hr
  have HM : Hid (MarksAt w mb mo n M) := hm
  clear H4 hl hr hm
  go_enter Tryz.func115, Tryz.ntmps115
  go_wp2_with (go_at_call 95; refine (wordsOf_at _ (by omega) (by omega) _).mono ?_; rintro e w' ⟨rfl, rfl⟩)
  go_loopw [5] (fun i wr => LastR S n fr (w.alloc (.cells #[.int .i64 (fr : Int), .int .i64 (to : Int), .slice (some ⟨lb, lo, none⟩) n lc, .slice (some ⟨rb, ro, none⟩) n rc] 127)) i wr) (fun i _ => (intOf i + 1).toNat)
  case atStart => exact ⟨_, rfl, by omega, by omega, fun q hq => by have := HST.out q hq; omega, Gr.refl _⟩
  case round =>
    obtain ⟨k, rfl, hkn, hkf, hkq, hg⟩ := hrel
    have HG : Hid (Gr (w.alloc (.cells #[.int .i64 (fr : Int), .int .i64 (to : Int), .slice (some ⟨lb, lo, none⟩) n lc, .slice (some ⟨rb, ro, none⟩) n rc] 127)) wr) := hg
    have HGw : Hid (Gr w wr) := ((Gr.refl w).alloc _ _).trans hg
    have HQ : Hid (∀ q, S q = true → (q : Int) < 64 * (k + 1)) := hkq
    have HW := HB.out.gr hg
    have b0 := HW.c0
    clear hg hkq
    by_cases hge : (fr / 64 : Nat) ≤ k
    · obtain ⟨i, rfl⟩ := Int.eq_ofNat_of_zero_le (a := k) (by omega)
      have hin : i < n := by omega
      have HX : Hid ((Wd.wd S i : Nat) = (Wd.wd (fun q => pcSet fr to L R q && M q) i : Nat)) := by rw [HSS.out]; exact rfl
      have HWd : Hid (∀ wq, Gr wr wq → Calls Tryz.prog 111 #[.agg #[.int .i64 (fr : Int), .int .i64 (to : Int), .slice (some ⟨lb, lo, none⟩) n lc, .slice (some ⟨rb, ro, none⟩) n rc], .int .i64 (i : Int)] wq fun e w' => e = .returned (.int .u64 (Wd.wd (pcSet fr to L R) i : Nat)) ∧ Gr wr w') := fun wq hq => by
        refine (word_at fr to lb lo lc rb ro rc i n (Wd.wd L i : Nat) (Wd.wd R i : Nat) wq hin (by omega) (by omega) hn (((HL.out.gr HGw.out).gr hq) i hin) (((HR.out.gr HGw.out).gr hq) i hin)).mono ?_
        rintro e w' ⟨rfl, d, rfl⟩
        rw [pc_word]
        exact ⟨rfl, (hq.alloc _ _).drewN d⟩
      have KM : Hid (∀ w', Gr wr w' → (w'.cell? ⟨w.heap.size, 0, none⟩ = some (.int .i64 (fr : Int)) ∧ w'.cell? ⟨w.heap.size, 1, none⟩ = some (.int .i64 (to : Int)) ∧ w'.cell? ⟨w.heap.size, 2, none⟩ = some (.slice (some ⟨lb, lo, none⟩) n lc) ∧ w'.cell? ⟨w.heap.size, 3, none⟩ = some (.slice (some ⟨rb, ro, none⟩) n rc) ∧ w'.cell? ⟨mb, mo + i, none⟩ = some (.int .u64 ((Wd.wd M i : Nat) : Int)))) := fun w' g => by
        have h4 := HW.gr g
        exact ⟨h4.c0, h4.c1, h4.c2, h4.c3, ((HM.out.gr HGw.out).gr g) i hin⟩
      have HA : Hid (bits .and .u64 (Wd.wd (pcSet fr to L R) i : Nat) (Wd.wd M i : Nat) = (Wd.wd S i : Nat)) := by
        show _ = _
        rw [HX.out, u64_and_nat _ _ (Wd.wd_lt _ _) (Wd.wd_lt _ _), Wd.wd_and]
      have hi1 : (i : Int) < (n : Int) := by omega
      clear HW HX
      go_wp2_with fail
      go_region_held3 (fun w' => w'.cell? ⟨w.heap.size, 0, none⟩ = some (.int .i64 (fr : Int)) ∧ w'.cell? ⟨w.heap.size, 1, none⟩ = some (.int .i64 (to : Int)) ∧ w'.cell? ⟨w.heap.size, 2, none⟩ = some (.slice (some ⟨lb, lo, none⟩) n lc) ∧ w'.cell? ⟨w.heap.size, 3, none⟩ = some (.slice (some ⟨rb, ro, none⟩) n rc) ∧ w'.cell? ⟨mb, mo + i, none⟩ = some (.int .u64 ((Wd.wd M i : Nat) : Int)))
        (first | (refine KM.out _ ?_; assumption) | (exact KM.out _ ((Gr.refl _).drew)) | (exact KM.out _ (Gr.refl _)))
        ((go_at_call 111; refine (HWd.out _ (by repeat (first | exact Gr.refl _ | refine Gr.drew ?_))).mono ?_; rintro e w' ⟨rfl, hg2⟩))
      simp only [HA.out]
      by_cases h0 : Wd.wd S i = 0
      · have HS0 : Hid (∀ j, j < 64 → S (64 * i + j) = false) := fun j hj => Wd.wd_eq_zero h0 j hj
        simp only [h0]
        go_wp2
        go_roundw
        case rel =>
          refine ⟨_, rfl, by omega, by omega, fun q hq => ?_, HG.out.trans hg2⟩
          have h1 := HQ.out q hq
          rcases Int.lt_or_le (q : Int) (64 * (i : Int)) with h2 | h2
          · omega
          · have := HS0.out (q - 64 * i) (by omega)
            rw [show 64 * i + (q - 64 * i) = q by omega, hq] at this; cases this
        case measure => simp [intOf] <;> omega
      · have hne : (((Wd.wd S i : Nat) : Int) != 0) = true := by simp; omega
        have hlt := Wd.wd_lt S i
        have HL := Wd.wd_log h0
        have HLen : Hid (∀ w, Calls Tryz.prog 117 #[.int .u64 ((Wd.wd S i : Nat) : Int)] w fun e w' => e = .returned (.int .i64 (((Wd.wd S i).log2 : Int) + 1)) ∧ w' = w) := fun w => by
          have := Tryz.bits_Len64 ((Wd.wd S i : Nat) : Int) w (by omega) (by omega)
          rw [Int.toNat_natCast, bitLen_is _ h0 (by omega)] at this
          exact this
        obtain ⟨l1, l2, l3⟩ := HL
        have HL2 : Hid (S (64 * i + (Wd.wd S i).log2) = true) := l2
        have HL3 : Hid (∀ j, (Wd.wd S i).log2 < j → j < 64 → S (64 * i + j) = false) := l3
        clear l2 l3 HA
        generalize (Wd.wd S i).log2 = l at *
        generalize Wd.wd S i = x at *
        go_wp2_with (go_at_call 117; refine (HLen.out _).mono ?_; rintro e wz ⟨rfl, rfl⟩)
        go_ret
        refine ⟨_, rfl, .inr ⟨64 * i + l, by omega, HL2.out, fun q hq => ?_⟩, HGw.out.trans hg2⟩
        cases hs : S q
        · rfl
        · have h1 := HQ.out q hs
          have := HL3.out (q - 64 * i) (by omega) (by omega)
          rw [show 64 * i + (q - 64 * i) = q by omega, hs] at this; cases this
    · go_wp2
      go_ret
      refine ⟨_, rfl, .inl ⟨rfl, fun q => ?_⟩, HGw.out⟩
      cases hs : S q
      · rfl
      · have h1 := HQ.out q hs
        have h2 := HST.out q hs
        omega
end Go.Proofs.YtkgolfmnlbmmeaaGreatDoor
