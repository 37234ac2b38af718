/- The program's behind, at any sign. -/
import Derived.Test.YthehdloofamadaaDoorHc
namespace Go.Proofs.YthehdloofamadaaDoor
open Go.RowKit

theorem letN_bd (c : Int) : 0 ≤ letN c ∧ letN c ≤ 26 := by
  unfold letN; split
  · omega
  · split <;> omega
theorem pbehind_any (s : Rs) (ch : Int) (w : World) (hc0 : 0 ≤ s.c) (hc1 : s.c ≤ 257) (hr0 : 0 ≤ s.r) (hr1 : s.r ≤ 4097) :
    Calls Tryd.prog 56 #[.agg #[.int .i64 s.c, .int .i64 s.r, .bool s.cf, .bool s.rf], .int .i32 ch] w fun e w' => e = .returned (.tuple #[rsV (bhS s ch), .bool (bhO s ch)]) ∧ Gr w w' := by
  obtain ⟨c, r, cf, rf⟩ := s
  simp only at *
  have H1 := pletter_any ch
  obtain ⟨n0, n1⟩ := letN_bd ch
  have hz : (⟨c, r, cf, rf⟩ : Rs) = rs0 ↔ c = 0 ∧ r = 0 ∧ cf = false ∧ rf = false := by unfold rs0; simp
  unfold bhS bhO rsV bh
  simp only [hz]
  by_cases hA : ch = 36 ∧ c = 0 ∧ r = 0 ∧ cf = false ∧ rf = false
  · rw [if_pos hA]
    obtain ⟨rfl, rfl, rfl, rfl, rfl⟩ := hA
    exact pb_A w H1
  · rw [if_neg hA]
    by_cases hB : ch = 36 ∧ (r = 0 ∧ rf = false) ∧ 0 < c
    · rw [if_pos hB]
      obtain ⟨rfl, ⟨rfl, rfl⟩, h⟩ := hB
      exact pb_B c cf h w H1
    · rw [if_neg hB]
      by_cases hC : 0 < letN ch ∧ (r = 0 ∧ rf = false)
      · rw [if_pos hC]
        obtain ⟨h1, rfl, rfl⟩ := hC
        have hne : (ch == 36) = false := by
          rw [beq_eq_false_iff_ne]
          rintro rfl
          exact absurd h1 (by decide)
        exact pb_C c ch (letN ch) _ cf hc0 hc1 h1 n1 hne (by simp only [Option.getD_some]; split <;> omega) w H1
      · rw [if_neg hC]
        by_cases hD : 48 ≤ ch ∧ ch ≤ 57 ∧ 0 < c ∧ (48 < ch ∨ 0 < r)
        · rw [if_pos hD]
          obtain ⟨h1, h2, h3, h4⟩ := hD
          have hl : letN ch = 0 := by unfold letN; rw [if_neg (by omega), if_neg (by omega)]
          rw [hl] at H1
          by_cases hr : r = 0
          · subst hr
            exact pb_D0 c ch _ cf rf h3 (by omega) h2 (by simp only [Option.getD_some]; omega) w H1
          · exact pb_D1 c r ch _ cf rf h3 (by omega) hr1 h1 h2 (by simp only [Option.getD_some]; split <;> omega) w H1
        · rw [if_neg hD]
          exact pb_E c r ch (letN ch) cf rf ⟨hA, hB, hC, hD⟩ w H1
/-- One sign more keeps the numbers within their bounds. -/
theorem bh_bd (s s' : Rs) (ch : Int) (h : bh s ch = some s') (hc0 : 0 ≤ s.c) (hc1 : s.c ≤ 257) (hr0 : 0 ≤ s.r) (hr1 : s.r ≤ 4097) : 0 ≤ s'.c ∧ s'.c ≤ 257 ∧ 0 ≤ s'.r ∧ s'.r ≤ 4097 := by
  have := letN_bd ch
  unfold bh at h
  split at h
  · have := Option.some.inj h; subst this; exact ⟨hc0, hc1, hr0, hr1⟩
  · split at h
    · have := Option.some.inj h; subst this; exact ⟨hc0, hc1, hr0, hr1⟩
    · split at h
      · have := Option.some.inj h; subst this; simp only; omega
      · split at h
        · have := Option.some.inj h; subst this; simp only; omega
        · exact absurd h (by simp)
/-- What is taken is of one byte. -/
theorem bh_low (s s' : Rs) (ch : Int) (h : bh s ch = some s') : ch < 128 := by
  have hl : 0 < letN ch → ch < 128 := by
    unfold letN; split
    · omega
    · split <;> omega
  unfold bh at h
  split at h
  · omega
  · split at h
    · omega
    · split at h
      · rename_i hc; exact hl hc.1
      · split at h
        · omega
        · exact absurd h (by simp)
end Go.Proofs.YthehdloofamadaaDoor
