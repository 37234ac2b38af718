/- Words of 64 marks. No program here. -/

namespace Go.Proofs.YtdlieecpckpemaaGreatDoor.Wd
/-- The first n bits of word i. -/
def wdN (M : Nat → Bool) (i : Nat) : Nat → Nat
  | 0 => 0
  | n + 1 => wdN M i n + (if M (64 * i + n) then 2 ^ n else 0)
theorem wdN_lt (M : Nat → Bool) (i n : Nat) : wdN M i n < 2 ^ n := by
  induction n with
  | zero => simp [wdN]
  | succ n ih => rw [wdN, Nat.pow_succ]; split <;> omega
theorem testBit_wdN (M : Nat → Bool) (i n j : Nat) : (wdN M i n).testBit j = (decide (j < n) && M (64 * i + j)) := by
  induction n with
  | zero => simp [wdN]
  | succ n ih =>
    rw [wdN]
    have hlt := wdN_lt M i n
    by_cases h : M (64 * i + n) = true
    · rw [if_pos h, Nat.add_comm]
      rcases Nat.lt_trichotomy j n with h1 | h1 | h1
      · rw [Nat.testBit_two_pow_add_gt h1, ih]
        simp [h1, Nat.lt_succ_of_lt h1]
      · subst h1
        rw [Nat.testBit_two_pow_add_eq, Nat.testBit_lt_two_pow hlt]
        simp [h]
      · rw [Nat.testBit_lt_two_pow]
        · simp; intro h2; omega
        · have : 2 ^ (n + 1) ≤ 2 ^ j := Nat.pow_le_pow_right (by omega) (by omega)
          rw [Nat.pow_succ] at this
          omega
    · rw [if_neg h, Nat.add_zero, ih]
      by_cases h1 : j = n
      · subst h1; simp [h]
      · have : decide (j < n) = decide (j < n + 1) := by rw [decide_eq_decide]; omega
        rw [this]
/-- Word i of the marks M. -/
def wd (M : Nat → Bool) (i : Nat) : Nat := wdN M i 64
theorem wd_lt (M : Nat → Bool) (i : Nat) : wd M i < 18446744073709551616 := wdN_lt M i 64
theorem testBit_wd (M : Nat → Bool) (i j : Nat) : (wd M i).testBit j = (decide (j < 64) && M (64 * i + j)) := testBit_wdN M i 64 j
theorem wd_eq {M : Nat → Bool} {i x : Nat} (hx : x < 18446744073709551616) (h : ∀ j, j < 64 → x.testBit j = M (64 * i + j)) : x = wd M i := by
  apply Nat.eq_of_testBit_eq
  intro j
  rw [testBit_wd]
  by_cases hj : j < 64
  · rw [h j hj]; simp [hj]
  · rw [Nat.testBit_lt_two_pow]
    · simp [hj]
    · have : 2 ^ 64 ≤ 2 ^ j := Nat.pow_le_pow_right (by omega) (by omega)
      omega
theorem wd_congr {M N : Nat → Bool} {i : Nat} (h : ∀ j, j < 64 → M (64 * i + j) = N (64 * i + j)) : wd M i = wd N i :=
  wd_eq (wd_lt M i) fun j hj => by rw [testBit_wd, ← h j hj]; simp [hj]
theorem wd_zero (i : Nat) : wd (fun _ => false) i = 0 := (wd_eq (by omega) (fun j _ => by simp)).symm
theorem wd_or (M N : Nat → Bool) (i : Nat) : wd M i ||| wd N i = wd (fun p => M p || N p) i := by
  apply wd_eq
  · exact Nat.or_lt_two_pow (n := 64) (wd_lt M i) (wd_lt N i)
  · intro j hj; rw [Nat.testBit_or, testBit_wd, testBit_wd]; simp [hj]
theorem wd_and (M N : Nat → Bool) (i : Nat) : wd M i &&& wd N i = wd (fun p => M p && N p) i := by
  apply wd_eq
  · exact Nat.and_lt_two_pow (n := 64) _ (wd_lt N i)
  · intro j hj; rw [Nat.testBit_and, testBit_wd, testBit_wd]; simp [hj]
theorem not_wd (M : Nat → Bool) (i : Nat) : 18446744073709551615 - wd M i = wd (fun p => !M p) i := by
  apply wd_eq
  · have := wd_lt M i; omega
  · intro j hj
    have h := Nat.testBit_two_pow_sub_succ (n := 64) (wd_lt M i) j
    rw [show (2 ^ 64 - (wd M i + 1)) = 18446744073709551615 - wd M i by omega] at h
    rw [h, testBit_wd]; simp [hj]
theorem wd_andNot (M N : Nat → Bool) (i : Nat) : wd M i &&& (18446744073709551615 - wd N i) = wd (fun p => M p && !N p) i := by
  rw [not_wd, wd_and]
/-- One mark. -/
theorem wd_one (p : Nat) : 2 ^ (p % 64) = wd (fun q => decide (q = p)) (p / 64) := by
  apply wd_eq
  · have : 2 ^ (p % 64) ≤ 2 ^ 63 := Nat.pow_le_pow_right (by omega) (by omega)
    omega
  · intro j hj
    rw [Nat.testBit_two_pow, decide_eq_decide]; omega
theorem wd_has (M : Nat → Bool) (p : Nat) : wd M (p / 64) / 2 ^ (p % 64) % 2 = if M p then 1 else 0 := by
  have h := testBit_wd M (p / 64) (p % 64)
  rw [show 64 * (p / 64) + p % 64 = p by omega] at h
  rw [Nat.testBit_eq_decide_div_mod_eq] at h
  have h64 : p % 64 < 64 := by omega
  simp only [h64, decide_true, Bool.true_and] at h
  cases hM : M p
  · rw [hM] at h; simp at h ⊢; omega
  · rw [hM] at h; simpa using h
/-- The marks below a place; 0 for a place below all, all for one beyond. -/
theorem wd_below (k i : Nat) (h : k ≤ 64) : 2 ^ k - 1 = wd (fun p => decide (p < 64 * i + k)) i := by
  apply wd_eq
  · have : 2 ^ k ≤ 2 ^ 64 := Nat.pow_le_pow_right (by omega) h
    omega
  · intro j hj
    rw [Nat.testBit_two_pow_sub_one, decide_eq_decide]; omega
theorem wd_all (i : Nat) : 18446744073709551615 = wd (fun _ => true) i := by
  apply wd_eq
  · omega
  · intro j hj
    have h := Nat.testBit_two_pow_sub_one (n := 64) (i := j)
    rw [show (2:Nat) ^ 64 - 1 = 18446744073709551615 by rfl] at h
    rw [h]; simp [hj]
theorem wd_eq_zero {M : Nat → Bool} {i : Nat} (h : wd M i = 0) (j : Nat) (hj : j < 64) : M (64 * i + j) = false := by
  have := testBit_wd M i j
  rw [h] at this
  simp [hj] at this
  exact this
/-- The last mark of a word. -/
theorem wd_log {M : Nat → Bool} {i : Nat} (h : wd M i ≠ 0) : (wd M i).log2 < 64 ∧ M (64 * i + (wd M i).log2) = true ∧ ∀ j, (wd M i).log2 < j → j < 64 → M (64 * i + j) = false := by
  have h1 : (wd M i).log2 < 64 := (Nat.log2_lt h).2 (wd_lt M i)
  refine ⟨h1, ?_, fun j hj hj2 => ?_⟩
  · have := testBit_wd M i (wd M i).log2
    rw [Nat.testBit_log2 h] at this
    simpa [h1] using this.symm
  · have := testBit_wd M i j
    rw [Nat.testBit_lt_two_pow ((Nat.log2_lt h).1 hj)] at this
    simp [hj2] at this
    exact this
end Go.Proofs.YtdlieecpckpemaaGreatDoor.Wd
