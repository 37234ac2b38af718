/- Counts by lowest bits (Fenwick). No program here. -/

namespace Go.Proofs.YtdlieecpckpemaaGreatDoor.Fw
/-- The lowest bit of a number. -/
def lb (i : Nat) : Nat := if h : i = 0 then 0 else if i % 2 = 1 then 1 else 2 * lb (i / 2)
termination_by i
decreasing_by omega

theorem lb_zero : lb 0 = 0 := by rw [lb]; simp
theorem lb_odd {i : Nat} (h : i % 2 = 1) : lb i = 1 := by rw [lb, dif_neg (by omega), if_pos h]
theorem lb_even {i : Nat} (h0 : 0 < i) : lb (2 * i) = 2 * lb i := by
  rw [lb, dif_neg (by omega), if_neg (by omega)]
  congr 2; omega
theorem lb_form (i : Nat) (h : 0 < i) : ∃ j k, i = (2 * k + 1) * 2 ^ j ∧ lb i = 2 ^ j := by
  induction i using Nat.strongRecOn with
  | _ i ih =>
    by_cases ho : i % 2 = 1
    · exact ⟨0, i / 2, by simp; omega, by rw [lb_odd ho]⟩
    · obtain ⟨j, k, h1, h2⟩ := ih (i / 2) (by omega) (by omega)
      refine ⟨j + 1, k, ?_, ?_⟩
      · have : i = 2 * (i / 2) := by omega
        rw [this, h1, Nat.pow_succ, Nat.mul_comm 2, Nat.mul_assoc]
      · have e : i = 2 * (i / 2) := by omega
        rw [e, lb_even (by omega), h2, Nat.pow_succ, Nat.mul_comm]
theorem lb_of (j k : Nat) : lb ((2 * k + 1) * 2 ^ j) = 2 ^ j := by
  induction j with
  | zero => rw [Nat.pow_zero, Nat.mul_one]; exact lb_odd (by omega)
  | succ j ih =>
    rw [Nat.pow_succ, ← Nat.mul_assoc, Nat.mul_comm _ 2, lb_even (Nat.mul_pos (by omega) (Nat.two_pow_pos j)), ih, Nat.mul_comm]
theorem lb_pos {i : Nat} (h : 0 < i) : 0 < lb i := by
  obtain ⟨j, k, _, h2⟩ := lb_form i h
  rw [h2]; exact Nat.two_pow_pos j
theorem lb_le (i : Nat) : lb i ≤ i := by
  rcases Nat.eq_zero_or_pos i with h | h
  · subst h; rw [lb_zero]; exact Nat.le_refl 0
  · obtain ⟨j, k, h1, h2⟩ := lb_form i h
    rw [h2, h1]
    exact Nat.le_mul_of_pos_left _ (by omega)
/-- Behind i and ahead of i + lb i: none reaches down beyond i. -/
theorem lb_between {i t : Nat} (hi : 0 < i) (h0 : 0 < t) (h1 : t < lb i) : lb (i + t) = lb t := by
  obtain ⟨j, k, e1, e2⟩ := lb_form i hi
  obtain ⟨a, b, f1, f2⟩ := lb_form t h0
  rw [e2] at h1
  have haj : a < j := by
    rcases Nat.lt_or_ge a j with h | h
    · exact h
    · exfalso
      have : 2 ^ j ≤ 2 ^ a := Nat.pow_le_pow_right (by omega) h
      have : 2 ^ a ≤ t := by rw [f1]; exact Nat.le_mul_of_pos_left _ (by omega)
      omega
  have e : 2 ^ j = 2 ^ (j - a - 1) * 2 * 2 ^ a := by
    rw [Nat.mul_assoc, ← Nat.pow_succ', ← Nat.pow_add]; congr 1; omega
  have : i + t = (2 * ((2 * k + 1) * 2 ^ (j - a - 1) + b) + 1) * 2 ^ a := by
    rw [e1, f1, e, Nat.add_mul, Nat.add_mul, Nat.mul_add, Nat.add_mul, Nat.add_mul]
    generalize 2 ^ (j - a - 1) = X
    generalize 2 ^ a = Y
    have h1 : 2 * k * (X * 2 * Y) = 2 * (2 * k * X) * Y := by
      rw [Nat.mul_comm X 2, ← Nat.mul_assoc, ← Nat.mul_assoc, Nat.mul_comm (2 * k) 2, Nat.mul_assoc 2 (2*k) X]
    have h2 : 1 * (X * 2 * Y) = 2 * (1 * X) * Y := by rw [Nat.one_mul, Nat.one_mul, Nat.mul_comm X 2]
    rw [h1, h2, ← Nat.add_assoc, Nat.add_mul (2 * k) 1 X, Nat.mul_add 2 (2 * k * X) (1 * X), Nat.add_mul]
  rw [this, lb_of, f2]
theorem lb_step {i : Nat} (hi : 0 < i) : 2 * lb i ≤ lb (i + lb i) := by
  obtain ⟨j, k, e1, e2⟩ := lb_form i hi
  rw [e2]
  have : i + 2 ^ j = (k + 1) * 2 ^ (j + 1) := by
    rw [e1, Nat.pow_succ, Nat.mul_comm (2 ^ j) 2, ← Nat.mul_assoc, ← Nat.succ_mul]
    congr 1; omega
  rw [this]
  obtain ⟨a, b, f1, _⟩ := lb_form (k + 1) (by omega)
  rw [f1, Nat.mul_assoc, ← Nat.pow_add, lb_of, ← Nat.pow_succ']
  exact Nat.pow_le_pow_right (by omega) (by omega)
/-- How many of Q stand from a on and ahead of b. -/
def cnt (Q : Nat → Bool) (a b : Nat) : Nat := ((List.range' a (b - a)).filter Q).length
theorem cnt_self (Q : Nat → Bool) (a : Nat) : cnt Q a a = 0 := by simp [cnt]
theorem cnt_succ (Q : Nat → Bool) {a b : Nat} (h : a ≤ b) : cnt Q a (b + 1) = cnt Q a b + (if Q b then 1 else 0) := by
  unfold cnt
  rw [show b + 1 - a = (b - a) + 1 by omega, List.range'_concat, List.filter_append, List.length_append]
  congr 1
  rw [Nat.one_mul, show a + (b - a) = b by omega]
  cases h : Q b <;> simp [h]
theorem cnt_add (Q : Nat → Bool) {a b c : Nat} (h : a ≤ b) (h2 : b ≤ c) : cnt Q a b + cnt Q b c = cnt Q a c := by
  induction c with
  | zero => have : b = 0 := by omega
            have : a = 0 := by omega
            subst_vars; simp [cnt_self]
  | succ c ih =>
    rcases Nat.lt_or_ge b (c + 1) with h3 | h3
    · rw [cnt_succ Q (by omega : b ≤ c), cnt_succ Q (by omega : a ≤ c), ← Nat.add_assoc, ih (by omega)]
    · have : b = c + 1 := by omega
      subst this; rw [cnt_self]; rfl
theorem cnt_mono (Q : Nat → Bool) {a b c : Nat} (h : a ≤ b) (h2 : b ≤ c) : cnt Q a b ≤ cnt Q a c := by
  have := cnt_add Q h h2; omega
/-- Put or taken. -/
def upd (Q : Nat → Bool) (p : Nat) (v : Bool) : Nat → Bool := fun q => if q = p then v else Q q
theorem cnt_upd (Q : Nat → Bool) (p : Nat) (v : Bool) (hv : Q p = !v) (a b : Nat) (h : a ≤ b) :
    (cnt (upd Q p v) a b : Int) = cnt Q a b + (if a ≤ p ∧ p < b then (if v then 1 else -1) else 0) := by
  induction b with
  | zero => have : a = 0 := by omega
            subst this; simp [cnt_self]
  | succ b ih =>
    rcases Nat.lt_or_ge a (b + 1) with h3 | h3
    · rw [cnt_succ _ (by omega : a ≤ b), cnt_succ _ (by omega : a ≤ b)]
      have := ih (by omega)
      by_cases hb : b = p
      · subst hb
        have n1 : ¬ (a ≤ b ∧ b < b) := by omega
        have n2 : a ≤ b ∧ b < b + 1 := by omega
        rw [if_neg n1] at this
        rw [if_pos n2]
        have e : upd Q b v b = v := by simp [upd]
        rw [e, hv]
        cases v <;> simp <;> omega
      · have e : upd Q p v b = Q b := by simp [upd, hb]
        rw [e]
        by_cases h4 : a ≤ p ∧ p < b
        · have n2 : a ≤ p ∧ p < b + 1 := by omega
          rw [if_pos h4] at this; rw [if_pos n2]; push_cast; omega
        · have n2 : ¬ (a ≤ p ∧ p < b + 1) := by omega
          rw [if_neg h4] at this; rw [if_neg n2]; push_cast; omega
    · have : a = b + 1 := by omega
      subst this
      have n2 : ¬ (b + 1 ≤ p ∧ p < b + 1) := by omega
      rw [cnt_self, cnt_self, if_neg n2]; rfl
/-- Which counts have a place. -/
def cov (p j : Nat) : Prop := j - lb j ≤ p ∧ p < j
theorem cov_first (p : Nat) : cov p (p + 1) := by
  have := lb_pos (i := p + 1) (by omega)
  unfold cov; omega
theorem cov_next {p i : Nat} (h : cov p i) : cov p (i + lb i) := by
  unfold cov at *
  have h1 := lb_step (i := i) (by omega)
  have h2 := lb_le (i + lb i)
  have h3 := lb_le i
  omega
theorem cov_gap {p i j : Nat} (h : cov p i) (h1 : i < j) (h2 : j < i + lb i) : ¬ cov p j := by
  unfold cov at *
  have e := lb_between (i := i) (t := j - i) (by omega) (by omega) (by omega)
  rw [show i + (j - i) = j by omega] at e
  have := lb_le (j - i)
  omega
/-- Halves: a place that is a multiple of twice the step. -/
theorem lb_mid (j k : Nat) : lb (k * 2 ^ (j + 1) + 2 ^ j) = 2 ^ j := by
  have : k * 2 ^ (j + 1) + 2 ^ j = (2 * k + 1) * 2 ^ j := by
    rw [Nat.pow_succ, Nat.add_mul, Nat.one_mul, Nat.mul_comm (2 ^ j) 2, ← Nat.mul_assoc, Nat.mul_comm k 2]
  rw [this, lb_of]
end Go.Proofs.YtdlieecpckpemaaGreatDoor.Fw
