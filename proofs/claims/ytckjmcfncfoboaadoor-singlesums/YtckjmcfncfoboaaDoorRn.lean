/- Rounding a whole number without its last digits, by any of the six modes: no program here. -/
import Derived.Test.YtckjmcfncfoboaaDoorFl
namespace Go.Proofs.YtckjmcfncfoboaaDoor
namespace Rn

/-- Is what is left, r of g, rounded onward? -/
def upw (mode : Int) (neg odd : Bool) (r g : Nat) : Bool :=
  if mode = 1 then decide (g < 2 * r) || (decide (g = 2 * r) && odd)
  else if mode = 2 then decide (g ≤ 2 * r)
  else if mode = 3 then decide (r ≠ 0) && !neg
  else if mode = 4 then decide (r ≠ 0) && neg
  else if mode = 6 then decide (r ≠ 0) && !odd
  else false

def rnd (mode : Int) (neg : Bool) (m n : Nat) : Nat := m / 2 ^ n + (upw mode neg (m / 2 ^ n % 2 == 1) (m % 2 ^ n) (2 ^ n)).toNat

theorem upw_zero (mode : Int) (neg odd : Bool) (g : Nat) (hg : 0 < g) : upw mode neg odd 0 g = false := by
  unfold upw
  split
  · have h1 : ¬ g < 2 * 0 := by omega
    have h2 : ¬ g = 2 * 0 := by omega
    rw [decide_eq_false h1, decide_eq_false h2]; rfl
  · split
    · exact decide_eq_false (by omega)
    · split
      · rfl
      · split
        · rfl
        · split <;> rfl

theorem upw_mul (mode : Int) (neg odd : Bool) (r g c : Nat) (hc : 0 < c) : upw mode neg odd (r * c) (g * c) = upw mode neg odd r g := by
  unfold upw
  have e1 : (g * c < 2 * (r * c)) ↔ (g < 2 * r) := by
    rw [← Nat.mul_assoc]
    exact ⟨fun h => Nat.lt_of_mul_lt_mul_right h, fun h => Nat.mul_lt_mul_of_pos_right h hc⟩
  have e2 : (g * c = 2 * (r * c)) ↔ (g = 2 * r) := by
    rw [← Nat.mul_assoc]
    exact ⟨fun h => Nat.eq_of_mul_eq_mul_right hc h, fun h => by rw [h]⟩
  have e3 : (g * c ≤ 2 * (r * c)) ↔ (g ≤ 2 * r) := by
    rw [← Nat.mul_assoc]
    exact ⟨fun h => Nat.le_of_mul_le_mul_right h hc, fun h => Nat.mul_le_mul_right c h⟩
  have e4 : (r * c ≠ 0) ↔ (r ≠ 0) := by
    rw [Ne, Nat.mul_eq_zero]; omega
  rw [decide_eq_decide.2 e1, decide_eq_decide.2 e2, decide_eq_decide.2 e3, decide_eq_decide.2 e4]

theorem rnd_zero (mode : Int) (neg : Bool) (m : Nat) : rnd mode neg m 0 = m := by
  unfold rnd
  rw [Nat.pow_zero, Nat.mod_one, upw_zero _ _ _ _ (by decide), Nat.div_one]; rfl

theorem rnd_shift (mode : Int) (neg : Bool) (m n j : Nat) : rnd mode neg (m * 2 ^ j) (n + j) = rnd mode neg m n := by
  have hp : 0 < 2 ^ j := Nat.two_pow_pos j
  unfold rnd
  rw [Nat.pow_add, Nat.mul_div_mul_right _ _ hp, Nat.mul_mod_mul_right, upw_mul _ _ _ _ _ _ hp]

/-- What is whole already stays. -/
theorem rnd_mul (mode : Int) (neg : Bool) (m j : Nat) : rnd mode neg (m * 2 ^ j) j = m := by
  have := rnd_shift mode neg m 0 j
  rwa [Nat.zero_add, rnd_zero] at this

theorem rnd_nought (mode : Int) (neg : Bool) (n : Nat) : rnd mode neg 0 n = 0 := by
  have := rnd_mul mode neg 0 n
  rwa [Nat.zero_mul] at this

theorem rnd_bd (mode : Int) (neg : Bool) (m n : Nat) : m / 2 ^ n ≤ rnd mode neg m n ∧ rnd mode neg m n ≤ m / 2 ^ n + 1 := by
  unfold rnd
  have := Bool.toNat_le (upw mode neg (m / 2 ^ n % 2 == 1) (m % 2 ^ n) (2 ^ n))
  omega

theorem rnd_exact (mode : Int) (neg : Bool) (m n : Nat) (h : m % 2 ^ n = 0) : rnd mode neg m n = m / 2 ^ n := by
  unfold rnd
  rw [h, upw_zero _ _ _ _ (Nat.two_pow_pos n)]; rfl

theorem upw_rise (mode : Int) (neg odd : Bool) (r r' g : Nat) (h : r ≤ r') : (upw mode neg odd r g).toNat ≤ (upw mode neg odd r' g).toNat := by
  cases hu : upw mode neg odd r g
  · simp
  · suffices hs : upw mode neg odd r' g = true by rw [hs]; exact Nat.le_refl _
    unfold upw at *
    split at hu
    · rw [if_pos ‹_›]
      simp only [Bool.or_eq_true, Bool.and_eq_true, decide_eq_true_eq] at hu ⊢
      rcases hu with hu | ⟨hu, ho⟩
      · left; omega
      · by_cases e : g = 2 * r'
        · exact Or.inr ⟨e, ho⟩
        · left; omega
    · rw [if_neg ‹_›]
      split at hu
      · rw [if_pos ‹_›]
        simp only [decide_eq_true_eq] at hu ⊢; omega
      · rw [if_neg ‹_›]
        split at hu
        · rw [if_pos ‹_›]
          simp only [Bool.and_eq_true, decide_eq_true_eq] at hu ⊢; exact ⟨by omega, hu.2⟩
        · rw [if_neg ‹_›]
          split at hu
          · rw [if_pos ‹_›]
            simp only [Bool.and_eq_true, decide_eq_true_eq] at hu ⊢; exact ⟨by omega, hu.2⟩
          · rw [if_neg ‹_›]
            split at hu
            · rw [if_pos ‹_›]
              simp only [Bool.and_eq_true, decide_eq_true_eq] at hu ⊢; exact ⟨by omega, hu.2⟩
            · cases hu

/-- The greater one is never rounded to the lesser one. -/
theorem rnd_rise (mode : Int) (neg : Bool) {m m' : Nat} (n : Nat) (h : m ≤ m') : rnd mode neg m n ≤ rnd mode neg m' n := by
  have hq : m / 2 ^ n ≤ m' / 2 ^ n := Nat.div_le_div_right h
  by_cases e : m / 2 ^ n = m' / 2 ^ n
  · unfold rnd
    rw [e]
    have d1 := Nat.div_add_mod m (2 ^ n)
    have d2 := Nat.div_add_mod m' (2 ^ n)
    rw [e] at d1
    have := upw_rise mode neg (m' / 2 ^ n % 2 == 1) (m % 2 ^ n) (m' % 2 ^ n) (2 ^ n) (by omega)
    omega
  · have b1 := rnd_bd mode neg m n
    have b2 := rnd_bd mode neg m' n
    omega

/-- A number of the kind bounds what is rounded, from both sides. -/
theorem rnd_le (mode : Int) (neg : Bool) {m q : Nat} (n : Nat) (h : m ≤ q * 2 ^ n) : rnd mode neg m n ≤ q := by
  have := rnd_rise mode neg n h
  rwa [rnd_mul] at this
theorem le_rnd (mode : Int) (neg : Bool) {m q : Nat} (n : Nat) (h : q * 2 ^ n ≤ m) : q ≤ rnd mode neg m n := by
  have := rnd_rise mode neg n h
  rwa [rnd_mul] at this

/-- The mode of opposites. -/
def opp (mode : Int) : Int := if mode = 3 then 4 else if mode = 4 then 3 else mode
theorem rnd_opp (mode : Int) (neg : Bool) (m n : Nat) : rnd (opp mode) (!neg) m n = rnd mode neg m n := by
  unfold rnd
  congr 2
  unfold upw opp
  by_cases h3 : mode = 3
  · subst h3; simp
  · by_cases h4 : mode = 4
    · subst h4; simp
    · simp [h3, h4]

theorem rnd_even (neg : Bool) (m n : Nat) : rnd 1 neg m n = Fl.rne m n := by
  unfold rnd Fl.rne upw
  rw [if_pos rfl]
  congr 1
  by_cases h : 2 ^ n < 2 * (m % 2 ^ n) ∨ (2 ^ n = 2 * (m % 2 ^ n) ∧ m / 2 ^ n % 2 = 1)
  · rw [if_pos h]
    have : (decide (2 ^ n < 2 * (m % 2 ^ n)) || (decide (2 ^ n = 2 * (m % 2 ^ n)) && (m / 2 ^ n % 2 == 1))) = true := by
      simp only [Bool.or_eq_true, Bool.and_eq_true, decide_eq_true_eq, beq_iff_eq]; exact h
    rw [this]; rfl
  · rw [if_neg h]
    have : (decide (2 ^ n < 2 * (m % 2 ^ n)) || (decide (2 ^ n = 2 * (m % 2 ^ n)) && (m / 2 ^ n % 2 == 1))) = false := by
      rw [Bool.eq_false_iff]
      intro c
      simp only [Bool.or_eq_true, Bool.and_eq_true, decide_eq_true_eq, beq_iff_eq] at c
      exact h c
    rw [this]; rfl

/-- A whole number cut by Odd keeps all that a second rounding, two digits and more behind, asks. -/
theorem rnd_odd (mode : Int) (neg s : Bool) (m a b : Nat) (hb : 2 ≤ b) : rnd mode neg (rnd 6 s m a) b = rnd mode neg m (a + b) := by
  obtain ⟨c, rfl⟩ : ∃ c, b = c + 2 := ⟨b - 2, by omega⟩
  have hA : 0 < 2 ^ a := Nat.two_pow_pos a
  have hC : 0 < 2 ^ c := Nat.two_pow_pos c
  -- m = (Q * 4C + R) * A + t
  obtain ⟨t, ht⟩ : ∃ t, m % 2 ^ a = t := ⟨_, rfl⟩
  obtain ⟨k, hk⟩ : ∃ k, m / 2 ^ a = k := ⟨_, rfl⟩
  have hm : m = 2 ^ a * k + t := by rw [← ht, ← hk]; exact (Nat.div_add_mod m (2 ^ a)).symm
  have htA : t < 2 ^ a := by rw [← ht]; exact Nat.mod_lt _ hA
  have hodd : rnd 6 s m a = k + (decide (t ≠ 0) && !(k % 2 == 1)).toNat := by
    unfold rnd upw
    rw [ht, hk]; simp
  have e4 : 2 ^ (c + 2) = 4 * 2 ^ c := by rw [Nat.pow_add]; omega
  have eA : 2 ^ (a + (c + 2)) = 2 ^ a * (4 * 2 ^ c) := by rw [Nat.pow_add, e4]
  have hq : m / 2 ^ (a + (c + 2)) = k / (4 * 2 ^ c) := by
    rw [eA, ← Nat.div_div_eq_div_mul, hk]
  have hr : m % 2 ^ (a + (c + 2)) = 2 ^ a * (k % (4 * 2 ^ c)) + t := by
    rw [eA, Nat.mod_mul, ht, hk]; omega
  rw [hodd]
  unfold rnd
  rw [hq, hr, e4, eA]
  generalize 2 ^ c = C at *
  generalize 2 ^ a = A at *
  obtain ⟨R, hR⟩ : ∃ R, k % (4 * C) = R := ⟨_, rfl⟩
  obtain ⟨Q, hQ⟩ : ∃ Q, k / (4 * C) = Q := ⟨_, rfl⟩
  have hkd : k = 4 * C * Q + R := by rw [← hR, ← hQ]; exact (Nat.div_add_mod k (4 * C)).symm
  have hRC : R < 4 * C := by rw [← hR]; exact Nat.mod_lt _ (by omega)
  rw [hR, hQ]
  by_cases h0 : t = 0
  · subst h0
    simp only [ne_eq, not_true, decide_false, Bool.false_and, Bool.toNat_false, Nat.add_zero]
    rw [hR, hQ]
    have := upw_mul mode neg (Q % 2 == 1) R (4 * C) A hA
    rw [← this, Nat.mul_comm R A, Nat.mul_comm (4 * C) A]
  · -- k' = k or k + 1, odd: the same quotient, and R' stands to the half as R A + t does to A times it
    have hpar : k % 2 = R % 2 := by rw [hkd, Nat.mul_assoc]; omega
    have hd : (decide (t ≠ 0) && !(k % 2 == 1)).toNat = 1 - k % 2 := by
      rcases Nat.mod_two_eq_zero_or_one k with h | h <;> simp [h0, h]
    rw [hd]
    obtain ⟨R', hR'⟩ : ∃ R', R' = R + (1 - k % 2) := ⟨_, rfl⟩
    have hR'o : R' % 2 = 1 := by omega
    have hR'b : R' < 4 * C := by omega
    have hR'R : R ≤ R' ∧ R' ≤ R + 1 := by omega
    have hk' : k + (1 - k % 2) = 4 * C * Q + R' := by omega
    have d1 : (4 * C * Q + R') / (4 * C) = Q := by
      rw [Nat.mul_add_div (by omega), Nat.div_eq_of_lt hR'b]; rfl
    have d2 : (4 * C * Q + R') % (4 * C) = R' := by
      rw [Nat.mul_add_mod, Nat.mod_eq_of_lt hR'b]
    rw [hk', d1, d2]
    congr 1
    congr 1
    -- R A + t against A 4C / 2, R' against 4C / 2
    have c1 : (A * (4 * C) < 2 * (A * R + t)) ↔ (4 * C < 2 * R') := by
      have p1 : A * (4 * C) = 2 * (A * (2 * C)) := by
        have : (4 : Nat) * C = 2 * (2 * C) := by omega
        rw [this, ← Nat.mul_assoc, Nat.mul_comm A 2, Nat.mul_assoc]
      constructor
      · intro h
        have : A * (2 * C) < A * (R + 1) := by rw [Nat.mul_add]; omega
        have := Nat.lt_of_mul_lt_mul_left this
        omega
      · intro h
        have : 2 * C ≤ R := by omega
        have := Nat.mul_le_mul_left A this
        omega
    have c2 : ¬ A * (4 * C) = 2 * (A * R + t) := by
      have p1 : A * (4 * C) = 2 * (A * (2 * C)) := by
        have : (4 : Nat) * C = 2 * (2 * C) := by omega
        rw [this, ← Nat.mul_assoc, Nat.mul_comm A 2, Nat.mul_assoc]
      intro h
      have h' : A * (2 * C) = A * R + t := by omega
      have h1 : A * R < A * (2 * C) := by omega
      have h2 : A * (2 * C) < A * (R + 1) := by rw [Nat.mul_add]; omega
      have := Nat.lt_of_mul_lt_mul_left h1
      have := Nat.lt_of_mul_lt_mul_left h2
      omega
    have c3 : ¬ 4 * C = 2 * R' := by omega
    have c4 : A * R + t ≠ 0 := by omega
    have c5 : R' ≠ 0 := by omega
    have c6 : (A * (4 * C) ≤ 2 * (A * R + t)) ↔ (4 * C ≤ 2 * R') := by omega
    unfold upw
    rw [decide_eq_decide.2 c1, decide_eq_false c2, decide_eq_false c3, decide_eq_true c4, decide_eq_true c5, decide_eq_decide.2 c6]
end Rn
end Go.Proofs.YtckjmcfncfoboaaDoor
