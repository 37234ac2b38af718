/- The document's Join, without a program: halving to the odd part, doubling to the format's place. -/
import Derived.Test.YtckjmcfncfoboaaDoorWj
namespace Go.Proofs.YtckjmcfncfoboaaDoor
open Go.RowKit

theorem odd_unique (o o' k k' : Nat) (ho : o % 2 = 1) (ho' : o' % 2 = 1) (h : o * 2 ^ k = o' * 2 ^ k') : k = k' ∧ o = o' := by
  have key : ∀ o o' k d : Nat, o % 2 = 1 → o * 2 ^ k = o' * 2 ^ (k + (d + 1)) → False := by
    intro o o' k d ho h
    have hp : 0 < 2 ^ k := Nat.two_pow_pos k
    rw [Nat.pow_add, Nat.pow_succ] at h
    have e : o = o' * (2 ^ d * 2) := by
      refine Nat.eq_of_mul_eq_mul_right hp ?_
      rw [h]; ac_rfl
    rw [← Nat.mul_assoc] at e
    omega
  rcases Nat.lt_trichotomy k k' with c | c | c
  · obtain ⟨d, rfl⟩ : ∃ d, k' = k + (d + 1) := ⟨k' - k - 1, by omega⟩
    exact (key o o' k d ho h).elim
  · subst c
    exact ⟨rfl, Nat.eq_of_mul_eq_mul_right (Nat.two_pow_pos k) h⟩
  · obtain ⟨d, rfl⟩ : ∃ d, k = k' + (d + 1) := ⟨k - k' - 1, by omega⟩
    exact (key o' o k' d ho' h.symm).elim

/-- What each halving keeps. -/
def Inv1 (m0 e0 M E : Int) : Prop := 0 < M ∧ M < 18446744073709551616 ∧ oddM M = oddM m0 ∧ oddE M E = oddE m0 e0

theorem inv1_start (m0 e0 : Int) (h0 : 0 < m0) (h1 : m0 < 18446744073709551616) : Inv1 m0 e0 m0 e0 := ⟨h0, h1, rfl, rfl⟩

theorem inv1_bd {m0 e0 M E : Int} (h0 : 0 < m0) (h1 : m0 < 18446744073709551616) (i : Inv1 m0 e0 M E) : e0 - 64 ≤ E ∧ E ≤ e0 + 64 := by
  obtain ⟨a, b, _, d⟩ := i
  have f := (odd_facts M a b).1
  have g := (odd_facts m0 h0 h1).1
  unfold oddE at d
  omega

theorem inv1_step {m0 e0 M E : Int} (i : Inv1 m0 e0 M E) (he : M % 2 = 0) : Inv1 m0 e0 (M / 2) (E + 1) := by
  obtain ⟨a, b, c, d⟩ := i
  obtain ⟨_, _, o1, m1, _⟩ := odd_facts M a b
  obtain ⟨_, _, o2, m2, _⟩ := odd_facts (M / 2) (by omega) (by omega)
  have hm : oddM M * 2 ^ Lib.ctz 64 M.toNat = oddM (M / 2) * 2 ^ (Lib.ctz 64 (M / 2).toNat + 1) := by
    rw [← m1, Nat.pow_succ, ← Nat.mul_assoc, ← m2]
    omega
  obtain ⟨e1, e2⟩ := odd_unique _ _ _ _ o1 o2 hm
  refine ⟨by omega, by omega, by rw [← e2, c], ?_⟩
  unfold oddE at *
  omega

theorem inv1_exit {m0 e0 M E : Int} (i : Inv1 m0 e0 M E) (he : M % 2 ≠ 0) : M = oddM m0 ∧ E = oddE m0 e0 := by
  obtain ⟨a, b, c, d⟩ := i
  obtain ⟨_, _, o1, m1, _⟩ := odd_facts M a b
  have hm : M.toNat * 2 ^ 0 = oddM M * 2 ^ Lib.ctz 64 M.toNat := by rw [← m1]; omega
  obtain ⟨e1, e2⟩ := odd_unique _ _ _ _ (by omega) o1 hm
  unfold oddE at *
  rw [← e1] at d
  exact ⟨by omega, by omega⟩

/-- What each doubling keeps. -/
def Inv2 (o : Nat) (E' M E : Int) : Prop := ∃ j : Nat, M = ((o * 2 ^ j : Nat) : Int) ∧ E = E' - j ∧ (j = 0 ∨ (M < 9007199254740992 ∧ -1074 ≤ E)) ∧ M < 18446744073709551616
theorem inv2_start (o : Nat) (E' : Int) (h : o < 18446744073709551616) : Inv2 o E' o E' := ⟨0, by simp, by omega, Or.inl rfl, by omega⟩
theorem inv2_step {o : Nat} {E' M E : Int} (i : Inv2 o E' M E) (h1 : M < 4503599627370496) (h2 : -1074 < E) : Inv2 o E' (2 * M) (E - 1) := by
  obtain ⟨j, e1, e2, _, _⟩ := i
  refine ⟨j + 1, ?_, by omega, Or.inr ⟨by omega, by omega⟩, by omega⟩
  rw [e1, Nat.pow_succ, ← Nat.mul_assoc]
  omega
theorem inv2_pos {o : Nat} {E' M E : Int} (ho : 0 < o) (i : Inv2 o E' M E) : 1 ≤ M := by
  obtain ⟨j, e1, _, _, _⟩ := i
  have : 0 < o * 2 ^ j := Nat.mul_pos ho (Nat.two_pow_pos j)
  omega
theorem inv2_bd {o : Nat} {E' M E : Int} (i : Inv2 o E' M E) : -1074 ≤ E ∧ E ≤ E' ∨ E = E' := by
  obtain ⟨j, _, e2, c, _⟩ := i
  rcases c with rfl | c
  · exact Or.inr (by omega)
  · exact Or.inl ⟨c.2, by omega⟩

theorem exit_ok {m0 e0 M E : Int} (h0 : 0 < m0) (h1 : m0 < 18446744073709551616) (i : Inv2 (oddM m0) (oddE m0 e0) M E) (neg : Bool) (c1 : M < 9007199254740992) (c2 : -1074 ≤ E) (c3 : E ≤ 971) (c4 : 4503599627370496 ≤ M ∨ E = -1074) :
    joinOk m0 e0 = true ∧ Ieee.double.nearest neg (oddM m0) (oddE m0 e0) = Ieee.double.word neg (Fl.rungOf M.toNat E) := by
  obtain ⟨_, _, o1, _, _⟩ := odd_facts m0 h0 h1
  obtain ⟨j, e1, e2, _, _⟩ := i
  have hM : M.toNat = oddM m0 * 2 ^ j := by omega
  have ho : oddM m0 ≠ 0 := by omega
  have hl := Fl.log2_mul_pow (oddM m0) j ho
  have hM0 : M.toNat ≠ 0 := by rw [hM]; exact Nat.mul_ne_zero ho (by have := Nat.two_pow_pos j; omega)
  have hc : Fl.canon M.toNat E := ⟨by omega, c2, by omega⟩
  have hl2 := Fl.log2_lt53 hc.1 hM0
  rw [hM, hl] at hl2
  refine ⟨decide_eq_true ?_, ?_⟩
  · rw [e2] at c2 c3
    omega
  · have r : Fl.rungOf M.toNat E < 9218868437227405312 := by unfold Fl.rungOf; omega
    have := Fl.nearest_shift neg (oddM m0) (oddE m0 e0) j
    rw [← this, ← e2, ← hM, Fl.nearest_canon neg hc, Nat.min_eq_left (Nat.le_of_lt r)]

theorem exit_bad {m0 e0 M E : Int} (h0 : 0 < m0) (h1 : m0 < 18446744073709551616) (i : Inv2 (oddM m0) (oddE m0 e0) M E) (x : ¬ (M < 4503599627370496 ∧ -1074 < E)) (c : 9007199254740992 ≤ M ∨ E < -1074 ∨ 971 < E) : joinOk m0 e0 = false := by
  obtain ⟨_, _, o1, _, _⟩ := odd_facts m0 h0 h1
  obtain ⟨j, e1, e2, d, _⟩ := i
  have hM : M.toNat = oddM m0 * 2 ^ j := by omega
  have ho : oddM m0 ≠ 0 := by omega
  have hl := Fl.log2_mul_pow (oddM m0) j ho
  rw [← hM] at hl
  have hM0 : M.toNat ≠ 0 := by rw [hM]; exact Nat.mul_ne_zero ho (by have := Nat.two_pow_pos j; omega)
  refine decide_eq_false fun hh => ?_
  obtain ⟨p1, p2, p3⟩ := hh
  by_cases g : 9007199254740992 ≤ M
  · have hj : j = 0 := by omega
    have : 53 ≤ M.toNat.log2 := (Nat.le_log2 hM0).2 (show 2 ^ 53 ≤ M.toNat by omega)
    omega
  · by_cases g2 : E < -1074
    · omega
    · have : 52 ≤ M.toNat.log2 := (Nat.le_log2 hM0).2 (show 2 ^ 52 ≤ M.toNat by omega)
      omega
end Go.Proofs.YtckjmcfncfoboaaDoor
