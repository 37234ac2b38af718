/- The code's way of rounding: what is left over stands in 64 bits: no program here. -/
import Derived.Test.YtckjmcfncfoboaaDoorRg
namespace Go.Proofs.YtckjmcfncfoboaaDoor
namespace Rn

theorem upw_small (mode : Int) (neg odd : Bool) (r g g' : Nat) (h : 2 * r < g) (h' : 2 * r < g') : upw mode neg odd r g = upw mode neg odd r g' := by
  unfold upw
  rw [decide_eq_false (show ¬ g < 2 * r by omega), decide_eq_false (show ¬ g' < 2 * r by omega), decide_eq_false (show ¬ g = 2 * r by omega), decide_eq_false (show ¬ g' = 2 * r by omega), decide_eq_false (show ¬ g ≤ 2 * r by omega), decide_eq_false (show ¬ g' ≤ 2 * r by omega)]

theorem rest_eq (m n : Nat) (hn : n ≤ 64) : m * 2 ^ (64 - n) % 18446744073709551616 = m % 2 ^ n * 2 ^ (64 - n) := by
  have e : (18446744073709551616 : Nat) = 2 ^ n * 2 ^ (64 - n) := by
    rw [← Nat.pow_add, show n + (64 - n) = 64 by omega]
  rw [e, Nat.mul_mod_mul_right]

/-- What the code reckons, with n' the lesser one of n and 64. -/
theorem code_rnd (mode : Int) (neg : Bool) (m n : Nat) (hm : m < 18446744073709551616) (h : n ≤ 64 ∨ m < 9223372036854775808) :
    m / 2 ^ min n 64 = m / 2 ^ n ∧
    upw mode neg (m / 2 ^ min n 64 % 2 == 1) (m * 2 ^ (64 - min n 64) % 18446744073709551616) 18446744073709551616 = upw mode neg (m / 2 ^ n % 2 == 1) (m % 2 ^ n) (2 ^ n) ∧
    (m * 2 ^ (64 - min n 64) % 18446744073709551616 = 0 ↔ m % 2 ^ n = 0) := by
  by_cases hn : n ≤ 64
  · rw [Nat.min_eq_left hn, rest_eq m n hn]
    have hp : 0 < 2 ^ (64 - n) := Nat.two_pow_pos _
    have e : (18446744073709551616 : Nat) = 2 ^ n * 2 ^ (64 - n) := by
      rw [← Nat.pow_add, show n + (64 - n) = 64 by omega]
    refine ⟨rfl, ?_, ?_⟩
    · rw [e, upw_mul _ _ _ _ _ _ hp]
    · rw [Nat.mul_eq_zero]; omega
  · have hm' : m < 9223372036854775808 := by omega
    have hN : 18446744073709551616 ≤ 2 ^ n := by
      rw [show (18446744073709551616 : Nat) = 2 ^ 64 from rfl]
      exact Nat.pow_le_pow_right (by decide) (by omega)
    rw [Nat.min_eq_right (by omega), Nat.sub_self, Nat.pow_zero, Nat.mul_one, show (2 : Nat) ^ 64 = 18446744073709551616 from rfl, Nat.mod_eq_of_lt hm, Nat.div_eq_of_lt hm, Nat.div_eq_of_lt (show m < 2 ^ n by omega), Nat.mod_eq_of_lt (show m < 2 ^ n by omega)]
    exact ⟨rfl, upw_small _ _ _ _ _ _ (by omega) (by omega), Iff.rfl⟩
end Rn
end Go.Proofs.YtckjmcfncfoboaaDoor
