/- The plain functions of layer 1 over the bits of a binary64, and small facts on bit masks. No program here. -/
import Derived.Laws.BitsAllLaws
import Derived.Laws.Bits64
import Derived.Below
namespace Go.Proofs.YthgeojgfjpcelabGreatDoor
open Go.RowKit

def mag (b : Nat) : Nat := b % 9223372036854775808
def sgb (b : Nat) : Bool := decide (9223372036854775808 ≤ b)
def cls (b : Nat) : Int :=
  if 9218868437227405312 < mag b then 1 else if mag b = 9218868437227405312 then 2 else if mag b = 0 then 3 else if mag b < 4503599627370496 then 4 else 5
def isN (b : Nat) : Bool := decide (9218868437227405312 < mag b)
def one (b : Nat) : Nat := if 9218868437227405312 < mag b then 9221120237041090560 else b
def ngt (b : Nat) : Bool := !isN b && sgb b
def spM (b : Nat) : Nat := if 9218868437227405312 ≤ mag b then 0 else if mag b < 4503599627370496 then mag b else mag b % 4503599627370496 + 4503599627370496
def spMz (b : Nat) : Int := (spM b : Int)
def spE (b : Nat) : Int := if 9218868437227405312 ≤ mag b then 0 else if mag b = 0 then 0 else if mag b < 4503599627370496 then -1074 else (mag b / 4503599627370496 : Nat) - 1075
def spN (b : Nat) : Bool := if 9218868437227405312 ≤ mag b then false else sgb b
def spR (b : Nat) : Int := if 9218868437227405312 ≤ mag b then 10 else 0

def magZ (b : Nat) : Int := (mag b : Int)
theorem magZ_bd (b : Nat) : 0 ≤ magZ b ∧ magZ b < 9223372036854775808 := by
  have : mag b < 9223372036854775808 := Nat.mod_lt _ (by decide)
  unfold magZ; omega
theorem mag_lt (b : Nat) : mag b < 9223372036854775808 := Nat.mod_lt _ (by decide)
theorem mag_of (b : Nat) (h : b < 18446744073709551616) : b = mag b + (if sgb b then 9223372036854775808 else 0) := by
  unfold mag sgb
  by_cases c : 9223372036854775808 ≤ b
  · simp only [c, decide_true, if_true]; omega
  · simp only [c, decide_false, Bool.false_eq_true, if_false]; omega

theorem and_mask63 (b : Nat) : b &&& 9223372036854775807 = b % 9223372036854775808 := Nat.and_two_pow_sub_one_eq_mod b 63
theorem andNot63 (b : Nat) (h : b < 18446744073709551616) : bits .andNot .u64 (b : Int) 9223372036854775808 = (mag b : Int) := by
  have := u64_andNot_nat b 9223372036854775808 h (by decide)
  rw [show ((9223372036854775808 : Nat) : Int) = 9223372036854775808 from rfl] at this
  rw [this, show 18446744073709551615 - 9223372036854775808 = 9223372036854775807 from rfl, and_mask63]
  rfl

theorem andNot63Z (b : Nat) (h : b < 18446744073709551616) : bits .andNot .u64 (b : Int) 9223372036854775808 = magZ b := andNot63 b h
theorem and63 (b : Nat) (h : b < 18446744073709551616) : bits .and .u64 (b : Int) 9223372036854775808 = if sgb b then 9223372036854775808 else 0 := by
  have := u64_and_nat b 9223372036854775808 h (by decide)
  rw [show ((9223372036854775808 : Nat) : Int) = 9223372036854775808 from rfl] at this
  rw [this, nat_bit 63 b]
  unfold sgb
  by_cases c : 9223372036854775808 ≤ b
  · simp only [c, decide_true, if_true]; omega
  · simp only [c, decide_false, Bool.false_eq_true, if_false]; omega

theorem and63_ne (b : Nat) (h : b < 18446744073709551616) : (bits .and .u64 (b : Int) 9223372036854775808 != 0) = sgb b := by
  rw [and63 b h]; cases sgb b <;> rfl

theorem ret_int {k : IntKind} {a b : Int} (h : a = b) : Ending.returned (.int k a) = .returned (.int k b) := by rw [h]
theorem ret_bool {a b : Bool} (h : a = b) : Ending.returned (.bool a) = .returned (.bool b) := by rw [h]
theorem ret_f64 {a b : Nat} (h : a = b) : Ending.returned (.float .f64 a) = .returned (.float .f64 b) := by rw [h]
theorem cls_a (b : Nat) (z : Int) (hz : Hid (magZ b = z)) (h : 9218868437227405312 < z) : 1 = cls b := by have := hz.out; unfold magZ at this; unfold cls; rw [if_pos (by omega)]
theorem cls_b (b : Nat) (z : Int) (hz : Hid (magZ b = z)) (h2 : (z == 9218868437227405312) = true) : 2 = cls b := by
  have h2' := eq_of_beq h2
  have := hz.out; unfold magZ at this; unfold cls; rw [if_neg (by omega), if_pos (by omega)]
theorem cls_c (b : Nat) (z : Int) (hz : Hid (magZ b = z)) (h2 : (z == 0) = true) : 3 = cls b := by
  have h2' := eq_of_beq h2
  have := hz.out; unfold magZ at this; unfold cls; rw [if_neg (by omega), if_neg (by omega), if_pos (by omega)]
theorem cls_d (b : Nat) (z : Int) (hz : Hid (magZ b = z)) (h2 : (z == 0) = false) (h : z < 4503599627370496) : 4 = cls b := by
  have h2' : z ≠ 0 := by simpa using h2
  have := hz.out; unfold magZ at this; unfold cls; rw [if_neg (by omega), if_neg (by omega), if_neg (by omega), if_pos (by omega)]
theorem cls_e (b : Nat) (z : Int) (hz : Hid (magZ b = z)) (h1 : z ≤ 9218868437227405312) (h2 : (z == 9218868437227405312) = false) (h : 4503599627370496 ≤ z) : 5 = cls b := by
  have h2' : z ≠ 9218868437227405312 := by simpa using h2
  have := hz.out; unfold magZ at this; unfold cls; rw [if_neg (by omega), if_neg (by omega), if_neg (by omega), if_neg (by omega)]
theorem cls1 (b : Nat) : (cls b == 1) = isN b := by
  unfold cls isN; split
  · simp_all
  · split <;> (try split) <;> (try split) <;> simp_all
theorem ret2 {a b c d : Value} (h1 : a = c) (h2 : b = d) : Ending.returned (.tuple #[a, b]) = .returned (.tuple #[c, d]) := by rw [h1, h2]
theorem int_eq {k : IntKind} {a b : Int} (h : a = b) : Value.int k a = .int k b := by rw [h]
theorem bool_eq {a b : Bool} (h : a = b) : Value.bool a = .bool b := by rw [h]
theorem isN_of {b : Nat} (h : isN b = true) : 9218868437227405312 < mag b := of_decide_eq_true h
theorem isN_not {b : Nat} (h : isN b = false) : ¬ 9218868437227405312 < mag b := of_decide_eq_false h
theorem ngt_y (b : Nat) (h : isN b = true) : false = ngt b := by unfold ngt; rw [h]; rfl
theorem ngt_n (b : Nat) (h : isN b = false) : sgb b = ngt b := by unfold ngt; rw [h]; rfl
theorem cls_isN {b : Nat} {c : Int} (hc : Hid (cls b = c)) : isN b = (c == 1) := by rw [← cls1, hc.out]
/-- Split's five ways. -/
theorem ret4 {a b c d a' b' c' d' : Value} (h1 : a = a') (h2 : b = b') (h3 : c = c') (h4 : d = d') : Ending.returned (.tuple #[a, b, c, d]) = .returned (.tuple #[a', b', c', d']) := by rw [h1, h2, h3, h4]
theorem spl_bad (b : Nat) (h : 9218868437227405312 ≤ mag b) : false = spN b ∧ 0 = spMz b ∧ 0 = spE b ∧ 10 = spR b := by
  refine ⟨?_, ?_, ?_, ?_⟩
  · unfold spN; rw [if_pos h]
  · unfold spMz spM; rw [if_pos h]; rfl
  · unfold spE; rw [if_pos h]
  · unfold spR; rw [if_pos h]
theorem spl_0 (b : Nat) (h : mag b = 0) : sgb b = spN b ∧ 0 = spMz b ∧ 0 = spE b ∧ 0 = spR b := by
  have h1 : ¬ 9218868437227405312 ≤ mag b := by omega
  have h2 : mag b < 4503599627370496 := by omega
  refine ⟨?_, ?_, ?_, ?_⟩
  · unfold spN; rw [if_neg h1]
  · unfold spMz spM; rw [if_neg h1, if_pos h2, h]; rfl
  · unfold spE; rw [if_neg h1, if_pos h]
  · unfold spR; rw [if_neg h1]
theorem spl_s (b : Nat) (h : mag b ≠ 0) (h2 : mag b < 4503599627370496) : sgb b = spN b ∧ magZ b = spMz b ∧ -1074 = spE b ∧ 0 = spR b := by
  have h1 : ¬ 9218868437227405312 ≤ mag b := by omega
  refine ⟨?_, ?_, ?_, ?_⟩
  · unfold spN; rw [if_neg h1]
  · unfold spMz spM; rw [if_neg h1, if_pos h2]; rfl
  · unfold spE; rw [if_neg h1, if_neg h, if_pos h2]
  · unfold spR; rw [if_neg h1]
theorem spl_n (b : Nat) (h1 : mag b < 9218868437227405312) (h2 : 4503599627370496 ≤ mag b) : sgb b = spN b ∧ magZ b % 4503599627370496 + 4503599627370496 = spMz b ∧ magZ b / 4503599627370496 - 1075 = spE b ∧ 0 = spR b := by
  have h1' : ¬ 9218868437227405312 ≤ mag b := by omega
  have h2' : ¬ mag b < 4503599627370496 := by omega
  have h3 : ¬ mag b = 0 := by omega
  refine ⟨?_, ?_, ?_, ?_⟩
  · unfold spN; rw [if_neg h1']
  · unfold spMz spM magZ; rw [if_neg h1', if_neg h2']; omega
  · unfold spE magZ; rw [if_neg h1', if_neg h3, if_neg h2']; omega
  · unfold spR; rw [if_neg h1']
theorem cls_of_c {b : Nat} {c : Int} (hc : Hid (cls b = c)) : ((c == 1) = true → 9218868437227405312 ≤ mag b) ∧ ((c == 2) = true → 9218868437227405312 ≤ mag b) ∧
    ((c == 3) = true → mag b = 0) ∧ ((c == 4) = true → mag b ≠ 0 ∧ mag b < 4503599627370496) ∧
    ((c == 1) = false → (c == 2) = false → (c == 3) = false → (c == 4) = false → mag b < 9218868437227405312 ∧ 4503599627370496 ≤ mag b) := by
  have e := hc.out
  clear hc
  simp only [beq_iff_eq, beq_eq_false_iff_ne, ne_eq]
  unfold cls at e
  split at e
  · subst e; refine ⟨?_, ?_, ?_, ?_, ?_⟩ <;> omega
  · split at e
    · subst e; refine ⟨?_, ?_, ?_, ?_, ?_⟩ <;> omega
    · split at e
      · subst e; refine ⟨?_, ?_, ?_, ?_, ?_⟩ <;> omega
      · split at e
        · subst e; refine ⟨?_, ?_, ?_, ?_, ?_⟩ <;> omega
        · subst e; refine ⟨?_, ?_, ?_, ?_, ?_⟩ <;> omega
theorem one_y (b : Nat) (z : Int) (hz : Hid (cls b = z)) (h : (z == 1) = true) : 9221120237041090560 = one b := by
  have e := cls1 b; rw [hz.out, h] at e
  have : 9218868437227405312 < mag b := of_decide_eq_true e.symm
  unfold one; rw [if_pos this]
theorem one_n (b : Nat) (z : Int) (hz : Hid (cls b = z)) (h : (z == 1) = false) : b = one b := by
  have e := cls1 b; rw [hz.out, h] at e
  have : ¬ 9218868437227405312 < mag b := of_decide_eq_false e.symm
  unfold one; rw [if_neg this]
end Go.Proofs.YthgeojgfjpcelabGreatDoor
