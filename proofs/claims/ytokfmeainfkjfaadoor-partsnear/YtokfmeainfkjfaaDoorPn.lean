/- A unit apart; near numbers' difference: the plain facts behind PartsNear. -/
import Derived.Test.YtokfmeainfkjfaaDoorPb
namespace Go.Proofs.YtokfmeainfkjfaaDoor
open Go.RowKit
namespace Fl
open Ieee

/-- Neighbouring rungs are one unit apart. -/
theorem rung_succ (r : Nat) : placeOf r ≤ placeOf (r + 1) ∧ mantOf (r + 1) * 2 ^ (placeOf (r + 1) - placeOf r).toNat = mantOf r + 1 := by
  have hm := place_mono (Nat.le_succ r)
  refine ⟨hm, ?_⟩
  unfold mantOf placeOf
  by_cases h : (r + 1) / 4503599627370496 - 1 = r / 4503599627370496 - 1
  · rw [h, show (-1074 + ((r / 4503599627370496 - 1 : Nat) : Int) - (-1074 + ((r / 4503599627370496 - 1 : Nat) : Int))).toNat = 0 by omega, Nat.pow_zero, Nat.mul_one]
    split <;> split <;> omega
  · have e : (-1074 + (((r + 1) / 4503599627370496 - 1 : Nat) : Int) - (-1074 + ((r / 4503599627370496 - 1 : Nat) : Int))).toNat = 1 := by omega
    rw [e, Nat.pow_one]
    split <;> split <;> omega

theorem sum_up (r : Nat) : Datum.sum (.number false (mantOf (r + 1)) (placeOf (r + 1))) (.number true (mantOf r) (placeOf r)) = some (.number false 1 (placeOf r)) := by
  obtain ⟨h1, h2⟩ := rung_succ r
  have hb : min (placeOf (r + 1)) (placeOf r) = placeOf r := Int.min_eq_right h1
  have key : Datum.sum (.number false (mantOf (r + 1)) (placeOf (r + 1))) (.number true (mantOf r) (placeOf r)) =
      (let total := signed false (mantOf (r + 1)) (placeOf (r + 1) - min (placeOf (r + 1)) (placeOf r)).toNat + signed true (mantOf r) (placeOf r - min (placeOf (r + 1)) (placeOf r)).toNat
       some (.number (if total = 0 then false && true else decide (total < 0)) total.natAbs (min (placeOf (r + 1)) (placeOf r)))) := rfl
  rw [key, hb]
  have t : signed false (mantOf (r + 1)) (placeOf (r + 1) - placeOf r).toNat + signed true (mantOf r) (placeOf r - placeOf r).toNat = 1 := by
    unfold signed
    rw [show (placeOf r - placeOf r).toNat = 0 by omega]
    simp only [Bool.false_eq_true, if_false, if_true, Nat.shiftLeft_eq, Nat.pow_zero, Nat.mul_one]
    rw [h2]; omega
  simp only [t]
  rfl
theorem sum_dn (r : Nat) : Datum.sum (.number true (mantOf r) (placeOf r)) (.number false (mantOf (r + 1)) (placeOf (r + 1))) = some (.number false 1 (placeOf r)) := by
  obtain ⟨h1, h2⟩ := rung_succ r
  have hb : min (placeOf r) (placeOf (r + 1)) = placeOf r := Int.min_eq_left h1
  have key : Datum.sum (.number true (mantOf r) (placeOf r)) (.number false (mantOf (r + 1)) (placeOf (r + 1))) =
      (let total := signed true (mantOf r) (placeOf r - min (placeOf r) (placeOf (r + 1))).toNat + signed false (mantOf (r + 1)) (placeOf (r + 1) - min (placeOf r) (placeOf (r + 1))).toNat
       some (.number (if total = 0 then true && false else decide (total < 0)) total.natAbs (min (placeOf r) (placeOf (r + 1))))) := rfl
  rw [key, hb]
  have t : signed true (mantOf r) (placeOf r - placeOf r).toNat + signed false (mantOf (r + 1)) (placeOf (r + 1) - placeOf r).toNat = 1 := by
    unfold signed
    rw [show (placeOf r - placeOf r).toNat = 0 by omega]
    simp only [Bool.false_eq_true, if_false, if_true, Nat.shiftLeft_eq, Nat.pow_zero, Nat.mul_one]
    rw [h2]; omega
  simp only [t]
  rfl

/-- The next one less the one, of those above nought; of those below. -/
theorem sub_up (r : Nat) (h : r + 1 < 9218868437227405312) : double.sub (double.word false (r + 1)) (double.word false r) = some (pw (placeOf r)) := by
  unfold Format.sub
  rw [read_fin false (r + 1) h, read_fin false r (by omega)]
  show (Datum.sum (.number false (mantOf (r + 1)) (placeOf (r + 1))) (.number true (mantOf r) (placeOf r))).map double.write = _
  rw [sum_up]; rfl
theorem sub_dn (r : Nat) (h : r + 1 < 9218868437227405312) : double.sub (double.word true r) (double.word true (r + 1)) = some (pw (placeOf r)) := by
  unfold Format.sub
  rw [read_fin true (r + 1) h, read_fin true r (by omega)]
  show (Datum.sum (.number true (mantOf r) (placeOf r)) (.number false (mantOf (r + 1)) (placeOf (r + 1)))).map double.write = _
  rw [sum_dn]; rfl

/-- The half of a word, rounded once. -/
theorem half_word (r : Nat) (h : r < 9218868437227405312) : double.div (double.word false r) 4611686018427387904 = some (double.nearest false (mantOf r) (placeOf r - 1)) := by
  unfold Format.div
  have two : double.read 4611686018427387904 = .number false 4503599627370496 (-51) := by decide +kernel
  rw [read_fin false r h, two]
  have l52 : Nat.log2 4503599627370496 = 52 := by decide +kernel
  generalize hm : mantOf r = m
  have hl : m.log2 ≤ 52 := by
    by_cases z : m = 0
    · rw [z]; decide
    · exact log2_lt53 (by rw [← hm]; exact (canon_of r).1) z
  have key : Datum.quotient (double.fractionBits + 2) (.number false m (placeOf r)) (.number false 4503599627370496 (-51)) =
      (let more := double.fractionBits + 2 + Nat.log2 4503599627370496 - m.log2
       let dividend := m <<< more
       some (.number (false ^^ false) (2 * (dividend / 4503599627370496) + (dividend % 4503599627370496 != 0).toNat) (placeOf r - (-51) - more - 1))) := rfl
  rw [key, fb, l52]
  have hmore : 52 + 2 + 52 - m.log2 = (54 - m.log2) + 52 := by omega
  rw [hmore]
  generalize hk : 54 - m.log2 = k
  have q : m <<< (k + 52) = m * 2 ^ k * 4503599627370496 := by
    rw [Nat.shiftLeft_eq, Nat.pow_add, ← Nat.mul_assoc]
  simp only [q, Nat.mul_div_cancel _ (show 0 < 4503599627370496 by decide), Nat.mul_mod_left]
  show some (double.nearest false (2 * (m * 2 ^ k) + 0) (placeOf r - (-51) - ((k + 52 : Nat) : Int) - 1)) = _
  rw [← nearest_shift false m (placeOf r - 1) (k + 1)]
  congr 2
  · rw [Nat.pow_succ, ← Nat.mul_assoc m (2 ^ k) 2]; omega
  · omega

/-- The half of one that is not among the least is exact: a binade lower. -/
theorem half_exact (r : Nat) (h : r < 9218868437227405312) (h2 : -1073 ≤ placeOf r) : double.nearest false (mantOf r) (placeOf r - 1) = r - 4503599627370496 ∧ 9007199254740992 ≤ r := by
  have c := canon_of r
  have e := rungOf_of r
  have c' : canon (mantOf r) (placeOf r - 1) := ⟨c.1, by omega, by have := c.2.2; omega⟩
  have hr : ∀ (M : Nat) (E : Int), -1073 ≤ E → rungOf M E = r → rungOf M (E - 1) = r - 4503599627370496 ∧ 4503599627370496 ≤ r - M := by
    intro M E hE h1
    unfold rungOf at h1 ⊢
    obtain ⟨k, hk⟩ : ∃ k : Nat, E + 1074 = (k : Int) + 1 := ⟨(E + 1073).toNat, by omega⟩
    rw [show (E - 1 + 1074).toNat = k by omega]
    rw [show (E + 1074).toNat = k + 1 by omega] at h1
    omega
  have hr' := hr _ _ h2 e
  have hM : 4503599627370496 ≤ mantOf r := by have := c.2.2; omega
  refine ⟨?_, by omega⟩
  rw [nearest_canon false c', hr'.1, Nat.min_eq_left (by omega)]
  exact if_neg (by decide)

/-- The difference of two with one sign, at one place. -/
theorem sub_num (s : Bool) (m n : Nat) (i j : Int) (less : Bool) (D : Nat) (hD : D ≠ 0)
    (hd : if less then m * 2 ^ (i - min i j).toNat + D = n * 2 ^ (j - min i j).toNat else n * 2 ^ (j - min i j).toNat + D = m * 2 ^ (i - min i j).toNat) :
    Datum.sum (.number s m i) (.number (!s) n j) = some (.number (s != less) D (min i j)) := by
  have key : Datum.sum (.number s m i) (.number (!s) n j) =
      (let total := signed s m (i - min i j).toNat + signed (!s) n (j - min i j).toNat
       some (.number (if total = 0 then s && !s else decide (total < 0)) total.natAbs (min i j))) := rfl
  rw [key]
  have t : signed s m (i - min i j).toNat + signed (!s) n (j - min i j).toNat = if (s != less) then -(D : Int) else (D : Int) := by
    unfold signed
    rw [Nat.shiftLeft_eq, Nat.shiftLeft_eq]
    generalize m * 2 ^ (i - min i j).toNat = u at *
    generalize n * 2 ^ (j - min i j).toNat = v at *
    cases s <;> cases less <;> simp only [Bool.false_eq_true, if_false, if_true, Bool.not_true, Bool.not_false, bne_self_eq_false, Bool.true_bne, Bool.false_bne] at hd ⊢ <;> omega
  simp only [t]
  cases hb : (s != less)
  · simp only [Bool.false_eq_true, if_false]
    rw [if_neg (by omega), decide_eq_false (by omega), Int.natAbs_natCast]
  · simp only [if_true]
    rw [if_neg (by omega), decide_eq_true (by omega), Int.natAbs_neg, Int.natAbs_natCast]
theorem sub_num_0 (s : Bool) (m n : Nat) (i j : Int) (hd : m * 2 ^ (i - min i j).toNat = n * 2 ^ (j - min i j).toNat) :
    Datum.sum (.number s m i) (.number (!s) n j) = some (.number false 0 (min i j)) := by
  have key : Datum.sum (.number s m i) (.number (!s) n j) =
      (let total := signed s m (i - min i j).toNat + signed (!s) n (j - min i j).toNat
       some (.number (if total = 0 then s && !s else decide (total < 0)) total.natAbs (min i j))) := rfl
  rw [key]
  have t : signed s m (i - min i j).toNat + signed (!s) n (j - min i j).toNat = 0 := by
    unfold signed
    rw [Nat.shiftLeft_eq, Nat.shiftLeft_eq, hd]
    generalize n * 2 ^ (j - min i j).toNat = v at *
    cases s <;> simp only [Bool.false_eq_true, if_false, if_true, Bool.not_true, Bool.not_false] <;> omega
  simp only [t, if_true]
  cases s <;> rfl
end Fl
end Go.Proofs.YtokfmeainfkjfaaDoor
