/- The order of two words, and words taken apart and put together: no program here. -/
import Derived.Test.YtckjmcfncfoboaaDoorFl
import Derived.Test.YtckjmcfncfoboaaDoorSp
namespace Go.Proofs.YtckjmcfncfoboaaDoor
namespace Fl
open Ieee

theorem place_mono {r r' : Nat} (h : r ≤ r') : placeOf r ≤ placeOf r' := by
  unfold placeOf
  have : r / 4503599627370496 ≤ r' / 4503599627370496 := Nat.div_le_div_right h
  omega

/-- The greater rung is the greater number, scaled to one place. -/
theorem scale_lt {r r' : Nat} (h : r < r') : mantOf r < mantOf r' * 2 ^ (placeOf r' - placeOf r).toNat := by
  have hm := place_mono (Nat.le_of_lt h)
  have c := canon_of r
  have c' := canon_of r'
  have e := rungOf_of r
  have e' := rungOf_of r'
  by_cases hp : placeOf r = placeOf r'
  · rw [hp, show (placeOf r' - placeOf r').toNat = 0 by omega, Nat.pow_zero, Nat.mul_one]
    unfold rungOf at e e'
    rw [hp] at e
    omega
  · obtain ⟨d, hd⟩ : ∃ d, (placeOf r' - placeOf r).toNat = d + 1 := ⟨(placeOf r' - placeOf r).toNat - 1, by omega⟩
    have h52 : 4503599627370496 ≤ mantOf r' := by
      rcases c'.2.2 with x | x
      · exact x
      · have := c.2.1; omega
    have hp1 : 1 ≤ 2 ^ d := Nat.one_le_two_pow
    have hM := c.1
    have : mantOf r' * 1 ≤ mantOf r' * 2 ^ d := Nat.mul_le_mul_left _ hp1
    rw [hd, Nat.pow_succ, ← Nat.mul_assoc]
    omega

/-- How two data with these signs and rungs stand. -/
def ordW (s t : Bool) (r r' : Nat) : Ordering :=
  if r = 0 ∧ r' = 0 then .eq else
  match s, t with
  | false, false => if r < r' then .lt else if r = r' then .eq else .gt
  | true, true => if r' < r then .lt else if r = r' then .eq else .gt
  | true, false => .lt
  | false, true => .gt

theorem mant_zero (r : Nat) : mantOf r = 0 ↔ r = 0 := by
  unfold mantOf; split <;> omega

theorem order_num (s t : Bool) (r r' : Nat) : Datum.order (.number s (mantOf r) (placeOf r)) (.number t (mantOf r') (placeOf r')) = some (ordW s t r r') := by
  have hz := mant_zero r
  have hz' := mant_zero r'
  -- the two whole parts at one place
  obtain ⟨u, v, hu, hv, hlt, heq, hgt, hu0, hv0⟩ : ∃ u v : Nat, mantOf r <<< (placeOf r - min (placeOf r) (placeOf r')).toNat = u ∧ mantOf r' <<< (placeOf r' - min (placeOf r) (placeOf r')).toNat = v ∧ (r < r' → u < v) ∧ (r = r' → u = v) ∧ (r' < r → v < u) ∧ (u = 0 ↔ r = 0) ∧ (v = 0 ↔ r' = 0) := by
    refine ⟨_, _, rfl, rfl, ?_, ?_, ?_, ?_, ?_⟩
    · intro h
      have hm := place_mono (Nat.le_of_lt h)
      rw [Int.min_eq_left hm, Nat.shiftLeft_eq, Nat.shiftLeft_eq, show (placeOf r - placeOf r).toNat = 0 by omega, Nat.pow_zero, Nat.mul_one]
      exact scale_lt h
    · intro h; rw [h, Int.min_self]
    · intro h
      have hm := place_mono (Nat.le_of_lt h)
      rw [Int.min_eq_right hm, Nat.shiftLeft_eq, Nat.shiftLeft_eq, show (placeOf r' - placeOf r').toNat = 0 by omega, Nat.pow_zero, Nat.mul_one]
      exact scale_lt h
    · rw [Nat.shiftLeft_eq, Nat.mul_eq_zero, hz]
      have := Nat.two_pow_pos (placeOf r - min (placeOf r) (placeOf r')).toNat
      omega
    · rw [Nat.shiftLeft_eq, Nat.mul_eq_zero, hz']
      have := Nat.two_pow_pos (placeOf r' - min (placeOf r) (placeOf r')).toNat
      omega
  have key : Datum.order (.number s (mantOf r) (placeOf r)) (.number t (mantOf r') (placeOf r')) = some (compareOfLessAndEq (if s then -(u : Int) else u) (if t then -(v : Int) else v)) := by
    rw [← hu, ← hv]; rfl
  rw [key]
  clear key hu hv
  congr 1
  unfold compareOfLessAndEq ordW
  by_cases z : r = 0 ∧ r' = 0
  · have h1 : u = 0 := hu0.2 z.1
    have h2 : v = 0 := hv0.2 z.2
    rw [if_pos z, h1, h2]
    cases s <;> cases t <;> rfl
  · rw [if_neg z]
    have hh : ¬ (u = 0 ∧ v = 0) := fun c => z ⟨hu0.1 c.1, hv0.1 c.2⟩
    rcases Nat.lt_trichotomy r r' with c | c | c
    · have := hlt c
      cases s <;> cases t
      · show (if (u : Int) < v then _ else _) = if r < r' then _ else _
        rw [if_pos (by omega), if_pos c]
      · show (if (u : Int) < -(v : Int) then _ else if (u : Int) = -(v : Int) then _ else _) = Ordering.gt
        rw [if_neg (by omega), if_neg (by omega)]
      · show (if -(u : Int) < (v : Int) then _ else _) = Ordering.lt
        rw [if_pos (by omega)]
      · show (if -(u : Int) < -(v : Int) then _ else if -(u : Int) = -(v : Int) then _ else _) = if r' < r then _ else if r = r' then _ else _
        rw [if_neg (by omega), if_neg (by omega), if_neg (by omega), if_neg (by omega)]
    · have := heq c
      cases s <;> cases t
      · show (if (u : Int) < v then _ else if (u : Int) = v then _ else _) = if r < r' then _ else if r = r' then _ else _
        rw [if_neg (by omega), if_pos (by omega), if_neg (by omega), if_pos c]
      · show (if (u : Int) < -(v : Int) then _ else if (u : Int) = -(v : Int) then _ else _) = Ordering.gt
        rw [if_neg (by omega), if_neg (by omega)]
      · show (if -(u : Int) < (v : Int) then _ else _) = Ordering.lt
        rw [if_pos (by omega)]
      · show (if -(u : Int) < -(v : Int) then _ else if -(u : Int) = -(v : Int) then _ else _) = if r' < r then _ else if r = r' then _ else _
        rw [if_neg (by omega), if_pos (by omega), if_neg (by omega), if_pos c]
    · have := hgt c
      cases s <;> cases t
      · show (if (u : Int) < v then _ else if (u : Int) = v then _ else _) = if r < r' then _ else if r = r' then _ else _
        rw [if_neg (by omega), if_neg (by omega), if_neg (by omega), if_neg (by omega)]
      · show (if (u : Int) < -(v : Int) then _ else if (u : Int) = -(v : Int) then _ else _) = Ordering.gt
        rw [if_neg (by omega), if_neg (by omega)]
      · show (if -(u : Int) < (v : Int) then _ else _) = Ordering.lt
        rw [if_pos (by omega)]
      · show (if -(u : Int) < -(v : Int) then _ else _) = if r' < r then _ else _
        rw [if_pos (by omega), if_pos c]

theorem read_inf (s : Bool) : double.read (double.word s 9218868437227405312) = .infinity s := by
  rw [read_word s _ (by decide), if_neg (by decide), if_neg (by decide), if_pos rfl]

theorem order_words (s t : Bool) (r r' : Nat) (h : r ≤ 9218868437227405312) (h' : r' ≤ 9218868437227405312) : double.order (double.word s r) (double.word t r') = some (ordW s t r r') := by
  unfold Format.order
  by_cases c : r < 9218868437227405312
  · rw [read_fin s r c]
    by_cases c' : r' < 9218868437227405312
    · rw [read_fin t r' c']
      exact order_num s t r r'
    · have e : r' = 9218868437227405312 := by omega
      rw [e, read_inf]
      unfold Datum.order ordW
      rw [if_neg (by omega)]
      cases s <;> cases t
      · show some Ordering.lt = some (if _ then _ else _); rw [if_pos c]
      · rfl
      · rfl
      · show some Ordering.gt = some (if _ then _ else if _ then _ else _); rw [if_neg (by omega), if_neg (by omega)]
  · have e : r = 9218868437227405312 := by omega
    rw [e, read_inf]
    by_cases c' : r' < 9218868437227405312
    · rw [read_fin t r' c']
      unfold Datum.order ordW
      rw [if_neg (by omega)]
      cases s <;> cases t
      · show some Ordering.gt = some (if _ then _ else if _ then _ else _); rw [if_neg (by omega), if_neg (by omega)]
      · rfl
      · rfl
      · show some Ordering.lt = some (if _ then _ else _); rw [if_pos c']
    · have e' : r' = 9218868437227405312 := by omega
      rw [e', read_inf]
      cases s <;> cases t <;> rfl
end Fl

theorem word_mag (b : Nat) (h : b < 18446744073709551616) : Ieee.double.word (sgb b) (mag b) = b := by
  have := mag_of b h
  unfold Ieee.Format.word
  rw [Fl.sw]
  cases hs : sgb b
  · rw [hs] at this; simp only [Bool.false_eq_true, if_false] at this ⊢; omega
  · rw [hs] at this; simp only [if_true] at this ⊢; omega
theorem order_bits (a b : Nat) (ha : a < 18446744073709551616) (hb : b < 18446744073709551616) (na : isN a = false) (nb : isN b = false) : Ieee.double.order a b = some (Fl.ordW (sgb a) (sgb b) (mag a) (mag b)) := by
  have h1 := isN_not na
  have h2 := isN_not nb
  have := Fl.order_words (sgb a) (sgb b) (mag a) (mag b) (by omega) (by omega)
  rwa [word_mag a ha, word_mag b hb] at this
end Go.Proofs.YtckjmcfncfoboaaDoor
