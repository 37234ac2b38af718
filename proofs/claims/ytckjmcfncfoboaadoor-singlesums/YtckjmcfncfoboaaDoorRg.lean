/- Which word a magnitude is rounded to, by any mode, in both kinds: no program here. -/
import Derived.Test.YtckjmcfncfoboaaDoorFs
import Derived.Test.YtckjmcfncfoboaaDoorRn
namespace Go.Proofs.YtckjmcfncfoboaaDoor
namespace Rn
open Ieee

/-- The rung of m 2^e, rounded by a mode, as if rungs had no end; L: the place of the last digit, B: the rungs of a binade, K: the least place. -/
def rungs (L K : Int) (B : Nat) (mode : Int) (neg : Bool) (m : Nat) (e : Int) : Nat := (L - K).toNat * B + rnd mode neg (m * 2 ^ (e - L).toNat) (L - e).toNat

theorem rungs_shift (L K : Int) (B : Nat) (mode : Int) (neg : Bool) (m : Nat) (e : Int) (k : Nat) : rungs L K B mode neg (m * 2 ^ k) (e - k) = rungs L K B mode neg m e := by
  unfold rungs
  congr 1
  by_cases h1 : L ≤ e - k
  · have a1 : (L - (e - k)).toNat = 0 := by omega
    have a2 : (L - e).toNat = 0 := by omega
    rw [a1, a2, rnd_zero, rnd_zero, Nat.mul_assoc, ← Nat.pow_add]
    congr 2; omega
  · by_cases h2 : L ≤ e
    · have a1 : (e - ↑k - L).toNat = 0 := by omega
      have a2 : (L - e).toNat = 0 := by omega
      rw [a1, a2, rnd_zero, Nat.pow_zero, Nat.mul_one]
      have q : m * 2 ^ k = m * 2 ^ (e - L).toNat * 2 ^ (L - (e - ↑k)).toNat := by
        rw [Nat.mul_assoc, ← Nat.pow_add]; congr 2; omega
      rw [q, rnd_mul]
    · have a1 : (e - ↑k - L).toNat = 0 := by omega
      have a2 : (e - L).toNat = 0 := by omega
      have a3 : (L - (e - ↑k)).toNat = (L - e).toNat + k := by omega
      rw [a1, a2, a3, Nat.pow_zero, Nat.mul_one, Nat.mul_one, rnd_shift]

def rung32 (mode : Int) (neg : Bool) (m : Nat) (e : Int) : Nat := rungs (Fs.lastOf m e) (-149) 8388608 mode neg m e
def rung64 (mode : Int) (neg : Bool) (m : Nat) (e : Int) : Nat := rungs (Fl.lastOf m e) (-1074) 4503599627370496 mode neg m e

theorem last32_shift (m : Nat) (e : Int) (k : Nat) (hm : m ≠ 0) : Fs.lastOf (m * 2 ^ k) (e - k) = Fs.lastOf m e := by
  unfold Fs.lastOf; rw [Fl.log2_mul_pow m k hm]; congr 1; omega
theorem last64_shift (m : Nat) (e : Int) (k : Nat) (hm : m ≠ 0) : Fl.lastOf (m * 2 ^ k) (e - k) = Fl.lastOf m e := by
  unfold Fl.lastOf; rw [Fl.log2_mul_pow m k hm]; congr 1; omega
theorem rung32_shift (mode : Int) (neg : Bool) (m : Nat) (e : Int) (k : Nat) (hm : m ≠ 0) : rung32 mode neg (m * 2 ^ k) (e - k) = rung32 mode neg m e := by
  unfold rung32; rw [last32_shift m e k hm, rungs_shift]
theorem rung64_shift (mode : Int) (neg : Bool) (m : Nat) (e : Int) (k : Nat) (hm : m ≠ 0) : rung64 mode neg (m * 2 ^ k) (e - k) = rung64 mode neg m e := by
  unfold rung64; rw [last64_shift m e k hm, rungs_shift]

/-- Two with the same value. -/
def Like (m : Nat) (e : Int) (m' : Nat) (e' : Int) : Prop := m * 2 ^ (e - min e e').toNat = m' * 2 ^ (e' - min e e').toNat
theorem rung32_like {mode : Int} {neg : Bool} {m m' : Nat} {e e' : Int} (hm : m ≠ 0) (hm' : m' ≠ 0) (h : Like m e m' e') : rung32 mode neg m e = rung32 mode neg m' e' := by
  have a := rung32_shift mode neg m e (e - min e e').toNat hm
  have b := rung32_shift mode neg m' e' (e' - min e e').toNat hm'
  rw [show e - ((e - min e e').toNat : Int) = min e e' by omega, h] at a
  rw [show e' - ((e' - min e e').toNat : Int) = min e e' by omega] at b
  rw [← a, ← b]

/-- What is rounded has at most 24 digits, or is 2^24; and 24, if its last place is not the least one. -/
theorem rnd32_bd (mode : Int) (neg : Bool) (m : Nat) (e : Int) (hm : m ≠ 0) :
    rnd mode neg (m * 2 ^ (e - Fs.lastOf m e).toNat) (Fs.lastOf m e - e).toNat ≤ 16777216 ∧
    (-149 < Fs.lastOf m e → 8388608 ≤ rnd mode neg (m * 2 ^ (e - Fs.lastOf m e).toNat) (Fs.lastOf m e - e).toNat) := by
  have h1 := Nat.log2_self_le hm
  have h2 : m < 2 ^ (m.log2 + 1) := Nat.lt_log2_self
  have hL : Fs.lastOf m e = max (e + m.log2 - 23) (-149) := rfl
  generalize Fs.lastOf m e = L at *
  constructor
  · refine rnd_le mode neg _ ?_
    have : m * 2 ^ (e - L).toNat ≤ 2 ^ (m.log2 + 1 + (e - L).toNat) := by
      rw [Nat.pow_add]; exact Nat.mul_le_mul_right _ (Nat.le_of_lt h2)
    refine Nat.le_trans this ?_
    rw [show (16777216 : Nat) = 2 ^ 24 from rfl, ← Nat.pow_add]
    exact Nat.pow_le_pow_right (by decide) (by omega)
  · intro hl
    refine le_rnd mode neg _ ?_
    have : 2 ^ (m.log2 + (e - L).toNat) ≤ m * 2 ^ (e - L).toNat := by
      rw [Nat.pow_add]; exact Nat.mul_le_mul_right _ h1
    refine Nat.le_trans ?_ this
    rw [show (8388608 : Nat) = 2 ^ 23 from rfl, ← Nat.pow_add]
    exact Nat.pow_le_pow_right (by decide) (by omega)
theorem rnd64_bd (mode : Int) (neg : Bool) (m : Nat) (e : Int) (hm : m ≠ 0) :
    rnd mode neg (m * 2 ^ (e - Fl.lastOf m e).toNat) (Fl.lastOf m e - e).toNat ≤ 9007199254740992 ∧
    (-1074 < Fl.lastOf m e → 4503599627370496 ≤ rnd mode neg (m * 2 ^ (e - Fl.lastOf m e).toNat) (Fl.lastOf m e - e).toNat) := by
  have h1 := Nat.log2_self_le hm
  have h2 : m < 2 ^ (m.log2 + 1) := Nat.lt_log2_self
  have hL : Fl.lastOf m e = max (e + m.log2 - 52) (-1074) := rfl
  generalize Fl.lastOf m e = L at *
  constructor
  · refine rnd_le mode neg _ ?_
    have : m * 2 ^ (e - L).toNat ≤ 2 ^ (m.log2 + 1 + (e - L).toNat) := by
      rw [Nat.pow_add]; exact Nat.mul_le_mul_right _ (Nat.le_of_lt h2)
    refine Nat.le_trans this ?_
    rw [show (9007199254740992 : Nat) = 2 ^ 53 from rfl, ← Nat.pow_add]
    exact Nat.pow_le_pow_right (by decide) (by omega)
  · intro hl
    refine le_rnd mode neg _ ?_
    have : 2 ^ (m.log2 + (e - L).toNat) ≤ m * 2 ^ (e - L).toNat := by
      rw [Nat.pow_add]; exact Nat.mul_le_mul_right _ h1
    refine Nat.le_trans ?_ this
    rw [show (4503599627370496 : Nat) = 2 ^ 52 from rfl, ← Nat.pow_add]
    exact Nat.pow_le_pow_right (by decide) (by omega)

/-- Which end a mode gives to what lies beyond. -/
def far (mode : Int) (neg : Bool) : Bool := decide (mode = 1) || decide (mode = 2) || (decide (mode = 3) && !neg) || (decide (mode = 4) && neg)
def cap32 (mode : Int) (neg : Bool) (r : Nat) : Nat := if r < 2139095040 then r else if far mode neg then 2139095040 else 2139095039
/-- The word of a value that is not 0, rounded to a single. -/
def word32 (mode : Int) (neg : Bool) (m : Nat) (e : Int) : Nat := single.word neg (cap32 mode neg (rung32 mode neg m e))

theorem cap32_rise (mode : Int) (neg : Bool) {r r' : Nat} (h : r ≤ r') : cap32 mode neg r ≤ cap32 mode neg r' := by
  unfold cap32
  split <;> split <;> (try split) <;> omega
theorem cap32_le (mode : Int) (neg : Bool) (r : Nat) : cap32 mode neg r ≤ 2139095040 := by
  unfold cap32
  split
  · omega
  · split <;> omega

/-- The greater magnitude has the greater rung. -/
theorem rung32_rise (mode : Int) (neg : Bool) {m m' : Nat} (e : Int) (hm : m ≠ 0) (h : m ≤ m') : rung32 mode neg m e ≤ rung32 mode neg m' e := by
  have b1 := rnd32_bd mode neg m e hm
  have b2 := rnd32_bd mode neg m' e (by omega)
  have hlog : m.log2 ≤ m'.log2 := by
    rw [Nat.le_log2 (by omega)]
    exact Nat.le_trans (Nat.log2_self_le hm) h
  have hL : Fs.lastOf m e ≤ Fs.lastOf m' e := by unfold Fs.lastOf; omega
  have hl0 : -149 ≤ Fs.lastOf m e := by unfold Fs.lastOf; omega
  unfold rung32 rungs
  by_cases hE : Fs.lastOf m e = Fs.lastOf m' e
  · rw [hE]
    have := rnd_rise mode neg (Fs.lastOf m' e - e).toNat (Nat.mul_le_mul_right (2 ^ (e - Fs.lastOf m' e).toNat) h)
    omega
  · have := b2.2 (by omega)
    omega

/-- Even is the model's own way. -/
theorem nearest32 (neg : Bool) (m : Nat) (e : Int) (hm : m ≠ 0) : single.nearest neg m e = word32 1 neg m e := by
  rw [Fs.nearest_eq neg m e hm]
  unfold word32 cap32 rung32 rungs
  rw [rnd_even]
  have : far 1 neg = true := rfl
  rw [this, if_pos rfl, show Fs.lastOf m e - -149 = Fs.lastOf m e + 149 by omega]
  congr 1
  split <;> omega

/-- A front of at most 2^24 at its last place, as a single. -/
theorem single_front (neg : Bool) (q : Nat) (L : Int) (hq : q ≤ 16777216) (hL : -149 ≤ L) (hn : -149 < L → 8388608 ≤ q) :
    single.nearest neg q L = single.word neg (min ((L + 149).toNat * 8388608 + q) 2139095040) := by
  by_cases h : q = 16777216
  · have c : Fs.canon 8388608 (L + 1) := ⟨by decide, by omega, Or.inl (by decide)⟩
    have s := Fs.nearest_shift neg 8388608 (L + 1) 1
    rw [show (8388608 * 2 ^ 1 : Nat) = 16777216 from rfl, show L + 1 - ((1 : Nat) : Int) = L by omega] at s
    have e : Fs.rungOf 8388608 (L + 1) = (L + 149).toNat * 8388608 + 16777216 := by unfold Fs.rungOf; omega
    rw [h, s, Fs.nearest_canon neg c, e]
  · have c : Fs.canon q L := ⟨by omega, hL, by omega⟩
    rw [Fs.nearest_canon neg c]
    rfl
theorem double_front (neg : Bool) (q : Nat) (L : Int) (hq : q ≤ 9007199254740992) (hL : -1074 ≤ L) (hn : -1074 < L → 4503599627370496 ≤ q) :
    double.nearest neg q L = double.word neg (min ((L + 1074).toNat * 4503599627370496 + q) 9218868437227405312) := by
  by_cases h : q = 9007199254740992
  · have c : Fl.canon 4503599627370496 (L + 1) := ⟨by decide, by omega, Or.inl (by decide)⟩
    have s := Fl.nearest_shift neg 4503599627370496 (L + 1) 1
    rw [show (4503599627370496 * 2 ^ 1 : Nat) = 9007199254740992 from rfl, show L + 1 - ((1 : Nat) : Int) = L by omega] at s
    have e : Fl.rungOf 4503599627370496 (L + 1) = (L + 1074).toNat * 4503599627370496 + 9007199254740992 := by unfold Fl.rungOf; omega
    rw [h, s, Fl.nearest_canon neg c, e]
  · have c : Fl.canon q L := ⟨by omega, hL, by omega⟩
    rw [Fl.nearest_canon neg c]
    rfl
end Rn
end Go.Proofs.YtckjmcfncfoboaaDoor
