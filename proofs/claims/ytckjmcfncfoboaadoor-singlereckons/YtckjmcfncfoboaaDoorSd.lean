/- What Join gives where the number is one; a word taken apart; a number as a single: no program here but Join's plain functions. -/
import Derived.Test.YtckjmcfncfoboaaDoorPj
import Derived.Test.YtckjmcfncfoboaaDoorRb
import Derived.Test.YtckjmcfncfoboaaDoorFo
import Derived.Laws.FloatArith
namespace Go.Proofs.YtckjmcfncfoboaaDoor
open Go.RowKit
open Ieee

theorem join_ok (neg : Bool) (m : Nat) (e : Int) (h0 : m ≠ 0) (h1 : m ≤ 9007199254740992) (he : -1074 ≤ e) (ht : e + m.log2 ≤ 1023) :
    joinW neg m e = double.nearest neg m e ∧ joinR m e = 0 := by
  obtain ⟨hk, _, ho, hm, _⟩ := odd_facts (m : Int) (by omega) (by omega)
  rw [Int.toNat_natCast] at hm hk
  have hne : ¬ (m : Int) = 0 := by omega
  have hE : oddE (m : Int) e = e + (Lib.ctz 64 m : Nat) := by unfold oddE; rw [Int.toNat_natCast]
  have hlog : m.log2 = (oddM (m : Int)).log2 + Lib.ctz 64 m := by
    rw [← Fl.log2_mul_pow _ _ (by omega), ← hm]
  have hlt : (oddM (m : Int)).log2 ≤ 52 := by
    by_cases c : m = 9007199254740992
    · have e1 : oddM (m : Int) * 2 ^ Lib.ctz 64 m = 1 * 2 ^ 53 := by rw [← hm, c]
      have : oddM (m : Int) = 1 := (odd_unique _ 1 _ 53 ho (by decide) e1).2
      rw [this]; decide
    · have : m.log2 < 53 := (Nat.log2_lt h0).2 (show m < 2 ^ 53 by omega)
      omega
  have hok : joinOk (m : Int) e = true := by
    unfold joinOk hld
    rw [hE]
    exact decide_eq_true (by omega)
  unfold joinW joinR
  rw [if_neg hne, if_neg hne, hok, if_pos rfl, if_pos rfl]
  refine ⟨?_, rfl⟩
  have := Fl.nearest_shift neg (oddM (m : Int)) (oddE (m : Int) e) (Lib.ctz 64 m)
  rw [← hm, hE, show e + ((Lib.ctz 64 m : Nat) : Int) - (Lib.ctz 64 m : Nat) = e by omega] at this
  rw [hE, this]
theorem join_nought (neg : Bool) (e : Int) : joinW neg 0 e = double.word neg 0 ∧ joinR 0 e = 0 := by
  unfold joinW joinR
  rw [if_pos rfl, if_pos rfl]; exact ⟨rfl, rfl⟩

theorem word64_lt (neg : Bool) (r : Nat) (h : r < 9223372036854775808) : double.word neg r < 18446744073709551616 ∧ mag (double.word neg r) = r ∧ sgb (double.word neg r) = neg := by
  unfold Format.word mag sgb
  rw [Fl.sw]
  cases neg
  · simp only [Bool.false_eq_true, if_false]; exact ⟨by omega, by omega, decide_eq_false (by omega)⟩
  · simp only [if_true]; exact ⟨by omega, by omega, decide_eq_true (by omega)⟩

/-- A word taken apart. -/
theorem split_canon (neg : Bool) {M : Nat} {E : Int} (c : Fl.canon M E) (hM : M ≠ 0) (h : Fl.rungOf M E < 9218868437227405312) :
    spM (double.word neg (Fl.rungOf M E)) = M ∧ spE (double.word neg (Fl.rungOf M E)) = E ∧ spN (double.word neg (Fl.rungOf M E)) = neg ∧ spR (double.word neg (Fl.rungOf M E)) = 0 := by
  obtain ⟨_, hm, hs⟩ := word64_lt neg (Fl.rungOf M E) (by omega)
  obtain ⟨c1, c2, c3⟩ := c
  have hr : Fl.rungOf M E = (E + 1074).toNat * 4503599627370496 + M := rfl
  generalize double.word neg (Fl.rungOf M E) = b at *
  generalize Fl.rungOf M E = r at *
  have h1 : ¬ 9218868437227405312 ≤ mag b := by omega
  have h2 : ¬ mag b = 0 := by omega
  refine ⟨?_, ?_, ?_, ?_⟩
  · unfold spM
    rw [if_neg h1]
    split <;> omega
  · unfold spE
    rw [if_neg h1, if_neg h2]
    split <;> omega
  · unfold spN
    rw [if_neg h1, hs]
  · unfold spR
    rw [if_neg h1]

/-- A number that is rounded to a word exactly, taken apart. -/
theorem split_near (neg : Bool) {m : Nat} {p : Int} (f : Fl.Fits m p) : ∃ k : Nat, spM (double.nearest neg m p) = m * 2 ^ k ∧ spE (double.nearest neg m p) = p - k ∧ spN (double.nearest neg m p) = neg ∧ spR (double.nearest neg m p) = 0 ∧
    double.nearest neg m p < 18446744073709551616 := by
  obtain ⟨k, c, r, e, _⟩ := Fl.fit neg f
  have hM : m * 2 ^ k ≠ 0 := Nat.mul_ne_zero f.1 (by have := Nat.two_pow_pos k; omega)
  obtain ⟨a1, a2, a3, a4⟩ := split_canon neg c hM r
  rw [e]
  exact ⟨k, a1, a2, a3, a4, (word64_lt neg _ (by omega)).1⟩

/-- A number as a single, where it is none beyond. -/
theorem conv32 (neg : Bool) {m : Nat} {p : Int} (f : Fl.Fits m p) (hr : Rn.rung32 1 neg m p < 2139095040) : floatToFloatBits .f64 (double.nearest neg m p) .f32 = some (Rn.word32 1 neg m p) := by
  obtain ⟨k, _, _, _, e⟩ := Fl.fit neg f
  have hM : m * 2 ^ k ≠ 0 := Nat.mul_ne_zero f.1 (by have := Nat.two_pow_pos k; omega)
  have hd : FloatKind.f64.decode (double.nearest neg m p) = .number neg (m * 2 ^ k) (p - k) := e
  have hn : FloatKind.f32.encode (.number neg (m * 2 ^ k) (p - k)) = Rn.word32 1 neg m p := by
    show single.nearest neg (m * 2 ^ k) (p - k) = _
    rw [Fs.nearest_shift, Rn.nearest32 neg m p f.1]
  have hi : (FloatKind.f32.decode (Rn.word32 1 neg m p)).isInfinity = false := by
    show (single.read (single.word neg (Rn.cap32 1 neg (Rn.rung32 1 neg m p)))).isInfinity = false
    unfold Rn.cap32
    rw [if_pos hr, Fs.read_fin neg _ hr]; rfl
  unfold floatToFloatBits
  rw [if_neg (by decide), hd]
  simp only [hn, hi]
  rfl
theorem conv32_nought (neg : Bool) : floatToFloatBits .f64 (double.word neg 0) .f32 = some (single.word neg 0) := by
  cases neg <;> decide +kernel
theorem conv32_inf (neg : Bool) : floatToFloatBits .f64 (double.word neg 9218868437227405312) .f32 = some (single.word neg 2139095040) := by
  cases neg <;> decide +kernel

/-- The front at its last place, as a single. -/
theorem conv32_front (neg : Bool) (q : Nat) (L : Int) (h0 : q ≠ 0) (hq : q ≤ 16777216) (hL : -149 ≤ L) (hL1 : L ≤ 104) (hn : -149 < L → 8388608 ≤ q) (hr : (L + 149).toNat * 8388608 + q < 2139095040) :
    floatToFloatBits .f64 (double.nearest neg q L) .f32 = some (single.word neg ((L + 149).toNat * 8388608 + q)) := by
  have hlog : q.log2 ≤ 24 := by have := (Nat.log2_lt h0).2 (show q < 2 ^ 25 by omega); omega
  have f : Fl.Fits q L := ⟨h0, by omega, by omega, by omega⟩
  have e := Rn.nearest32 neg q L h0
  rw [Rn.single_front neg q L hq hL hn, Nat.min_eq_left (by omega)] at e
  have hw : Rn.cap32 1 neg (Rn.rung32 1 neg q L) = (L + 149).toNat * 8388608 + q := by
    have := Rn.cap32_le 1 neg (Rn.rung32 1 neg q L)
    unfold Rn.word32 Format.word at e
    rw [Fs.sw] at e
    cases neg
    · simp only [Bool.false_eq_true, if_false] at e; exact e.symm
    · simp only [if_true] at e; omega
  have hr1 : Rn.rung32 1 neg q L < 2139095040 := by
    unfold Rn.cap32 at hw
    split at hw
    · assumption
    · rw [show Rn.far 1 neg = true from rfl, if_pos rfl] at hw; omega
  rw [conv32 neg f hr1, e]
end Go.Proofs.YtckjmcfncfoboaaDoor
