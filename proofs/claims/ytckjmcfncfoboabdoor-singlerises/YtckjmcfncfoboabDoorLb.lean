/- SingleBack: what its three parts say, without a program. -/
import Derived.Test.YtckjmcfncfoboabDoorSq
namespace Go.Proofs.YtckjmcfncfoboabDoor
open Go.RowKit
open Ieee

/-- A single that is widened is narrowed to itself, by any mode, without flags. -/
theorem back_single (mode : Int) (neg : Bool) (r : Nat) (h : r ≤ 2139095040) :
    nwW mode (wdW neg r) = single.word neg r ∧ nwI mode (wdW neg r) = false ∧ nwO mode (wdW neg r) = false ∧ nwU mode (wdW neg r) = false := by
  by_cases hi : r = 2139095040
  · have e : wdW neg r = double.word neg 9218868437227405312 := by unfold wdW; rw [if_pos hi]
    have hw := word64_lt neg 9218868437227405312 (by decide)
    have hp : plainB (double.word neg 9218868437227405312) = true := by unfold plainB; rw [hw.2.1]; decide
    rw [e, hi]
    refine ⟨?_, ?_, ?_, ?_⟩
    · unfold nwW; rw [hw.2.1, hw.2.2, if_pos rfl]
    · unfold nwI; rw [hp, Bool.not_true, Bool.false_and]
    · unfold nwO; rw [hp, Bool.not_true, Bool.false_and]
    · unfold nwU; rw [hp, Bool.not_true, Bool.false_and]
  · by_cases h0 : r = 0
    · have e : wdW neg r = double.word neg 0 := by unfold wdW; rw [if_neg hi, if_pos h0]
      have hw := word64_lt neg 0 (by decide)
      have hp : plainB (double.word neg 0) = true := by unfold plainB; rw [hw.2.1]; decide
      rw [e, h0]
      refine ⟨?_, ?_, ?_, ?_⟩
      · unfold nwW; rw [hw.2.1, hw.2.2, if_neg (by decide), if_pos rfl]
      · unfold nwI; rw [hp, Bool.not_true, Bool.false_and]
      · unfold nwO; rw [hp, Bool.not_true, Bool.false_and]
      · unfold nwU; rw [hp, Bool.not_true, Bool.false_and]
    · have e : wdW neg r = double.nearest neg (Fs.mantOf r) (Fs.placeOf r) := by unfold wdW; rw [if_neg hi, if_neg h0]
      have f := fits32 r (by omega) h0
      have hz : Fs.mantOf r ≠ 0 := f.1
      obtain ⟨k, s1, s2, s3, s4, s5⟩ := split_near neg f
      obtain ⟨k', c', r', e', _⟩ := Fl.fit neg f
      have hM' : Fs.mantOf r * 2 ^ k' ≠ 0 := Nat.mul_ne_zero hz (by have := Nat.two_pow_pos k'; omega)
      have hw := word64_lt neg (Fl.rungOf (Fs.mantOf r * 2 ^ k') (Fs.placeOf r - k')) (by omega)
      have hr0 : Fl.rungOf (Fs.mantOf r * 2 ^ k') (Fs.placeOf r - k') ≠ 0 := by unfold Fl.rungOf; omega
      rw [← e'] at hw
      have hL : Fs.lastOf (Fs.mantOf r) (Fs.placeOf r) = Fs.placeOf r := Fs.lastOf_canon (Fs.canon_of r) hz
      have hp : plainB (double.nearest neg (Fs.mantOf r) (Fs.placeOf r)) = false := by
        unfold plainB; rw [hw.2.1, decide_eq_false (by omega), decide_eq_false hr0]; rfl
      have hR : Rn.rung32 mode neg (Fs.mantOf r * 2 ^ k) (Fs.placeOf r - k) = r := by
        rw [Rn.rung32_shift mode neg _ _ k hz]
        unfold Rn.rung32 Rn.rungs
        rw [hL, show (Fs.placeOf r - Fs.placeOf r).toNat = 0 by omega, Nat.pow_zero, Nat.mul_one, Rn.rnd_zero]
        have := Fs.rungOf_of r
        unfold Fs.rungOf at this
        rw [show Fs.placeOf r - -149 = Fs.placeOf r + 149 by omega]
        exact this
      have hO : nrO mode neg (Fs.mantOf r * 2 ^ k) (Fs.placeOf r - k) = false := by
        unfold nrO; rw [hR]; exact decide_eq_false (by omega)
      have hI : nrI (Fs.mantOf r * 2 ^ k) (Fs.placeOf r - k) = false := by
        unfold nrI
        rw [Rn.last32_shift _ _ k hz, hL, show (Fs.placeOf r - (Fs.placeOf r - k)).toNat = k by omega, Nat.mul_mod_left]
        decide
      rw [e]
      refine ⟨?_, ?_, ?_, ?_⟩
      · unfold nwW
        rw [hw.2.1, if_neg (by omega), if_neg hr0, s1, s2, hw.2.2]
        unfold Rn.word32 Rn.cap32
        rw [hR, if_pos (by omega)]
      · unfold nwI; rw [hp, s1, s2, hw.2.2, hO, hI]; rfl
      · unfold nwO; rw [hp, s1, s2, hw.2.2, hO]; rfl
      · unfold nwU nrU; rw [hp, s1, s2, hw.2.2, hO, hI]; rfl

/-- What Whole makes of M 2^p, as a number. -/
theorem whole_near (mode : Int) (neg : Bool) (M p : Nat) (f : Fl.Fits M (p : Int)) :
    whV mode (double.nearest neg M p) = M * 2 ^ p ∧ whW mode (double.nearest neg M p) = double.nearest neg M p ∧ sgb (double.nearest neg M p) = neg ∧ mag (double.nearest neg M p) < 9218868437227405312 ∧ double.nearest neg M p < 18446744073709551616 := by
  obtain ⟨k, s1, s2, s3, s4, s5⟩ := split_near neg f
  obtain ⟨k', c', r', e', _⟩ := Fl.fit neg f
  have hw := word64_lt neg (Fl.rungOf (M * 2 ^ k') (p - k')) (by omega)
  rw [← e'] at hw
  have hp1 : ∀ j, 0 < 2 ^ j := fun j => Nat.two_pow_pos j
  have hM0 := f.1
  have hL : whL (double.nearest neg M p) = (p - k : Int).toNat := by unfold whL; rw [s2]
  have hm : whM mode (double.nearest neg M p) = Rn.rnd mode neg (M * 2 ^ k) (-((p : Int) - k)).toNat := by unfold whM; rw [s1, s2, hw.2.2]
  by_cases hk : k ≤ p
  · have hL' : whL (double.nearest neg M p) = p - k := by rw [hL]; omega
    have hm' : whM mode (double.nearest neg M p) = M * 2 ^ k := by rw [hm, show (-((p : Int) - k)).toNat = 0 by omega, Rn.rnd_zero]
    refine ⟨?_, ?_, hw.2.2, by rw [hw.2.1]; exact r', hw.1⟩
    · unfold whV; rw [hL', hm', Nat.mul_assoc, ← Nat.pow_add]; congr 2; omega
    · unfold whW
      rw [hm', if_neg (Nat.mul_ne_zero hM0 (by have := hp1 k; omega)), hL', hw.2.2, show ((p - k : Nat) : Int) = p - k by omega, Fl.nearest_shift]
  · have hL' : whL (double.nearest neg M p) = 0 := by rw [hL]; omega
    have hm' : whM mode (double.nearest neg M p) = M * 2 ^ p := by
      rw [hm, show (-((p : Int) - k)).toNat = k - p by omega]
      have : M * 2 ^ k = (M * 2 ^ p) * 2 ^ (k - p) := by rw [Nat.mul_assoc, ← Nat.pow_add]; congr 2; omega
      rw [this, Rn.rnd_mul]
    refine ⟨?_, ?_, hw.2.2, by rw [hw.2.1]; exact r', hw.1⟩
    · unfold whV; rw [hL', hm', Nat.pow_zero, Nat.mul_one]
    · unfold whW
      rw [hm', if_neg (Nat.mul_ne_zero hM0 (by have := hp1 p; omega)), hL', hw.2.2]
      have := Fl.nearest_shift neg M (p : Int) p
      rw [show (p : Int) - (p : Nat) = 0 by omega] at this
      exact this

/-- Whole of Whole is it. -/
theorem back_whole (mode : Int) (b : Nat) (h : mag b < 9218868437227405312) : whW mode b < 18446744073709551616 ∧ mag (whW mode b) < 9218868437227405312 ∧ whW mode (whW mode b) = whW mode b := by
  obtain ⟨f1, f2, f3⟩ := wh_facts mode b h
  by_cases c : whM mode b = 0
  · have e : whW mode b = double.word (sgb b) 0 := by unfold whW; rw [if_pos c]
    have hw := word64_lt (sgb b) 0 (by decide)
    rw [e]
    refine ⟨hw.1, by rw [hw.2.1]; decide, ?_⟩
    have hz : whM mode (double.word (sgb b) 0) = 0 := by
      have s := spl_0 (double.word (sgb b) 0) hw.2.1
      have s2 : (0 : Int) = (spM (double.word (sgb b) 0) : Int) := s.2.1
      have s2' : spM (double.word (sgb b) 0) = 0 := by omega
      unfold whM; rw [s2', Rn.rnd_nought]
    unfold whW
    rw [hz, if_pos rfl, hw.2.2]
  · have e : whW mode b = double.nearest (sgb b) (whM mode b) (whL b) := by unfold whW; rw [if_neg c]
    have f : Fl.Fits (whM mode b) (whL b : Int) := ⟨c, f1, by omega, by omega⟩
    obtain ⟨_, w2, _, w4, w5⟩ := whole_near mode (sgb b) (whM mode b) (whL b) f
    rw [e]
    exact ⟨w5, w4, w2⟩

/-- A whole number of at most 2^53 comes back. -/
theorem back_int (mode : Int) (neg : Bool) (n : Nat) (h : n ≤ 9007199254740992) :
    frX n 53 = false ∧ frW mode neg n 53 < 18446744073709551616 ∧ mag (frW mode neg n 53) < 9218868437227405312 ∧ whV mode (frW mode neg n 53) = n ∧ (n ≠ 0 → sgb (frW mode neg n 53) = neg) := by
  by_cases h0 : n = 0
  · have e : frW mode neg n 53 = double.word neg 0 := by unfold frW; rw [if_pos h0]
    have hw := word64_lt neg 0 (by decide)
    rw [e]
    refine ⟨by unfold frX; rw [h0, Nat.zero_mod]; decide, hw.1, by rw [hw.2.1]; decide, ?_, fun c => absurd h0 c⟩
    have s := spl_0 (double.word neg 0) hw.2.1
    have s2 : (0 : Int) = (spM (double.word neg 0) : Int) := s.2.1
    have s2' : spM (double.word neg 0) = 0 := by omega
    unfold whV whM; rw [s2', Rn.rnd_nought, Nat.zero_mul, h0]
  · have hx : n % 2 ^ cutOf n 53 = 0 := by
      by_cases c : n = 9007199254740992
      · subst c; decide
      · have hl : n.log2 < 53 := (Nat.log2_lt h0).2 (show n < 2 ^ 53 by omega)
        have : cutOf n 53 = 0 := by unfold cutOf; omega
        rw [this, Nat.pow_zero, Nat.mod_one]
    have e : frW mode neg n 53 = double.nearest neg (n / 2 ^ cutOf n 53) (cutOf n 53 : Nat) := by unfold frW; rw [if_neg h0, Rn.rnd_exact _ _ _ _ hx]
    have hd : n / 2 ^ cutOf n 53 * 2 ^ cutOf n 53 = n := by
      have := Nat.div_add_mod n (2 ^ cutOf n 53)
      rw [hx, Nat.mul_comm] at this
      exact this
    have hq0 : n / 2 ^ cutOf n 53 ≠ 0 := fun c => by rw [c, Nat.zero_mul] at hd; omega
    have hq1 : n / 2 ^ cutOf n 53 < 9007199254740992 := by
      by_cases c : n = 9007199254740992
      · subst c; decide
      · have := Nat.div_le_self n (2 ^ cutOf n 53); omega
    have hql : (n / 2 ^ cutOf n 53).log2 < 53 := (Nat.log2_lt hq0).2 hq1
    have hc := (fr_facts mode neg n 53 h0 (by omega) (Or.inl rfl)).2.2.1
    have f : Fl.Fits (n / 2 ^ cutOf n 53) (cutOf n 53 : Nat) := ⟨hq0, hq1, by omega, by omega⟩
    obtain ⟨w1, w2, w3, w4, w5⟩ := whole_near mode neg _ _ f
    rw [e]
    exact ⟨decide_eq_false (by rw [hx]; simp), w5, w4, by rw [w1, hd], fun _ => w3⟩
end Go.Proofs.YtckjmcfncfoboabDoor
