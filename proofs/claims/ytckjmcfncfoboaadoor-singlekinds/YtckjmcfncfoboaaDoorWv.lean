/- A whole number as a word: how it stands to a power of two, and the whole number back: no program here. -/
import Derived.Test.YtckjmcfncfoboaaDoorSd
namespace Go.Proofs.YtckjmcfncfoboaaDoor
open Ieee

theorem zero_cut (neg : Bool) (n d : Nat) : Toward.zero.cut neg (n * 2 ^ d) d = n := by
  have h0 : Toward.zero.cut neg (n * 2 ^ d) d = (n * 2 ^ d) / (1 <<< min d ((n * 2 ^ d).log2 + 2)) + 0 := rfl
  rw [h0, Nat.add_zero, Nat.one_shiftLeft]
  by_cases hn : n = 0
  · subst hn; rw [Nat.zero_mul, Nat.zero_div]
  · have : d ≤ (n * 2 ^ d).log2 + 2 := by rw [Fl.log2_mul_pow n d hn]; omega
    rw [Nat.min_eq_left this, Nat.mul_div_cancel _ (Nat.two_pow_pos d)]

/-- What the word of M 2^L is. -/
theorem whole_word (neg : Bool) (M L : Nat) (h0 : M ≠ 0) (hM : M < 9007199254740992) (hL : L + M.log2 ≤ 1023) :
    ∃ R, double.nearest neg M L = double.word neg R ∧ R < 9218868437227405312 ∧ R ≠ 0 ∧
      (∀ t, 52 ≤ t → t ≤ 1000 → (R < (t + 1023) * 4503599627370496 ↔ M * 2 ^ L < 2 ^ t) ∧ ((t + 1023) * 4503599627370496 < R ↔ 2 ^ t < M * 2 ^ L)) ∧
      (double.read (double.nearest neg M L)).toInt .zero = some (signed neg (M * 2 ^ L) 0) := by
  have f : Fl.Fits M (L : Int) := ⟨h0, hM, by omega, by omega⟩
  obtain ⟨k, c, r, e, rd⟩ := Fl.fit neg f
  have hp : 1 ≤ 2 ^ k := Nat.one_le_two_pow
  have hM1 : 1 ≤ M * 2 ^ k := by
    have := Nat.mul_le_mul (show 1 ≤ M by omega) hp
    omega
  have hb : 4503599627370496 ≤ M * 2 ^ k := by
    rcases c.2.2 with x | x
    · exact x
    · have hk : k = L + 1074 := by omega
      have h2 : (2 : Nat) ^ 52 ≤ 2 ^ k := Nat.pow_le_pow_right (by decide) (by omega)
      have h3 : 1 * 2 ^ k ≤ M * 2 ^ k := Nat.mul_le_mul_right _ (by omega)
      have h4 : (2 : Nat) ^ 52 = 4503599627370496 := rfl
      omega
  have hb2 : M * 2 ^ k < 9007199254740992 := c.1
  refine ⟨Fl.rungOf (M * 2 ^ k) (L - k), e, r, ?_, ?_, ?_⟩
  · unfold Fl.rungOf; omega
  · intro t ht0 ht1
    -- E' = L - k against t - 52
    have hlt : (Fl.rungOf (M * 2 ^ k) (L - k) < (t + 1023) * 4503599627370496 ↔ (L : Int) - k < t - 52) ∧
        ((t + 1023) * 4503599627370496 < Fl.rungOf (M * 2 ^ k) (L - k) ↔ ((t : Int) - 52 < L - k ∨ ((L : Int) - k = t - 52 ∧ 4503599627370496 < M * 2 ^ k))) := by
      unfold Fl.rungOf
      generalize M * 2 ^ k = N at *
      have c2 := c.2.1
      constructor
      · constructor <;> intro h <;> omega
      · constructor <;> intro h <;> omega
    rw [hlt.1, hlt.2]
    by_cases hkl : k ≤ L
    · obtain ⟨j, rfl⟩ : ∃ j, L = k + j := ⟨L - k, by omega⟩
      have hv : M * 2 ^ (k + j) = (M * 2 ^ k) * 2 ^ j := by rw [Nat.pow_add, Nat.mul_assoc]
      rw [hv]
      generalize M * 2 ^ k = N at *
      have up : ∀ d, 4503599627370496 * 2 ^ d ≤ N * 2 ^ d := fun d => Nat.mul_le_mul_right _ hb
      have dn : ∀ d, N * 2 ^ d < 9007199254740992 * 2 ^ d := fun d => Nat.mul_lt_mul_of_pos_right hb2 (Nat.two_pow_pos d)
      have p52 : (4503599627370496 : Nat) = 2 ^ 52 := rfl
      have p53 : (9007199254740992 : Nat) = 2 ^ 53 := rfl
      rcases Nat.lt_trichotomy (52 + j) t with h | h | h
      · have h1 : N * 2 ^ j < 2 ^ t := by
          refine Nat.lt_of_lt_of_le (dn j) ?_
          rw [p53, ← Nat.pow_add]; exact Nat.pow_le_pow_right (by decide) (by omega)
        constructor
        · exact ⟨fun _ => h1, fun _ => by omega⟩
        · exact ⟨fun c => by omega, fun c => by omega⟩
      · subst h
        have h1 : 2 ^ (52 + j) ≤ N * 2 ^ j := by rw [Nat.pow_add, ← p52]; exact up j
        constructor
        · exact ⟨fun _ => by omega, fun c => by omega⟩
        · constructor
          · rintro (c | ⟨_, c⟩)
            · omega
            · rw [Nat.pow_add, ← p52]; exact Nat.mul_lt_mul_of_pos_right c (Nat.two_pow_pos j)
          · intro c
            right
            refine ⟨by omega, ?_⟩
            rw [Nat.pow_add, ← p52] at c
            exact Nat.lt_of_mul_lt_mul_right c
      · have h1 : 2 ^ t < N * 2 ^ j := by
          refine Nat.lt_of_lt_of_le ?_ (up j)
          rw [p52, ← Nat.pow_add]; exact Nat.pow_lt_pow_right (by decide) (by omega)
        constructor
        · exact ⟨fun c => by omega, fun c => by omega⟩
        · exact ⟨fun _ => h1, fun _ => by omega⟩
    · obtain ⟨j, rfl⟩ : ∃ j, k = L + (j + 1) := ⟨k - L - 1, by omega⟩
      have hv : M * 2 ^ (L + (j + 1)) = (M * 2 ^ L) * 2 ^ (j + 1) := by rw [Nat.pow_add, Nat.mul_assoc]
      have hs : M * 2 ^ L < 2 ^ 52 := by
        rw [hv] at hb2
        have h2 : 2 ^ 1 ≤ 2 ^ (j + 1) := Nat.pow_le_pow_right (by decide) (by omega)
        have h3 : M * 2 ^ L * 2 ^ 1 ≤ M * 2 ^ L * 2 ^ (j + 1) := Nat.mul_le_mul_left _ h2
        omega
      have h1 : M * 2 ^ L < 2 ^ t := Nat.lt_of_lt_of_le hs (Nat.pow_le_pow_right (by decide) ht0)
      constructor
      · exact ⟨fun _ => h1, fun _ => by omega⟩
      · exact ⟨fun c => by omega, fun c => by omega⟩
  · rw [rd]
    unfold Datum.toInt Datum.integral
    by_cases hkl : k ≤ L
    · have e1 : ((L : Int) - k).toNat = L - k := by omega
      have e2 : (-((L : Int) - k)).toNat = 0 := by omega
      have e3 : (M * 2 ^ k) <<< (L - k) = M * 2 ^ L := by
        rw [Nat.shiftLeft_eq, Nat.mul_assoc, ← Nat.pow_add]; congr 2; omega
      have z := zero_cut neg (M * 2 ^ L) 0
      rw [Nat.pow_zero, Nat.mul_one] at z
      simp only [e1, e2, e3, z]
    · have e1 : ((L : Int) - k).toNat = 0 := by omega
      have e2 : (-((L : Int) - k)).toNat = k - L := by omega
      have e3 : (M * 2 ^ k) <<< 0 = (M * 2 ^ L) * 2 ^ (k - L) := by
        rw [Nat.shiftLeft_zero, Nat.mul_assoc, ← Nat.pow_add]; congr 2; omega
      have z := zero_cut neg (M * 2 ^ L) (k - L)
      simp only [e1, e2, e3, z]
end Go.Proofs.YtckjmcfncfoboaaDoor
