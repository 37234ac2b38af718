/- Binary64 as the model has it: what a word stands for, and when a number is a word: no program here. Rounding a whole number without its last digits, by any of the six modes: no program here. -/
import Ieee.Arith
import GoSem.Core.Float
namespace Go.Proofs.YtnceajanlnnfoaaGreatDoor
namespace Fl
open Ieee
theorem sw : double.signWeight = 9223372036854775808 := rfl
theorem bn : double.binade = 4503599627370496 := rfl
theorem ir : double.infRung = 9218868437227405312 := rfl
theorem lp : double.leastPlace = -1074 := rfl
theorem fb : double.fractionBits = 52 := rfl
def rne (n d : Nat) : Nat := n / 2 ^ d + (if 2 ^ d < 2 * (n % 2 ^ d) ∨ (2 ^ d = 2 * (n % 2 ^ d) ∧ n / 2 ^ d % 2 = 1) then 1 else 0)
theorem cut_even (neg : Bool) (n d : Nat) : Toward.even.cut neg n d = rne n d := by
 have key : ∀ g : Nat, n / g + (decide (g < 2 * (n % g)) || (g == 2 * (n % g) && n / g % 2 == 1)).toNat =
   n / g + (if g < 2 * (n % g) ∨ (g = 2 * (n % g) ∧ n / g % 2 = 1) then 1 else 0) := by
  intro g
  congr 1
  by_cases h : g < 2 * (n % g) ∨ (g = 2 * (n % g) ∧ n / g % 2 = 1)
  ·rw [if_pos h]
   rcases h with h | ⟨h1, h2⟩
   ·simp [h]
   ·have e : (g == 2 * (n % g)) = true := beq_iff_eq.2 h1
    simp [e, h2]
  ·rw [if_neg h]
   have h1 : ¬ g < 2 * (n % g) := fun c => h (Or.inl c)
   have h2 : (g == 2 * (n % g) && n / g % 2 == 1) = false := by
    rw [Bool.eq_false_iff]
    intro c
    simp only [Bool.and_eq_true, beq_iff_eq] at c
    exact h (Or.inr c)
   rw [h2]
   simp [h1]
 have h0 : Toward.even.cut neg n d = n / (1 <<< min d (n.log2 + 2)) + (decide ((1 <<< min d (n.log2 + 2)) < 2 * (n % (1 <<< min d (n.log2 + 2)))) || ((1 <<< min d (n.log2 + 2)) == 2 * (n % (1 <<< min d (n.log2 + 2))) && n / (1 <<< min d (n.log2 + 2)) % 2 == 1)).toNat := rfl
 rw [h0, key]
 by_cases hd : d ≤ n.log2 + 2
 ·rw [Nat.min_eq_left hd, Nat.one_shiftLeft]; rfl
 ·have hd' : n.log2 + 2 ≤ d := by omega
  rw [Nat.min_eq_right hd', Nat.one_shiftLeft]
  have hn : n < 2 ^ (n.log2 + 1) := Nat.lt_log2_self
  have e1 : 2 ^ (n.log2 + 2) = 2 * 2 ^ (n.log2 + 1) := by rw [Nat.pow_succ, Nat.mul_comm]
  have e2 : 2 ^ (n.log2 + 2) ≤ 2 ^ d := Nat.pow_le_pow_right (by decide) hd'
  unfold rne
  have q1 : n / 2 ^ (n.log2 + 2) = 0 := Nat.div_eq_of_lt (by omega)
  have q2 : n / 2 ^ d = 0 := Nat.div_eq_of_lt (by omega)
  have r1 : n % 2 ^ (n.log2 + 2) = n := Nat.mod_eq_of_lt (by omega)
  have r2 : n % 2 ^ d = n := Nat.mod_eq_of_lt (by omega)
  rw [q1, q2, r1, r2, if_neg (by omega), if_neg (by omega)]
theorem rne_zero (n : Nat) : rne n 0 = n := by
 unfold rne
 simp [Nat.mod_one]
theorem rne_shift (n d j : Nat) : rne (n * 2 ^ j) (d + j) = rne n d := by
 have hp : 0 < 2 ^ j := Nat.two_pow_pos j
 have e : 2 ^ (d + j) = 2 ^ d * 2 ^ j := Nat.pow_add ..
 unfold rne
 rw [e, Nat.mul_div_mul_right _ _ hp, Nat.mul_mod_mul_right]
 have c : (2 ^ d * 2 ^ j < 2 * (n % 2 ^ d * 2 ^ j) ∨ 2 ^ d * 2 ^ j = 2 * (n % 2 ^ d * 2 ^ j) ∧ n / 2 ^ d % 2 = 1) ↔ (2 ^ d < 2 * (n % 2 ^ d) ∨ 2 ^ d = 2 * (n % 2 ^ d) ∧ n / 2 ^ d % 2 = 1) := by
  rw [← Nat.mul_assoc 2]
  constructor
  ·rintro (h | ⟨h1, h2⟩)
   ·exact Or.inl (Nat.lt_of_mul_lt_mul_right h)
   ·exact Or.inr ⟨Nat.eq_of_mul_eq_mul_right hp h1, h2⟩
  ·rintro (h | ⟨h1, h2⟩)
   ·exact Or.inl (Nat.mul_lt_mul_of_pos_right h hp)
   ·exact Or.inr ⟨by rw [← h1], h2⟩
 by_cases h : 2 ^ d < 2 * (n % 2 ^ d) ∨ 2 ^ d = 2 * (n % 2 ^ d) ∧ n / 2 ^ d % 2 = 1
 ·rw [if_pos h, if_pos (c.2 h)]
 ·rw [if_neg h, if_neg (fun x => h (c.1 x))]
theorem rne_mul (n j : Nat) : rne (n * 2 ^ j) j = n := by
 have := rne_shift n 0 j
 rwa [Nat.zero_add, rne_zero] at this
theorem log2_mul_pow (m k : Nat) (hm : m ≠ 0) : (m * 2 ^ k).log2 = m.log2 + k := by
 have h1 := Nat.log2_self_le hm
 have h2 : m < 2 ^ (m.log2 + 1) := Nat.lt_log2_self
 have hp : 0 < 2 ^ k := Nat.two_pow_pos k
 refine (Nat.log2_eq_iff (Nat.mul_ne_zero hm (by omega))).2 ⟨?_, ?_⟩
 ·rw [Nat.pow_add]; exact Nat.mul_le_mul_right _ h1
 ·rw [show m.log2 + k + 1 = (m.log2 + 1) + k by omega, Nat.pow_add]; exact Nat.mul_lt_mul_of_pos_right h2 hp
def lastOf (m : Nat) (p : Int) : Int := max (p + m.log2 - 52) (-1074)
theorem nearest_eq (neg : Bool) (m : Nat) (p : Int) (hm : m ≠ 0) :
  double.nearest neg m p = double.word neg (min ((lastOf m p + 1074).toNat * 4503599627370496 + rne (m * 2 ^ (p - lastOf m p).toNat) (lastOf m p - p).toNat) 9218868437227405312) := by
 unfold Format.nearest
 rw [if_neg hm]
 simp only [fb, lp, bn, ir, cut_even, Nat.shiftLeft_eq]
 rfl
theorem nearest_shift (neg : Bool) (m : Nat) (p : Int) (k : Nat) : double.nearest neg (m * 2 ^ k) (p - k) = double.nearest neg m p := by
 by_cases hm : m = 0
 ·subst hm; simp [Format.nearest]
 ·have hm' : m * 2 ^ k ≠ 0 := Nat.mul_ne_zero hm (by have := Nat.two_pow_pos k; omega)
  rw [nearest_eq neg _ _ hm', nearest_eq neg _ _ hm]
  have hl : lastOf (m * 2 ^ k) (p - k) = lastOf m p := by
   unfold lastOf; rw [log2_mul_pow m k hm]; congr 1; omega
  rw [hl]
  generalize lastOf m p = L
  congr 3
  by_cases h1 : L ≤ p - k
  ·have a1 : (L - (p - k)).toNat = 0 := by omega
   have a2 : (L - p).toNat = 0 := by omega
   rw [a1, a2, rne_zero, rne_zero, Nat.mul_assoc, ← Nat.pow_add]
   congr 2; omega
  ·by_cases h2 : L ≤ p
   ·have a1 : (p - ↑k - L).toNat = 0 := by omega
    have a2 : (L - p).toNat = 0 := by omega
    rw [a1, a2, rne_zero, Nat.pow_zero, Nat.mul_one]
    have e : m * 2 ^ k = m * 2 ^ (p - L).toNat * 2 ^ (L - (p - ↑k)).toNat := by
     rw [Nat.mul_assoc, ← Nat.pow_add]; congr 2; omega
    rw [e, rne_mul]
   ·have a1 : (p - ↑k - L).toNat = 0 := by omega
    have a2 : (p - L).toNat = 0 := by omega
    have a3 : (L - (p - ↑k)).toNat = (L - p).toNat + k := by omega
    rw [a1, a2, a3, Nat.pow_zero, Nat.mul_one, Nat.mul_one, rne_shift]
def canon (M : Nat) (E : Int) : Prop := M < 9007199254740992 ∧ -1074 ≤ E ∧ (4503599627370496 ≤ M ∨ E = -1074)
def rungOf (M : Nat) (E : Int) : Nat := (E + 1074).toNat * 4503599627370496 + M
theorem log2_lt53 {M : Nat} (h : M < 9007199254740992) (h0 : M ≠ 0) : M.log2 ≤ 52 := by
 have := (Nat.log2_lt h0).2 (show M < 2 ^ 53 from h)
 omega
theorem log2_52 {M : Nat} (h : M < 9007199254740992) (h1 : 4503599627370496 ≤ M) : M.log2 = 52 :=
 (Nat.log2_eq_iff (by omega)).2 ⟨h1, h⟩
theorem lastOf_canon {M : Nat} {E : Int} (c : canon M E) (h0 : M ≠ 0) : lastOf M E = E := by
 obtain ⟨c1, c2, c3⟩ := c
 have := log2_lt53 c1 h0
 unfold lastOf
 rcases c3 with c3 | c3
 ·rw [log2_52 c1 c3]; omega
 ·omega
theorem nearest_canon (neg : Bool) {M : Nat} {E : Int} (c : canon M E) : double.nearest neg M E = double.word neg (min (rungOf M E) 9218868437227405312) := by
 by_cases h0 : M = 0
 ·have hE : E = -1074 := by obtain ⟨_, _, c3⟩ := c; omega
  subst h0; subst hE
  simp [Format.nearest, rungOf]
 ·rw [nearest_eq neg _ _ h0, lastOf_canon c h0]
  have a : (E - E).toNat = 0 := by omega
  rw [a, rne_zero, Nat.pow_zero, Nat.mul_one]
  rfl
theorem read_word (neg : Bool) (r : Nat) (h : r < 9223372036854775808) : double.read (double.word neg r) =
  if r < 4503599627370496 then .number neg r (-1074) else if r < 9218868437227405312 then .number neg (4503599627370496 + r % 4503599627370496) (-1074 + (r / 4503599627370496 - 1 : Nat)) else if r = 9218868437227405312 then .infinity neg else .nan neg (r - 9218868437227405312) := by
 unfold Format.read Format.word
 have e1 : (if neg = true then 9223372036854775808 + r else r) % 9223372036854775808 = r := by split <;> omega
 have e2 : ((if neg = true then 9223372036854775808 + r else r) / 9223372036854775808 % 2 == 1) = neg := by
  cases neg
  ·simp; omega
  ·simp only [if_true]; rw [beq_iff_eq]; omega
 simp only [sw, bn, ir, lp, e1, e2]
theorem read_canon (neg : Bool) {M : Nat} {E : Int} (c : canon M E) (h : rungOf M E < 9218868437227405312) : double.read (double.word neg (rungOf M E)) = .number neg M E := by
 rw [read_word _ _ (by omega)]
 obtain ⟨c1, c2, c3⟩ := c
 unfold rungOf at *
 by_cases hM : M < 4503599627370496
 ·have hE : E = -1074 := by omega
  have h0 : (E + 1074).toNat * 4503599627370496 + M = M := by omega
  rw [h0, if_pos hM, hE]
 ·have hq : ((E + 1074).toNat * 4503599627370496 + M) / 4503599627370496 = (E + 1074).toNat + 1 := by omega
  have hr : ((E + 1074).toNat * 4503599627370496 + M) % 4503599627370496 = M - 4503599627370496 := by omega
  have eM : 4503599627370496 + (M - 4503599627370496) = M := by omega
  have eE : -1074 + (((E + 1074).toNat + 1 - 1 : Nat) : Int) = E := by omega
  rw [if_neg (by omega), if_pos h, hq, hr, eM, eE]
def mantOf (r : Nat) : Nat := if r < 4503599627370496 then r else 4503599627370496 + r % 4503599627370496
def placeOf (r : Nat) : Int := -1074 + (r / 4503599627370496 - 1 : Nat)
theorem canon_of (r : Nat) : canon (mantOf r) (placeOf r) := by
 unfold canon mantOf placeOf
 split <;> omega
theorem rungOf_of (r : Nat) : rungOf (mantOf r) (placeOf r) = r := by
 unfold rungOf mantOf placeOf
 split <;> omega
theorem read_fin (neg : Bool) (r : Nat) (h : r < 9218868437227405312) : double.read (double.word neg r) = .number neg (mantOf r) (placeOf r) := by
 have := read_canon neg (canon_of r) (by rw [rungOf_of]; exact h)
 rwa [rungOf_of] at this
def Fits (m : Nat) (p : Int) : Prop := m ≠ 0 ∧ m < 9007199254740992 ∧ -1074 ≤ p ∧ p + m.log2 ≤ 1023
theorem fit (neg : Bool) {m : Nat} {p : Int} (f : Fits m p) : ∃ k : Nat, canon (m * 2 ^ k) (p - k) ∧ rungOf (m * 2 ^ k) (p - k) < 9218868437227405312 ∧
  double.nearest neg m p = double.word neg (rungOf (m * 2 ^ k) (p - k)) ∧ double.read (double.nearest neg m p) = .number neg (m * 2 ^ k) (p - k) := by
 obtain ⟨h0, h1, h2, h3⟩ := f
 have hl := log2_lt53 h1 h0
 suffices h : ∃ k : Nat, canon (m * 2 ^ k) (p - k) ∧ rungOf (m * 2 ^ k) (p - k) < 9218868437227405312 by
  obtain ⟨k, c, r⟩ := h
  have e : double.nearest neg m p = double.word neg (rungOf (m * 2 ^ k) (p - k)) := by
   rw [← nearest_shift neg m p k, nearest_canon neg c, Nat.min_eq_left (Nat.le_of_lt r)]
  exact ⟨k, c, r, e, by rw [e]; exact read_canon neg c r⟩
 by_cases hc : -1074 ≤ p + m.log2 - 52
 ·obtain ⟨k, hk⟩ : ∃ k : Nat, k = 52 - m.log2 := ⟨_, rfl⟩
  have hM0 : m * 2 ^ k ≠ 0 := Nat.mul_ne_zero h0 (by have := Nat.two_pow_pos k; omega)
  have hlog : (m * 2 ^ k).log2 = 52 := by rw [log2_mul_pow m k h0]; omega
  have hb := (Nat.log2_eq_iff hM0).1 hlog
  have b1 : 4503599627370496 ≤ m * 2 ^ k := hb.1
  have b2 : m * 2 ^ k < 9007199254740992 := hb.2
  refine ⟨k, ⟨b2, by omega, Or.inl b1⟩, ?_⟩
  unfold rungOf
  generalize m * 2 ^ k = M at *
  omega
 ·obtain ⟨k, hk⟩ : ∃ k : Nat, k = (p + 1074).toNat := ⟨_, rfl⟩
  have hM0 : m * 2 ^ k ≠ 0 := Nat.mul_ne_zero h0 (by have := Nat.two_pow_pos k; omega)
  have hlog : (m * 2 ^ k).log2 ≤ 52 := by rw [log2_mul_pow m k h0]; omega
  have b2 : m * 2 ^ k < 9007199254740992 := (Nat.log2_lt hM0).1 (show (m * 2 ^ k).log2 < 53 by omega)
  have hp : p - k = -1074 := by omega
  refine ⟨k, ⟨b2, by omega, Or.inr hp⟩, ?_⟩
  unfold rungOf
  rw [hp]
  generalize m * 2 ^ k = M at *
  omega
theorem mul_fit {s t : Bool} {m n : Nat} {p q : Int} (f : Fits m p) (g : Fits n q) : double.mul (double.nearest s m p) (double.nearest t n q) = some (double.nearest (s ^^ t) (m * n) (p + q)) := by
 obtain ⟨k, _, _, _, hk⟩ := fit s f
 obtain ⟨j, _, _, _, hj⟩ := fit t g
 unfold Format.mul
 rw [hk, hj]
 simp only [Datum.product, Option.map_some, Format.write, Option.some.injEq]
 rw [← nearest_shift (s ^^ t) (m * n) (p + q) (k + j)]
 congr 1
 ·rw [Nat.pow_add]; ac_rfl
 ·omega
theorem word_nearest (neg : Bool) {m : Nat} {p : Int} (f : Fits m p) : double.word neg (double.nearest false m p) = double.nearest neg m p ∧ double.nearest false m p < 9218868437227405312 := by
 obtain ⟨k, c, r, _, _⟩ := fit false f
 have e : ∀ s, double.nearest s m p = double.word s (rungOf (m * 2 ^ k) (p - k)) := fun s => by
  rw [← nearest_shift s m p k, nearest_canon s c, Nat.min_eq_left (Nat.le_of_lt r)]
 rw [e neg, e false]
 exact ⟨rfl, r⟩
theorem log2_one : Nat.log2 1 = 0 := by decide
theorem fits_pow {a : Int} (h1 : -1074 ≤ a) (h2 : a ≤ 1023) : Fits 1 a := ⟨by decide, by decide, h1, by rw [log2_one]; omega⟩
def pw (a : Int) : Nat := double.nearest false 1 a
theorem mul_pw {a b : Int} (ha : -1074 ≤ a) (ha' : a ≤ 1023) (hb : -1074 ≤ b) (hb' : b ≤ 1023) : double.mul (pw a) (pw b) = some (pw (a + b)) := by
 have := mul_fit (s := false) (t := false) (fits_pow ha ha') (fits_pow hb hb')
 simpa [pw] using this
theorem sq_up : ∀ i, i < 11 → double.mul (pw (2 ^ i)) (pw (2 ^ i)) = some (pw (2 ^ (i + 1))) := by decide +kernel
theorem sq_dn : ∀ i, i < 11 → double.mul (pw (-2 ^ i)) (pw (-2 ^ i)) = some (pw (-2 ^ (i + 1))) := by decide +kernel
theorem pw_consts : pw 0 = 4607182418800017408 ∧ pw (2 ^ 0) = 4611686018427387904 ∧ pw (-2 ^ 0) = 4602678819172646912 := by decide +kernel
end Fl
end Go.Proofs.YtnceajanlnnfoaaGreatDoor
namespace Go.Proofs.YtnceajanlnnfoaaGreatDoor
namespace Rn
def upw (mode : Int) (neg odd : Bool) (r g : Nat) : Bool :=
 if mode = 1 then decide (g < 2 * r) || (decide (g = 2 * r) && odd)
 else if mode = 2 then decide (g ≤ 2 * r)
 else if mode = 3 then decide (r ≠ 0) && !neg
 else if mode = 4 then decide (r ≠ 0) && neg
 else if mode = 6 then decide (r ≠ 0) && !odd
 else false
def rnd (mode : Int) (neg : Bool) (m n : Nat) : Nat := m / 2 ^ n + (upw mode neg (m / 2 ^ n % 2 == 1) (m % 2 ^ n) (2 ^ n)).toNat
theorem upw_zero (mode : Int) (neg odd : Bool) (g : Nat) (hg : 0 < g) : upw mode neg odd 0 g = false := by
 unfold upw
 split
 ·have h1 : ¬ g < 2 * 0 := by omega
  have h2 : ¬ g = 2 * 0 := by omega
  rw [decide_eq_false h1, decide_eq_false h2]; rfl
 ·split
  ·exact decide_eq_false (by omega)
  ·split
   ·rfl
   ·split
    ·rfl
    ·split <;> rfl
theorem upw_mul (mode : Int) (neg odd : Bool) (r g c : Nat) (hc : 0 < c) : upw mode neg odd (r * c) (g * c) = upw mode neg odd r g := by
 unfold upw
 have e1 : (g * c < 2 * (r * c)) ↔ (g < 2 * r) := by
  rw [← Nat.mul_assoc]
  exact ⟨fun h => Nat.lt_of_mul_lt_mul_right h, fun h => Nat.mul_lt_mul_of_pos_right h hc⟩
 have e2 : (g * c = 2 * (r * c)) ↔ (g = 2 * r) := by
  rw [← Nat.mul_assoc]
  exact ⟨fun h => Nat.eq_of_mul_eq_mul_right hc h, fun h => by rw [h]⟩
 have e3 : (g * c ≤ 2 * (r * c)) ↔ (g ≤ 2 * r) := by
  rw [← Nat.mul_assoc]
  exact ⟨fun h => Nat.le_of_mul_le_mul_right h hc, fun h => Nat.mul_le_mul_right c h⟩
 have e4 : (r * c ≠ 0) ↔ (r ≠ 0) := by
  rw [Ne, Nat.mul_eq_zero]; omega
 rw [decide_eq_decide.2 e1, decide_eq_decide.2 e2, decide_eq_decide.2 e3, decide_eq_decide.2 e4]
theorem rnd_zero (mode : Int) (neg : Bool) (m : Nat) : rnd mode neg m 0 = m := by
 unfold rnd
 rw [Nat.pow_zero, Nat.mod_one, upw_zero _ _ _ _ (by decide), Nat.div_one]; rfl
theorem rnd_shift (mode : Int) (neg : Bool) (m n j : Nat) : rnd mode neg (m * 2 ^ j) (n + j) = rnd mode neg m n := by
 have hp : 0 < 2 ^ j := Nat.two_pow_pos j
 unfold rnd
 rw [Nat.pow_add, Nat.mul_div_mul_right _ _ hp, Nat.mul_mod_mul_right, upw_mul _ _ _ _ _ _ hp]
theorem rnd_mul (mode : Int) (neg : Bool) (m j : Nat) : rnd mode neg (m * 2 ^ j) j = m := by
 have := rnd_shift mode neg m 0 j
 rwa [Nat.zero_add, rnd_zero] at this
theorem rnd_bd (mode : Int) (neg : Bool) (m n : Nat) : m / 2 ^ n ≤ rnd mode neg m n ∧ rnd mode neg m n ≤ m / 2 ^ n + 1 := by
 unfold rnd
 have := Bool.toNat_le (upw mode neg (m / 2 ^ n % 2 == 1) (m % 2 ^ n) (2 ^ n))
 omega
theorem upw_rise (mode : Int) (neg odd : Bool) (r r' g : Nat) (h : r ≤ r') : (upw mode neg odd r g).toNat ≤ (upw mode neg odd r' g).toNat := by
 cases hu : upw mode neg odd r g
 ·simp
 ·suffices hs : upw mode neg odd r' g = true by rw [hs]; exact Nat.le_refl _
  unfold upw at *
  split at hu
  ·rw [if_pos ‹_›]
   simp only [Bool.or_eq_true, Bool.and_eq_true, decide_eq_true_eq] at hu ⊢
   rcases hu with hu | ⟨hu, ho⟩
   ·left; omega
   ·by_cases e : g = 2 * r'
    ·exact Or.inr ⟨e, ho⟩
    ·left; omega
  ·rw [if_neg ‹_›]
   split at hu
   ·rw [if_pos ‹_›]
    simp only [decide_eq_true_eq] at hu ⊢; omega
   ·rw [if_neg ‹_›]
    split at hu
    ·rw [if_pos ‹_›]
     simp only [Bool.and_eq_true, decide_eq_true_eq] at hu ⊢; exact ⟨by omega, hu.2⟩
    ·rw [if_neg ‹_›]
     split at hu
     ·rw [if_pos ‹_›]
      simp only [Bool.and_eq_true, decide_eq_true_eq] at hu ⊢; exact ⟨by omega, hu.2⟩
     ·rw [if_neg ‹_›]
      split at hu
      ·rw [if_pos ‹_›]
       simp only [Bool.and_eq_true, decide_eq_true_eq] at hu ⊢; exact ⟨by omega, hu.2⟩
      ·cases hu
theorem rnd_rise (mode : Int) (neg : Bool) {m m' : Nat} (n : Nat) (h : m ≤ m') : rnd mode neg m n ≤ rnd mode neg m' n := by
 have hq : m / 2 ^ n ≤ m' / 2 ^ n := Nat.div_le_div_right h
 by_cases e : m / 2 ^ n = m' / 2 ^ n
 ·unfold rnd
  rw [e]
  have d1 := Nat.div_add_mod m (2 ^ n)
  have d2 := Nat.div_add_mod m' (2 ^ n)
  rw [e] at d1
  have := upw_rise mode neg (m' / 2 ^ n % 2 == 1) (m % 2 ^ n) (m' % 2 ^ n) (2 ^ n) (by omega)
  omega
 ·have b1 := rnd_bd mode neg m n
  have b2 := rnd_bd mode neg m' n
  omega
theorem rnd_le (mode : Int) (neg : Bool) {m q : Nat} (n : Nat) (h : m ≤ q * 2 ^ n) : rnd mode neg m n ≤ q := by
 have := rnd_rise mode neg n h
 rwa [rnd_mul] at this
theorem le_rnd (mode : Int) (neg : Bool) {m q : Nat} (n : Nat) (h : q * 2 ^ n ≤ m) : q ≤ rnd mode neg m n := by
 have := rnd_rise mode neg n h
 rwa [rnd_mul] at this
theorem rnd_even (neg : Bool) (m n : Nat) : rnd 1 neg m n = Fl.rne m n := by
 unfold rnd Fl.rne upw
 rw [if_pos rfl]
 congr 1
 by_cases h : 2 ^ n < 2 * (m % 2 ^ n) ∨ (2 ^ n = 2 * (m % 2 ^ n) ∧ m / 2 ^ n % 2 = 1)
 ·rw [if_pos h]
  have : (decide (2 ^ n < 2 * (m % 2 ^ n)) || (decide (2 ^ n = 2 * (m % 2 ^ n)) && (m / 2 ^ n % 2 == 1))) = true := by
   simp only [Bool.or_eq_true, Bool.and_eq_true, decide_eq_true_eq, beq_iff_eq]; exact h
  rw [this]; rfl
 ·rw [if_neg h]
  have : (decide (2 ^ n < 2 * (m % 2 ^ n)) || (decide (2 ^ n = 2 * (m % 2 ^ n)) && (m / 2 ^ n % 2 == 1))) = false := by
   rw [Bool.eq_false_iff]
   intro c
   simp only [Bool.or_eq_true, Bool.and_eq_true, decide_eq_true_eq, beq_iff_eq] at c
   exact h c
  rw [this]; rfl
end Rn
end Go.Proofs.YtnceajanlnnfoaaGreatDoor
