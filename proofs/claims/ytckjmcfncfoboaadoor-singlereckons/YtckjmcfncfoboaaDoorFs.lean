/- Binary32 as the model has it: what a word stands for, when a number is a word, how two words stand: no program here. -/
import Derived.Test.YtckjmcfncfoboaaDoorFl
import Derived.Test.YtckjmcfncfoboaaDoorFo
namespace Go.Proofs.YtckjmcfncfoboaaDoor
namespace Fs
open Ieee
open Fl (rne cut_even rne_zero rne_shift rne_mul log2_mul_pow ordW)
theorem sw : single.signWeight = 2147483648 := rfl
theorem bn : single.binade = 8388608 := rfl
theorem ir : single.infRung = 2139095040 := rfl
theorem lp : single.leastPlace = -149 := rfl
theorem fb : single.fractionBits = 23 := rfl

/-- The place of the last digit that is kept. -/
def lastOf (m : Nat) (p : Int) : Int := max (p + m.log2 - 23) (-149)

theorem nearest_eq (neg : Bool) (m : Nat) (p : Int) (hm : m ≠ 0) :
    single.nearest neg m p = single.word neg (min ((lastOf m p + 149).toNat * 8388608 + rne (m * 2 ^ (p - lastOf m p).toNat) (lastOf m p - p).toNat) 2139095040) := by
  unfold Format.nearest
  rw [if_neg hm]
  simp only [fb, lp, bn, ir, cut_even, Nat.shiftLeft_eq]
  rfl

/-- A number and the same with noughts behind it are written alike. -/
theorem nearest_shift (neg : Bool) (m : Nat) (p : Int) (k : Nat) : single.nearest neg (m * 2 ^ k) (p - k) = single.nearest neg m p := by
  by_cases hm : m = 0
  · subst hm; simp [Format.nearest]
  · have hm' : m * 2 ^ k ≠ 0 := Nat.mul_ne_zero hm (by have := Nat.two_pow_pos k; omega)
    rw [nearest_eq neg _ _ hm', nearest_eq neg _ _ hm]
    have hl : lastOf (m * 2 ^ k) (p - k) = lastOf m p := by
      unfold lastOf; rw [log2_mul_pow m k hm]; congr 1; omega
    rw [hl]
    generalize lastOf m p = L
    congr 3
    by_cases h1 : L ≤ p - k
    · have a1 : (L - (p - k)).toNat = 0 := by omega
      have a2 : (L - p).toNat = 0 := by omega
      rw [a1, a2, rne_zero, rne_zero, Nat.mul_assoc, ← Nat.pow_add]
      congr 2; omega
    · by_cases h2 : L ≤ p
      · have a1 : (p - ↑k - L).toNat = 0 := by omega
        have a2 : (L - p).toNat = 0 := by omega
        rw [a1, a2, rne_zero, Nat.pow_zero, Nat.mul_one]
        have e : m * 2 ^ k = m * 2 ^ (p - L).toNat * 2 ^ (L - (p - ↑k)).toNat := by
          rw [Nat.mul_assoc, ← Nat.pow_add]; congr 2; omega
        rw [e, rne_mul]
      · have a1 : (p - ↑k - L).toNat = 0 := by omega
        have a2 : (p - L).toNat = 0 := by omega
        have a3 : (L - (p - ↑k)).toNat = (L - p).toNat + k := by omega
        rw [a1, a2, a3, Nat.pow_zero, Nat.mul_one, Nat.mul_one, rne_shift]

/-- The whole part and the place that a finite word has. -/
def canon (M : Nat) (E : Int) : Prop := M < 16777216 ∧ -149 ≤ E ∧ (8388608 ≤ M ∨ E = -149)
def rungOf (M : Nat) (E : Int) : Nat := (E + 149).toNat * 8388608 + M

theorem log2_lt24 {M : Nat} (h : M < 16777216) (h0 : M ≠ 0) : M.log2 ≤ 23 := by
  have := (Nat.log2_lt h0).2 (show M < 2 ^ 24 from h)
  omega
theorem log2_23 {M : Nat} (h : M < 16777216) (h1 : 8388608 ≤ M) : M.log2 = 23 :=
  (Nat.log2_eq_iff (by omega)).2 ⟨h1, h⟩

theorem lastOf_canon {M : Nat} {E : Int} (c : canon M E) (h0 : M ≠ 0) : lastOf M E = E := by
  obtain ⟨c1, c2, c3⟩ := c
  have := log2_lt24 c1 h0
  unfold lastOf
  rcases c3 with c3 | c3
  · rw [log2_23 c1 c3]; omega
  · omega

/-- A number of the format is written as itself. -/
theorem nearest_canon (neg : Bool) {M : Nat} {E : Int} (c : canon M E) : single.nearest neg M E = single.word neg (min (rungOf M E) 2139095040) := by
  by_cases h0 : M = 0
  · have hE : E = -149 := by obtain ⟨_, _, c3⟩ := c; omega
    subst h0; subst hE
    simp [Format.nearest, rungOf]
  · rw [nearest_eq neg _ _ h0, lastOf_canon c h0]
    have a : (E - E).toNat = 0 := by omega
    rw [a, rne_zero, Nat.pow_zero, Nat.mul_one]
    rfl

theorem read_word (neg : Bool) (r : Nat) (h : r < 2147483648) : single.read (single.word neg r) =
    if r < 8388608 then .number neg r (-149) else if r < 2139095040 then .number neg (8388608 + r % 8388608) (-149 + (r / 8388608 - 1 : Nat)) else if r = 2139095040 then .infinity neg else .nan neg (r - 2139095040) := by
  unfold Format.read Format.word
  have e1 : (if neg = true then 2147483648 + r else r) % 2147483648 = r := by split <;> omega
  have e2 : ((if neg = true then 2147483648 + r else r) / 2147483648 % 2 == 1) = neg := by
    cases neg
    · simp; omega
    · simp only [if_true]; rw [beq_iff_eq]; omega
  simp only [sw, bn, ir, lp, e1, e2]

theorem read_canon (neg : Bool) {M : Nat} {E : Int} (c : canon M E) (h : rungOf M E < 2139095040) : single.read (single.word neg (rungOf M E)) = .number neg M E := by
  rw [read_word _ _ (by omega)]
  obtain ⟨c1, c2, c3⟩ := c
  unfold rungOf at *
  by_cases hM : M < 8388608
  · have hE : E = -149 := by omega
    have h0 : (E + 149).toNat * 8388608 + M = M := by omega
    rw [h0, if_pos hM, hE]
  · have hq : ((E + 149).toNat * 8388608 + M) / 8388608 = (E + 149).toNat + 1 := by omega
    have hr : ((E + 149).toNat * 8388608 + M) % 8388608 = M - 8388608 := by omega
    have eM : 8388608 + (M - 8388608) = M := by omega
    have eE : -149 + (((E + 149).toNat + 1 - 1 : Nat) : Int) = E := by omega
    rw [if_neg (by omega), if_pos h, hq, hr, eM, eE]

/-- Every finite rung has its whole part and place. -/
def mantOf (r : Nat) : Nat := if r < 8388608 then r else 8388608 + r % 8388608
def placeOf (r : Nat) : Int := -149 + (r / 8388608 - 1 : Nat)
theorem canon_of (r : Nat) : canon (mantOf r) (placeOf r) := by
  unfold canon mantOf placeOf
  split <;> omega
theorem rungOf_of (r : Nat) : rungOf (mantOf r) (placeOf r) = r := by
  unfold rungOf mantOf placeOf
  split <;> omega
theorem read_fin (neg : Bool) (r : Nat) (h : r < 2139095040) : single.read (single.word neg r) = .number neg (mantOf r) (placeOf r) := by
  have := read_canon neg (canon_of r) (by rw [rungOf_of]; exact h)
  rwa [rungOf_of] at this

/-- A number that the format has: its whole part, odd or not, is short enough, and its places lie within. -/
def Fits (m : Nat) (p : Int) : Prop := m ≠ 0 ∧ m < 16777216 ∧ -149 ≤ p ∧ p + m.log2 ≤ 127

theorem fit (neg : Bool) {m : Nat} {p : Int} (f : Fits m p) : ∃ k : Nat, canon (m * 2 ^ k) (p - k) ∧ rungOf (m * 2 ^ k) (p - k) < 2139095040 ∧
    single.nearest neg m p = single.word neg (rungOf (m * 2 ^ k) (p - k)) ∧ single.read (single.nearest neg m p) = .number neg (m * 2 ^ k) (p - k) := by
  obtain ⟨h0, h1, h2, h3⟩ := f
  have hl := log2_lt24 h1 h0
  suffices h : ∃ k : Nat, canon (m * 2 ^ k) (p - k) ∧ rungOf (m * 2 ^ k) (p - k) < 2139095040 by
    obtain ⟨k, c, r⟩ := h
    have e : single.nearest neg m p = single.word neg (rungOf (m * 2 ^ k) (p - k)) := by
      rw [← nearest_shift neg m p k, nearest_canon neg c, Nat.min_eq_left (Nat.le_of_lt r)]
    exact ⟨k, c, r, e, by rw [e]; exact read_canon neg c r⟩
  by_cases hc : -149 ≤ p + m.log2 - 23
  · obtain ⟨k, hk⟩ : ∃ k : Nat, k = 23 - m.log2 := ⟨_, rfl⟩
    have hM0 : m * 2 ^ k ≠ 0 := Nat.mul_ne_zero h0 (by have := Nat.two_pow_pos k; omega)
    have hlog : (m * 2 ^ k).log2 = 23 := by rw [log2_mul_pow m k h0]; omega
    have hb := (Nat.log2_eq_iff hM0).1 hlog
    have b1 : 8388608 ≤ m * 2 ^ k := hb.1
    have b2 : m * 2 ^ k < 16777216 := hb.2
    refine ⟨k, ⟨b2, by omega, Or.inl b1⟩, ?_⟩
    unfold rungOf
    generalize m * 2 ^ k = M at *
    omega
  · obtain ⟨k, hk⟩ : ∃ k : Nat, k = (p + 149).toNat := ⟨_, rfl⟩
    have hM0 : m * 2 ^ k ≠ 0 := Nat.mul_ne_zero h0 (by have := Nat.two_pow_pos k; omega)
    have hlog : (m * 2 ^ k).log2 ≤ 23 := by rw [log2_mul_pow m k h0]; omega
    have b2 : m * 2 ^ k < 16777216 := (Nat.log2_lt hM0).1 (show (m * 2 ^ k).log2 < 24 by omega)
    have hp : p - k = -149 := by omega
    refine ⟨k, ⟨b2, by omega, Or.inr hp⟩, ?_⟩
    unfold rungOf
    rw [hp]
    generalize m * 2 ^ k = M at *
    omega

theorem mul_fit {s t : Bool} {m n : Nat} {p q : Int} (f : Fits m p) (g : Fits n q) : single.mul (single.nearest s m p) (single.nearest t n q) = some (single.nearest (s ^^ t) (m * n) (p + q)) := by
  obtain ⟨k, _, _, _, hk⟩ := fit s f
  obtain ⟨j, _, _, _, hj⟩ := fit t g
  unfold Format.mul
  rw [hk, hj]
  simp only [Datum.product, Option.map_some, Format.write, Option.some.injEq]
  rw [← nearest_shift (s ^^ t) (m * n) (p + q) (k + j)]
  congr 1
  · rw [Nat.pow_add]; ac_rfl
  · omega

theorem word_nearest (neg : Bool) {m : Nat} {p : Int} (f : Fits m p) : single.word neg (single.nearest false m p) = single.nearest neg m p ∧ single.nearest false m p < 2139095040 := by
  obtain ⟨k, c, r, _, _⟩ := fit false f
  have e : ∀ s, single.nearest s m p = single.word s (rungOf (m * 2 ^ k) (p - k)) := fun s => by
    rw [← nearest_shift s m p k, nearest_canon s c, Nat.min_eq_left (Nat.le_of_lt r)]
  rw [e neg, e false]
  exact ⟨rfl, r⟩
theorem place_mono {r r' : Nat} (h : r ≤ r') : placeOf r ≤ placeOf r' := by
  unfold placeOf
  have : r / 8388608 ≤ r' / 8388608 := Nat.div_le_div_right h
  omega

/-- The greater rung is the greater number, scaled to one place. -/
theorem scale_lt {r r' : Nat} (h : r < r') : mantOf r < mantOf r' * 2 ^ (placeOf r' - placeOf r).toNat := by
  have hm := place_mono (Nat.le_of_lt h)
  have c := canon_of r
  have c' := canon_of r'
  have e := rungOf_of r
  have e' := rungOf_of r'
  by_cases hp : placeOf r = placeOf r'
  · rw [hp, show (placeOf r' - placeOf r').toNat = 0 by omega, Nat.pow_zero, Nat.mul_one]
    unfold rungOf at e e'
    rw [hp] at e
    omega
  · obtain ⟨d, hd⟩ : ∃ d, (placeOf r' - placeOf r).toNat = d + 1 := ⟨(placeOf r' - placeOf r).toNat - 1, by omega⟩
    have h23 : 8388608 ≤ mantOf r' := by
      rcases c'.2.2 with x | x
      · exact x
      · have := c.2.1; omega
    have hp1 : 1 ≤ 2 ^ d := Nat.one_le_two_pow
    have hM := c.1
    have : mantOf r' * 1 ≤ mantOf r' * 2 ^ d := Nat.mul_le_mul_left _ hp1
    rw [hd, Nat.pow_succ, ← Nat.mul_assoc]
    omega

theorem mant_zero (r : Nat) : mantOf r = 0 ↔ r = 0 := by
  unfold mantOf; split <;> omega

theorem order_num (s t : Bool) (r r' : Nat) : Datum.order (.number s (mantOf r) (placeOf r)) (.number t (mantOf r') (placeOf r')) = some (ordW s t r r') := by
  have hz := mant_zero r
  have hz' := mant_zero r'
  -- the two whole parts at one place
  obtain ⟨u, v, hu, hv, hlt, heq, hgt, hu0, hv0⟩ : ∃ u v : Nat, mantOf r <<< (placeOf r - min (placeOf r) (placeOf r')).toNat = u ∧ mantOf r' <<< (placeOf r' - min (placeOf r) (placeOf r')).toNat = v ∧ (r < r' → u < v) ∧ (r = r' → u = v) ∧ (r' < r → v < u) ∧ (u = 0 ↔ r = 0) ∧ (v = 0 ↔ r' = 0) := by
    refine ⟨_, _, rfl, rfl, ?_, ?_, ?_, ?_, ?_⟩
    · intro h
      have hm := place_mono (Nat.le_of_lt h)
      rw [Int.min_eq_left hm, Nat.shiftLeft_eq, Nat.shiftLeft_eq, show (placeOf r - placeOf r).toNat = 0 by omega, Nat.pow_zero, Nat.mul_one]
      exact scale_lt h
    · intro h; rw [h, Int.min_self]
    · intro h
      have hm := place_mono (Nat.le_of_lt h)
      rw [Int.min_eq_right hm, Nat.shiftLeft_eq, Nat.shiftLeft_eq, show (placeOf r' - placeOf r').toNat = 0 by omega, Nat.pow_zero, Nat.mul_one]
      exact scale_lt h
    · rw [Nat.shiftLeft_eq, Nat.mul_eq_zero, hz]
      have := Nat.two_pow_pos (placeOf r - min (placeOf r) (placeOf r')).toNat
      omega
    · rw [Nat.shiftLeft_eq, Nat.mul_eq_zero, hz']
      have := Nat.two_pow_pos (placeOf r' - min (placeOf r) (placeOf r')).toNat
      omega
  have key : Datum.order (.number s (mantOf r) (placeOf r)) (.number t (mantOf r') (placeOf r')) = some (compareOfLessAndEq (if s then -(u : Int) else u) (if t then -(v : Int) else v)) := by
    rw [← hu, ← hv]; rfl
  rw [key]
  clear key hu hv
  congr 1
  unfold compareOfLessAndEq ordW
  by_cases z : r = 0 ∧ r' = 0
  · have h1 : u = 0 := hu0.2 z.1
    have h2 : v = 0 := hv0.2 z.2
    rw [if_pos z, h1, h2]
    cases s <;> cases t <;> rfl
  · rw [if_neg z]
    have hh : ¬ (u = 0 ∧ v = 0) := fun c => z ⟨hu0.1 c.1, hv0.1 c.2⟩
    rcases Nat.lt_trichotomy r r' with c | c | c
    · have := hlt c
      cases s <;> cases t
      · show (if (u : Int) < v then _ else _) = if r < r' then _ else _
        rw [if_pos (by omega), if_pos c]
      · show (if (u : Int) < -(v : Int) then _ else if (u : Int) = -(v : Int) then _ else _) = Ordering.gt
        rw [if_neg (by omega), if_neg (by omega)]
      · show (if -(u : Int) < (v : Int) then _ else _) = Ordering.lt
        rw [if_pos (by omega)]
      · show (if -(u : Int) < -(v : Int) then _ else if -(u : Int) = -(v : Int) then _ else _) = if r' < r then _ else if r = r' then _ else _
        rw [if_neg (by omega), if_neg (by omega), if_neg (by omega), if_neg (by omega)]
    · have := heq c
      cases s <;> cases t
      · show (if (u : Int) < v then _ else if (u : Int) = v then _ else _) = if r < r' then _ else if r = r' then _ else _
        rw [if_neg (by omega), if_pos (by omega), if_neg (by omega), if_pos c]
      · show (if (u : Int) < -(v : Int) then _ else if (u : Int) = -(v : Int) then _ else _) = Ordering.gt
        rw [if_neg (by omega), if_neg (by omega)]
      · show (if -(u : Int) < (v : Int) then _ else _) = Ordering.lt
        rw [if_pos (by omega)]
      · show (if -(u : Int) < -(v : Int) then _ else if -(u : Int) = -(v : Int) then _ else _) = if r' < r then _ else if r = r' then _ else _
        rw [if_neg (by omega), if_pos (by omega), if_neg (by omega), if_pos c]
    · have := hgt c
      cases s <;> cases t
      · show (if (u : Int) < v then _ else if (u : Int) = v then _ else _) = if r < r' then _ else if r = r' then _ else _
        rw [if_neg (by omega), if_neg (by omega), if_neg (by omega), if_neg (by omega)]
      · show (if (u : Int) < -(v : Int) then _ else if (u : Int) = -(v : Int) then _ else _) = Ordering.gt
        rw [if_neg (by omega), if_neg (by omega)]
      · show (if -(u : Int) < (v : Int) then _ else _) = Ordering.lt
        rw [if_pos (by omega)]
      · show (if -(u : Int) < -(v : Int) then _ else _) = if r' < r then _ else _
        rw [if_pos (by omega), if_pos c]

theorem read_inf (s : Bool) : single.read (single.word s 2139095040) = .infinity s := by
  rw [read_word s _ (by decide), if_neg (by decide), if_neg (by decide), if_pos rfl]

theorem order_words (s t : Bool) (r r' : Nat) (h : r ≤ 2139095040) (h' : r' ≤ 2139095040) : single.order (single.word s r) (single.word t r') = some (ordW s t r r') := by
  unfold Format.order
  by_cases c : r < 2139095040
  · rw [read_fin s r c]
    by_cases c' : r' < 2139095040
    · rw [read_fin t r' c']
      exact order_num s t r r'
    · have e : r' = 2139095040 := by omega
      rw [e, read_inf]
      unfold Datum.order ordW
      rw [if_neg (by omega)]
      cases s <;> cases t
      · show some Ordering.lt = some (if _ then _ else _); rw [if_pos c]
      · rfl
      · rfl
      · show some Ordering.gt = some (if _ then _ else if _ then _ else _); rw [if_neg (by omega), if_neg (by omega)]
  · have e : r = 2139095040 := by omega
    rw [e, read_inf]
    by_cases c' : r' < 2139095040
    · rw [read_fin t r' c']
      unfold Datum.order ordW
      rw [if_neg (by omega)]
      cases s <;> cases t
      · show some Ordering.gt = some (if _ then _ else if _ then _ else _); rw [if_neg (by omega), if_neg (by omega)]
      · rfl
      · rfl
      · show some Ordering.lt = some (if _ then _ else _); rw [if_pos c']
    · have e' : r' = 2139095040 := by omega
      rw [e', read_inf]
      cases s <;> cases t <;> rfl
end Fs
end Go.Proofs.YtckjmcfncfoboaaDoor
