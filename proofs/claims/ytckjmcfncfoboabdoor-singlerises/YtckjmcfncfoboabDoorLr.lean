/- SingleRises: what its parts say, without a program. -/
import Derived.Test.YtckjmcfncfoboabDoorSq
import Derived.Test.YtckjmcfncfoboabDoorLb
namespace Go.Proofs.YtckjmcfncfoboabDoor
open Go.RowKit
open Ieee

/-- A word's value in the least unit of its kind. -/
def val64 (r : Nat) : Nat := Fl.mantOf r * 2 ^ (Fl.placeOf r + 1074).toNat
def val32 (r : Nat) : Nat := Fs.mantOf r * 2 ^ (Fs.placeOf r + 149).toNat

theorem val64_lt {r r' : Nat} (h : r < r') : val64 r < val64 r' := by
  have hs := Fl.scale_lt h
  have hm := Fl.place_mono (Nat.le_of_lt h)
  have h0 := (Fl.canon_of r).2.1
  have e : (Fl.placeOf r' + 1074).toNat = (Fl.placeOf r' - Fl.placeOf r).toNat + (Fl.placeOf r + 1074).toNat := by omega
  unfold val64
  rw [e, Nat.pow_add, ← Nat.mul_assoc]
  exact Nat.mul_lt_mul_of_pos_right hs (Nat.two_pow_pos _)
theorem val32_lt {r r' : Nat} (h : r < r') : val32 r < val32 r' := by
  have hs := Fs.scale_lt h
  have hm := Fs.place_mono (Nat.le_of_lt h)
  have h0 := (Fs.canon_of r).2.1
  have e : (Fs.placeOf r' + 149).toNat = (Fs.placeOf r' - Fs.placeOf r).toNat + (Fs.placeOf r + 149).toNat := by omega
  unfold val32
  rw [e, Nat.pow_add, ← Nat.mul_assoc]
  exact Nat.mul_lt_mul_of_pos_right hs (Nat.two_pow_pos _)
theorem val64_le {r r' : Nat} (h : val64 r ≤ val64 r') : r ≤ r' := by
  rcases Nat.lt_or_ge r' r with c | c
  · have := val64_lt c; omega
  · exact c
theorem val32_le {r r' : Nat} (h : r ≤ r') : val32 r ≤ val32 r' := by
  rcases Nat.lt_or_ge r r' with c | c
  · exact Nat.le_of_lt (val32_lt c)
  · have : r = r' := by omega
    rw [this]; exact Nat.le_refl _

theorem canon64_inv {M : Nat} {E : Int} (c : Fl.canon M E) : Fl.mantOf (Fl.rungOf M E) = M ∧ Fl.placeOf (Fl.rungOf M E) = E := by
  obtain ⟨c1, c2, c3⟩ := c
  unfold Fl.mantOf Fl.placeOf Fl.rungOf
  constructor
  · split <;> omega
  · omega
theorem canon32_inv {M : Nat} {E : Int} (c : Fs.canon M E) : Fs.mantOf (Fs.rungOf M E) = M ∧ Fs.placeOf (Fs.rungOf M E) = E := by
  obtain ⟨c1, c2, c3⟩ := c
  unfold Fs.mantOf Fs.placeOf Fs.rungOf
  constructor
  · split <;> omega
  · omega

/-- A number that is a word exactly: its value. -/
theorem near_val (neg : Bool) {m : Nat} {p : Int} (f : Fl.Fits m p) : ∃ R, double.nearest neg m p = double.word neg R ∧ R < 9218868437227405312 ∧ val64 R = m * 2 ^ (p + 1074).toNat := by
  obtain ⟨k, c, r, e, _⟩ := Fl.fit neg f
  refine ⟨_, e, r, ?_⟩
  obtain ⟨i1, i2⟩ := canon64_inv c
  unfold val64
  rw [i1, i2, Nat.mul_assoc, ← Nat.pow_add]
  have h2 := c.2.1
  congr 2
  omega

/-- A front at its last place: its value. -/
theorem val32_front (L : Int) (q : Nat) (hL : -149 ≤ L) (hq : q ≤ 16777216) (hn : -149 < L → 8388608 ≤ q) : val32 ((L + 149).toNat * 8388608 + q) = q * 2 ^ (L + 149).toNat := by
  by_cases h : q = 16777216
  · have c : Fs.canon 8388608 (L + 1) := ⟨by decide, by omega, Or.inl (by decide)⟩
    obtain ⟨i1, i2⟩ := canon32_inv c
    have e : Fs.rungOf 8388608 (L + 1) = (L + 149).toNat * 8388608 + q := by unfold Fs.rungOf; omega
    rw [e] at i1 i2
    unfold val32
    rw [i1, i2, h, show (L + 1 + 149).toNat = (L + 149).toNat + 1 by omega, Nat.pow_succ]
    omega
  · have c : Fs.canon q L := ⟨by omega, hL, by omega⟩
    obtain ⟨i1, i2⟩ := canon32_inv c
    have e : Fs.rungOf q L = (L + 149).toNat * 8388608 + q := rfl
    rw [e] at i1 i2
    unfold val32
    rw [i1, i2]

/-- Narrow, rung by rung. -/
def nr (mode : Int) (s : Bool) (r : Nat) : Nat := if r = 9218868437227405312 then 2139095040 else if r = 0 then 0 else Rn.cap32 mode s (Rn.rung32 mode s (Fl.mantOf r) (Fl.placeOf r))
theorem sp_mant (b : Nat) (h : mag b < 9218868437227405312) (h0 : mag b ≠ 0) : spM b = Fl.mantOf (mag b) ∧ spE b = Fl.placeOf (mag b) := by
  have h1 : ¬ 9218868437227405312 ≤ mag b := by omega
  constructor
  · unfold spM Fl.mantOf
    rw [if_neg h1]
    split <;> omega
  · unfold spE Fl.placeOf
    rw [if_neg h1, if_neg h0]
    split <;> omega
theorem nwW_word (mode : Int) (b : Nat) (hn : isN b = false) : nwW mode b = single.word (sgb b) (nr mode (sgb b) (mag b)) := by
  have hle := isN_not hn
  unfold nwW nr
  by_cases hi : mag b = 9218868437227405312
  · rw [if_pos hi, if_pos hi]
  · rw [if_neg hi, if_neg hi]
    by_cases h0 : mag b = 0
    · rw [if_pos h0, if_pos h0]
    · rw [if_neg h0, if_neg h0, (sp_mant b (by omega) h0).1, (sp_mant b (by omega) h0).2]; rfl
theorem nr_le (mode : Int) (s : Bool) (r : Nat) : nr mode s r ≤ 2139095040 := by
  unfold nr
  split
  · omega
  · split
    · omega
    · exact Rn.cap32_le _ _ _
theorem nr_rise (mode : Int) (s : Bool) {r r' : Nat} (h : r ≤ r') (h' : r' ≤ 9218868437227405312) : nr mode s r ≤ nr mode s r' := by
  by_cases hi : r' = 9218868437227405312
  · have : nr mode s r' = 2139095040 := by unfold nr; rw [if_pos hi]
    rw [this]; exact nr_le _ _ _
  · by_cases h0 : r = 0
    · have : nr mode s r = 0 := by unfold nr; rw [if_neg (by omega), if_pos h0]
      rw [this]; exact Nat.zero_le _
    · unfold nr
      rw [if_neg (by omega), if_neg h0, if_neg hi, if_neg (by omega)]
      refine Rn.cap32_rise _ _ ?_
      have hz : Fl.mantOf r ≠ 0 := fun c => h0 ((Fl.mant_zero r).1 c)
      have hz' : Fl.mantOf r' ≠ 0 := fun c => by have := (Fl.mant_zero r').1 c; omega
      have hm := Fl.place_mono h
      have e := Rn.rung32_shift mode s (Fl.mantOf r') (Fl.placeOf r') (Fl.placeOf r' - Fl.placeOf r).toNat hz'
      rw [show Fl.placeOf r' - ((Fl.placeOf r' - Fl.placeOf r).toNat : Int) = Fl.placeOf r by omega] at e
      rw [← e]
      refine Rn.rung32_rise mode s _ hz ?_
      rcases Nat.lt_or_ge r r' with c | c
      · exact Nat.le_of_lt (Fl.scale_lt c)
      · have : r = r' := by omega
        rw [this, show (Fl.placeOf r' - Fl.placeOf r').toNat = 0 by omega, Nat.pow_zero, Nat.mul_one]; exact Nat.le_refl _

/-- How two words with the greater one behind stand: never turned round. -/
def upto (s t : Bool) (r r' : Nat) : Prop := (s = false ∧ t = false ∧ r ≤ r') ∨ (s = true ∧ t = true ∧ r' ≤ r) ∨ (s = true ∧ t = false) ∨ (r = 0 ∧ r' = 0)
theorem upto_ord {s t : Bool} {r r' : Nat} (h : upto s t r r') : Fl.ordW s t r r' ≠ .gt := by
  unfold Fl.ordW
  by_cases z : r = 0 ∧ r' = 0
  · rw [if_pos z]; decide
  · rw [if_neg z]
    rcases h with ⟨rfl, rfl, h⟩ | ⟨rfl, rfl, h⟩ | ⟨rfl, rfl⟩ | h
    · show (if r < r' then Ordering.lt else if r = r' then .eq else .gt) ≠ .gt
      split
      · decide
      · rw [if_pos (by omega)]; decide
    · show (if r' < r then Ordering.lt else if r = r' then .eq else .gt) ≠ .gt
      split
      · decide
      · rw [if_pos (by omega)]; decide
    · show Ordering.lt ≠ .gt
      decide
    · exact absurd h z
theorem ord_upto {s t : Bool} {r r' : Nat} (h : Fl.ordW s t r r' ≠ .gt) : upto s t r r' := by
  unfold Fl.ordW at h
  by_cases z : r = 0 ∧ r' = 0
  · exact Or.inr (Or.inr (Or.inr z))
  · rw [if_neg z] at h
    cases s <;> cases t
    · left
      refine ⟨rfl, rfl, ?_⟩
      have h' : (if r < r' then Ordering.lt else if r = r' then .eq else .gt) ≠ .gt := h
      rcases Nat.lt_trichotomy r r' with c | c | c
      · omega
      · omega
      · rw [if_neg (by omega), if_neg (by omega)] at h'; exact absurd rfl h'
    · exact absurd rfl h
    · exact Or.inr (Or.inr (Or.inl ⟨rfl, rfl⟩))
    · right; left
      refine ⟨rfl, rfl, ?_⟩
      have h' : (if r' < r then Ordering.lt else if r = r' then .eq else .gt) ≠ .gt := h
      rcases Nat.lt_trichotomy r r' with c | c | c
      · rw [if_neg (by omega), if_neg (by omega)] at h'; exact absurd rfl h'
      · omega
      · omega
theorem ord_turn (s t : Bool) (r r' : Nat) (h : Fl.ordW s t r r' = .gt) : Fl.ordW t s r' r ≠ .gt := by
  intro g
  have := ord_upto (s := s) (t := t) (r := r) (r' := r')
  unfold Fl.ordW at h g
  by_cases z : r = 0 ∧ r' = 0
  · rw [if_pos z] at h; cases h
  · rw [if_neg z] at h
    rw [if_neg (fun c => z ⟨c.2, c.1⟩)] at g
    cases s <;> cases t
    · have h' : (if r < r' then Ordering.lt else if r = r' then .eq else .gt) = .gt := h
      have g' : (if r' < r then Ordering.lt else if r' = r then .eq else .gt) = .gt := g
      rcases Nat.lt_trichotomy r r' with c | c | c
      · rw [if_pos c] at h'; cases h'
      · rw [if_neg (by omega), if_pos c] at h'; cases h'
      · rw [if_pos c] at g'; cases g'
    · cases g
    · cases h
    · have h' : (if r' < r then Ordering.lt else if r = r' then .eq else .gt) = .gt := h
      have g' : (if r < r' then Ordering.lt else if r' = r then .eq else .gt) = .gt := g
      rcases Nat.lt_trichotomy r r' with c | c | c
      · rw [if_pos c] at g'; cases g'
      · rw [if_neg (by omega), if_pos c] at h'; cases h'
      · rw [if_pos c] at h'; cases h'

theorem rise32 (mode : Int) {s t : Bool} {r r' : Nat} (h : upto s t r r') (hr : r ≤ 9218868437227405312) (hr' : r' ≤ 9218868437227405312) : upto s t (nr mode s r) (nr mode t r') := by
  rcases h with ⟨rfl, rfl, h⟩ | ⟨rfl, rfl, h⟩ | h | ⟨rfl, rfl⟩
  · exact Or.inl ⟨rfl, rfl, nr_rise mode false h hr'⟩
  · exact Or.inr (Or.inl ⟨rfl, rfl, nr_rise mode true h hr⟩)
  · exact Or.inr (Or.inr (Or.inl h))
  · right; right; right
    unfold nr
    exact ⟨by rw [if_neg (by decide), if_pos rfl], by rw [if_neg (by decide), if_pos rfl]⟩

/-- Whole, by values. -/
def wv (mode : Int) (s : Bool) (m : Nat) (e : Int) : Nat := Rn.rnd mode s m (-e).toNat * 2 ^ e.toNat
theorem wv_shift (mode : Int) (s : Bool) (m : Nat) (e : Int) (k : Nat) : wv mode s (m * 2 ^ k) (e - k) = wv mode s m e := by
  unfold wv
  by_cases h1 : (k : Int) ≤ e
  · rw [show (-(e - k)).toNat = 0 by omega, show (-e).toNat = 0 by omega, Rn.rnd_zero, Rn.rnd_zero, Nat.mul_assoc, ← Nat.pow_add]
    congr 2; omega
  · by_cases h2 : 0 ≤ e
    · rw [show (-e).toNat = 0 by omega, Rn.rnd_zero, show (e - k).toNat = 0 by omega, Nat.pow_zero, Nat.mul_one]
      have q : m * 2 ^ k = m * 2 ^ e.toNat * 2 ^ (-(e - k)).toNat := by
        rw [Nat.mul_assoc, ← Nat.pow_add]; congr 2; omega
      rw [q, Rn.rnd_mul]
    · rw [show (e - k).toNat = 0 by omega, show e.toNat = 0 by omega, show (-(e - k)).toNat = (-e).toNat + k by omega, Rn.rnd_shift]
theorem wv_rise (mode : Int) (s : Bool) {r r' : Nat} (h : r ≤ r') : wv mode s (Fl.mantOf r) (Fl.placeOf r) ≤ wv mode s (Fl.mantOf r') (Fl.placeOf r') := by
  have hm := Fl.place_mono h
  have e := wv_shift mode s (Fl.mantOf r') (Fl.placeOf r') (Fl.placeOf r' - Fl.placeOf r).toNat
  rw [show Fl.placeOf r' - ((Fl.placeOf r' - Fl.placeOf r).toNat : Int) = Fl.placeOf r by omega] at e
  rw [← e]
  have hle : Fl.mantOf r ≤ Fl.mantOf r' * 2 ^ (Fl.placeOf r' - Fl.placeOf r).toNat := by
    rcases Nat.lt_or_ge r r' with c | c
    · exact Nat.le_of_lt (Fl.scale_lt c)
    · have : r = r' := by omega
      rw [this, show (Fl.placeOf r' - Fl.placeOf r').toNat = 0 by omega, Nat.pow_zero, Nat.mul_one]; exact Nat.le_refl _
  unfold wv
  exact Nat.mul_le_mul_right _ (Rn.rnd_rise mode s _ hle)
theorem whV_wv (mode : Int) (b : Nat) (h : mag b < 9218868437227405312) : whV mode b = wv mode (sgb b) (Fl.mantOf (mag b)) (Fl.placeOf (mag b)) := by
  unfold whV whM whL
  by_cases h0 : mag b = 0
  · have s := spl_0 b h0
    have s2 : (0 : Int) = (spM b : Int) := s.2.1
    have s2' : spM b = 0 := by omega
    have hz : Fl.mantOf (mag b) = 0 := (Fl.mant_zero _).2 h0
    unfold wv
    rw [s2', hz, Rn.rnd_nought, Rn.rnd_nought, Nat.zero_mul, Nat.zero_mul]
  · rw [(sp_mant b h h0).1, (sp_mant b h h0).2]; rfl

/-- The least place of a binary64, downwards. -/
def deep : Nat := 1074
/-- What Whole answers, of any number but the NaN. -/
def whA (mode : Int) (b : Nat) : Nat := if mag b = 9218868437227405312 then b else whW mode b
theorem whA_word (mode : Int) (b : Nat) (hb : b < 18446744073709551616) (hn : isN b = false) : ∃ R, whA mode b = double.word (sgb b) R ∧ R ≤ 9218868437227405312 ∧
    (mag b = 9218868437227405312 → R = 9218868437227405312) ∧ (mag b < 9218868437227405312 → R < 9218868437227405312 ∧ val64 R = wv mode (sgb b) (Fl.mantOf (mag b)) (Fl.placeOf (mag b)) * 2 ^ deep) := by
  have hle := isN_not hn
  unfold whA
  by_cases hi : mag b = 9218868437227405312
  · rw [if_pos hi]
    refine ⟨9218868437227405312, ?_, Nat.le_refl _, fun _ => rfl, fun c => by omega⟩
    have := word_mag b hb
    rw [hi] at this
    exact this.symm
  · rw [if_neg hi]
    have hf : mag b < 9218868437227405312 := by omega
    obtain ⟨f1, f2, f3⟩ := wh_facts mode b hf
    rw [← whV_wv mode b hf]
    by_cases c : whM mode b = 0
    · have hw : whW mode b = double.word (sgb b) 0 := by unfold whW; rw [if_pos c]
      refine ⟨0, hw, by decide, fun c => absurd c hi, fun _ => ⟨by decide, ?_⟩⟩
      have hz : whV mode b = 0 := by unfold whV; rw [c, Nat.zero_mul]
      have hv : val64 0 = 0 := by
        have : Fl.mantOf 0 = 0 := (Fl.mant_zero 0).2 rfl
        unfold val64; rw [this, Nat.zero_mul]
      rw [hz, hv, Nat.zero_mul]
    · have hw : whW mode b = double.nearest (sgb b) (whM mode b) (whL b) := by unfold whW; rw [if_neg c]
      have f : Fl.Fits (whM mode b) (whL b : Int) := ⟨c, f1, by omega, by omega⟩
      obtain ⟨R, e, r, v⟩ := near_val (sgb b) f
      refine ⟨R, by rw [hw, e], Nat.le_of_lt r, fun c => absurd c hi, fun _ => ⟨r, ?_⟩⟩
      rw [v]
      unfold whV
      rw [show ((whL b : Int) + 1074).toNat = whL b + deep by unfold deep; omega, Nat.pow_add, Nat.mul_assoc]
theorem rise64 (mode : Int) {a b : Nat} (ha : a < 18446744073709551616) (hb : b < 18446744073709551616) (na : isN a = false) (nb : isN b = false) (h : upto (sgb a) (sgb b) (mag a) (mag b)) :
    ∃ o, FloatKind.f64.format.order (whA mode a) (whA mode b) = some o ∧ o ≠ .gt := by
  obtain ⟨R, e, r1, r2, r3⟩ := whA_word mode a ha na
  obtain ⟨R', e', r1', r2', r3'⟩ := whA_word mode b hb nb
  have la := isN_not na
  have lb := isN_not nb
  have key : ∀ {s : Bool}, sgb a = s → sgb b = s → mag a ≤ mag b → R ≤ R' := by
    intro s h1 h2 hm
    by_cases hi : mag b = 9218868437227405312
    · have := r2' hi; omega
    · have q1 := r3 (by omega)
      have q2 := r3' (by omega)
      refine val64_le ?_
      rw [q1.2, q2.2, h1, h2]
      exact Nat.mul_le_mul_right _ (wv_rise mode s hm)
  have key' : ∀ {s : Bool}, sgb a = s → sgb b = s → mag b ≤ mag a → R' ≤ R := by
    intro s h1 h2 hm
    by_cases hi : mag a = 9218868437227405312
    · have := r2 hi; omega
    · have q1 := r3 (by omega)
      have q2 := r3' (by omega)
      refine val64_le ?_
      rw [q1.2, q2.2, h1, h2]
      exact Nat.mul_le_mul_right _ (wv_rise mode s hm)
  have hv0 : val64 0 = 0 := by
    have : Fl.mantOf 0 = 0 := (Fl.mant_zero 0).2 rfl
    unfold val64; rw [this, Nat.zero_mul]
  have hz : ∀ (s : Bool), wv mode s (Fl.mantOf 0) (Fl.placeOf 0) = 0 := by
    intro s
    have : Fl.mantOf 0 = 0 := (Fl.mant_zero 0).2 rfl
    unfold wv; rw [this, Rn.rnd_nought, Nat.zero_mul]
  have hu : upto (sgb a) (sgb b) R R' := by
    rcases h with ⟨h1, h2, h⟩ | ⟨h1, h2, h⟩ | h | ⟨h1, h2⟩
    · exact Or.inl ⟨h1, h2, key h1 h2 h⟩
    · exact Or.inr (Or.inl ⟨h1, h2, key' h1 h2 h⟩)
    · exact Or.inr (Or.inr (Or.inl h))
    · right; right; right
      have q1 := (r3 (by omega)).2
      have q2 := (r3' (by omega)).2
      rw [h1, hz, Nat.zero_mul, ← hv0] at q1
      rw [h2, hz, Nat.zero_mul, ← hv0] at q2
      have a1 := val64_le (Nat.le_of_eq q1)
      have a2 := val64_le (Nat.le_of_eq q2)
      exact ⟨by omega, by omega⟩
  refine ⟨_, ?_, upto_ord hu⟩
  rw [e, e']
  exact Fl.order_words _ _ _ _ r1 r1'
end Go.Proofs.YtckjmcfncfoboabDoor
