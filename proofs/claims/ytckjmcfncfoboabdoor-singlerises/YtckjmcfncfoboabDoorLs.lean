/- SingleRises: opposites, and Up and Down beside one another: no program here. -/
import Derived.Test.YtckjmcfncfoboabDoorLr
namespace Go.Proofs.YtckjmcfncfoboabDoor
open Go.RowKit
open Ieee

/-- The singles' least place lies so far above the numbers'. -/
def wide : Nat := 925

theorem xor_pow (n r : Nat) (h : r < 2 ^ n) : r ^^^ 2 ^ n = 2 ^ n + r := by
  rw [← nat_join n (2 ^ n) r (Nat.mod_self _) h]
  refine Nat.eq_of_testBit_eq fun i => ?_
  rw [Nat.testBit_xor, Nat.testBit_or, Nat.testBit_two_pow]
  by_cases c : n = i
  · subst c
    rw [Nat.testBit_lt_two_pow h, decide_eq_true rfl]; rfl
  · rw [decide_eq_false c]; cases r.testBit i <;> rfl
theorem xor_pow' (n r : Nat) (h : r < 2 ^ n) : (2 ^ n + r) ^^^ 2 ^ n = r := by
  rw [← xor_pow n r h, Nat.xor_assoc, Nat.xor_self, Nat.xor_zero]
theorem neg64 (s : Bool) (r : Nat) (h : r < 9223372036854775808) : Op.negFloat .f64 (double.word s r) = double.word (!s) r := by
  show double.word s r ^^^ 2 ^ 63 = _
  cases s
  · exact xor_pow 63 r h
  · exact xor_pow' 63 r h
theorem neg32 (s : Bool) (r : Nat) (h : r < 2147483648) : Op.negFloat .f32 (single.word s r) = single.word (!s) r := by
  show single.word s r ^^^ 2 ^ 31 = _
  cases s
  · exact xor_pow 31 r h
  · exact xor_pow' 31 r h

theorem far_opp (mode : Int) (s : Bool) : Rn.far (Rn.opp mode) (!s) = Rn.far mode s := by
  unfold Rn.far Rn.opp
  by_cases h3 : mode = 3
  · subst h3; cases s <;> decide
  · by_cases h4 : mode = 4
    · subst h4; cases s <;> decide
    · rw [if_neg h3, if_neg h4, decide_eq_false h3, decide_eq_false h4, Bool.false_and, Bool.false_and]; rfl
theorem rung_opp (mode : Int) (s : Bool) (m : Nat) (e : Int) : Rn.rung32 (Rn.opp mode) (!s) m e = Rn.rung32 mode s m e := by
  unfold Rn.rung32 Rn.rungs
  rw [Rn.rnd_opp]
theorem nr_opp (mode : Int) (s : Bool) (r : Nat) : nr (Rn.opp mode) (!s) r = nr mode s r := by
  unfold nr Rn.cap32
  rw [rung_opp, far_opp]
theorem nrO_opp (mode : Int) (s : Bool) (m : Nat) (e : Int) : nrO (Rn.opp mode) (!s) m e = nrO mode s m e := by
  unfold nrO
  rw [rung_opp]
theorem sp_mag {a b : Nat} (h : mag a = mag b) : spM a = spM b ∧ spE a = spE b ∧ plainB a = plainB b := by
  unfold spM spE plainB
  rw [h]; exact ⟨rfl, rfl, rfl⟩
theorem flags_opp (mode : Int) {a b : Nat} (h : mag a = mag b) (hs : sgb a = !sgb b) :
    nwI (Rn.opp mode) a = nwI mode b ∧ nwO (Rn.opp mode) a = nwO mode b ∧ nwU (Rn.opp mode) a = nwU mode b := by
  obtain ⟨h1, h2, h3⟩ := sp_mag h
  unfold nwI nwO nwU
  rw [h1, h2, h3, hs, nrO_opp]; exact ⟨rfl, rfl, rfl⟩
theorem whM_opp (mode : Int) {a b : Nat} (h : mag a = mag b) (hs : sgb a = !sgb b) : whM (Rn.opp mode) a = whM mode b ∧ whL a = whL b := by
  obtain ⟨h1, h2, _⟩ := sp_mag h
  unfold whM whL
  rw [h1, h2, hs, Rn.rnd_opp]; exact ⟨rfl, rfl⟩
/-- The opposite of a number. -/
theorem opp_word (b : Nat) (hb : b < 18446744073709551616) : Op.negFloat .f64 b < 18446744073709551616 ∧ mag (Op.negFloat .f64 b) = mag b ∧ sgb (Op.negFloat .f64 b) = !sgb b := by
  have hw := word_mag b hb
  have hl := mag_lt b
  have e := neg64 (sgb b) (mag b) hl
  rw [hw] at e
  have := word64_lt (!sgb b) (mag b) hl
  rw [e]
  exact this
theorem narrow_opp (mode : Int) (b : Nat) (hb : b < 18446744073709551616) (hn : isN b = false) : Op.negFloat .f32 (nwW (Rn.opp mode) (Op.negFloat .f64 b)) = nwW mode b := by
  obtain ⟨o1, o2, o3⟩ := opp_word b hb
  have hn' : isN (Op.negFloat .f64 b) = false := by unfold isN at *; rw [o2]; exact hn
  have hle := nr_le mode (sgb b) (mag b)
  rw [nwW_word _ _ hn', nwW_word _ _ hn, o2, o3, nr_opp, neg32 _ _ (by omega), Bool.not_not]
theorem near_neg (s : Bool) {m : Nat} {p : Int} (f : Fl.Fits m p) : Op.negFloat .f64 (double.nearest (!s) m p) = double.nearest s m p := by
  obtain ⟨w1, w2⟩ := Fl.word_nearest (!s) f
  have w3 := (Fl.word_nearest s f).1
  rw [← w1, neg64 _ _ (by omega), Bool.not_not, w3]
theorem whole_opp (mode : Int) (b : Nat) (hb : b < 18446744073709551616) (hn : isN b = false) : Op.negFloat .f64 (whA (Rn.opp mode) (Op.negFloat .f64 b)) = whA mode b := by
  obtain ⟨o1, o2, o3⟩ := opp_word b hb
  obtain ⟨q1, q2⟩ := whM_opp mode o2 o3
  have hle := isN_not hn
  unfold whA
  rw [o2]
  by_cases hi : mag b = 9218868437227405312
  · rw [if_pos hi, if_pos hi]
    show (b ^^^ 2 ^ 63) ^^^ 2 ^ 63 = b
    rw [Nat.xor_assoc, Nat.xor_self, Nat.xor_zero]
  · rw [if_neg hi, if_neg hi]
    have hf : mag b < 9218868437227405312 := by omega
    obtain ⟨f1, f2, f3⟩ := wh_facts mode b hf
    unfold whW
    rw [q1, q2, o3]
    by_cases c : whM mode b = 0
    · rw [if_pos c, if_pos c, neg64 _ _ (by decide), Bool.not_not]
    · rw [if_neg c, if_neg c]
      exact near_neg (sgb b) ⟨c, f1, by omega, by omega⟩

/-- A single as a number: its rung, its value. -/
theorem wd_val (s : Bool) (g : Nat) (h : g ≤ 2139095040) : ∃ R, wdW s g = double.word s R ∧ R ≤ 9218868437227405312 ∧ (g = 2139095040 → R = 9218868437227405312) ∧ (g < 2139095040 → val64 R = val32 g * 2 ^ wide) := by
  unfold wdW
  by_cases hi : g = 2139095040
  · rw [if_pos hi]; exact ⟨_, rfl, Nat.le_refl _, fun _ => rfl, fun c => by omega⟩
  · rw [if_neg hi]
    by_cases h0 : g = 0
    · rw [if_pos h0]
      refine ⟨0, rfl, by decide, fun c => absurd c hi, fun _ => ?_⟩
      have e1 : Fl.mantOf 0 = 0 := (Fl.mant_zero 0).2 rfl
      have e2 : Fs.mantOf 0 = 0 := (Fs.mant_zero 0).2 rfl
      unfold val64 val32
      rw [h0, e1, e2, Nat.zero_mul, Nat.zero_mul, Nat.zero_mul]
    · rw [if_neg h0]
      obtain ⟨R, e, r, v⟩ := near_val s (fits32 g (by omega) h0)
      refine ⟨R, e, Nat.le_of_lt r, fun c => absurd c hi, fun _ => ?_⟩
      have hp := (Fs.canon_of g).2.1
      rw [v]
      unfold val32
      rw [Nat.mul_assoc, ← Nat.pow_add, show (Fs.placeOf g + 149).toNat + wide = (Fs.placeOf g + 1074).toNat by unfold wide; omega]

/-- Down and Up of a finite number that is not 0: m 2^e, in its own parts. -/
theorem beside_fin (r : Nat) (h0 : r ≠ 0) (_hr : r < 9218868437227405312) :
    ∃ fl : Nat, Rn.rung32 4 false (Fl.mantOf r) (Fl.placeOf r) = fl ∧ Rn.rung32 3 false (Fl.mantOf r) (Fl.placeOf r) = fl + (nrI (Fl.mantOf r) (Fl.placeOf r)).toNat ∧ val32 fl * 2 ^ wide ≤ val64 r ∧ (nrI (Fl.mantOf r) (Fl.placeOf r) = false → val32 fl * 2 ^ wide = val64 r) ∧ val64 r < val32 (fl + 1) * 2 ^ wide := by
  have hz : Fl.mantOf r ≠ 0 := fun c => h0 ((Fl.mant_zero r).1 c)
  have c := Fl.canon_of r
  have hge := last_ge (Fl.mantOf r) (Fl.placeOf r) c.2.2
  have hb := Rn.rnd32_bd 4 false (Fl.mantOf r) (Fl.placeOf r) hz
  have hL0 : -149 ≤ Fs.lastOf (Fl.mantOf r) (Fl.placeOf r) := by unfold Fs.lastOf; omega
  have hp0 := c.2.1
  have hv : val64 r = Fl.mantOf r * 2 ^ (Fl.placeOf r + 1074).toNat := rfl
  have hI : nrI (Fl.mantOf r) (Fl.placeOf r) = decide (Fl.mantOf r % 2 ^ (Fs.lastOf (Fl.mantOf r) (Fl.placeOf r) - Fl.placeOf r).toNat ≠ 0) := rfl
  have hlt2 : Fl.mantOf r < 2 ^ ((Fl.mantOf r).log2 + 1) := Nat.lt_log2_self
  have hLd : Fs.lastOf (Fl.mantOf r) (Fl.placeOf r) = max (Fl.placeOf r + (Fl.mantOf r).log2 - 23) (-149) := rfl
  unfold Rn.rung32 Rn.rungs
  generalize Fs.lastOf (Fl.mantOf r) (Fl.placeOf r) = L at *
  generalize Fl.placeOf r = e at *
  generalize hm : Fl.mantOf r = m at *
  have z1 : (e - L).toNat = 0 := by omega
  rw [z1, Nat.pow_zero, Nat.mul_one] at hb ⊢
  have r4 : Rn.rnd 4 false m (L - e).toNat = m / 2 ^ (L - e).toNat := by
    unfold Rn.rnd
    have : Rn.upw 4 false (m / 2 ^ (L - e).toNat % 2 == 1) (m % 2 ^ (L - e).toNat) (2 ^ (L - e).toNat) = (decide (m % 2 ^ (L - e).toNat ≠ 0) && false) := rfl
    rw [this, Bool.and_false]; rfl
  have r3 : Rn.rnd 3 false m (L - e).toNat = m / 2 ^ (L - e).toNat + (nrI m e).toNat := by
    unfold Rn.rnd
    have : Rn.upw 3 false (m / 2 ^ (L - e).toNat % 2 == 1) (m % 2 ^ (L - e).toNat) (2 ^ (L - e).toNat) = (decide (m % 2 ^ (L - e).toNat ≠ 0) && true) := rfl
    rw [this, Bool.and_true, hI]
  rw [r4] at hb
  rw [r4, r3, show L - -149 = L + 149 by omega]
  refine ⟨_, rfl, by omega, ?_⟩
  -- the front, below 2^24
  have hq24 : m / 2 ^ (L - e).toNat < 16777216 := by
    rw [Nat.div_lt_iff_lt_mul (Nat.two_pow_pos _), show (16777216 : Nat) = 2 ^ 24 from rfl, ← Nat.pow_add]
    refine Nat.lt_of_lt_of_le hlt2 (Nat.pow_le_pow_right (by decide) ?_)
    omega
  have v1 := val32_front L (m / 2 ^ (L - e).toNat) hL0 hb.1 hb.2
  have v2 := val32_front L (m / 2 ^ (L - e).toNat + 1) hL0 (by omega) (fun c => by have := hb.2 c; omega)
  rw [Nat.add_assoc, v1, v2, hv]
  have ep : 2 ^ (L + 149).toNat * 2 ^ wide = 2 ^ (L - e).toNat * 2 ^ (e + 1074).toNat := by
    rw [← Nat.pow_add, ← Nat.pow_add, show (L + 149).toNat + wide = (L - e).toNat + (e + 1074).toNat by unfold wide; omega]
  have hd := Nat.div_add_mod m (2 ^ (L - e).toNat)
  have hml := Nat.mod_lt m (Nat.two_pow_pos (L - e).toNat)
  have hmc : 2 ^ (L - e).toNat * (m / 2 ^ (L - e).toNat) = m / 2 ^ (L - e).toNat * 2 ^ (L - e).toNat := Nat.mul_comm _ _
  rw [Nat.mul_assoc, ep, Nat.mul_assoc, ep, ← Nat.mul_assoc, ← Nat.mul_assoc]
  refine ⟨Nat.mul_le_mul_right _ (by omega), fun hx => ?_, Nat.mul_lt_mul_of_pos_right ?_ (Nat.two_pow_pos _)⟩
  · rw [hI] at hx
    have hx' : m % 2 ^ (L - e).toNat = 0 := by
      have := of_decide_eq_false hx
      omega
    rw [show m / 2 ^ (L - e).toNat * 2 ^ (L - e).toNat = m by omega]
  · rw [Nat.add_mul, Nat.one_mul]; omega

/-- Of any number's rung: Down's and Up's rung of the positive one, the flag, and where the number lies between. -/
theorem beside (b : Nat) (hn : isN b = false) :
    nwI 3 b = nwI 4 b ∧ (nwI 4 b = false → nr 4 false (mag b) = nr 3 false (mag b)) ∧ (nwI 4 b = true → nr 3 false (mag b) = nr 4 false (mag b) + 1) ∧
    (∀ s R, wdW s (nr 4 false (mag b)) = double.word s R → R ≤ 9218868437227405312 → R ≤ mag b) ∧ (∀ s R, wdW s (nr 3 false (mag b)) = double.word s R → R ≤ 9218868437227405312 → mag b ≤ R) := by
  have hle := isN_not hn
  have inj : ∀ {s : Bool} {R R' : Nat}, double.word s R = double.word s R' → R = R' := by
    intro s R R' h
    unfold Format.word at h
    rw [Fl.sw] at h
    cases s
    · simpa using h
    · simp only [if_true] at h; omega
  by_cases hi : mag b = 9218868437227405312
  · have hp : plainB b = true := by unfold plainB; rw [decide_eq_true hi]; rfl
    have i3 : nwI 3 b = false := by unfold nwI; rw [hp, Bool.not_true, Bool.false_and]
    have i4 : nwI 4 b = false := by unfold nwI; rw [hp, Bool.not_true, Bool.false_and]
    have n4 : nr 4 false (mag b) = 2139095040 := by unfold nr; rw [if_pos hi]
    have n3 : nr 3 false (mag b) = 2139095040 := by unfold nr; rw [if_pos hi]
    rw [i3, i4, n3, n4]
    refine ⟨rfl, fun _ => rfl, fun c => (by cases c), fun s R _ hR => (by omega), fun s R h _ => ?_⟩
    obtain ⟨R', e', _, q, _⟩ := wd_val s 2139095040 (by decide)
    rw [e'] at h
    have := inj h
    have := q rfl
    omega
  · by_cases h0 : mag b = 0
    · have hp : plainB b = true := by unfold plainB; rw [decide_eq_true h0, Bool.or_true]
      have i3 : nwI 3 b = false := by unfold nwI; rw [hp, Bool.not_true, Bool.false_and]
      have i4 : nwI 4 b = false := by unfold nwI; rw [hp, Bool.not_true, Bool.false_and]
      have n4 : nr 4 false (mag b) = 0 := by unfold nr; rw [if_neg hi, if_pos h0]
      have n3 : nr 3 false (mag b) = 0 := by unfold nr; rw [if_neg hi, if_pos h0]
      rw [i3, i4, n3, n4]
      refine ⟨rfl, fun _ => rfl, fun c => (by cases c), fun s R h _ => ?_, fun s R _ _ => by omega⟩
      have : wdW s 0 = double.word s 0 := by unfold wdW; rw [if_neg (by decide), if_pos rfl]
      rw [this] at h
      have := inj h
      omega
    · have hf : mag b < 9218868437227405312 := by omega
      have hp : plainB b = false := by unfold plainB; rw [decide_eq_false hi, decide_eq_false h0]; rfl
      obtain ⟨s1, s2⟩ := sp_mant b hf h0
      obtain ⟨fl, g4, g3, v1, v2, v3⟩ := beside_fin (mag b) h0 hf
      have n4 : nr 4 false (mag b) = if fl < 2139095040 then fl else 2139095039 := by
        unfold nr Rn.cap32; rw [if_neg hi, if_neg h0, g4]; rfl
      have n3 : nr 3 false (mag b) = if fl + (nrI (Fl.mantOf (mag b)) (Fl.placeOf (mag b))).toNat < 2139095040 then fl + (nrI (Fl.mantOf (mag b)) (Fl.placeOf (mag b))).toNat else 2139095040 := by
        unfold nr Rn.cap32; rw [if_neg hi, if_neg h0, g3]; rfl
      -- by either sign: the two rungs are fl and fl + 1 (or fl)
      have hO : ∀ (s : Bool), (nrO 4 s (Fl.mantOf (mag b)) (Fl.placeOf (mag b)) || nrI (Fl.mantOf (mag b)) (Fl.placeOf (mag b))) = (decide (2139095040 ≤ fl) || nrI (Fl.mantOf (mag b)) (Fl.placeOf (mag b))) ∧ (nrO 3 s (Fl.mantOf (mag b)) (Fl.placeOf (mag b)) || nrI (Fl.mantOf (mag b)) (Fl.placeOf (mag b))) = (decide (2139095040 ≤ fl) || nrI (Fl.mantOf (mag b)) (Fl.placeOf (mag b))) := by
        have e4 : Rn.rung32 4 true (Fl.mantOf (mag b)) (Fl.placeOf (mag b)) = Rn.rung32 3 false (Fl.mantOf (mag b)) (Fl.placeOf (mag b)) := rung_opp 3 false _ _
        have e3 : Rn.rung32 3 true (Fl.mantOf (mag b)) (Fl.placeOf (mag b)) = Rn.rung32 4 false (Fl.mantOf (mag b)) (Fl.placeOf (mag b)) := rung_opp 4 false _ _
        intro s
        unfold nrO
        cases hx : nrI (Fl.mantOf (mag b)) (Fl.placeOf (mag b))
        · rw [hx] at g3
          have g3' : Rn.rung32 3 false (Fl.mantOf (mag b)) (Fl.placeOf (mag b)) = fl := g3
          cases s
          · rw [g4, g3']; exact ⟨rfl, rfl⟩
          · rw [e4, e3, g4, g3']; exact ⟨rfl, rfl⟩
        · rw [Bool.or_true, Bool.or_true, Bool.or_true]; exact ⟨rfl, rfl⟩
      have i4 : nwI 4 b = (decide (2139095040 ≤ fl) || nrI (Fl.mantOf (mag b)) (Fl.placeOf (mag b))) := by
        unfold nwI; rw [hp, Bool.not_false, Bool.true_and, s1, s2, (hO (sgb b)).1]
      have i3 : nwI 3 b = (decide (2139095040 ≤ fl) || nrI (Fl.mantOf (mag b)) (Fl.placeOf (mag b))) := by
        unfold nwI; rw [hp, Bool.not_false, Bool.true_and, s1, s2, (hO (sgb b)).2]
      refine ⟨by rw [i3, i4], ?_, ?_, ?_, ?_⟩
      · intro hx
        rw [i4, Bool.or_eq_false_iff, decide_eq_false_iff_not] at hx
        rw [n4, n3, hx.2, if_pos (show fl < 2139095040 by omega)]
        show fl = if fl + 0 < 2139095040 then fl + 0 else 2139095040
        rw [if_pos (by omega)]; rfl
      · intro hx
        rw [i4, Bool.or_eq_true, decide_eq_true_eq] at hx
        rw [n4, n3]
        by_cases c : 2139095040 ≤ fl
        · rw [if_neg (by omega), if_neg (by omega)]
        · have hx' : nrI (Fl.mantOf (mag b)) (Fl.placeOf (mag b)) = true := by
            rcases hx with h | h
            · exact absurd h c
            · exact h
          rw [hx', if_pos (show fl < 2139095040 by omega)]
          show (if fl + 1 < 2139095040 then fl + 1 else 2139095040) = fl + 1
          split <;> omega
      · intro s R h hR
        obtain ⟨R', e', r1, _, q⟩ := wd_val s (nr 4 false (mag b)) (nr_le _ _ _)
        rw [e'] at h
        have hRR := inj h
        have hlt : nr 4 false (mag b) < 2139095040 := by rw [n4]; split <;> omega
        have hle' : nr 4 false (mag b) ≤ fl := by rw [n4]; split <;> omega
        rw [← hRR]
        refine val64_le ?_
        rw [q hlt]
        exact Nat.le_trans (Nat.mul_le_mul_right _ (val32_le hle')) v1
      · intro s R h hR
        obtain ⟨R', e', r1, q0, q⟩ := wd_val s (nr 3 false (mag b)) (nr_le _ _ _)
        rw [e'] at h
        have hRR := inj h
        rw [← hRR]
        by_cases c : nr 3 false (mag b) = 2139095040
        · have := q0 c; omega
        · have hlt : nr 3 false (mag b) < 2139095040 := by have := nr_le 3 false (mag b); omega
          refine val64_le ?_
          rw [q hlt]
          have hn3 : nr 3 false (mag b) = fl + (nrI (Fl.mantOf (mag b)) (Fl.placeOf (mag b))).toNat := by
            rw [n3] at c ⊢
            split
            · rfl
            · rename_i c'; rw [if_neg c'] at c; exact absurd rfl c
          rw [hn3]
          cases hx : nrI (Fl.mantOf (mag b)) (Fl.placeOf (mag b))
          · exact Nat.le_of_eq (v2 hx).symm
          · exact Nat.le_of_lt v3
end Go.Proofs.YtckjmcfncfoboabDoor
