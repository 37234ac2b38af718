/- What PartsNear asks of any two numbers: the plain facts in the law's own words. -/
import Derived.Test.YtokfmeainfkjfaaDoorPn
import Derived.Test.YtokfmeainfkjfaaDoorRj
namespace Go.Proofs.YtokfmeainfkjfaaDoor
open Go.RowKit
open Ieee

theorem place_zero : Fl.placeOf 0 = -1074 := by decide +kernel
theorem unt_place (x : Nat) (h : mag x < 9218868437227405312) : untW x = Fl.pw (Fl.placeOf (mag x)) := by
  unfold untW untE
  rw [if_neg (by omega)]
  by_cases z : mag x = 0
  · rw [if_pos z, z, place_zero]
  · rw [if_neg z, sp_place x h z]

theorem word_pos (r : Nat) : double.word false r = r := rfl
theorem word_neg (r : Nat) : double.word true r = 9223372036854775808 + r := rfl

/-- A word is itself, told by the order. -/
theorem order_self (s : Bool) (r : Nat) (h : r ≤ 9218868437227405312) : (double.order (double.word s r) (double.word s r) == some .eq) = true := by
  rw [Fl.order_words s s r r h h]
  unfold Fl.ordW
  split
  · rfl
  · cases s <;> simp only [Nat.lt_irrefl, if_false, if_true] <;> rfl
theorem order_zeros (s t : Bool) : (double.order (double.word s 0) (double.word t 0) == some .eq) = true := by
  rw [Fl.order_words s t 0 0 (by decide) (by decide)]
  rfl
theorem order_abs (r r' : Nat) (h : r ≤ 9218868437227405312) (h' : r' ≤ 9218868437227405312) : double.order r r' = some (if r < r' then .lt else if r = r' then .eq else .gt) := by
  have := Fl.order_words false false r r' h h'
  rw [word_pos, word_pos] at this
  rw [this]
  unfold Fl.ordW
  by_cases z : r = 0 ∧ r' = 0
  · rw [if_pos z, if_neg (by omega), if_pos (by omega)]
  · rw [if_neg z]
theorem abs_gt (r r' : Nat) (h : r ≤ 9218868437227405312) (h' : r' ≤ 9218868437227405312) : (double.order r r' == some .gt) = decide (r' < r) := by
  rw [order_abs r r' h h']
  by_cases c : r' < r
  · rw [decide_eq_true c, if_neg (by omega), if_neg (by omega)]; rfl
  · rw [decide_eq_false c]
    by_cases d : r < r'
    · rw [if_pos d]; rfl
    · rw [if_neg d, if_pos (by omega)]; rfl
theorem abs_lt (r r' : Nat) (h : r ≤ 9218868437227405312) (h' : r' ≤ 9218868437227405312) : (double.order r r' == some .lt) = decide (r < r') := by
  rw [order_abs r r' h h']
  by_cases c : r < r'
  · rw [decide_eq_true c, if_pos c]; rfl
  · rw [decide_eq_false c, if_neg c]
    by_cases d : r = r'
    · rw [if_pos d]; rfl
    · rw [if_neg d]; rfl
theorem is_zero (x : Nat) (hx : x < 18446744073709551616) (n : isN x = false) : (double.order x 0 == some .eq) = decide (mag x = 0) := by
  have n0 : isN 0 = false := by decide +kernel
  have m0 : mag 0 = 0 := by decide +kernel
  have s0 : sgb 0 = false := by decide +kernel
  rw [order_bits x 0 hx (by decide +kernel) n n0, m0, s0]
  unfold Fl.ordW
  by_cases z : mag x = 0
  · rw [decide_eq_true z, if_pos ⟨z, rfl⟩]; rfl
  · rw [decide_eq_false z, if_neg (by omega)]
    cases sgb x
    · simp only [Nat.not_lt_zero, if_false]
      rw [if_neg z]; rfl
    · rfl
theorem pw_word (a : Int) (h0 : -1074 ≤ a) (h1 : a ≤ 1023) : ∃ r, Fl.pw a = double.word false r ∧ r ≤ 9218868437227405312 := by
  obtain ⟨k, _, r, e, _⟩ := Fl.fit false (Fl.fits_pow h0 h1)
  exact ⟨_, e, by omega⟩
theorem place_bd (r : Nat) (h : r < 9218868437227405312) : -1074 ≤ Fl.placeOf r ∧ Fl.placeOf r ≤ 1023 := by unfold Fl.placeOf; omega

/-- One step on, one unit more. -/
theorem step_unit (x : Nat) (hx : x < 18446744073709551616) (hf : mag x < 9218868437227405312) (hn : mag (nxt x) < 9218868437227405312) (hz : ¬ (mag x = 0 ∧ mag (nxt x) = 0)) :
    ∃ D, double.sub (nxt x) x = some D ∧ (mag (nxt x) < mag x → (double.order D (untW (nxt x)) == some .eq) = true) ∧ (¬ mag (nxt x) < mag x → (double.order D (untW x) == some .eq) = true) := by
  have n : isN x = false := decide_eq_false (by omega)
  have hw := word_mag x hx
  cases s : sgb x
  · rw [s] at hw
    have hp : plc x = mag x := by unfold plc magZ; rw [n, s]; rfl
    have e : nxt x = mag x + 1 := by
      unfold nxt wordAt; rw [hp, if_pos (by omega), if_neg (by omega)]; omega
    have m1 : mag (mag x + 1) = mag x + 1 := (mag_small _ (by omega)).1
    rw [e, m1] at hn
    refine ⟨Fl.pw (Fl.placeOf (mag x)), ?_, ?_, ?_⟩
    · have := Fl.sub_up (mag x) hn
      rw [hw, word_pos] at this
      rw [e]; exact this
    · intro c; rw [e, m1] at c; omega
    · intro _
      have b := place_bd (mag x) hf
      obtain ⟨r, er, hr⟩ := pw_word _ b.1 b.2
      rw [unt_place x hf, er]; exact order_self false r hr
  · rw [s] at hw
    have hp : plc x = -1 - (mag x : Int) := by unfold plc magZ; rw [n, s]; rfl
    by_cases z : mag x = 0
    · have e : nxt x = 0 := by
        unfold nxt wordAt; rw [hp, z, if_pos (by omega), if_neg (by omega)]; rfl
      exact absurd ⟨z, by rw [e]; decide +kernel⟩ hz
    · obtain ⟨r, hr⟩ : ∃ r, mag x = r + 1 := ⟨mag x - 1, by omega⟩
      have e : nxt x = 9223372036854775808 + r := by
        unfold nxt wordAt; rw [hp, hr, if_pos (by omega), if_pos (by omega)]; omega
      have m1 : mag (9223372036854775808 + r) = r := (mag_big r (by omega)).1
      refine ⟨Fl.pw (Fl.placeOf r), ?_, ?_, ?_⟩
      · have := Fl.sub_dn r (by omega)
        rw [← hr, hw, word_neg] at this
        rw [e]; exact this
      · intro _
        have b := place_bd r (by omega)
        obtain ⟨q, er, hq⟩ := pw_word _ b.1 b.2
        rw [unt_place _ hn, e, m1, er]; exact order_self false q hq
      · intro c; rw [e, m1] at c; omega

/-- Whole parts short enough are put together as they stand. -/
theorem join_fit (neg : Bool) (D : Nat) (l : Int) (h0 : D ≠ 0) (h1 : D < 9007199254740992) (h2 : -1074 ≤ l) (h3 : l ≤ 971) : joinW neg D l = double.nearest neg D l ∧ joinR D l = 0 := by
  have hne : ¬ (D : Int) = 0 := by omega
  obtain ⟨_, _, o1, m1, _⟩ := odd_facts (D : Int) (by omega) (by omega)
  rw [Int.toNat_natCast] at m1
  have ho : oddM (D : Int) ≠ 0 := by omega
  have hl := Fl.log2_mul_pow (oddM (D : Int)) (Lib.ctz 64 D) ho
  rw [← m1] at hl
  have hl2 := Fl.log2_lt53 h1 h0
  have oe : oddE (D : Int) l = l + (Lib.ctz 64 D : Nat) := by unfold oddE; rw [Int.toNat_natCast]
  have ok : joinOk (D : Int) l = true := by
    unfold joinOk hld
    rw [oe]
    exact decide_eq_true ⟨by omega, by omega, by omega⟩
  unfold joinW joinR
  rw [if_neg hne, if_neg hne, ok, if_pos rfl, if_pos rfl]
  refine ⟨?_, rfl⟩
  have s := Fl.nearest_shift neg (oddM (D : Int)) (oddE (D : Int) l) (Lib.ctz 64 D)
  rw [← s, ← m1, show oddE (D : Int) l - (Lib.ctz 64 D : Nat) = l by rw [oe]; omega]

theorem sub_of (x y : Nat) (hx : x < 18446744073709551616) (hy : y < 18446744073709551616) (fx : mag x < 9218868437227405312) (fy : mag y < 9218868437227405312) (hs : sgb x = sgb y) {d : Datum}
    (h : Datum.sum (.number (sgb x) (Fl.mantOf (mag x)) (Fl.placeOf (mag x))) (.number (!sgb x) (Fl.mantOf (mag y)) (Fl.placeOf (mag y))) = some d) : double.sub x y = some (double.write d) := by
  have rx := Fl.read_fin (sgb x) (mag x) fx
  have ry := Fl.read_fin (sgb y) (mag y) fy
  rw [word_mag x hx] at rx
  rw [word_mag y hy] at ry
  unfold Format.sub
  rw [rx, ry, ← hs]
  show (Datum.sum (.number (sgb x) (Fl.mantOf (mag x)) (Fl.placeOf (mag x))) (.number (!sgb x) (Fl.mantOf (mag y)) (Fl.placeOf (mag y)))).map double.write = _
  rw [h]; rfl

/-- The difference that the law puts together is the program's own. -/
theorem near_join (x y : Nat) (hx : x < 18446744073709551616) (hy : y < 18446744073709551616) (fx : mag x < 9218868437227405312) (fy : mag y < 9218868437227405312) (hs : sgb x = sgb y) (less : Bool) (D : Nat) (hD : D < 9007199254740992) (hl : less = true → D ≠ 0)
    (hd : if less then Fl.mantOf (mag x) * 2 ^ (Fl.placeOf (mag x) - min (Fl.placeOf (mag x)) (Fl.placeOf (mag y))).toNat + D = Fl.mantOf (mag y) * 2 ^ (Fl.placeOf (mag y) - min (Fl.placeOf (mag x)) (Fl.placeOf (mag y))).toNat
      else Fl.mantOf (mag y) * 2 ^ (Fl.placeOf (mag y) - min (Fl.placeOf (mag x)) (Fl.placeOf (mag y))).toNat + D = Fl.mantOf (mag x) * 2 ^ (Fl.placeOf (mag x) - min (Fl.placeOf (mag x)) (Fl.placeOf (mag y))).toNat) :
    ∃ S, double.sub x y = some S ∧ joinR D (min (Fl.placeOf (mag x)) (Fl.placeOf (mag y))) = 0 ∧ (double.order (joinW (sgb x != less) D (min (Fl.placeOf (mag x)) (Fl.placeOf (mag y)))) S == some .eq) = true := by
  have bx := place_bd (mag x) fx
  have by' := place_bd (mag y) fy
  have px : Fl.placeOf (mag x) ≤ 971 := by unfold Fl.placeOf; omega
  by_cases z : D = 0
  · have hls : less = false := by cases less; rfl; exact absurd z (hl rfl)
    subst z
    subst hls
    simp only [Bool.false_eq_true, if_false, Nat.add_zero] at hd
    have := sub_of x y hx hy fx fy hs (Fl.sub_num_0 (sgb x) _ _ _ _ hd.symm)
    refine ⟨_, this, ?_, ?_⟩
    · unfold joinR; exact if_pos rfl
    · have e1 : joinW (sgb x != false) (0 : Nat) (min (Fl.placeOf (mag x)) (Fl.placeOf (mag y))) = double.word (sgb x != false) 0 := by unfold joinW; exact if_pos rfl
      have e2 : double.write (.number false 0 (min (Fl.placeOf (mag x)) (Fl.placeOf (mag y)))) = double.word false 0 := by
        show double.nearest false 0 _ = _
        unfold Format.nearest; exact if_pos rfl
      rw [e1, e2]; exact order_zeros _ _
  · have hm : min (Fl.placeOf (mag x)) (Fl.placeOf (mag y)) ≤ 971 := by omega
    have hm0 : -1074 ≤ min (Fl.placeOf (mag x)) (Fl.placeOf (mag y)) := by omega
    have := sub_of x y hx hy fx fy hs (Fl.sub_num (sgb x) _ _ _ _ less D z hd)
    have jf := join_fit (sgb x != less) D (min (Fl.placeOf (mag x)) (Fl.placeOf (mag y))) z hD hm0 hm
    refine ⟨_, this, jf.2, ?_⟩
    rw [jf.1]
    have hl2 := Fl.log2_lt53 hD z
    obtain ⟨k, _, r, e, _⟩ := Fl.fit (sgb x != less) (m := D) (p := min (Fl.placeOf (mag x)) (Fl.placeOf (mag y))) ⟨z, hD, hm0, by omega⟩
    show (double.order (double.nearest (sgb x != less) D _) (double.nearest (sgb x != less) D _) == _) = true
    rw [e]; exact order_self _ _ (by omega)
end Go.Proofs.YtokfmeainfkjfaaDoor
