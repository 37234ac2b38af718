/- There and back, neighbours, steps, the order: the plain facts behind PartsBack. -/
import Derived.Test.YtokfmeainfkjfaaDoorFo
import Derived.Test.YtokfmeainfkjfaaDoorWo
import Derived.Test.YtokfmeainfkjfaaDoorWu
namespace Go.Proofs.YtokfmeainfkjfaaDoor
open Go.RowKit

theorem mag_small (r : Nat) (h : r < 9223372036854775808) : mag r = r ∧ sgb r = false := ⟨Nat.mod_eq_of_lt h, decide_eq_false (by omega)⟩
theorem mag_big (r : Nat) (h : r < 9223372036854775808) : mag (9223372036854775808 + r) = r ∧ sgb (9223372036854775808 + r) = true := ⟨by unfold mag; omega, decide_eq_true (by omega)⟩

theorem wordAt_facts (p : Int) (h0 : -9218868437227405313 ≤ p) (h1 : p ≤ 9218868437227405312) : isN (wordAt p) = false ∧ plc (wordAt p) = p ∧ wordAt p < 18446744073709551616 := by
  unfold wordAt
  by_cases h : p < 0
  · rw [if_pos h]
    obtain ⟨m, s⟩ := mag_big (-1 - p).toNat (by omega)
    have n : isN (9223372036854775808 + (-1 - p).toNat) = false := by unfold isN; rw [m]; exact decide_eq_false (by omega)
    refine ⟨n, ?_, by omega⟩
    unfold plc magZ; rw [n, s, m]
    show -1 - ((-1 - p).toNat : Int) = p
    omega
  · rw [if_neg h]
    obtain ⟨m, s⟩ := mag_small p.toNat (by omega)
    have n : isN p.toNat = false := by unfold isN; rw [m]; exact decide_eq_false (by omega)
    refine ⟨n, ?_, by omega⟩
    unfold plc magZ; rw [n, s, m]
    show (p.toNat : Int) = p
    omega
theorem wordAt_plc (x : Nat) (hx : x < 18446744073709551616) (n : isN x = false) : wordAt (plc x) = x := by
  have hm := mag_of x hx
  unfold plc magZ wordAt
  rw [n]
  cases hs : sgb x
  · rw [hs] at hm
    simp only [Bool.false_eq_true, if_false] at hm ⊢
    rw [if_neg (by omega)]; omega
  · rw [hs] at hm
    simp only [Bool.false_eq_true, if_false, if_true] at hm ⊢
    rw [if_pos (by omega)]; omega
theorem one_nan (a : Nat) : isN (one a) = isN a := by
  unfold one
  by_cases h : 9218868437227405312 < mag a
  · rw [if_pos h]
    have : isN a = true := decide_eq_true h
    rw [this]; decide +kernel
  · rw [if_neg h]
theorem one_of_nan {a : Nat} (h : isN (one a) = true) : one a = 9221120237041090560 := by
  rw [one_nan] at h
  unfold one; rw [if_pos (isN_of h)]
theorem one_self (a : Nat) : one (one a) = one a := by
  by_cases h : isN (one a) = true
  · rw [one_of_nan h]; decide +kernel
  · have h' : isN (one a) = false := by simpa using h
    have := isN_not h'
    show (if 9218868437227405312 < mag (one a) then _ else one a) = one a
    rw [if_neg this]
/-- Two numbers at one place are one number. -/
theorem plc_inj {a b : Nat} (ha : one a < 18446744073709551616) (hb : one b < 18446744073709551616) (h : plc (one a) = plc (one b)) : one a = one b := by
  have pn : ∀ x, isN x = true → plc x = 9221120237041090560 := fun x n => by unfold plc; rw [n]; rfl
  have pt : ∀ x, isN x = false → plc x ≤ 9218868437227405312 := fun x n => by
    have h1 := isN_not n
    have h3 := magZ_bd x
    have h2 : magZ x ≤ 9218868437227405312 := by unfold magZ; omega
    unfold plc; rw [n]
    cases sgb x
    · exact h2
    · show -1 - magZ x ≤ _; omega
  cases na : isN (one a) <;> cases nb : isN (one b)
  · rw [← wordAt_plc _ ha na, ← wordAt_plc _ hb nb, h]
  · have := pt _ na; have := pn _ nb; omega
  · have := pt _ nb; have := pn _ na; omega
  · rw [one_of_nan na, one_of_nan nb]

theorem cls_fin (x : Nat) : (2 < cls x ↔ mag x < 9218868437227405312) := by
  unfold cls
  split
  · omega
  · split
    · omega
    · split
      · omega
      · split <;> omega

theorem sp_mant (x : Nat) (hf : mag x < 9218868437227405312) : (spMz x).toNat = Fl.mantOf (mag x) := by
  unfold spMz spM
  rw [Int.toNat_natCast]
  generalize mag x = g at *
  unfold Fl.mantOf
  have h : ¬ 9218868437227405312 ≤ g := by omega
  rw [if_neg h, Nat.add_comm]
theorem sp_place (x : Nat) (hf : mag x < 9218868437227405312) (z : ¬ mag x = 0) : spE x = Fl.placeOf (mag x) := by
  unfold spE
  generalize mag x = g at *
  unfold Fl.placeOf
  have h : ¬ 9218868437227405312 ≤ g := by omega
  rw [if_neg h, if_neg z]
  by_cases c : g < 4503599627370496
  · rw [if_pos c]; omega
  · rw [if_neg c]; omega
/-- Taken apart and put together again. -/
theorem join_split (x : Nat) (hx : x < 18446744073709551616) (hf : mag x < 9218868437227405312) : joinW (spN x) (spMz x) (spE x) = x ∧ joinR (spMz x) (spE x) = 0 := by
  have hn : spN x = sgb x := by unfold spN; rw [if_neg (by omega)]
  have hw := word_mag x hx
  unfold joinW joinR
  by_cases z : mag x = 0
  · rw [if_pos ((spMz_0 x hf).2 z), if_pos ((spMz_0 x hf).2 z), hn]
    rw [z] at hw
    exact ⟨hw, rfl⟩
  · have z' : ¬ spMz x = 0 := fun c => z ((spMz_0 x hf).1 c)
    rw [if_neg z', if_neg z', hn]
    have mb := spMz_bd x
    have eb := spE_bd x
    obtain ⟨_, _, o1, m1, _⟩ := odd_facts (spMz x) (by omega) (by omega)
    have e2 := sp_mant x hf
    have e3 := sp_place x hf z
    have c : Fl.canon (spMz x).toNat (spE x) := by rw [e2, e3]; exact Fl.canon_of _
    have r : Fl.rungOf (spMz x).toNat (spE x) = mag x := by rw [e2, e3]; exact Fl.rungOf_of _
    have ho : oddM (spMz x) ≠ 0 := by omega
    have hl := Fl.log2_mul_pow (oddM (spMz x)) (Lib.ctz 64 (spMz x).toNat) ho
    rw [← m1] at hl
    have hM0 : (spMz x).toNat ≠ 0 := by omega
    have hl2 := Fl.log2_lt53 c.1 hM0
    have ok : joinOk (spMz x) (spE x) = true := by
      unfold joinOk hld oddE
      refine decide_eq_true ?_
      refine ⟨by omega, by omega, by omega⟩
    rw [ok, if_pos rfl, if_pos rfl]
    refine ⟨?_, rfl⟩
    have s := Fl.nearest_shift (sgb x) (oddM (spMz x)) (oddE (spMz x) (spE x)) (Lib.ctz 64 (spMz x).toNat)
    rw [← s, ← m1, show oddE (spMz x) (spE x) - (Lib.ctz 64 (spMz x).toNat : Nat) = spE x by unfold oddE; omega, Fl.nearest_canon _ c, r, Nat.min_eq_left (Nat.le_of_lt hf), hw]

theorem ordW_lt {a b : Nat} (na : isN a = false) (nb : isN b = false) (h : Fl.ordW (sgb a) (sgb b) (mag a) (mag b) = .lt) : plc a < plc b := by
  unfold Fl.ordW at h
  unfold plc magZ
  rw [na, nb]
  split at h
  · cases h
  · cases sa : sgb a <;> cases sb : sgb b <;> rw [sa, sb] at h <;> simp only [Bool.false_eq_true, if_false, if_true] at h ⊢
    · split at h
      · omega
      · split at h <;> cases h
    · cases h
    · omega
    · split at h
      · omega
      · split at h <;> cases h
theorem order_nan_l (a b : Nat) (ha : a < 18446744073709551616) (na : isN a = true) : Ieee.double.order a b = none := by
  have h1 := isN_of na
  have h2 := mag_lt a
  have := Fl.read_word (sgb a) (mag a) h2
  rw [word_mag a ha] at this
  unfold Ieee.Format.order
  rw [this, if_neg (by omega), if_neg (by omega), if_neg (by omega)]
  rfl
theorem order_nan_r (a b : Nat) (hb : b < 18446744073709551616) (nb : isN b = true) : Ieee.double.order a b = none := by
  have h1 := isN_of nb
  have h2 := mag_lt b
  have := Fl.read_word (sgb b) (mag b) h2
  rw [word_mag b hb] at this
  unfold Ieee.Format.order
  rw [this, if_neg (by omega), if_neg (by omega), if_neg (by omega)]
  cases Ieee.double.read a <;> rfl
theorem lt_plc (a b : Nat) (ha : a < 18446744073709551616) (hb : b < 18446744073709551616) (h : (Ieee.double.order a b == some .lt) = true) : plc a < plc b := by
  cases na : isN a
  · cases nb : isN b
    · rw [order_bits a b ha hb na nb] at h
      exact ordW_lt na nb (Option.some.inj (eq_of_beq h))
    · rw [order_nan_r a b hb nb] at h; cases h
  · rw [order_nan_l a b ha na] at h; cases h
/-- Only +infinity is more than the greatest finite number. -/
theorem gt_max (x : Nat) (hx : x < 18446744073709551616) : (Ieee.double.order x 9218868437227405311 == some .gt) = decide (plc x = 9218868437227405312) := by
  cases n : isN x
  · have h1 := isN_not n
    have nb : isN 9218868437227405311 = false := by decide +kernel
    have mb : mag 9218868437227405311 = 9218868437227405311 := by decide +kernel
    have sb : sgb 9218868437227405311 = false := by decide +kernel
    rw [order_bits x _ hx (by decide +kernel) n nb, mb, sb]
    unfold Fl.ordW plc magZ
    rw [n, if_neg (by omega)]
    cases s : sgb x
    · simp only [Bool.false_eq_true, if_false]
      by_cases c : mag x = 9218868437227405312
      · rw [c]; decide +kernel
      · have : ¬ ((mag x : Int) = 9218868437227405312) := by omega
        rw [decide_eq_false this]
        split
        · rfl
        · rw [if_pos (by omega)]; rfl
    · simp only [Bool.false_eq_true, if_false, if_true]
      have : ¬ (-1 - (mag x : Int) = 9218868437227405312) := by omega
      rw [decide_eq_false this]; rfl
  · rw [order_nan_l x _ hx n]
    have : ¬ plc x = 9218868437227405312 := by unfold plc; rw [n, if_pos rfl]; decide +kernel
    rw [decide_eq_false this]; rfl
end Go.Proofs.YtokfmeainfkjfaaDoor
