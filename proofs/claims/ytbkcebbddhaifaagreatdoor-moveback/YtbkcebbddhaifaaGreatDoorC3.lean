/- The plain functions of layer 1 over the bits of a binary64, and small facts on bit masks. No program here. The contracts of layer 1's functions that only look at the bits. Numbers: place, Order, Same; two are the same just if they are one number. -/
import Derived.Laws.BitsAllLaws
import Derived.Laws.Bits64
import Derived.Below
import Derived.Test.YtbkcebbddhaifaaGreatDoorRows
import Derived.WalkKit
import Derived.WalkSpells
import Derived.WalkLawsBesides
namespace Go.Proofs.YtbkcebbddhaifaaGreatDoor
open Go.RowKit

def mag (b : Nat) : Nat := b % 9223372036854775808
def sgb (b : Nat) : Bool := decide (9223372036854775808 ≤ b)
def cls (b : Nat) : Int :=
  if 9218868437227405312 < mag b then 1 else if mag b = 9218868437227405312 then 2 else if mag b = 0 then 3 else if mag b < 4503599627370496 then 4 else 5
def isN (b : Nat) : Bool := decide (9218868437227405312 < mag b)
def one (b : Nat) : Nat := if 9218868437227405312 < mag b then 9221120237041090560 else b
def ngt (b : Nat) : Bool := !isN b && sgb b
def spM (b : Nat) : Nat := if 9218868437227405312 ≤ mag b then 0 else if mag b < 4503599627370496 then mag b else mag b % 4503599627370496 + 4503599627370496
def spMz (b : Nat) : Int := (spM b : Int)
def spE (b : Nat) : Int := if 9218868437227405312 ≤ mag b then 0 else if mag b = 0 then 0 else if mag b < 4503599627370496 then -1074 else (mag b / 4503599627370496 : Nat) - 1075
def spN (b : Nat) : Bool := if 9218868437227405312 ≤ mag b then false else sgb b
def spR (b : Nat) : Int := if 9218868437227405312 ≤ mag b then 10 else 0

def magZ (b : Nat) : Int := (mag b : Int)
theorem magZ_bd (b : Nat) : 0 ≤ magZ b ∧ magZ b < 9223372036854775808 := by
  have : mag b < 9223372036854775808 := Nat.mod_lt _ (by decide)
  unfold magZ; omega
theorem mag_lt (b : Nat) : mag b < 9223372036854775808 := Nat.mod_lt _ (by decide)
theorem mag_of (b : Nat) (h : b < 18446744073709551616) : b = mag b + (if sgb b then 9223372036854775808 else 0) := by
  unfold mag sgb
  by_cases c : 9223372036854775808 ≤ b
  · simp only [c, decide_true, if_true]; omega
  · simp only [c, decide_false, Bool.false_eq_true, if_false]; omega

theorem and_mask63 (b : Nat) : b &&& 9223372036854775807 = b % 9223372036854775808 := Nat.and_two_pow_sub_one_eq_mod b 63
theorem and_mask52 (b : Nat) : b &&& 4503599627370495 = b % 4503599627370496 := Nat.and_two_pow_sub_one_eq_mod b 52
theorem and_mask11 (b : Nat) : b &&& 2047 = b % 2048 := Nat.and_two_pow_sub_one_eq_mod b 11

theorem andNot63 (b : Nat) (h : b < 18446744073709551616) : bits .andNot .u64 (b : Int) 9223372036854775808 = (mag b : Int) := by
  have := u64_andNot_nat b 9223372036854775808 h (by decide)
  rw [show ((9223372036854775808 : Nat) : Int) = 9223372036854775808 from rfl] at this
  rw [this, show 18446744073709551615 - 9223372036854775808 = 9223372036854775807 from rfl, and_mask63]
  rfl

theorem andNot63Z (b : Nat) (h : b < 18446744073709551616) : bits .andNot .u64 (b : Int) 9223372036854775808 = magZ b := andNot63 b h
theorem andNot63I (a : Int) (h0 : 0 ≤ a) (h : a < 18446744073709551616) : bits .andNot .u64 a 9223372036854775808 = magZ a.toNat := by
  have := andNot63Z a.toNat (by omega)
  rwa [Int.toNat_of_nonneg h0] at this

theorem and63 (b : Nat) (h : b < 18446744073709551616) : bits .and .u64 (b : Int) 9223372036854775808 = if sgb b then 9223372036854775808 else 0 := by
  have := u64_and_nat b 9223372036854775808 h (by decide)
  rw [show ((9223372036854775808 : Nat) : Int) = 9223372036854775808 from rfl] at this
  rw [this, nat_bit 63 b]
  unfold sgb
  by_cases c : 9223372036854775808 ≤ b
  · simp only [c, decide_true, if_true]; omega
  · simp only [c, decide_false, Bool.false_eq_true, if_false]; omega

theorem and63_ne (b : Nat) (h : b < 18446744073709551616) : (bits .and .u64 (b : Int) 9223372036854775808 != 0) = sgb b := by
  rw [and63 b h]; cases sgb b <;> rfl

theorem and63_neI (a : Int) (h0 : 0 ≤ a) (h : a < 18446744073709551616) : (bits .and .u64 a 9223372036854775808 != 0) = sgb a.toNat := by
  have := and63_ne a.toNat (by omega)
  rwa [Int.toNat_of_nonneg h0] at this

theorem ret_int {k : IntKind} {a b : Int} (h : a = b) : Ending.returned (.int k a) = .returned (.int k b) := by rw [h]
theorem ret_bool {a b : Bool} (h : a = b) : Ending.returned (.bool a) = .returned (.bool b) := by rw [h]
theorem ret_f64 {a b : Nat} (h : a = b) : Ending.returned (.float .f64 a) = .returned (.float .f64 b) := by rw [h]
theorem cls_eq (b : Nat) : cls b = 1 ∨ cls b = 2 ∨ cls b = 3 ∨ cls b = 4 ∨ cls b = 5 := by
  unfold cls; split <;> (try split) <;> (try split) <;> (try split) <;> simp
theorem cls_a (b : Nat) (z : Int) (hz : Hid (magZ b = z)) (h : 9218868437227405312 < z) : 1 = cls b := by have := hz.out; unfold magZ at this; unfold cls; rw [if_pos (by omega)]
theorem cls_b (b : Nat) (z : Int) (hz : Hid (magZ b = z)) (h2 : (z == 9218868437227405312) = true) : 2 = cls b := by
  have h2' := eq_of_beq h2
  have := hz.out; unfold magZ at this; unfold cls; rw [if_neg (by omega), if_pos (by omega)]
theorem cls_c (b : Nat) (z : Int) (hz : Hid (magZ b = z)) (h2 : (z == 0) = true) : 3 = cls b := by
  have h2' := eq_of_beq h2
  have := hz.out; unfold magZ at this; unfold cls; rw [if_neg (by omega), if_neg (by omega), if_pos (by omega)]
theorem cls_d (b : Nat) (z : Int) (hz : Hid (magZ b = z)) (h2 : (z == 0) = false) (h : z < 4503599627370496) : 4 = cls b := by
  have h2' : z ≠ 0 := by simpa using h2
  have := hz.out; unfold magZ at this; unfold cls; rw [if_neg (by omega), if_neg (by omega), if_neg (by omega), if_pos (by omega)]
theorem cls_e (b : Nat) (z : Int) (hz : Hid (magZ b = z)) (h1 : z ≤ 9218868437227405312) (h2 : (z == 9218868437227405312) = false) (h : 4503599627370496 ≤ z) : 5 = cls b := by
  have h2' : z ≠ 9218868437227405312 := by simpa using h2
  have := hz.out; unfold magZ at this; unfold cls; rw [if_neg (by omega), if_neg (by omega), if_neg (by omega), if_neg (by omega)]
theorem cls1 (b : Nat) : (cls b == 1) = isN b := by
  unfold cls isN; split
  · simp_all
  · split <;> (try split) <;> (try split) <;> simp_all
theorem ret2 {a b c d : Value} (h1 : a = c) (h2 : b = d) : Ending.returned (.tuple #[a, b]) = .returned (.tuple #[c, d]) := by rw [h1, h2]
theorem int_eq {k : IntKind} {a b : Int} (h : a = b) : Value.int k a = .int k b := by rw [h]
theorem f64_eq {a b : Nat} (h : a = b) : Value.float .f64 a = .float .f64 b := by rw [h]
theorem bool_eq {a b : Bool} (h : a = b) : Value.bool a = .bool b := by rw [h]
theorem isN_of {b : Nat} (h : isN b = true) : 9218868437227405312 < mag b := of_decide_eq_true h
theorem isN_not {b : Nat} (h : isN b = false) : ¬ 9218868437227405312 < mag b := of_decide_eq_false h
theorem rone_y (a : Int) (h : isN a.toNat = true) : 9221120237041090560 = (one a.toNat : Int) := by
  unfold one; rw [if_pos (isN_of h)]; rfl
theorem rone_n (a : Int) (h0 : 0 ≤ a) (h : isN a.toNat = false) : a = (one a.toNat : Int) := by
  unfold one; rw [if_neg (isN_not h)]; omega
theorem ngt_y (b : Nat) (h : isN b = true) : false = ngt b := by unfold ngt; rw [h]; rfl
theorem ngt_n (b : Nat) (h : isN b = false) : sgb b = ngt b := by unfold ngt; rw [h]; rfl
theorem cls_isN {b : Nat} {c : Int} (hc : Hid (cls b = c)) : isN b = (c == 1) := by rw [← cls1, hc.out]
/-- Split's five ways. -/
theorem ret4 {a b c d a' b' c' d' : Value} (h1 : a = a') (h2 : b = b') (h3 : c = c') (h4 : d = d') : Ending.returned (.tuple #[a, b, c, d]) = .returned (.tuple #[a', b', c', d']) := by rw [h1, h2, h3, h4]
theorem spl_bad (b : Nat) (h : 9218868437227405312 ≤ mag b) : false = spN b ∧ 0 = spMz b ∧ 0 = spE b ∧ 10 = spR b := by
  refine ⟨?_, ?_, ?_, ?_⟩
  · unfold spN; rw [if_pos h]
  · unfold spMz spM; rw [if_pos h]; rfl
  · unfold spE; rw [if_pos h]
  · unfold spR; rw [if_pos h]
theorem spl_0 (b : Nat) (h : mag b = 0) : sgb b = spN b ∧ 0 = spMz b ∧ 0 = spE b ∧ 0 = spR b := by
  have h1 : ¬ 9218868437227405312 ≤ mag b := by omega
  have h2 : mag b < 4503599627370496 := by omega
  refine ⟨?_, ?_, ?_, ?_⟩
  · unfold spN; rw [if_neg h1]
  · unfold spMz spM; rw [if_neg h1, if_pos h2, h]; rfl
  · unfold spE; rw [if_neg h1, if_pos h]
  · unfold spR; rw [if_neg h1]
theorem spl_s (b : Nat) (h : mag b ≠ 0) (h2 : mag b < 4503599627370496) : sgb b = spN b ∧ magZ b = spMz b ∧ -1074 = spE b ∧ 0 = spR b := by
  have h1 : ¬ 9218868437227405312 ≤ mag b := by omega
  refine ⟨?_, ?_, ?_, ?_⟩
  · unfold spN; rw [if_neg h1]
  · unfold spMz spM; rw [if_neg h1, if_pos h2]; rfl
  · unfold spE; rw [if_neg h1, if_neg h, if_pos h2]
  · unfold spR; rw [if_neg h1]
theorem spl_n (b : Nat) (h1 : mag b < 9218868437227405312) (h2 : 4503599627370496 ≤ mag b) : sgb b = spN b ∧ magZ b % 4503599627370496 + 4503599627370496 = spMz b ∧ magZ b / 4503599627370496 - 1075 = spE b ∧ 0 = spR b := by
  have h1' : ¬ 9218868437227405312 ≤ mag b := by omega
  have h2' : ¬ mag b < 4503599627370496 := by omega
  have h3 : ¬ mag b = 0 := by omega
  refine ⟨?_, ?_, ?_, ?_⟩
  · unfold spN; rw [if_neg h1']
  · unfold spMz spM magZ; rw [if_neg h1', if_neg h2']; omega
  · unfold spE magZ; rw [if_neg h1', if_neg h3, if_neg h2']; omega
  · unfold spR; rw [if_neg h1']
theorem cls_of_c {b : Nat} {c : Int} (hc : Hid (cls b = c)) : ((c == 1) = true → 9218868437227405312 ≤ mag b) ∧ ((c == 2) = true → 9218868437227405312 ≤ mag b) ∧
    ((c == 3) = true → mag b = 0) ∧ ((c == 4) = true → mag b ≠ 0 ∧ mag b < 4503599627370496) ∧
    ((c == 1) = false → (c == 2) = false → (c == 3) = false → (c == 4) = false → mag b < 9218868437227405312 ∧ 4503599627370496 ≤ mag b) := by
  have e := hc.out
  clear hc
  simp only [beq_iff_eq, beq_eq_false_iff_ne, ne_eq]
  unfold cls at e
  split at e
  · subst e; refine ⟨?_, ?_, ?_, ?_, ?_⟩ <;> omega
  · split at e
    · subst e; refine ⟨?_, ?_, ?_, ?_, ?_⟩ <;> omega
    · split at e
      · subst e; refine ⟨?_, ?_, ?_, ?_, ?_⟩ <;> omega
      · split at e
        · subst e; refine ⟨?_, ?_, ?_, ?_, ?_⟩ <;> omega
        · subst e; refine ⟨?_, ?_, ?_, ?_, ?_⟩ <;> omega
theorem tdmod (z : Int) (h0 : 0 ≤ z) (h1 : z < 9223372036854775808) : IntKind.u64.wrap (z.tmod 4503599627370496 + 4503599627370496) = z % 4503599627370496 + 4503599627370496 ∧
    wrap64 (wrap64 (wrap64 (IntKind.u64.wrap (z.tdiv 4503599627370496)) - 1) + -1074) = z / 4503599627370496 - 1075 := by
  rw [Int.tmod_eq_emod_of_nonneg h0, Int.tdiv_eq_ediv_of_nonneg h0, IntKind.wrap_u64, IntKind.wrap_u64]
  unfold wrap64
  omega
theorem and52E (a : Int) (h0 : 0 ≤ a) (h : a < 18446744073709551616) : bits .and .u64 (a / 4503599627370496) 2047 = magZ a.toNat / 4503599627370496 := by
  obtain ⟨n, rfl⟩ := Int.eq_ofNat_of_zero_le h0
  have := u64_and_nat (n / 4503599627370496) 2047 (by omega) (by decide)
  rw [and_mask11] at this
  have e : ((n : Int) / 4503599627370496) = ((n / 4503599627370496 : Nat) : Int) := by omega
  rw [e, show (2047 : Int) = ((2047 : Nat) : Int) from rfl, this]
  unfold magZ mag
  rw [Int.toNat_natCast]
  omega
theorem and52M (a : Int) (h0 : 0 ≤ a) (h : a < 18446744073709551616) : bits .and .u64 a 4503599627370495 = magZ a.toNat % 4503599627370496 := by
  obtain ⟨n, rfl⟩ := Int.eq_ofNat_of_zero_le h0
  have := u64_and_nat n 4503599627370495 (by omega) (by decide)
  rw [and_mask52] at this
  rw [show (4503599627370495 : Int) = ((4503599627370495 : Nat) : Int) from rfl, this]
  unfold magZ mag
  rw [Int.toNat_natCast]
  omega
theorem or52 (M : Int) (h0 : 0 ≤ M) (h1 : M < 4503599627370496) : bits .or .u64 M 4503599627370496 = M + 4503599627370496 := by
  obtain ⟨n, rfl⟩ := Int.eq_ofNat_of_zero_le h0
  have := u64_or_nat n 4503599627370496 (by omega) (by decide)
  rw [show (4503599627370496 : Int) = ((4503599627370496 : Nat) : Int) from rfl, this, Nat.or_comm, nat_join 52 _ n (by decide) (by omega)]
  omega
theorem one_y (b : Nat) (z : Int) (hz : Hid (cls b = z)) (h : (z == 1) = true) : 9221120237041090560 = one b := by
  have e := cls1 b; rw [hz.out, h] at e
  have : 9218868437227405312 < mag b := of_decide_eq_true e.symm
  unfold one; rw [if_pos this]
theorem one_n (b : Nat) (z : Int) (hz : Hid (cls b = z)) (h : (z == 1) = false) : b = one b := by
  have e := cls1 b; rw [hz.out, h] at e
  have : ¬ 9218868437227405312 < mag b := of_decide_eq_false e.symm
  unfold one; rw [if_neg this]
end Go.Proofs.YtbkcebbddhaifaaGreatDoor
namespace Go.Proofs.YtbkcebbddhaifaaGreatDoor
open Go.RowKit

theorem results_four {fn : Func} {t u v s : Tmp} (h : fn.results = #[.tmp t, .tmp u, .tmp v, .tmp s]) (tmps : Array Value) (P : Program) (w : World) :
    (results fn tmps).run P w = .ok (.tuple #[tmps.getD t undef, tmps.getD u undef, tmps.getD v undef, tmps.getD s undef]) w := by
  simp [results, h]

@[go_sem] theorem run_f64bits (b : Nat) (w : World) : (callFunc 143 #[.float .f64 b]).run Tryz.prog w = .ok (.value (.int .u64 (b : Int))) w :=
  run_callFunc_extern (e := Extern.MathFloatBits.float64bits) Tryz.func143 (by kernel_rfl) (by kernel_rfl) (by kernel_rfl) (by kernel_rfl) _ w
@[go_sem] theorem run_f64frombits (n : Int) (w : World) : (callFunc 135 #[.int .u64 n]).run Tryz.prog w = .ok (.value (.float .f64 n.toNat)) w :=
  run_callFunc_extern (e := Extern.MathFloatBits.float64frombits) Tryz.func135 (by kernel_rfl) (by kernel_rfl) (by kernel_rfl) (by kernel_rfl) _ w

set_option maxHeartbeats 400000 in
theorem magnitude_any (b : Nat) (hb : Hid (b < 18446744073709551616)) (w : World) :
    Calls Tryz.prog 134 #[.float .f64 b] w fun e w' => e = .returned (.int .u64 (magZ b)) ∧ w' = w := by
  go_enter Tryz.func134, Tryz.ntmps134
  go_wp2
  go_ret
  exact ⟨ret_int (andNot63Z b hb.out), rfl⟩

set_option maxHeartbeats 400000 in
theorem class_any (b : Nat) (hb : Hid (b < 18446744073709551616)) (w : World) :
    Calls Tryz.prog 93 #[.float .f64 b] w fun e w' => e = .returned (.int .i64 (cls b)) ∧ w' = w := by
  go_enter Tryz.func93, Tryz.ntmps93
  go_wp2_with (go_at_call 134; refine (magnitude_any _ hb _).mono ?_; rintro e w' ⟨rfl, rfl⟩; generalize hz0 : magZ b = z; have hz : Hid (magZ b = z) := hz0; clear hz0)
  all_goals go_ret
  all_goals refine ⟨ret_int ?_, rfl⟩
  · exact cls_a b _ hz ‹_›
  · exact cls_b b _ hz ‹_›
  · exact cls_c b _ hz ‹_›
  · exact cls_d b _ hz ‹_› ‹_›
  · exact cls_e b _ hz ‹_› ‹_› ‹_›

set_option maxHeartbeats 400000 in
theorem isnan_any (a : Int) (h0 : Hid (0 ≤ a)) (h : Hid (a < 18446744073709551616)) (w : World) :
    Calls Tryz.prog 165 #[.int .u64 a] w fun e w' => e = .returned (.bool (isN a.toNat)) ∧ w' = w := by
  go_enter Tryz.func165, Tryz.ntmps165
  go_wp2
  go_ret
  refine ⟨ret_bool ?_, rfl⟩
  rw [andNot63I a h0.out h.out]
  unfold isN magZ
  rw [Bool.eq_iff_iff]; simp only [decide_eq_true_eq]; omega

set_option maxHeartbeats 400000 in
theorem finite_any (a : Int) (h0 : Hid (0 ≤ a)) (h : Hid (a < 18446744073709551616)) (w : World) :
    Calls Tryz.prog 177 #[.int .u64 a] w fun e w' => e = .returned (.bool (decide (mag a.toNat < 9218868437227405312))) ∧ w' = w := by
  go_enter Tryz.func177, Tryz.ntmps177
  go_wp2
  go_ret
  refine ⟨ret_bool ?_, rfl⟩
  rw [andNot63I a h0.out h.out]
  unfold magZ
  rw [Bool.eq_iff_iff]; simp only [decide_eq_true_eq]; omega

set_option maxHeartbeats 400000 in
theorem nan_any (w : World) :
    Calls Tryz.prog 94 #[] w fun e w' => e = .returned (.float .f64 9221120237041090560) ∧ w' = w := by
  go_enter Tryz.func94, Tryz.ntmps94
  go_wp2
  go_ret
  exact ⟨rfl, rfl⟩

set_option maxHeartbeats 400000 in
theorem one_any (b : Nat) (hb : Hid (b < 18446744073709551616)) (w : World) :
    Calls Tryz.prog 48 #[.float .f64 b] w fun e w' => e = .returned (.float .f64 (one b)) ∧ w' = w := by
  go_enter Tryz.func48, Tryz.ntmps48
  go_wp2_with (first | (go_at_call 93; refine (class_any _ hb _).mono ?_; rintro e w' ⟨rfl, rfl⟩; generalize hz0 : cls b = z; have hz : Hid (cls b = z) := hz0; clear hz0) | (go_at_call 94; refine (nan_any _).mono ?_; rintro e w' ⟨rfl, rfl⟩))
  all_goals go_ret
  all_goals refine ⟨ret_f64 ?_, rfl⟩
  · exact one_y b _ hz ‹_›
  · exact one_n b _ hz ‹_›

set_option maxHeartbeats 400000 in
theorem rone_any (a : Int) (h0 : Hid (0 ≤ a)) (h : Hid (a < 18446744073709551616)) (w : World) :
    Calls Tryz.prog 148 #[.int .u64 a] w fun e w' => e = .returned (.int .u64 (one a.toNat)) ∧ w' = w := by
  go_enter Tryz.func148, Tryz.ntmps148
  go_wp2_with (go_at_call 165; refine (isnan_any _ h0 h _).mono ?_; rintro e w' ⟨rfl, rfl⟩)
  all_goals go_ret
  all_goals refine ⟨ret_int ?_, rfl⟩
  · exact rone_y a ‹_›
  · exact rone_n a h0.out ‹_›

set_option maxHeartbeats 400000 in
theorem negative_any (b : Nat) (hb : Hid (b < 18446744073709551616)) (w : World) :
    Calls Tryz.prog 180 #[.float .f64 b] w fun e w' => e = .returned (.bool (ngt b)) ∧ w' = w := by
  go_enter Tryz.func180, Tryz.ntmps180
  go_wp2_with (go_at_call 93; refine (class_any _ hb _).mono ?_; rintro e w' ⟨rfl, rfl⟩; generalize hz0 : cls b = z; have hz : Hid (cls b = z) := hz0; clear hz0)
  all_goals go_ret
  all_goals refine ⟨ret_bool ?_, rfl⟩
  · exact ngt_y b (by rw [cls_isN hz]; simp [*])
  · rw [and63_ne b hb.out, ← ngt_n b (by rw [cls_isN hz]; simp [*])]; simp [*]

end Go.Proofs.YtbkcebbddhaifaaGreatDoor
namespace Go.Proofs.YtbkcebbddhaifaaGreatDoor
open Go.RowKit

def plc (b : Nat) : Int := if isN b then 9221120237041090560 else if sgb b then -1 - magZ b else magZ b
def ord (p q : Int) : Int := if p < q then -1 else if q < p then 1 else 0
def wordAt (p : Int) : Nat := if p < 0 then 9223372036854775808 + (-1 - p).toNat else p.toNat

theorem one_lt (b : Nat) (hb : b < 18446744073709551616) : one b < 18446744073709551616 := by unfold one; split <;> omega
theorem plc_n (b : Nat) (h : ngt b = true) : -1 - magZ (one b) = plc b := by
  unfold ngt at h
  simp only [Bool.and_eq_true, Bool.not_eq_true'] at h
  unfold plc one
  rw [h.1, h.2, if_neg (isN_not h.1)]; rfl
theorem plc_p (b : Nat) (h : ngt b = false) : magZ (one b) = plc b := by
  unfold ngt at h
  unfold plc one
  by_cases hn : isN b = true
  · rw [if_pos hn, if_pos (isN_of hn)]; decide
  · have hn' : isN b = false := by simpa using hn
    rw [hn'] at h
    have hs : sgb b = false := by simpa using h
    rw [hn', hs, if_neg (isN_not hn')]; rfl
theorem plc_bd (b : Nat) : -9223372036854775808 ≤ plc b ∧ plc b ≤ 9223372036854775807 := by
  have := magZ_bd b
  unfold plc; split
  · omega
  · split <;> omega

set_option maxHeartbeats 400000 in
theorem place_any (b : Nat) (hb : Hid (b < 18446744073709551616)) (w : World) :
    Calls Tryz.prog 163 #[.float .f64 b] w fun e w' => e = .returned (.int .i64 (plc b)) ∧ w' = w := by
  have ho : Hid (one b < 18446744073709551616) := one_lt b hb.out
  go_enter Tryz.func163, Tryz.ntmps163
  go_wp2_with (first | (go_at_call 48; refine (one_any _ hb _).mono ?_; rintro e w' ⟨rfl, rfl⟩) | (go_at_call 134; refine (magnitude_any _ ho _).mono ?_; rintro e w' ⟨rfl, rfl⟩; have hb0 := (magZ_bd (one b)).1; have hb1 := Int.le_sub_one_of_lt (magZ_bd (one b)).2; generalize hz0 : magZ (one b) = z at *; have hz : Hid (magZ (one b) = z) := hz0; clear hz0) | (go_at_call 180; refine (negative_any _ hb _).mono ?_; rintro e w' ⟨rfl, rfl⟩))
  all_goals go_ret
  all_goals refine ⟨ret_int ?_, rfl⟩
  · rw [← plc_n b ‹_›, hz.out]
  · rw [← plc_p b ‹_›, hz.out]

set_option maxHeartbeats 400000 in
theorem order_any (a b : Nat) (ha : Hid (a < 18446744073709551616)) (hb : Hid (b < 18446744073709551616)) (w : World) :
    Calls Tryz.prog 139 #[.float .f64 a, .float .f64 b] w fun e w' => e = .returned (.int .i64 (ord (plc a) (plc b))) ∧ w' = w := by
  have H1 : Hid (∀ w, Calls Tryz.prog 163 #[.float .f64 a] w fun e w' => e = .returned (.int .i64 (plc a)) ∧ w' = w) := place_any a ha
  have H2 : Hid (∀ w, Calls Tryz.prog 163 #[.float .f64 b] w fun e w' => e = .returned (.int .i64 (plc b)) ∧ w' = w) := place_any b hb
  generalize plc a = p at *
  generalize plc b = q at *
  clear ha hb
  go_enter Tryz.func139, Tryz.ntmps139
  go_wp2_with fail
  refine (H1.out _).mono ?_
  rintro e w' ⟨rfl, rfl⟩
  go_wp2_with fail
  refine (H2.out _).mono ?_
  rintro e w' ⟨rfl, rfl⟩
  go_wp2
  all_goals go_ret
  all_goals refine ⟨ret_int ?_, rfl⟩
  · unfold ord; rw [if_pos ‹_›]
  · unfold ord; rw [if_neg (by omega), if_pos ‹_›]
  · unfold ord; rw [if_neg (by omega), if_neg (by omega)]

set_option maxHeartbeats 400000 in
theorem same_any (a b : Nat) (ha : Hid (a < 18446744073709551616)) (hb : Hid (b < 18446744073709551616)) (w : World) :
    Calls Tryz.prog 107 #[.float .f64 a, .float .f64 b] w fun e w' => e = .returned (.bool (ord (plc a) (plc b) == 0)) ∧ w' = w := by
  have H1 : Hid (∀ w, Calls Tryz.prog 139 #[.float .f64 a, .float .f64 b] w fun e w' => e = .returned (.int .i64 (ord (plc a) (plc b))) ∧ w' = w) := order_any a b ha hb
  generalize ord (plc a) (plc b) = p at *
  go_enter Tryz.func107, Tryz.ntmps107
  go_wp2_with (go_at_call 139; refine (H1.out _).mono ?_; rintro e w' ⟨rfl, rfl⟩)
  go_ret
  exact ⟨rfl, rfl⟩

theorem wordAt_plc (x : Nat) (hx : x < 18446744073709551616) (n : isN x = false) : wordAt (plc x) = x := by
  have hm := mag_of x hx
  unfold plc magZ wordAt
  rw [n]
  cases hs : sgb x
  · rw [hs] at hm
    simp only [Bool.false_eq_true, if_false] at hm ⊢
    rw [if_neg (by omega)]; omega
  · rw [hs] at hm
    simp only [Bool.false_eq_true, if_false, if_true] at hm ⊢
    rw [if_pos (by omega)]; omega
theorem one_nan (a : Nat) : isN (one a) = isN a := by
  unfold one
  by_cases h : 9218868437227405312 < mag a
  · rw [if_pos h]
    have : isN a = true := decide_eq_true h
    rw [this]; decide +kernel
  · rw [if_neg h]
theorem one_of_nan {a : Nat} (h : isN (one a) = true) : one a = 9221120237041090560 := by
  rw [one_nan] at h
  unfold one; rw [if_pos (isN_of h)]
theorem one_self (a : Nat) : one (one a) = one a := by
  by_cases h : isN (one a) = true
  · rw [one_of_nan h]; decide +kernel
  · have h' : isN (one a) = false := by simpa using h
    have := isN_not h'
    show (if 9218868437227405312 < mag (one a) then _ else one a) = one a
    rw [if_neg this]
/-- Two numbers at one place are one number. -/
theorem plc_inj {a b : Nat} (ha : one a < 18446744073709551616) (hb : one b < 18446744073709551616) (h : plc (one a) = plc (one b)) : one a = one b := by
  have pn : ∀ x, isN x = true → plc x = 9221120237041090560 := fun x n => by unfold plc; rw [n]; rfl
  have pt : ∀ x, isN x = false → plc x ≤ 9218868437227405312 := fun x n => by
    have h1 := isN_not n
    have h3 := magZ_bd x
    have h2 : magZ x ≤ 9218868437227405312 := by unfold magZ; omega
    unfold plc; rw [n]
    cases sgb x
    · exact h2
    · show -1 - magZ x ≤ _; omega
  cases na : isN (one a) <;> cases nb : isN (one b)
  · rw [← wordAt_plc _ ha na, ← wordAt_plc _ hb nb, h]
  · have := pt _ na; have := pn _ nb; omega
  · have := pt _ nb; have := pn _ na; omega
  · rw [one_of_nan na, one_of_nan nb]


theorem plc_one (a : Nat) : plc (one a) = plc a := by
  by_cases h : isN a = true
  · have h1 : one a = 9221120237041090560 := by unfold one; rw [if_pos (isN_of h)]
    rw [h1]; unfold plc; rw [h, if_pos (rfl : true = true)]; decide +kernel
  · have h' : isN a = false := by simpa using h
    have : one a = a := by unfold one; rw [if_neg (isN_not h')]
    rw [this]
/-- The same number? -/
def fsame (a b : Nat) : Bool := decide (one a = one b)
theorem fsame_ord (a b : Nat) (ha : a < 18446744073709551616) (hb : b < 18446744073709551616) : (ord (plc a) (plc b) == 0) = fsame a b := by
  unfold fsame ord
  by_cases h : one a = one b
  · have : plc a = plc b := by rw [← plc_one a, ← plc_one b, h]
    rw [this, if_neg (by omega), if_neg (by omega), decide_eq_true h]; rfl
  · have hne : plc a ≠ plc b := fun e => h (plc_inj (one_lt a ha) (one_lt b hb) (by rw [plc_one, plc_one, e]))
    rw [decide_eq_false h]
    split
    · rfl
    · rw [if_pos (by omega)]; rfl
theorem fsame_any (a b : Nat) (ha : a < 18446744073709551616) (hb : b < 18446744073709551616) (w : World) :
    Calls Tryz.prog 107 #[.float .f64 a, .float .f64 b] w fun e w' => e = .returned (.bool (fsame a b)) ∧ w' = w := by
  rw [← fsame_ord a b ha hb]; exact same_any a b ha hb w
end Go.Proofs.YtbkcebbddhaifaaGreatDoor
