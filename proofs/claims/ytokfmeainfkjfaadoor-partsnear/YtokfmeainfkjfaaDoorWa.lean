/- The contracts of layer 1's functions that only look at the bits. -/
import Derived.Test.YtokfmeainfkjfaaDoorRows
import Derived.Test.YtokfmeainfkjfaaDoorSp
import Derived.WalkKit
import Derived.WalkSpells
import Derived.WalkLawsBesides
namespace Go.Proofs.YtokfmeainfkjfaaDoor
open Go.RowKit

theorem results_four {fn : Func} {t u v s : Tmp} (h : fn.results = #[.tmp t, .tmp u, .tmp v, .tmp s]) (tmps : Array Value) (P : Program) (w : World) :
    (results fn tmps).run P w = .ok (.tuple #[tmps.getD t undef, tmps.getD u undef, tmps.getD v undef, tmps.getD s undef]) w := by
  simp [results, h]

@[go_sem] theorem run_f64bits (b : Nat) (w : World) : (callFunc 36 #[.float .f64 b]).run Tryd.prog w = .ok (.value (.int .u64 (b : Int))) w :=
  run_callFunc_extern (e := Extern.MathFloatBits.float64bits) Tryd.func36 (by kernel_rfl) (by kernel_rfl) (by kernel_rfl) (by kernel_rfl) _ w
@[go_sem] theorem run_f64frombits (n : Int) (w : World) : (callFunc 9 #[.int .u64 n]).run Tryd.prog w = .ok (.value (.float .f64 n.toNat)) w :=
  run_callFunc_extern (e := Extern.MathFloatBits.float64frombits) Tryd.func9 (by kernel_rfl) (by kernel_rfl) (by kernel_rfl) (by kernel_rfl) _ w

set_option maxHeartbeats 400000 in
theorem magnitude_any (b : Nat) (hb : Hid (b < 18446744073709551616)) (w : World) :
    Calls Tryd.prog 39 #[.float .f64 b] w fun e w' => e = .returned (.int .u64 (magZ b)) ∧ w' = w := by
  go_enter Tryd.func39, Tryd.ntmps39
  go_wp2
  go_ret
  exact ⟨ret_int (andNot63Z b hb.out), rfl⟩

set_option maxHeartbeats 400000 in
theorem class_any (b : Nat) (hb : Hid (b < 18446744073709551616)) (w : World) :
    Calls Tryd.prog 14 #[.float .f64 b] w fun e w' => e = .returned (.int .i64 (cls b)) ∧ w' = w := by
  go_enter Tryd.func14, Tryd.ntmps14
  go_wp2_with (go_at_call 39; refine (magnitude_any _ hb _).mono ?_; rintro e w' ⟨rfl, rfl⟩; generalize hz0 : magZ b = z; have hz : Hid (magZ b = z) := hz0; clear hz0)
  all_goals go_ret
  all_goals refine ⟨ret_int ?_, rfl⟩
  · exact cls_a b _ hz ‹_›
  · exact cls_b b _ hz ‹_›
  · exact cls_c b _ hz ‹_›
  · exact cls_d b _ hz ‹_› ‹_›
  · exact cls_e b _ hz ‹_› ‹_› ‹_›

set_option maxHeartbeats 400000 in
theorem rclass_any (a : Int) (h0 : Hid (0 ≤ a)) (h : Hid (a < 18446744073709551616)) (w : World) :
    Calls Tryd.prog 15 #[.int .u64 a] w fun e w' => e = .returned (.int .i64 (cls a.toNat)) ∧ w' = w := by
  have hz : Hid (magZ a.toNat = bits .andNot .u64 a 9223372036854775808) := (andNot63I a h0.out h.out).symm
  go_enter Tryd.func15, Tryd.ntmps15
  go_wp2
  all_goals go_ret
  all_goals refine ⟨ret_int ?_, rfl⟩
  · exact cls_a _ _ hz ‹_›
  · exact cls_b _ _ hz ‹_›
  · exact cls_c _ _ hz ‹_›
  · exact cls_d _ _ hz ‹_› (by omega)
  · exact cls_e _ _ hz ‹_› ‹_› (by omega)

set_option maxHeartbeats 400000 in
theorem isnan_any (a : Int) (h0 : Hid (0 ≤ a)) (h : Hid (a < 18446744073709551616)) (w : World) :
    Calls Tryd.prog 38 #[.int .u64 a] w fun e w' => e = .returned (.bool (isN a.toNat)) ∧ w' = w := by
  go_enter Tryd.func38, Tryd.ntmps38
  go_wp2
  go_ret
  refine ⟨ret_bool ?_, rfl⟩
  rw [andNot63I a h0.out h.out]
  unfold isN magZ
  rw [Bool.eq_iff_iff]; simp only [decide_eq_true_eq]; omega

set_option maxHeartbeats 400000 in
theorem finite_any (a : Int) (h0 : Hid (0 ≤ a)) (h : Hid (a < 18446744073709551616)) (w : World) :
    Calls Tryd.prog 40 #[.int .u64 a] w fun e w' => e = .returned (.bool (decide (mag a.toNat < 9218868437227405312))) ∧ w' = w := by
  go_enter Tryd.func40, Tryd.ntmps40
  go_wp2
  go_ret
  refine ⟨ret_bool ?_, rfl⟩
  rw [andNot63I a h0.out h.out]
  unfold magZ
  rw [Bool.eq_iff_iff]; simp only [decide_eq_true_eq]; omega

set_option maxHeartbeats 400000 in
theorem nan_any (w : World) :
    Calls Tryd.prog 11 #[] w fun e w' => e = .returned (.float .f64 9221120237041090560) ∧ w' = w := by
  go_enter Tryd.func11, Tryd.ntmps11
  go_wp2
  go_ret
  exact ⟨rfl, rfl⟩

set_option maxHeartbeats 400000 in
theorem one_any (b : Nat) (hb : Hid (b < 18446744073709551616)) (w : World) :
    Calls Tryd.prog 13 #[.float .f64 b] w fun e w' => e = .returned (.float .f64 (one b)) ∧ w' = w := by
  go_enter Tryd.func13, Tryd.ntmps13
  go_wp2_with (first | (go_at_call 14; refine (class_any _ hb _).mono ?_; rintro e w' ⟨rfl, rfl⟩; generalize hz0 : cls b = z; have hz : Hid (cls b = z) := hz0; clear hz0) | (go_at_call 11; refine (nan_any _).mono ?_; rintro e w' ⟨rfl, rfl⟩))
  all_goals go_ret
  all_goals refine ⟨ret_f64 ?_, rfl⟩
  · exact one_y b _ hz ‹_›
  · exact one_n b _ hz ‹_›

set_option maxHeartbeats 400000 in
theorem rone_any (a : Int) (h0 : Hid (0 ≤ a)) (h : Hid (a < 18446744073709551616)) (w : World) :
    Calls Tryd.prog 12 #[.int .u64 a] w fun e w' => e = .returned (.int .u64 (one a.toNat)) ∧ w' = w := by
  go_enter Tryd.func12, Tryd.ntmps12
  go_wp2_with (go_at_call 38; refine (isnan_any _ h0 h _).mono ?_; rintro e w' ⟨rfl, rfl⟩)
  all_goals go_ret
  all_goals refine ⟨ret_int ?_, rfl⟩
  · exact rone_y a ‹_›
  · exact rone_n a h0.out ‹_›

set_option maxHeartbeats 400000 in
theorem negative_any (b : Nat) (hb : Hid (b < 18446744073709551616)) (w : World) :
    Calls Tryd.prog 16 #[.float .f64 b] w fun e w' => e = .returned (.bool (ngt b)) ∧ w' = w := by
  go_enter Tryd.func16, Tryd.ntmps16
  go_wp2_with (go_at_call 14; refine (class_any _ hb _).mono ?_; rintro e w' ⟨rfl, rfl⟩; generalize hz0 : cls b = z; have hz : Hid (cls b = z) := hz0; clear hz0)
  all_goals go_ret
  all_goals refine ⟨ret_bool ?_, rfl⟩
  · exact ngt_y b (by rw [cls_isN hz]; simp [*])
  · rw [and63_ne b hb.out, ← ngt_n b (by rw [cls_isN hz]; simp [*])]; simp [*]

set_option maxHeartbeats 400000 in
theorem rnegative_any (a : Int) (h0 : Hid (0 ≤ a)) (h : Hid (a < 18446744073709551616)) (w : World) :
    Calls Tryd.prog 17 #[.int .u64 a] w fun e w' => e = .returned (.bool (ngt a.toNat)) ∧ w' = w := by
  go_enter Tryd.func17, Tryd.ntmps17
  go_wp2_with (go_at_call 38; refine (isnan_any _ h0 h _).mono ?_; rintro e w' ⟨rfl, rfl⟩)
  all_goals go_ret
  all_goals refine ⟨ret_bool ?_, rfl⟩
  · exact ngt_y _ ‹_›
  · rw [and63_neI a h0.out h.out]; exact ngt_n _ (by simpa using ‹¬ isN a.toNat = true›)

end Go.Proofs.YtokfmeainfkjfaaDoor
