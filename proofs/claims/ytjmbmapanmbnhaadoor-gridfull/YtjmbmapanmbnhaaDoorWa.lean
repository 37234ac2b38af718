/- The contracts of layer 1's functions that only look at the bits. -/
import Derived.Test.YtjmbmapanmbnhaaDoorRows
import Derived.Test.YtjmbmapanmbnhaaDoorSp
import Derived.WalkKit
import Derived.WalkSpells
import Derived.WalkLawsBesides
namespace Go.Proofs.YtjmbmapanmbnhaaDoor
open Go.RowKit

theorem results_four {fn : Func} {t u v s : Tmp} (h : fn.results = #[.tmp t, .tmp u, .tmp v, .tmp s]) (tmps : Array Value) (P : Program) (w : World) :
    (results fn tmps).run P w = .ok (.tuple #[tmps.getD t undef, tmps.getD u undef, tmps.getD v undef, tmps.getD s undef]) w := by
  simp [results, h]

@[go_sem] theorem run_f64bits (b : Nat) (w : World) : (callFunc 64 #[.float .f64 b]).run Tryd.prog w = .ok (.value (.int .u64 (b : Int))) w :=
  run_callFunc_extern (e := Extern.MathFloatBits.float64bits) Tryd.func64 (by kernel_rfl) (by kernel_rfl) (by kernel_rfl) (by kernel_rfl) _ w
@[go_sem] theorem run_f64frombits (n : Int) (w : World) : (callFunc 76 #[.int .u64 n]).run Tryd.prog w = .ok (.value (.float .f64 n.toNat)) w :=
  run_callFunc_extern (e := Extern.MathFloatBits.float64frombits) Tryd.func76 (by kernel_rfl) (by kernel_rfl) (by kernel_rfl) (by kernel_rfl) _ w

set_option maxHeartbeats 400000 in
theorem magnitude_any (b : Nat) (hb : Hid (b < 18446744073709551616)) (w : World) :
    Calls Tryd.prog 112 #[.float .f64 b] w fun e w' => e = .returned (.int .u64 (magZ b)) ∧ w' = w := by
  go_enter Tryd.func112, Tryd.ntmps112
  go_wp2
  go_ret
  exact ⟨ret_int (andNot63Z b hb.out), rfl⟩

set_option maxHeartbeats 400000 in
theorem class_any (b : Nat) (hb : Hid (b < 18446744073709551616)) (w : World) :
    Calls Tryd.prog 90 #[.float .f64 b] w fun e w' => e = .returned (.int .i64 (cls b)) ∧ w' = w := by
  go_enter Tryd.func90, Tryd.ntmps90
  go_wp2_with (go_at_call 112; refine (magnitude_any _ hb _).mono ?_; rintro e w' ⟨rfl, rfl⟩; generalize hz0 : magZ b = z; have hz : Hid (magZ b = z) := hz0; clear hz0)
  all_goals go_ret
  all_goals refine ⟨ret_int ?_, rfl⟩
  · exact cls_a b _ hz ‹_›
  · exact cls_b b _ hz ‹_›
  · exact cls_c b _ hz ‹_›
  · exact cls_d b _ hz ‹_› ‹_›
  · exact cls_e b _ hz ‹_› ‹_› ‹_›

set_option maxHeartbeats 400000 in
theorem isnan_any (a : Int) (h0 : Hid (0 ≤ a)) (h : Hid (a < 18446744073709551616)) (w : World) :
    Calls Tryd.prog 92 #[.int .u64 a] w fun e w' => e = .returned (.bool (isN a.toNat)) ∧ w' = w := by
  go_enter Tryd.func92, Tryd.ntmps92
  go_wp2
  go_ret
  refine ⟨ret_bool ?_, rfl⟩
  rw [andNot63I a h0.out h.out]
  unfold isN magZ
  rw [Bool.eq_iff_iff]; simp only [decide_eq_true_eq]; omega

set_option maxHeartbeats 400000 in
theorem finite_any (a : Int) (h0 : Hid (0 ≤ a)) (h : Hid (a < 18446744073709551616)) (w : World) :
    Calls Tryd.prog 126 #[.int .u64 a] w fun e w' => e = .returned (.bool (decide (mag a.toNat < 9218868437227405312))) ∧ w' = w := by
  go_enter Tryd.func126, Tryd.ntmps126
  go_wp2
  go_ret
  refine ⟨ret_bool ?_, rfl⟩
  rw [andNot63I a h0.out h.out]
  unfold magZ
  rw [Bool.eq_iff_iff]; simp only [decide_eq_true_eq]; omega

set_option maxHeartbeats 400000 in
theorem nan_any (w : World) :
    Calls Tryd.prog 91 #[] w fun e w' => e = .returned (.float .f64 9221120237041090560) ∧ w' = w := by
  go_enter Tryd.func91, Tryd.ntmps91
  go_wp2
  go_ret
  exact ⟨rfl, rfl⟩

set_option maxHeartbeats 400000 in
theorem one_any (b : Nat) (hb : Hid (b < 18446744073709551616)) (w : World) :
    Calls Tryd.prog 74 #[.float .f64 b] w fun e w' => e = .returned (.float .f64 (one b)) ∧ w' = w := by
  go_enter Tryd.func74, Tryd.ntmps74
  go_wp2_with (first | (go_at_call 90; refine (class_any _ hb _).mono ?_; rintro e w' ⟨rfl, rfl⟩; generalize hz0 : cls b = z; have hz : Hid (cls b = z) := hz0; clear hz0) | (go_at_call 91; refine (nan_any _).mono ?_; rintro e w' ⟨rfl, rfl⟩))
  all_goals go_ret
  all_goals refine ⟨ret_f64 ?_, rfl⟩
  · exact one_y b _ hz ‹_›
  · exact one_n b _ hz ‹_›

set_option maxHeartbeats 400000 in
theorem rone_any (a : Int) (h0 : Hid (0 ≤ a)) (h : Hid (a < 18446744073709551616)) (w : World) :
    Calls Tryd.prog 77 #[.int .u64 a] w fun e w' => e = .returned (.int .u64 (one a.toNat)) ∧ w' = w := by
  go_enter Tryd.func77, Tryd.ntmps77
  go_wp2_with (go_at_call 92; refine (isnan_any _ h0 h _).mono ?_; rintro e w' ⟨rfl, rfl⟩)
  all_goals go_ret
  all_goals refine ⟨ret_int ?_, rfl⟩
  · exact rone_y a ‹_›
  · exact rone_n a h0.out ‹_›

set_option maxHeartbeats 400000 in
theorem negative_any (b : Nat) (hb : Hid (b < 18446744073709551616)) (w : World) :
    Calls Tryd.prog 129 #[.float .f64 b] w fun e w' => e = .returned (.bool (ngt b)) ∧ w' = w := by
  go_enter Tryd.func129, Tryd.ntmps129
  go_wp2_with (go_at_call 90; refine (class_any _ hb _).mono ?_; rintro e w' ⟨rfl, rfl⟩; generalize hz0 : cls b = z; have hz : Hid (cls b = z) := hz0; clear hz0)
  all_goals go_ret
  all_goals refine ⟨ret_bool ?_, rfl⟩
  · exact ngt_y b (by rw [cls_isN hz]; simp [*])
  · rw [and63_ne b hb.out, ← ngt_n b (by rw [cls_isN hz]; simp [*])]; simp [*]

end Go.Proofs.YtjmbmapanmbnhaaDoor
