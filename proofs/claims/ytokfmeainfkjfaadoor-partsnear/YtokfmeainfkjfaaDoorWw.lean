/- awake: some answers that the document fixes. -/
import Derived.Test.YtokfmeainfkjfaaDoorWs
import Derived.Test.YtokfmeainfkjfaaDoorWo
import Derived.Test.YtokfmeainfkjfaaDoorWk
namespace Go.Proofs.YtokfmeainfkjfaaDoor
open Go.RowKit

theorem awake_facts : (4591870180066957722 < 18446744073709551616 ∧ spN 4591870180066957722 = false ∧ spMz 4591870180066957722 = 7205759403792794 ∧ spE 4591870180066957722 = -56 ∧ spR 4591870180066957722 = 0) ∧
    (joinW false 18014398509481984 (-54) = 4607182418800017408 ∧ joinR 18014398509481984 (-54) = 0) ∧ cls 4607182418800017408 = 5 ∧ ord (plc 4607182418800017408) (plc 4611686018427387904) = -1 ∧
    FloatKind.f64.format.order 4607182418800017408 4607182418800017408 = some .eq := by decide +kernel

set_option maxHeartbeats 400000 in
theorem awake_any (w : World) (hT : Hid (Tab w)) :
    Calls Tryd.prog 8 #[] w fun e w' => e = .returned (.bool true) ∧ w' = w := by
  obtain ⟨⟨f1, f2, f3, f4, f5⟩, ⟨g1, g2⟩, c1, o1, q1⟩ := awake_facts
  have H1 : Hid (∀ w, Calls Tryd.prog 18 #[.float .f64 4591870180066957722] w fun e w' => e = .returned (.tuple #[.bool false, .int .u64 7205759403792794, .int .i64 (-56), .int .i64 0]) ∧ w' = w) := by
    have := split_any 4591870180066957722 f1
    rw [f2, f3, f4, f5] at this
    exact this
  have H2 : Hid (∀ w, Tab w → Calls Tryd.prog 20 #[.bool false, .int .u64 18014398509481984, .int .i64 (-54)] w fun e w' => e = .returned (.tuple #[.float .f64 4607182418800017408, .int .i64 0]) ∧ w' = w) := by
    intro w hT
    have := join_any false 18014398509481984 (-54) (by decide) (by decide) (by decide) w hT
    rw [g1, g2] at this
    exact this
  have H3 : Hid (∀ w, Calls Tryd.prog 14 #[.float .f64 4607182418800017408] w fun e w' => e = .returned (.int .i64 5) ∧ w' = w) := by
    have := class_any 4607182418800017408 (by unfold Hid; decide)
    rw [c1] at this
    exact this
  have H4 : Hid (∀ w, Calls Tryd.prog 22 #[.float .f64 4607182418800017408, .float .f64 4611686018427387904] w fun e w' => e = .returned (.int .i64 (-1)) ∧ w' = w) := by
    have := order_any 4607182418800017408 4611686018427387904 (by unfold Hid; decide) (by unfold Hid; decide)
    rw [o1] at this
    exact this
  clear f1 f2 f3 f4 f5 g1 g2 c1 o1
  go_enter Tryd.func8, Tryd.ntmps8
  go_wp2_with (first | (go_at_call 18; refine (H1.out _).mono ?_; rintro e w' ⟨rfl, rfl⟩) | (go_at_call 20; refine (H2.out _ hT.out).mono ?_; rintro e w' ⟨rfl, rfl⟩) | (go_at_call 14; refine (H3.out _).mono ?_; rintro e w' ⟨rfl, rfl⟩) | (go_at_call 22; refine (H4.out _).mono ?_; rintro e w' ⟨rfl, rfl⟩))
  go_ret
  exact ⟨rfl, rfl⟩

set_option maxHeartbeats 400000 in
theorem is_any (x : Nat) (b : Int) (w : World) :
    Calls Tryd.prog 10 #[.float .f64 x, .int .u64 b] w fun e w' => e = .returned (.bool ((x : Int) == b)) ∧ w' = w := by
  go_enter Tryd.func10, Tryd.ntmps10
  go_wp2
  go_ret
  exact ⟨rfl, rfl⟩
theorem is_yes (x : Nat) (b : Int) (h : (x : Int) = b) (w : World) :
    Calls Tryd.prog 10 #[.float .f64 x, .int .u64 b] w fun e w' => e = .returned (.bool true) ∧ w' = w := by
  have := is_any x b w
  rwa [show ((x : Int) == b) = true by rw [h]; exact beq_self_eq_true b] at this
end Go.Proofs.YtokfmeainfkjfaaDoor
