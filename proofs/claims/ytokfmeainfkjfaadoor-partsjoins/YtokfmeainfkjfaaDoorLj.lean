/- The law PartsJoins, walked out of the contracts. -/
import Derived.Test.YtokfmeainfkjfaaDoorWw
import Derived.Test.YtokfmeainfkjfaaDoorRj
namespace Go.Proofs.YtokfmeainfkjfaaDoor
open Go.RowKit

set_option maxHeartbeats 400000 in
theorem joins_core (neg : Bool) (m e0 : Int) (x : Nat) (b r : Int)
    (A0 : Hid (∀ w, Tab w → Calls Tryd.prog 8 #[] w fun e w' => e = .returned (.bool true) ∧ w' = w))
    (J0 : Hid (∀ w, Tab w → Calls Tryd.prog 20 #[.bool neg, .int .u64 m, .int .i64 e0] w fun e w' => e = .returned (.tuple #[.float .f64 x, .int .i64 r]) ∧ w' = w))
    (J1 : Hid (∀ w, Calls Tryd.prog 21 #[.bool neg, .int .u64 m, .int .i64 e0] w fun e w' => e = .returned (.tuple #[.int .u64 b, .int .i64 r]) ∧ w' = w))
    (I1 : Hid (∀ w, Calls Tryd.prog 10 #[.float .f64 x, .int .u64 b] w fun e w' => e = .returned (.bool true) ∧ w' = w))
    (w : World) (hT : Hid (Tab w)) :
    Calls Tryd.prog 4 #[.bool neg, .int .u64 m, .int .i64 e0] w fun e w' => e = .returned (.bool true) ∧ w' = w := by
  go_enter Tryd.func4, Tryd.ntmps4
  go_wp2_with (first | (go_at_call 8; refine (A0.out _ hT.out).mono ?_; rintro e1 w1 ⟨rfl, rfl⟩) | (go_at_call 20; refine (J0.out _ hT.out).mono ?_; rintro e1 w1 ⟨rfl, rfl⟩) | (go_at_call 21; refine (J1.out _).mono ?_; rintro e1 w1 ⟨rfl, rfl⟩) | (go_at_call 10; refine (I1.out _).mono ?_; rintro e1 w1 ⟨rfl, rfl⟩))
  go_ret
  exact ⟨rfl, rfl⟩

theorem joins_walk (neg : Bool) (m e0 : Int) (h0 : Hid (0 ≤ m)) (h1 : Hid (m < 18446744073709551616)) (he0 : -9223372036854775808 ≤ e0) (_he1 : e0 ≤ 9223372036854775807) (w : World) (hT : Hid (Tab w)) :
    Calls Tryd.prog 4 #[.bool neg, .int .u64 m, .int .i64 e0] w fun e w' => e = .returned (.bool true) ∧ w' = w :=
  joins_core neg m e0 (joinW neg m e0) (joinW neg m e0) (joinR m e0) awake_any (fun w hT => join_any neg m e0 h0.out h1.out he0 w hT) (rjoin_any neg m e0 h0.out h1.out) (is_yes _ _ rfl) w hT
end Go.Proofs.YtokfmeainfkjfaaDoor
