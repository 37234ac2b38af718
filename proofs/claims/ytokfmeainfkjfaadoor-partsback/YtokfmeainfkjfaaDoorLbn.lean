/- The law PartsBack, walked out of the contracts: the NaN. -/
import Derived.Test.YtokfmeainfkjfaaDoorWw
import Derived.Deep.RegionWith
namespace Go.Proofs.YtokfmeainfkjfaaDoor
open Go.RowKit

set_option maxRecDepth 20000 in
set_option maxHeartbeats 4000000 in
theorem back_nan (a b c : Int) (x y z X Y Z NX AG : Nat) (s : Bool) (m e d w1 p r1 q r2 t r3 xy yz xz : Int) (lt b1 : Bool)
    (hx : a.toNat = x) (hy : b.toNat = y) (hz : c.toNat = z)
    (hlt : (FloatKind.f64.format.order X Y == some .lt) = lt)
    (hxy0 : -1 ≤ xy) (hxy1 : xy ≤ 1)
    (FA : r1 = 0 → r2 = 0 → r3 = 0 → wrap64 (p + q) = t) (FB : r1 = 0 → (0 < p ↔ xy < 0)) (FC : xy ≤ 0 → yz ≤ 0 → xz ≤ 0) (FD : xy = 0 → b1 = true) (FE : lt = true → xy < 0)
    (A0 : Hid (∀ w, Tab w → Calls Tryd.prog 8 #[] w fun e1 w' => e1 = .returned (.bool true) ∧ w' = w))
    (O1 : Hid (∀ w, Calls Tryd.prog 13 #[.float .f64 x] w fun e1 w' => e1 = .returned (.float .f64 X) ∧ w' = w))
    (O2 : Hid (∀ w, Calls Tryd.prog 13 #[.float .f64 y] w fun e1 w' => e1 = .returned (.float .f64 Y) ∧ w' = w))
    (O3 : Hid (∀ w, Calls Tryd.prog 13 #[.float .f64 z] w fun e1 w' => e1 = .returned (.float .f64 Z) ∧ w' = w))
    (S0 : Hid (∀ w, Calls Tryd.prog 18 #[.float .f64 X] w fun e1 w' => e1 = .returned (.tuple #[.bool s, .int .u64 m, .int .i64 e, .int .i64 10]) ∧ w' = w))
    (C0 : Hid (∀ w, Calls Tryd.prog 14 #[.float .f64 X] w fun e1 w' => e1 = .returned (.int .i64 1) ∧ w' = w))
    (N0 : Hid (∀ w, Calls Tryd.prog 26 #[.float .f64 X] w fun e1 w' => e1 = .returned (.float .f64 NX) ∧ w' = w))
    (Q0 : Hid (∀ w, Calls Tryd.prog 24 #[.float .f64 NX, .float .f64 X] w fun e1 w' => e1 = .returned (.bool true) ∧ w' = w))
    (P0 : Hid (∀ w, Calls Tryd.prog 28 #[.float .f64 NX] w fun e1 w' => e1 = .returned (.float .f64 AG) ∧ w' = w))
    (T0 : Hid (∀ w, Calls Tryd.prog 30 #[.float .f64 X, .float .f64 NX] w fun e1 w' => e1 = .returned (.tuple #[.int .i64 d, .int .i64 w1]) ∧ w' = w))
    (T1 : Hid (∀ w, Calls Tryd.prog 30 #[.float .f64 X, .float .f64 Y] w fun e1 w' => e1 = .returned (.tuple #[.int .i64 p, .int .i64 r1]) ∧ w' = w))
    (T2 : Hid (∀ w, Calls Tryd.prog 30 #[.float .f64 Y, .float .f64 Z] w fun e1 w' => e1 = .returned (.tuple #[.int .i64 q, .int .i64 r2]) ∧ w' = w))
    (T3 : Hid (∀ w, Calls Tryd.prog 30 #[.float .f64 X, .float .f64 Z] w fun e1 w' => e1 = .returned (.tuple #[.int .i64 t, .int .i64 r3]) ∧ w' = w))
    (R1 : Hid (∀ w, Calls Tryd.prog 22 #[.float .f64 X, .float .f64 Y] w fun e1 w' => e1 = .returned (.int .i64 xy) ∧ w' = w))
    (R2 : Hid (∀ w, Calls Tryd.prog 22 #[.float .f64 Y, .float .f64 Z] w fun e1 w' => e1 = .returned (.int .i64 yz) ∧ w' = w))
    (R3 : Hid (∀ w, Calls Tryd.prog 22 #[.float .f64 X, .float .f64 Z] w fun e1 w' => e1 = .returned (.int .i64 xz) ∧ w' = w))
    (R4 : Hid (∀ w, Calls Tryd.prog 22 #[.float .f64 Y, .float .f64 X] w fun e1 w' => e1 = .returned (.int .i64 (-xy)) ∧ w' = w))
    (I2 : Hid (∀ w, Calls Tryd.prog 10 #[.float .f64 X, .int .u64 (↑Y)] w fun e1 w' => e1 = .returned (.bool b1) ∧ w' = w))
    (w : World) (hT : Hid (Tab w)) :
    Calls Tryd.prog 6 #[.int .u64 a, .int .u64 b, .int .u64 c] w fun e w' => e = .returned (.bool true) ∧ w' = w := by
  go_enter Tryd.func6, Tryd.ntmps6
  go_wp2_with (first | (go_at_call 8; refine (A0.out _ hT.out).mono ?_; rintro e1 w1 ⟨rfl, rfl⟩) | (go_at_call_of 13 (#[Value.float .f64 x]); refine (O1.out _).mono ?_; rintro e1 w1 ⟨rfl, rfl⟩) | (go_at_call_of 13 (#[Value.float .f64 y]); refine (O2.out _).mono ?_; rintro e1 w1 ⟨rfl, rfl⟩) | (go_at_call_of 13 (#[Value.float .f64 z]); refine (O3.out _).mono ?_; rintro e1 w1 ⟨rfl, rfl⟩) | (go_at_call 18; refine (S0.out _).mono ?_; rintro e1 w1 ⟨rfl, rfl⟩) | (go_at_call 14; refine (C0.out _).mono ?_; rintro e1 w1 ⟨rfl, rfl⟩) | (go_at_call 26; refine (N0.out _).mono ?_; rintro e1 w1 ⟨rfl, rfl⟩) | (go_at_call 24; refine (Q0.out _).mono ?_; rintro e1 w1 ⟨rfl, rfl⟩) | (go_at_call 28; refine (P0.out _).mono ?_; rintro e1 w1 ⟨rfl, rfl⟩) | (go_at_call_of 30 (#[Value.float .f64 X, Value.float .f64 NX]); refine (T0.out _).mono ?_; rintro e1 w1 ⟨rfl, rfl⟩) | (go_at_call_of 30 (#[Value.float .f64 X, Value.float .f64 Y]); refine (T1.out _).mono ?_; rintro e1 w1 ⟨rfl, rfl⟩) | (go_at_call_of 30 (#[Value.float .f64 Y, Value.float .f64 Z]); refine (T2.out _).mono ?_; rintro e1 w1 ⟨rfl, rfl⟩) | (go_at_call_of 30 (#[Value.float .f64 X, Value.float .f64 Z]); refine (T3.out _).mono ?_; rintro e1 w1 ⟨rfl, rfl⟩) | (go_at_call_of 22 (#[Value.float .f64 X, Value.float .f64 Y]); refine (R1.out _).mono ?_; rintro e1 w1 ⟨rfl, rfl⟩) | (go_at_call_of 22 (#[Value.float .f64 Y, Value.float .f64 Z]); refine (R2.out _).mono ?_; rintro e1 w1 ⟨rfl, rfl⟩) | (go_at_call_of 22 (#[Value.float .f64 X, Value.float .f64 Z]); refine (R3.out _).mono ?_; rintro e1 w1 ⟨rfl, rfl⟩) | (go_at_call_of 22 (#[Value.float .f64 Y, Value.float .f64 X]); refine (R4.out _).mono ?_; rintro e1 w1 ⟨rfl, rfl⟩) | (go_at_call_of 10 (#[Value.float .f64 X, Value.int .u64 (↑Y)]); refine (I2.out _).mono ?_; rintro e1 w1 ⟨rfl, rfl⟩))
  all_goals go_ret
  all_goals refine ⟨ret_bool ?_, rfl⟩
  all_goals first | rfl | exact decide_eq_true (FE ‹lt = true›) | (have := FE ‹lt = true›; exfalso; omega)
end Go.Proofs.YtokfmeainfkjfaaDoor
