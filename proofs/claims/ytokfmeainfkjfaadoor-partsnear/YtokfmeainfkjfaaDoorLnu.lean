/- The law PartsNear, walked out of the contracts (up0). -/
import Derived.Test.YtokfmeainfkjfaaDoorWw
import Derived.Deep.RegionWith
namespace Go.Proofs.YtokfmeainfkjfaaDoor
open Go.RowKit

set_option maxRecDepth 20000 in
set_option maxHeartbeats 1000000 in
theorem near_up0_N1 (a b : Int) (x y X Y NX AN AX u D : Nat) (c1 c2 c3 : Int)
    (hx : a.toNat = x) (hy : b.toNat = y)
    (hc1 : 2 < c1)
    (hc2 : 2 < c2)
    (hz1 : (FloatKind.f64.format.order X 0 == some .eq) = true)
    (hz2 : (FloatKind.f64.format.order NX 0 == some .eq) = false)
    (hla : (FloatKind.f64.format.order AN AX == some .lt) = false)
    (SB : ∀ w, (binOp .sub 24 (.float .f64 NX) (.float .f64 X)).run Tryd.prog w = .ok (.float .f64 D) w)
    (hn1 : (FloatKind.f64.format.order D u != some .eq) = false)
    (hc3 : c3 ≤ 2)
    (A0 : Hid (∀ w, Tab w → Calls Tryd.prog 8 #[] w fun e1 w' => e1 = .returned (.bool true) ∧ w' = w))
    (O1 : Hid (∀ w, Calls Tryd.prog 13 #[.float .f64 x] w fun e1 w' => e1 = .returned (.float .f64 X) ∧ w' = w))
    (O2 : Hid (∀ w, Calls Tryd.prog 13 #[.float .f64 y] w fun e1 w' => e1 = .returned (.float .f64 Y) ∧ w' = w))
    (N0 : Hid (∀ w, Calls Tryd.prog 26 #[.float .f64 X] w fun e1 w' => e1 = .returned (.float .f64 NX) ∧ w' = w))
    (C1 : Hid (∀ w, Calls Tryd.prog 14 #[.float .f64 X] w fun e1 w' => e1 = .returned (.int .i64 c1) ∧ w' = w))
    (C2 : Hid (∀ w, Calls Tryd.prog 14 #[.float .f64 NX] w fun e1 w' => e1 = .returned (.int .i64 c2) ∧ w' = w))
    (C3 : Hid (∀ w, Calls Tryd.prog 14 #[.float .f64 Y] w fun e1 w' => e1 = .returned (.int .i64 c3) ∧ w' = w))
    (B1 : Hid (∀ w, Calls Tryd.prog 37 #[.float .f64 NX] w fun e1 w' => e1 = .returned (.float .f64 AN) ∧ w' = w))
    (B2 : Hid (∀ w, Calls Tryd.prog 37 #[.float .f64 X] w fun e1 w' => e1 = .returned (.float .f64 AX) ∧ w' = w))
    (U0 : Hid (∀ w, Calls Tryd.prog 32 #[.float .f64 X] w fun e1 w' => e1 = .returned (.tuple #[.float .f64 u, .int .i64 0]) ∧ w' = w))
    (w : World) (hT : Hid (Tab w)) :
    Calls Tryd.prog 7 #[.int .u64 a, .int .u64 b] w fun e w' => e = .returned (.bool true) ∧ w' = w := by
  go_enter Tryd.func7, Tryd.ntmps7
  go_wp2_with (first | (go_at_call 8; refine (A0.out _ hT.out).mono ?_; rintro e1 w1 ⟨rfl, rfl⟩) | (go_at_call_of 13 (#[Value.float .f64 x]); refine (O1.out _).mono ?_; rintro e1 w1 ⟨rfl, rfl⟩) | (go_at_call_of 13 (#[Value.float .f64 y]); refine (O2.out _).mono ?_; rintro e1 w1 ⟨rfl, rfl⟩) | (go_at_call 26; refine (N0.out _).mono ?_; rintro e1 w1 ⟨rfl, rfl⟩) | (go_at_call_of 14 (#[Value.float .f64 X]); refine (C1.out _).mono ?_; rintro e1 w1 ⟨rfl, rfl⟩) | (go_at_call_of 14 (#[Value.float .f64 NX]); refine (C2.out _).mono ?_; rintro e1 w1 ⟨rfl, rfl⟩) | (go_at_call_of 14 (#[Value.float .f64 Y]); refine (C3.out _).mono ?_; rintro e1 w1 ⟨rfl, rfl⟩) | (go_at_call_of 37 (#[Value.float .f64 NX]); refine (B1.out _).mono ?_; rintro e1 w1 ⟨rfl, rfl⟩) | (go_at_call_of 37 (#[Value.float .f64 X]); refine (B2.out _).mono ?_; rintro e1 w1 ⟨rfl, rfl⟩) | (go_at_call 32; refine (U0.out _).mono ?_; rintro e1 w1 ⟨rfl, rfl⟩))
  go_ret
  exact ⟨rfl, rfl⟩

set_option maxRecDepth 20000 in
set_option maxHeartbeats 1000000 in
theorem near_up0_X1 (a b : Int) (x y X Y NX AN AX u D : Nat) (c1 c2 c3 : Int) (s : Bool)
    (hx : a.toNat = x) (hy : b.toNat = y)
    (hc1 : 2 < c1)
    (hc2 : 2 < c2)
    (hz1 : (FloatKind.f64.format.order X 0 == some .eq) = true)
    (hz2 : (FloatKind.f64.format.order NX 0 == some .eq) = false)
    (hla : (FloatKind.f64.format.order AN AX == some .lt) = false)
    (SB : ∀ w, (binOp .sub 24 (.float .f64 NX) (.float .f64 X)).run Tryd.prog w = .ok (.float .f64 D) w)
    (hn1 : (FloatKind.f64.format.order D u != some .eq) = false)
    (hc3 : 2 < c3)
    (A0 : Hid (∀ w, Tab w → Calls Tryd.prog 8 #[] w fun e1 w' => e1 = .returned (.bool true) ∧ w' = w))
    (O1 : Hid (∀ w, Calls Tryd.prog 13 #[.float .f64 x] w fun e1 w' => e1 = .returned (.float .f64 X) ∧ w' = w))
    (O2 : Hid (∀ w, Calls Tryd.prog 13 #[.float .f64 y] w fun e1 w' => e1 = .returned (.float .f64 Y) ∧ w' = w))
    (N0 : Hid (∀ w, Calls Tryd.prog 26 #[.float .f64 X] w fun e1 w' => e1 = .returned (.float .f64 NX) ∧ w' = w))
    (C1 : Hid (∀ w, Calls Tryd.prog 14 #[.float .f64 X] w fun e1 w' => e1 = .returned (.int .i64 c1) ∧ w' = w))
    (C2 : Hid (∀ w, Calls Tryd.prog 14 #[.float .f64 NX] w fun e1 w' => e1 = .returned (.int .i64 c2) ∧ w' = w))
    (C3 : Hid (∀ w, Calls Tryd.prog 14 #[.float .f64 Y] w fun e1 w' => e1 = .returned (.int .i64 c3) ∧ w' = w))
    (B1 : Hid (∀ w, Calls Tryd.prog 37 #[.float .f64 NX] w fun e1 w' => e1 = .returned (.float .f64 AN) ∧ w' = w))
    (B2 : Hid (∀ w, Calls Tryd.prog 37 #[.float .f64 X] w fun e1 w' => e1 = .returned (.float .f64 AX) ∧ w' = w))
    (U0 : Hid (∀ w, Calls Tryd.prog 32 #[.float .f64 X] w fun e1 w' => e1 = .returned (.tuple #[.float .f64 u, .int .i64 0]) ∧ w' = w))
    (G1 : Hid (∀ w, Calls Tryd.prog 16 #[.float .f64 X] w fun e1 w' => e1 = .returned (.bool (!s)) ∧ w' = w))
    (G2 : Hid (∀ w, Calls Tryd.prog 16 #[.float .f64 Y] w fun e1 w' => e1 = .returned (.bool s) ∧ w' = w))
    (w : World) (hT : Hid (Tab w)) :
    Calls Tryd.prog 7 #[.int .u64 a, .int .u64 b] w fun e w' => e = .returned (.bool true) ∧ w' = w := by
  go_enter Tryd.func7, Tryd.ntmps7
  go_wp2_with (first | (go_at_call 8; refine (A0.out _ hT.out).mono ?_; rintro e1 w1 ⟨rfl, rfl⟩) | (go_at_call_of 13 (#[Value.float .f64 x]); refine (O1.out _).mono ?_; rintro e1 w1 ⟨rfl, rfl⟩) | (go_at_call_of 13 (#[Value.float .f64 y]); refine (O2.out _).mono ?_; rintro e1 w1 ⟨rfl, rfl⟩) | (go_at_call 26; refine (N0.out _).mono ?_; rintro e1 w1 ⟨rfl, rfl⟩) | (go_at_call_of 14 (#[Value.float .f64 X]); refine (C1.out _).mono ?_; rintro e1 w1 ⟨rfl, rfl⟩) | (go_at_call_of 14 (#[Value.float .f64 NX]); refine (C2.out _).mono ?_; rintro e1 w1 ⟨rfl, rfl⟩) | (go_at_call_of 14 (#[Value.float .f64 Y]); refine (C3.out _).mono ?_; rintro e1 w1 ⟨rfl, rfl⟩) | (go_at_call_of 37 (#[Value.float .f64 NX]); refine (B1.out _).mono ?_; rintro e1 w1 ⟨rfl, rfl⟩) | (go_at_call_of 37 (#[Value.float .f64 X]); refine (B2.out _).mono ?_; rintro e1 w1 ⟨rfl, rfl⟩) | (go_at_call 32; refine (U0.out _).mono ?_; rintro e1 w1 ⟨rfl, rfl⟩) | (go_at_call_of 16 (#[Value.float .f64 X]); refine (G1.out _).mono ?_; rintro e1 w1 ⟨rfl, rfl⟩) | (go_at_call_of 16 (#[Value.float .f64 Y]); refine (G2.out _).mono ?_; rintro e1 w1 ⟨rfl, rfl⟩))
  go_ret
  exact ⟨rfl, rfl⟩

set_option maxRecDepth 20000 in
set_option maxHeartbeats 1000000 in
theorem near_up0_X2 (a b : Int) (x y X Y NX AN AX u D AY HY : Nat) (c1 c2 c3 : Int) (s : Bool)
    (hx : a.toNat = x) (hy : b.toNat = y)
    (hc1 : 2 < c1)
    (hc2 : 2 < c2)
    (hz1 : (FloatKind.f64.format.order X 0 == some .eq) = true)
    (hz2 : (FloatKind.f64.format.order NX 0 == some .eq) = false)
    (hla : (FloatKind.f64.format.order AN AX == some .lt) = false)
    (SB : ∀ w, (binOp .sub 24 (.float .f64 NX) (.float .f64 X)).run Tryd.prog w = .ok (.float .f64 D) w)
    (hn1 : (FloatKind.f64.format.order D u != some .eq) = false)
    (hc3 : 2 < c3)
    (DV1 : ∀ w, (binOp .quo 24 (.float .f64 AY) (.float .f64 4611686018427387904)).run Tryd.prog w = .ok (.float .f64 HY) w)
    (hg1 : (FloatKind.f64.format.order HY AX == some .gt) = true)
    (A0 : Hid (∀ w, Tab w → Calls Tryd.prog 8 #[] w fun e1 w' => e1 = .returned (.bool true) ∧ w' = w))
    (O1 : Hid (∀ w, Calls Tryd.prog 13 #[.float .f64 x] w fun e1 w' => e1 = .returned (.float .f64 X) ∧ w' = w))
    (O2 : Hid (∀ w, Calls Tryd.prog 13 #[.float .f64 y] w fun e1 w' => e1 = .returned (.float .f64 Y) ∧ w' = w))
    (N0 : Hid (∀ w, Calls Tryd.prog 26 #[.float .f64 X] w fun e1 w' => e1 = .returned (.float .f64 NX) ∧ w' = w))
    (C1 : Hid (∀ w, Calls Tryd.prog 14 #[.float .f64 X] w fun e1 w' => e1 = .returned (.int .i64 c1) ∧ w' = w))
    (C2 : Hid (∀ w, Calls Tryd.prog 14 #[.float .f64 NX] w fun e1 w' => e1 = .returned (.int .i64 c2) ∧ w' = w))
    (C3 : Hid (∀ w, Calls Tryd.prog 14 #[.float .f64 Y] w fun e1 w' => e1 = .returned (.int .i64 c3) ∧ w' = w))
    (B1 : Hid (∀ w, Calls Tryd.prog 37 #[.float .f64 NX] w fun e1 w' => e1 = .returned (.float .f64 AN) ∧ w' = w))
    (B2 : Hid (∀ w, Calls Tryd.prog 37 #[.float .f64 X] w fun e1 w' => e1 = .returned (.float .f64 AX) ∧ w' = w))
    (U0 : Hid (∀ w, Calls Tryd.prog 32 #[.float .f64 X] w fun e1 w' => e1 = .returned (.tuple #[.float .f64 u, .int .i64 0]) ∧ w' = w))
    (G1 : Hid (∀ w, Calls Tryd.prog 16 #[.float .f64 X] w fun e1 w' => e1 = .returned (.bool s) ∧ w' = w))
    (G2 : Hid (∀ w, Calls Tryd.prog 16 #[.float .f64 Y] w fun e1 w' => e1 = .returned (.bool s) ∧ w' = w))
    (B3 : Hid (∀ w, Calls Tryd.prog 37 #[.float .f64 Y] w fun e1 w' => e1 = .returned (.float .f64 AY) ∧ w' = w))
    (w : World) (hT : Hid (Tab w)) :
    Calls Tryd.prog 7 #[.int .u64 a, .int .u64 b] w fun e w' => e = .returned (.bool true) ∧ w' = w := by
  go_enter Tryd.func7, Tryd.ntmps7
  go_wp2_with (first | (go_at_call 8; refine (A0.out _ hT.out).mono ?_; rintro e1 w1 ⟨rfl, rfl⟩) | (go_at_call_of 13 (#[Value.float .f64 x]); refine (O1.out _).mono ?_; rintro e1 w1 ⟨rfl, rfl⟩) | (go_at_call_of 13 (#[Value.float .f64 y]); refine (O2.out _).mono ?_; rintro e1 w1 ⟨rfl, rfl⟩) | (go_at_call 26; refine (N0.out _).mono ?_; rintro e1 w1 ⟨rfl, rfl⟩) | (go_at_call_of 14 (#[Value.float .f64 X]); refine (C1.out _).mono ?_; rintro e1 w1 ⟨rfl, rfl⟩) | (go_at_call_of 14 (#[Value.float .f64 NX]); refine (C2.out _).mono ?_; rintro e1 w1 ⟨rfl, rfl⟩) | (go_at_call_of 14 (#[Value.float .f64 Y]); refine (C3.out _).mono ?_; rintro e1 w1 ⟨rfl, rfl⟩) | (go_at_call_of 37 (#[Value.float .f64 NX]); refine (B1.out _).mono ?_; rintro e1 w1 ⟨rfl, rfl⟩) | (go_at_call_of 37 (#[Value.float .f64 X]); refine (B2.out _).mono ?_; rintro e1 w1 ⟨rfl, rfl⟩) | (go_at_call 32; refine (U0.out _).mono ?_; rintro e1 w1 ⟨rfl, rfl⟩) | (go_at_call_of 16 (#[Value.float .f64 X]); refine (G1.out _).mono ?_; rintro e1 w1 ⟨rfl, rfl⟩) | (go_at_call_of 16 (#[Value.float .f64 Y]); refine (G2.out _).mono ?_; rintro e1 w1 ⟨rfl, rfl⟩) | (go_at_call_of 37 (#[Value.float .f64 Y]); refine (B3.out _).mono ?_; rintro e1 w1 ⟨rfl, rfl⟩))
  go_ret
  exact ⟨rfl, rfl⟩

set_option maxRecDepth 20000 in
set_option maxHeartbeats 1000000 in
theorem near_up0_X3 (a b : Int) (x y X Y NX AN AX u D AY HY HX : Nat) (c1 c2 c3 : Int) (s : Bool)
    (hx : a.toNat = x) (hy : b.toNat = y)
    (hc1 : 2 < c1)
    (hc2 : 2 < c2)
    (hz1 : (FloatKind.f64.format.order X 0 == some .eq) = true)
    (hz2 : (FloatKind.f64.format.order NX 0 == some .eq) = false)
    (hla : (FloatKind.f64.format.order AN AX == some .lt) = false)
    (SB : ∀ w, (binOp .sub 24 (.float .f64 NX) (.float .f64 X)).run Tryd.prog w = .ok (.float .f64 D) w)
    (hn1 : (FloatKind.f64.format.order D u != some .eq) = false)
    (hc3 : 2 < c3)
    (DV1 : ∀ w, (binOp .quo 24 (.float .f64 AY) (.float .f64 4611686018427387904)).run Tryd.prog w = .ok (.float .f64 HY) w)
    (hg1 : (FloatKind.f64.format.order HY AX == some .gt) = false)
    (DV2 : ∀ w, (binOp .quo 24 (.float .f64 AX) (.float .f64 4611686018427387904)).run Tryd.prog w = .ok (.float .f64 HX) w)
    (hg2 : (FloatKind.f64.format.order HX AY == some .gt) = true)
    (A0 : Hid (∀ w, Tab w → Calls Tryd.prog 8 #[] w fun e1 w' => e1 = .returned (.bool true) ∧ w' = w))
    (O1 : Hid (∀ w, Calls Tryd.prog 13 #[.float .f64 x] w fun e1 w' => e1 = .returned (.float .f64 X) ∧ w' = w))
    (O2 : Hid (∀ w, Calls Tryd.prog 13 #[.float .f64 y] w fun e1 w' => e1 = .returned (.float .f64 Y) ∧ w' = w))
    (N0 : Hid (∀ w, Calls Tryd.prog 26 #[.float .f64 X] w fun e1 w' => e1 = .returned (.float .f64 NX) ∧ w' = w))
    (C1 : Hid (∀ w, Calls Tryd.prog 14 #[.float .f64 X] w fun e1 w' => e1 = .returned (.int .i64 c1) ∧ w' = w))
    (C2 : Hid (∀ w, Calls Tryd.prog 14 #[.float .f64 NX] w fun e1 w' => e1 = .returned (.int .i64 c2) ∧ w' = w))
    (C3 : Hid (∀ w, Calls Tryd.prog 14 #[.float .f64 Y] w fun e1 w' => e1 = .returned (.int .i64 c3) ∧ w' = w))
    (B1 : Hid (∀ w, Calls Tryd.prog 37 #[.float .f64 NX] w fun e1 w' => e1 = .returned (.float .f64 AN) ∧ w' = w))
    (B2 : Hid (∀ w, Calls Tryd.prog 37 #[.float .f64 X] w fun e1 w' => e1 = .returned (.float .f64 AX) ∧ w' = w))
    (U0 : Hid (∀ w, Calls Tryd.prog 32 #[.float .f64 X] w fun e1 w' => e1 = .returned (.tuple #[.float .f64 u, .int .i64 0]) ∧ w' = w))
    (G1 : Hid (∀ w, Calls Tryd.prog 16 #[.float .f64 X] w fun e1 w' => e1 = .returned (.bool s) ∧ w' = w))
    (G2 : Hid (∀ w, Calls Tryd.prog 16 #[.float .f64 Y] w fun e1 w' => e1 = .returned (.bool s) ∧ w' = w))
    (B3 : Hid (∀ w, Calls Tryd.prog 37 #[.float .f64 Y] w fun e1 w' => e1 = .returned (.float .f64 AY) ∧ w' = w))
    (w : World) (hT : Hid (Tab w)) :
    Calls Tryd.prog 7 #[.int .u64 a, .int .u64 b] w fun e w' => e = .returned (.bool true) ∧ w' = w := by
  go_enter Tryd.func7, Tryd.ntmps7
  go_wp2_with (first | (go_at_call 8; refine (A0.out _ hT.out).mono ?_; rintro e1 w1 ⟨rfl, rfl⟩) | (go_at_call_of 13 (#[Value.float .f64 x]); refine (O1.out _).mono ?_; rintro e1 w1 ⟨rfl, rfl⟩) | (go_at_call_of 13 (#[Value.float .f64 y]); refine (O2.out _).mono ?_; rintro e1 w1 ⟨rfl, rfl⟩) | (go_at_call 26; refine (N0.out _).mono ?_; rintro e1 w1 ⟨rfl, rfl⟩) | (go_at_call_of 14 (#[Value.float .f64 X]); refine (C1.out _).mono ?_; rintro e1 w1 ⟨rfl, rfl⟩) | (go_at_call_of 14 (#[Value.float .f64 NX]); refine (C2.out _).mono ?_; rintro e1 w1 ⟨rfl, rfl⟩) | (go_at_call_of 14 (#[Value.float .f64 Y]); refine (C3.out _).mono ?_; rintro e1 w1 ⟨rfl, rfl⟩) | (go_at_call_of 37 (#[Value.float .f64 NX]); refine (B1.out _).mono ?_; rintro e1 w1 ⟨rfl, rfl⟩) | (go_at_call_of 37 (#[Value.float .f64 X]); refine (B2.out _).mono ?_; rintro e1 w1 ⟨rfl, rfl⟩) | (go_at_call 32; refine (U0.out _).mono ?_; rintro e1 w1 ⟨rfl, rfl⟩) | (go_at_call_of 16 (#[Value.float .f64 X]); refine (G1.out _).mono ?_; rintro e1 w1 ⟨rfl, rfl⟩) | (go_at_call_of 16 (#[Value.float .f64 Y]); refine (G2.out _).mono ?_; rintro e1 w1 ⟨rfl, rfl⟩) | (go_at_call_of 37 (#[Value.float .f64 Y]); refine (B3.out _).mono ?_; rintro e1 w1 ⟨rfl, rfl⟩))
  go_ret
  exact ⟨rfl, rfl⟩

set_option maxRecDepth 20000 in
set_option maxHeartbeats 1000000 in
theorem near_up0_X4 (a b : Int) (x y X Y NX AN AX u D AY HY HX : Nat) (c1 c2 c3 m n e f : Int) (s s3 s4 : Bool)
    (hx : a.toNat = x) (hy : b.toNat = y)
    (hc1 : 2 < c1)
    (hc2 : 2 < c2)
    (hz1 : (FloatKind.f64.format.order X 0 == some .eq) = true)
    (hz2 : (FloatKind.f64.format.order NX 0 == some .eq) = false)
    (hla : (FloatKind.f64.format.order AN AX == some .lt) = false)
    (SB : ∀ w, (binOp .sub 24 (.float .f64 NX) (.float .f64 X)).run Tryd.prog w = .ok (.float .f64 D) w)
    (hn1 : (FloatKind.f64.format.order D u != some .eq) = false)
    (hc3 : 2 < c3)
    (DV1 : ∀ w, (binOp .quo 24 (.float .f64 AY) (.float .f64 4611686018427387904)).run Tryd.prog w = .ok (.float .f64 HY) w)
    (hg1 : (FloatKind.f64.format.order HY AX == some .gt) = false)
    (DV2 : ∀ w, (binOp .quo 24 (.float .f64 AX) (.float .f64 4611686018427387904)).run Tryd.prog w = .ok (.float .f64 HX) w)
    (hg2 : (FloatKind.f64.format.order HX AY == some .gt) = false)
    (hm : (m == 0) = true)
    (A0 : Hid (∀ w, Tab w → Calls Tryd.prog 8 #[] w fun e1 w' => e1 = .returned (.bool true) ∧ w' = w))
    (O1 : Hid (∀ w, Calls Tryd.prog 13 #[.float .f64 x] w fun e1 w' => e1 = .returned (.float .f64 X) ∧ w' = w))
    (O2 : Hid (∀ w, Calls Tryd.prog 13 #[.float .f64 y] w fun e1 w' => e1 = .returned (.float .f64 Y) ∧ w' = w))
    (N0 : Hid (∀ w, Calls Tryd.prog 26 #[.float .f64 X] w fun e1 w' => e1 = .returned (.float .f64 NX) ∧ w' = w))
    (C1 : Hid (∀ w, Calls Tryd.prog 14 #[.float .f64 X] w fun e1 w' => e1 = .returned (.int .i64 c1) ∧ w' = w))
    (C2 : Hid (∀ w, Calls Tryd.prog 14 #[.float .f64 NX] w fun e1 w' => e1 = .returned (.int .i64 c2) ∧ w' = w))
    (C3 : Hid (∀ w, Calls Tryd.prog 14 #[.float .f64 Y] w fun e1 w' => e1 = .returned (.int .i64 c3) ∧ w' = w))
    (B1 : Hid (∀ w, Calls Tryd.prog 37 #[.float .f64 NX] w fun e1 w' => e1 = .returned (.float .f64 AN) ∧ w' = w))
    (B2 : Hid (∀ w, Calls Tryd.prog 37 #[.float .f64 X] w fun e1 w' => e1 = .returned (.float .f64 AX) ∧ w' = w))
    (U0 : Hid (∀ w, Calls Tryd.prog 32 #[.float .f64 X] w fun e1 w' => e1 = .returned (.tuple #[.float .f64 u, .int .i64 0]) ∧ w' = w))
    (G1 : Hid (∀ w, Calls Tryd.prog 16 #[.float .f64 X] w fun e1 w' => e1 = .returned (.bool s) ∧ w' = w))
    (G2 : Hid (∀ w, Calls Tryd.prog 16 #[.float .f64 Y] w fun e1 w' => e1 = .returned (.bool s) ∧ w' = w))
    (B3 : Hid (∀ w, Calls Tryd.prog 37 #[.float .f64 Y] w fun e1 w' => e1 = .returned (.float .f64 AY) ∧ w' = w))
    (S1 : Hid (∀ w, Calls Tryd.prog 18 #[.float .f64 X] w fun e1 w' => e1 = .returned (.tuple #[.bool s3, .int .u64 m, .int .i64 e, .int .i64 0]) ∧ w' = w))
    (S2 : Hid (∀ w, Calls Tryd.prog 18 #[.float .f64 Y] w fun e1 w' => e1 = .returned (.tuple #[.bool s4, .int .u64 n, .int .i64 f, .int .i64 0]) ∧ w' = w))
    (w : World) (hT : Hid (Tab w)) :
    Calls Tryd.prog 7 #[.int .u64 a, .int .u64 b] w fun e w' => e = .returned (.bool true) ∧ w' = w := by
  go_enter Tryd.func7, Tryd.ntmps7
  go_wp2_with (first | (go_at_call 8; refine (A0.out _ hT.out).mono ?_; rintro e1 w1 ⟨rfl, rfl⟩) | (go_at_call_of 13 (#[Value.float .f64 x]); refine (O1.out _).mono ?_; rintro e1 w1 ⟨rfl, rfl⟩) | (go_at_call_of 13 (#[Value.float .f64 y]); refine (O2.out _).mono ?_; rintro e1 w1 ⟨rfl, rfl⟩) | (go_at_call 26; refine (N0.out _).mono ?_; rintro e1 w1 ⟨rfl, rfl⟩) | (go_at_call_of 14 (#[Value.float .f64 X]); refine (C1.out _).mono ?_; rintro e1 w1 ⟨rfl, rfl⟩) | (go_at_call_of 14 (#[Value.float .f64 NX]); refine (C2.out _).mono ?_; rintro e1 w1 ⟨rfl, rfl⟩) | (go_at_call_of 14 (#[Value.float .f64 Y]); refine (C3.out _).mono ?_; rintro e1 w1 ⟨rfl, rfl⟩) | (go_at_call_of 37 (#[Value.float .f64 NX]); refine (B1.out _).mono ?_; rintro e1 w1 ⟨rfl, rfl⟩) | (go_at_call_of 37 (#[Value.float .f64 X]); refine (B2.out _).mono ?_; rintro e1 w1 ⟨rfl, rfl⟩) | (go_at_call 32; refine (U0.out _).mono ?_; rintro e1 w1 ⟨rfl, rfl⟩) | (go_at_call_of 16 (#[Value.float .f64 X]); refine (G1.out _).mono ?_; rintro e1 w1 ⟨rfl, rfl⟩) | (go_at_call_of 16 (#[Value.float .f64 Y]); refine (G2.out _).mono ?_; rintro e1 w1 ⟨rfl, rfl⟩) | (go_at_call_of 37 (#[Value.float .f64 Y]); refine (B3.out _).mono ?_; rintro e1 w1 ⟨rfl, rfl⟩) | (go_at_call_of 18 (#[Value.float .f64 X]); refine (S1.out _).mono ?_; rintro e1 w1 ⟨rfl, rfl⟩) | (go_at_call_of 18 (#[Value.float .f64 Y]); refine (S2.out _).mono ?_; rintro e1 w1 ⟨rfl, rfl⟩))
  go_ret
  exact ⟨rfl, rfl⟩

set_option maxRecDepth 20000 in
set_option maxHeartbeats 1000000 in
theorem near_up0_X5 (a b : Int) (x y X Y NX AN AX u D AY HY HX : Nat) (c1 c2 c3 m n e f : Int) (s s3 s4 : Bool)
    (hx : a.toNat = x) (hy : b.toNat = y)
    (hc1 : 2 < c1)
    (hc2 : 2 < c2)
    (hz1 : (FloatKind.f64.format.order X 0 == some .eq) = true)
    (hz2 : (FloatKind.f64.format.order NX 0 == some .eq) = false)
    (hla : (FloatKind.f64.format.order AN AX == some .lt) = false)
    (SB : ∀ w, (binOp .sub 24 (.float .f64 NX) (.float .f64 X)).run Tryd.prog w = .ok (.float .f64 D) w)
    (hn1 : (FloatKind.f64.format.order D u != some .eq) = false)
    (hc3 : 2 < c3)
    (DV1 : ∀ w, (binOp .quo 24 (.float .f64 AY) (.float .f64 4611686018427387904)).run Tryd.prog w = .ok (.float .f64 HY) w)
    (hg1 : (FloatKind.f64.format.order HY AX == some .gt) = false)
    (DV2 : ∀ w, (binOp .quo 24 (.float .f64 AX) (.float .f64 4611686018427387904)).run Tryd.prog w = .ok (.float .f64 HX) w)
    (hg2 : (FloatKind.f64.format.order HX AY == some .gt) = false)
    (hm : (m == 0) = false) (hn : (n == 0) = true)
    (A0 : Hid (∀ w, Tab w → Calls Tryd.prog 8 #[] w fun e1 w' => e1 = .returned (.bool true) ∧ w' = w))
    (O1 : Hid (∀ w, Calls Tryd.prog 13 #[.float .f64 x] w fun e1 w' => e1 = .returned (.float .f64 X) ∧ w' = w))
    (O2 : Hid (∀ w, Calls Tryd.prog 13 #[.float .f64 y] w fun e1 w' => e1 = .returned (.float .f64 Y) ∧ w' = w))
    (N0 : Hid (∀ w, Calls Tryd.prog 26 #[.float .f64 X] w fun e1 w' => e1 = .returned (.float .f64 NX) ∧ w' = w))
    (C1 : Hid (∀ w, Calls Tryd.prog 14 #[.float .f64 X] w fun e1 w' => e1 = .returned (.int .i64 c1) ∧ w' = w))
    (C2 : Hid (∀ w, Calls Tryd.prog 14 #[.float .f64 NX] w fun e1 w' => e1 = .returned (.int .i64 c2) ∧ w' = w))
    (C3 : Hid (∀ w, Calls Tryd.prog 14 #[.float .f64 Y] w fun e1 w' => e1 = .returned (.int .i64 c3) ∧ w' = w))
    (B1 : Hid (∀ w, Calls Tryd.prog 37 #[.float .f64 NX] w fun e1 w' => e1 = .returned (.float .f64 AN) ∧ w' = w))
    (B2 : Hid (∀ w, Calls Tryd.prog 37 #[.float .f64 X] w fun e1 w' => e1 = .returned (.float .f64 AX) ∧ w' = w))
    (U0 : Hid (∀ w, Calls Tryd.prog 32 #[.float .f64 X] w fun e1 w' => e1 = .returned (.tuple #[.float .f64 u, .int .i64 0]) ∧ w' = w))
    (G1 : Hid (∀ w, Calls Tryd.prog 16 #[.float .f64 X] w fun e1 w' => e1 = .returned (.bool s) ∧ w' = w))
    (G2 : Hid (∀ w, Calls Tryd.prog 16 #[.float .f64 Y] w fun e1 w' => e1 = .returned (.bool s) ∧ w' = w))
    (B3 : Hid (∀ w, Calls Tryd.prog 37 #[.float .f64 Y] w fun e1 w' => e1 = .returned (.float .f64 AY) ∧ w' = w))
    (S1 : Hid (∀ w, Calls Tryd.prog 18 #[.float .f64 X] w fun e1 w' => e1 = .returned (.tuple #[.bool s3, .int .u64 m, .int .i64 e, .int .i64 0]) ∧ w' = w))
    (S2 : Hid (∀ w, Calls Tryd.prog 18 #[.float .f64 Y] w fun e1 w' => e1 = .returned (.tuple #[.bool s4, .int .u64 n, .int .i64 f, .int .i64 0]) ∧ w' = w))
    (w : World) (hT : Hid (Tab w)) :
    Calls Tryd.prog 7 #[.int .u64 a, .int .u64 b] w fun e w' => e = .returned (.bool true) ∧ w' = w := by
  go_enter Tryd.func7, Tryd.ntmps7
  go_wp2_with (first | (go_at_call 8; refine (A0.out _ hT.out).mono ?_; rintro e1 w1 ⟨rfl, rfl⟩) | (go_at_call_of 13 (#[Value.float .f64 x]); refine (O1.out _).mono ?_; rintro e1 w1 ⟨rfl, rfl⟩) | (go_at_call_of 13 (#[Value.float .f64 y]); refine (O2.out _).mono ?_; rintro e1 w1 ⟨rfl, rfl⟩) | (go_at_call 26; refine (N0.out _).mono ?_; rintro e1 w1 ⟨rfl, rfl⟩) | (go_at_call_of 14 (#[Value.float .f64 X]); refine (C1.out _).mono ?_; rintro e1 w1 ⟨rfl, rfl⟩) | (go_at_call_of 14 (#[Value.float .f64 NX]); refine (C2.out _).mono ?_; rintro e1 w1 ⟨rfl, rfl⟩) | (go_at_call_of 14 (#[Value.float .f64 Y]); refine (C3.out _).mono ?_; rintro e1 w1 ⟨rfl, rfl⟩) | (go_at_call_of 37 (#[Value.float .f64 NX]); refine (B1.out _).mono ?_; rintro e1 w1 ⟨rfl, rfl⟩) | (go_at_call_of 37 (#[Value.float .f64 X]); refine (B2.out _).mono ?_; rintro e1 w1 ⟨rfl, rfl⟩) | (go_at_call 32; refine (U0.out _).mono ?_; rintro e1 w1 ⟨rfl, rfl⟩) | (go_at_call_of 16 (#[Value.float .f64 X]); refine (G1.out _).mono ?_; rintro e1 w1 ⟨rfl, rfl⟩) | (go_at_call_of 16 (#[Value.float .f64 Y]); refine (G2.out _).mono ?_; rintro e1 w1 ⟨rfl, rfl⟩) | (go_at_call_of 37 (#[Value.float .f64 Y]); refine (B3.out _).mono ?_; rintro e1 w1 ⟨rfl, rfl⟩) | (go_at_call_of 18 (#[Value.float .f64 X]); refine (S1.out _).mono ?_; rintro e1 w1 ⟨rfl, rfl⟩) | (go_at_call_of 18 (#[Value.float .f64 Y]); refine (S2.out _).mono ?_; rintro e1 w1 ⟨rfl, rfl⟩))
  go_ret
  exact ⟨rfl, rfl⟩

set_option maxRecDepth 20000 in
set_option maxHeartbeats 1000000 in
theorem near_up0_EQ0 (a b : Int) (x y X Y NX AN AX u D AY HY HX J S : Nat) (c1 c2 c3 m n e : Int) (s s3 s4 : Bool)
    (hx : a.toNat = x) (hy : b.toNat = y)
    (hc1 : 2 < c1)
    (hc2 : 2 < c2)
    (hz1 : (FloatKind.f64.format.order X 0 == some .eq) = true)
    (hz2 : (FloatKind.f64.format.order NX 0 == some .eq) = false)
    (hla : (FloatKind.f64.format.order AN AX == some .lt) = false)
    (SB : ∀ w, (binOp .sub 24 (.float .f64 NX) (.float .f64 X)).run Tryd.prog w = .ok (.float .f64 D) w)
    (hn1 : (FloatKind.f64.format.order D u != some .eq) = false)
    (hc3 : 2 < c3)
    (DV1 : ∀ w, (binOp .quo 24 (.float .f64 AY) (.float .f64 4611686018427387904)).run Tryd.prog w = .ok (.float .f64 HY) w)
    (hg1 : (FloatKind.f64.format.order HY AX == some .gt) = false)
    (DV2 : ∀ w, (binOp .quo 24 (.float .f64 AX) (.float .f64 4611686018427387904)).run Tryd.prog w = .ok (.float .f64 HX) w)
    (hg2 : (FloatKind.f64.format.order HX AY == some .gt) = false)
    (hm : (m == 0) = false) (hn : (n == 0) = false) (m0 : 1 ≤ m) (m1 : m < 9007199254740992) (n0 : 1 ≤ n) (n1 : n < 9007199254740992) (e0 : -2000 ≤ e) (e1 : e ≤ 2000)
    (hmn : n ≤ m)
    (KJ : Hid ((!(s == decide (m < n))) = s))
    (SS : ∀ w, (binOp .sub 24 (.float .f64 X) (.float .f64 Y)).run Tryd.prog w = .ok (.float .f64 S) w)
    (hfin : (FloatKind.f64.format.order J S == some .eq) = true)
    (A0 : Hid (∀ w, Tab w → Calls Tryd.prog 8 #[] w fun e1 w' => e1 = .returned (.bool true) ∧ w' = w))
    (O1 : Hid (∀ w, Calls Tryd.prog 13 #[.float .f64 x] w fun e1 w' => e1 = .returned (.float .f64 X) ∧ w' = w))
    (O2 : Hid (∀ w, Calls Tryd.prog 13 #[.float .f64 y] w fun e1 w' => e1 = .returned (.float .f64 Y) ∧ w' = w))
    (N0 : Hid (∀ w, Calls Tryd.prog 26 #[.float .f64 X] w fun e1 w' => e1 = .returned (.float .f64 NX) ∧ w' = w))
    (C1 : Hid (∀ w, Calls Tryd.prog 14 #[.float .f64 X] w fun e1 w' => e1 = .returned (.int .i64 c1) ∧ w' = w))
    (C2 : Hid (∀ w, Calls Tryd.prog 14 #[.float .f64 NX] w fun e1 w' => e1 = .returned (.int .i64 c2) ∧ w' = w))
    (C3 : Hid (∀ w, Calls Tryd.prog 14 #[.float .f64 Y] w fun e1 w' => e1 = .returned (.int .i64 c3) ∧ w' = w))
    (B1 : Hid (∀ w, Calls Tryd.prog 37 #[.float .f64 NX] w fun e1 w' => e1 = .returned (.float .f64 AN) ∧ w' = w))
    (B2 : Hid (∀ w, Calls Tryd.prog 37 #[.float .f64 X] w fun e1 w' => e1 = .returned (.float .f64 AX) ∧ w' = w))
    (U0 : Hid (∀ w, Calls Tryd.prog 32 #[.float .f64 X] w fun e1 w' => e1 = .returned (.tuple #[.float .f64 u, .int .i64 0]) ∧ w' = w))
    (G1 : Hid (∀ w, Calls Tryd.prog 16 #[.float .f64 X] w fun e1 w' => e1 = .returned (.bool s) ∧ w' = w))
    (G2 : Hid (∀ w, Calls Tryd.prog 16 #[.float .f64 Y] w fun e1 w' => e1 = .returned (.bool s) ∧ w' = w))
    (B3 : Hid (∀ w, Calls Tryd.prog 37 #[.float .f64 Y] w fun e1 w' => e1 = .returned (.float .f64 AY) ∧ w' = w))
    (S1 : Hid (∀ w, Calls Tryd.prog 18 #[.float .f64 X] w fun e1 w' => e1 = .returned (.tuple #[.bool s3, .int .u64 m, .int .i64 e, .int .i64 0]) ∧ w' = w))
    (S2 : Hid (∀ w, Calls Tryd.prog 18 #[.float .f64 Y] w fun e1 w' => e1 = .returned (.tuple #[.bool s4, .int .u64 n, .int .i64 e, .int .i64 0]) ∧ w' = w))
    (J0 : Hid (∀ w, Tab w → Calls Tryd.prog 20 #[.bool s, .int .u64 (m - n), .int .i64 e] w fun e1 w' => e1 = .returned (.tuple #[.float .f64 J, .int .i64 0]) ∧ w' = w))
    (w : World) (hT : Hid (Tab w)) :
    Calls Tryd.prog 7 #[.int .u64 a, .int .u64 b] w fun e w' => e = .returned (.bool true) ∧ w' = w := by
  go_enter Tryd.func7, Tryd.ntmps7
  go_wp2_with (first | (go_at_call 8; refine (A0.out _ hT.out).mono ?_; rintro e1 w1 ⟨rfl, rfl⟩) | (go_at_call_of 13 (#[Value.float .f64 x]); refine (O1.out _).mono ?_; rintro e1 w1 ⟨rfl, rfl⟩) | (go_at_call_of 13 (#[Value.float .f64 y]); refine (O2.out _).mono ?_; rintro e1 w1 ⟨rfl, rfl⟩) | (go_at_call 26; refine (N0.out _).mono ?_; rintro e1 w1 ⟨rfl, rfl⟩) | (go_at_call_of 14 (#[Value.float .f64 X]); refine (C1.out _).mono ?_; rintro e1 w1 ⟨rfl, rfl⟩) | (go_at_call_of 14 (#[Value.float .f64 NX]); refine (C2.out _).mono ?_; rintro e1 w1 ⟨rfl, rfl⟩) | (go_at_call_of 14 (#[Value.float .f64 Y]); refine (C3.out _).mono ?_; rintro e1 w1 ⟨rfl, rfl⟩) | (go_at_call_of 37 (#[Value.float .f64 NX]); refine (B1.out _).mono ?_; rintro e1 w1 ⟨rfl, rfl⟩) | (go_at_call_of 37 (#[Value.float .f64 X]); refine (B2.out _).mono ?_; rintro e1 w1 ⟨rfl, rfl⟩) | (go_at_call 32; refine (U0.out _).mono ?_; rintro e1 w1 ⟨rfl, rfl⟩) | (go_at_call_of 16 (#[Value.float .f64 X]); refine (G1.out _).mono ?_; rintro e1 w1 ⟨rfl, rfl⟩) | (go_at_call_of 16 (#[Value.float .f64 Y]); refine (G2.out _).mono ?_; rintro e1 w1 ⟨rfl, rfl⟩) | (go_at_call_of 37 (#[Value.float .f64 Y]); refine (B3.out _).mono ?_; rintro e1 w1 ⟨rfl, rfl⟩) | (go_at_call_of 18 (#[Value.float .f64 X]); refine (S1.out _).mono ?_; rintro e1 w1 ⟨rfl, rfl⟩) | (go_at_call_of 18 (#[Value.float .f64 Y]); refine (S2.out _).mono ?_; rintro e1 w1 ⟨rfl, rfl⟩) | (go_at_call 20; rw [KJ.out]; refine (J0.out _ hT.out).mono ?_; rintro e1 w1 ⟨rfl, rfl⟩))
  go_ret
  exact ⟨rfl, rfl⟩

set_option maxRecDepth 20000 in
set_option maxHeartbeats 1000000 in
theorem near_up0_EQ1 (a b : Int) (x y X Y NX AN AX u D AY HY HX J S : Nat) (c1 c2 c3 m n e : Int) (s s3 s4 : Bool)
    (hx : a.toNat = x) (hy : b.toNat = y)
    (hc1 : 2 < c1)
    (hc2 : 2 < c2)
    (hz1 : (FloatKind.f64.format.order X 0 == some .eq) = true)
    (hz2 : (FloatKind.f64.format.order NX 0 == some .eq) = false)
    (hla : (FloatKind.f64.format.order AN AX == some .lt) = false)
    (SB : ∀ w, (binOp .sub 24 (.float .f64 NX) (.float .f64 X)).run Tryd.prog w = .ok (.float .f64 D) w)
    (hn1 : (FloatKind.f64.format.order D u != some .eq) = false)
    (hc3 : 2 < c3)
    (DV1 : ∀ w, (binOp .quo 24 (.float .f64 AY) (.float .f64 4611686018427387904)).run Tryd.prog w = .ok (.float .f64 HY) w)
    (hg1 : (FloatKind.f64.format.order HY AX == some .gt) = false)
    (DV2 : ∀ w, (binOp .quo 24 (.float .f64 AX) (.float .f64 4611686018427387904)).run Tryd.prog w = .ok (.float .f64 HX) w)
    (hg2 : (FloatKind.f64.format.order HX AY == some .gt) = false)
    (hm : (m == 0) = false) (hn : (n == 0) = false) (m0 : 1 ≤ m) (m1 : m < 9007199254740992) (n0 : 1 ≤ n) (n1 : n < 9007199254740992) (e0 : -2000 ≤ e) (e1 : e ≤ 2000)
    (hmn : m < n)
    (SS : ∀ w, (binOp .sub 24 (.float .f64 X) (.float .f64 Y)).run Tryd.prog w = .ok (.float .f64 S) w)
    (hfin : (FloatKind.f64.format.order J S == some .eq) = true)
    (A0 : Hid (∀ w, Tab w → Calls Tryd.prog 8 #[] w fun e1 w' => e1 = .returned (.bool true) ∧ w' = w))
    (O1 : Hid (∀ w, Calls Tryd.prog 13 #[.float .f64 x] w fun e1 w' => e1 = .returned (.float .f64 X) ∧ w' = w))
    (O2 : Hid (∀ w, Calls Tryd.prog 13 #[.float .f64 y] w fun e1 w' => e1 = .returned (.float .f64 Y) ∧ w' = w))
    (N0 : Hid (∀ w, Calls Tryd.prog 26 #[.float .f64 X] w fun e1 w' => e1 = .returned (.float .f64 NX) ∧ w' = w))
    (C1 : Hid (∀ w, Calls Tryd.prog 14 #[.float .f64 X] w fun e1 w' => e1 = .returned (.int .i64 c1) ∧ w' = w))
    (C2 : Hid (∀ w, Calls Tryd.prog 14 #[.float .f64 NX] w fun e1 w' => e1 = .returned (.int .i64 c2) ∧ w' = w))
    (C3 : Hid (∀ w, Calls Tryd.prog 14 #[.float .f64 Y] w fun e1 w' => e1 = .returned (.int .i64 c3) ∧ w' = w))
    (B1 : Hid (∀ w, Calls Tryd.prog 37 #[.float .f64 NX] w fun e1 w' => e1 = .returned (.float .f64 AN) ∧ w' = w))
    (B2 : Hid (∀ w, Calls Tryd.prog 37 #[.float .f64 X] w fun e1 w' => e1 = .returned (.float .f64 AX) ∧ w' = w))
    (U0 : Hid (∀ w, Calls Tryd.prog 32 #[.float .f64 X] w fun e1 w' => e1 = .returned (.tuple #[.float .f64 u, .int .i64 0]) ∧ w' = w))
    (G1 : Hid (∀ w, Calls Tryd.prog 16 #[.float .f64 X] w fun e1 w' => e1 = .returned (.bool s) ∧ w' = w))
    (G2 : Hid (∀ w, Calls Tryd.prog 16 #[.float .f64 Y] w fun e1 w' => e1 = .returned (.bool s) ∧ w' = w))
    (B3 : Hid (∀ w, Calls Tryd.prog 37 #[.float .f64 Y] w fun e1 w' => e1 = .returned (.float .f64 AY) ∧ w' = w))
    (S1 : Hid (∀ w, Calls Tryd.prog 18 #[.float .f64 X] w fun e1 w' => e1 = .returned (.tuple #[.bool s3, .int .u64 m, .int .i64 e, .int .i64 0]) ∧ w' = w))
    (S2 : Hid (∀ w, Calls Tryd.prog 18 #[.float .f64 Y] w fun e1 w' => e1 = .returned (.tuple #[.bool s4, .int .u64 n, .int .i64 e, .int .i64 0]) ∧ w' = w))
    (J0 : Hid (∀ w, Tab w → Calls Tryd.prog 20 #[.bool (!s), .int .u64 (n - m), .int .i64 e] w fun e1 w' => e1 = .returned (.tuple #[.float .f64 J, .int .i64 0]) ∧ w' = w))
    (w : World) (hT : Hid (Tab w)) :
    Calls Tryd.prog 7 #[.int .u64 a, .int .u64 b] w fun e w' => e = .returned (.bool true) ∧ w' = w := by
  go_enter Tryd.func7, Tryd.ntmps7
  go_wp2_with (first | (go_at_call 8; refine (A0.out _ hT.out).mono ?_; rintro e1 w1 ⟨rfl, rfl⟩) | (go_at_call_of 13 (#[Value.float .f64 x]); refine (O1.out _).mono ?_; rintro e1 w1 ⟨rfl, rfl⟩) | (go_at_call_of 13 (#[Value.float .f64 y]); refine (O2.out _).mono ?_; rintro e1 w1 ⟨rfl, rfl⟩) | (go_at_call 26; refine (N0.out _).mono ?_; rintro e1 w1 ⟨rfl, rfl⟩) | (go_at_call_of 14 (#[Value.float .f64 X]); refine (C1.out _).mono ?_; rintro e1 w1 ⟨rfl, rfl⟩) | (go_at_call_of 14 (#[Value.float .f64 NX]); refine (C2.out _).mono ?_; rintro e1 w1 ⟨rfl, rfl⟩) | (go_at_call_of 14 (#[Value.float .f64 Y]); refine (C3.out _).mono ?_; rintro e1 w1 ⟨rfl, rfl⟩) | (go_at_call_of 37 (#[Value.float .f64 NX]); refine (B1.out _).mono ?_; rintro e1 w1 ⟨rfl, rfl⟩) | (go_at_call_of 37 (#[Value.float .f64 X]); refine (B2.out _).mono ?_; rintro e1 w1 ⟨rfl, rfl⟩) | (go_at_call 32; refine (U0.out _).mono ?_; rintro e1 w1 ⟨rfl, rfl⟩) | (go_at_call_of 16 (#[Value.float .f64 X]); refine (G1.out _).mono ?_; rintro e1 w1 ⟨rfl, rfl⟩) | (go_at_call_of 16 (#[Value.float .f64 Y]); refine (G2.out _).mono ?_; rintro e1 w1 ⟨rfl, rfl⟩) | (go_at_call_of 37 (#[Value.float .f64 Y]); refine (B3.out _).mono ?_; rintro e1 w1 ⟨rfl, rfl⟩) | (go_at_call_of 18 (#[Value.float .f64 X]); refine (S1.out _).mono ?_; rintro e1 w1 ⟨rfl, rfl⟩) | (go_at_call_of 18 (#[Value.float .f64 Y]); refine (S2.out _).mono ?_; rintro e1 w1 ⟨rfl, rfl⟩) | (go_at_call 20; refine (J0.out _ hT.out).mono ?_; rintro e1 w1 ⟨rfl, rfl⟩))
  go_ret
  exact ⟨rfl, rfl⟩

set_option maxRecDepth 20000 in
set_option maxHeartbeats 1000000 in
theorem near_up0_GT (a b : Int) (x y X Y NX AN AX u D AY HY HX J S : Nat) (c1 c2 c3 m n e : Int) (s s3 s4 : Bool)
    (hx : a.toNat = x) (hy : b.toNat = y)
    (hc1 : 2 < c1)
    (hc2 : 2 < c2)
    (hz1 : (FloatKind.f64.format.order X 0 == some .eq) = true)
    (hz2 : (FloatKind.f64.format.order NX 0 == some .eq) = false)
    (hla : (FloatKind.f64.format.order AN AX == some .lt) = false)
    (SB : ∀ w, (binOp .sub 24 (.float .f64 NX) (.float .f64 X)).run Tryd.prog w = .ok (.float .f64 D) w)
    (hn1 : (FloatKind.f64.format.order D u != some .eq) = false)
    (hc3 : 2 < c3)
    (DV1 : ∀ w, (binOp .quo 24 (.float .f64 AY) (.float .f64 4611686018427387904)).run Tryd.prog w = .ok (.float .f64 HY) w)
    (hg1 : (FloatKind.f64.format.order HY AX == some .gt) = false)
    (DV2 : ∀ w, (binOp .quo 24 (.float .f64 AX) (.float .f64 4611686018427387904)).run Tryd.prog w = .ok (.float .f64 HX) w)
    (hg2 : (FloatKind.f64.format.order HX AY == some .gt) = false)
    (hm : (m == 0) = false) (hn : (n == 0) = false) (m0 : 1 ≤ m) (m1 : m < 9007199254740992) (n0 : 1 ≤ n) (n1 : n < 9007199254740992) (e0 : -2000 ≤ e) (e1 : e ≤ 2000)
    (hmn : n ≤ 2 * m)
    (KJ : Hid ((!(s == decide (2 * m < n))) = s))
    (SS : ∀ w, (binOp .sub 24 (.float .f64 X) (.float .f64 Y)).run Tryd.prog w = .ok (.float .f64 S) w)
    (hfin : (FloatKind.f64.format.order J S == some .eq) = true)
    (A0 : Hid (∀ w, Tab w → Calls Tryd.prog 8 #[] w fun e1 w' => e1 = .returned (.bool true) ∧ w' = w))
    (O1 : Hid (∀ w, Calls Tryd.prog 13 #[.float .f64 x] w fun e1 w' => e1 = .returned (.float .f64 X) ∧ w' = w))
    (O2 : Hid (∀ w, Calls Tryd.prog 13 #[.float .f64 y] w fun e1 w' => e1 = .returned (.float .f64 Y) ∧ w' = w))
    (N0 : Hid (∀ w, Calls Tryd.prog 26 #[.float .f64 X] w fun e1 w' => e1 = .returned (.float .f64 NX) ∧ w' = w))
    (C1 : Hid (∀ w, Calls Tryd.prog 14 #[.float .f64 X] w fun e1 w' => e1 = .returned (.int .i64 c1) ∧ w' = w))
    (C2 : Hid (∀ w, Calls Tryd.prog 14 #[.float .f64 NX] w fun e1 w' => e1 = .returned (.int .i64 c2) ∧ w' = w))
    (C3 : Hid (∀ w, Calls Tryd.prog 14 #[.float .f64 Y] w fun e1 w' => e1 = .returned (.int .i64 c3) ∧ w' = w))
    (B1 : Hid (∀ w, Calls Tryd.prog 37 #[.float .f64 NX] w fun e1 w' => e1 = .returned (.float .f64 AN) ∧ w' = w))
    (B2 : Hid (∀ w, Calls Tryd.prog 37 #[.float .f64 X] w fun e1 w' => e1 = .returned (.float .f64 AX) ∧ w' = w))
    (U0 : Hid (∀ w, Calls Tryd.prog 32 #[.float .f64 X] w fun e1 w' => e1 = .returned (.tuple #[.float .f64 u, .int .i64 0]) ∧ w' = w))
    (G1 : Hid (∀ w, Calls Tryd.prog 16 #[.float .f64 X] w fun e1 w' => e1 = .returned (.bool s) ∧ w' = w))
    (G2 : Hid (∀ w, Calls Tryd.prog 16 #[.float .f64 Y] w fun e1 w' => e1 = .returned (.bool s) ∧ w' = w))
    (B3 : Hid (∀ w, Calls Tryd.prog 37 #[.float .f64 Y] w fun e1 w' => e1 = .returned (.float .f64 AY) ∧ w' = w))
    (S1 : Hid (∀ w, Calls Tryd.prog 18 #[.float .f64 X] w fun e1 w' => e1 = .returned (.tuple #[.bool s3, .int .u64 m, .int .i64 (e + 1), .int .i64 0]) ∧ w' = w))
    (S2 : Hid (∀ w, Calls Tryd.prog 18 #[.float .f64 Y] w fun e1 w' => e1 = .returned (.tuple #[.bool s4, .int .u64 n, .int .i64 e, .int .i64 0]) ∧ w' = w))
    (J0 : Hid (∀ w, Tab w → Calls Tryd.prog 20 #[.bool s, .int .u64 (2 * m - n), .int .i64 e] w fun e1 w' => e1 = .returned (.tuple #[.float .f64 J, .int .i64 0]) ∧ w' = w))
    (w : World) (hT : Hid (Tab w)) :
    Calls Tryd.prog 7 #[.int .u64 a, .int .u64 b] w fun e w' => e = .returned (.bool true) ∧ w' = w := by
  go_enter Tryd.func7, Tryd.ntmps7
  go_wp2_with (first | (go_at_call 8; refine (A0.out _ hT.out).mono ?_; rintro e1 w1 ⟨rfl, rfl⟩) | (go_at_call_of 13 (#[Value.float .f64 x]); refine (O1.out _).mono ?_; rintro e1 w1 ⟨rfl, rfl⟩) | (go_at_call_of 13 (#[Value.float .f64 y]); refine (O2.out _).mono ?_; rintro e1 w1 ⟨rfl, rfl⟩) | (go_at_call 26; refine (N0.out _).mono ?_; rintro e1 w1 ⟨rfl, rfl⟩) | (go_at_call_of 14 (#[Value.float .f64 X]); refine (C1.out _).mono ?_; rintro e1 w1 ⟨rfl, rfl⟩) | (go_at_call_of 14 (#[Value.float .f64 NX]); refine (C2.out _).mono ?_; rintro e1 w1 ⟨rfl, rfl⟩) | (go_at_call_of 14 (#[Value.float .f64 Y]); refine (C3.out _).mono ?_; rintro e1 w1 ⟨rfl, rfl⟩) | (go_at_call_of 37 (#[Value.float .f64 NX]); refine (B1.out _).mono ?_; rintro e1 w1 ⟨rfl, rfl⟩) | (go_at_call_of 37 (#[Value.float .f64 X]); refine (B2.out _).mono ?_; rintro e1 w1 ⟨rfl, rfl⟩) | (go_at_call 32; refine (U0.out _).mono ?_; rintro e1 w1 ⟨rfl, rfl⟩) | (go_at_call_of 16 (#[Value.float .f64 X]); refine (G1.out _).mono ?_; rintro e1 w1 ⟨rfl, rfl⟩) | (go_at_call_of 16 (#[Value.float .f64 Y]); refine (G2.out _).mono ?_; rintro e1 w1 ⟨rfl, rfl⟩) | (go_at_call_of 37 (#[Value.float .f64 Y]); refine (B3.out _).mono ?_; rintro e1 w1 ⟨rfl, rfl⟩) | (go_at_call_of 18 (#[Value.float .f64 X]); refine (S1.out _).mono ?_; rintro e1 w1 ⟨rfl, rfl⟩) | (go_at_call_of 18 (#[Value.float .f64 Y]); refine (S2.out _).mono ?_; rintro e1 w1 ⟨rfl, rfl⟩) | (go_at_call 20; rw [KJ.out]; refine (J0.out _ hT.out).mono ?_; rintro e1 w1 ⟨rfl, rfl⟩))
  go_ret
  exact ⟨rfl, rfl⟩

set_option maxRecDepth 20000 in
set_option maxHeartbeats 1000000 in
theorem near_up0_LT (a b : Int) (x y X Y NX AN AX u D AY HY HX J S : Nat) (c1 c2 c3 m n e : Int) (s s3 s4 : Bool)
    (hx : a.toNat = x) (hy : b.toNat = y)
    (hc1 : 2 < c1)
    (hc2 : 2 < c2)
    (hz1 : (FloatKind.f64.format.order X 0 == some .eq) = true)
    (hz2 : (FloatKind.f64.format.order NX 0 == some .eq) = false)
    (hla : (FloatKind.f64.format.order AN AX == some .lt) = false)
    (SB : ∀ w, (binOp .sub 24 (.float .f64 NX) (.float .f64 X)).run Tryd.prog w = .ok (.float .f64 D) w)
    (hn1 : (FloatKind.f64.format.order D u != some .eq) = false)
    (hc3 : 2 < c3)
    (DV1 : ∀ w, (binOp .quo 24 (.float .f64 AY) (.float .f64 4611686018427387904)).run Tryd.prog w = .ok (.float .f64 HY) w)
    (hg1 : (FloatKind.f64.format.order HY AX == some .gt) = false)
    (DV2 : ∀ w, (binOp .quo 24 (.float .f64 AX) (.float .f64 4611686018427387904)).run Tryd.prog w = .ok (.float .f64 HX) w)
    (hg2 : (FloatKind.f64.format.order HX AY == some .gt) = false)
    (hm : (m == 0) = false) (hn : (n == 0) = false) (m0 : 1 ≤ m) (m1 : m < 9007199254740992) (n0 : 1 ≤ n) (n1 : n < 9007199254740992) (e0 : -2000 ≤ e) (e1 : e ≤ 2000)
    (hmn : m < 2 * n)
    (SS : ∀ w, (binOp .sub 24 (.float .f64 X) (.float .f64 Y)).run Tryd.prog w = .ok (.float .f64 S) w)
    (hfin : (FloatKind.f64.format.order J S == some .eq) = true)
    (A0 : Hid (∀ w, Tab w → Calls Tryd.prog 8 #[] w fun e1 w' => e1 = .returned (.bool true) ∧ w' = w))
    (O1 : Hid (∀ w, Calls Tryd.prog 13 #[.float .f64 x] w fun e1 w' => e1 = .returned (.float .f64 X) ∧ w' = w))
    (O2 : Hid (∀ w, Calls Tryd.prog 13 #[.float .f64 y] w fun e1 w' => e1 = .returned (.float .f64 Y) ∧ w' = w))
    (N0 : Hid (∀ w, Calls Tryd.prog 26 #[.float .f64 X] w fun e1 w' => e1 = .returned (.float .f64 NX) ∧ w' = w))
    (C1 : Hid (∀ w, Calls Tryd.prog 14 #[.float .f64 X] w fun e1 w' => e1 = .returned (.int .i64 c1) ∧ w' = w))
    (C2 : Hid (∀ w, Calls Tryd.prog 14 #[.float .f64 NX] w fun e1 w' => e1 = .returned (.int .i64 c2) ∧ w' = w))
    (C3 : Hid (∀ w, Calls Tryd.prog 14 #[.float .f64 Y] w fun e1 w' => e1 = .returned (.int .i64 c3) ∧ w' = w))
    (B1 : Hid (∀ w, Calls Tryd.prog 37 #[.float .f64 NX] w fun e1 w' => e1 = .returned (.float .f64 AN) ∧ w' = w))
    (B2 : Hid (∀ w, Calls Tryd.prog 37 #[.float .f64 X] w fun e1 w' => e1 = .returned (.float .f64 AX) ∧ w' = w))
    (U0 : Hid (∀ w, Calls Tryd.prog 32 #[.float .f64 X] w fun e1 w' => e1 = .returned (.tuple #[.float .f64 u, .int .i64 0]) ∧ w' = w))
    (G1 : Hid (∀ w, Calls Tryd.prog 16 #[.float .f64 X] w fun e1 w' => e1 = .returned (.bool s) ∧ w' = w))
    (G2 : Hid (∀ w, Calls Tryd.prog 16 #[.float .f64 Y] w fun e1 w' => e1 = .returned (.bool s) ∧ w' = w))
    (B3 : Hid (∀ w, Calls Tryd.prog 37 #[.float .f64 Y] w fun e1 w' => e1 = .returned (.float .f64 AY) ∧ w' = w))
    (S1 : Hid (∀ w, Calls Tryd.prog 18 #[.float .f64 X] w fun e1 w' => e1 = .returned (.tuple #[.bool s3, .int .u64 m, .int .i64 e, .int .i64 0]) ∧ w' = w))
    (S2 : Hid (∀ w, Calls Tryd.prog 18 #[.float .f64 Y] w fun e1 w' => e1 = .returned (.tuple #[.bool s4, .int .u64 n, .int .i64 (e + 1), .int .i64 0]) ∧ w' = w))
    (J0 : Hid (∀ w, Tab w → Calls Tryd.prog 20 #[.bool (!s), .int .u64 (2 * n - m), .int .i64 e] w fun e1 w' => e1 = .returned (.tuple #[.float .f64 J, .int .i64 0]) ∧ w' = w))
    (w : World) (hT : Hid (Tab w)) :
    Calls Tryd.prog 7 #[.int .u64 a, .int .u64 b] w fun e w' => e = .returned (.bool true) ∧ w' = w := by
  go_enter Tryd.func7, Tryd.ntmps7
  go_wp2_with (first | (go_at_call 8; refine (A0.out _ hT.out).mono ?_; rintro e1 w1 ⟨rfl, rfl⟩) | (go_at_call_of 13 (#[Value.float .f64 x]); refine (O1.out _).mono ?_; rintro e1 w1 ⟨rfl, rfl⟩) | (go_at_call_of 13 (#[Value.float .f64 y]); refine (O2.out _).mono ?_; rintro e1 w1 ⟨rfl, rfl⟩) | (go_at_call 26; refine (N0.out _).mono ?_; rintro e1 w1 ⟨rfl, rfl⟩) | (go_at_call_of 14 (#[Value.float .f64 X]); refine (C1.out _).mono ?_; rintro e1 w1 ⟨rfl, rfl⟩) | (go_at_call_of 14 (#[Value.float .f64 NX]); refine (C2.out _).mono ?_; rintro e1 w1 ⟨rfl, rfl⟩) | (go_at_call_of 14 (#[Value.float .f64 Y]); refine (C3.out _).mono ?_; rintro e1 w1 ⟨rfl, rfl⟩) | (go_at_call_of 37 (#[Value.float .f64 NX]); refine (B1.out _).mono ?_; rintro e1 w1 ⟨rfl, rfl⟩) | (go_at_call_of 37 (#[Value.float .f64 X]); refine (B2.out _).mono ?_; rintro e1 w1 ⟨rfl, rfl⟩) | (go_at_call 32; refine (U0.out _).mono ?_; rintro e1 w1 ⟨rfl, rfl⟩) | (go_at_call_of 16 (#[Value.float .f64 X]); refine (G1.out _).mono ?_; rintro e1 w1 ⟨rfl, rfl⟩) | (go_at_call_of 16 (#[Value.float .f64 Y]); refine (G2.out _).mono ?_; rintro e1 w1 ⟨rfl, rfl⟩) | (go_at_call_of 37 (#[Value.float .f64 Y]); refine (B3.out _).mono ?_; rintro e1 w1 ⟨rfl, rfl⟩) | (go_at_call_of 18 (#[Value.float .f64 X]); refine (S1.out _).mono ?_; rintro e1 w1 ⟨rfl, rfl⟩) | (go_at_call_of 18 (#[Value.float .f64 Y]); refine (S2.out _).mono ?_; rintro e1 w1 ⟨rfl, rfl⟩) | (go_at_call 20; refine (J0.out _ hT.out).mono ?_; rintro e1 w1 ⟨rfl, rfl⟩))
  go_ret
  exact ⟨rfl, rfl⟩

end Go.Proofs.YtokfmeainfkjfaaDoor
