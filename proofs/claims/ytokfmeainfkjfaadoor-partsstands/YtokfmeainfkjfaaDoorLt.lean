/- The law PartsStands, walked out of the contracts. -/
import Derived.Test.YtokfmeainfkjfaaDoorWw
import Derived.Test.YtokfmeainfkjfaaDoorRt
import Derived.Test.YtokfmeainfkjfaaDoorRu
namespace Go.Proofs.YtokfmeainfkjfaaDoor
open Go.RowKit

set_option maxHeartbeats 1000000 in
theorem stands_core (a b : Int) (x y nx pv u : Nat) (o nz pz n r v f : Int) (s g : Bool) (hx : a.toNat = x) (hy : b.toNat = y)
    (A0 : Hid (∀ w, Tab w → Calls Tryd.prog 8 #[] w fun e w' => e = .returned (.bool true) ∧ w' = w))
    (O0 : Hid (∀ w, Calls Tryd.prog 22 #[.float .f64 x, .float .f64 y] w fun e w' => e = .returned (.int .i64 o) ∧ w' = w))
    (O1 : Hid (∀ w, Calls Tryd.prog 23 #[.int .u64 a, .int .u64 b] w fun e w' => e = .returned (.int .i64 o) ∧ w' = w))
    (S0 : Hid (∀ w, Calls Tryd.prog 24 #[.float .f64 x, .float .f64 y] w fun e w' => e = .returned (.bool s) ∧ w' = w))
    (S1 : Hid (∀ w, Calls Tryd.prog 25 #[.int .u64 a, .int .u64 b] w fun e w' => e = .returned (.bool s) ∧ w' = w))
    (N0 : Hid (∀ w, Calls Tryd.prog 26 #[.float .f64 x] w fun e w' => e = .returned (.float .f64 nx) ∧ w' = w))
    (N1 : Hid (∀ w, Calls Tryd.prog 27 #[.int .u64 a] w fun e w' => e = .returned (.int .u64 nz) ∧ w' = w))
    (I1 : Hid (∀ w, Calls Tryd.prog 10 #[.float .f64 nx, .int .u64 nz] w fun e w' => e = .returned (.bool true) ∧ w' = w))
    (P0 : Hid (∀ w, Calls Tryd.prog 28 #[.float .f64 x] w fun e w' => e = .returned (.float .f64 pv) ∧ w' = w))
    (P1 : Hid (∀ w, Calls Tryd.prog 29 #[.int .u64 a] w fun e w' => e = .returned (.int .u64 pz) ∧ w' = w))
    (I2 : Hid (∀ w, Calls Tryd.prog 10 #[.float .f64 pv, .int .u64 pz] w fun e w' => e = .returned (.bool true) ∧ w' = w))
    (T0 : Hid (∀ w, Calls Tryd.prog 30 #[.float .f64 x, .float .f64 y] w fun e w' => e = .returned (.tuple #[.int .i64 n, .int .i64 r]) ∧ w' = w))
    (T1 : Hid (∀ w, Calls Tryd.prog 31 #[.int .u64 a, .int .u64 b] w fun e w' => e = .returned (.tuple #[.int .i64 n, .int .i64 r]) ∧ w' = w))
    (U0 : Hid (∀ w, Calls Tryd.prog 32 #[.float .f64 x] w fun e w' => e = .returned (.tuple #[.float .f64 u, .int .i64 f]) ∧ w' = w))
    (U1 : Hid (∀ w, Calls Tryd.prog 33 #[.int .u64 a] w fun e w' => e = .returned (.tuple #[.int .u64 v, .int .i64 f]) ∧ w' = w))
    (I3 : Hid (∀ w, Calls Tryd.prog 10 #[.float .f64 u, .int .u64 v] w fun e w' => e = .returned (.bool true) ∧ w' = w))
    (G0 : Hid (∀ w, Tab w → Calls Tryd.prog 34 #[.float .f64 x] w fun e w' => e = .returned (.bool g) ∧ w' = w))
    (G1 : Hid (∀ w, Calls Tryd.prog 35 #[.int .u64 a] w fun e w' => e = .returned (.bool g) ∧ w' = w))
    (w : World) (hT : Hid (Tab w)) :
    Calls Tryd.prog 5 #[.int .u64 a, .int .u64 b] w fun e w' => e = .returned (.bool true) ∧ w' = w := by
  go_enter Tryd.func5, Tryd.ntmps5
  go_wp2_with (first | (go_at_call 8; refine (A0.out _ hT.out).mono ?_; rintro e1 w1 ⟨rfl, rfl⟩) | (go_at_call 22; refine (O0.out _).mono ?_; rintro e1 w1 ⟨rfl, rfl⟩) | (go_at_call 23; refine (O1.out _).mono ?_; rintro e1 w1 ⟨rfl, rfl⟩) | (go_at_call 24; refine (S0.out _).mono ?_; rintro e1 w1 ⟨rfl, rfl⟩) | (go_at_call 25; refine (S1.out _).mono ?_; rintro e1 w1 ⟨rfl, rfl⟩) | (go_at_call 26; refine (N0.out _).mono ?_; rintro e1 w1 ⟨rfl, rfl⟩) | (go_at_call 27; refine (N1.out _).mono ?_; rintro e1 w1 ⟨rfl, rfl⟩; go_wp2_with fail; refine (I1.out _).mono ?_; rintro e1 w2 ⟨rfl, rfl⟩) | (go_at_call 28; refine (P0.out _).mono ?_; rintro e1 w1 ⟨rfl, rfl⟩) | (go_at_call 29; refine (P1.out _).mono ?_; rintro e1 w1 ⟨rfl, rfl⟩; go_wp2_with fail; refine (I2.out _).mono ?_; rintro e1 w2 ⟨rfl, rfl⟩) | (go_at_call 30; refine (T0.out _).mono ?_; rintro e1 w1 ⟨rfl, rfl⟩) | (go_at_call 31; refine (T1.out _).mono ?_; rintro e1 w1 ⟨rfl, rfl⟩) | (go_at_call 32; refine (U0.out _).mono ?_; rintro e1 w1 ⟨rfl, rfl⟩) | (go_at_call 33; refine (U1.out _).mono ?_; rintro e1 w1 ⟨rfl, rfl⟩) | (go_at_call 34; refine (G0.out _ hT.out).mono ?_; rintro e1 w1 ⟨rfl, rfl⟩) | (go_at_call 35; refine (G1.out _).mono ?_; rintro e1 w1 ⟨rfl, rfl⟩) | (go_at_call 10; refine (I3.out _).mono ?_; rintro e1 w1 ⟨rfl, rfl⟩))
  go_ret
  exact ⟨rfl, rfl⟩

theorem stands_walk (a b : Int) (h0 : Hid (0 ≤ a)) (h1 : Hid (a < 18446744073709551616)) (g0 : Hid (0 ≤ b)) (g1 : Hid (b < 18446744073709551616)) (w : World) (hT : Hid (Tab w)) :
    Calls Tryd.prog 5 #[.int .u64 a, .int .u64 b] w fun e w' => e = .returned (.bool true) ∧ w' = w := by
  have ha : a.toNat < 18446744073709551616 := by have := h0.out; have := h1.out; omega
  have hb : b.toNat < 18446744073709551616 := by have := g0.out; have := g1.out; omega
  exact stands_core a b a.toNat b.toNat (nxt a.toNat) (prv a.toNat) (untW a.toNat) _ _ _ _ _ _ _ _ _ rfl rfl awake_any (order_any _ _ ha hb) (rorder_any a b h0 h1 g0 g1) (same_any _ _ ha hb) (rsame_core a b _ (rorder_any a b h0 h1 g0 g1))
    (next_any _ ha) (rnext_any a h0 h1) (is_yes _ _ rfl) (prev_any _ ha) (rprev_any a h0 h1) (is_yes _ _ rfl) (steps_any _ _ ha hb) (rsteps_any a b h0 h1 g0 g1) (unit_any _ ha) (runit_any a h0 h1) (is_yes _ _ rfl) (single_any _ ha) (rsingle_any a h0 h1) w hT
end Go.Proofs.YtokfmeainfkjfaaDoor
