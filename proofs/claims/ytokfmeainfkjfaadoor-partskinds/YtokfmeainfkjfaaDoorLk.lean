/- The law PartsKinds, walked out of the contracts. -/
import Derived.Test.YtokfmeainfkjfaaDoorWw
import Derived.Test.YtokfmeainfkjfaaDoorWr
namespace Go.Proofs.YtokfmeainfkjfaaDoor
open Go.RowKit

set_option maxHeartbeats 400000 in
theorem kinds_core (a : Int) (x o : Nat) (oz c m e f : Int) (n s : Bool) (hx : a.toNat = x)
    (A0 : Hid (∀ w, Tab w → Calls Tryd.prog 8 #[] w fun e w' => e = .returned (.bool true) ∧ w' = w))
    (N0 : Hid (∀ w, Calls Tryd.prog 11 #[] w fun e w' => e = .returned (.float .f64 9221120237041090560) ∧ w' = w))
    (N1 : Hid (∀ w, Calls Tryd.prog 12 #[.int .u64 9218868437227405313] w fun e w' => e = .returned (.int .u64 9221120237041090560) ∧ w' = w))
    (I1 : Hid (∀ w, Calls Tryd.prog 10 #[.float .f64 9221120237041090560, .int .u64 9221120237041090560] w fun e w' => e = .returned (.bool true) ∧ w' = w))
    (O0 : Hid (∀ w, Calls Tryd.prog 13 #[.float .f64 x] w fun e w' => e = .returned (.float .f64 o) ∧ w' = w))
    (O1 : Hid (∀ w, Calls Tryd.prog 12 #[.int .u64 a] w fun e w' => e = .returned (.int .u64 oz) ∧ w' = w))
    (I2 : Hid (∀ w, Calls Tryd.prog 10 #[.float .f64 o, .int .u64 oz] w fun e w' => e = .returned (.bool true) ∧ w' = w))
    (C0 : Hid (∀ w, Calls Tryd.prog 14 #[.float .f64 x] w fun e w' => e = .returned (.int .i64 c) ∧ w' = w))
    (C1 : Hid (∀ w, Calls Tryd.prog 15 #[.int .u64 a] w fun e w' => e = .returned (.int .i64 c) ∧ w' = w))
    (G0 : Hid (∀ w, Calls Tryd.prog 16 #[.float .f64 x] w fun e w' => e = .returned (.bool n) ∧ w' = w))
    (G1 : Hid (∀ w, Calls Tryd.prog 17 #[.int .u64 a] w fun e w' => e = .returned (.bool n) ∧ w' = w))
    (S0 : Hid (∀ w, Calls Tryd.prog 18 #[.float .f64 x] w fun e1 w' => e1 = .returned (.tuple #[.bool s, .int .u64 m, .int .i64 e, .int .i64 f]) ∧ w' = w))
    (S1 : Hid (∀ w, Calls Tryd.prog 19 #[.int .u64 a] w fun e1 w' => e1 = .returned (.tuple #[.bool s, .int .u64 m, .int .i64 e, .int .i64 f]) ∧ w' = w))
    (w : World) (hT : Hid (Tab w)) :
    Calls Tryd.prog 3 #[.int .u64 a] w fun e w' => e = .returned (.bool true) ∧ w' = w := by
  go_enter Tryd.func3, Tryd.ntmps3
  go_wp2_with fail
  refine (A0.out _ hT.out).mono ?_
  rintro e1 w1 ⟨rfl, rfl⟩
  go_wp2_with fail
  refine (N0.out _).mono ?_
  rintro e1 w2 ⟨rfl, rfl⟩
  go_wp2_with fail
  refine (N1.out _).mono ?_
  rintro e1 w3 ⟨rfl, rfl⟩
  go_wp2_with fail
  refine (I1.out _).mono ?_
  rintro e1 w4 ⟨rfl, rfl⟩
  go_wp2_with (first | (go_at_call 13; refine (O0.out _).mono ?_; rintro e1 w5 ⟨rfl, rfl⟩) | (go_at_call 12; refine (O1.out _).mono ?_; rintro e1 w5 ⟨rfl, rfl⟩) | (go_at_call 10; refine (I2.out _).mono ?_; rintro e1 w5 ⟨rfl, rfl⟩) | (go_at_call 14; refine (C0.out _).mono ?_; rintro e1 w5 ⟨rfl, rfl⟩) | (go_at_call 15; refine (C1.out _).mono ?_; rintro e1 w5 ⟨rfl, rfl⟩) | (go_at_call 16; refine (G0.out _).mono ?_; rintro e1 w5 ⟨rfl, rfl⟩) | (go_at_call 17; refine (G1.out _).mono ?_; rintro e1 w5 ⟨rfl, rfl⟩) | (go_at_call 18; refine (S0.out _).mono ?_; rintro e1 w5 ⟨rfl, rfl⟩) | (go_at_call 19; refine (S1.out _).mono ?_; rintro e1 w5 ⟨rfl, rfl⟩))
  go_ret
  exact ⟨rfl, rfl⟩

theorem kinds_walk (a : Int) (h0 : Hid (0 ≤ a)) (h1 : Hid (a < 18446744073709551616)) (w : World) (hT : Hid (Tab w)) :
    Calls Tryd.prog 3 #[.int .u64 a] w fun e w' => e = .returned (.bool true) ∧ w' = w := by
  have hb : a.toNat < 18446744073709551616 := by have := h0.out; have := h1.out; omega
  exact kinds_core a a.toNat (one a.toNat) (one a.toNat) (cls a.toNat) (spMz a.toNat) (spE a.toNat) (spR a.toNat) (ngt a.toNat) (spN a.toNat) rfl awake_any nan_any
    (fun w => by
      have := rone_any 9218868437227405313 (by unfold Hid; decide) (by unfold Hid; decide) w
      rw [show (one (9218868437227405313 : Int).toNat : Int) = 9221120237041090560 by decide +kernel] at this
      exact this)
    (is_yes 9221120237041090560 9221120237041090560 rfl) (one_any _ hb) (rone_any a h0 h1) (is_yes _ _ rfl) (class_any _ hb) (rclass_any a h0 h1) (negative_any _ hb) (rnegative_any a h0 h1) (split_any _ hb) (rsplit_any a h0 h1) w hT
end Go.Proofs.YtokfmeainfkjfaaDoor
