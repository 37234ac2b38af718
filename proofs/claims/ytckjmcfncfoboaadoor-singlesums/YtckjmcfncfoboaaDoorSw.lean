/- Whole, ToInt, ToUint: their ways. -/
import Derived.Test.YtckjmcfncfoboaaDoorSo
namespace Go.Proofs.YtckjmcfncfoboaaDoor
open Go.RowKit
open Ieee

set_option maxHeartbeats 1000000 in
theorem whole_bad (x : Nat) (mode : Int)
    (H0 : Hid (∀ w, Calls Tryd.prog 47 #[.int .i64 mode] w fun e w' => e = .returned (.bool false) ∧ w' = w)) (w : World) :
    Calls Tryd.prog 30 #[.float .f64 x, .int .i64 mode] w fun e w' => e = .returned (.tuple #[.float .f64 0, .int .i64 1]) ∧ w' = w := by
  go_enter Tryd.func30, Tryd.ntmps30
  go_wp2_with (first | (go_at_call 47; refine (H0.out _).mono ?_; rintro e w' ⟨rfl, rfl⟩))
  go_ret2
  exact ⟨rfl, rfl⟩
set_option maxHeartbeats 1000000 in
theorem whole_nan (x : Nat) (mode : Int)
    (H0 : Hid (∀ w, Calls Tryd.prog 47 #[.int .i64 mode] w fun e w' => e = .returned (.bool true) ∧ w' = w))
    (H1 : Hid (∀ w, Calls Tryd.prog 66 #[.float .f64 x] w fun e w' => e = .returned (.int .i64 1) ∧ w' = w)) (w : World) :
    Calls Tryd.prog 30 #[.float .f64 x, .int .i64 mode] w fun e w' => e = .returned (.tuple #[.float .f64 0, .int .i64 10]) ∧ w' = w := by
  go_enter Tryd.func30, Tryd.ntmps30
  go_wp2_with (first | (go_at_call 47; refine (H0.out _).mono ?_; rintro e w' ⟨rfl, rfl⟩) | (go_at_call 66; refine (H1.out _).mono ?_; rintro e w' ⟨rfl, rfl⟩))
  go_ret2
  exact ⟨rfl, rfl⟩
set_option maxHeartbeats 1000000 in
theorem whole_inf (x : Nat) (mode : Int)
    (H0 : Hid (∀ w, Calls Tryd.prog 47 #[.int .i64 mode] w fun e w' => e = .returned (.bool true) ∧ w' = w))
    (H1 : Hid (∀ w, Calls Tryd.prog 66 #[.float .f64 x] w fun e w' => e = .returned (.int .i64 2) ∧ w' = w)) (w : World) :
    Calls Tryd.prog 30 #[.float .f64 x, .int .i64 mode] w fun e w' => e = .returned (.tuple #[.float .f64 x, .int .i64 0]) ∧ w' = w := by
  go_enter Tryd.func30, Tryd.ntmps30
  go_wp2_with (first | (go_at_call 47; refine (H0.out _).mono ?_; rintro e w' ⟨rfl, rfl⟩) | (go_at_call 66; refine (H1.out _).mono ?_; rintro e w' ⟨rfl, rfl⟩))
  go_ret2
  exact ⟨rfl, rfl⟩
set_option maxHeartbeats 1000000 in
theorem whole_fin (x y : Nat) (mode c M E L F r s : Int) (neg X : Bool) (hc1 : (c == 1) = false) (hc2 : (c == 2) = false) (hE0 : -1074 ≤ E) (hE1 : E ≤ 971) (hL : (L = E ∧ 0 ≤ E) ∨ (E < 0 ∧ L = 0))
    (H0 : Hid (∀ w, Calls Tryd.prog 47 #[.int .i64 mode] w fun e w' => e = .returned (.bool true) ∧ w' = w))
    (H1 : Hid (∀ w, Calls Tryd.prog 66 #[.float .f64 x] w fun e w' => e = .returned (.int .i64 c) ∧ w' = w))
    (H2 : Hid (∀ w, Calls Tryd.prog 48 #[.float .f64 x] w fun e w' => e = .returned (.tuple #[.bool neg, .int .u64 M, .int .i64 E, .int .i64 s]) ∧ w' = w))
    (H3 : Hid (∀ w, Calls Tryd.prog 50 #[.bool neg, .int .u64 M, .int .i64 (L - E), .int .i64 mode] w fun e w' => e = .returned (.tuple #[.int .u64 F, .bool X]) ∧ ∃ d, w' = w.drewN d))
    (H4 : Hid (∀ w, Tab w → Calls Tryd.prog 52 #[.bool neg, .int .u64 F, .int .i64 L] w fun e w' => e = .returned (.tuple #[.float .f64 y, .int .i64 r]) ∧ w' = w))
    (w : World) (hT : Hid (Tab w)) :
    Calls Tryd.prog 30 #[.float .f64 x, .int .i64 mode] w fun e w' => e = .returned (.tuple #[.float .f64 y, .int .i64 r]) ∧ ∃ d, w' = w.drewN d := by
  rcases hL with ⟨rfl, hL⟩ | ⟨hL, rfl⟩
  · have H3' : Hid (∀ w, Calls Tryd.prog 50 #[.bool neg, .int .u64 M, .int .i64 0, .int .i64 mode] w fun e w' => e = .returned (.tuple #[.int .u64 F, .bool X]) ∧ ∃ d, w' = w.drewN d) := by
      have := H3.out
      rwa [Int.sub_self] at this
    clear H3
    go_enter Tryd.func30, Tryd.ntmps30
    go_wp2_with (first | (go_at_call 47; refine (H0.out _).mono ?_; rintro e w' ⟨rfl, rfl⟩) | (go_at_call 66; refine (H1.out _).mono ?_; rintro e w' ⟨rfl, rfl⟩) | (go_at_call 48; refine (H2.out _).mono ?_; rintro e w' ⟨rfl, rfl⟩) | (go_at_call 50; refine (H3'.out _).mono ?_; rintro e w' ⟨rfl, d, rfl⟩) | (go_at_call 52; refine (H4.out _ (tab_drewN hT.out _)).mono ?_; rintro e w' ⟨rfl, rfl⟩))
    go_ret2
    exact ⟨rfl, _, rfl⟩
  · have H3' : Hid (∀ w, Calls Tryd.prog 50 #[.bool neg, .int .u64 M, .int .i64 (-E), .int .i64 mode] w fun e w' => e = .returned (.tuple #[.int .u64 F, .bool X]) ∧ ∃ d, w' = w.drewN d) := by
      have := H3.out
      rwa [Int.zero_sub] at this
    clear H3
    go_enter Tryd.func30, Tryd.ntmps30
    go_wp2_with (first | (go_at_call 47; refine (H0.out _).mono ?_; rintro e w' ⟨rfl, rfl⟩) | (go_at_call 66; refine (H1.out _).mono ?_; rintro e w' ⟨rfl, rfl⟩) | (go_at_call 48; refine (H2.out _).mono ?_; rintro e w' ⟨rfl, rfl⟩) | (go_at_call 50; refine (H3'.out _).mono ?_; rintro e w' ⟨rfl, d, rfl⟩) | (go_at_call 52; refine (H4.out _ (tab_drewN hT.out _)).mono ?_; rintro e w' ⟨rfl, rfl⟩))
    go_ret2
    exact ⟨rfl, _, rfl⟩


set_option maxHeartbeats 1000000 in
theorem toInt_err (x y : Nat) (mode r : Int) (hr : (r != 0) = true)
    (H : Hid (∀ w, Tab w → Calls Tryd.prog 30 #[.float .f64 x, .int .i64 mode] w fun e w' => e = .returned (.tuple #[.float .f64 y, .int .i64 r]) ∧ ∃ d, w' = w.drewN d)) (w : World) (hT : Hid (Tab w)) :
    Calls Tryd.prog 32 #[.float .f64 x, .int .i64 mode] w fun e w' => e = .returned (.tuple #[.int .i64 0, .int .i64 r]) ∧ ∃ d, w' = w.drewN d := by
  go_enter Tryd.func32, Tryd.ntmps32
  go_wp2_with (first | (go_at_call 30; refine (H.out _ hT.out).mono ?_; rintro e w' ⟨rfl, d, rfl⟩))
  go_ret2
  exact ⟨rfl, _, rfl⟩
set_option maxHeartbeats 1000000 in
theorem toInt_far (x y : Nat) (mode : Int) (lo hi : Ordering) (hfar : lo = .lt ∨ hi = .gt ∨ hi = .eq)
    (h1 : FloatKind.f64.format.order y 14114281232179134464 = some lo) (h2 : FloatKind.f64.format.order y 4890909195324358656 = some hi)
    (H : Hid (∀ w, Tab w → Calls Tryd.prog 30 #[.float .f64 x, .int .i64 mode] w fun e w' => e = .returned (.tuple #[.float .f64 y, .int .i64 0]) ∧ ∃ d, w' = w.drewN d)) (w : World) (hT : Hid (Tab w)) :
    Calls Tryd.prog 32 #[.float .f64 x, .int .i64 mode] w fun e w' => e = .returned (.tuple #[.int .i64 0, .int .i64 11]) ∧ ∃ d, w' = w.drewN d := by
  cases lo <;> cases hi <;> first | (exfalso; simp at hfar; done) | clear hfar
  all_goals
    go_enter Tryd.func32, Tryd.ntmps32
    go_wp2_with (first | (go_at_call 30; refine (H.out _ hT.out).mono ?_; rintro e w' ⟨rfl, d, rfl⟩))
    go_ret2
    exact ⟨rfl, _, rfl⟩
set_option maxHeartbeats 1000000 in
theorem toInt_near (x y : Nat) (mode n : Int) (lo : Ordering) (hnear : lo ≠ .lt)
    (h1 : FloatKind.f64.format.order y 14114281232179134464 = some lo) (h2 : FloatKind.f64.format.order y 4890909195324358656 = some .lt)
    (C : ∀ w, (convert 32 2 (.float .f64 y)).run Tryd.prog w = .ok (.int .i64 n) w)
    (H : Hid (∀ w, Tab w → Calls Tryd.prog 30 #[.float .f64 x, .int .i64 mode] w fun e w' => e = .returned (.tuple #[.float .f64 y, .int .i64 0]) ∧ ∃ d, w' = w.drewN d)) (w : World) (hT : Hid (Tab w)) :
    Calls Tryd.prog 32 #[.float .f64 x, .int .i64 mode] w fun e w' => e = .returned (.tuple #[.int .i64 n, .int .i64 0]) ∧ ∃ d, w' = w.drewN d := by
  cases lo <;> first | (exfalso; exact hnear rfl) | clear hnear
  all_goals
    go_enter Tryd.func32, Tryd.ntmps32
    go_wp2_with (first | (go_at_call 30; refine (H.out _ hT.out).mono ?_; rintro e w' ⟨rfl, d, rfl⟩))
    go_ret2
    exact ⟨rfl, _, rfl⟩
set_option maxHeartbeats 1000000 in
theorem toUint_err (x y : Nat) (mode r : Int) (hr : (r != 0) = true)
    (H : Hid (∀ w, Tab w → Calls Tryd.prog 30 #[.float .f64 x, .int .i64 mode] w fun e w' => e = .returned (.tuple #[.float .f64 y, .int .i64 r]) ∧ ∃ d, w' = w.drewN d)) (w : World) (hT : Hid (Tab w)) :
    Calls Tryd.prog 34 #[.float .f64 x, .int .i64 mode] w fun e w' => e = .returned (.tuple #[.int .u64 0, .int .i64 r]) ∧ ∃ d, w' = w.drewN d := by
  go_enter Tryd.func34, Tryd.ntmps34
  go_wp2_with (first | (go_at_call 30; refine (H.out _ hT.out).mono ?_; rintro e w' ⟨rfl, d, rfl⟩))
  go_ret2
  exact ⟨rfl, _, rfl⟩
set_option maxHeartbeats 1000000 in
theorem toUint_far (x y : Nat) (mode : Int) (lo hi : Ordering) (hfar : lo = .lt ∨ hi = .gt ∨ hi = .eq)
    (h1 : FloatKind.f64.format.order y 0 = some lo) (h2 : FloatKind.f64.format.order y 4895412794951729152 = some hi)
    (H : Hid (∀ w, Tab w → Calls Tryd.prog 30 #[.float .f64 x, .int .i64 mode] w fun e w' => e = .returned (.tuple #[.float .f64 y, .int .i64 0]) ∧ ∃ d, w' = w.drewN d)) (w : World) (hT : Hid (Tab w)) :
    Calls Tryd.prog 34 #[.float .f64 x, .int .i64 mode] w fun e w' => e = .returned (.tuple #[.int .u64 0, .int .i64 11]) ∧ ∃ d, w' = w.drewN d := by
  cases lo <;> cases hi <;> first | (exfalso; simp at hfar; done) | clear hfar
  all_goals
    go_enter Tryd.func34, Tryd.ntmps34
    go_wp2_with (first | (go_at_call 30; refine (H.out _ hT.out).mono ?_; rintro e w' ⟨rfl, d, rfl⟩))
    go_ret2
    exact ⟨rfl, _, rfl⟩
set_option maxHeartbeats 1000000 in
theorem toUint_near (x y : Nat) (mode n : Int) (lo : Ordering) (hnear : lo ≠ .lt)
    (h1 : FloatKind.f64.format.order y 0 = some lo) (h2 : FloatKind.f64.format.order y 4895412794951729152 = some .lt)
    (C : ∀ w, (convert 32 23 (.float .f64 y)).run Tryd.prog w = .ok (.int .u64 n) w)
    (H : Hid (∀ w, Tab w → Calls Tryd.prog 30 #[.float .f64 x, .int .i64 mode] w fun e w' => e = .returned (.tuple #[.float .f64 y, .int .i64 0]) ∧ ∃ d, w' = w.drewN d)) (w : World) (hT : Hid (Tab w)) :
    Calls Tryd.prog 34 #[.float .f64 x, .int .i64 mode] w fun e w' => e = .returned (.tuple #[.int .u64 n, .int .i64 0]) ∧ ∃ d, w' = w.drewN d := by
  cases lo <;> first | (exfalso; exact hnear rfl) | clear hnear
  all_goals
    go_enter Tryd.func34, Tryd.ntmps34
    go_wp2_with (first | (go_at_call 30; refine (H.out _ hT.out).mono ?_; rintro e w' ⟨rfl, d, rfl⟩))
    go_ret2
    exact ⟨rfl, _, rfl⟩
end Go.Proofs.YtckjmcfncfoboaaDoor
