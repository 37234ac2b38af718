/- The contract of Join. -/
import Derived.Test.YtckjmcfncfoboaaDoorWj
namespace Go.Proofs.YtckjmcfncfoboaaDoor
open Go.RowKit

set_option maxHeartbeats 400000 in
theorem join_zero (neg : Bool) (e0 : Int) (w : World) :
    Calls Tryd.prog 52 #[.bool neg, .int .u64 0, .int .i64 e0] w fun e w' => e = .returned (.tuple #[.float .f64 (Ieee.double.word neg 0), .int .i64 0]) ∧ w' = w := by
  have h0 : Hid (0 < 9223372036854775808) := by unfold Hid; decide
  go_enter Tryd.func52, Tryd.ntmps52
  go_wp2_with (go_at_call 80; refine (signed_any neg 0 h0 _).mono ?_; rintro e w' ⟨rfl, rfl⟩)
  go_ret2
  exact ⟨rfl, rfl⟩

set_option maxHeartbeats 400000 in
theorem join_big (neg : Bool) (m e0 : Int) (hm : (m == 0) = false) (he : 1024 ≤ e0) (w : World) :
    Calls Tryd.prog 52 #[.bool neg, .int .u64 m, .int .i64 e0] w fun e w' => e = .returned (.tuple #[.float .f64 0, .int .i64 11]) ∧ w' = w := by
  go_enter Tryd.func52, Tryd.ntmps52
  go_wp2
  go_ret2
  exact ⟨rfl, rfl⟩

set_option maxHeartbeats 400000 in
theorem join_no (neg : Bool) (m e0 o : Int) (k : Nat) (hm : (m == 0) = false) (he : e0 < 1024)
    (C1 : Hid (∀ w, Tab w → Calls Tryd.prog 81 #[.int .u64 m, .int .i64 e0] w fun e w' => e = .returned (.tuple #[.int .u64 o, .int .i64 (e0 + k)]) ∧ w' = w))
    (C2 : Hid (∀ w, Calls Tryd.prog 82 #[.int .u64 o, .int .i64 (e0 + k), .int .i64 53, .int .i64 (-1074), .int .i64 1024] w fun e w' => e = .returned (.bool false) ∧ w' = w))
    (w : World) (hT : Hid (Tab w)) :
    Calls Tryd.prog 52 #[.bool neg, .int .u64 m, .int .i64 e0] w fun e w' => e = .returned (.tuple #[.float .f64 0, .int .i64 11]) ∧ w' = w := by
  go_enter Tryd.func52, Tryd.ntmps52
  go_wp2_with (first | (go_at_call 81; refine (C1.out _ hT.out).mono ?_; rintro e w' ⟨rfl, rfl⟩) | (go_at_call 82; refine (C2.out _).mono ?_; rintro e w' ⟨rfl, rfl⟩))
  go_ret2
  exact ⟨rfl, rfl⟩

set_option maxHeartbeats 400000 in
theorem join_yes (neg : Bool) (m e0 o : Int) (k r f q : Nat) (hm : (m == 0) = false) (he : e0 < 1024)
    (C1 : Hid (∀ w, Tab w → Calls Tryd.prog 81 #[.int .u64 m, .int .i64 e0] w fun e w' => e = .returned (.tuple #[.int .u64 o, .int .i64 (e0 + k)]) ∧ w' = w))
    (C2 : Hid (∀ w, Calls Tryd.prog 82 #[.int .u64 o, .int .i64 (e0 + k), .int .i64 53, .int .i64 (-1074), .int .i64 1024] w fun e w' => e = .returned (.bool true) ∧ w' = w))
    (C3 : Hid (∀ w, Calls Tryd.prog 83 #[.int .i64 (e0 + k)] w fun e w' => e = .returned (.float .f64 f) ∧ w' = w))
    (C4 : ∀ w, (binOp .mul 32 (.float .f64 (floatOfInt .f64 o)) (.float .f64 f)).run Tryd.prog w = .ok (.float .f64 r) w)
    (C5 : Hid (∀ w, Calls Tryd.prog 80 #[.bool neg, .float .f64 r] w fun e w' => e = .returned (.float .f64 q) ∧ w' = w))
    (w : World) (hT : Hid (Tab w)) :
    Calls Tryd.prog 52 #[.bool neg, .int .u64 m, .int .i64 e0] w fun e w' => e = .returned (.tuple #[.float .f64 q, .int .i64 0]) ∧ w' = w := by
  go_enter Tryd.func52, Tryd.ntmps52
  go_wp2_with (first | (go_at_call 81; refine (C1.out _ hT.out).mono ?_; rintro e w' ⟨rfl, rfl⟩) | (go_at_call 82; refine (C2.out _).mono ?_; rintro e w' ⟨rfl, rfl⟩) | (go_at_call 83; refine (C3.out _).mono ?_; rintro e w' ⟨rfl, rfl⟩) | (go_at_call 80; refine (C5.out _).mono ?_; rintro e w' ⟨rfl, rfl⟩))
  go_ret2
  exact ⟨rfl, rfl⟩

theorem join_any (neg : Bool) (m e0 : Int) (h0 : 0 ≤ m) (h1 : m < 18446744073709551616) (he0 : -9223372036854775808 ≤ e0) (w : World) (hT : Hid (Tab w)) :
    Calls Tryd.prog 52 #[.bool neg, .int .u64 m, .int .i64 e0] w fun e w' => e = .returned (.tuple #[.float .f64 (joinW neg m e0), .int .i64 (joinR m e0)]) ∧ w' = w := by
  unfold joinW joinR
  by_cases hm : m = 0
  · subst hm
    rw [if_pos rfl, if_pos rfl]
    exact join_zero neg e0 w
  · rw [if_neg hm, if_neg hm]
    have hm' : (m == 0) = false := by simpa using hm
    by_cases he : 1024 ≤ e0
    · rw [join_far m e0 he]
      exact join_big neg m e0 hm' he w
    · obtain ⟨hk, ho, _, _, hol⟩ := odd_facts m (by omega) h1
      obtain ⟨hb, hbl⟩ := oddM_log m (by omega) h1
      have hp := Fl.mul_fit (s := false) (t := false) (m := oddM m) (n := 1) (p := 0) (q := oddE m e0)
      have c1 : ∀ w, Tab w → Calls Tryd.prog 81 #[.int .u64 m, .int .i64 e0] w fun e w' => e = .returned (.tuple #[.int .u64 (oddM m), .int .i64 (oddE m e0)]) ∧ w' = w := fun w hT => by
        have := odd_any m e0 _ (by omega) h1 hk rfl he0 (by omega) w hT
        rwa [← ho] at this
      have c2 : ∀ w, Calls Tryd.prog 82 #[.int .u64 (oddM m), .int .i64 (oddE m e0), .int .i64 53, .int .i64 (-1074), .int .i64 1024] w fun e w' => e = .returned (.bool (joinOk m e0)) ∧ w' = w := fun w =>
        holds_any (oddM m) (oddE m e0) 53 (-1074) 1024 _ (by omega) (by omega) (by rw [← ho, Int.toNat_natCast] at hb; rw [Int.toNat_natCast]; exact hb) (by omega) (by omega) (by unfold oddE; omega) (by unfold oddE; omega) w
      cases hj : joinOk m e0
      · rw [hj] at c2
        exact join_no neg m e0 (oddM m) (Lib.ctz 64 m.toNat) hm' (by omega) c1 c2 w hT
      · rw [hj] at c2
        obtain ⟨f1, f2, b1, b2⟩ := join_fits m e0 (by omega) h1 hj
        have hw := Fl.word_nearest neg f1
        refine join_yes neg m e0 (oddM m) (Lib.ctz 64 m.toNat) (Ieee.double.nearest false (oddM m) (oddE m e0)) (Fl.pw (oddE m e0)) _ hm' (by omega) c1 c2 (fun w => power_any _ b1 b2 w) (fun w => ?_) (fun w => ?_) w hT
        · have := hp f2 (Fl.fits_pow b1 b2)
          rw [Nat.mul_one, Int.zero_add] at this
          exact run_float_arith w .mul _ .f64 _ _ _ (by rw [conv_pos]; exact this)
        · have := signed_any neg _ (Nat.lt_trans hw.2 (by decide)) w
          rwa [hw.1] at this
end Go.Proofs.YtckjmcfncfoboaaDoor
