/- The contracts of what looks at a single's bits: Nan, One, Next; and of beyond, magnitude, fromWhole. -/
import Derived.Test.YtckjmcfncfoboaaDoorSa
import Derived.Test.YtckjmcfncfoboaaDoorGw
namespace Go.Proofs.YtckjmcfncfoboaaDoor
open Go.RowKit

def mag32 (b : Nat) : Nat := b % 2147483648
def sgb32 (b : Nat) : Bool := decide (2147483648 ≤ b)
def isN32 (b : Nat) : Bool := decide (2139095040 < mag32 b)
def one32 (b : Nat) : Nat := if 2139095040 < mag32 b then 2143289344 else b

theorem andNot31 (b : Nat) (h : b < 4294967296) : bits .andNot .u32 (b : Int) 2147483648 = (mag32 b : Int) := by
  have := u32_andNot_nat b 2147483648 h (by decide)
  rw [show ((2147483648 : Nat) : Int) = 2147483648 from rfl] at this
  rw [this, show 4294967295 - 2147483648 = 2147483647 from rfl, Nat.and_two_pow_sub_one_eq_mod b 31]
  rfl
theorem ret_f32 {a b : Nat} (h : a = b) : Ending.returned (.float .f32 a) = .returned (.float .f32 b) := by rw [h]
theorem f32_eq {a b : Nat} (h : a = b) : Value.float .f32 a = .float .f32 b := by rw [h]
theorem or31 (b : Nat) (h : b < 2147483648) : bits .or .u32 (b : Int) 2147483648 = ((2147483648 + b : Nat) : Int) := by
  have := u32_or_nat b 2147483648 (by omega) (by decide)
  rw [show (2147483648 : Int) = ((2147483648 : Nat) : Int) from rfl, this, Nat.or_comm, nat_join 31 _ b (by decide) (by omega)]

set_option maxHeartbeats 400000 in
theorem nan32_any (w : World) :
    Calls Tryd.prog 12 #[] w fun e w' => e = .returned (.float .f32 2143289344) ∧ w' = w := by
  go_enter Tryd.func12, Tryd.ntmps12
  go_wp2
  go_ret
  exact ⟨rfl, rfl⟩

set_option maxHeartbeats 400000 in
theorem one32_core (b : Nat) (z : Int) (hz : Hid (bits .andNot .u32 (b : Int) 2147483648 = z)) (hm : Hid ((mag32 b : Int) = z)) (w : World) :
    Calls Tryd.prog 14 #[.float .f32 b] w fun e w' => e = .returned (.float .f32 (one32 b)) ∧ w' = w := by
  go_enter Tryd.func14, Tryd.ntmps14
  go_wp2_with (first | (simp only [hz.out]) | (go_at_call 12; refine (nan32_any _).mono ?_; rintro e w' ⟨rfl, rfl⟩))
  all_goals go_ret
  all_goals refine ⟨ret_f32 ?_, rfl⟩
  · unfold one32; rw [if_pos (by have := hm.out; omega)]
  · unfold one32; rw [if_neg (by have := hm.out; omega)]
theorem one32_any (b : Nat) (hb : b < 4294967296) (w : World) :
    Calls Tryd.prog 14 #[.float .f32 b] w fun e w' => e = .returned (.float .f32 (one32 b)) ∧ w' = w :=
  one32_core b _ (andNot31 b hb) rfl w

/-- What lies beyond the greatest single. -/
def endW (mode : Int) (neg : Bool) : Nat := Ieee.single.word neg (if Rn.far mode neg then 2139095040 else 2139095039)
theorem upw_far (mode : Int) (neg : Bool) : Rn.upw mode neg true (9223372036854775809 : Int).toNat 18446744073709551616 = Rn.far mode neg := by
  rw [upw_nat _ _ _ _ (by decide)]
  unfold Rn.far
  rcases mode_cases mode with (rfl | rfl | rfl | rfl | rfl) | ⟨h4, h3, h1, h2, h6⟩
  · rfl
  · rfl
  · cases neg <;> rfl
  · cases neg <;> rfl
  · cases neg <;> rfl
  · simp only [beq_eq_false_iff_ne, ne_eq] at h1 h2 h3 h4 h6
    rw [if_neg h1, if_neg h2, if_neg h3, if_neg h4, if_neg h6, decide_eq_false h1, decide_eq_false h2, decide_eq_false h3, decide_eq_false h4]; rfl

set_option maxHeartbeats 400000 in
theorem beyond_any (neg : Bool) (mode : Int) (w : World) :
    Calls Tryd.prog 51 #[.bool neg, .int .i64 mode] w fun e w' => e = .returned (.float .f32 (endW mode neg)) ∧ w' = w := by
  have H : Hid (∀ w, Calls Tryd.prog 79 #[.int .i64 mode, .bool neg, .bool true, .int .u64 9223372036854775809] w fun e w' => e = .returned (.bool (Rn.far mode neg)) ∧ w' = w) := fun w => by
    have := onward_any mode neg true 9223372036854775809 (by unfold Hid; decide) w
    rwa [upw_far] at this
  have K1 : Hid (bits .or .u32 2139095040 2147483648 = 4286578688) := or31 2139095040 (by decide)
  have K2 : Hid (bits .or .u32 2139095039 2147483648 = 4286578687) := or31 2139095039 (by decide)
  have HE : Hid (endW mode neg = Ieee.single.word neg (if Rn.far mode neg then 2139095040 else 2139095039)) := rfl
  generalize endW mode neg = E at *
  generalize Rn.far mode neg = U at *
  cases neg <;> cases U
  all_goals
    go_enter Tryd.func51, Tryd.ntmps51
    go_wp2_with (first | (simp only [K1.out]) | (simp only [K2.out]) | (go_at_call 79; refine (H.out _).mono ?_; rintro e w' ⟨rfl, rfl⟩))
    go_ret
    exact ⟨ret_f32 HE.out.symm, rfl⟩

set_option maxHeartbeats 400000 in
theorem smagnitude_any (n : Int) (h0 : -9223372036854775808 ≤ n) (h1 : n ≤ 9223372036854775807) (w : World) :
    Calls Tryd.prog 70 #[.int .i64 n] w fun e w' => e = .returned (.int .u64 (n.natAbs : Int)) ∧ w' = w := by
  go_enter Tryd.func70, Tryd.ntmps70
  go_wp2
  all_goals go_ret
  all_goals refine ⟨ret_int ?_, rfl⟩
  · rw [IntKind.wrap_u64, IntKind.wrap_u64]; omega
  · omega

theorem fromWhole_bad (neg : Bool) (n width mode : Int)
    (H0 : Hid (∀ w, Calls Tryd.prog 47 #[.int .i64 mode] w fun e w' => e = .returned (.bool false) ∧ w' = w)) (w : World) :
    Calls Tryd.prog 69 #[.bool neg, .int .u64 n, .int .i64 width, .int .i64 mode] w fun e w' => e = .returned (.tuple #[.float .f64 0, .agg #[.bool false, .bool false, .bool false], .int .i64 1]) ∧ Gr w w' := by
  go_enter Tryd.func69, Tryd.ntmps69
  go_wp2_with (first | (go_at_call 47; refine (H0.out _).mono ?_; rintro e w' ⟨rfl, rfl⟩))
  refine bodyPost_ret (v := .tuple #[.float .f64 0, .agg #[.bool false, .bool false, .bool false], .int .i64 1]) (by simp [results, Tryd.results69, go_sem]) rfl ?_
  exact ⟨rfl, by (repeat (first | exact Gr.refl _ | refine Gr.setCell ?_ _ _ (Nat.le_refl _) | refine Gr.alloc ?_ _ _ | refine Gr.drewN ?_ _))⟩

set_option maxHeartbeats 1000000 in
theorem fromWhole_core (neg X : Bool) (n width mode l F r D : Int) (y : Nat) (hl0 : 0 ≤ l) (hl1 : l ≤ 64) (hw0 : 0 ≤ width) (hw1 : width ≤ 64) (hD : (0 ≤ D ∧ l = D + width) ∨ (l < width ∧ D = 0))
    (H0 : Hid (∀ w, Calls Tryd.prog 47 #[.int .i64 mode] w fun e w' => e = .returned (.bool true) ∧ w' = w))
    (H1 : Hid (∀ w, Calls Tryd.prog 49 #[.int .u64 n] w fun e w' => e = .returned (.int .i64 l) ∧ w' = w))
    (H2 : Hid (∀ w, Calls Tryd.prog 50 #[.bool neg, .int .u64 n, .int .i64 D, .int .i64 mode] w fun e w' => e = .returned (.tuple #[.int .u64 F, .bool X]) ∧ ∃ d, w' = w.drewN d))
    (H3 : Hid (∀ w, Tab w → Calls Tryd.prog 52 #[.bool neg, .int .u64 F, .int .i64 D] w fun e w' => e = .returned (.tuple #[.float .f64 y, .int .i64 r]) ∧ w' = w))
    (w : World) (hT : Hid (Tab w)) :
    Calls Tryd.prog 69 #[.bool neg, .int .u64 n, .int .i64 width, .int .i64 mode] w fun e w' => e = .returned (.tuple #[.float .f64 y, .agg #[.bool X, .bool false, .bool false], .int .i64 r]) ∧ Gr w w' := by
  rcases hD with ⟨hD, rfl⟩ | ⟨hD, rfl⟩
  all_goals
    go_enter Tryd.func69, Tryd.ntmps69
    go_wp2_with (first | (go_at_call 47; refine (H0.out _).mono ?_; rintro e w' ⟨rfl, rfl⟩) | (go_at_call 49; refine (H1.out _).mono ?_; rintro e w' ⟨rfl, rfl⟩) | (go_at_call 50; refine (H2.out _).mono ?_; rintro e w' ⟨rfl, d, rfl⟩) | (go_at_call 52; refine (H3.out _ (tab_gr hT.out (((Gr.refl _).alloc _ _).drewN _))).mono ?_; rintro e w' ⟨rfl, rfl⟩))
  all_goals
    refine bodyPost_ret (v := .tuple #[.float .f64 y, .agg #[.bool X, .bool false, .bool false], .int .i64 r]) (by simp [results, Tryd.results69, go_sem]) rfl ?_
    exact ⟨rfl, by (repeat (first | exact Gr.refl _ | refine Gr.setCell ?_ _ _ (Nat.le_refl _) | refine Gr.alloc ?_ _ _ | refine Gr.drewN ?_ _))⟩
end Go.Proofs.YtckjmcfncfoboaaDoor
