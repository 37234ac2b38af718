/- awake, has, is; Add. -/
import Derived.Test.YtckjmcfncfoboaaDoorSx
namespace Go.Proofs.YtckjmcfncfoboaaDoor
open Go.RowKit
open Ieee

set_option maxHeartbeats 400000 in
theorem add_core (a b y z : Nat) (C : ∀ w, (binOp .add 25 (.float .f32 a) (.float .f32 b)).run Tryd.prog w = .ok (.float .f32 y) w)
    (H : Hid (∀ w, Calls Tryd.prog 14 #[.float .f32 y] w fun e w' => e = .returned (.float .f32 z) ∧ w' = w)) (w : World) :
    Calls Tryd.prog 23 #[.float .f32 a, .float .f32 b] w fun e w' => e = .returned (.float .f32 z) ∧ w' = w := by
  go_enter Tryd.func23, Tryd.ntmps23
  go_wp2_with (go_at_call 14; refine (H.out _).mono ?_; rintro e w' ⟨rfl, rfl⟩)
  go_ret
  exact ⟨rfl, rfl⟩

set_option maxHeartbeats 400000 in
theorem has_any (x : Nat) (b : Int) (w : World) :
    Calls Tryd.prog 11 #[.float .f32 x, .int .u32 b] w fun e w' => e = .returned (.bool ((x : Int) == b)) ∧ w' = w := by
  go_enter Tryd.func11, Tryd.ntmps11
  go_wp2
  go_ret
  exact ⟨rfl, rfl⟩
theorem has_yes (x : Nat) (b : Int) (h : (x : Int) = b) (w : World) :
    Calls Tryd.prog 11 #[.float .f32 x, .int .u32 b] w fun e w' => e = .returned (.bool true) ∧ w' = w := by
  have := has_any x b w
  rwa [show ((x : Int) == b) = true by rw [h]; exact beq_self_eq_true b] at this
set_option maxHeartbeats 400000 in
theorem is4_any (x : Nat) (b : Int) (w : World) :
    Calls Tryd.prog 15 #[.float .f64 x, .int .u64 b] w fun e w' => e = .returned (.bool ((x : Int) == b)) ∧ w' = w := by
  go_enter Tryd.func15, Tryd.ntmps15
  go_wp2
  go_ret
  exact ⟨rfl, rfl⟩
theorem is4_yes (x : Nat) (b : Int) (h : (x : Int) = b) (w : World) :
    Calls Tryd.prog 15 #[.float .f64 x, .int .u64 b] w fun e w' => e = .returned (.bool true) ∧ w' = w := by
  have := is4_any x b w
  rwa [show ((x : Int) == b) = true by rw [h]; exact beq_self_eq_true b] at this

theorem awake4_facts : (nwW 1 4591870180066957722 = 1036831949 ∧ nwI 1 4591870180066957722 = true ∧ nwO 1 4591870180066957722 = false ∧ nwU 1 4591870180066957722 = false ∧ isN 4591870180066957722 = false) ∧
    (mag 4612811918334230528 < 9218868437227405312 ∧ tiOk 2 4612811918334230528 = true ∧ tiV 2 4612811918334230528 = 3) ∧
    (siW 1 (decide ((1152921573326323713 : Int) < 0)) (1152921573326323713 : Int).natAbs = 1568669697) ∧
    (FloatKind.f32.format.order 1036831949 1036831949 = some .eq ∧ FloatKind.f32.format.order 1568669697 1568669697 = some .eq ∧ FloatKind.f32.format.order 1077936128 1077936128 = some .eq ∧ FloatKind.f64.format.order 4602678819172646912 4602678819172646912 = some .eq) ∧
    (floatBits .add .f32 1065353216 1073741824 = some 1077936128 ∧ one32 1077936128 = 1077936128) ∧ (wdW false 1056964608 = 4602678819172646912 ∧ single.word false 1056964608 = 1056964608) := by decide +kernel

set_option maxHeartbeats 2000000 in
theorem awake4_core (X : Bool)
    (H1 : Hid (∀ w, Tab w → Calls Tryd.prog 20 #[.float .f64 4591870180066957722, .int .i64 1] w fun e w' => e = .returned (.tuple #[.float .f32 1036831949, .agg #[.bool true, .bool false, .bool false], .int .i64 0]) ∧ Gr w w'))
    (H2 : Hid (∀ w, Tab w → Calls Tryd.prog 32 #[.float .f64 4612811918334230528, .int .i64 2] w fun e w' => e = .returned (.tuple #[.int .i64 3, .int .i64 0]) ∧ ∃ d, w' = w.drewN d))
    (H3 : Hid (∀ w, Tab w → Calls Tryd.prog 40 #[.int .i64 1152921573326323713, .int .i64 1] w fun e w' => e = .returned (.tuple #[.float .f32 1568669697, .agg #[.bool X, .bool false, .bool false], .int .i64 0]) ∧ Gr w w'))
    (H4 : Hid (∀ w, Calls Tryd.prog 23 #[.float .f32 1065353216, .float .f32 1073741824] w fun e w' => e = .returned (.float .f32 1077936128) ∧ w' = w))
    (H5 : Hid (∀ w, Calls Tryd.prog 16 #[.float .f32 1056964608] w fun e w' => e = .returned (.float .f64 4602678819172646912) ∧ w' = w))
    (o1 : FloatKind.f32.format.order 1036831949 1036831949 = some .eq) (o2 : FloatKind.f32.format.order 1568669697 1568669697 = some .eq) (o3 : FloatKind.f32.format.order 1077936128 1077936128 = some .eq) (o4 : FloatKind.f64.format.order 4602678819172646912 4602678819172646912 = some .eq)
    (w : World) (hT : Hid (Tab w)) :
    Calls Tryd.prog 9 #[] w fun e w' => e = .returned (.bool true) ∧ Gr w w' := by
  go_enter Tryd.func9, Tryd.ntmps9
  go_wp2_with fail
  refine (H1.out _ hT.out).mono ?_
  rintro e w1 ⟨rfl, hg⟩
  have hG1 : Hid (Gr w (w1.alloc (.cells #[.bool true, .bool false, .bool false] 36))) := hg.alloc _ _
  clear hg
  go_wp2_with fail
  refine (H2.out _ (tab_gr hT.out hG1.out)).mono ?_
  rintro e w' ⟨rfl, d, rfl⟩
  go_wp2_with fail
  refine (H3.out _ (tab_gr hT.out (hG1.out.drewN d))).mono ?_
  rintro e w2 ⟨rfl, hg2⟩
  have hG2 : Hid (Gr w (w2.alloc (.cells #[.bool X, .bool false, .bool false] 36))) := ((hG1.out.drewN d).trans hg2).alloc _ _
  obtain ⟨⟨c0, c1, c2⟩, f0, f1, f2⟩ := (((has3_new w1 (.bool true) (.bool false) (.bool false) 36).gr ((Gr.refl _).drewN d)).gr hg2).gr ((Gr.refl w2).alloc #[.bool X, .bool false, .bool false] 36)
  clear hg2 hG1
  go_wp2_with (first | (go_at_call 23; refine (H4.out _).mono ?_; rintro e w' ⟨rfl, rfl⟩) | (go_at_call 16; refine (H5.out _).mono ?_; rintro e w' ⟨rfl, rfl⟩))
  go_ret
  exact ⟨rfl, hG2.out⟩

theorem awake4_any (w : World) (hT : Tab w) :
    Calls Tryd.prog 9 #[] w fun e w' => e = .returned (.bool true) ∧ Gr w w' := by
  obtain ⟨⟨a1, a2, a3, a4, a5⟩, ⟨b1, b2, b3⟩, c1, ⟨o1, o2, o3, o4⟩, ⟨d1, d2⟩, e1, e2⟩ := awake4_facts
  refine awake4_core (frX (1152921573326323713 : Int).natAbs 24) (fun w hT => ?_) (fun w hT => ?_) (fun w hT => ?_) (fun w => ?_) (fun w => ?_) o1 o2 o3 o4 w hT
  · have := narrow_any 4591870180066957722 (by unfold Hid; decide) 1 rfl a5 w hT
    rwa [a1, a2, a3, a4] at this
  · have := toInt_any 4612811918334230528 (by unfold Hid; decide) 2 rfl b1 w hT
    rwa [b2, if_pos rfl, if_pos rfl, b3] at this
  · have := singleInt_any 1152921573326323713 1 rfl (by decide) (by decide) w hT
    rwa [c1] at this
  · refine add_core _ _ 1077936128 _ (fun w => run_float_arith w .add 25 .f32 _ _ _ d1) (fun w => ?_) w
    have := one32_any 1077936128 (by decide) w
    rwa [d2] at this
  · have := widen_any false 1056964608 (by decide) w
    rwa [e1, e2] at this
end Go.Proofs.YtckjmcfncfoboaaDoor
