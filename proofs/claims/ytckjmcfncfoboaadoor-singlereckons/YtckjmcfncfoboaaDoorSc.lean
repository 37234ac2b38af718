/- The contracts of FromInt, FromUint, SingleInt. -/
import Derived.Test.YtckjmcfncfoboaaDoorSb
namespace Go.Proofs.YtckjmcfncfoboaaDoor
open Go.RowKit

set_option maxHeartbeats 1000000 in
theorem fromInt_core (n M mode r : Int) (y : Nat) (a b c : Bool)
    (H1 : Hid (∀ w, Calls Tryd.prog 70 #[.int .i64 n] w fun e w' => e = .returned (.int .u64 M) ∧ w' = w))
    (H2 : Hid (∀ w, Tab w → Calls Tryd.prog 69 #[.bool (decide (n < 0)), .int .u64 M, .int .i64 53, .int .i64 mode] w fun e w' => e = .returned (.tuple #[.float .f64 y, .agg #[.bool a, .bool b, .bool c], .int .i64 r]) ∧ Gr w w'))
    (w : World) (hT : Hid (Tab w)) :
    Calls Tryd.prog 36 #[.int .i64 n, .int .i64 mode] w fun e w' => e = .returned (.tuple #[.float .f64 y, .agg #[.bool a, .bool b, .bool c], .int .i64 r]) ∧ Gr w w' := by
  go_enter Tryd.func36, Tryd.ntmps36
  go_wp2_with (first | (go_at_call 70; refine (H1.out _).mono ?_; rintro e w' ⟨rfl, rfl⟩))
  refine (H2.out _ (tab_gr hT.out ((Gr.refl _).alloc _ _))).mono ?_
  rintro e w1 ⟨rfl, hg⟩
  have hG : Hid (Gr w w1) := ((Gr.refl _).alloc _ _).trans hg
  obtain ⟨⟨c0, c1, c2⟩, f0, f1, f2⟩ := (has3_new w _ _ _ _).gr hg
  clear hg
  go_wp2
  refine bodyPost_ret (v := .tuple #[.float .f64 y, .agg #[.bool a, .bool b, .bool c], .int .i64 r]) (by simp [results, Tryd.results36, go_sem, *]) rfl ?_
  exact ⟨rfl, ((hG.out.setCell _ _ (Nat.le_refl _)).setCell _ _ (Nat.le_refl _)).setCell _ _ (Nat.le_refl _)⟩

set_option maxHeartbeats 1000000 in
theorem fromUint_core (n mode r : Int) (y : Nat) (a b c : Bool)
    (H2 : Hid (∀ w, Tab w → Calls Tryd.prog 69 #[.bool false, .int .u64 n, .int .i64 53, .int .i64 mode] w fun e w' => e = .returned (.tuple #[.float .f64 y, .agg #[.bool a, .bool b, .bool c], .int .i64 r]) ∧ Gr w w'))
    (w : World) (hT : Hid (Tab w)) :
    Calls Tryd.prog 38 #[.int .u64 n, .int .i64 mode] w fun e w' => e = .returned (.tuple #[.float .f64 y, .agg #[.bool a, .bool b, .bool c], .int .i64 r]) ∧ Gr w w' := by
  go_enter Tryd.func38, Tryd.ntmps38
  go_wp2_with fail
  refine (H2.out _ (tab_gr hT.out ((Gr.refl _).alloc _ _))).mono ?_
  rintro e w1 ⟨rfl, hg⟩
  have hG : Hid (Gr w w1) := ((Gr.refl _).alloc _ _).trans hg
  obtain ⟨⟨c0, c1, c2⟩, f0, f1, f2⟩ := (has3_new w _ _ _ _).gr hg
  clear hg
  go_wp2
  refine bodyPost_ret (v := .tuple #[.float .f64 y, .agg #[.bool a, .bool b, .bool c], .int .i64 r]) (by simp [results, Tryd.results38, go_sem, *]) rfl ?_
  exact ⟨rfl, ((hG.out.setCell _ _ (Nat.le_refl _)).setCell _ _ (Nat.le_refl _)).setCell _ _ (Nat.le_refl _)⟩

set_option maxHeartbeats 1000000 in
theorem singleInt_core (n M mode r : Int) (y z : Nat) (a b c : Bool)
    (H1 : Hid (∀ w, Calls Tryd.prog 70 #[.int .i64 n] w fun e w' => e = .returned (.int .u64 M) ∧ w' = w))
    (H2 : Hid (∀ w, Tab w → Calls Tryd.prog 69 #[.bool (decide (n < 0)), .int .u64 M, .int .i64 24, .int .i64 mode] w fun e w' => e = .returned (.tuple #[.float .f64 y, .agg #[.bool a, .bool b, .bool c], .int .i64 r]) ∧ Gr w w'))
    (C : ∀ w, (convert 32 25 (.float .f64 y)).run Tryd.prog w = .ok (.float .f32 z) w)
    (w : World) (hT : Hid (Tab w)) :
    Calls Tryd.prog 40 #[.int .i64 n, .int .i64 mode] w fun e w' => e = .returned (.tuple #[.float .f32 z, .agg #[.bool a, .bool b, .bool c], .int .i64 r]) ∧ Gr w w' := by
  go_enter Tryd.func40, Tryd.ntmps40
  go_wp2_with (first | (go_at_call 70; refine (H1.out _).mono ?_; rintro e w' ⟨rfl, rfl⟩))
  refine (H2.out _ (tab_gr hT.out ((Gr.refl _).alloc _ _))).mono ?_
  rintro e w1 ⟨rfl, hg⟩
  have hG : Hid (Gr w w1) := ((Gr.refl _).alloc _ _).trans hg
  obtain ⟨⟨c0, c1, c2⟩, f0, f1, f2⟩ := ((has3_new w _ _ _ _).gr hg).gr ((Gr.refl w1).alloc #[.bool a, .bool b, .bool c] 36)
  clear hg
  go_wp2
  go_region
  go_wp2
  refine bodyPost_ret (v := .tuple #[.float .f32 z, .agg #[.bool a, .bool b, .bool c], .int .i64 r]) (by simp [results, Tryd.results40, go_sem, *]) rfl ?_
  exact ⟨rfl, ((((hG.out.alloc _ _).setCell _ _ (Nat.le_refl _)).setCell _ _ (Nat.le_refl _)).setCell _ _ (Nat.le_refl _)).drew⟩
end Go.Proofs.YtckjmcfncfoboaaDoor
