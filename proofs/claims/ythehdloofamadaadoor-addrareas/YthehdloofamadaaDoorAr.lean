/- The document's Valid, less, Order, ValidArea. -/
import Derived.Test.YthehdloofamadaaDoorAx
import Derived.Deep.RegionWith
namespace Go.Proofs.YthehdloofamadaaDoor
open Go.RowKit

set_option maxHeartbeats 1000000 in
theorem rValid_at (c r : Int) (w : World) :
    Calls Tryd.prog 10 #[.agg #[.int .i64 c, .int .i64 r]] w fun e w' => e = .returned (.bool (vC c r)) ∧ w' = w.alloc (.cells #[.int .i64 c, .int .i64 r] 23) := by
  have hV : Hid (vC c r = (decide (1 ≤ c) && decide (c ≤ 256) && decide (1 ≤ r) && decide (r ≤ 4096))) := rfl
  generalize vC c r = V at *
  go_enter Tryd.func10, Tryd.ntmps10
  go_wp2
  all_goals
    go_ret
    refine ⟨rBool ?_, rfl⟩
    rw [hV.out, Bool.eq_iff_iff]
    simp only [Bool.and_eq_true, decide_eq_true_eq, Bool.false_eq_true, false_iff]
    omega
theorem rValid_any (c r : Int) (w : World) :
    Calls Tryd.prog 10 #[.agg #[.int .i64 c, .int .i64 r]] w fun e w' => e = .returned (.bool (vC c r)) ∧ Gr w w' :=
  (rValid_at c r w).mono fun e w' h => ⟨h.1, by rw [h.2]; exact (Gr.refl w).alloc _ _⟩

set_option maxHeartbeats 1000000 in
theorem rless_any (a b : Int) (w : World) :
    Calls Tryd.prog 40 #[.int .i64 a, .int .i64 b] w fun e w' => e = .returned (.int .i64 (cmpI a b)) ∧ w' = w := by
  have hV : Hid (cmpI a b = if a < b then -1 else if b < a then 1 else 0) := rfl
  generalize cmpI a b = V at *
  go_enter Tryd.func40, Tryd.ntmps40
  go_wp2
  all_goals
    go_ret
    refine ⟨rInt ?_, rfl⟩
    rw [hV.out]
    repeat' split
    all_goals omega

set_option maxHeartbeats 1000000 in
theorem rOrder_any (c r d s : Int) (w : World) :
    Calls Tryd.prog 12 #[.agg #[.int .i64 c, .int .i64 r], .agg #[.int .i64 d, .int .i64 s]] w fun e w' => e = .returned (.int .i64 (ordC c r d s)) ∧ Gr w w' := by
  have G1 : Hid (Gr w ((w.alloc (.cells #[.int .i64 c, .int .i64 r] 23)).alloc (.cells #[.int .i64 d, .int .i64 s] 23))) := ((Gr.refl w).alloc _ _).alloc _ _
  have H1 : Hid (∀ w, Calls Tryd.prog 40 #[.int .i64 r, .int .i64 s] w fun e w' => e = .returned (.int .i64 (cmpI r s)) ∧ w' = w) := rless_any r s
  have H2 : Hid (∀ w, Calls Tryd.prog 40 #[.int .i64 c, .int .i64 d] w fun e w' => e = .returned (.int .i64 (cmpI c d)) ∧ w' = w) := rless_any c d
  have hV : Hid (ordC c r d s = if cmpI r s = 0 then cmpI c d else cmpI r s) := rfl
  generalize ordC c r d s = V at *
  generalize cmpI r s = p at *
  generalize cmpI c d = q at *
  go_enter Tryd.func12, Tryd.ntmps12
  go_wp2_with (first | (go_at_call_of 40 (Value.int .i64 r); refine (H1.out _).mono ?_; rintro e w' ⟨rfl, rfl⟩) | (go_at_call_of 40 (Value.int .i64 c); refine (H2.out _).mono ?_; rintro e w' ⟨rfl, rfl⟩))
  all_goals
    rename_i hp
    go_ret
    refine ⟨rInt ?_, G1.out⟩
    rw [hV.out]
    simp only [bne_iff_ne, ne_eq, bne_eq_false_iff_eq] at hp
    simp only [hp, if_true, if_false]

set_option maxHeartbeats 2000000 in
theorem rValidArea_at (c r d s : Int) (w : World) :
    Calls Tryd.prog 24 #[.agg #[.int .i64 c, .int .i64 r, .int .i64 d, .int .i64 s]] w fun e w' => e = .returned (.bool (vA c r d s)) ∧ w' = ((w.alloc (.cells #[.int .i64 c, .int .i64 r, .int .i64 d, .int .i64 s] 38)).alloc (.cells #[.int .i64 c, .int .i64 r] 23)).alloc (.cells #[.int .i64 d, .int .i64 s] 23) := by
  have H1 : Hid (∀ w, Calls Tryd.prog 10 #[.agg #[.int .i64 c, .int .i64 r]] w fun e w' => e = .returned (.bool (vC c r)) ∧ w' = w.alloc (.cells #[.int .i64 c, .int .i64 r] 23)) := rValid_at c r
  have H2 : Hid (∀ w, Calls Tryd.prog 10 #[.agg #[.int .i64 d, .int .i64 s]] w fun e w' => e = .returned (.bool (vC d s)) ∧ w' = w.alloc (.cells #[.int .i64 d, .int .i64 s] 23)) := rValid_at d s
  have hV : Hid (vA c r d s = (vC c r && vC d s && decide (c ≤ d) && decide (r ≤ s))) := rfl
  generalize vA c r d s = V at *
  generalize vC c r = p at *
  generalize vC d s = q at *
  go_enter Tryd.func24, Tryd.ntmps24
  go_wp2_with fail
  refine (H1.out _).mono ?_
  rintro e w' ⟨rfl, rfl⟩
  go_wp2_with fail
  refine (H2.out _).mono ?_
  rintro e w' ⟨rfl, rfl⟩
  go_wp2_with fail
  all_goals
    go_ret
    refine ⟨rBool ?_, rfl⟩
    rw [hV.out]
    clear H1 H2 hV
    cases p <;> cases q <;> (try simp_all) <;> (try omega)
end Go.Proofs.YthehdloofamadaaDoor
