/- The program's Valid, ValidArea, In, Size, sign, letter, least, greatest. -/
import Derived.Test.YtdlieecpckpemaaGreatDoorLcGa
import Derived.Deep.RegionWith
namespace Go.Proofs.YtdlieecpckpemaaGreatDoor
open Go.RowKit

set_option maxHeartbeats 1000000 in
theorem pValid_at (c r : Int) (w : World) :
    Calls Tryz.prog 64 #[.agg #[.int .i64 c, .int .i64 r]] w fun e w' => e = .returned (.bool (vC c r)) ∧ w' = w.alloc (.cells #[.int .i64 c, .int .i64 r] 29) := by
  have hV : Hid (vC c r = (decide (1 ≤ c) && decide (c ≤ 256) && decide (1 ≤ r) && decide (r ≤ 4096))) := rfl
  generalize vC c r = V at *
  go_enter Tryz.func64, Tryz.ntmps64
  go_wp2
  all_goals
    go_ret
    refine ⟨rBool ?_, rfl⟩
    rw [hV.out, Bool.eq_iff_iff]
    simp only [Bool.and_eq_true, decide_eq_true_eq, Bool.false_eq_true, false_iff]
    omega

set_option maxHeartbeats 2000000 in
theorem pValidArea_any (c r d s : Int) (w : World) :
    Calls Tryz.prog 79 #[.agg #[.int .i64 c, .int .i64 r, .int .i64 d, .int .i64 s]] w fun e w' => e = .returned (.bool (vA c r d s)) ∧ Gr w w' := by
  have H1 : Hid (∀ w, Calls Tryz.prog 64 #[.agg #[.int .i64 c, .int .i64 r]] w fun e w' => e = .returned (.bool (vC c r)) ∧ w' = w.alloc (.cells #[.int .i64 c, .int .i64 r] 29)) := pValid_at c r
  have H2 : Hid (∀ w, Calls Tryz.prog 64 #[.agg #[.int .i64 d, .int .i64 s]] w fun e w' => e = .returned (.bool (vC d s)) ∧ w' = w.alloc (.cells #[.int .i64 d, .int .i64 s] 29)) := pValid_at d s
  have hV : Hid (vA c r d s = (vC c r && vC d s && decide (c ≤ d) && decide (r ≤ s))) := rfl
  have G2 : Hid (∀ a b t u, Gr w ((w.alloc (.cells a t)).alloc (.cells b u))) := fun a b t u => ((Gr.refl w).alloc _ _).alloc _ _
  have G3 : Hid (∀ a b d t u v, Gr w (((w.alloc (.cells a t)).alloc (.cells b u)).alloc (.cells d v))) := fun a b d t u v => (((Gr.refl w).alloc _ _).alloc _ _).alloc _ _
  generalize vA c r d s = V at *
  generalize vC c r = p at *
  generalize vC d s = q at *
  cases p
  · go_enter Tryz.func79, Tryz.ntmps79
    go_wp2_with fail
    refine (H1.out _).mono ?_
    rintro e w' ⟨rfl, rfl⟩
    go_wp2_with fail
    go_ret
    exact ⟨rBool hV.out.symm, G2.out _ _ _ _⟩
  · cases q
    · go_enter Tryz.func79, Tryz.ntmps79
      go_wp2_with fail
      refine (H1.out _).mono ?_
      rintro e w' ⟨rfl, rfl⟩
      go_wp2_with fail
      refine (H2.out _).mono ?_
      rintro e w' ⟨rfl, rfl⟩
      go_wp2_with fail
      go_ret
      exact ⟨rBool hV.out.symm, G3.out _ _ _ _ _ _⟩
    · go_enter Tryz.func79, Tryz.ntmps79
      go_wp2_with fail
      refine (H1.out _).mono ?_
      rintro e w' ⟨rfl, rfl⟩
      go_wp2_with fail
      refine (H2.out _).mono ?_
      rintro e w' ⟨rfl, rfl⟩
      go_wp2_with fail
      all_goals
        go_ret
        refine ⟨rBool ?_, G3.out _ _ _ _ _ _⟩
        rw [hV.out]
        clear H1 H2 hV G2 G3
        (try simp_all) <;> (try omega)

set_option maxHeartbeats 2000000 in
theorem pIn_any (c r d s x y : Int) (w : World) :
    Calls Tryz.prog 43 #[.agg #[.int .i64 c, .int .i64 r, .int .i64 d, .int .i64 s], .agg #[.int .i64 x, .int .i64 y]] w fun e w' => e = .returned (.bool (inA c r d s x y)) ∧ Gr w w' := by
  have H1 : Hid (∀ w, Calls Tryz.prog 79 #[.agg #[.int .i64 c, .int .i64 r, .int .i64 d, .int .i64 s]] w fun e w' => e = .returned (.bool (vA c r d s)) ∧ Gr w w') := pValidArea_any c r d s
  have G : Hid (Gr w ((w.alloc (.cells #[.int .i64 c, .int .i64 r, .int .i64 d, .int .i64 s] 52)).alloc (.cells #[.int .i64 x, .int .i64 y] 29))) := ((Gr.refl w).alloc _ _).alloc _ _
  have hV : Hid (inA c r d s x y = (vA c r d s && decide (c ≤ x) && decide (x ≤ d) && decide (r ≤ y) && decide (y ≤ s))) := rfl
  generalize inA c r d s x y = V at *
  generalize vA c r d s = p at *
  go_enter Tryz.func43, Tryz.ntmps43
  go_wp2_with fail
  refine (H1.out _).mono ?_
  rintro e w1 ⟨rfl, hg⟩
  have hcell := hg.ext.cell
  have G1 : Hid (Gr w w1) := G.out.trans hg
  clear hg G
  go_wp2_with fail
  all_goals
    go_ret
    refine ⟨rBool ?_, G1.out⟩
    rw [hV.out]
    clear H1 hV G1 hcell
    cases p <;> (try simp_all) <;> (try omega)

end Go.Proofs.YtdlieecpckpemaaGreatDoor
