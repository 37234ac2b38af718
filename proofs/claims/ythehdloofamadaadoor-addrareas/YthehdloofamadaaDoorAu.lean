/- The document's Meet. -/
import Derived.Test.YthehdloofamadaaDoorAs
namespace Go.Proofs.YthehdloofamadaaDoor
open Go.RowKit

theorem ite_max (a b : Int) : (if a < b then b else a) = max a b := by
  split <;> omega
theorem ite_min (a b : Int) : (if b < a then b else a) = min a b := by
  split <;> omega

set_option maxHeartbeats 4000000 in
theorem rMeet_core (c r d s c' r' d' s' X Y Z W : Int) (p q o : Bool) (R : Value) (O : Bool) (w : World)
    (m1 : (if c < c' then c' else c) = X) (m2 : (if r < r' then r' else r) = Y) (m3 : (if d' < d then d' else d) = Z) (m4 : (if s' < s then s' else s) = W)
    (H1 : Hid (∀ w, Calls Tryd.prog 24 #[.agg #[.int .i64 c, .int .i64 r, .int .i64 d, .int .i64 s]] w fun e w' => e = .returned (.bool p) ∧ w' = ((w.alloc (.cells #[.int .i64 c, .int .i64 r, .int .i64 d, .int .i64 s] 38)).alloc (.cells #[.int .i64 c, .int .i64 r] 23)).alloc (.cells #[.int .i64 d, .int .i64 s] 23)))
    (H2 : Hid (∀ w, Calls Tryd.prog 24 #[.agg #[.int .i64 c', .int .i64 r', .int .i64 d', .int .i64 s']] w fun e w' => e = .returned (.bool q) ∧ w' = ((w.alloc (.cells #[.int .i64 c', .int .i64 r', .int .i64 d', .int .i64 s'] 38)).alloc (.cells #[.int .i64 c', .int .i64 r'] 23)).alloc (.cells #[.int .i64 d', .int .i64 s'] 23)))
    (H3 : Hid (∀ w, Calls Tryd.prog 24 #[.agg #[.int .i64 X, .int .i64 Y, .int .i64 Z, .int .i64 W]] w fun e w' => e = .returned (.bool o) ∧ w' = ((w.alloc (.cells #[.int .i64 X, .int .i64 Y, .int .i64 Z, .int .i64 W] 38)).alloc (.cells #[.int .i64 X, .int .i64 Y] 23)).alloc (.cells #[.int .i64 Z, .int .i64 W] 23)))
    (hO : Hid (O = (p && q && o))) (hR : Hid (R = if O then areaV X Y Z W else areaV 0 0 0 0)) :
    Calls Tryd.prog 34 #[.agg #[.int .i64 c, .int .i64 r, .int .i64 d, .int .i64 s], .agg #[.int .i64 c', .int .i64 r', .int .i64 d', .int .i64 s']] w fun e w' =>
      e = .returned (.tuple #[R, .bool O]) ∧ Gr w w' := by
  cases p <;> cases q <;> cases o
  case true.true.true =>
    have hO' : O = true := hO.out
    subst hO'
    have hR' : Hid (areaV X Y Z W = R) := hR.out.symm
    clear hR hO
    go_enter Tryd.func34, Tryd.ntmps34
    go_wp2_with fail
    refine (H1.out _).mono ?_
    rintro e w' ⟨rfl, rfl⟩
    go_wp2_with fail
    refine (H2.out _).mono ?_
    rintro e w' ⟨rfl, rfl⟩
    go_wp2_with fail
    refine (H3.out _).mono ?_
    rintro e w' ⟨rfl, rfl⟩
    go_wp2_with fail
    refine bodyPost_ret (v := .tuple #[.agg #[.int .i64 X, .int .i64 Y, .int .i64 Z, .int .i64 W], .bool true]) (by simp [results, Tryd.results34, go_sem]) rfl ?_
    refine ⟨rTwo hR'.out rfl, ?_⟩
    repeat (first | exact Gr.refl _ | refine Gr.alloc ?_ _ _)
  all_goals
    have hO' : O = false := hO.out
    subst hO'
    have hR' : Hid (areaV 0 0 0 0 = R) := hR.out.symm
    clear hR hO
    go_enter Tryd.func34, Tryd.ntmps34
    go_wp2_with fail
    refine (H1.out _).mono ?_
    rintro e w' ⟨rfl, rfl⟩
    go_wp2_with fail
    refine (H2.out _).mono ?_
    rintro e w' ⟨rfl, rfl⟩
    go_wp2_with fail
    refine (H3.out _).mono ?_
    rintro e w' ⟨rfl, rfl⟩
    go_wp2_with fail
    refine bodyPost_ret (v := .tuple #[.agg #[.int .i64 0, .int .i64 0, .int .i64 0, .int .i64 0], .bool false]) (by simp [results, Tryd.results34, go_sem]) rfl ?_
    refine ⟨rTwo hR'.out rfl, ?_⟩
    repeat (first | exact Gr.refl _ | refine Gr.alloc ?_ _ _)
theorem rMeet_any (c r d s c' r' d' s' : Int) (w : World) :
    Calls Tryd.prog 34 #[.agg #[.int .i64 c, .int .i64 r, .int .i64 d, .int .i64 s], .agg #[.int .i64 c', .int .i64 r', .int .i64 d', .int .i64 s']] w fun e w' =>
      e = .returned (.tuple #[mtV c r d s c' r' d' s', .bool (mtO c r d s c' r' d' s')]) ∧ Gr w w' :=
  rMeet_core c r d s c' r' d' s' (max c c') (max r r') (min d d') (min s s') (vA c r d s) (vA c' r' d' s') (vA (max c c') (max r r') (min d d') (min s s')) _ _ w
    (ite_max c c') (ite_max r r') (ite_min d d') (ite_min s s') (rValidArea_at _ _ _ _) (rValidArea_at _ _ _ _) (rValidArea_at _ _ _ _) rfl rfl
end Go.Proofs.YthehdloofamadaaDoor
