/- The program's Meet. -/
import Derived.Test.YtdaoingmiabbcaaGreatDoorVDa
import Derived.Deep.CutRange
import Derived.Deep.DeepCutAuto
namespace Go.Proofs.YtdaoingmiabbcaaGreatDoor
open Go.RowKit

theorem Has4.skip {W : World} {b : Nat} {x y z u : Value} (h : Has4 W b x y z u) (a : Array Value) (t : TypeId) : Has4 (W.alloc (.cells a t)) b x y z u := h.gr ((Gr.refl _).alloc _ _)
theorem Has4.drew' {W : World} {b : Nat} {x y z u : Value} (h : Has4 W b x y z u) : Has4 W.drew b x y z u := h.gr ((Gr.refl _).drew)

set_option maxRecDepth 20000 in
set_option maxHeartbeats 8000000 in
theorem pMeet_any (c r d s c' r' d' s' : Int) (w : World) :
    Calls Tryz.prog 51 #[.agg #[.int .i64 c, .int .i64 r, .int .i64 d, .int .i64 s], .agg #[.int .i64 c', .int .i64 r', .int .i64 d', .int .i64 s']] w fun e w' => e = .returned (.tuple #[mtV c r d s c' r' d' s', .bool (mtO c r d s c' r' d' s')]) ∧ Gr w w' := by
  have H1 : Hid (∀ w, Calls Tryz.prog 41 #[.agg #[.int .i64 c, .int .i64 r, .int .i64 d, .int .i64 s]] w fun e w' => e = .returned (.bool (vA c r d s)) ∧ Gr w w') := pValidArea_any c r d s
  have H2 : Hid (∀ w, Calls Tryz.prog 41 #[.agg #[.int .i64 c', .int .i64 r', .int .i64 d', .int .i64 s']] w fun e w' => e = .returned (.bool (vA c' r' d' s')) ∧ Gr w w') := pValidArea_any c' r' d' s'
  have H3 : Hid (∀ w, Calls Tryz.prog 41 #[.agg #[.int .i64 (max c c'), .int .i64 (max r r'), .int .i64 (min d d'), .int .i64 (min s s')]] w fun e w' => e = .returned (.bool (vA (max c c') (max r r') (min d d') (min s s'))) ∧ Gr w w') := pValidArea_any _ _ _ _
  have H4 : Hid (∀ w, Calls Tryz.prog 74 #[.agg #[.int .i64 d, .int .i64 s], .agg #[.int .i64 d', .int .i64 s']] w fun e w' => e = .returned (.agg #[.int .i64 (min d d'), .int .i64 (min s s')]) ∧ w' = ((w.alloc (.cells #[.int .i64 d, .int .i64 s] 24)).alloc (.cells #[.int .i64 d', .int .i64 s'] 24)).alloc (.cells #[.int .i64 (min d d'), .int .i64 (min s s')] 24)) := pleast_at d s d' s'
  have H5 : Hid (∀ w, Calls Tryz.prog 73 #[.agg #[.int .i64 c, .int .i64 r], .agg #[.int .i64 c', .int .i64 r']] w fun e w' => e = .returned (.agg #[.int .i64 (max c c'), .int .i64 (max r r')]) ∧ w' = ((w.alloc (.cells #[.int .i64 c, .int .i64 r] 24)).alloc (.cells #[.int .i64 c', .int .i64 r'] 24)).alloc (.cells #[.int .i64 (max c c'), .int .i64 (max r r')] 24)) := pgreatest_at c r c' r'
  have hO : Hid (mtO c r d s c' r' d' s' = (vA c r d s && vA c' r' d' s' && vA (max c c') (max r r') (min d d') (min s s'))) := rfl
  have hR : Hid (mtV c r d s c' r' d' s' = if mtO c r d s c' r' d' s' then areaV (max c c') (max r r') (min d d') (min s s') else areaV 0 0 0 0) := rfl
  have KA : Hid (Has4 ((w.alloc (.cells #[.int .i64 c, .int .i64 r, .int .i64 d, .int .i64 s] 26))) w.heap.size (.int .i64 c) (.int .i64 r) (.int .i64 d) (.int .i64 s)) := has4_new w _ _ _ _ _
  have KB : Hid (Has4 ((w.alloc (.cells #[.int .i64 c, .int .i64 r, .int .i64 d, .int .i64 s] 26)).alloc (.cells #[.int .i64 c', .int .i64 r', .int .i64 d', .int .i64 s'] 26)) (w.heap.size + 1) (.int .i64 c') (.int .i64 r') (.int .i64 d') (.int .i64 s')) := by
    have := has4_new (w.alloc (.cells #[.int .i64 c, .int .i64 r, .int .i64 d, .int .i64 s] 26)) (.int .i64 c') (.int .i64 r') (.int .i64 d') (.int .i64 s') 26
    rw [World.size_alloc] at this
    exact this
  generalize mtV c r d s c' r' d' s' = R at *
  generalize mtO c r d s c' r' d' s' = O at *
  generalize vA (max c c') (max r r') (min d d') (min s s') = V3 at *
  generalize max c c' = A1 at *
  generalize max r r' = A2 at *
  generalize min d d' = A3 at *
  generalize min s s' = A4 at *
  generalize vA c r d s = V1 at *
  generalize vA c' r' d' s' = V2 at *
  go_enter Tryz.func51, Tryz.ntmps51
  go_upto_region 1 with fail
  go_cut [6] (fun u wx => ∃ b, u = .pointer (some ⟨b, 0, none⟩) ∧ w.heap.size + 2 < b ∧ Has4 wx w.heap.size (.int .i64 c) (.int .i64 r) (.int .i64 d) (.int .i64 s) ∧ Has4 wx (w.heap.size + 1) (.int .i64 c') (.int .i64 r') (.int .i64 d') (.int .i64 s') ∧ Has4 wx (w.heap.size + 1 + 1) (.int .i64 0) (.int .i64 0) (.int .i64 0) (.int .i64 0) ∧ Has4 wx b (.int .i64 A1) (.int .i64 A2) (.int .i64 A3) (.int .i64 A4) ∧ Gr w wx)
  case first =>
    go_region_held3 (fun w' => (w'.cell? ⟨w.heap.size, 0, none⟩ = some (.int .i64 c) ∧ w'.cell? ⟨w.heap.size, 1, none⟩ = some (.int .i64 r) ∧ w'.cell? ⟨w.heap.size, 2, none⟩ = some (.int .i64 d) ∧ w'.cell? ⟨w.heap.size, 3, none⟩ = some (.int .i64 s)) ∧ (w'.cell? ⟨w.heap.size + 1, 0, none⟩ = some (.int .i64 c') ∧ w'.cell? ⟨w.heap.size + 1, 1, none⟩ = some (.int .i64 r') ∧ w'.cell? ⟨w.heap.size + 1, 2, none⟩ = some (.int .i64 d') ∧ w'.cell? ⟨w.heap.size + 1, 3, none⟩ = some (.int .i64 s')))
      (exact ⟨keep4 KA (by repeat (first | exact Gr.refl _ | refine Gr.drew ?_ | refine Gr.alloc ?_ _ _)), keep4 KB (by repeat (first | exact Gr.refl _ | refine Gr.drew ?_ | refine Gr.alloc ?_ _ _))⟩) (first
      | (go_at_call 74; refine (H4.out _).mono ?_; rintro e w' ⟨rfl, rfl⟩)
      | (go_at_call 73; refine (H5.out _).mono ?_; rintro e w' ⟨rfl, rfl⟩))
    all_goals
      go_wp2_with fail
      go_meet
      case rel =>
        refine ⟨_, rfl, by omega, ?_, ?_, ?_, ?_, ?_⟩
        case refine_5 => repeat (first | exact Gr.refl _ | refine Gr.drew ?_ | refine Gr.alloc ?_ _ _)
        all_goals
          repeat (first | exact has4_at _ _ _ _ _ _ _ (by simp) | refine Has4.skip ?_ _ _ | refine Has4.drew' ?_)
  case rest =>
    as_aux_lemma =>
    obtain ⟨b, hs, hlt, k1, k2, k3, k4, hg⟩ := hcut
    have hs' := hs.symm
    subst hs'
    have G0 : Hid (Gr w wc) := hg
    have K1 : Hid (Has4 wc w.heap.size (.int .i64 c) (.int .i64 r) (.int .i64 d) (.int .i64 s)) := k1
    have K2 : Hid (Has4 wc (w.heap.size + 1) (.int .i64 c') (.int .i64 r') (.int .i64 d') (.int .i64 s')) := k2
    have K3 : Hid (Has4 wc (w.heap.size + 1 + 1) (.int .i64 0) (.int .i64 0) (.int .i64 0) (.int .i64 0)) := k3
    have K4 : Hid (Has4 wc b (.int .i64 A1) (.int .i64 A2) (.int .i64 A3) (.int .i64 A4)) := k4
    clear hs k1 k2 k3 k4 hg KA KB H4 H5 hlt
    obtain ⟨a0, a1, a2, a3, _, _, _, _⟩ := K1.out
    go_wp2_with fail
    clear a0 a1 a2 a3
    refine (H1.out _).mono ?_
    rintro e w1 ⟨rfl, hg⟩
    have G1 : Hid (Gr w w1) := G0.out.trans hg
    have L2 : Hid (Has4 w1 (w.heap.size + 1) (.int .i64 c') (.int .i64 r') (.int .i64 d') (.int .i64 s')) := K2.out.gr hg
    have L3 : Hid (Has4 w1 (w.heap.size + 1 + 1) (.int .i64 0) (.int .i64 0) (.int .i64 0) (.int .i64 0)) := K3.out.gr hg
    have L4 : Hid (Has4 w1 b (.int .i64 A1) (.int .i64 A2) (.int .i64 A3) (.int .i64 A4)) := K4.out.gr hg
    clear hg G0 K1 K2 K3 K4
    cases V1
    · have hO' : false = O := hO.out.symm
      subst hO'
      have hR' : Hid (areaV 0 0 0 0 = R) := hR.out.symm
      clear hO hR
      have P : Hid (Has4 _ _ _ _ _ _) := L3.out.put (.int .i64 0) (.int .i64 0) (.int .i64 0) (.int .i64 0)
      obtain ⟨z0, z1, z2, z3, y0, y1, y2, y3⟩ := L3.out
      go_wp2_with fail
      obtain ⟨d0, d1, d2, d3, _, _, _, _⟩ := P.out
      refine bodyPost_ret (v := .tuple #[.agg #[.int .i64 0, .int .i64 0, .int .i64 0, .int .i64 0], .bool false]) (by simp [results, Tryz.results51, go_sem, d0, d1, d2, d3]) rfl ?_
      exact ⟨rTwo hR'.out rfl, G1.out.put4 (by omega) _ _ _ _⟩
    · obtain ⟨a0, a1, a2, a3, _, _, _, _⟩ := L2.out
      go_wp2_with fail
      clear a0 a1 a2 a3
      refine (H2.out _).mono ?_
      rintro e w2 ⟨rfl, hg⟩
      have G2 : Hid (Gr w w2) := G1.out.trans hg
      have M3 : Hid (Has4 w2 (w.heap.size + 1 + 1) (.int .i64 0) (.int .i64 0) (.int .i64 0) (.int .i64 0)) := L3.out.gr hg
      have M4 : Hid (Has4 w2 b (.int .i64 A1) (.int .i64 A2) (.int .i64 A3) (.int .i64 A4)) := L4.out.gr hg
      clear hg G1 L2 L3 L4
      cases V2
      · have hO' : false = O := hO.out.symm
        subst hO'
        have hR' : Hid (areaV 0 0 0 0 = R) := hR.out.symm
        clear hO hR
        have P : Hid (Has4 _ _ _ _ _ _) := M3.out.put (.int .i64 0) (.int .i64 0) (.int .i64 0) (.int .i64 0)
        obtain ⟨z0, z1, z2, z3, y0, y1, y2, y3⟩ := M3.out
        go_wp2_with fail
        obtain ⟨d0, d1, d2, d3, _, _, _, _⟩ := P.out
        refine bodyPost_ret (v := .tuple #[.agg #[.int .i64 0, .int .i64 0, .int .i64 0, .int .i64 0], .bool false]) (by simp [results, Tryz.results51, go_sem, d0, d1, d2, d3]) rfl ?_
        exact ⟨rTwo hR'.out rfl, G2.out.put4 (by omega) _ _ _ _⟩
      · obtain ⟨a0, a1, a2, a3, _, _, _, _⟩ := M4.out
        go_wp2_with fail
        clear a0 a1 a2 a3
        refine (H3.out _).mono ?_
        rintro e w3 ⟨rfl, hg⟩
        have G3 : Hid (Gr w w3) := G2.out.trans hg
        have N3 : Hid (Has4 w3 (w.heap.size + 1 + 1) (.int .i64 0) (.int .i64 0) (.int .i64 0) (.int .i64 0)) := M3.out.gr hg
        have N4 : Hid (Has4 w3 b (.int .i64 A1) (.int .i64 A2) (.int .i64 A3) (.int .i64 A4)) := M4.out.gr hg
        clear hg G2 M3 M4
        cases V3
        · have hO' : false = O := hO.out.symm
          subst hO'
          have hR' : Hid (areaV 0 0 0 0 = R) := hR.out.symm
          clear hO hR
          have P : Hid (Has4 _ _ _ _ _ _) := N3.out.put (.int .i64 0) (.int .i64 0) (.int .i64 0) (.int .i64 0)
          obtain ⟨z0, z1, z2, z3, y0, y1, y2, y3⟩ := N3.out
          go_wp2_with fail
          obtain ⟨d0, d1, d2, d3, _, _, _, _⟩ := P.out
          refine bodyPost_ret (v := .tuple #[.agg #[.int .i64 0, .int .i64 0, .int .i64 0, .int .i64 0], .bool false]) (by simp [results, Tryz.results51, go_sem, d0, d1, d2, d3]) rfl ?_
          exact ⟨rTwo hR'.out rfl, G3.out.put4 (by omega) _ _ _ _⟩
        · have hO' : true = O := hO.out.symm
          subst hO'
          have hR' : Hid (areaV A1 A2 A3 A4 = R) := hR.out.symm
          clear hO hR
          have P : Hid (Has4 _ _ _ _ _ _) := N3.out.put (.int .i64 A1) (.int .i64 A2) (.int .i64 A3) (.int .i64 A4)
          obtain ⟨z0, z1, z2, z3, y0, y1, y2, y3⟩ := N3.out
          obtain ⟨a0, a1, a2, a3, _, _, _, _⟩ := N4.out
          go_wp2_with fail
          obtain ⟨d0, d1, d2, d3, _, _, _, _⟩ := P.out
          refine bodyPost_ret (v := .tuple #[.agg #[.int .i64 A1, .int .i64 A2, .int .i64 A3, .int .i64 A4], .bool true]) (by simp [results, Tryz.results51, go_sem, d0, d1, d2, d3]) rfl ?_
          exact ⟨rTwo hR'.out rfl, G3.out.put4 (by omega) _ _ _ _⟩
end Go.Proofs.YtdaoingmiabbcaaGreatDoor
