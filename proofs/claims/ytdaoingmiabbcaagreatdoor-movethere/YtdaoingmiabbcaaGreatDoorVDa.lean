/- The program's Valid, ValidArea, In, Size, sign, letter, least, greatest. The program's Order: cmp.Compare, cmp.Or of two. The program's Area, Meet, Shift. -/
import Derived.Test.YtdaoingmiabbcaaGreatDoorVGa
import Derived.Deep.RegionWith
import Derived.Deep.RegionHeld3
namespace Go.Proofs.YtdaoingmiabbcaaGreatDoor
open Go.RowKit

set_option maxHeartbeats 1000000 in
theorem pValid_at (c r : Int) (w : World) :
    Calls Tryz.prog 44 #[.agg #[.int .i64 c, .int .i64 r]] w fun e w' => e = .returned (.bool (vC c r)) ∧ w' = w.alloc (.cells #[.int .i64 c, .int .i64 r] 24) := by
  have hV : Hid (vC c r = (decide (1 ≤ c) && decide (c ≤ 256) && decide (1 ≤ r) && decide (r ≤ 4096))) := rfl
  generalize vC c r = V at *
  go_enter Tryz.func44, Tryz.ntmps44
  go_wp2
  all_goals
    go_ret
    refine ⟨rBool ?_, rfl⟩
    rw [hV.out, Bool.eq_iff_iff]
    simp only [Bool.and_eq_true, decide_eq_true_eq, Bool.false_eq_true, false_iff]
    omega

set_option maxHeartbeats 2000000 in
theorem pValidArea_any (c r d s : Int) (w : World) :
    Calls Tryz.prog 41 #[.agg #[.int .i64 c, .int .i64 r, .int .i64 d, .int .i64 s]] w fun e w' => e = .returned (.bool (vA c r d s)) ∧ Gr w w' := by
  have H1 : Hid (∀ w, Calls Tryz.prog 44 #[.agg #[.int .i64 c, .int .i64 r]] w fun e w' => e = .returned (.bool (vC c r)) ∧ w' = w.alloc (.cells #[.int .i64 c, .int .i64 r] 24)) := pValid_at c r
  have H2 : Hid (∀ w, Calls Tryz.prog 44 #[.agg #[.int .i64 d, .int .i64 s]] w fun e w' => e = .returned (.bool (vC d s)) ∧ w' = w.alloc (.cells #[.int .i64 d, .int .i64 s] 24)) := pValid_at d s
  have hV : Hid (vA c r d s = (vC c r && vC d s && decide (c ≤ d) && decide (r ≤ s))) := rfl
  have G2 : Hid (∀ a b t u, Gr w ((w.alloc (.cells a t)).alloc (.cells b u))) := fun a b t u => ((Gr.refl w).alloc _ _).alloc _ _
  have G3 : Hid (∀ a b d t u v, Gr w (((w.alloc (.cells a t)).alloc (.cells b u)).alloc (.cells d v))) := fun a b d t u v => (((Gr.refl w).alloc _ _).alloc _ _).alloc _ _
  generalize vA c r d s = V at *
  generalize vC c r = p at *
  generalize vC d s = q at *
  cases p
  · go_enter Tryz.func41, Tryz.ntmps41
    go_wp2_with fail
    refine (H1.out _).mono ?_
    rintro e w' ⟨rfl, rfl⟩
    go_wp2_with fail
    go_ret
    exact ⟨rBool hV.out.symm, G2.out _ _ _ _⟩
  · cases q
    · go_enter Tryz.func41, Tryz.ntmps41
      go_wp2_with fail
      refine (H1.out _).mono ?_
      rintro e w' ⟨rfl, rfl⟩
      go_wp2_with fail
      refine (H2.out _).mono ?_
      rintro e w' ⟨rfl, rfl⟩
      go_wp2_with fail
      go_ret
      exact ⟨rBool hV.out.symm, G3.out _ _ _ _ _ _⟩
    · go_enter Tryz.func41, Tryz.ntmps41
      go_wp2_with fail
      refine (H1.out _).mono ?_
      rintro e w' ⟨rfl, rfl⟩
      go_wp2_with fail
      refine (H2.out _).mono ?_
      rintro e w' ⟨rfl, rfl⟩
      go_wp2_with fail
      all_goals
        go_ret
        refine ⟨rBool ?_, G3.out _ _ _ _ _ _⟩
        rw [hV.out]
        clear H1 H2 hV G2 G3
        (try simp_all) <;> (try omega)

set_option maxHeartbeats 2000000 in
theorem pIn_any (c r d s x y : Int) (w : World) :
    Calls Tryz.prog 14 #[.agg #[.int .i64 c, .int .i64 r, .int .i64 d, .int .i64 s], .agg #[.int .i64 x, .int .i64 y]] w fun e w' => e = .returned (.bool (inA c r d s x y)) ∧ Gr w w' := by
  have H1 : Hid (∀ w, Calls Tryz.prog 41 #[.agg #[.int .i64 c, .int .i64 r, .int .i64 d, .int .i64 s]] w fun e w' => e = .returned (.bool (vA c r d s)) ∧ Gr w w') := pValidArea_any c r d s
  have G : Hid (Gr w ((w.alloc (.cells #[.int .i64 c, .int .i64 r, .int .i64 d, .int .i64 s] 26)).alloc (.cells #[.int .i64 x, .int .i64 y] 24))) := ((Gr.refl w).alloc _ _).alloc _ _
  have hV : Hid (inA c r d s x y = (vA c r d s && decide (c ≤ x) && decide (x ≤ d) && decide (r ≤ y) && decide (y ≤ s))) := rfl
  generalize inA c r d s x y = V at *
  generalize vA c r d s = p at *
  go_enter Tryz.func14, Tryz.ntmps14
  go_wp2_with fail
  refine (H1.out _).mono ?_
  rintro e w1 ⟨rfl, hg⟩
  have hcell := hg.ext.cell
  have G1 : Hid (Gr w w1) := G.out.trans hg
  clear hg G
  go_wp2_with fail
  all_goals
    go_ret
    refine ⟨rBool ?_, G1.out⟩
    rw [hV.out]
    clear H1 hV G1 hcell
    cases p <;> (try simp_all) <;> (try omega)

set_option maxHeartbeats 2000000 in
theorem pSize_any (c r d s : Int) (w : World) :
    Calls Tryz.prog 102 #[.agg #[.int .i64 c, .int .i64 r, .int .i64 d, .int .i64 s]] w fun e w' => e = .returned (.int .i64 (sizeA c r d s)) ∧ Gr w w' := by
  have H1 : Hid (∀ w, Calls Tryz.prog 41 #[.agg #[.int .i64 c, .int .i64 r, .int .i64 d, .int .i64 s]] w fun e w' => e = .returned (.bool (vA c r d s)) ∧ Gr w w') := pValidArea_any c r d s
  have G : Hid (Gr w (w.alloc (.cells #[.int .i64 c, .int .i64 r, .int .i64 d, .int .i64 s] 26))) := (Gr.refl w).alloc _ _
  have hV : Hid (sizeA c r d s = if vA c r d s then (d - c + 1) * (s - r + 1) else 0) := rfl
  have hb := vA_bd c r d s
  generalize sizeA c r d s = V at *
  generalize vA c r d s = p at *
  cases p
  · clear hb
    go_enter Tryz.func102, Tryz.ntmps102
    go_wp2_with fail
    refine (H1.out _).mono ?_
    rintro e w1 ⟨rfl, hg⟩
    have G1 : Hid (Gr w w1) := G.out.trans hg
    clear hg
    go_wp2_with fail
    go_ret
    exact ⟨rInt hV.out.symm, G1.out⟩
  · obtain ⟨h1, h2, h3, h4, h5, h6⟩ := hb rfl
    obtain ⟨m0, m1⟩ := mul_bd (d - c + 1) (s - r + 1) (by omega) (by omega) (by omega) (by omega)
    have hV' : Hid ((d - c + 1) * (s - r + 1) = V) := hV.out.symm
    clear hV hb
    go_enter Tryz.func102, Tryz.ntmps102
    go_wp2_with fail
    refine (H1.out _).mono ?_
    rintro e w1 ⟨rfl, hg⟩
    have hcell := hg.ext.cell
    have G1 : Hid (Gr w w1) := G.out.trans hg
    clear hg
    go_wp2_with fail
    go_ret
    exact ⟨rInt hV'.out, G1.out⟩

set_option maxHeartbeats 1000000 in
theorem pleast_at (c r d s : Int) (w : World) :
    Calls Tryz.prog 74 #[.agg #[.int .i64 c, .int .i64 r], .agg #[.int .i64 d, .int .i64 s]] w fun e w' => e = .returned (.agg #[.int .i64 (min c d), .int .i64 (min r s)]) ∧ w' = ((w.alloc (.cells #[.int .i64 c, .int .i64 r] 24)).alloc (.cells #[.int .i64 d, .int .i64 s] 24)).alloc (.cells #[.int .i64 (min c d), .int .i64 (min r s)] 24) := by
  have e1 : (if d < c then d else c) = min c d := by omega
  have e2 : (if s < r then s else r) = min r s := by omega
  generalize min c d = X at *
  generalize min r s = Y at *
  go_enter Tryz.func74, Tryz.ntmps74
  go_wp2
  refine bodyPost_ret (v := .agg #[.int .i64 X, .int .i64 Y]) (by simp [results, Tryz.results74, go_sem, *]) rfl ?_
  exact ⟨rfl, rfl⟩
set_option maxHeartbeats 1000000 in
theorem pgreatest_at (c r d s : Int) (w : World) :
    Calls Tryz.prog 73 #[.agg #[.int .i64 c, .int .i64 r], .agg #[.int .i64 d, .int .i64 s]] w fun e w' => e = .returned (.agg #[.int .i64 (max c d), .int .i64 (max r s)]) ∧ w' = ((w.alloc (.cells #[.int .i64 c, .int .i64 r] 24)).alloc (.cells #[.int .i64 d, .int .i64 s] 24)).alloc (.cells #[.int .i64 (max c d), .int .i64 (max r s)] 24) := by
  have e1 : (if c < d then d else c) = max c d := by omega
  have e2 : (if r < s then s else r) = max r s := by omega
  generalize max c d = X at *
  generalize max r s = Y at *
  go_enter Tryz.func73, Tryz.ntmps73
  go_wp2
  refine bodyPost_ret (v := .agg #[.int .i64 X, .int .i64 Y]) (by simp [results, Tryz.results73, go_sem, *]) rfl ?_
  exact ⟨rfl, rfl⟩
end Go.Proofs.YtdaoingmiabbcaaGreatDoor
namespace Go.Proofs.YtdaoingmiabbcaaGreatDoor
open Go.RowKit

set_option maxHeartbeats 1000000 in
theorem pCompare_any (a b : Int) (w : World) :
    Calls Tryz.prog 85 #[.int .i64 a, .int .i64 b] w fun e w' => e = .returned (.int .i64 (cmpI a b)) ∧ w' = w := by
  have hV : Hid (cmpI a b = if a < b then -1 else if b < a then 1 else 0) := rfl
  generalize cmpI a b = V at *
  go_enter Tryz.func85, Tryz.ntmps85
  go_wp2
  all_goals
    go_ret
    refine ⟨rInt ?_, rfl⟩
    rw [hV.out]
    repeat' split
    all_goals omega

set_option maxHeartbeats 2000000 in
theorem pOr_two (b : Nat) (p q : Int) (w : World) (h0 : w.cell? ⟨b, 0, none⟩ = some (.int .i64 p)) (h1 : w.cell? ⟨b, 1, none⟩ = some (.int .i64 q)) :
    Calls Tryz.prog 118 #[.slice (some ⟨b, 0, none⟩) 2 2] w fun e w' => e = .returned (.int .i64 (if p = 0 then q else p)) ∧ w' = w := by
  have hV : Hid (∀ V, V = (if p = 0 then q else p) → V = (if p = 0 then q else p)) := fun _ h => h
  obtain ⟨V, hVV⟩ : ∃ V, (if p = 0 then q else p) = V := ⟨_, rfl⟩
  have HV : Hid ((if p = 0 then q else p) = V) := hVV
  rw [hVV]
  clear hV hVV
  go_enter Tryz.func118, Tryz.ntmps118
  go_wp2
  go_loopw [8] (fun i wr => wr = w ∧ (i = .int .i64 0 ∨ (i = .int .i64 1 ∧ p = 0) ∨ (i = .int .i64 2 ∧ p = 0 ∧ q = 0))) (fun i _ => (2 - intOf i).toNat)
  case atStart => exact ⟨rfl, .inl rfl⟩
  case round =>
    obtain ⟨hw, hc⟩ := hrel
    subst hw
    rcases hc with rfl | ⟨rfl, hp⟩ | ⟨rfl, hp, hq⟩
    · by_cases hp : p = 0
      · subst hp
        go_wp2
        go_roundw
        case rel => simp
        case measure => simp only [intOf]; omega
      · have hV : Hid (p = V) := by show _ = _; rw [← HV.out, if_neg hp]
        have hp' : (p != 0) = true := by simpa using hp
        clear HV
        go_wp2
        go_ret
        exact ⟨rInt hV.out, rfl⟩
    · subst hp
      have hV : Hid (q = V) := by show _ = _; rw [← HV.out, if_pos rfl]
      clear HV
      by_cases hq : q = 0
      · subst hq
        go_wp2
        go_roundw
        case rel => simp
        case measure => simp only [intOf]; omega
      · have hq' : (q != 0) = true := by simpa using hq
        go_wp2
        go_ret
        exact ⟨rInt hV.out, rfl⟩
    · subst hp hq
      have hV : Hid (0 = V) := by show _ = _; rw [← HV.out, if_pos rfl]
      clear HV
      go_wp2
      go_ret
      exact ⟨rInt hV.out, rfl⟩

end Go.Proofs.YtdaoingmiabbcaaGreatDoor
namespace Go.Proofs.YtdaoingmiabbcaaGreatDoor
open Go.RowKit

theorem keep2 {W w' : World} {b : Nat} {x y : Value} (h : Hid (Has2 W b x y)) (g : Gr W w') : w'.cell? ⟨b, 0, none⟩ = some x ∧ w'.cell? ⟨b, 1, none⟩ = some y := (h.out.gr g).1
theorem keep4 {W w' : World} {b : Nat} {x y z u : Value} (h : Hid (Has4 W b x y z u)) (g : Gr W w') : w'.cell? ⟨b, 0, none⟩ = some x ∧ w'.cell? ⟨b, 1, none⟩ = some y ∧ w'.cell? ⟨b, 2, none⟩ = some z ∧ w'.cell? ⟨b, 3, none⟩ = some u := ⟨(h.out.gr g).c0, (h.out.gr g).c1, (h.out.gr g).c2, (h.out.gr g).c3⟩
theorem has4_at (W : World) (b : Nat) (x y z u : Value) (t : TypeId) (hb : b = W.heap.size) : Has4 (W.alloc (.cells #[x, y, z, u] t)) b x y z u := by
  subst hb
  exact has4_new W x y z u t
set_option maxHeartbeats 4000000 in
theorem pArea_any (c r d s : Int) (w : World) :
    Calls Tryz.prog 60 #[.agg #[.int .i64 c, .int .i64 r], .agg #[.int .i64 d, .int .i64 s]] w fun e w' => e = .returned (.tuple #[arV c r d s, .int .i64 (arE c r d s)]) ∧ Gr w w' := by
  have H1 : Hid (∀ w, Calls Tryz.prog 44 #[.agg #[.int .i64 c, .int .i64 r]] w fun e w' => e = .returned (.bool (vC c r)) ∧ w' = w.alloc (.cells #[.int .i64 c, .int .i64 r] 24)) := pValid_at c r
  have H2 : Hid (∀ w, Calls Tryz.prog 44 #[.agg #[.int .i64 d, .int .i64 s]] w fun e w' => e = .returned (.bool (vC d s)) ∧ w' = w.alloc (.cells #[.int .i64 d, .int .i64 s] 24)) := pValid_at d s
  have H3 : Hid (∀ w, Calls Tryz.prog 74 #[.agg #[.int .i64 c, .int .i64 r], .agg #[.int .i64 d, .int .i64 s]] w fun e w' => e = .returned (.agg #[.int .i64 (min c d), .int .i64 (min r s)]) ∧ w' = ((w.alloc (.cells #[.int .i64 c, .int .i64 r] 24)).alloc (.cells #[.int .i64 d, .int .i64 s] 24)).alloc (.cells #[.int .i64 (min c d), .int .i64 (min r s)] 24)) := pleast_at c r d s
  have H4 : Hid (∀ w, Calls Tryz.prog 73 #[.agg #[.int .i64 c, .int .i64 r], .agg #[.int .i64 d, .int .i64 s]] w fun e w' => e = .returned (.agg #[.int .i64 (max c d), .int .i64 (max r s)]) ∧ w' = ((w.alloc (.cells #[.int .i64 c, .int .i64 r] 24)).alloc (.cells #[.int .i64 d, .int .i64 s] 24)).alloc (.cells #[.int .i64 (max c d), .int .i64 (max r s)] 24)) := pgreatest_at c r d s
  have G4 : Hid (∀ a b d f t u v z, Gr w ((((w.alloc (.cells a t)).alloc (.cells b u)).alloc (.cells d v)).alloc (.cells f z))) := fun a b d f t u v z => ((((Gr.refl w).alloc _ _).alloc _ _).alloc _ _).alloc _ _
  have G5 : Hid (∀ a b d f g t u v z x, Gr w (((((w.alloc (.cells a t)).alloc (.cells b u)).alloc (.cells d v)).alloc (.cells f z)).alloc (.cells g x))) := fun a b d f g t u v z x => (((((Gr.refl w).alloc _ _).alloc _ _).alloc _ _).alloc _ _).alloc _ _
  have hR : Hid (arV c r d s = if vC c r && vC d s then areaV (min c d) (min r s) (max c d) (max r s) else areaV 0 0 0 0) := rfl
  have hE : Hid (arE c r d s = if vC c r && vC d s then 0 else 20) := rfl
  generalize arV c r d s = R at *
  generalize arE c r d s = E at *
  generalize vC c r = p at *
  generalize vC d s = q at *
  cases p
  · have hR' : areaV 0 0 0 0 = R := hR.out.symm
    have hE' : 20 = E := hE.out.symm
    have HR : Hid (areaV 0 0 0 0 = R) := hR'
    subst hE'
    clear hR hE hR' H2 H3 H4
    go_enter Tryz.func60, Tryz.ntmps60
    go_wp2_with fail
    refine (H1.out _).mono ?_
    rintro e w' ⟨rfl, rfl⟩
    go_wp2_with fail
    refine bodyPost_ret (v := .tuple #[.agg #[.int .i64 0, .int .i64 0, .int .i64 0, .int .i64 0], .int .i64 20]) (by simp [results, Tryz.results60, go_sem, *]) rfl ?_
    exact ⟨rTwo HR.out rfl, G4.out _ _ _ _ _ _ _ _⟩
  · cases q
    · have hE' : 20 = E := hE.out.symm
      have HR : Hid (areaV 0 0 0 0 = R) := hR.out.symm
      subst hE'
      clear hR hE H3 H4
      go_enter Tryz.func60, Tryz.ntmps60
      go_wp2_with fail
      refine (H1.out _).mono ?_
      rintro e w' ⟨rfl, rfl⟩
      go_wp2_with fail
      refine (H2.out _).mono ?_
      rintro e w' ⟨rfl, rfl⟩
      go_wp2_with fail
      refine bodyPost_ret (v := .tuple #[.agg #[.int .i64 0, .int .i64 0, .int .i64 0, .int .i64 0], .int .i64 20]) (by simp [results, Tryz.results60, go_sem, *]) rfl ?_
      exact ⟨rTwo HR.out rfl, G5.out _ _ _ _ _ _ _ _ _ _⟩
    · have hE' : 0 = E := hE.out.symm
      have HR : Hid (areaV (min c d) (min r s) (max c d) (max r s) = R) := hR.out.symm
      subst hE'
      clear hR hE
      have KA : Hid (Has2 ((w.alloc (.cells #[.int .i64 c, .int .i64 r] 24))) w.heap.size (.int .i64 c) (.int .i64 r)) := has2_new w _ _ _
      have KB : Hid (Has2 ((w.alloc (.cells #[.int .i64 c, .int .i64 r] 24)).alloc (.cells #[.int .i64 d, .int .i64 s] 24)) (w.heap.size + 1) (.int .i64 d) (.int .i64 s)) := by
        have := has2_new (w.alloc (.cells #[.int .i64 c, .int .i64 r] 24)) (.int .i64 d) (.int .i64 s) 24
        rw [World.size_alloc] at this
        exact this
      generalize min c d = A1 at *
      generalize min r s = A2 at *
      generalize max c d = A3 at *
      generalize max r s = A4 at *
      go_enter Tryz.func60, Tryz.ntmps60
      go_wp2_with fail
      refine (H1.out _).mono ?_
      rintro e w' ⟨rfl, rfl⟩
      go_wp2_with fail
      refine (H2.out _).mono ?_
      rintro e w' ⟨rfl, rfl⟩
      go_wp2_with fail
      go_region_held3 (fun w' => (w'.cell? ⟨w.heap.size, 0, none⟩ = some (.int .i64 c) ∧ w'.cell? ⟨w.heap.size, 1, none⟩ = some (.int .i64 r)) ∧ (w'.cell? ⟨w.heap.size + 1, 0, none⟩ = some (.int .i64 d) ∧ w'.cell? ⟨w.heap.size + 1, 1, none⟩ = some (.int .i64 s)))
        (exact ⟨keep2 KA (by repeat (first | exact Gr.refl _ | refine Gr.drew ?_ | refine Gr.alloc ?_ _ _)), keep2 KB (by repeat (first | exact Gr.refl _ | refine Gr.drew ?_ | refine Gr.alloc ?_ _ _))⟩) (first
        | (go_at_call 74; refine (H3.out _).mono ?_; rintro e w' ⟨rfl, rfl⟩)
        | (go_at_call 73; refine (H4.out _).mono ?_; rintro e w' ⟨rfl, rfl⟩))
      all_goals
        go_wp2_with fail
        refine bodyPost_ret (v := .tuple #[.agg #[.int .i64 A1, .int .i64 A2, .int .i64 A3, .int .i64 A4], .int .i64 0]) (by simp [results, Tryz.results60, go_sem, *]) rfl ?_
        refine ⟨rTwo HR.out rfl, ?_⟩
        repeat (first | exact Gr.refl _ | refine Gr.alloc ?_ _ _ | refine Gr.drew ?_ | refine Gr.drewN ?_ _)

end Go.Proofs.YtdaoingmiabbcaaGreatDoor
