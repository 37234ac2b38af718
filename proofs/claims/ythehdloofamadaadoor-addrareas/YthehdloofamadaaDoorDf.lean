/- The program's AreaText. -/
import Derived.Test.YthehdloofamadaaDoorDe
import Derived.Test.YthehdloofamadaaDoorAy
namespace Go.Proofs.YthehdloofamadaaDoor
open Go.RowKit

set_option maxHeartbeats 4000000 in
theorem pAreaText_core (c r d s E : Int) (V : Bool) (T1 T2 T : List UInt8) (e1 e2 : Int) (w : World)
    (H1 : Hid (∀ w, Calls Tryd.prog 23 #[.agg #[.int .i64 c, .int .i64 r, .int .i64 d, .int .i64 s]] w fun e w' => e = .returned (.bool V) ∧ Gr w w'))
    (H2 : Hid (∀ w', Below w.heap.size w w' → Calls Tryd.prog 13 #[.agg #[.int .i64 c, .int .i64 r, .bool false, .bool false]] w' fun e w'' => e = .returned (.tuple #[.string ⟨T1.toArray⟩, .int .i64 e1]) ∧ Below w'.heap.size w' w''))
    (H3 : Hid (∀ w', Below w.heap.size w w' → Calls Tryd.prog 13 #[.agg #[.int .i64 d, .int .i64 s, .bool false, .bool false]] w' fun e w'' => e = .returned (.tuple #[.string ⟨T2.toArray⟩, .int .i64 e2]) ∧ Below w'.heap.size w' w''))
    (hE : Hid (E = if V then 0 else 20)) (hl1 : T1.length ≤ 24) (hl2 : T2.length ≤ 24)
    (hT : Hid (T = if V then if c = d ∧ r = s then T1 else T1 ++ 58 :: T2 else [])) :
    Calls Tryd.prog 31 #[.agg #[.int .i64 c, .int .i64 r, .int .i64 d, .int .i64 s]] w fun e w' =>
      e = .returned (.tuple #[.string ⟨T.toArray⟩, .int .i64 E]) ∧ Below w.heap.size w w' := by
  have a1 := add_lists T1 [58] (by omega) (by simp)
  have a2 := add_lists (T1 ++ [58]) T2 (by simp; omega) (by omega)
  have B0 : Hid (Below w.heap.size w (w.alloc (.cells #[.int .i64 c, .int .i64 r, .int .i64 d, .int .i64 s] 38))) := (Below.refl _ _).alloc (Nat.le_refl _) _
  have K0 : Hid (Has4 (w.alloc (.cells #[.int .i64 c, .int .i64 r, .int .i64 d, .int .i64 s] 38)) w.heap.size (.int .i64 c) (.int .i64 r) (.int .i64 d) (.int .i64 s)) := has4_new w _ _ _ _ _
  clear hl1 hl2
  cases V
  · have hE' : E = 20 := hE.out
    have hL' : T = [] := hT.out
    subst hE' hL'
    clear hE hT
    go_enter Tryd.func31, Tryd.ntmps31
    go_wp2_with fail
    refine (H1.out _).mono ?_
    rintro e w1 ⟨rfl, hg⟩
    have B1 : Hid (Below w.heap.size w w1) := B0.out.trans (hg.below.mono (by simp))
    clear hg
    go_wp2_with fail
    go_ret2
    exact ⟨rfl, B1.out⟩
  · have hE' : E = 0 := hE.out
    subst hE'
    clear hE
    by_cases hc : c = d
    · subst hc
      by_cases hr : r = s
      · subst hr
        have hT' : T = T1 := hT.out.trans (by simp)
        subst hT'
        clear hT
        go_enter Tryd.func31, Tryd.ntmps31
        go_wp2_with fail
        refine (H1.out _).mono ?_
        rintro e w1 ⟨rfl, hg⟩
        have B1 : Hid (Below w.heap.size w w1) := B0.out.trans (hg.below.mono (by simp))
        have K1 : Hid (Has4 w1 w.heap.size (.int .i64 c) (.int .i64 r) (.int .i64 c) (.int .i64 r)) := K0.out.gr hg
        clear hg B0 K0
        obtain ⟨x0, x1, x2, x3, _, _, _, _⟩ := K1.out
        go_wp2_with fail
        refine (H2.out _ B1.out).mono ?_
        rintro e w2 ⟨rfl, hb⟩
        have B2 : Hid (Below w.heap.size w w2) := B1.out.trans (hb.mono B1.out.size)
        have K2 : Hid (Has4 w2 w.heap.size (.int .i64 c) (.int .i64 r) (.int .i64 c) (.int .i64 r)) := K1.out.bel hb
        clear hb K1 B1 x0 x1 x2 x3
        obtain ⟨x0, x1, x2, x3, _, _, _, _⟩ := K2.out
        go_wp2_with fail
        go_ret2
        exact ⟨rfl, B2.out⟩
      · have hT' : Hid (T1 ++ 58 :: T2 = T) := by show _ = _; rw [hT.out]; simp [hr]
        have hr' : (r == s) = false := by simpa using hr
        clear hT hr
        go_enter Tryd.func31, Tryd.ntmps31
        go_wp2_with fail
        refine (H1.out _).mono ?_
        rintro e w1 ⟨rfl, hg⟩
        have B1 : Hid (Below w.heap.size w w1) := B0.out.trans (hg.below.mono (by simp))
        have K1 : Hid (Has4 w1 w.heap.size (.int .i64 c) (.int .i64 r) (.int .i64 c) (.int .i64 s)) := K0.out.gr hg
        clear hg B0 K0
        obtain ⟨x0, x1, x2, x3, _, _, _, _⟩ := K1.out
        go_wp2_with fail
        refine (H2.out _ B1.out).mono ?_
        rintro e w2 ⟨rfl, hb⟩
        have B2 : Hid (Below w.heap.size w w2) := B1.out.trans (hb.mono B1.out.size)
        have K2 : Hid (Has4 w2 w.heap.size (.int .i64 c) (.int .i64 r) (.int .i64 c) (.int .i64 s)) := K1.out.bel hb
        clear hb K1 B1 x0 x1 x2 x3
        obtain ⟨x0, x1, x2, x3, _, _, _, _⟩ := K2.out
        go_wp2_with fail
        refine (H3.out _ B2.out).mono ?_
        rintro e w3 ⟨rfl, hb⟩
        have B3 : Hid (Below w.heap.size w w3) := B2.out.trans (hb.mono B2.out.size)
        clear hb K2 B2 x0 x1 x2 x3
        go_wp2_with fail
        go_ret2
        exact ⟨rTwo (vStr (hT'.out)) rfl, B3.out⟩
    · have hT' : Hid (T1 ++ 58 :: T2 = T) := by show _ = _; rw [hT.out]; simp [hc]
      have hc' : (c == d) = false := by simpa using hc
      clear hT hc
      go_enter Tryd.func31, Tryd.ntmps31
      go_wp2_with fail
      refine (H1.out _).mono ?_
      rintro e w1 ⟨rfl, hg⟩
      have B1 : Hid (Below w.heap.size w w1) := B0.out.trans (hg.below.mono (by simp))
      have K1 : Hid (Has4 w1 w.heap.size (.int .i64 c) (.int .i64 r) (.int .i64 d) (.int .i64 s)) := K0.out.gr hg
      clear hg B0 K0
      obtain ⟨x0, x1, x2, x3, _, _, _, _⟩ := K1.out
      go_wp2_with fail
      refine (H2.out _ B1.out).mono ?_
      rintro e w2 ⟨rfl, hb⟩
      have B2 : Hid (Below w.heap.size w w2) := B1.out.trans (hb.mono B1.out.size)
      have K2 : Hid (Has4 w2 w.heap.size (.int .i64 c) (.int .i64 r) (.int .i64 d) (.int .i64 s)) := K1.out.bel hb
      clear hb K1 B1 x0 x1 x2 x3
      obtain ⟨x0, x1, x2, x3, _, _, _, _⟩ := K2.out
      go_wp2_with fail
      refine (H3.out _ B2.out).mono ?_
      rintro e w3 ⟨rfl, hb⟩
      have B3 : Hid (Below w.heap.size w w3) := B2.out.trans (hb.mono B2.out.size)
      clear hb K2 B2 x0 x1 x2 x3
      go_wp2_with fail
      go_ret2
      exact ⟨rTwo (vStr (hT'.out)) rfl, B3.out⟩
theorem pAreaText_any (c r d s : Int) (w : World) (ht : Tw w) :
    Calls Tryd.prog 31 #[.agg #[.int .i64 c, .int .i64 r, .int .i64 d, .int .i64 s]] w fun e w' =>
      e = .returned (.tuple #[.string ⟨(atx c r d s).toArray⟩, .int .i64 (atxE c r d s)]) ∧ Below w.heap.size w w' := by
  have h : vA c r d s = true → vC c r = true ∧ vC d s = true := fun h => by
    rw [vA_iff] at h; rw [vC_iff, vC_iff]; omega
  refine pAreaText_core c r d s _ (vA c r d s) (txtL c r false false) (txtL d s false false) _ _ _ w (pValidArea_any _ _ _ _) (fun w' hb => pText_any _ _ _ _ w' (ht.bel hb)) (fun w' hb => pText_any _ _ _ _ w' (ht.bel hb)) rfl ?_ ?_ ?_
  · unfold txtL; split
    · exact txt_len _ _ _ _
    · simp
  · unfold txtL; split
    · exact txt_len _ _ _ _
    · simp
  · show _ = _
    unfold atx
    by_cases hv : vA c r d s = true
    · obtain ⟨h1, h2⟩ := h hv
      rw [if_pos hv, if_pos hv, txtL, txtL, if_pos h1, if_pos h2]
    · rw [if_neg hv, if_neg hv]
end Go.Proofs.YthehdloofamadaaDoor
