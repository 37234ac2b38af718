/- The document's AreaText. -/
import Derived.Test.YthehdloofamadaaDoorAw
namespace Go.Proofs.YthehdloofamadaaDoor
open Go.RowKit

/-- An area's text. -/
def atx (c r d s : Int) : List UInt8 := if vA c r d s then if c = d ∧ r = s then txt c r false false else txt c r false false ++ 58 :: txt d s false false else []
def atxE (c r d s : Int) : Int := if vA c r d s then 0 else 20
theorem txt_len (c r : Int) (cf rf : Bool) : (txt c r cf rf).length ≤ 24 := by
  have := lets_len 9 c.toNat
  have := digs_len 13 r.toNat
  unfold txt
  cases cf <;> cases rf <;> simp <;> omega

set_option maxHeartbeats 4000000 in
theorem rAreaText_core (c r d s E : Int) (V : Bool) (T1 T2 T : List UInt8) (e1 e2 : Int) (w : World)
    (H1 : Hid (∀ w, Calls Tryd.prog 24 #[.agg #[.int .i64 c, .int .i64 r, .int .i64 d, .int .i64 s]] w fun e w' => e = .returned (.bool V) ∧ w' = ((w.alloc (.cells #[.int .i64 c, .int .i64 r, .int .i64 d, .int .i64 s] 38)).alloc (.cells #[.int .i64 c, .int .i64 r] 23)).alloc (.cells #[.int .i64 d, .int .i64 s] 23)))
    (H2 : Hid (∀ w, Calls Tryd.prog 14 #[.agg #[.int .i64 c, .int .i64 r, .bool false, .bool false]] w fun e w' => e = .returned (.tuple #[.string ⟨T1.toArray⟩, .int .i64 e1]) ∧ Gr w w'))
    (H3 : Hid (∀ w, Calls Tryd.prog 14 #[.agg #[.int .i64 d, .int .i64 s, .bool false, .bool false]] w fun e w' => e = .returned (.tuple #[.string ⟨T2.toArray⟩, .int .i64 e2]) ∧ Gr w w'))
    (hE : Hid (E = if V then 0 else 20)) (hl1 : T1.length ≤ 24) (hl2 : T2.length ≤ 24)
    (hT : Hid (T = if V then if c = d ∧ r = s then T1 else T1 ++ 58 :: T2 else [])) :
    Calls Tryd.prog 32 #[.agg #[.int .i64 c, .int .i64 r, .int .i64 d, .int .i64 s]] w fun e w' =>
      e = .returned (.tuple #[.string ⟨T.toArray⟩, .int .i64 E]) ∧ Gr w w' := by
  have a1 := add_lists T1 [58] (by omega) (by simp)
  have a2 := add_lists (T1 ++ [58]) T2 (by simp; omega) (by omega)
  clear hl1 hl2
  cases V
  · have hE' : E = 20 := hE.out
    have hL' : T = [] := hT.out
    subst hE' hL'
    clear hE hT
    go_enter Tryd.func32, Tryd.ntmps32
    go_wp2_with fail
    refine (H1.out _).mono ?_
    rintro e w' ⟨rfl, rfl⟩
    go_wp2_with fail
    go_ret2
    refine ⟨rfl, ?_⟩
    repeat (first | exact Gr.refl _ | refine Gr.alloc ?_ _ _)
  · have hE' : E = 0 := hE.out
    subst hE'
    clear hE
    by_cases hc : c = d
    · subst hc
      by_cases hr : r = s
      · subst hr
        have hT' : T = T1 := hT.out.trans (by simp)
        subst hT'
        clear hT
        go_enter Tryd.func32, Tryd.ntmps32
        go_wp2_with fail
        refine (H1.out _).mono ?_
        rintro e w' ⟨rfl, rfl⟩
        go_wp2_with fail
        refine (H2.out _).mono ?_
        rintro e w1 ⟨rfl, hg⟩
        have hcell := hg.ext.cell
        have G1 : Hid (Gr w w1) := Gr.trans (by repeat (first | exact Gr.refl _ | refine Gr.alloc ?_ _ _)) hg
        clear hg
        go_wp2_with fail
        go_ret2
        exact ⟨rfl, G1.out⟩
      · have hT' : Hid (T1 ++ 58 :: T2 = T) := by show _ = _; rw [hT.out]; simp [hr]
        have hr' : (r == s) = false := by simpa using hr
        clear hT hr
        go_enter Tryd.func32, Tryd.ntmps32
        go_wp2_with fail
        refine (H1.out _).mono ?_
        rintro e w' ⟨rfl, rfl⟩
        go_wp2_with fail
        refine (H2.out _).mono ?_
        rintro e w1 ⟨rfl, hg⟩
        have hcell := hg.ext.cell
        have G1 : Hid (Gr w w1) := Gr.trans (by repeat (first | exact Gr.refl _ | refine Gr.alloc ?_ _ _)) hg
        clear hg
        go_wp2_with fail
        refine (H3.out _).mono ?_
        rintro e w2 ⟨rfl, hg⟩
        have G2 : Hid (Gr w w2) := Gr.trans G1.out hg
        clear hg hcell
        go_wp2_with fail
        go_ret2
        exact ⟨rTwo (vStr (hT'.out)) rfl, G2.out⟩
    · have hT' : Hid (T1 ++ 58 :: T2 = T) := by show _ = _; rw [hT.out]; simp [hc]
      have hc' : (c == d) = false := by simpa using hc
      clear hT hc
      go_enter Tryd.func32, Tryd.ntmps32
      go_wp2_with fail
      refine (H1.out _).mono ?_
      rintro e w' ⟨rfl, rfl⟩
      go_wp2_with fail
      refine (H2.out _).mono ?_
      rintro e w1 ⟨rfl, hg⟩
      have hcell := hg.ext.cell
      have G1 : Hid (Gr w w1) := Gr.trans (by repeat (first | exact Gr.refl _ | refine Gr.alloc ?_ _ _)) hg
      clear hg
      go_wp2_with fail
      refine (H3.out _).mono ?_
      rintro e w2 ⟨rfl, hg⟩
      have G2 : Hid (Gr w w2) := Gr.trans G1.out hg
      clear hg hcell
      go_wp2_with fail
      go_ret2
      exact ⟨rTwo (vStr (hT'.out)) rfl, G2.out⟩
theorem rAreaText_any (c r d s : Int) (w : World) :
    Calls Tryd.prog 32 #[.agg #[.int .i64 c, .int .i64 r, .int .i64 d, .int .i64 s]] w fun e w' =>
      e = .returned (.tuple #[.string ⟨(atx c r d s).toArray⟩, .int .i64 (atxE c r d s)]) ∧ Gr w w' := by
  have h : vA c r d s = true → vC c r = true ∧ vC d s = true := fun h => by
    rw [vA_iff] at h; rw [vC_iff, vC_iff]; omega
  refine rAreaText_core c r d s _ (vA c r d s) (txtL c r false false) (txtL d s false false) _ _ _ w (rValidArea_at _ _ _ _) (rText_any _ _ _ _) (rText_any _ _ _ _) rfl ?_ ?_ ?_
  · unfold txtL; split
    · exact txt_len _ _ _ _
    · simp
  · unfold txtL; split
    · exact txt_len _ _ _ _
    · simp
  · show _ = _
    unfold atx
    by_cases hv : vA c r d s = true
    · obtain ⟨h1, h2⟩ := h hv
      rw [if_pos hv, if_pos hv, txtL, txtL, if_pos h1, if_pos h2]
    · rw [if_neg hv, if_neg hv]
end Go.Proofs.YthehdloofamadaaDoor
