/- The document's ParseArea, at any text. -/
import Derived.Test.YthehdloofamadaaDoorBc
namespace Go.Proofs.YthehdloofamadaaDoor
open Go.RowKit

theorem arV_eq (c r d s : Int) : arV c r d s = areaV (if vC c r && vC d s then min c d else 0) (if vC c r && vC d s then min r s else 0) (if vC c r && vC d s then max c d else 0) (if vC c r && vC d s then max r s else 0) := by
  unfold arV
  split <;> rfl
theorem rParseArea_any (l : List UInt8) (n : Int) (hn : (l.length : Int) = n) (hl : n < 140737488355328) (w : World) :
    Calls Tryd.prog 20 #[.string ⟨l.toArray⟩] w fun e w' => e = .returned (.tuple #[paV l, .int .i64 (paE l)]) ∧ Gr w w' := by
  have h1 : ((ahead l).length : Int) ≤ n := by unfold ahead; rw [List.length_take]; omega
  have h2 : ((behind l).length : Int) ≤ n := by unfold behind; rw [List.length_drop]; omega
  refine rParseArea_core l (ahead l) (behind l) n (atF 0 l) hn hl w (pc l) (pr l) (pc (ahead l)) (pr (ahead l)) (pc (behind l)) (pr (behind l)) (pE l) (pE (ahead l)) (pE (behind l)) _ (arE (pc (ahead l)) (pr (ahead l)) (pc (behind l)) (pr (behind l))) _ _ _ _ _ _ (if (vC (pc (ahead l)) (pr (ahead l)) && vC (pc (behind l)) (pr (behind l))) then min (pc (ahead l)) (pc (behind l)) else 0) (if (vC (pc (ahead l)) (pr (ahead l)) && vC (pc (behind l)) (pr (behind l))) then min (pr (ahead l)) (pr (behind l)) else 0) (if (vC (pc (ahead l)) (pr (ahead l)) && vC (pc (behind l)) (pr (behind l))) then max (pc (ahead l)) (pc (behind l)) else 0) (if (vC (pc (ahead l)) (pr (ahead l)) && vC (pc (behind l)) (pr (behind l))) then max (pr (ahead l)) (pr (behind l)) else 0) rfl ?_ rfl rfl
    (fun w => rParse_any l n hn hl w) (fun w => rParse_any _ _ rfl (by omega) w) (fun w => rParse_any _ _ rfl (by omega) w)
    (fun w => ?_) _ rfl ?_
  · rcases atF_spec 0 l (by omega) with ⟨h, _⟩ | ⟨a, t, h3, _, h4⟩
    · exact .inl h
    · refine .inr ⟨by omega, ?_⟩
      rw [h4, ← hn, h3]
      simp only [List.length_append, List.length_cons]
      omega
  · have := rArea_any (pc (ahead l)) (pr (ahead l)) (pc (behind l)) (pr (behind l)) w
    rw [arV_eq] at this
    exact this
  · show paV l = _
    unfold paV
    rw [arV_eq]
end Go.Proofs.YthehdloofamadaaDoor
