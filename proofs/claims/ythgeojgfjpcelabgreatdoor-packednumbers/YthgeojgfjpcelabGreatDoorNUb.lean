/- Contents that came in, with all their nodes, opened. -/
import Derived.Test.YthgeojgfjpcelabGreatDoorNGa
import Derived.Deep.Slices
import Derived.ChangeSame
import Derived.OpenShut
namespace Go.Proofs.YthgeojgfjpcelabGreatDoor
open Go.ChangeShapes Go.WideShapes Go.RowKit Go.Deep

section
variable {H : Type} {enc : TypeId × Value → H} {w : World} {base : Nat}

instance : Inhabited Nd := ⟨.mk ⟨0, 0, 0, ⟨#[]⟩, false, 0, 0, 0, false, false, 0, 0, false, false⟩ []⟩
theorem by_each {α : Type} [Inhabited α] {len : Nat} {p : Nat → α → Prop} (h : ∀ i, i < len → ∃ x, p i x) : ∃ A : List α, A.length = len ∧ ∀ (i : Nat) (x : α), A[i]? = some x → p i x := by
  obtain ⟨f, hf⟩ := choose_lt h
  refine ⟨(List.range len).map f, by simp, fun i x hx => ?_⟩
  rw [List.getElem?_map] at hx
  rcases Nat.lt_or_ge i len with hi | hi
  · rw [List.getElem?_range hi] at hx
    simp only [Option.map_some, Option.some.injEq] at hx
    rw [← hx]; exact hf i hi
  · rw [List.getElem?_eq_none (by simpa using hi)] at hx; cases hx
end
end Go.Proofs.YthgeojgfjpcelabGreatDoor
