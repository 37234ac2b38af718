/- There is a circle just if an order of all is refused; what hangs on itself, by places and by cells. No program here. -/
import Derived.Test.YtdlieecpckpemaaGreatDoorLhTj
import Derived.Test.YtdlieecpckpemaaGreatDoorLhOd
namespace Go.Proofs.YtdlieecpckpemaaGreatDoor.Tj
theorem none_iff {N : Nat} {use : Nat → Nat → Bool} {P : List Int} (hlt : ∀ p q, use p q = true → p < N ∧ q < N) :
    Od.go N use P N 0 (fun q => decide (q < N)) = none ↔ ∃ x, x < N ∧ Cy (fun a b => use b a = true) x := by
  constructor
  · intro h
    obtain ⟨S, ⟨p, hp, hS⟩, _, h3⟩ := Od.go_none N use h (Od.size_all N)
    exact circle_of (use := fun p q => use p q = true) (S := fun p => p < N ∧ S p = true) ⟨p, hp, hS⟩ (fun p hp => ⟨hp.1, by obtain ⟨q, h1, h2, h4⟩ := h3 p hp.1 hp.2; exact ⟨q, ⟨h1, h2⟩, h4⟩⟩)
  · rintro ⟨x, hx, hc⟩
    obtain ⟨S, h1, h2⟩ := of_circle (use := fun p q => use p q = true) (N := N) (fun p q h => (hlt p q h).1) hx hc
    cases hg : Od.go N use P N 0 (fun q => decide (q < N)) with
    | none => rfl
    | some o =>
      exfalso
      have hd : ∀ p, (Classical.propDecidable (S p)).decide = true ↔ S p := fun p => by simp
      refine Od.no_circle N use hg (Od.size_all N) (S := fun p => (Classical.propDecidable (S p)).decide) ⟨x, hx, (hd x).2 h1⟩ (fun p hp => ?_) (fun p hp hS => ?_)
      · have := (h2 p ((hd p).1 hp)).1
        simpa using this
      · obtain ⟨_, q, hq, hu⟩ := h2 p ((hd p).1 hS)
        exact ⟨q, (hlt p q hu).2, (hd q).2 hq, hu⟩
section
variable {α : Type} {uses : α → α → Prop} {L : List α} {E : Nat → Nat → Prop}
theorem cy_hang (hE : ∀ a b x y, L[a]? = some x → L[b]? = some y → (E a b ↔ uses y x)) (hlt : ∀ a b, E a b → a < L.length ∧ b < L.length) (hset : ∀ x y, uses x y → x ∈ L)
    {i : Nat} {x : α} (hi : L[i]? = some x) : Cy E i ↔ Hg uses x x := by
  constructor
  · rintro ⟨y, h1, h2⟩
    have hy := (hlt i y h1).2
    obtain ⟨z, hz⟩ : ∃ z, L[y]? = some z := ⟨_, List.getElem?_eq_getElem hy⟩
    exact hang_of (fun a b x y h1 h2 h3 => (hE a b x y h1 h2).1 h3) hlt h2 hz hi ((hE i y x z hi hz).1 h1)
  · intro h
    obtain ⟨p, z, h1, h2, h3⟩ := hang_to (fun a b x y h1 h2 h3 => (hE a b x y h1 h2).2 h3) hset h hi
    exact ⟨p, (hE i p x z hi h1).2 h2, h3⟩
theorem some_cy (hE : ∀ a b x y, L[a]? = some x → L[b]? = some y → (E a b ↔ uses y x)) (hlt : ∀ a b, E a b → a < L.length ∧ b < L.length) (hset : ∀ x y, uses x y → x ∈ L) :
    (∃ i, i < L.length ∧ Cy E i) ↔ ∃ x, Hg uses x x := by
  constructor
  · rintro ⟨i, hi, hc⟩
    exact ⟨_, (cy_hang hE hlt hset (List.getElem?_eq_getElem hi)).1 hc⟩
  · rintro ⟨x, hx⟩
    have hm : x ∈ L := by
      cases hx with
      | one h => exact hset _ _ h
      | step h _ => exact hset _ _ h
    obtain ⟨i, hi⟩ := List.mem_iff_getElem?.1 hm
    exact ⟨i, (List.getElem?_eq_some_iff.1 hi).1, (cy_hang hE hlt hset hi).2 hx⟩
end
end Go.Proofs.YtdlieecpckpemaaGreatDoor.Tj
