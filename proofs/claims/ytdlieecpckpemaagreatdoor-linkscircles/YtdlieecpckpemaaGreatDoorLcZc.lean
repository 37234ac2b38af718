/- Lists in order, each once. No program here. -/
import Derived.Sort.Statements
import Derived.Lib.SlicesCompact
namespace Go.Proofs.YtdlieecpckpemaaGreatDoor
open Go.Sort Go.Lib

section
variable {α : Type} [Inhabited α] [DecidableEq α] {lt : α → α → Bool}
theorem compact_sorted (_hO : SWO lt) (hT : ∀ x y, lt x y = false → lt y x = false → x = y) (d : Array α) (hs : ∀ i j, i < j → j < d.size → lt d[j]! d[i]! = false) :
    (compactUpTo d d.size).Pairwise (fun x y => lt x y = true) ∧ ∀ x, x ∈ compactUpTo d d.size ↔ x ∈ d.toList := by
  have hstep : ∀ i j, i < j → j < d.size → keeps d j = true → lt d[i]! d[j]! = true := fun i j hij hj hk => by
    have hne : d[j]! ≠ d[j - 1]! := by
      unfold keeps at hk
      simp only [decide_eq_true_eq] at hk
      rcases hk with h | h
      · omega
      · exact h
    cases h : lt d[i]! d[j]! with
    | true => rfl
    | false =>
      exfalso
      have h1 : lt d[j]! d[i]! = false := hs i j hij hj
      have e1 : d[i]! = d[j]! := hT _ _ h h1
      rcases Nat.lt_or_ge i (j - 1) with hlt | hge
      · have h2 := hs i (j - 1) hlt (by omega)
        have h3 := hs (j - 1) j (by omega) hj
        rw [e1] at h2
        exact hne (hT _ _ h3 h2)
      · have : i = j - 1 := by omega
        subst this
        exact hne e1.symm
  constructor
  · unfold compactUpTo
    rw [List.pairwise_map]
    have hp : ((List.range d.size).filter (keeps d)).Pairwise (fun i j => i < j) := List.Pairwise.filter _ List.pairwise_lt_range
    refine List.Pairwise.imp_of_mem ?_ hp
    intro i j hi hj hij
    have hj' := List.mem_filter.1 hj
    exact hstep i j hij (List.mem_range.1 hj'.1) hj'.2
  · intro x
    unfold compactUpTo
    simp only [List.mem_map, List.mem_filter, List.mem_range]
    constructor
    · rintro ⟨j, ⟨hj, _⟩, rfl⟩
      rw [getElem!_pos d j hj]
      simp
    · intro hx
      obtain ⟨j, hj, rfl⟩ := List.mem_iff_getElem.1 hx
      have hj' : j < d.size := by simpa using hj
      have key : ∀ j, j < d.size → ∃ a, (a < d.size ∧ keeps d a = true) ∧ d[a]! = d[j]! := by
        intro j
        induction j with
        | zero => intro h; exact ⟨0, ⟨h, by simp [keeps]⟩, rfl⟩
        | succ j ih =>
          intro h
          by_cases hk : keeps d (j + 1) = true
          · exact ⟨j + 1, ⟨h, hk⟩, rfl⟩
          · have : d[j + 1]! = d[j]! := by
              unfold keeps at hk
              simp only [decide_eq_true_eq, not_or, Nat.add_one_sub_one] at hk
              exact Classical.not_not.1 hk.2
            obtain ⟨a, ha, e⟩ := ih (by omega)
            exact ⟨a, ha, e.trans this.symm⟩
      obtain ⟨a, ha, e⟩ := key j hj'
      refine ⟨a, ha, ?_⟩
      rw [e, getElem!_pos d j hj']
      simp
omit [Inhabited α] [DecidableEq α] in
theorem sorted_same (hi : ∀ x, lt x x = false) (ht : ∀ x y z, lt x y = true → lt y z = true → lt x z = true) : ∀ {l l' : List α}, l.Pairwise (fun x y => lt x y = true) → l'.Pairwise (fun x y => lt x y = true) → (∀ x, x ∈ l ↔ x ∈ l') → l = l'
  | [], [], _, _, _ => rfl
  | [], y :: ys, _, _, h => by have := (h y).2 (List.mem_cons_self ..); cases this
  | x :: xs, [], _, _, h => by have := (h x).1 (List.mem_cons_self ..); cases this
  | x :: xs, y :: ys, h1, h2, h => by
    have p1 := List.pairwise_cons.1 h1
    have p2 := List.pairwise_cons.1 h2
    have exy : x = y := by
      rcases List.mem_cons.1 ((h x).1 (List.mem_cons_self ..)) with e | e
      · exact e
      · rcases List.mem_cons.1 ((h y).2 (List.mem_cons_self ..)) with e' | e'
        · exact e'.symm
        · have := ht _ _ _ (p1.1 y e') (p2.1 x e)
          rw [hi] at this; cases this
    subst exy
    congr 1
    refine sorted_same hi ht p1.2 p2.2 (fun z => ⟨fun hz => ?_, fun hz => ?_⟩)
    · rcases List.mem_cons.1 ((h z).1 (List.mem_cons_of_mem _ hz)) with e | e
      · subst e
        have := p1.1 z hz
        rw [hi] at this; cases this
      · exact e
    · rcases List.mem_cons.1 ((h z).2 (List.mem_cons_of_mem _ hz)) with e | e
      · subst e
        have := p2.1 z hz
        rw [hi] at this; cases this
      · exact e
omit [DecidableEq α] in
/-- What mergeSort makes, as an array. -/
theorem merge_sorted (hO : SWO lt) (d : List α) : ∀ i j, i < j → j < (d.mergeSort (fun x y => !lt y x)).toArray.size → lt ((d.mergeSort (fun x y => !lt y x)).toArray[j]!) ((d.mergeSort (fun x y => !lt y x)).toArray[i]!) = false := by
  have hp := List.pairwise_mergeSort (le := fun x y => !lt y x) (fun a b c h1 h2 => by
    simp only [Bool.not_eq_true'] at h1 h2 ⊢
    exact hO.ntrans c b a h2 h1) (fun a b => by
    cases h : lt b a
    · rfl
    · cases h' : lt a b
      · rfl
      · have := hO.trans _ _ _ h h'
        rw [hO.irrefl] at this; cases this) d
  intro i j hij hj
  have hj' : j < (d.mergeSort (fun x y => !lt y x)).length := by simpa using hj
  have := List.pairwise_iff_getElem.1 hp i j (by omega) hj' hij
  rw [getElem!_pos _ j hj, getElem!_pos _ i (by omega)]
  simpa using this
end
end Go.Proofs.YtdlieecpckpemaaGreatDoor
