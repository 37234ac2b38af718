/- A grid's map, one content more or another one. No function of the program here. -/
import Derived.Test.YtjmbmapanmbnhaaDoorUd
import Derived.Test.YtjmbmapanmbnhaaDoorUk
namespace Go.Proofs.YtjmbmapanmbnhaaDoor
open Go.RowKit Go.Maps

/-- The contents behind a put. -/
def putL (L : List Cc) (k : Int × Int) (ct : Ct) : List Cc := (k, ct) :: L.filter (fun x => decide (x.1 ≠ k))
theorem filt_none {L : List Cc} {k : Int × Int} (h : ∀ ct, (k, ct) ∉ L) : L.filter (fun x => decide (x.1 ≠ k)) = L := by
  rw [List.filter_eq_self]
  intro x hx
  simp only [ne_eq, decide_not, Bool.not_eq_true', decide_eq_false_iff_not]
  intro e
  exact h x.2 (by rw [← e]; exact hx)
theorem filt_one {k : Int × Int} {ct : Ct} : ∀ {L : List Cc}, L.Pairwise (fun x y => x.1 ≠ y.1) → (k, ct) ∈ L → (L.filter (fun x => decide (x.1 ≠ k))).length + 1 = L.length
  | [], _, h => by cases h
  | x :: L, hp, h => by
    have hp' := List.pairwise_cons.1 hp
    rcases List.mem_cons.1 h with e | e
    · have hn : ∀ c', (k, c') ∉ L := fun c' hc' => (hp'.1 _ hc') (by rw [← e])
      have hx : x.1 = k := by rw [← e]
      rw [List.filter_cons_of_neg (by simp [hx]), filt_none hn, List.length_cons]
    · have hx : x.1 ≠ k := hp'.1 _ e
      rw [List.filter_cons_of_pos (by simp [hx]), List.length_cons, List.length_cons, filt_one hp'.2 e]
theorem putL_once {L : List Cc} {k : Int × Int} {ct : Ct} (h : L.Pairwise (fun x y => x.1 ≠ y.1)) : (putL L k ct).Pairwise (fun x y => x.1 ≠ y.1) := by
  refine List.pairwise_cons.2 ⟨fun x hx => ?_, List.Pairwise.filter _ h⟩
  have := (List.mem_filter.1 hx).2
  simp only [ne_eq, decide_not, Bool.not_eq_true', decide_eq_false_iff_not] at this
  exact fun e => this e.symm
theorem putL_mem {L : List Cc} {k : Int × Int} {ct : Ct} (x : Cc) : x ∈ putL L k ct ↔ x = (k, ct) ∨ (x ∈ L ∧ x.1 ≠ k) := by
  unfold putL
  rw [List.mem_cons, List.mem_filter]
  simp
theorem grid_put {w w' : World} {F : Nat → Prop} {D : DataW Value} {L : List Cc} {m n : Nat} {c r : Int} {ct : Ct} {sl : Value} (hown : w.ownsMap Tryd.prog 26 rawE m n D) (hm : MapHas w F D L) (hc : I64 c) (hr : I64 r) (hin : NdIn w' F sl ct.t) (hold : ∀ sl t, NdIn w F sl t → NdIn w' F sl t) :
    MapHas w' F (D.put (kl c r) (.held (ct.val sl))) (putL L (c, r) ct) := by
  have hkey := kl_key hc hr
  have hput := key_put lawAddr hkey hown.isMap (.held (ct.val sl))
  have hT := hown.tidy lawAddr
  have hne : ∀ x y, I64 x → I64 y → (x, y) ≠ (c, r) → kl x y ≠ kl c r := fun x y hx hy h e => h (by
    have := kl_inj hx hy hc hr e
    exact Prod.ext this.1 this.2)
  refine ⟨?_, fun x hx => ?_, fun x y hx hy => ?_, fun x y ct' h => ?_, putL_once hm.once⟩
  · rw [size_put hT, hm.size]
    unfold putL
    rw [List.length_cons]
    by_cases hh : Maps.has D (kl c r) = true
    · obtain ⟨ct', hmem⟩ := (hm.keys c r hc hr).1 hh
      rw [if_pos hh, filt_one hm.once hmem]
    · rw [if_neg hh, filt_none (fun ct' hmem => hh ((hm.keys c r hc hr).2 ⟨ct', hmem⟩))]
  · rcases (putL_mem x).1 hx with rfl | ⟨h, _⟩
    · exact ⟨hc, hr⟩
    · exact hm.rng x h
  · by_cases e : (x, y) = (c, r)
    · cases e
      exact ⟨fun _ => ⟨ct, (putL_mem _).2 (.inl rfl)⟩, fun _ => hput.1⟩
    · rw [has_put_other (hne x y hx hy e), hm.keys x y hx hy]
      constructor
      · rintro ⟨ct', h⟩; exact ⟨ct', (putL_mem _).2 (.inr ⟨h, e⟩)⟩
      · rintro ⟨ct', h⟩
        rcases (putL_mem _).1 h with h | h
        · cases h; exact absurd rfl e
        · exact ⟨ct', h.1⟩
  · rcases (putL_mem _).1 h with h | ⟨h, e⟩
    · cases h
      exact ⟨sl, hput.2 _, hin⟩
    · have hxy := hm.rng _ h
      obtain ⟨sl', e1, e2⟩ := hm.vals x y ct' h
      exact ⟨sl', by rw [atKey_put_other (hne x y hxy.1 hxy.2 e)]; exact e1, hold _ _ e2⟩
end Go.Proofs.YtjmbmapanmbnhaaDoor
