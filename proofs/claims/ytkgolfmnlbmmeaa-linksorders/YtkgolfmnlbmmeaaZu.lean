/- LinksOrders: what holds of the lists. -/
import Derived.Test.YtkgolfmnlbmmeaaZt
namespace Go.Proofs.Ytkgolfmnlbmmeaa
open Go.RowKit Go.Sort Go.Lib Go.Maps

theorem nodup_inj {α : Type} {L : List α} (h : L.Nodup) {i j : Nat} {x : α} (hi : L[i]? = some x) (hj : L[j]? = some x) : i = j := by
  obtain ⟨l1, f1⟩ := List.getElem?_eq_some_iff.1 hi
  obtain ⟨l2, f2⟩ := List.getElem?_eq_some_iff.1 hj
  rcases Nat.lt_trichotomy i j with c | c | c
  · exact absurd (f1.trans f2.symm) (List.pairwise_iff_getElem.1 h i j l1 l2 c)
  · exact c
  · exact absurd (f2.trans f1.symm) (List.pairwise_iff_getElem.1 h j i l2 l1 c)
theorem nodup_of {α : Type} {L : List α} (h : ∀ (i j : Nat) (x : α), L[i]? = some x → L[j]? = some x → i = j) : L.Nodup :=
  List.pairwise_iff_getElem.2 (fun i j hi hj hij e => by
    have := h i j L[i] (List.getElem?_eq_getElem hi) (by rw [List.getElem?_eq_getElem hj, e])
    omega)
/-- Does cell x use cell y? -/
def usesC (us : Int × Int → Option (List Ar)) (x y : Int × Int) : Bool := (us x).any (anyHas y)
/-- An order of the cells of A, each once, none ahead of one that it uses. -/
structure GoodO (us : Int × Int → Option (List Ar)) (A R : List (Int × Int)) : Prop where
  mem : ∀ x, x ∈ R ↔ x ∈ A
  nod : R.Nodup
  beh : ∀ (k i : Nat) (x y : Int × Int), R[k]? = some x → R[i]? = some y → k ≤ i → usesC us x y = false
theorem any_has {us : Int × Int → Option (List Ar)} (hok : ∀ x al, us x = some al → ∀ a ∈ al, a.ok) {L : List (Int × Int)} {p q : Nat} {x y : Int × Int} (hp : L[p]? = some x) (hq : L[q]? = some y) : usesC us x y = useP L us p q := by
  unfold usesC useP
  rw [hp]
  simp only
  cases hu : us x with
  | none => rfl
  | some al =>
    simp only [Option.any_some, Option.getD_some, anyHas]
    have h := hok x al hu
    clear hu hok
    induction al with
    | nil => rfl
    | cons a al ih =>
      rw [List.any_cons, List.any_cons, ih (fun b hb => h b (List.mem_cons_of_mem _ hb))]
      congr 1
      have ha := h a (List.mem_cons_self)
      unfold inPl
      rw [hq]
      simp only [Ar.has, inA]
      have hv : vA a.c1 a.r1 a.c2 a.r2 = true := by
        unfold Ar.ok at ha
        unfold vA vC
        simp only [Bool.and_eq_true, decide_eq_true_eq]
        omega
      rw [hv, Bool.true_and]
theorem good_of {us : Int × Int → Option (List Ar)} (hok : ∀ x al, us x = some al → ∀ a ∈ al, a.ok) {L A R : List (Int × Int)} {P : List Int} {o : List Nat} (hs : Strict L) (hm : ∀ x, x ∈ L ↔ x ∈ A) (hg : Od.go L.length (useP L us) P L.length 0 (allM L) = some o) (hR : R.length = L.length) (ho : o.length = L.length) (hi : ∀ (i p : Nat), o[i]? = some p → L[p]? = R[i]?) : GoodO us A R := by
  obtain ⟨_, h2, h3, h4, h5⟩ := Od.go_told _ _ hg (Od.size_all _)
  have at' : ∀ (i : Nat) (x : Int × Int), R[i]? = some x → ∃ p, o[i]? = some p ∧ L[p]? = some x := fun i x hx => by
    have hlt := (List.getElem?_eq_some_iff.1 hx).1
    refine ⟨o[i]'(by omega), List.getElem?_eq_getElem _, ?_⟩
    rw [hi i _ (List.getElem?_eq_getElem (by omega)), hx]
  have hnL : L.Nodup := by
    refine List.Pairwise.imp ?_ hs
    intro a b h e
    subst e
    rw [swoA.irrefl] at h; cases h
  refine ⟨fun x => ?_, ?_, fun k i x y hx hy hki => ?_⟩
  · rw [← hm]
    constructor
    · intro hx
      obtain ⟨i, hx⟩ := List.mem_iff_getElem?.1 hx
      obtain ⟨p, _, e⟩ := at' i x hx
      exact List.mem_of_getElem? e
    · intro hx
      obtain ⟨p, hx⟩ := List.mem_iff_getElem?.1 hx
      have hlt := (List.getElem?_eq_some_iff.1 hx).1
      have hpo : p ∈ o := (h3 p).2 ⟨hlt, by unfold allM; simpa using hlt⟩
      obtain ⟨i, hio⟩ := List.mem_iff_getElem?.1 hpo
      have := hi i p hio
      rw [hx] at this
      exact List.mem_of_getElem? this.symm
  · refine nodup_of (fun i j x hx hy => ?_)
    obtain ⟨p, e1, e2⟩ := at' i x hx
    obtain ⟨q, e3, e4⟩ := at' j x hy
    have := nodup_inj hnL e2 e4
    subst this
    exact nodup_inj h2 e1 e3
  · obtain ⟨p, e1, e2⟩ := at' k x hx
    obtain ⟨q, e3, e4⟩ := at' i y hy
    rw [any_has hok e2 e4]
    rcases Nat.lt_or_ge k i with h | h
    · obtain ⟨l1, f1⟩ := List.getElem?_eq_some_iff.1 e1
      obtain ⟨l2, f2⟩ := List.getElem?_eq_some_iff.1 e3
      have := (List.pairwise_iff_getElem.1 h4) k i l1 l2 h
      rw [f1, f2] at this
      exact this
    · have : k = i := by omega
      subst this
      rw [e1] at e3
      cases e3
      exact h5 p (List.mem_of_getElem? e1)
theorem orders_same {us : Int × Int → Option (List Ar)} (hok : ∀ x al, us x = some al → ∀ a ∈ al, a.ok) {A : List (Int × Int)} {P P' : List Int} {B B' : Nat} {w w' : World} {v v' : Value} {er er' : Int} (h : ReadyIs us A P B w v er) (h' : ReadyIs us A P' B' w' v' er') :
    er' = er ∧ ((er = 40 ∧ v = .slice none 0 0 ∧ v' = .slice none 0 0) ∨ (er = 0 ∧ ∃ R R' b b', v = .slice (some ⟨b, 0, none⟩) R.length R.length ∧ v' = .slice (some ⟨b', 0, none⟩) R.length R.length ∧ R'.length = R.length ∧ R.length ≤ A.length ∧ CellsAt w b 0 R ∧ CellsAt w' b' 0 R' ∧ GoodO us A R ∧ GoodO us A R')) := by
  obtain ⟨L, hs, hm, h⟩ := h
  obtain ⟨L', hs', hm', h'⟩ := h'
  have hL : L' = L := hs'.same hs (fun x => by rw [hm, hm'])
  subst hL
  have hany := Od.go_any L'.length (useP L' us) P P' (allM L') L'.length 0 0 (Od.size_all _)
  have hnL : L'.Nodup := by
    refine List.Pairwise.imp ?_ hs
    intro a b h e
    subst e
    rw [swoA.irrefl] at h; cases h
  have hle : L'.length ≤ A.length := hnL.length_le_of_subset (fun x hx => (hm x).1 hx)
  rcases h with ⟨h1, h2, h3⟩ | ⟨o, R, b, h1, h2, h3, h4, h5, h6, h7, h8⟩
  · rcases h' with ⟨g1, g2, g3⟩ | ⟨o', R', b', g1, _⟩
    · exact ⟨by rw [g3, h3], .inl ⟨h3, h2, g2⟩⟩
    · rw [hany.1 h1] at g1; cases g1
  · rcases h' with ⟨g1, g2, g3⟩ | ⟨o', R', b', g1, g2, g3, g4, g5, g6, g7, g8⟩
    · rw [hany.2 g1] at h1; cases h1
    · refine ⟨by rw [g8, h8], .inr ⟨h8, R, R', b, b', h5, by rw [g5, g2, h2], by rw [g2, h2], by omega, h7, g7, good_of hok hs hm h1 h2 h3 h4, good_of hok hs hm g1 g2 g3 g4⟩⟩
end Go.Proofs.Ytkgolfmnlbmmeaa
