/- LinksFull: what holds of the cells that are set. -/
import Derived.Test.YtkgolfmnlbmmeaaVd
namespace Go.Proofs.Ytkgolfmnlbmmeaa
open Go.RowKit Go.Sort Go.Lib Go.Maps

/-- The first k cells, row by row, each without areas. -/
def usF (k : Nat) : Int × Int → Option (List Ar) := fun x => if 1 ≤ x.1 ∧ x.1 ≤ 256 ∧ 1 ≤ x.2 ∧ (x.2 - 1) * 256 + (x.1 - 1) < (k : Int) then some [] else none
theorem usF_zero : usF 0 = fun _ => none := by
  funext x
  unfold usF
  rw [if_neg]
  rintro ⟨h1, h2, h3, h4⟩
  have : 0 ≤ (x.2 - 1) * 256 := by omega
  omega
theorem no_al {al : List Ar} (h : ∀ a, a ∈ al ↔ a ∈ ([] : List Ar)) : al = [] := List.eq_nil_iff_forall_not_mem.2 (fun a ha => by simpa using (h a).1 ha)
theorem set_new {us us' : Int × Int → Option (List Ar)} {n n' : Nat} {x : Int × Int} {er : Int} (hx : VC x) (hu : us x = none) (hn : n < 4096) (h : SetIs us n x [] er us' n') : er = 0 ∧ n' = n + 1 ∧ us' = updU us x [] := by
  have hv := (vc_iff' x).2 hx
  rcases h with ⟨_, _, h⟩ | ⟨_, _, _, _, h5, al, h6, h7, h8⟩
  · rcases h with ⟨h, _⟩ | ⟨_, h, _⟩ | ⟨_, _, h, _⟩ | ⟨_, _, _, h, _⟩
    · rw [hv] at h; cases h
    · simp at h
    · simp at h
    · omega
  · rw [no_al h6] at h7
    refine ⟨h5, ?_, h7⟩
    rw [h8]; unfold cntU; rw [hu]; rfl
theorem set_full {us us' : Int × Int → Option (List Ar)} {n' : Nat} {x : Int × Int} {er : Int} (hx : VC x) (hu : us x = none) (h : SetIs us 4096 x [] er us' n') : er = 41 ∧ n' = 4096 ∧ us' = us := by
  have hv := (vc_iff' x).2 hx
  rcases h with ⟨h1, h2, h⟩ | ⟨_, _, _, h, _⟩
  · rcases h with ⟨h, _⟩ | ⟨_, h, _⟩ | ⟨_, _, h, _⟩ | ⟨_, _, _, _, _, h⟩
    · rw [hv] at h; cases h
    · simp at h
    · simp at h
    · exact ⟨h, h2, h1⟩
  · rcases h with h | h
    · omega
    · rw [hu] at h; cases h
theorem set_again {us us' : Int × Int → Option (List Ar)} {n n' : Nat} {x y : Int × Int} {er : Int} (hx : VC x) (hy : VC y) (hu : (us x).isSome = true) (h : SetIs us n x [⟨y.1, y.2, y.1, y.2⟩] er us' n') : er = 0 ∧ n' = n ∧ ∃ al, (∀ a, a ∈ al ↔ a = (⟨y.1, y.2, y.1, y.2⟩ : Ar)) ∧ us' = updU us x al := by
  have hv := (vc_iff' x).2 hx
  have ha : ([⟨y.1, y.2, y.1, y.2⟩] : List Ar).any (fun a => !vR a) = false := by
    have := (vc_iff' y).2 hy
    simp [vR, vA, this]
  rcases h with ⟨_, _, h⟩ | ⟨_, _, _, _, h5, al, h6, h7, h8⟩
  · rcases h with ⟨h, _⟩ | ⟨_, h, _⟩ | ⟨_, _, h, _⟩ | ⟨_, _, _, _, h, _⟩
    · rw [hv] at h; cases h
    · simp at h
    · rw [ha] at h; cases h
    · rw [h] at hu; cases hu
  · refine ⟨h5, ?_, al, fun a => ?_, h7⟩
    · rw [h8]; unfold cntU; rw [if_pos hu]
    · rw [h6]; simp
theorem full_step {k : Nat} (hk : k < 4096) {c r er : Int} {us' : Int × Int → Option (List Ar)} {n' : Nat} (hc : 1 ≤ c ∧ c ≤ 256) (hr : 1 ≤ r) (he : (r - 1) * 256 + (c - 1) = (k : Int)) (h : SetIs (usF k) k (c, r) [] er us' n') : er = 0 ∧ n' = k + 1 ∧ us' = usF (k + 1) := by
  have hx : VC (c, r) := by unfold VC; simp only; omega
  have hu : usF k (c, r) = none := by unfold usF; rw [if_neg (by simp only; omega)]
  obtain ⟨h1, h2, h3⟩ := set_new hx hu hk h
  refine ⟨h1, h2, ?_⟩
  rw [h3]
  funext ⟨y1, y2⟩
  unfold updU usF
  simp only
  by_cases e : ((y1, y2) : Int × Int) = (c, r)
  · rw [if_pos e]
    cases e
    rw [if_pos (by omega)]
  · rw [if_neg e]
    by_cases hy : 1 ≤ y1 ∧ y1 ≤ 256 ∧ 1 ≤ y2 ∧ (y2 - 1) * 256 + (y1 - 1) < (k : Int)
    · rw [if_pos hy, if_pos (by omega)]
    · rw [if_neg hy, if_neg]
      rintro ⟨g1, g2, g3, g4⟩
      have g5 : (y2 - 1) * 256 + (y1 - 1) = (k : Int) := by
        have : ¬ (y2 - 1) * 256 + (y1 - 1) < (k : Int) := fun h => hy ⟨g1, g2, g3, h⟩
        omega
      exact e (Prod.ext (by simp only; omega) (by simp only; omega))
theorem usF_all {x : Int × Int} (hx : VC x) : (usF 4096 x).isSome = decide (x.2 ≤ 16) := by
  obtain ⟨h1, h2, h3, h4⟩ := hx
  unfold usF
  by_cases h : x.2 ≤ 16
  · rw [if_pos (by omega)]; simp [h]
  · rw [if_neg (by omega)]; simp [h]
theorem full_users {x y : Int × Int} {al : List Ar} (hy : VC y) (ha : ∀ a, a ∈ al ↔ a = (⟨y.1, y.2, y.1, y.2⟩ : Ar)) {L : List (Int × Int)} (hs : Strict L) (hm : ∀ z, z ∈ L ↔ (updU (usF 4096) x al z).any (anyHas y) = true) : L = [x] := by
  refine hs.same (L' := [x]) (List.pairwise_singleton _ _) (fun z => ?_)
  rw [hm]
  unfold updU
  by_cases e : z = x
  · rw [if_pos e]
    simp only [Option.any_some, List.mem_singleton, e, iff_true]
    unfold anyHas
    rw [List.any_eq_true]
    refine ⟨_, (ha _).2 rfl, ?_⟩
    have := (vc_iff' y).2 hy
    simp [inA, vA, this]
  · rw [if_neg e]
    simp only [List.mem_singleton, e, iff_false]
    unfold usF
    split
    · simp [anyHas]
    · simp
end Go.Proofs.Ytkgolfmnlbmmeaa
