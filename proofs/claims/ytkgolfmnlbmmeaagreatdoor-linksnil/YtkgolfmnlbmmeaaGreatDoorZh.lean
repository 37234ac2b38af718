/- ordered, at cells. -/
import Derived.Test.YtkgolfmnlbmmeaaGreatDoorZg
namespace Go.Proofs.YtkgolfmnlbmmeaaGreatDoor
open Go.RowKit Go.Sort Go.Lib

/-- In order, each once. -/
def Strict (L : List (Int × Int)) : Prop := L.Pairwise (fun x y => ltOf cfA x y = true)
theorem Strict.same {L L' : List (Int × Int)} (h : Strict L) (h' : Strict L') (hm : ∀ x, x ∈ L ↔ x ∈ L') : L = L' := sorted_same swoA.irrefl swoA.trans h h' hm
/-- A list in memory, from block B on, or none. -/
def CellsFrom (B : Nat) (w : World) (v : Value) (L : List (Int × Int)) : Prop := ∃ a c, v = .slice a L.length c ∧ ((a = none ∧ L = []) ∨ ∃ b, a = some ⟨b, 0, none⟩ ∧ B ≤ b ∧ CellsAt w b 0 L)
set_option maxHeartbeats 1000000 in
theorem compact_nil (w : World) : Calls Tryz.prog 86 #[.slice none 0 0] w fun e w' => e = .returned (.slice none 0 0) ∧ w' = w := by
  go_enter Tryz.func86, Tryz.ntmps86
  go_wp2
  go_ret
  exact ⟨rfl, rfl⟩
theorem compact_cells (A : List (Int × Int)) (v : Value) (B : Nat) (w : World) (hA : A.length ≤ 1048576) (hv : Own1 encA 2 B w v (A.mergeSort fun x y => !(ltOf cfA) y x)) :
    Calls Tryz.prog 86 #[v] w fun e w' => ∃ L v', e = .returned v' ∧ CellsFrom B w' v' L ∧ (Strict L ∧ L.length ≤ A.length) ∧ (∀ x, x ∈ L ↔ x ∈ A) ∧ Kp w w' (fun i => B ≤ i) := by
  have hmem : ∀ x, x ∈ (A.mergeSort fun x y => !(ltOf cfA) y x) ↔ x ∈ A := fun x => List.mem_mergeSort
  rcases hv with ⟨h0, rfl⟩ | ⟨g, cap, rfl, h2, h3, h4, h5, h6⟩
  · refine (compact_nil w).mono ?_
    rintro e w' ⟨rfl, rfl⟩
    refine ⟨[], _, rfl, ⟨none, 0, rfl, .inl ⟨rfl, rfl⟩⟩, ⟨List.Pairwise.nil, Nat.zero_le _⟩, fun x => ?_, Kp.refl _ _⟩
    rw [← hmem, h0]
  · have hl := List.length_mergeSort (le := fun x y => !(ltOf cfA) y x) A
    refine (compact_at g 0 cap (A.mergeSort fun x y => !(ltOf cfA) y x).toArray w (RowA.of h4) (by simp; omega) (by simp; omega)).mono ?_
    rintro e w' ⟨rfl, hc, hk⟩
    have hs := compact_sorted swoA cfA_same (A.mergeSort fun x y => !(ltOf cfA) y x).toArray (merge_sorted swoA A)
    refine ⟨_, _, rfl, ⟨_, _, rfl, .inr ⟨g, rfl, h2, hc⟩⟩, ⟨hs.1, ?_⟩, fun x => ?_, hk.mono (fun i _ e => by subst e; exact h2)⟩
    · have := List.length_filter_le (keeps (A.mergeSort fun x y => !(ltOf cfA) y x).toArray) (List.range (A.mergeSort fun x y => !(ltOf cfA) y x).toArray.size)
      simp only [compactUpTo, List.length_map]
      simp only [List.length_range, List.size_toArray, hl] at this ⊢
      exact this
    · rw [hs.2, ← hmem]
set_option maxHeartbeats 1000000 in
theorem ordered_at (A : List (Int × Int)) (a : Option Addr) (c : Nat) (w : World) (hA : A.length ≤ 1048576) (ha : 0 < A.length → ∃ b o, a = some ⟨b, o, none⟩ ∧ CellsAt w b o A) :
    Calls Tryz.prog 50 #[.slice a A.length c, .func (.func 51) #[] #[]] w fun e w' => ∃ L v', e = .returned v' ∧ CellsFrom w.heap.size w' v' L ∧ (Strict L ∧ L.length ≤ A.length) ∧ (∀ x, x ∈ L ↔ x ∈ A) ∧ Kp w w' Nul := by
  have H1 : Hid (Calls Tryz.prog 85 #[.slice a A.length c] w fun e w' => ∃ v', e = .returned v' ∧ Own1 encA 2 w.heap.size w' v' A ∧ Kp w w' Nul) := clone_cells A a c w hA ha
  have H2 : Hid (∀ v wq, Own1 encA 2 w.heap.size wq v A → Kp w wq Nul → Calls Tryz.prog 81 #[v, .func (.func 51) #[] #[]] wq fun e w' => e = .returned (.tuple #[]) ∧ Own1 encA 2 w.heap.size w' v (A.mergeSort fun x y => !(ltOf cfA) y x) ∧ Kp w w' Nul) := fun v wq ho hk =>
    (sort_cells A v w.heap.size wq hA ho).mono fun e w' ⟨h1, h2, h3⟩ => ⟨h1, h2, hk.trans' h3 (fun i hi e => absurd e (by omega))⟩
  have H3 : Hid (∀ v wq, Own1 encA 2 w.heap.size wq v (A.mergeSort fun x y => !(ltOf cfA) y x) → Kp w wq Nul → Calls Tryz.prog 86 #[v] wq fun e w' => ∃ L v', e = .returned v' ∧ CellsFrom w.heap.size w' v' L ∧ (Strict L ∧ L.length ≤ A.length) ∧ (∀ x, x ∈ L ↔ x ∈ A) ∧ Kp w w' Nul) := fun v wq ho hk =>
    (compact_cells A v w.heap.size wq hA ho).mono fun e w' ⟨L, v', h1, h2, h3, h4, h5⟩ => ⟨L, v', h1, h2, h3, h4, hk.trans' h5 (fun i hi e => absurd e (by omega))⟩
  generalize A.length = n at *
  clear hA ha
  go_enter Tryz.func50, Tryz.ntmps50
  go_wp2_with fail
  refine H1.out.mono ?_
  rintro e w1 ⟨v1, rfl, ho1, hk1⟩
  go_wp2_with fail
  refine (H2.out v1 w1 ho1 hk1).mono ?_
  rintro e w2 ⟨rfl, ho2, hk2⟩
  go_wp2_with fail
  refine (H3.out v1 w2 ho2 hk2).mono ?_
  rintro e w3 ⟨L, v3, rfl, hc, hs, hm, hk3⟩
  go_wp2_with fail
  go_ret
  exact ⟨L, v3, rfl, hc, hs, hm, hk3⟩
end Go.Proofs.YtkgolfmnlbmmeaaGreatDoor
