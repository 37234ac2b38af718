/- slices.Compact of cells. -/
import Derived.Test.YtkgolfmnlbmmeaaGreatDoorZd
import Derived.BigQuiet
import Derived.Lib.SliceRun
namespace Go.Proofs.YtkgolfmnlbmmeaaGreatDoor
open Go.RowKit Go.Sort Go.Lib

/-- A row of cells that may be written. -/
def RowA (w : World) (b o : Nat) (d : Array (Int × Int)) : Prop := ∀ j, j < d.size → (w.cell? ⟨b, o + j * 2, none⟩ = some (.int .i64 d[j]!.1) ∧ w.cell? ⟨b, o + j * 2 + 1, none⟩ = some (.int .i64 d[j]!.2)) ∧ (w.frozen? ⟨b, o + j * 2, none⟩ = false ∧ w.frozen? ⟨b, o + j * 2 + 1, none⟩ = false)
theorem RowA.of {w : World} {b o : Nat} {d : Array (Int × Int)} (h : HoldsK encA 2 w b o d) : RowA w b o d := fun j hj => by
  have h0 := h.cell (i := j) (c := 0) hj (by decide)
  have h1 := h.cell (i := j) (c := 1) hj (by decide)
  exact ⟨⟨h0.1, h1.1⟩, h0.2, h1.2⟩
theorem RowA.set {w : World} {b o : Nat} {d : Array (Int × Int)} (h : RowA w b o d) (i : Nat) (hi : i < d.size) (x : Int × Int) :
    RowA ((w.setCell ⟨b, o + i * 2, none⟩ (.int .i64 x.1)).setCell ⟨b, o + i * 2 + 1, none⟩ (.int .i64 x.2)) b o (d.setIfInBounds i x) := fun j hj => by
  have hj' : j < d.size := by simpa using hj
  obtain ⟨⟨h1, h2⟩, h3, h4⟩ := h j hj'
  refine ⟨?_, by rw [World.frozen?_setCell, World.frozen?_setCell]; exact h3, by rw [World.frozen?_setCell, World.frozen?_setCell]; exact h4⟩
  by_cases e : j = i
  · subst e
    rw [getElem!_set_same d j x hj']
    refine ⟨?_, ?_⟩
    · rw [World.cell?_setCell_other _ _ _ _ (by simp), World.cell?_setCell_same _ _ _ h1]
    · have h2' : (w.setCell ⟨b, o + j * 2, none⟩ (.int .i64 x.1)).cell? ⟨b, o + j * 2 + 1, none⟩ = some (.int .i64 d[j]!.2) := by rw [World.cell?_setCell_other _ _ _ _ (by simp)]; exact h2
      exact World.cell?_setCell_same _ _ _ h2'
  · rw [getElem!_set_other d i j x e]
    have n1 : o + j * 2 ≠ o + i * 2 := by omega
    have n2 : o + j * 2 ≠ o + i * 2 + 1 := by omega
    have n3 : o + j * 2 + 1 ≠ o + i * 2 := by omega
    have n4 : o + j * 2 + 1 ≠ o + i * 2 + 1 := by omega
    have m1 : (⟨b, o + j * 2, none⟩ : Addr) ≠ ⟨b, o + i * 2, none⟩ := fun h => n1 (congrArg Addr.off h)
    have m2 : (⟨b, o + j * 2, none⟩ : Addr) ≠ ⟨b, o + i * 2 + 1, none⟩ := fun h => n2 (congrArg Addr.off h)
    have m3 : (⟨b, o + j * 2 + 1, none⟩ : Addr) ≠ ⟨b, o + i * 2, none⟩ := fun h => n3 (congrArg Addr.off h)
    have m4 : (⟨b, o + j * 2 + 1, none⟩ : Addr) ≠ ⟨b, o + i * 2 + 1, none⟩ := fun h => n4 (congrArg Addr.off h)
    exact ⟨by rw [World.cell?_setCell_other _ _ _ _ m2.symm, World.cell?_setCell_other _ _ _ _ m1.symm]; exact h1, by rw [World.cell?_setCell_other _ _ _ _ m4.symm, World.cell?_setCell_other _ _ _ _ m3.symm]; exact h2⟩
theorem setCells_kp (b : Nat) : ∀ (vs : List Value) (o : Nat) (w : World), Kp w (w.setCells b o vs) (fun i => i = b)
  | [], o, w => Kp.refl _ _
  | v :: r, o, w => by
    rw [World.setCells]
    exact ((Kp.refl w (fun i => i = b)).setCell ⟨b, o, none⟩ v (.inr rfl)).trans (setCells_kp b r (o + 1) _)
theorem setCells_low (b : Nat) : ∀ (vs : List Value) (o : Nat) (w : World) (j : Nat), j < o → (w.setCells b o vs).cell? ⟨b, j, none⟩ = w.cell? ⟨b, j, none⟩
  | [], o, w, j, _ => rfl
  | v :: r, o, w, j, h => by
    rw [World.setCells, setCells_low b r (o + 1) _ j (by omega), World.cell?_setCell_other _ _ _ _ (fun h => by have := congrArg Addr.off h; simp at this; omega)]
/-- clear of a slice of structs. -/
theorem clear_is (w : World) (t e ty : TypeId) (z : Value) (ht : Tryz.prog.underlying t = some (.slice e)) (hv : ∀ w, (zeroValue e).run Tryz.prog w = .ok z w) (b o n c : Nat) (hn : 0 < n)
    (hc : ∀ j, j < (Builtin.zeroCells z.cells n).toList.length → (w.cell? ⟨b, o + j, none⟩).isSome = true) (hf : ∀ j, j < (Builtin.zeroCells z.cells n).toList.length → w.frozen? ⟨b, o + j, none⟩ = false) (h1 : ∀ v ∈ (Builtin.zeroCells z.cells n).toList, v.oneCell' = true) :
    (Builtin.clear_ #[t] ty #[.slice (some ⟨b, o, none⟩) n c]).run Tryz.prog w = .ok (.tuple #[]) (w.setCells b o (Builtin.zeroCells z.cells n).toList) := by
  have hst := run_storeCells_cells (P := Tryz.prog) b o (Builtin.zeroCells z.cells n).toList 0 w (by simpa using hc) (by simpa using hf) h1
  simp only [Nat.add_zero] at hst
  obtain ⟨m, rfl⟩ : ∃ m, n = m + 1 := ⟨n - 1, by omega⟩
  simp [Builtin.clear_, run_underlying ht, hv, hst]
theorem RowA.low {w w' : World} {b o : Nat} {d : Array (Int × Int)} (h : RowA w b o d) (m : Nat) (hl : ∀ j, j < m * 2 → w'.cell? ⟨b, o + j, none⟩ = w.cell? ⟨b, o + j, none⟩) : CellsAt w' b o (d.toList.take m) := fun i x hx => by
  rw [List.getElem?_take] at hx
  split at hx
  · rename_i hi
    obtain ⟨hi2, hx⟩ := List.getElem?_eq_some_iff.1 hx
    have hi3 : i < d.size := by simpa using hi2
    have ex : d[i]! = x := by rw [getElem!_pos d _ hi3, ← hx]; simp
    obtain ⟨⟨h1, h2⟩, _⟩ := h i hi3
    rw [ex] at h1 h2
    rw [hl (i * 2) (by omega), Nat.add_assoc o, hl (i * 2 + 1) (by omega), ← Nat.add_assoc]
    exact ⟨h1, h2⟩
  · cases hx
theorem zeroAddr_cells (n : Nat) : (Builtin.zeroCells (Value.agg #[.int .i64 0, .int .i64 0]).cells n).toList = List.replicate (n * 2) (.int .i64 0) := by
  apply List.ext_getElem?
  intro i
  simp only [Builtin.zeroCells, Value.cells, Array.toList_map, List.getElem?_map, Array.toList_range, List.getElem?_replicate]
  by_cases h : i < n * 2
  · rw [if_pos h, List.getElem?_range (by simpa using h)]
    have : i % 2 = 0 ∨ i % 2 = 1 := by omega
    rcases this with e | e <;> simp [e]
  · rw [if_neg h, List.getElem?_eq_none (by simpa using h)]
    rfl
end Go.Proofs.YtkgolfmnlbmmeaaGreatDoor
