/- Variables of two and of four cells. No function of the program here. -/
import Derived.Test.YtjmbmapanmbnhaaDoorGa
namespace Go.Proofs.YtjmbmapanmbnhaaDoor
open Go.RowKit

/-- Two cells of a variable, none of them frozen. -/
def Has2 (w : World) (b : Nat) (x y : Value) : Prop := (w.cell? ⟨b, 0, none⟩ = some x ∧ w.cell? ⟨b, 1, none⟩ = some y) ∧ (w.frozen? ⟨b, 0, none⟩ = false ∧ w.frozen? ⟨b, 1, none⟩ = false)
theorem has2_new (w : World) (x y : Value) (t : TypeId) : Has2 (w.alloc (.cells #[x, y] t)) w.heap.size x y := by
  refine ⟨⟨?_, ?_⟩, ?_, ?_⟩
  · rw [World.cell?_alloc_at _ _ _ _ rfl]; rfl
  · rw [World.cell?_alloc_at _ _ _ _ rfl]; rfl
  · rw [frozen?_alloc_cells, frozen_new]
  · rw [frozen?_alloc_cells, frozen_new]
theorem Has2.put0 {w : World} {b : Nat} {x y : Value} (h : Has2 w b x y) (x' : Value) : Has2 (w.setCell ⟨b, 0, none⟩ x') b x' y := by
  obtain ⟨⟨h0, h1⟩, f0, f1⟩ := h
  refine ⟨⟨World.cell?_setCell_same _ _ _ h0, ?_⟩, ?_, ?_⟩
  · rw [World.cell?_setCell_other _ _ _ _ (by simp)]; exact h1
  · simp only [World.frozen?_setCell]; exact f0
  · simp only [World.frozen?_setCell]; exact f1
theorem Has2.put1 {w : World} {b : Nat} {x y : Value} (h : Has2 w b x y) (y' : Value) : Has2 (w.setCell ⟨b, 1, none⟩ y') b x y' := by
  obtain ⟨⟨h0, h1⟩, f0, f1⟩ := h
  refine ⟨⟨?_, World.cell?_setCell_same _ _ _ h1⟩, ?_, ?_⟩
  · rw [World.cell?_setCell_other _ _ _ _ (by simp)]; exact h0
  · simp only [World.frozen?_setCell]; exact f0
  · simp only [World.frozen?_setCell]; exact f1
theorem Has2.drewN {w : World} {b : Nat} {x y : Value} (h : Has2 w b x y) (d : Nat) : Has2 (w.drewN d) b x y := h

theorem Has2.gr {w w' : World} {b : Nat} {x y : Value} (h : Has2 w b x y) (g : Gr w w') : Has2 w' b x y := by
  obtain ⟨⟨h0, h1⟩, f0, f1⟩ := h
  exact ⟨⟨g.cell (cell_lt h0) h0, g.cell (cell_lt h1) h1⟩, by rw [g.froz, f0], by rw [g.froz, f1]⟩
/-- Four cells of a variable, none of them frozen. -/
structure Has4 (w : World) (b : Nat) (x y z u : Value) : Prop where
  c0 : w.cell? ⟨b, 0, none⟩ = some x
  c1 : w.cell? ⟨b, 1, none⟩ = some y
  c2 : w.cell? ⟨b, 2, none⟩ = some z
  c3 : w.cell? ⟨b, 3, none⟩ = some u
  f0 : w.frozen? ⟨b, 0, none⟩ = false
  f1 : w.frozen? ⟨b, 1, none⟩ = false
  f2 : w.frozen? ⟨b, 2, none⟩ = false
  f3 : w.frozen? ⟨b, 3, none⟩ = false
theorem has4_new (w : World) (x y z u : Value) (t : TypeId) : Has4 (w.alloc (.cells #[x, y, z, u] t)) w.heap.size x y z u := by
  constructor
  · rw [World.cell?_alloc_at _ _ _ _ rfl]; rfl
  · rw [World.cell?_alloc_at _ _ _ _ rfl]; rfl
  · rw [World.cell?_alloc_at _ _ _ _ rfl]; rfl
  · rw [World.cell?_alloc_at _ _ _ _ rfl]; rfl
  · rw [frozen?_alloc_cells, frozen_new]
  · rw [frozen?_alloc_cells, frozen_new]
  · rw [frozen?_alloc_cells, frozen_new]
  · rw [frozen?_alloc_cells, frozen_new]
theorem Has4.gr {w w' : World} {b : Nat} {x y z u : Value} (h : Has4 w b x y z u) (g : Gr w w') : Has4 w' b x y z u :=
  ⟨g.cell (cell_lt h.c0) h.c0, g.cell (cell_lt h.c1) h.c1, g.cell (cell_lt h.c2) h.c2, g.cell (cell_lt h.c3) h.c3, by rw [g.froz, h.f0], by rw [g.froz, h.f1], by rw [g.froz, h.f2], by rw [g.froz, h.f3]⟩
/-- The same once they are written. -/
theorem Has4.put {w : World} {b : Nat} {x y z u : Value} (h : Has4 w b x y z u) (x' y' z' u' : Value) :
    Has4 ((((w.setCell ⟨b, 0, none⟩ x').setCell ⟨b, 1, none⟩ y').setCell ⟨b, 2, none⟩ z').setCell ⟨b, 3, none⟩ u') b x' y' z' u' := by
  constructor
  · rw [World.cell?_setCell_other _ _ _ _ (by simp), World.cell?_setCell_other _ _ _ _ (by simp), World.cell?_setCell_other _ _ _ _ (by simp), World.cell?_setCell_same _ _ _ h.c0]
  · rw [World.cell?_setCell_other _ _ _ _ (by simp), World.cell?_setCell_other _ _ _ _ (by simp), World.cell?_setCell_same _ _ _ (by rw [World.cell?_setCell_other _ _ _ _ (by simp)]; exact h.c1)]
  · rw [World.cell?_setCell_other _ _ _ _ (by simp), World.cell?_setCell_same _ _ _ (by rw [World.cell?_setCell_other _ _ _ _ (by simp), World.cell?_setCell_other _ _ _ _ (by simp)]; exact h.c2)]
  · rw [World.cell?_setCell_same _ _ _ (by rw [World.cell?_setCell_other _ _ _ _ (by simp), World.cell?_setCell_other _ _ _ _ (by simp), World.cell?_setCell_other _ _ _ _ (by simp)]; exact h.c3)]
  · simp only [World.frozen?_setCell]; exact h.f0
  · simp only [World.frozen?_setCell]; exact h.f1
  · simp only [World.frozen?_setCell]; exact h.f2
  · simp only [World.frozen?_setCell]; exact h.f3
theorem Gr.put4 {w w1 : World} {b : Nat} (h : Gr w w1) (hb : w.heap.size ≤ b) (x y z u : Value) : Gr w ((((w1.setCell ⟨b, 0, none⟩ x).setCell ⟨b, 1, none⟩ y).setCell ⟨b, 2, none⟩ z).setCell ⟨b, 3, none⟩ u) :=
  (((h.setCell _ _ hb).setCell _ _ hb).setCell _ _ hb).setCell _ _ hb
end Go.Proofs.YtjmbmapanmbnhaaDoor
