/- A world with new blocks laid behind it and draws made: nothing that was there turns. Small closers. No function of the program here. -/
import Derived.RowKit3
import Derived.Extends
import Derived.Deep.Draws
import Derived.Test.YtjmbmapanmbnhaaDoorRows
import Derived.WalkKit
import Derived.WalkSpells
import Derived.WalkLawsBesides
namespace Go.Proofs.YtjmbmapanmbnhaaDoor
open Go.RowKit

structure Gr (w w' : World) : Prop where
  ext : w.Extends w'
  froz : ∀ a, w'.frozen? a = w.frozen? a

namespace Gr
theorem refl (w : World) : Gr w w := ⟨World.Extends.refl w, fun _ => rfl⟩
theorem trans {w w1 w2 : World} (h : Gr w w1) (g : Gr w1 w2) : Gr w w2 := ⟨h.ext.trans g.ext, fun a => (g.froz a).trans (h.froz a)⟩
theorem alloc {w w1 : World} (h : Gr w w1) (c : Array Value) (t : TypeId) : Gr w (w1.alloc (.cells c t)) := ⟨h.ext.alloc _, fun a => (frozen?_alloc_cells _ _ _ a).trans (h.froz a)⟩
theorem setCell {w w1 : World} (h : Gr w w1) (a : Addr) (v : Value) (ha : w.heap.size ≤ a.block) : Gr w (w1.setCell a v) := ⟨h.ext.setCell a v ha, fun x => (World.frozen?_setCell _ _ _ _).trans (h.froz x)⟩
theorem drew {w w1 : World} (h : Gr w w1) : Gr w w1.drew := ⟨h.ext.drew, h.froz⟩
theorem drewN {w w1 : World} (h : Gr w w1) (n : Nat) : Gr w (w1.drewN n) := ⟨⟨h.ext.os, h.ext.tape, h.ext.output, h.ext.size, h.ext.cell, h.ext.frozen, h.ext.block⟩, h.froz⟩
theorem of_drew {w w' : World} (h : ∃ d, w' = w.drewN d) : Gr w w' := by
  obtain ⟨d, rfl⟩ := h
  exact (Gr.refl w).drewN d
theorem of_eq {w w' : World} (h : w' = w) : Gr w w' := by subst h; exact Gr.refl _
theorem kept {w w' : World} (h : Gr w w') (may : MemPlace → Prop) : w.keptBut w' may := by
  refine ⟨h.ext.os, h.ext.output, fun i hi => ?_⟩
  rw [h.ext.block i hi]
  cases w.heap[i]? with
  | none => rfl
  | some o => cases o <;> simp
theorem cell {w w' : World} (h : Gr w w') {a : Addr} {v : Value} (hb : a.block < w.heap.size) (hc : w.cell? a = some v) : w'.cell? a = some v := by rw [h.ext.cell a hb, hc]
end Gr

theorem cell_lt {w : World} {b j : Nat} {v : Value} (h : w.cell? ⟨b, j, none⟩ = some v) : b < w.heap.size := by
  rcases Nat.lt_or_ge b w.heap.size with c | c
  · exact c
  · have : w.heap[b]? = none := by simp [c]
    simp [World.cell?, this] at h
theorem frozen_new (w : World) (j : Nat) : w.frozen? ⟨w.heap.size, j, none⟩ = false := by
  simp [World.frozen?]
/-- Three cells of a variable, none of them frozen. -/
def Has3 (w : World) (b : Nat) (x y z : Value) : Prop := (w.cell? ⟨b, 0, none⟩ = some x ∧ w.cell? ⟨b, 1, none⟩ = some y ∧ w.cell? ⟨b, 2, none⟩ = some z) ∧ (w.frozen? ⟨b, 0, none⟩ = false ∧ w.frozen? ⟨b, 1, none⟩ = false ∧ w.frozen? ⟨b, 2, none⟩ = false)
theorem has3_new (w : World) (x y z : Value) (t : TypeId) : Has3 (w.alloc (.cells #[x, y, z] t)) w.heap.size x y z := by
  refine ⟨⟨?_, ?_, ?_⟩, ?_, ?_, ?_⟩
  · rw [World.cell?_alloc_at _ _ _ _ rfl]; rfl
  · rw [World.cell?_alloc_at _ _ _ _ rfl]; rfl
  · rw [World.cell?_alloc_at _ _ _ _ rfl]; rfl
  · rw [frozen?_alloc_cells, frozen_new]
  · rw [frozen?_alloc_cells, frozen_new]
  · rw [frozen?_alloc_cells, frozen_new]
theorem Has3.gr {w w' : World} {b : Nat} {x y z : Value} (h : Has3 w b x y z) (g : Gr w w') : Has3 w' b x y z := by
  obtain ⟨⟨h0, h1, h2⟩, f0, f1, f2⟩ := h
  exact ⟨⟨g.cell (cell_lt h0) h0, g.cell (cell_lt h1) h1, g.cell (cell_lt h2) h2⟩, by rw [g.froz, f0], by rw [g.froz, f1], by rw [g.froz, f2]⟩
/-- The same once they are written. -/
theorem Has3.put {w : World} {b : Nat} {x y z : Value} (h : Has3 w b x y z) (x' y' z' : Value) : Has3 (((w.setCell ⟨b, 0, none⟩ x').setCell ⟨b, 1, none⟩ y').setCell ⟨b, 2, none⟩ z') b x' y' z' := by
  obtain ⟨⟨h0, h1, h2⟩, f0, f1, f2⟩ := h
  refine ⟨⟨?_, ?_, ?_⟩, ?_, ?_, ?_⟩
  · rw [World.cell?_setCell_other _ _ _ _ (by simp), World.cell?_setCell_other _ _ _ _ (by simp), World.cell?_setCell_same _ _ _ h0]
  · rw [World.cell?_setCell_other _ _ _ _ (by simp), World.cell?_setCell_same _ _ _ (by rw [World.cell?_setCell_other _ _ _ _ (by simp)]; exact h1)]
  · rw [World.cell?_setCell_same _ _ _ (by rw [World.cell?_setCell_other _ _ _ _ (by simp), World.cell?_setCell_other _ _ _ _ (by simp)]; exact h2)]
  · simp only [World.frozen?_setCell]; exact f0
  · simp only [World.frozen?_setCell]; exact f1
  · simp only [World.frozen?_setCell]; exact f2
theorem rInt {k : IntKind} {a b : Int} (h : a = b) : Ending.returned (.int k a) = .returned (.int k b) := by rw [h]
theorem rBool {a b : Bool} (h : a = b) : Ending.returned (.bool a) = .returned (.bool b) := by rw [h]
theorem rTwo {a b c d : Value} (h1 : a = c) (h2 : b = d) : Ending.returned (.tuple #[a, b]) = .returned (.tuple #[c, d]) := by rw [h1, h2]
theorem vInt {k : IntKind} {a b : Int} (h : a = b) : Value.int k a = .int k b := by rw [h]
theorem vBool {a b : Bool} (h : a = b) : Value.bool a = .bool b := by rw [h]
theorem vStr {a b : List UInt8} (h : a = b) : Value.string ⟨a.toArray⟩ = .string ⟨b.toArray⟩ := by rw [h]
theorem vAgg {a b : Array Value} (h : a = b) : Value.agg a = .agg b := by rw [h]
end Go.Proofs.YtjmbmapanmbnhaaDoor
