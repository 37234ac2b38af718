/- A world with new blocks laid behind it and draws made: nothing that was there turns. Small closers. No function of the program here. Cells and areas: plain functions. No program here. Variables of two and of four cells. No function of the program here. Cells and areas held against one another by == and !=. -/
import Derived.RowKit3
import Derived.Extends
import Derived.Deep.Draws
import Derived.Test.YtdlieecpckpemaaGreatDoorRows
import Derived.WalkKit
import Derived.WalkSpells
import Derived.WalkLawsBesides
namespace Go.Proofs.YtdlieecpckpemaaGreatDoor
open Go.RowKit

structure Gr (w w' : World) : Prop where
  ext : w.Extends w'
  froz : ∀ a, w'.frozen? a = w.frozen? a

namespace Gr
theorem refl (w : World) : Gr w w := ⟨World.Extends.refl w, fun _ => rfl⟩
theorem trans {w w1 w2 : World} (h : Gr w w1) (g : Gr w1 w2) : Gr w w2 := ⟨h.ext.trans g.ext, fun a => (g.froz a).trans (h.froz a)⟩
theorem alloc {w w1 : World} (h : Gr w w1) (c : Array Value) (t : TypeId) : Gr w (w1.alloc (.cells c t)) := ⟨h.ext.alloc _, fun a => (frozen?_alloc_cells _ _ _ a).trans (h.froz a)⟩
theorem setCell {w w1 : World} (h : Gr w w1) (a : Addr) (v : Value) (ha : w.heap.size ≤ a.block) : Gr w (w1.setCell a v) := ⟨h.ext.setCell a v ha, fun x => (World.frozen?_setCell _ _ _ _).trans (h.froz x)⟩
theorem drew {w w1 : World} (h : Gr w w1) : Gr w w1.drew := ⟨h.ext.drew, h.froz⟩
theorem drewN {w w1 : World} (h : Gr w w1) (n : Nat) : Gr w (w1.drewN n) := ⟨⟨h.ext.os, h.ext.tape, h.ext.output, h.ext.size, h.ext.cell, h.ext.frozen, h.ext.block⟩, h.froz⟩
theorem of_drew {w w' : World} (h : ∃ d, w' = w.drewN d) : Gr w w' := by
  obtain ⟨d, rfl⟩ := h
  exact (Gr.refl w).drewN d
theorem kept {w w' : World} (h : Gr w w') (may : MemPlace → Prop) : w.keptBut w' may := by
  refine ⟨h.ext.os, h.ext.output, fun i hi => ?_⟩
  rw [h.ext.block i hi]
  cases w.heap[i]? with
  | none => rfl
  | some o => cases o <;> simp
theorem cell {w w' : World} (h : Gr w w') {a : Addr} {v : Value} (hb : a.block < w.heap.size) (hc : w.cell? a = some v) : w'.cell? a = some v := by rw [h.ext.cell a hb, hc]
end Gr

theorem cell_lt {w : World} {b j : Nat} {v : Value} (h : w.cell? ⟨b, j, none⟩ = some v) : b < w.heap.size := by
  rcases Nat.lt_or_ge b w.heap.size with c | c
  · exact c
  · have : w.heap[b]? = none := by simp [c]
    simp [World.cell?, this] at h
theorem frozen_new (w : World) (j : Nat) : w.frozen? ⟨w.heap.size, j, none⟩ = false := by
  simp [World.frozen?]
theorem rInt {k : IntKind} {a b : Int} (h : a = b) : Ending.returned (.int k a) = .returned (.int k b) := by rw [h]
theorem rBool {a b : Bool} (h : a = b) : Ending.returned (.bool a) = .returned (.bool b) := by rw [h]
end Go.Proofs.YtdlieecpckpemaaGreatDoor
namespace Go.Proofs.YtdlieecpckpemaaGreatDoor
open Go.RowKit

/-- Is it a cell? -/
def vC (c r : Int) : Bool := decide (1 ≤ c) && decide (c ≤ 256) && decide (1 ≤ r) && decide (r ≤ 4096)
def cmpI (a b : Int) : Int := if a < b then -1 else if b < a then 1 else 0
def ordC (c r d s : Int) : Int := if cmpI r s = 0 then cmpI c d else cmpI r s
/-- May an area be? -/
def vA (c r d s : Int) : Bool := vC c r && vC d s && decide (c ≤ d) && decide (r ≤ s)
def inA (c r d s x y : Int) : Bool := vA c r d s && decide (c ≤ x) && decide (x ≤ d) && decide (r ≤ y) && decide (y ≤ s)
theorem vC_iff (c r : Int) : vC c r = true ↔ 1 ≤ c ∧ c ≤ 256 ∧ 1 ≤ r ∧ r ≤ 4096 := by
  simp [vC, Bool.and_eq_true, and_assoc]
theorem vA_bd (c r d s : Int) : vA c r d s = true → 1 ≤ c ∧ c ≤ d ∧ d ≤ 256 ∧ 1 ≤ r ∧ r ≤ s ∧ s ≤ 4096 := by
  simp only [vA, vC, Bool.and_eq_true, decide_eq_true_eq]
  omega
end Go.Proofs.YtdlieecpckpemaaGreatDoor
namespace Go.Proofs.YtdlieecpckpemaaGreatDoor
open Go.RowKit

/-- Two cells of a variable, none of them frozen. -/
def Has2 (w : World) (b : Nat) (x y : Value) : Prop := (w.cell? ⟨b, 0, none⟩ = some x ∧ w.cell? ⟨b, 1, none⟩ = some y) ∧ (w.frozen? ⟨b, 0, none⟩ = false ∧ w.frozen? ⟨b, 1, none⟩ = false)
theorem has2_new (w : World) (x y : Value) (t : TypeId) : Has2 (w.alloc (.cells #[x, y] t)) w.heap.size x y := by
  refine ⟨⟨?_, ?_⟩, ?_, ?_⟩
  · rw [World.cell?_alloc_at _ _ _ _ rfl]; rfl
  · rw [World.cell?_alloc_at _ _ _ _ rfl]; rfl
  · rw [frozen?_alloc_cells, frozen_new]
  · rw [frozen?_alloc_cells, frozen_new]
theorem Has2.gr {w w' : World} {b : Nat} {x y : Value} (h : Has2 w b x y) (g : Gr w w') : Has2 w' b x y := by
  obtain ⟨⟨h0, h1⟩, f0, f1⟩ := h
  exact ⟨⟨g.cell (cell_lt h0) h0, g.cell (cell_lt h1) h1⟩, by rw [g.froz, f0], by rw [g.froz, f1]⟩
/-- Four cells of a variable, none of them frozen. -/
structure Has4 (w : World) (b : Nat) (x y z u : Value) : Prop where
  c0 : w.cell? ⟨b, 0, none⟩ = some x
  c1 : w.cell? ⟨b, 1, none⟩ = some y
  c2 : w.cell? ⟨b, 2, none⟩ = some z
  c3 : w.cell? ⟨b, 3, none⟩ = some u
  f0 : w.frozen? ⟨b, 0, none⟩ = false
  f1 : w.frozen? ⟨b, 1, none⟩ = false
  f2 : w.frozen? ⟨b, 2, none⟩ = false
  f3 : w.frozen? ⟨b, 3, none⟩ = false
theorem has4_new (w : World) (x y z u : Value) (t : TypeId) : Has4 (w.alloc (.cells #[x, y, z, u] t)) w.heap.size x y z u := by
  constructor
  · rw [World.cell?_alloc_at _ _ _ _ rfl]; rfl
  · rw [World.cell?_alloc_at _ _ _ _ rfl]; rfl
  · rw [World.cell?_alloc_at _ _ _ _ rfl]; rfl
  · rw [World.cell?_alloc_at _ _ _ _ rfl]; rfl
  · rw [frozen?_alloc_cells, frozen_new]
  · rw [frozen?_alloc_cells, frozen_new]
  · rw [frozen?_alloc_cells, frozen_new]
  · rw [frozen?_alloc_cells, frozen_new]
theorem Has4.gr {w w' : World} {b : Nat} {x y z u : Value} (h : Has4 w b x y z u) (g : Gr w w') : Has4 w' b x y z u :=
  ⟨g.cell (cell_lt h.c0) h.c0, g.cell (cell_lt h.c1) h.c1, g.cell (cell_lt h.c2) h.c2, g.cell (cell_lt h.c3) h.c3, by rw [g.froz, h.f0], by rw [g.froz, h.f1], by rw [g.froz, h.f2], by rw [g.froz, h.f3]⟩
/-- The same once they are written. -/
theorem Has4.put {w : World} {b : Nat} {x y z u : Value} (h : Has4 w b x y z u) (x' y' z' u' : Value) :
    Has4 ((((w.setCell ⟨b, 0, none⟩ x').setCell ⟨b, 1, none⟩ y').setCell ⟨b, 2, none⟩ z').setCell ⟨b, 3, none⟩ u') b x' y' z' u' := by
  constructor
  · rw [World.cell?_setCell_other _ _ _ _ (by simp), World.cell?_setCell_other _ _ _ _ (by simp), World.cell?_setCell_other _ _ _ _ (by simp), World.cell?_setCell_same _ _ _ h.c0]
  · rw [World.cell?_setCell_other _ _ _ _ (by simp), World.cell?_setCell_other _ _ _ _ (by simp), World.cell?_setCell_same _ _ _ (by rw [World.cell?_setCell_other _ _ _ _ (by simp)]; exact h.c1)]
  · rw [World.cell?_setCell_other _ _ _ _ (by simp), World.cell?_setCell_same _ _ _ (by rw [World.cell?_setCell_other _ _ _ _ (by simp), World.cell?_setCell_other _ _ _ _ (by simp)]; exact h.c2)]
  · rw [World.cell?_setCell_same _ _ _ (by rw [World.cell?_setCell_other _ _ _ _ (by simp), World.cell?_setCell_other _ _ _ _ (by simp), World.cell?_setCell_other _ _ _ _ (by simp)]; exact h.c3)]
  · simp only [World.frozen?_setCell]; exact h.f0
  · simp only [World.frozen?_setCell]; exact h.f1
  · simp only [World.frozen?_setCell]; exact h.f2
  · simp only [World.frozen?_setCell]; exact h.f3
theorem Gr.put4 {w w1 : World} {b : Nat} (h : Gr w w1) (hb : w.heap.size ≤ b) (x y z u : Value) : Gr w ((((w1.setCell ⟨b, 0, none⟩ x).setCell ⟨b, 1, none⟩ y).setCell ⟨b, 2, none⟩ z).setCell ⟨b, 3, none⟩ u) :=
  (((h.setCell _ _ hb).setCell _ _ hb).setCell _ _ hb).setCell _ _ hb
end Go.Proofs.YtdlieecpckpemaaGreatDoor
namespace Go.Proofs.YtdlieecpckpemaaGreatDoor
open Go.RowKit

theorem eql_addr (a b c d : Int) (T : Bool) (hT : (a == c && b == d) = T) (w : World) : (binOp .eql 29 (.agg #[.int .i64 a, .int .i64 b]) (.agg #[.int .i64 c, .int .i64 d])).run Tryz.prog w = .ok (.bool T) w := by
  subst hT
  by_cases h1 : a = c
  · subst h1
    by_cases h2 : b = d
    · subst h2
      simp [go_sem]
    · have h2' : (b == d) = false := by simpa using h2
      simp [go_sem, h2']
  · have h1' : (a == c) = false := by simpa using h1
    simp [go_sem, h1']
theorem neq_addr (a b c d : Int) (T : Bool) (hT : (a == c && b == d) = T) (w : World) : (binOp .neq 29 (.agg #[.int .i64 a, .int .i64 b]) (.agg #[.int .i64 c, .int .i64 d])).run Tryz.prog w = .ok (.bool (!T)) w := by
  subst hT
  by_cases h1 : a = c
  · subst h1
    by_cases h2 : b = d
    · subst h2
      simp [go_sem]
    · have h2' : (b == d) = false := by simpa using h2
      simp [go_sem, h2']
  · have h1' : (a == c) = false := by simpa using h1
    simp [go_sem, h1']
theorem eql_area (a b c d e f g h : Int) (T : Bool) (hT : (a == e && b == f && (c == g && d == h)) = T) (w : World) : (binOp .eql 52 (.agg #[.int .i64 a, .int .i64 b, .int .i64 c, .int .i64 d]) (.agg #[.int .i64 e, .int .i64 f, .int .i64 g, .int .i64 h])).run Tryz.prog w = .ok (.bool T) w := by
  subst hT
  by_cases h1 : a = e
  · subst h1
    by_cases h2 : b = f
    · subst h2
      by_cases h3 : c = g
      · subst h3
        by_cases h4 : d = h
        · subst h4
          simp [go_sem]
        · have h4' : (d == h) = false := by simpa using h4
          simp [go_sem, h4']
      · have h3' : (c == g) = false := by simpa using h3
        simp [go_sem, h3']
    · have h2' : (b == f) = false := by simpa using h2
      simp [go_sem, h2']
  · have h1' : (a == e) = false := by simpa using h1
    simp [go_sem, h1']
theorem neq_area (a b c d e f g h : Int) (T : Bool) (hT : (a == e && b == f && (c == g && d == h)) = T) (w : World) : (binOp .neq 52 (.agg #[.int .i64 a, .int .i64 b, .int .i64 c, .int .i64 d]) (.agg #[.int .i64 e, .int .i64 f, .int .i64 g, .int .i64 h])).run Tryz.prog w = .ok (.bool (!T)) w := by
  subst hT
  by_cases h1 : a = e
  · subst h1
    by_cases h2 : b = f
    · subst h2
      by_cases h3 : c = g
      · subst h3
        by_cases h4 : d = h
        · subst h4
          simp [go_sem]
        · have h4' : (d == h) = false := by simpa using h4
          simp [go_sem, h4']
      · have h3' : (c == g) = false := by simpa using h3
        simp [go_sem, h3']
    · have h2' : (b == f) = false := by simpa using h2
      simp [go_sem, h2']
  · have h1' : (a == e) = false := by simpa using h1
    simp [go_sem, h1']
end Go.Proofs.YtdlieecpckpemaaGreatDoor
