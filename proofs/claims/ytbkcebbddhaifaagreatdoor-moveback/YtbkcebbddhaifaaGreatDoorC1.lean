/- A world with new blocks laid behind it and draws made: nothing that was there turns. Small closers. No function of the program here. Variables of two and of four cells. No function of the program here. Nodes as data: trees of fields; how they lie in memory. No function of the program here. -/
import Derived.RowKit3
import Derived.Extends
import Derived.Deep.Draws
import Derived.Test.YtbkcebbddhaifaaGreatDoorRows
import Derived.WalkKit
import Derived.WalkSpells
import Derived.WalkLawsBesides
import Derived.Deep.MidRow
namespace Go.Proofs.YtbkcebbddhaifaaGreatDoor
open Go.RowKit

structure Gr (w w' : World) : Prop where
  ext : w.Extends w'
  froz : ∀ a, w'.frozen? a = w.frozen? a

namespace Gr
theorem refl (w : World) : Gr w w := ⟨World.Extends.refl w, fun _ => rfl⟩
theorem trans {w w1 w2 : World} (h : Gr w w1) (g : Gr w1 w2) : Gr w w2 := ⟨h.ext.trans g.ext, fun a => (g.froz a).trans (h.froz a)⟩
theorem alloc {w w1 : World} (h : Gr w w1) (c : Array Value) (t : TypeId) : Gr w (w1.alloc (.cells c t)) := ⟨h.ext.alloc _, fun a => (frozen?_alloc_cells _ _ _ a).trans (h.froz a)⟩
theorem setCell {w w1 : World} (h : Gr w w1) (a : Addr) (v : Value) (ha : w.heap.size ≤ a.block) : Gr w (w1.setCell a v) := ⟨h.ext.setCell a v ha, fun x => (World.frozen?_setCell _ _ _ _).trans (h.froz x)⟩
theorem drew {w w1 : World} (h : Gr w w1) : Gr w w1.drew := ⟨h.ext.drew, h.froz⟩
theorem drewN {w w1 : World} (h : Gr w w1) (n : Nat) : Gr w (w1.drewN n) := ⟨⟨h.ext.os, h.ext.tape, h.ext.output, h.ext.size, h.ext.cell, h.ext.frozen, h.ext.block⟩, h.froz⟩
theorem of_drew {w w' : World} (h : ∃ d, w' = w.drewN d) : Gr w w' := by
  obtain ⟨d, rfl⟩ := h
  exact (Gr.refl w).drewN d
theorem of_eq {w w' : World} (h : w' = w) : Gr w w' := by subst h; exact Gr.refl _
theorem kept {w w' : World} (h : Gr w w') (may : MemPlace → Prop) : w.keptBut w' may := by
  refine ⟨h.ext.os, h.ext.output, fun i hi => ?_⟩
  rw [h.ext.block i hi]
  cases w.heap[i]? with
  | none => rfl
  | some o => cases o <;> simp
theorem cell {w w' : World} (h : Gr w w') {a : Addr} {v : Value} (hb : a.block < w.heap.size) (hc : w.cell? a = some v) : w'.cell? a = some v := by rw [h.ext.cell a hb, hc]
end Gr

theorem cell_lt {w : World} {b j : Nat} {v : Value} (h : w.cell? ⟨b, j, none⟩ = some v) : b < w.heap.size := by
  rcases Nat.lt_or_ge b w.heap.size with c | c
  · exact c
  · have : w.heap[b]? = none := by simp [c]
    simp [World.cell?, this] at h
theorem frozen_new (w : World) (j : Nat) : w.frozen? ⟨w.heap.size, j, none⟩ = false := by
  simp [World.frozen?]
/-- Three cells of a variable, none of them frozen. -/
def Has3 (w : World) (b : Nat) (x y z : Value) : Prop := (w.cell? ⟨b, 0, none⟩ = some x ∧ w.cell? ⟨b, 1, none⟩ = some y ∧ w.cell? ⟨b, 2, none⟩ = some z) ∧ (w.frozen? ⟨b, 0, none⟩ = false ∧ w.frozen? ⟨b, 1, none⟩ = false ∧ w.frozen? ⟨b, 2, none⟩ = false)
theorem has3_new (w : World) (x y z : Value) (t : TypeId) : Has3 (w.alloc (.cells #[x, y, z] t)) w.heap.size x y z := by
  refine ⟨⟨?_, ?_, ?_⟩, ?_, ?_, ?_⟩
  · rw [World.cell?_alloc_at _ _ _ _ rfl]; rfl
  · rw [World.cell?_alloc_at _ _ _ _ rfl]; rfl
  · rw [World.cell?_alloc_at _ _ _ _ rfl]; rfl
  · rw [frozen?_alloc_cells, frozen_new]
  · rw [frozen?_alloc_cells, frozen_new]
  · rw [frozen?_alloc_cells, frozen_new]
theorem Has3.gr {w w' : World} {b : Nat} {x y z : Value} (h : Has3 w b x y z) (g : Gr w w') : Has3 w' b x y z := by
  obtain ⟨⟨h0, h1, h2⟩, f0, f1, f2⟩ := h
  exact ⟨⟨g.cell (cell_lt h0) h0, g.cell (cell_lt h1) h1, g.cell (cell_lt h2) h2⟩, by rw [g.froz, f0], by rw [g.froz, f1], by rw [g.froz, f2]⟩
/-- The same once they are written. -/
theorem Has3.put {w : World} {b : Nat} {x y z : Value} (h : Has3 w b x y z) (x' y' z' : Value) : Has3 (((w.setCell ⟨b, 0, none⟩ x').setCell ⟨b, 1, none⟩ y').setCell ⟨b, 2, none⟩ z') b x' y' z' := by
  obtain ⟨⟨h0, h1, h2⟩, f0, f1, f2⟩ := h
  refine ⟨⟨?_, ?_, ?_⟩, ?_, ?_, ?_⟩
  · rw [World.cell?_setCell_other _ _ _ _ (by simp), World.cell?_setCell_other _ _ _ _ (by simp), World.cell?_setCell_same _ _ _ h0]
  · rw [World.cell?_setCell_other _ _ _ _ (by simp), World.cell?_setCell_same _ _ _ (by rw [World.cell?_setCell_other _ _ _ _ (by simp)]; exact h1)]
  · rw [World.cell?_setCell_same _ _ _ (by rw [World.cell?_setCell_other _ _ _ _ (by simp), World.cell?_setCell_other _ _ _ _ (by simp)]; exact h2)]
  · simp only [World.frozen?_setCell]; exact f0
  · simp only [World.frozen?_setCell]; exact f1
  · simp only [World.frozen?_setCell]; exact f2
theorem rInt {k : IntKind} {a b : Int} (h : a = b) : Ending.returned (.int k a) = .returned (.int k b) := by rw [h]
theorem rBool {a b : Bool} (h : a = b) : Ending.returned (.bool a) = .returned (.bool b) := by rw [h]
theorem rTwo {a b c d : Value} (h1 : a = c) (h2 : b = d) : Ending.returned (.tuple #[a, b]) = .returned (.tuple #[c, d]) := by rw [h1, h2]
theorem vInt {k : IntKind} {a b : Int} (h : a = b) : Value.int k a = .int k b := by rw [h]
theorem vBool {a b : Bool} (h : a = b) : Value.bool a = .bool b := by rw [h]
theorem vStr {a b : List UInt8} (h : a = b) : Value.string ⟨a.toArray⟩ = .string ⟨b.toArray⟩ := by rw [h]
theorem vAgg {a b : Array Value} (h : a = b) : Value.agg a = .agg b := by rw [h]
end Go.Proofs.YtbkcebbddhaifaaGreatDoor
namespace Go.Proofs.YtbkcebbddhaifaaGreatDoor
open Go.RowKit

/-- Two cells of a variable, none of them frozen. -/
def Has2 (w : World) (b : Nat) (x y : Value) : Prop := (w.cell? ⟨b, 0, none⟩ = some x ∧ w.cell? ⟨b, 1, none⟩ = some y) ∧ (w.frozen? ⟨b, 0, none⟩ = false ∧ w.frozen? ⟨b, 1, none⟩ = false)
theorem has2_new (w : World) (x y : Value) (t : TypeId) : Has2 (w.alloc (.cells #[x, y] t)) w.heap.size x y := by
  refine ⟨⟨?_, ?_⟩, ?_, ?_⟩
  · rw [World.cell?_alloc_at _ _ _ _ rfl]; rfl
  · rw [World.cell?_alloc_at _ _ _ _ rfl]; rfl
  · rw [frozen?_alloc_cells, frozen_new]
  · rw [frozen?_alloc_cells, frozen_new]
theorem Has2.put0 {w : World} {b : Nat} {x y : Value} (h : Has2 w b x y) (x' : Value) : Has2 (w.setCell ⟨b, 0, none⟩ x') b x' y := by
  obtain ⟨⟨h0, h1⟩, f0, f1⟩ := h
  refine ⟨⟨World.cell?_setCell_same _ _ _ h0, ?_⟩, ?_, ?_⟩
  · rw [World.cell?_setCell_other _ _ _ _ (by simp)]; exact h1
  · simp only [World.frozen?_setCell]; exact f0
  · simp only [World.frozen?_setCell]; exact f1
theorem Has2.put1 {w : World} {b : Nat} {x y : Value} (h : Has2 w b x y) (y' : Value) : Has2 (w.setCell ⟨b, 1, none⟩ y') b x y' := by
  obtain ⟨⟨h0, h1⟩, f0, f1⟩ := h
  refine ⟨⟨?_, World.cell?_setCell_same _ _ _ h1⟩, ?_, ?_⟩
  · rw [World.cell?_setCell_other _ _ _ _ (by simp)]; exact h0
  · simp only [World.frozen?_setCell]; exact f0
  · simp only [World.frozen?_setCell]; exact f1
theorem Has2.drewN {w : World} {b : Nat} {x y : Value} (h : Has2 w b x y) (d : Nat) : Has2 (w.drewN d) b x y := h

theorem Has2.gr {w w' : World} {b : Nat} {x y : Value} (h : Has2 w b x y) (g : Gr w w') : Has2 w' b x y := by
  obtain ⟨⟨h0, h1⟩, f0, f1⟩ := h
  exact ⟨⟨g.cell (cell_lt h0) h0, g.cell (cell_lt h1) h1⟩, by rw [g.froz, f0], by rw [g.froz, f1]⟩
/-- Four cells of a variable, none of them frozen. -/
structure Has4 (w : World) (b : Nat) (x y z u : Value) : Prop where
  c0 : w.cell? ⟨b, 0, none⟩ = some x
  c1 : w.cell? ⟨b, 1, none⟩ = some y
  c2 : w.cell? ⟨b, 2, none⟩ = some z
  c3 : w.cell? ⟨b, 3, none⟩ = some u
  f0 : w.frozen? ⟨b, 0, none⟩ = false
  f1 : w.frozen? ⟨b, 1, none⟩ = false
  f2 : w.frozen? ⟨b, 2, none⟩ = false
  f3 : w.frozen? ⟨b, 3, none⟩ = false
theorem has4_new (w : World) (x y z u : Value) (t : TypeId) : Has4 (w.alloc (.cells #[x, y, z, u] t)) w.heap.size x y z u := by
  constructor
  · rw [World.cell?_alloc_at _ _ _ _ rfl]; rfl
  · rw [World.cell?_alloc_at _ _ _ _ rfl]; rfl
  · rw [World.cell?_alloc_at _ _ _ _ rfl]; rfl
  · rw [World.cell?_alloc_at _ _ _ _ rfl]; rfl
  · rw [frozen?_alloc_cells, frozen_new]
  · rw [frozen?_alloc_cells, frozen_new]
  · rw [frozen?_alloc_cells, frozen_new]
  · rw [frozen?_alloc_cells, frozen_new]
theorem Has4.gr {w w' : World} {b : Nat} {x y z u : Value} (h : Has4 w b x y z u) (g : Gr w w') : Has4 w' b x y z u :=
  ⟨g.cell (cell_lt h.c0) h.c0, g.cell (cell_lt h.c1) h.c1, g.cell (cell_lt h.c2) h.c2, g.cell (cell_lt h.c3) h.c3, by rw [g.froz, h.f0], by rw [g.froz, h.f1], by rw [g.froz, h.f2], by rw [g.froz, h.f3]⟩
/-- The same once they are written. -/
theorem Has4.put {w : World} {b : Nat} {x y z u : Value} (h : Has4 w b x y z u) (x' y' z' u' : Value) :
    Has4 ((((w.setCell ⟨b, 0, none⟩ x').setCell ⟨b, 1, none⟩ y').setCell ⟨b, 2, none⟩ z').setCell ⟨b, 3, none⟩ u') b x' y' z' u' := by
  constructor
  · rw [World.cell?_setCell_other _ _ _ _ (by simp), World.cell?_setCell_other _ _ _ _ (by simp), World.cell?_setCell_other _ _ _ _ (by simp), World.cell?_setCell_same _ _ _ h.c0]
  · rw [World.cell?_setCell_other _ _ _ _ (by simp), World.cell?_setCell_other _ _ _ _ (by simp), World.cell?_setCell_same _ _ _ (by rw [World.cell?_setCell_other _ _ _ _ (by simp)]; exact h.c1)]
  · rw [World.cell?_setCell_other _ _ _ _ (by simp), World.cell?_setCell_same _ _ _ (by rw [World.cell?_setCell_other _ _ _ _ (by simp), World.cell?_setCell_other _ _ _ _ (by simp)]; exact h.c2)]
  · rw [World.cell?_setCell_same _ _ _ (by rw [World.cell?_setCell_other _ _ _ _ (by simp), World.cell?_setCell_other _ _ _ _ (by simp), World.cell?_setCell_other _ _ _ _ (by simp)]; exact h.c3)]
  · simp only [World.frozen?_setCell]; exact h.f0
  · simp only [World.frozen?_setCell]; exact h.f1
  · simp only [World.frozen?_setCell]; exact h.f2
  · simp only [World.frozen?_setCell]; exact h.f3
theorem Gr.put4 {w w1 : World} {b : Nat} (h : Gr w w1) (hb : w.heap.size ≤ b) (x y z u : Value) : Gr w ((((w1.setCell ⟨b, 0, none⟩ x).setCell ⟨b, 1, none⟩ y).setCell ⟨b, 2, none⟩ z).setCell ⟨b, 3, none⟩ u) :=
  (((h.setCell _ _ hb).setCell _ _ hb).setCell _ _ hb).setCell _ _ hb
end Go.Proofs.YtbkcebbddhaifaaGreatDoor
namespace Go.Proofs.YtbkcebbddhaifaaGreatDoor
open Go.RowKit

/-- The fields of a node, all but its list. -/
structure Hd where
  k : Int
  o : Int
  x : Nat
  s : ByteArray
  b : Bool
  f : Int
  c1 : Int
  r1 : Int
  p1 : Bool
  q1 : Bool
  c2 : Int
  r2 : Int
  p2 : Bool
  q2 : Bool

/-- A node with all that stands below it. -/
inductive Nd where
  | mk (h : Hd) (ts : List Nd)
def Nd.hd : Nd → Hd
  | .mk h _ => h
def Nd.ts : Nd → List Nd
  | .mk _ ts => ts
theorem Nd.eta (t : Nd) : t = .mk t.hd t.ts := by cases t; rfl

mutual
/-- How many nodes. -/
def Nd.size : Nd → Nat
  | .mk _ ts => 1 + sizeL ts
def sizeL : List Nd → Nat
  | [] => 0
  | t :: ts => t.size + sizeL ts
end
theorem sizeL_append (a b : List Nd) : sizeL (a ++ b) = sizeL a + sizeL b := by
  induction a with
  | nil => simp [sizeL]
  | cons t ts ih => rw [List.cons_append, sizeL, sizeL, ih, Nat.add_assoc]
theorem sizeL_take (ts : List Nd) (i : Nat) (h : i < ts.length) : sizeL (ts.take (i + 1)) = sizeL (ts.take i) + (ts[i]).size := by
  rw [List.take_add_one, List.getElem?_eq_getElem h, sizeL_append]
  simp [sizeL]
theorem sizeL_take_le (ts : List Nd) (i : Nat) : sizeL (ts.take i) ≤ sizeL ts := by
  conv => rhs; rw [← List.take_append_drop i ts, sizeL_append]
  exact Nat.le_add_right _ _
theorem size_pos (t : Nd) : 1 ≤ t.size := by cases t; rw [Nd.size]; omega
theorem size_get (ts : List Nd) (i : Nat) (h : i < ts.length) : (ts[i]).size ≤ sizeL ts := by
  have := sizeL_take ts i h
  have := sizeL_take_le ts (i + 1)
  omega
theorem length_sizeL (ts : List Nd) : ts.length ≤ sizeL ts := by
  induction ts with
  | nil => simp
  | cons t ts ih => have := size_pos t; rw [sizeL, List.length_cons]; omega

/-- Fifteen cells: a node's, sl its list. -/
abbrev Hd.cells (h : Hd) (sl : Value) : List Value := [.int .i64 h.k, .int .i64 h.o, .float .f64 h.x, .string h.s, .bool h.b, .int .i64 h.f, .int .i64 h.c1, .int .i64 h.r1, .bool h.p1, .bool h.q1, .int .i64 h.c2, .int .i64 h.r2, .bool h.p2, .bool h.q2, sl]
/-- The node as a value. -/
abbrev Hd.val (h : Hd) (sl : Value) : Value := .agg #[.int .i64 h.k, .int .i64 h.o, .float .f64 h.x, .string h.s, .bool h.b, .int .i64 h.f, .int .i64 h.c1, .int .i64 h.r1, .bool h.p1, .bool h.q1, .int .i64 h.c2, .int .i64 h.r2, .bool h.p2, .bool h.q2, sl]

mutual
/-- The list sl has the nodes below t; the blocks of this and of all lists below it are among F. -/
def NdIn (w : World) (F : Nat → Prop) (sl : Value) : Nd → Prop
  | .mk _ ts => ∃ (a : Option Addr) (c : Nat), sl = .slice a ts.length c ∧ ts.length ≤ c ∧ c ≤ maxLen ∧ ((ts = [] ∧ (c = 0 ∨ a ≠ none)) ∨ ∃ b o, a = some ⟨b, o, none⟩ ∧ F b ∧ NdsIn w F b o ts)
/-- The nodes ts lie in block b from o on. -/
def NdsIn (w : World) (F : Nat → Prop) (b o : Nat) : List Nd → Prop
  | [] => True
  | t :: ts => (∃ sl, w.rangeAt b o (t.hd.cells sl) ∧ NdIn w F sl t) ∧ NdsIn w F b (o + 15) ts
end

theorem NdsIn.get {w : World} {F : Nat → Prop} {b : Nat} {ts : List Nd} : ∀ {o : Nat}, NdsIn w F b o ts → ∀ i, (h : i < ts.length) → ∃ sl, w.rangeAt b (o + i * 15) ((ts[i]).hd.cells sl) ∧ NdIn w F sl ts[i] := by
  induction ts with
  | nil => intro o _ i h; exact absurd h (by simp)
  | cons t ts ih =>
    intro o hn i h
    rw [NdsIn] at hn
    cases i with
    | zero => simpa using hn.1
    | succ i =>
      obtain ⟨sl, h1, h2⟩ := ih hn.2 i (by simpa using h)
      refine ⟨sl, ?_, h2⟩
      rw [show o + (i + 1) * 15 = o + 15 + i * 15 by omega]
      exact h1

theorem rangeAt_lt {w : World} {b o : Nat} {v : Value} {cs : List Value} (h : w.rangeAt b o (v :: cs)) : b < w.heap.size :=
  cell_lt (h 0 v rfl)
theorem rangeAt_block {w w' : World} {b o : Nat} {cs : List Value} (h : w.rangeAt b o cs) (hb : w'.heap[b]? = w.heap[b]?) : w'.rangeAt b o cs := by
  intro j v hj
  have := h j v hj
  simp only [World.cell?] at this ⊢
  rw [hb]; exact this
theorem rangeAt_gr {w w' : World} {b o : Nat} {v : Value} {cs : List Value} (h : w.rangeAt b o (v :: cs)) (g : Gr w w') : w'.rangeAt b o (v :: cs) :=
  rangeAt_block h (g.ext.block b (rangeAt_lt h))

mutual
theorem NdIn.mono {w w' : World} {F F' : Nat → Prop} (hF : ∀ b, F b → b < w.heap.size → w'.heap[b]? = w.heap[b]? ∧ F' b) {sl : Value} : ∀ {t : Nd}, NdIn w F sl t → NdIn w' F' sl t
  | .mk _ ts, h => by
    rw [NdIn] at h ⊢
    obtain ⟨a, c, h1, h2, h3, h4⟩ := h
    refine ⟨a, c, h1, h2, h3, ?_⟩
    rcases h4 with h4 | ⟨b, o, h4, h5, h6⟩
    · exact .inl h4
    · cases ts with
      | nil =>
        subst h4
        exact .inl ⟨rfl, .inr (by simp)⟩
      | cons t ts =>
        have hb : b < w.heap.size := by
          rw [NdsIn] at h6
          obtain ⟨⟨_, h7, _⟩, _⟩ := h6
          exact rangeAt_lt h7
        exact .inr ⟨b, o, h4, (hF b h5 hb).2, NdsIn.mono hF (hF b h5 hb).1 h6⟩
theorem NdsIn.mono {w w' : World} {F F' : Nat → Prop} (hF : ∀ b, F b → b < w.heap.size → w'.heap[b]? = w.heap[b]? ∧ F' b) {b : Nat} (hb : w'.heap[b]? = w.heap[b]?) : ∀ {ts : List Nd} {o : Nat}, NdsIn w F b o ts → NdsIn w' F' b o ts
  | [], _, _ => by rw [NdsIn]; trivial
  | t :: ts, o, h => by
    rw [NdsIn] at h ⊢
    obtain ⟨⟨sl, h1, h2⟩, h3⟩ := h
    exact ⟨⟨sl, rangeAt_block h1 hb, NdIn.mono hF h2⟩, NdsIn.mono hF hb h3⟩
end
theorem NdIn.gr {w w' : World} {F : Nat → Prop} {sl : Value} {t : Nd} (h : NdIn w F sl t) (g : Gr w w') : NdIn w' F sl t :=
  h.mono fun b hb hlt => ⟨g.ext.block b hlt, hb⟩
theorem NdsIn.gr {w w' : World} {F : Nat → Prop} {b o : Nat} {ts : List Nd} (h : NdsIn w F b o ts) (hb : b < w.heap.size) (g : Gr w w') : NdsIn w' F b o ts :=
  h.mono (fun b hb hlt => ⟨g.ext.block b hlt, hb⟩) (g.ext.block b hb)
end Go.Proofs.YtbkcebbddhaifaaGreatDoor
