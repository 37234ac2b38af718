/- A world with new blocks laid behind it and draws made: nothing that was there turns. Small closers. No function of the program here. Cells and areas: plain functions. No program here. Variables of two and of four cells. No function of the program here. Nodes as data: trees of fields; how they lie in memory. No function of the program here. weight and heavy: how many nodes. Contents as data; heavy. -/
import Derived.RowKit3
import Derived.Extends
import Derived.Deep.Draws
import Derived.Test.YtdaoingmiabbcaaGreatDoorRows
import Derived.WalkKit
import Derived.WalkSpells
import Derived.WalkLawsBesides
import Derived.Deep.MidRow
namespace Go.Proofs.YtdaoingmiabbcaaGreatDoor
open Go.RowKit

structure Gr (w w' : World) : Prop where
  ext : w.Extends w'
  froz : ∀ a, w'.frozen? a = w.frozen? a

namespace Gr
theorem refl (w : World) : Gr w w := ⟨World.Extends.refl w, fun _ => rfl⟩
theorem trans {w w1 w2 : World} (h : Gr w w1) (g : Gr w1 w2) : Gr w w2 := ⟨h.ext.trans g.ext, fun a => (g.froz a).trans (h.froz a)⟩
theorem alloc {w w1 : World} (h : Gr w w1) (c : Array Value) (t : TypeId) : Gr w (w1.alloc (.cells c t)) := ⟨h.ext.alloc _, fun a => (frozen?_alloc_cells _ _ _ a).trans (h.froz a)⟩
theorem setCell {w w1 : World} (h : Gr w w1) (a : Addr) (v : Value) (ha : w.heap.size ≤ a.block) : Gr w (w1.setCell a v) := ⟨h.ext.setCell a v ha, fun x => (World.frozen?_setCell _ _ _ _).trans (h.froz x)⟩
theorem drew {w w1 : World} (h : Gr w w1) : Gr w w1.drew := ⟨h.ext.drew, h.froz⟩
theorem drewN {w w1 : World} (h : Gr w w1) (n : Nat) : Gr w (w1.drewN n) := ⟨⟨h.ext.os, h.ext.tape, h.ext.output, h.ext.size, h.ext.cell, h.ext.frozen, h.ext.block⟩, h.froz⟩
theorem kept {w w' : World} (h : Gr w w') (may : MemPlace → Prop) : w.keptBut w' may := by
  refine ⟨h.ext.os, h.ext.output, fun i hi => ?_⟩
  rw [h.ext.block i hi]
  cases w.heap[i]? with
  | none => rfl
  | some o => cases o <;> simp
theorem cell {w w' : World} (h : Gr w w') {a : Addr} {v : Value} (hb : a.block < w.heap.size) (hc : w.cell? a = some v) : w'.cell? a = some v := by rw [h.ext.cell a hb, hc]
end Gr

theorem cell_lt {w : World} {b j : Nat} {v : Value} (h : w.cell? ⟨b, j, none⟩ = some v) : b < w.heap.size := by
  rcases Nat.lt_or_ge b w.heap.size with c | c
  · exact c
  · have : w.heap[b]? = none := by simp [c]
    simp [World.cell?, this] at h
theorem frozen_new (w : World) (j : Nat) : w.frozen? ⟨w.heap.size, j, none⟩ = false := by
  simp [World.frozen?]
theorem rInt {k : IntKind} {a b : Int} (h : a = b) : Ending.returned (.int k a) = .returned (.int k b) := by rw [h]
theorem rBool {a b : Bool} (h : a = b) : Ending.returned (.bool a) = .returned (.bool b) := by rw [h]
theorem rTwo {a b c d : Value} (h1 : a = c) (h2 : b = d) : Ending.returned (.tuple #[a, b]) = .returned (.tuple #[c, d]) := by rw [h1, h2]
end Go.Proofs.YtdaoingmiabbcaaGreatDoor
namespace Go.Proofs.YtdaoingmiabbcaaGreatDoor
open Go.RowKit

/-- Is it a cell? -/
def vC (c r : Int) : Bool := decide (1 ≤ c) && decide (c ≤ 256) && decide (1 ≤ r) && decide (r ≤ 4096)
def cmpI (a b : Int) : Int := if a < b then -1 else if b < a then 1 else 0
def ordC (c r d s : Int) : Int := if cmpI r s = 0 then cmpI c d else cmpI r s
/-- May an area be? -/
def vA (c r d s : Int) : Bool := vC c r && vC d s && decide (c ≤ d) && decide (r ≤ s)
def inA (c r d s x y : Int) : Bool := vA c r d s && decide (c ≤ x) && decide (x ≤ d) && decide (r ≤ y) && decide (y ≤ s)
def sizeA (c r d s : Int) : Int := if vA c r d s then (d - c + 1) * (s - r + 1) else 0
def areaV (c r d s : Int) : Value := .agg #[.int .i64 c, .int .i64 r, .int .i64 d, .int .i64 s]
/-- The least area that has both. -/
def arE (c r d s : Int) : Int := if vC c r && vC d s then 0 else 20
def arV (c r d s : Int) : Value := if vC c r && vC d s then areaV (min c d) (min r s) (max c d) (max r s) else areaV 0 0 0 0
/-- What both have. -/
def mtO (c r d s c' r' d' s' : Int) : Bool := vA c r d s && vA c' r' d' s' && vA (max c c') (max r r') (min d d') (min s s')
def mtV (c r d s c' r' d' s' : Int) : Value := if mtO c r d s c' r' d' s' then areaV (max c c') (max r r') (min d d') (min s s') else areaV 0 0 0 0

theorem vC_iff (c r : Int) : vC c r = true ↔ 1 ≤ c ∧ c ≤ 256 ∧ 1 ≤ r ∧ r ≤ 4096 := by
  simp [vC, Bool.and_eq_true, and_assoc]
theorem vA_bd (c r d s : Int) : vA c r d s = true → 1 ≤ c ∧ c ≤ d ∧ d ≤ 256 ∧ 1 ≤ r ∧ r ≤ s ∧ s ≤ 4096 := by
  simp only [vA, vC, Bool.and_eq_true, decide_eq_true_eq]
  omega
theorem mul_bd (a b : Int) (h0 : 0 ≤ a) (h1 : a ≤ 10000) (k0 : 0 ≤ b) (k1 : b ≤ 10000) : 0 ≤ a * b ∧ a * b ≤ 100000000 := by
  refine ⟨Int.mul_nonneg h0 k0, ?_⟩
  have := Int.mul_le_mul h1 k1 k0 (by decide)
  omega
end Go.Proofs.YtdaoingmiabbcaaGreatDoor
namespace Go.Proofs.YtdaoingmiabbcaaGreatDoor
open Go.RowKit

/-- Two cells of a variable, none of them frozen. -/
def Has2 (w : World) (b : Nat) (x y : Value) : Prop := (w.cell? ⟨b, 0, none⟩ = some x ∧ w.cell? ⟨b, 1, none⟩ = some y) ∧ (w.frozen? ⟨b, 0, none⟩ = false ∧ w.frozen? ⟨b, 1, none⟩ = false)
theorem has2_new (w : World) (x y : Value) (t : TypeId) : Has2 (w.alloc (.cells #[x, y] t)) w.heap.size x y := by
  refine ⟨⟨?_, ?_⟩, ?_, ?_⟩
  · rw [World.cell?_alloc_at _ _ _ _ rfl]; rfl
  · rw [World.cell?_alloc_at _ _ _ _ rfl]; rfl
  · rw [frozen?_alloc_cells, frozen_new]
  · rw [frozen?_alloc_cells, frozen_new]
theorem Has2.gr {w w' : World} {b : Nat} {x y : Value} (h : Has2 w b x y) (g : Gr w w') : Has2 w' b x y := by
  obtain ⟨⟨h0, h1⟩, f0, f1⟩ := h
  exact ⟨⟨g.cell (cell_lt h0) h0, g.cell (cell_lt h1) h1⟩, by rw [g.froz, f0], by rw [g.froz, f1]⟩
/-- Four cells of a variable, none of them frozen. -/
structure Has4 (w : World) (b : Nat) (x y z u : Value) : Prop where
  c0 : w.cell? ⟨b, 0, none⟩ = some x
  c1 : w.cell? ⟨b, 1, none⟩ = some y
  c2 : w.cell? ⟨b, 2, none⟩ = some z
  c3 : w.cell? ⟨b, 3, none⟩ = some u
  f0 : w.frozen? ⟨b, 0, none⟩ = false
  f1 : w.frozen? ⟨b, 1, none⟩ = false
  f2 : w.frozen? ⟨b, 2, none⟩ = false
  f3 : w.frozen? ⟨b, 3, none⟩ = false
theorem has4_new (w : World) (x y z u : Value) (t : TypeId) : Has4 (w.alloc (.cells #[x, y, z, u] t)) w.heap.size x y z u := by
  constructor
  · rw [World.cell?_alloc_at _ _ _ _ rfl]; rfl
  · rw [World.cell?_alloc_at _ _ _ _ rfl]; rfl
  · rw [World.cell?_alloc_at _ _ _ _ rfl]; rfl
  · rw [World.cell?_alloc_at _ _ _ _ rfl]; rfl
  · rw [frozen?_alloc_cells, frozen_new]
  · rw [frozen?_alloc_cells, frozen_new]
  · rw [frozen?_alloc_cells, frozen_new]
  · rw [frozen?_alloc_cells, frozen_new]
theorem Has4.gr {w w' : World} {b : Nat} {x y z u : Value} (h : Has4 w b x y z u) (g : Gr w w') : Has4 w' b x y z u :=
  ⟨g.cell (cell_lt h.c0) h.c0, g.cell (cell_lt h.c1) h.c1, g.cell (cell_lt h.c2) h.c2, g.cell (cell_lt h.c3) h.c3, by rw [g.froz, h.f0], by rw [g.froz, h.f1], by rw [g.froz, h.f2], by rw [g.froz, h.f3]⟩
/-- The same once they are written. -/
theorem Has4.put {w : World} {b : Nat} {x y z u : Value} (h : Has4 w b x y z u) (x' y' z' u' : Value) :
    Has4 ((((w.setCell ⟨b, 0, none⟩ x').setCell ⟨b, 1, none⟩ y').setCell ⟨b, 2, none⟩ z').setCell ⟨b, 3, none⟩ u') b x' y' z' u' := by
  constructor
  · rw [World.cell?_setCell_other _ _ _ _ (by simp), World.cell?_setCell_other _ _ _ _ (by simp), World.cell?_setCell_other _ _ _ _ (by simp), World.cell?_setCell_same _ _ _ h.c0]
  · rw [World.cell?_setCell_other _ _ _ _ (by simp), World.cell?_setCell_other _ _ _ _ (by simp), World.cell?_setCell_same _ _ _ (by rw [World.cell?_setCell_other _ _ _ _ (by simp)]; exact h.c1)]
  · rw [World.cell?_setCell_other _ _ _ _ (by simp), World.cell?_setCell_same _ _ _ (by rw [World.cell?_setCell_other _ _ _ _ (by simp), World.cell?_setCell_other _ _ _ _ (by simp)]; exact h.c2)]
  · rw [World.cell?_setCell_same _ _ _ (by rw [World.cell?_setCell_other _ _ _ _ (by simp), World.cell?_setCell_other _ _ _ _ (by simp), World.cell?_setCell_other _ _ _ _ (by simp)]; exact h.c3)]
  · simp only [World.frozen?_setCell]; exact h.f0
  · simp only [World.frozen?_setCell]; exact h.f1
  · simp only [World.frozen?_setCell]; exact h.f2
  · simp only [World.frozen?_setCell]; exact h.f3
theorem Gr.put4 {w w1 : World} {b : Nat} (h : Gr w w1) (hb : w.heap.size ≤ b) (x y z u : Value) : Gr w ((((w1.setCell ⟨b, 0, none⟩ x).setCell ⟨b, 1, none⟩ y).setCell ⟨b, 2, none⟩ z).setCell ⟨b, 3, none⟩ u) :=
  (((h.setCell _ _ hb).setCell _ _ hb).setCell _ _ hb).setCell _ _ hb
end Go.Proofs.YtdaoingmiabbcaaGreatDoor
namespace Go.Proofs.YtdaoingmiabbcaaGreatDoor
open Go.RowKit

/-- The fields of a node, all but its list. -/
structure Hd where
  k : Int
  o : Int
  x : Nat
  s : ByteArray
  b : Bool
  f : Int
  c1 : Int
  r1 : Int
  p1 : Bool
  q1 : Bool
  c2 : Int
  r2 : Int
  p2 : Bool
  q2 : Bool

/-- A node with all that stands below it. -/
inductive Nd where
  | mk (h : Hd) (ts : List Nd)
def Nd.hd : Nd → Hd
  | .mk h _ => h
def Nd.ts : Nd → List Nd
  | .mk _ ts => ts
theorem Nd.eta (t : Nd) : t = .mk t.hd t.ts := by cases t; rfl

mutual
/-- How many nodes. -/
def Nd.size : Nd → Nat
  | .mk _ ts => 1 + sizeL ts
def sizeL : List Nd → Nat
  | [] => 0
  | t :: ts => t.size + sizeL ts
end
theorem sizeL_append (a b : List Nd) : sizeL (a ++ b) = sizeL a + sizeL b := by
  induction a with
  | nil => simp [sizeL]
  | cons t ts ih => rw [List.cons_append, sizeL, sizeL, ih, Nat.add_assoc]
theorem sizeL_take (ts : List Nd) (i : Nat) (h : i < ts.length) : sizeL (ts.take (i + 1)) = sizeL (ts.take i) + (ts[i]).size := by
  rw [List.take_add_one, List.getElem?_eq_getElem h, sizeL_append]
  simp [sizeL]
theorem sizeL_take_le (ts : List Nd) (i : Nat) : sizeL (ts.take i) ≤ sizeL ts := by
  conv => rhs; rw [← List.take_append_drop i ts, sizeL_append]
  exact Nat.le_add_right _ _
theorem size_pos (t : Nd) : 1 ≤ t.size := by cases t; rw [Nd.size]; omega
theorem size_get (ts : List Nd) (i : Nat) (h : i < ts.length) : (ts[i]).size ≤ sizeL ts := by
  have := sizeL_take ts i h
  have := sizeL_take_le ts (i + 1)
  omega
theorem length_sizeL (ts : List Nd) : ts.length ≤ sizeL ts := by
  induction ts with
  | nil => simp
  | cons t ts ih => have := size_pos t; rw [sizeL, List.length_cons]; omega

/-- Fifteen cells: a node's, sl its list. -/
abbrev Hd.cells (h : Hd) (sl : Value) : List Value := [.int .i64 h.k, .int .i64 h.o, .float .f64 h.x, .string h.s, .bool h.b, .int .i64 h.f, .int .i64 h.c1, .int .i64 h.r1, .bool h.p1, .bool h.q1, .int .i64 h.c2, .int .i64 h.r2, .bool h.p2, .bool h.q2, sl]
/-- The node as a value. -/
abbrev Hd.val (h : Hd) (sl : Value) : Value := .agg #[.int .i64 h.k, .int .i64 h.o, .float .f64 h.x, .string h.s, .bool h.b, .int .i64 h.f, .int .i64 h.c1, .int .i64 h.r1, .bool h.p1, .bool h.q1, .int .i64 h.c2, .int .i64 h.r2, .bool h.p2, .bool h.q2, sl]

mutual
/-- The list sl has the nodes below t; the blocks of this and of all lists below it are among F. -/
def NdIn (w : World) (F : Nat → Prop) (sl : Value) : Nd → Prop
  | .mk _ ts => ∃ (a : Option Addr) (c : Nat), sl = .slice a ts.length c ∧ ts.length ≤ c ∧ c ≤ maxLen ∧ ((ts = [] ∧ (c = 0 ∨ a ≠ none)) ∨ ∃ b o, a = some ⟨b, o, none⟩ ∧ F b ∧ NdsIn w F b o ts)
/-- The nodes ts lie in block b from o on. -/
def NdsIn (w : World) (F : Nat → Prop) (b o : Nat) : List Nd → Prop
  | [] => True
  | t :: ts => (∃ sl, w.rangeAt b o (t.hd.cells sl) ∧ NdIn w F sl t) ∧ NdsIn w F b (o + 15) ts
end

theorem NdsIn.get {w : World} {F : Nat → Prop} {b : Nat} {ts : List Nd} : ∀ {o : Nat}, NdsIn w F b o ts → ∀ i, (h : i < ts.length) → ∃ sl, w.rangeAt b (o + i * 15) ((ts[i]).hd.cells sl) ∧ NdIn w F sl ts[i] := by
  induction ts with
  | nil => intro o _ i h; exact absurd h (by simp)
  | cons t ts ih =>
    intro o hn i h
    rw [NdsIn] at hn
    cases i with
    | zero => simpa using hn.1
    | succ i =>
      obtain ⟨sl, h1, h2⟩ := ih hn.2 i (by simpa using h)
      refine ⟨sl, ?_, h2⟩
      rw [show o + (i + 1) * 15 = o + 15 + i * 15 by omega]
      exact h1

theorem rangeAt_lt {w : World} {b o : Nat} {v : Value} {cs : List Value} (h : w.rangeAt b o (v :: cs)) : b < w.heap.size :=
  cell_lt (h 0 v rfl)
theorem rangeAt_block {w w' : World} {b o : Nat} {cs : List Value} (h : w.rangeAt b o cs) (hb : w'.heap[b]? = w.heap[b]?) : w'.rangeAt b o cs := by
  intro j v hj
  have := h j v hj
  simp only [World.cell?] at this ⊢
  rw [hb]; exact this
theorem rangeAt_gr {w w' : World} {b o : Nat} {v : Value} {cs : List Value} (h : w.rangeAt b o (v :: cs)) (g : Gr w w') : w'.rangeAt b o (v :: cs) :=
  rangeAt_block h (g.ext.block b (rangeAt_lt h))

mutual
theorem NdIn.mono {w w' : World} {F F' : Nat → Prop} (hF : ∀ b, F b → b < w.heap.size → w'.heap[b]? = w.heap[b]? ∧ F' b) {sl : Value} : ∀ {t : Nd}, NdIn w F sl t → NdIn w' F' sl t
  | .mk _ ts, h => by
    rw [NdIn] at h ⊢
    obtain ⟨a, c, h1, h2, h3, h4⟩ := h
    refine ⟨a, c, h1, h2, h3, ?_⟩
    rcases h4 with h4 | ⟨b, o, h4, h5, h6⟩
    · exact .inl h4
    · cases ts with
      | nil =>
        subst h4
        exact .inl ⟨rfl, .inr (by simp)⟩
      | cons t ts =>
        have hb : b < w.heap.size := by
          rw [NdsIn] at h6
          obtain ⟨⟨_, h7, _⟩, _⟩ := h6
          exact rangeAt_lt h7
        exact .inr ⟨b, o, h4, (hF b h5 hb).2, NdsIn.mono hF (hF b h5 hb).1 h6⟩
theorem NdsIn.mono {w w' : World} {F F' : Nat → Prop} (hF : ∀ b, F b → b < w.heap.size → w'.heap[b]? = w.heap[b]? ∧ F' b) {b : Nat} (hb : w'.heap[b]? = w.heap[b]?) : ∀ {ts : List Nd} {o : Nat}, NdsIn w F b o ts → NdsIn w' F' b o ts
  | [], _, _ => by rw [NdsIn]; trivial
  | t :: ts, o, h => by
    rw [NdsIn] at h ⊢
    obtain ⟨⟨sl, h1, h2⟩, h3⟩ := h
    exact ⟨⟨sl, rangeAt_block h1 hb, NdIn.mono hF h2⟩, NdsIn.mono hF hb h3⟩
end
theorem NdIn.gr {w w' : World} {F : Nat → Prop} {sl : Value} {t : Nd} (h : NdIn w F sl t) (g : Gr w w') : NdIn w' F sl t :=
  h.mono fun b hb hlt => ⟨g.ext.block b hlt, hb⟩
end Go.Proofs.YtdaoingmiabbcaaGreatDoor
namespace Go.Proofs.YtdaoingmiabbcaaGreatDoor
open Go.RowKit

theorem infoNode : (Tryz.prog.info? 49).map (·.size) = some 15 := by kernel_rfl

end Go.Proofs.YtdaoingmiabbcaaGreatDoor
namespace Go.Proofs.YtdaoingmiabbcaaGreatDoor
open Go.RowKit

/-- A value's fields. -/
structure Vl where
  k : Int
  x : Nat
  s : ByteArray
  b : Bool
  f : Int
/-- A content. -/
structure Ct where
  k : Int
  v : Vl
  t : Nd
abbrev Vl.val (v : Vl) : Value := .agg #[.int .i64 v.k, .float .f64 v.x, .string v.s, .bool v.b, .int .i64 v.f]
/-- Twenty-one cells: a content's, sl its node's list. -/
abbrev Ct.cells (c : Ct) (sl : Value) : List Value := [.int .i64 c.k, .int .i64 c.v.k, .float .f64 c.v.x, .string c.v.s, .bool c.v.b, .int .i64 c.v.f,
  .int .i64 c.t.hd.k, .int .i64 c.t.hd.o, .float .f64 c.t.hd.x, .string c.t.hd.s, .bool c.t.hd.b, .int .i64 c.t.hd.f, .int .i64 c.t.hd.c1, .int .i64 c.t.hd.r1, .bool c.t.hd.p1, .bool c.t.hd.q1, .int .i64 c.t.hd.c2, .int .i64 c.t.hd.r2, .bool c.t.hd.p2, .bool c.t.hd.q2, sl]
abbrev Ct.val (c : Ct) (sl : Value) : Value := .agg #[.int .i64 c.k, .int .i64 c.v.k, .float .f64 c.v.x, .string c.v.s, .bool c.v.b, .int .i64 c.v.f,
  .int .i64 c.t.hd.k, .int .i64 c.t.hd.o, .float .f64 c.t.hd.x, .string c.t.hd.s, .bool c.t.hd.b, .int .i64 c.t.hd.f, .int .i64 c.t.hd.c1, .int .i64 c.t.hd.r1, .bool c.t.hd.p1, .bool c.t.hd.q1, .int .i64 c.t.hd.c2, .int .i64 c.t.hd.r2, .bool c.t.hd.p2, .bool c.t.hd.q2, sl]

end Go.Proofs.YtdaoingmiabbcaaGreatDoor
