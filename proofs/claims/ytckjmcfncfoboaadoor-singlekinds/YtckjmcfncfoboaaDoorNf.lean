/- Cells of a variable that stay. -/
import Derived.Test.YtckjmcfncfoboaaDoorNu
namespace Go.Proofs.YtckjmcfncfoboaaDoor
open Go.RowKit

/-- Block b holds these values, and may be written. -/
def Holds (w : World) (b : Nat) (vs : List Value) : Prop := ∀ j v, vs[j]? = some v → w.cell? ⟨b, j, none⟩ = some v ∧ w.frozen? ⟨b, j, none⟩ = false
theorem Holds.gr {w w' : World} {b : Nat} {vs : List Value} (h : Holds w b vs) (g : Gr w w') : Holds w' b vs := fun j v e => ⟨g.cell (cell_lt (h j v e).1) (h j v e).1, by rw [g.froz]; exact (h j v e).2⟩
theorem holds_new (w : World) (vs : Array Value) (t : TypeId) : Holds (w.alloc (.cells vs t)) w.heap.size vs.toList := fun j v e => by
  refine ⟨?_, by rw [frozen?_alloc_cells, frozen_new]⟩
  rw [World.cell?_alloc_at _ _ _ _ rfl, ← Array.getElem?_toList]; exact e
theorem Holds.c0 {w : World} {b : Nat} {v : Value} {r : List Value} (h : Holds w b (v :: r)) : w.cell? ⟨b, 0, none⟩ = some v ∧ w.frozen? ⟨b, 0, none⟩ = false := h 0 v rfl
theorem Holds.c1 {w : World} {b : Nat} {a v : Value} {r : List Value} (h : Holds w b (a :: v :: r)) : w.cell? ⟨b, 1, none⟩ = some v ∧ w.frozen? ⟨b, 1, none⟩ = false := h 1 v rfl
theorem Holds.c2 {w : World} {b : Nat} {a c v : Value} {r : List Value} (h : Holds w b (a :: c :: v :: r)) : w.cell? ⟨b, 2, none⟩ = some v ∧ w.frozen? ⟨b, 2, none⟩ = false := h 2 v rfl
theorem Holds.c3 {w : World} {b : Nat} {a c d v : Value} {r : List Value} (h : Holds w b (a :: c :: d :: v :: r)) : w.cell? ⟨b, 3, none⟩ = some v ∧ w.frozen? ⟨b, 3, none⟩ = false := h 3 v rfl
theorem Holds.c4 {w : World} {b : Nat} {a c d e v : Value} {r : List Value} (h : Holds w b (a :: c :: d :: e :: v :: r)) : w.cell? ⟨b, 4, none⟩ = some v ∧ w.frozen? ⟨b, 4, none⟩ = false := h 4 v rfl

/-- A cell of it written. -/
theorem Holds.set {w : World} {b : Nat} {vs : List Value} (h : Holds w b vs) (i : Nat) (v : Value) (hi : i < vs.length) : Holds (w.setCell ⟨b, i, none⟩ v) b (vs.set i v) := fun j u e => by
  refine ⟨?_, by rw [World.frozen?_setCell]; rcases Nat.lt_or_ge j vs.length with c | c; exact (h j vs[j] (by simp [c])).2; simp [c] at e⟩
  by_cases hj : j = i
  · subst hj
    have : u = v := by simpa [List.getElem?_set, hi] using e.symm
    subst this
    exact World.cell?_setCell_same _ _ _ (h j vs[j] (by simp [hi])).1
  · rw [World.cell?_setCell_other _ _ _ _ (by intro c; injection c with _ c2; exact hj c2.symm)]
    refine (h j u ?_).1
    simpa [List.getElem?_set, Ne.symm hj] using e
/-- A cell of another block written. -/
theorem Holds.oth {w : World} {b : Nat} {vs : List Value} (h : Holds w b vs) (b' i : Nat) (v : Value) (hb : b ≠ b') : Holds (w.setCell ⟨b', i, none⟩ v) b vs := fun j u e => by
  refine ⟨?_, by rw [World.frozen?_setCell]; exact (h j u e).2⟩
  rw [World.cell?_setCell_other _ _ _ _ (by intro c; injection c with c1; exact hb c1.symm)]
  exact (h j u e).1
theorem Holds.drew {w : World} {b : Nat} {vs : List Value} (h : Holds w b vs) : Holds w.drew b vs := h.gr (Gr.refl w).drew

/-- Is what isn't whole rounded onward? -/
def rndU (mode : Int) (neg : Bool) (q h : Int) (wh : Bool) : Bool := !wh && awy mode neg (q % 2 == 1) h
/-- What To answers, its last digit's place e being found: q there, how the rest stands to the half, whether there is none. -/
def ToOut (P T top half : Int) (neg : Bool) (mode q h : Int) (wh : Bool) (e : Int) (vF vG : Value) : Prop :=
  ∃ q1 q2 e2 : Int, (q1 = if rndU mode neg q h wh = true then q + 1 else q) ∧ ((q1 = top ∧ q2 = half ∧ e2 = e + 1) ∨ (q1 ≠ top ∧ q2 = q1 ∧ e2 = e)) ∧
    ((T < e2 + P - 1 ∧ half ≤ q2 ∧ vG = .agg #[.bool true, .bool true, .bool (!wh && decide (q < half))] ∧ vF = (if Rn.far mode neg = true then .agg #[.bool neg, .bool true, .int .u64 0, .int .i64 0] else .agg #[.bool neg, .bool false, .int .u64 (top - 1), .int .i64 (T - P + 1)])) ∨
     (¬ (T < e2 + P - 1 ∧ half ≤ q2) ∧ vG = .agg #[.bool (!wh), .bool false, .bool (!wh && decide (q < half))] ∧ vF = .agg #[.bool neg, .bool false, .int .u64 q2, .int .i64 e2]))
theorem far_no (mode : Int) (neg : Bool) (h0 : 1 ≤ mode) (h1 : mode ≤ 6) (h : Rn.far mode neg = false) : mode = 5 ∨ mode = 6 ∨ (mode = 3 ∧ neg = true) ∨ (mode = 4 ∧ neg = false) := by
  rcases (show mode = 1 ∨ mode = 2 ∨ mode = 3 ∨ mode = 4 ∨ mode = 5 ∨ mode = 6 by omega) with rfl | rfl | rfl | rfl | rfl | rfl
  · cases neg <;> cases h
  · cases neg <;> cases h
  · cases neg
    · cases h
    · exact Or.inr (Or.inr (Or.inl ⟨rfl, rfl⟩))
  · cases neg
    · exact Or.inr (Or.inr (Or.inr ⟨rfl, rfl⟩))
    · cases h
  · exact Or.inl rfl
  · exact Or.inr (Or.inl rfl)
theorem far_yes (mode : Int) (neg : Bool) (h : Rn.far mode neg = true) : (mode == 5) = false ∧ (mode == 6) = false ∧ (neg = true → (mode == 3) = false) ∧ (neg = false → (mode == 4) = false) := by
  simp only [beq_eq_false_iff_ne]
  refine ⟨?_, ?_, ?_, ?_⟩
  · rintro rfl; cases neg <;> cases h
  · rintro rfl; cases neg <;> cases h
  · rintro rfl rfl; cases h
  · rintro rfl rfl; cases h
end Go.Proofs.YtckjmcfncfoboaaDoor
