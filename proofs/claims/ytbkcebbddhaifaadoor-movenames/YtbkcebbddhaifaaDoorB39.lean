/- Equal: maps.EqualFunc. -/
import Derived.Test.YtbkcebbddhaifaaDoorB33
import Derived.Test.YtbkcebbddhaifaaDoorB35
import Derived.Test.YtbkcebbddhaifaaDoorB38
import Derived.Deep.QuietTactic
namespace Go.Proofs.YtbkcebbddhaifaaDoor
open Go.RowKit Go.Maps

/-- The same contents, cell by cell. -/
def EqC (L M : List Cc) : Prop := L.length = M.length ∧ ∀ k a, (k, a) ∈ L → ∃ b, (k, b) ∈ M ∧ csame a b = true
/-- Whether they are. -/
noncomputable def eqC (L M : List Cc) : Bool := @decide (EqC L M) (Classical.propDecidable _)
theorem eqC_true {L M : List Cc} (h : EqC L M) : eqC L M = true := @decide_eq_true _ (Classical.propDecidable _) h
theorem eqC_false {L M : List Cc} (h : ¬ EqC L M) : eqC L M = false := @decide_eq_false _ (Classical.propDecidable _) h
theorem once_eq : ∀ {L : List Cc}, L.Pairwise (fun x y => x.1 ≠ y.1) → ∀ {k : Int × Int} {a b : Ct}, (k, a) ∈ L → (k, b) ∈ L → a = b
  | [], _, _, _, _, h, _ => by simp at h
  | x :: L, hp, k, a, b, ha, hb => by
    rw [List.pairwise_cons] at hp
    rcases List.mem_cons.1 ha with ha | ha <;> rcases List.mem_cons.1 hb with hb | hb
    · rw [← ha] at hb; exact (congrArg Prod.snd hb).symm
    · exact absurd (congrArg Prod.fst ha).symm (hp.1 (k, b) hb)
    · exact absurd (congrArg Prod.fst hb).symm (hp.1 (k, a) ha)
    · exact once_eq hp.2 ha hb
/-- Contents whose numbers are binary64's. -/
def OkC (L : List Cc) : Prop := ∀ x ∈ L, x.2.v.x < 18446744073709551616 ∧ x.2.t.ok
theorem infoAddr2 : (Tryd.prog.info? 28).map (·.size) = some 2 := by kernel_rfl
theorem Below.ofKp {w w' : World} (h : Kp w w' Nul) : Below w.heap.size w w' := h.below
section
variable {ops : Array Oper} {C : World → Prop} {Q : Act → Prop} {o : Oper} {rest : List Oper} {a : Act}
/-- In a region that draws its order: an operation that tells one value in every world of the class. -/
theorem quiet_run (d : Option Tmp) (hd : o.dst = d) (v : Value) (hw : Region.wanted o (yielded ops a.tmps) = true) (hr : ∀ w, C w → (execOp a.eval o).run Tryd.prog w = .ok (.value v) w)
    (h : wpQuiet Tryd.prog ops C Q rest (a.put d v)) : wpQuiet Tryd.prog ops C Q (o :: rest) a := by
  subst hd
  refine wpQuiet_step fun K hK => ?_
  simp only [hw, if_true]
  refine ⟨v, fun w hC => ?_, hK _ h⟩
  unfold Oper.quietAt
  rw [hr w hC]
  exact ⟨rfl, rfl⟩
theorem quiet_call (d : Option Tmp) (hd : o.dst = d) (f : FuncId) (args : Array Value) (v : Value) (hw : Region.wanted o (yielded ops a.tmps) = true) (hr : ∀ w, (execOp a.eval o).run Tryd.prog w = .ok (.enter f args) w) (hc : ∀ w, C w → Calls Tryd.prog f args w fun e w' => e = .returned v ∧ C w')
    (h : wpQuiet Tryd.prog ops C Q rest (a.put d v)) : wpQuiet Tryd.prog ops C Q (o :: rest) a := by
  subst hd
  refine wpQuiet_step fun K hK => ?_
  simp only [hw, if_true]
  refine ⟨v, fun w hC => ?_, hK _ h⟩
  unfold Oper.quietAt
  rw [hr w]
  exact ⟨rfl, hc w hC⟩
theorem wp_region_nul {id : Nat} {Q : Exit → Act → World → Prop} {a : Act} {W w : World} {l : List Oper} (hw : Kp W w Nul) (hm : Tryd.prog.follows .mixedOrders = true) (hB : Region.lexB .any l.toArray = true)
    (h : wpQuiet Tryd.prog l.toArray (fun w' => Kp W w' Nul) (fun a' => ∀ w', Kp W w' Nul → Q .normal a' w') l a) : (Code.region id l.toArray true).wp Tryd.prog Q a w :=
  wp_region_quiet (C := fun w' => Kp W w' Nul) hm hB hw.drew (by simpa using h)
end
/-- Two variables, a cell and a content, laid and filled. -/
structure Vars2 (w1 W : World) (c s : Int) (cs : List Value) : Prop where
  kp : Kp w1 W Nul
  b0 : Blk W w1.heap.size [.int .i64 c, .int .i64 s] 28
  b1 : Blk W (w1.heap.size + 1) cs 39
theorem lk_kp {w wq : World} {g : Nat} {c s : Int} {mv : Option Nat} {v : Value} {b : Bool} (h : Lk w g c s mv v b) (k : Kp w wq Nul) : Lk wq g c s mv v b :=
  ⟨(k.block g (Array.getElem?_eq_some_iff.1 h.cell).1 (fun x => x)).trans h.cell, fun m hm => ⟨(h.ne m hm).1, Nat.lt_of_lt_of_le (h.ne m hm).2 k.size⟩, fun w' hw' => h.two w' (fun m hm => (hw' m hm).trans (k.block m (h.ne m hm).2 (fun x => x))), fun w' hw' => h.one w' (fun m hm => (hw' m hm).trans (k.block m (h.ne m hm).2 (fun x => x)))⟩
end Go.Proofs.YtbkcebbddhaifaaDoor
