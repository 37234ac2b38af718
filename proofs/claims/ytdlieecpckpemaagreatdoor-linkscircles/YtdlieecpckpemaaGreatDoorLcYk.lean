/- Blocks that are known whole; worlds in which, of what lay, blocks of S alone may have turned. No function of the program here. A region that draws its order, walked by hand: S holds behind each operation. No function of the program here. -/
import Derived.Test.YtdlieecpckpemaaGreatDoorLcGa
import Derived.Maps.OwnSet
import Derived.Deep.RegionHeld3
namespace Go.Proofs.YtdlieecpckpemaaGreatDoor
open Go.RowKit Go.Maps

structure Kp (w w' : World) (S : Nat → Prop) : Prop where
  os : w'.os = w.os
  tape : w'.tape = w.tape
  output : w'.output = w.output
  size : w.heap.size ≤ w'.heap.size
  block : ∀ i, i < w.heap.size → ¬ S i → w'.heap[i]? = w.heap[i]?
def Nul : Nat → Prop := fun _ => False
namespace Kp
theorem refl (w : World) (S : Nat → Prop) : Kp w w S := ⟨rfl, rfl, rfl, Nat.le_refl _, fun _ _ _ => rfl⟩
/-- What turns in the second step: blocks of S, or such as were new. -/
theorem trans' {w w1 w2 : World} {S T : Nat → Prop} (h : Kp w w1 S) (g : Kp w1 w2 T) (hT : ∀ i, i < w.heap.size → T i → S i) : Kp w w2 S :=
  ⟨g.os.trans h.os, g.tape.trans h.tape, g.output.trans h.output, Nat.le_trans h.size g.size, fun i hi hs => (g.block i (Nat.lt_of_lt_of_le hi h.size) (fun t => hs (hT i hi t))).trans (h.block i hi hs)⟩
theorem trans {w w1 w2 : World} {S : Nat → Prop} (h : Kp w w1 S) (g : Kp w1 w2 S) : Kp w w2 S := h.trans' g fun _ _ t => t
theorem mono {w w' : World} {S T : Nat → Prop} (h : Kp w w' S) (hT : ∀ i, i < w.heap.size → S i → T i) : Kp w w' T :=
  ⟨h.os, h.tape, h.output, h.size, fun i hi hs => h.block i hi (fun s => hs (hT i hi s))⟩
theorem of_nul {w w' : World} {S : Nat → Prop} (h : Kp w w' Nul) : Kp w w' S := h.mono fun _ _ s => s.elim
theorem of_gr {w w' : World} {S : Nat → Prop} (h : Gr w w') : Kp w w' S := ⟨h.ext.os, h.ext.tape, h.ext.output, h.ext.size, fun i hi _ => h.ext.block i hi⟩
theorem of_below {w w' : World} {S : Nat → Prop} (h : Below w.heap.size w w') : Kp w w' S := ⟨h.os, h.tape, h.output, h.size, fun i hi _ => h.block i hi⟩
theorem below {w w' : World} (h : Kp w w' Nul) : Below w.heap.size w w' := ⟨h.os, h.tape, h.output, h.size, fun i hi => h.block i hi (fun s => s)⟩
theorem of_grown {w w' : World} {S : Nat → Prop} {row : Option Nat} (h : w.grownBy w' row) (hr : ∀ i, row = some i → S i) : Kp w w' S :=
  ⟨h.os, h.tape, h.output, h.size, fun i hi hs => h.block i hi (fun e => hs (hr i e.symm))⟩
theorem of_drew {w w' : World} {S : Nat → Prop} (h : ∃ d, w' = w.drewN d) : Kp w w' S := by
  obtain ⟨d, rfl⟩ := h
  exact ⟨rfl, rfl, rfl, Nat.le_refl _, fun _ _ _ => rfl⟩
theorem drew {w w1 : World} {S : Nat → Prop} (h : Kp w w1 S) : Kp w w1.drew S := ⟨h.os, h.tape, h.output, h.size, h.block⟩
theorem drewN {w w1 : World} {S : Nat → Prop} (h : Kp w w1 S) (n : Nat) : Kp w (w1.drewN n) S := ⟨h.os, h.tape, h.output, h.size, h.block⟩
theorem alloc {w w1 : World} {S : Nat → Prop} (h : Kp w w1 S) (o : Obj) : Kp w (w1.alloc o) S := by
  refine ⟨h.os, h.tape, h.output, ?_, fun i hi hs => ?_⟩
  · show w.heap.size ≤ (w1.heap.push o).size
    rw [Array.size_push]; exact Nat.le_succ_of_le h.size
  · show (w1.heap.push o)[i]? = _
    rw [Array.getElem?_push, if_neg (Nat.ne_of_lt (Nat.lt_of_lt_of_le hi h.size))]
    exact h.block i hi hs
theorem setCell {w w1 : World} {S : Nat → Prop} (h : Kp w w1 S) (a : Addr) (v : Value) (ha : w.heap.size ≤ a.block ∨ S a.block) : Kp w (w1.setCell a v) S := by
  have q := (Below.refl 0 w1).setCell (p := a) (Nat.zero_le _) v
  refine ⟨q.os.trans h.os, q.tape.trans h.tape, q.output.trans h.output, Nat.le_trans h.size q.size, fun i hi hs => ?_⟩
  rw [heap_setCell_other w1 a i v (fun e => by rcases ha with ha | ha; omega; exact hs (e ▸ ha))]
  exact h.block i hi hs
end Kp

/-- Block b has just these cells; none is frozen. -/
def Blk (w : World) (b : Nat) (cs : List Value) (t : TypeId) : Prop := w.heap[b]? = some (.cells cs.toArray t (0, 0))
namespace Blk
theorem lt {w : World} {b : Nat} {cs : List Value} {t : TypeId} (h : Blk w b cs t) : b < w.heap.size := by
  rcases Nat.lt_or_ge b w.heap.size with c | c
  · exact c
  · unfold Blk at h; rw [Array.getElem?_eq_none c] at h; cases h
theorem at' {w : World} {b i : Nat} {cs : List Value} {t : TypeId} (h : Blk w b cs t) : w.cell? ⟨b, i, none⟩ = cs[i]? := by
  unfold Blk at h
  simp [World.cell?, h]
theorem cell {w : World} {b i : Nat} {cs : List Value} {t : TypeId} {v : Value} (h : Blk w b cs t) (hi : cs[i]? = some v) : w.cell? ⟨b, i, none⟩ = some v := h.at'.trans hi
theorem froz {w : World} {b : Nat} {cs : List Value} {t : TypeId} (h : Blk w b cs t) (i : Nat) : w.frozen? ⟨b, i, none⟩ = false := by
  unfold Blk at h
  simp [World.frozen?, h]
theorem set {w : World} {b : Nat} {cs : List Value} {t : TypeId} (h : Blk w b cs t) (i : Nat) (v : Value) : Blk (w.setCell ⟨b, i, none⟩ v) b (cs.set i v) t := by
  have := heap_setCell_same w b i cs.toArray t v h
  unfold Blk
  rw [this]
  simp
theorem other {w : World} {b : Nat} {cs : List Value} {t : TypeId} (h : Blk w b cs t) (a : Addr) (v : Value) (hb : b ≠ a.block) : Blk (w.setCell a v) b cs t := by
  unfold Blk
  rw [heap_setCell_other w a b v hb]; exact h
theorem kp {w w' : World} {b : Nat} {cs : List Value} {t : TypeId} {S : Nat → Prop} (h : Blk w b cs t) (g : Kp w w' S) (hb : ¬ S b) : Blk w' b cs t :=
  (g.block b h.lt hb).trans h
theorem gr {w w' : World} {b : Nat} {cs : List Value} {t : TypeId} (h : Blk w b cs t) (g : Gr w w') : Blk w' b cs t := h.kp (S := Nul) (Kp.of_gr g) (fun x => x)
theorem alloc {w : World} {b : Nat} {cs : List Value} {t : TypeId} (h : Blk w b cs t) (o : Obj) : Blk (w.alloc o) b cs t := h.kp (S := Nul) ((Kp.refl w Nul).alloc o) (fun x => x)
theorem drewN {w : World} {b : Nat} {cs : List Value} {t : TypeId} (h : Blk w b cs t) (n : Nat) : Blk (w.drewN n) b cs t := h
theorem drew {w : World} {b : Nat} {cs : List Value} {t : TypeId} (h : Blk w b cs t) : Blk w.drew b cs t := h
theorem ne {w : World} {b b' : Nat} {cs cs' : List Value} {t t' : TypeId} (h : Blk w b cs t) (h' : Blk w b' cs' t') (ht : t ≠ t') : b ≠ b' := by
  intro e; subst e
  unfold Blk at h h'
  rw [h] at h'
  simp only [Option.some.injEq, Obj.cells.injEq] at h'
  exact ht h'.2.1
theorem new (w : World) (cs : List Value) (t : TypeId) : Blk (w.alloc (.cells cs.toArray t)) w.heap.size cs t := heap_alloc_new _ _
theorem new' (w : World) (z : Array Value) (t : TypeId) : Blk (w.alloc (.cells z t)) w.heap.size z.toList t := by
  have := heap_alloc_new w (.cells z t)
  unfold Blk
  rw [this]
end Blk
end Go.Proofs.YtdlieecpckpemaaGreatDoor
namespace Go.Proofs.YtdlieecpckpemaaGreatDoor
open Go.RowKit

section
variable {P : Program} {ops : Array Oper} {Q : Exit → Act → World → Prop} {md : Region.Mode} {S : World → Prop}
theorem wpH_takes {i : Nat} {oi : Oper} {v : Value} {n : Nat} {on : Array Bool} {a : Act} {w : World} (d : Option Tmp) (hi : ops[i]? = some oi) (hd : oi.dst = d) (hs : Region.noSelect ops = true) (hf : Region.free md ops on i = true) (hr : (Region.ready md ops on).contains i = true)
    (hQ : ∀ c a w, Q (.panic c) (a.put d v) w → Q (.panic c) a w) (hy : YieldsIf P ops S oi v a) (hS : S w) (h : wpAnyH P md ops Q S n (on.setIfInBounds i true) (a.put d v) w) : wpAnyH P md ops Q S (n + 1) on a w := by
  subst hd
  exact wpAnyH_take hi hs hf hr hQ hy hS h
theorem wpH_step {i : Nat} {o : Oper} {n : Nat} {on : Array Bool} {a : Act} {w : World} (hr : Region.ready md ops on = [i]) (ho : ops[i]? = some o) (hg : o.guard = none)
    (h : ∀ K' : Act → World → Prop, Hid (∀ a w, S w → (S w → wpAnyH P md ops Q S n (on.setIfInBounds i true) a w) → K' a w) → o.wp P a w K' Q) : wpAnyH P md ops Q S (n + 1) on a w := by
  refine wpAnyH_all hr (by simp) (fun j hj => ?_)
  obtain rfl := List.mem_singleton.1 hj
  unfold wpOp
  rw [ho]
  simp only [Region.wanted, hg, if_true]
  exact .inl (h _ (fun a w hS hW => ⟨hS, hW hS⟩))
theorem wp_region_hel {id : Nat} {a : Act} {w : World} (S : World → Prop) (hm : P.follows .mixedOrders = true) (hS : S w.drew) (h : S w.drew → wpAnyH P .any ops Q S ops.size (Array.replicate ops.size false) a w.drew) : (Code.region id ops true).wp P Q a w :=
  wp_region_held hm (h hS)
end
end Go.Proofs.YtdlieecpckpemaaGreatDoor
