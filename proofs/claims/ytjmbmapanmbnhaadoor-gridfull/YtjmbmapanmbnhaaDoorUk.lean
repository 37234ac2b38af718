/- Blocks that are known whole. No function of the program here. -/
import Derived.Test.YtjmbmapanmbnhaaDoorXk
namespace Go.Proofs.YtjmbmapanmbnhaaDoor
open Go.RowKit

/-- Block b has just these cells; none is frozen. -/
def Blk (w : World) (b : Nat) (cs : List Value) (t : TypeId) : Prop := w.heap[b]? = some (.cells cs.toArray t (0, 0))
namespace Blk
theorem lt {w : World} {b : Nat} {cs : List Value} {t : TypeId} (h : Blk w b cs t) : b < w.heap.size := by
  rcases Nat.lt_or_ge b w.heap.size with c | c
  · exact c
  · unfold Blk at h; rw [Array.getElem?_eq_none c] at h; cases h
theorem at' {w : World} {b i : Nat} {cs : List Value} {t : TypeId} (h : Blk w b cs t) : w.cell? ⟨b, i, none⟩ = cs[i]? := by
  unfold Blk at h
  simp [World.cell?, h]
theorem cell {w : World} {b i : Nat} {cs : List Value} {t : TypeId} {v : Value} (h : Blk w b cs t) (hi : cs[i]? = some v) : w.cell? ⟨b, i, none⟩ = some v := h.at'.trans hi
theorem froz {w : World} {b : Nat} {cs : List Value} {t : TypeId} (h : Blk w b cs t) (i : Nat) : w.frozen? ⟨b, i, none⟩ = false := by
  unfold Blk at h
  simp [World.frozen?, h]
theorem set {w : World} {b : Nat} {cs : List Value} {t : TypeId} (h : Blk w b cs t) (i : Nat) (v : Value) : Blk (w.setCell ⟨b, i, none⟩ v) b (cs.set i v) t := by
  have := heap_setCell_same w b i cs.toArray t v h
  unfold Blk
  rw [this]
  simp
theorem other {w : World} {b : Nat} {cs : List Value} {t : TypeId} (h : Blk w b cs t) (a : Addr) (v : Value) (hb : b ≠ a.block) : Blk (w.setCell a v) b cs t := by
  unfold Blk
  rw [heap_setCell_other w a b v hb]; exact h
theorem kp {w w' : World} {b : Nat} {cs : List Value} {t : TypeId} {S : Nat → Prop} (h : Blk w b cs t) (g : Kp w w' S) (hb : ¬ S b) : Blk w' b cs t :=
  (g.block b h.lt hb).trans h
theorem gr {w w' : World} {b : Nat} {cs : List Value} {t : TypeId} (h : Blk w b cs t) (g : Gr w w') : Blk w' b cs t := h.kp (S := Nul) (Kp.of_gr g) (fun x => x)
theorem alloc {w : World} {b : Nat} {cs : List Value} {t : TypeId} (h : Blk w b cs t) (o : Obj) : Blk (w.alloc o) b cs t := h.kp (S := Nul) ((Kp.refl w Nul).alloc o) (fun x => x)
theorem drewN {w : World} {b : Nat} {cs : List Value} {t : TypeId} (h : Blk w b cs t) (n : Nat) : Blk (w.drewN n) b cs t := h
theorem drew {w : World} {b : Nat} {cs : List Value} {t : TypeId} (h : Blk w b cs t) : Blk w.drew b cs t := h
theorem ne {w : World} {b b' : Nat} {cs cs' : List Value} {t t' : TypeId} (h : Blk w b cs t) (h' : Blk w b' cs' t') (ht : t ≠ t') : b ≠ b' := by
  intro e; subst e
  unfold Blk at h h'
  rw [h] at h'
  simp only [Option.some.injEq, Obj.cells.injEq] at h'
  exact ht h'.2.1
theorem new (w : World) (cs : List Value) (t : TypeId) : Blk (w.alloc (.cells cs.toArray t)) w.heap.size cs t := heap_alloc_new _ _
theorem new' (w : World) (z : Array Value) (t : TypeId) : Blk (w.alloc (.cells z t)) w.heap.size z.toList t := by
  have := heap_alloc_new w (.cells z t)
  unfold Blk
  rw [this]
end Blk
end Go.Proofs.YtjmbmapanmbnhaaDoor
