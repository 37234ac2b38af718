/- The table that strconv.Itoa reads. -/
import Derived.Test.YthehdloofamadaaDoorGa
import Derived.Lib.ItoaMem
namespace Go.Proofs.YthehdloofamadaaDoor
open Go.RowKit

/-- The table of the powers of ten lies as the program's start lays it. -/
def Tw (w : World) : Prop := Lib.TabIs Tryd.prog w "internal/strconv.uint64pow10" .u64 Lib.pow10Tab
theorem Tw.bel {w w' : World} (h : Tw w) (g : Below w.heap.size w w') : Tw w' := by
  unfold Tw Lib.TabIs World.var? at *
  cases hg : Tryd.prog.globalNamed "internal/strconv.uint64pow10" with
  | none => simp [hg] at h
  | some i =>
    simp only [hg, Option.bind_some] at h ⊢
    have hlt : i < w.heap.size := by
      rcases Nat.lt_or_ge i w.heap.size with h' | h'
      · exact h'
      · rw [Array.getElem?_eq_none h'] at h; simp at h
    rw [g.block i hlt]
    exact h
end Go.Proofs.YthehdloofamadaaDoor
