/- The stand-in's Cells. -/
import Derived.Test.YthehdloofamadaaDoorTa
namespace Go.Proofs.YthehdloofamadaaDoor
open Go.RowKit Go.Shelf

set_option maxHeartbeats 1000000 in
theorem tCells_at (c r d s : Int) (w : World) :
    Calls Tryd.prog 37 #[.agg #[.int .i64 c, .int .i64 r, .int .i64 d, .int .i64 s]] w fun e w' => e = .returned (.func (.func 52) #[] #[.pointer (some ⟨w.heap.size, 0, none⟩)]) ∧ w' = w.alloc (.cells #[.int .i64 c, .int .i64 r, .int .i64 d, .int .i64 s] 38) := by
  go_enter Tryd.func37, Tryd.ntmps37
  go_wp2_with fail
  go_ret
  exact ⟨rfl, rfl⟩
theorem tCells (hv : SaysValidArea 23) : SaysCells 37 52 := fun c r d s w =>
  (tCells_at c r d s w).mono fun e w' h => by
    obtain ⟨rfl, rfl⟩ := h
    refine ⟨_, rfl, ?_, ((Gr.refl w).alloc _ _).below⟩
    intro n hn l J Jx W hW hJ hJx hY h0
    exact two_loops n hn l w.heap.size (w.alloc (.cells #[.int .i64 c, .int .i64 r, .int .i64 d, .int .i64 s] 38)).heap.size c r d s J Jx W (by simp) hJ (fun w => hv c r d s w) hY ((has4_new w _ _ _ _ _).bel hW) h0
end Go.Proofs.YthehdloofamadaaDoor
