/- AddrMeet, at any input. -/
import Derived.Test.YthehdloofamadaaDoorLi
namespace Go.Proofs.YthehdloofamadaaDoor
open Go.RowKit

theorem meet_any (h : AddrSays) (c r d s c' r' d' s' x y : Int) (w : World) :
    Calls Tryd.prog 7 #[.agg #[.int .i64 c, .int .i64 r, .int .i64 d, .int .i64 s], .agg #[.int .i64 c', .int .i64 r', .int .i64 d', .int .i64 s'], .agg #[.int .i64 x, .int .i64 y]] w fun e w' => e = .returned (.bool true) ∧ Below w.heap.size w w' := by
  obtain ⟨e0, e5⟩ := meet_comm c r d s c' r' d' s'
  have e5' := e5
  rw [mtV_eq, mtV_eq] at e5'
  obtain ⟨e1, e2, e3, e4⟩ : mt1 c r d s c' r' d' s' = mt1 c' r' d' s' c r d s ∧ mt2 c r d s c' r' d' s' = mt2 c' r' d' s' c r d s ∧ mt3 c r d s c' r' d' s' = mt3 c' r' d' s' c r d s ∧ mt4 c r d s c' r' d' s' = mt4 c' r' d' s' c r d s := by
    unfold areaV at e5'
    simpa using e5'
  refine meet_core w c r d s c' r' d' s' x y _ _ _ _ _ _ _ _ (awake_any h) (h.meet c r d s c' r' d' s') ?_ (h.inn c r d s x y) (h.inn c' r' d' s' x y) (h.inn _ _ _ _ x y) (h.cells c r d s) h.order h.inn h.valid ?_ (meet_in c r d s c' r' d' s' x y)
  · intro w
    have := h.meet c' r' d' s' c r d s w
    rw [← e0, ← e1, ← e2, ← e3, ← e4] at this
    exact this
  · intro w
    have := h.size c r d s w
    rw [← nA_size] at this
    exact this
end Go.Proofs.YthehdloofamadaaDoor
