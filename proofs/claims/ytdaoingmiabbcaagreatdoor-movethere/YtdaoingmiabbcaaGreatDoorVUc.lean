/- Calls of no grid. -/
import Derived.Test.YtdaoingmiabbcaaGreatDoorVXq
import Derived.Test.YtdaoingmiabbcaaGreatDoorVXv
import Derived.Deep.QuietTactic
import Derived.BigQuiet
namespace Go.Proofs.YtdaoingmiabbcaaGreatDoor
open Go.RowKit Go.Maps

theorem results_cell1 {fn : Func} {p : Tmp} {ty : TypeId} (h : fn.results = #[.cell p ty]) (tmps : Array Value) (P : Program) (w : World) :
    (results fn tmps).run P w = ((asAddr (tmps.getD p undef)).run P w).andThen fun a w1 => (loadVar ty a).run P w1 := by
  simp only [results, h]
  simp [Sem.run_bind, Result.andThen]
  try rfl
end Go.Proofs.YtdaoingmiabbcaaGreatDoor
