/- The table of bits.Len64 in a world that grew. -/
import Derived.Test.YtnceajanlnnfoaaGreatDoorQsGa
import Derived.Test.YtnceajanlnnfoaaGreatDoorQsWl
namespace Go.Proofs.YtnceajanlnnfoaaGreatDoor
open Go.RowKit
theorem tab_gr {w w':World} (h:Tab w) (g:Gr w w'):Tab w':=fun j hj=>g.cell (cell_lt (h j hj)) (h j hj)
end Go.Proofs.YtnceajanlnnfoaaGreatDoor
