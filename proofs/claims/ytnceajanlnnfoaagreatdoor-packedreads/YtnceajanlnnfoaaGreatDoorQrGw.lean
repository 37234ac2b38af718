/-The table of bits.Len64 in a world that grew. -/
import Derived.Test.YtnceajanlnnfoaaGreatDoorQrGa
import Derived.Test.YtnceajanlnnfoaaGreatDoorQrFl
namespace Go.Proofs.YtnceajanlnnfoaaGreatDoor
open Go.RowKit
theorem jEK {w w':World}(h:Tab w)(g:Gr w w'):Tab w':=fun j hj=>g.cell (G7 (h j hj)) (h j hj)
end Go.Proofs.YtnceajanlnnfoaaGreatDoor
