/-The program's Order and Same of values (value), Same of contents (grid. -/
import Derived.Test.YtecjfnkakodebaaGreatDoorRmEp
import Derived.Shelf.Small.Strs
import Derived.Deep.QuietTactic

namespace Go.Proofs.YtecjfnkakodebaaGreatDoor
open Go.RowKit Go.Lib
attribute [local irreducible] G8 F3
end Go.Proofs.YtecjfnkakodebaaGreatDoor
