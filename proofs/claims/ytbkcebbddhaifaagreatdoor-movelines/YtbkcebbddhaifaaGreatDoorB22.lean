/- awake. -/
import Derived.Test.YtbkcebbddhaifaaGreatDoorB12
import Derived.Deep.RegionHeld3
namespace Go.Proofs.YtbkcebbddhaifaaGreatDoor
open Go.RowKit Go.Maps

end Go.Proofs.YtbkcebbddhaifaaGreatDoor
