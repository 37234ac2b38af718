/- awake. -/
import Derived.Test.YtbkcebbddhaifaaDoorB12
import Derived.Deep.RegionHeld3
namespace Go.Proofs.YtbkcebbddhaifaaDoor
open Go.RowKit Go.Maps

end Go.Proofs.YtbkcebbddhaifaaDoor
