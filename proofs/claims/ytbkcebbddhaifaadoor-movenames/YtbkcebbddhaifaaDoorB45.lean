/- just, of contents that are zero. -/
import Derived.Test.YtbkcebbddhaifaaDoorB11
namespace Go.Proofs.YtbkcebbddhaifaaDoor
open Go.RowKit Go.Maps

end Go.Proofs.YtbkcebbddhaifaaDoor
