/- The document's Copy of a node (quadrilleref12): a tree in memory of its own, the NaN in the place of every other one. -/
import Derived.Test.YtbkcebbddhaifaaDoorB36
import Derived.Test.YtbkcebbddhaifaaDoorB24
namespace Go.Proofs.YtbkcebbddhaifaaDoor
open Go.RowKit

end Go.Proofs.YtbkcebbddhaifaaDoor
