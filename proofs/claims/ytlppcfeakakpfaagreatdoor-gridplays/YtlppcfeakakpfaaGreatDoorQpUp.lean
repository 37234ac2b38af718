/- GridNil: the walk. -/
import Derived.Test.YtlppcfeakakpfaaGreatDoorQpUj
import Derived.Test.YtlppcfeakakpfaaGreatDoorQpUf
namespace Go.Proofs.YtlppcfeakakpfaaGreatDoor
open Go.RowKit Go.Shelf Go.Maps
attribute [local go_sem] Oper.semAt_some
end Go.Proofs.YtlppcfeakakpfaaGreatDoor
