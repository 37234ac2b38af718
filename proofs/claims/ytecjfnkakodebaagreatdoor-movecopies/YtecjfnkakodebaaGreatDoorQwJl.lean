/-The kit's contract of strings.Compare, laid over this dump (by wip/she. -/
import Derived.Shelf.Small.Strs
import Derived.Test.YtecjfnkakodebaaGreatDoorProg
namespace Go.Proofs
open Go.Shelf
def Tryz.laysCmp_ren : Go.Shelf.Ren := ⟨fun | 106 => 138 | 213 => 159 | 265 => 176 | n => n, fun | 9 => 9 | 3 => 3 | n => n, fun | n => n⟩
theorem Tryz.laysCmp : Go.Proofs.Lays.n106 Tryz.prog Tryz.laysCmp_ren := {
 mixed := by kernel_rfl
 f106 := Tryz.func138.trans (congrArg some (by kernel_rfl))
 f213 := Tryz.func159.trans (congrArg some (by kernel_rfl))
 f265 := Tryz.func176.trans (congrArg some (by kernel_rfl))
 t3 := Tryz.underlying3
 a3 := Tryz.isAgg3
 z3 := Tryz.sizeOf3
 v3 := Tryz.zeroValue3
 t9 := Tryz.underlying9
 a9 := Tryz.isAgg9
 z9 := Tryz.sizeOf9
 v9 := Tryz.zeroValue9 }
end Go.Proofs
