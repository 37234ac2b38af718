/- What the cards of layer 10 share: the tables as the program lays them. -/
import Derived.Test.YthehdloofamadaaDoorLc
import Derived.Test.YthehdloofamadaaDoorCards
import Derived.Test.YthehdloofamadaaDoorTie
import Derived.ProofKit
import Derived.SizedLaws
import Derived.ChangeMaps5
import Derived.Lib.SmallJoins
import Derived.Deep.OwnShut
import Derived.LaidMore
import Derived.OpenShut
import Derived.Stop.Joined
import Derived.Lib.LaidTab
import Derived.Stop.LaidErr
namespace Go.Proofs.YthehdloofamadaaDoor
open Go.ChangeShapes Go.WideShapes Go.ChangeAt Go.RowKit

theorem ownK : ownKnob Tryd.prog.godebug = none := by kernel_rfl
theorem laidK : laidOutB Tryd.prog = true := by kernel_rfl
theorem gPow : Tryd.prog.globalNamed "internal/strconv.uint64pow10" = some 1 := by kernel_rfl
theorem gPowType : (Tryd.prog.globals[1]?).map (·.type) = some 91 := by kernel_rfl
theorem cellsPow : Tryd.prog.cellsOf 91 = 20 := by kernel_rfl
theorem cellsU64 : Tryd.prog.cellsOf 82 = 1 := by kernel_rfl
theorem pow_is {H : Type} : (Rows.laid_internal_strconv_uint64pow10 : DataW H) = Lib.tabData .u64 Lib.pow10Tab := rfl

def laidThree : List (String × DataW Unit) := [("math/bits.deBruijn32tab", Rows.laid_math_bits_deBruijn32tab), ("math/bits.deBruijn64tab", Rows.laid_math_bits_deBruijn64tab), ("internal/strconv.uint64pow10", Rows.laid_internal_strconv_uint64pow10)]

theorem tw_of {W : World} (h : laidMetH Tryd.prog laidThree W) : Tw W := by
  have h' : laidMet Tryd.prog laidThree W := h
  exact Lib.tabIs_of_head (rest := []) gPow gPowType Tryd.underlying91 Tryd.underlying82 cellsU64 cellsPow (laidMet.tail (laidMet.tail h'))

/-- The heap that the program's own initialisers leave meets the rows' list. -/
theorem door_met (os : Os) (args : Array Value) : laidMetH Tryd.prog laidThree ((World.doorLaid Tryd.prog 400 os).forCall (fun _ _ => 0) ⟨#[], args, []⟩).memory :=
  laidMetH_of_parts3 (fuel := 8) (laidMet_of_run' 8 (by kernel_rfl) (by kernel_rfl)) (by kernel_rfl) (by kernel_rfl)
end Go.Proofs.YthehdloofamadaaDoor
