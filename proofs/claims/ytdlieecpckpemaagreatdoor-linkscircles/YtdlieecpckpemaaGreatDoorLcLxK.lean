/- What the cards of this seat want: the table of math/bits as the program lays it; a cell opened. -/
import Derived.Test.YtdlieecpckpemaaGreatDoorLcTn
import Derived.Test.YtdlieecpckpemaaGreatDoorLcZw
import Derived.Test.YtdlieecpckpemaaGreatDoorCards
import Derived.Test.YtdlieecpckpemaaGreatDoorTie
import Derived.ProofKit
import Derived.SizedLaws
import Derived.ChangeSame
import Derived.LaidMore
import Derived.OpenShut
import Derived.Carry
import Derived.Stop.Joined
import Derived.Lib.LaidTab
namespace Go.Proofs.YtdlieecpckpemaaGreatDoor
open Go.ChangeShapes Go.WideShapes Go.ChangeAt Go.RowKit

theorem ownL : ownKnob Tryz.prog.godebug = none := by kernel_rfl
theorem laidL : laidOutB Tryz.prog = true := by kernel_rfl
theorem gTab : Tryz.prog.globalNamed "math/bits.deBruijn64tab" = some 0 := by kernel_rfl
theorem gTabType : (Tryz.prog.globals[0]?).map (·.type) = some 149 := by kernel_rfl
theorem cellsTab : Tryz.prog.cellsOf 149 = 64 := by kernel_rfl
theorem cellsU8 : Tryz.prog.cellsOf 5 = 1 := by kernel_rfl
def laidOne : List (String × DataW Unit) := [("math/bits.deBruijn64tab", Rows.laid_math_bits_deBruijn64tab)]
theorem tab_of {W : World} (h : laidMetH Tryz.prog laidOne W) : Tab W := by
  have t : Lib.TabIs Tryz.prog W "math/bits.deBruijn64tab" .u8 (Lib.deBruijn64tab.map fun n : Nat => (n : Int)) :=
    Lib.tabIs_of_head (rest := []) gTab gTabType Tryz.underlying149 Tryz.underlying5 cellsU8 cellsTab h
  intro j hj
  have := t.cell gTab j (by rw [List.length_map]; exact hj)
  rw [this]
  have e : (Lib.deBruijn64tab.map fun n : Nat => (n : Int)).getD j 0 = ((Lib.deBruijn64tab.getD j 0 : Nat) : Int) := by
    simp only [List.getD_eq_getElem?_getD, List.getElem?_map]
    cases Lib.deBruijn64tab[j]? <;> rfl
  rw [e]
/-- The heap that the program's own initialisers leave meets the row's list. -/
theorem door_met (os : Os) (args : Array Value) : laidMetH Tryz.prog laidOne ((World.doorLaid Tryz.prog 400 os).forCall (fun _ _ => 0) ⟨#[], args, []⟩).memory :=
  laidMetH_of_parts3 (fuel := 8) (laidMet_of_run' 8 (by kernel_rfl) (by kernel_rfl)) (by kernel_rfl) (by kernel_rfl)
end Go.Proofs.YtdlieecpckpemaaGreatDoor
