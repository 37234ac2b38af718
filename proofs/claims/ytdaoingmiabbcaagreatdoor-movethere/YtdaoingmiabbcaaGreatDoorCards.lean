/-
  DERIVED. GIVEN WITH THE SEED: THE CARDS: each row of YtdaoingmiabbcaaGreatDoorRows.lean that lists a variable, with what it lists TIED to the program's text (the seventh form; the later family's looks); each row that meets fmt, with fmt's text TOLD by the authors' own Lean function (tested against real Go, not proved from fmt's source: count such statements apart). THE CARD IS WHAT COUNTS. Prove the row's statement (the work); the ties are given (YtdaoingmiabbcaaGreatDoorTie.lean); close each card by the builder's one call (the guide's Derived/Test/ToyasCard.lean, 'card_holds'). Laid BY PROGRAM, IN A SANDBOX (cutbox-door.mjs). By AI agents, Wed Nov 11 2026. No macro, syntax, notation, axiom, sorry.
-/
import Derived.Test.YtdaoingmiabbcaaGreatDoorRows
import GoSem.ClaimSeven
namespace Go.Proofs.YtdaoingmiabbcaaGreatDoor
namespace Rows

/-- THE TIED CARD OF 'quadrillelaw22.MoveCopies'. -/
def moveCopiesCard : Claim7 := { stood := { row := moveCopiesRow, standIns := [], harness := (true, "74e7ee5bc76c33672c91ab26c07faf36aebd02c51ade2a0c9bef6a5e5f41ef23"), looks := false }, kinds := [], alts := [], laidByText := true, laidKinds := [.data, .pinned], laidTests := true, laidLooks := .later }
def MoveCopiesCardSaid : Prop := Claim7.holds Tryz.pinned (.plain (OpenSpec.ofChange moveCopiesSpec)) moveCopiesCard

/-- THE TIED CARD OF 'quadrillelaw22.MoveThere'. -/
def moveThereCard : Claim7 := { stood := { row := moveThereRow, standIns := [], harness := (true, "74e7ee5bc76c33672c91ab26c07faf36aebd02c51ade2a0c9bef6a5e5f41ef23"), looks := false }, kinds := [], alts := [], laidByText := true, laidKinds := [.data, .pinned], laidTests := true, laidLooks := .later }
def MoveThereCardSaid : Prop := Claim7.holds Tryz.pinned (.plain (OpenSpec.ofChange moveThereSpec)) moveThereCard

/-- THE TIED CARD OF 'quadrillelaw22.MoveRefuses'. -/
def moveRefusesCard : Claim7 := { stood := { row := moveRefusesRow, standIns := [], harness := (true, "74e7ee5bc76c33672c91ab26c07faf36aebd02c51ade2a0c9bef6a5e5f41ef23"), looks := false }, kinds := [], alts := [], laidByText := true, laidKinds := [.data, .pinned], laidTests := true, laidLooks := .later }
def MoveRefusesCardSaid : Prop := Claim7.holds Tryz.pinned (.plain (OpenSpec.ofChange moveRefusesSpec)) moveRefusesCard

/-- THE SECOND FORM's CARD OF 'quadrillelaw22.MoveCopies'. -/
def moveCopiesUptoCard : Claim7 := { stood := { row := moveCopiesUptoRow, standIns := [], harness := (true, "74e7ee5bc76c33672c91ab26c07faf36aebd02c51ade2a0c9bef6a5e5f41ef23"), looks := false }, kinds := [], alts := [], laidByText := true, laidKinds := [.data, .pinned], laidTests := true, laidLooks := .later }
def MoveCopiesUptoCardSaid : Prop := Claim7.holds Tryz.pinned (.plain (OpenSpec.upto moveCopiesSpec)) moveCopiesUptoCard

/-- THE SECOND FORM's CARD OF 'quadrillelaw22.MoveThere'. -/
def moveThereUptoCard : Claim7 := { stood := { row := moveThereUptoRow, standIns := [], harness := (true, "74e7ee5bc76c33672c91ab26c07faf36aebd02c51ade2a0c9bef6a5e5f41ef23"), looks := false }, kinds := [], alts := [], laidByText := true, laidKinds := [.data, .pinned], laidTests := true, laidLooks := .later }
def MoveThereUptoCardSaid : Prop := Claim7.holds Tryz.pinned (.plain (OpenSpec.upto moveThereSpec)) moveThereUptoCard

/-- THE SECOND FORM's CARD OF 'quadrillelaw22.MoveRefuses'. -/
def moveRefusesUptoCard : Claim7 := { stood := { row := moveRefusesUptoRow, standIns := [], harness := (true, "74e7ee5bc76c33672c91ab26c07faf36aebd02c51ade2a0c9bef6a5e5f41ef23"), looks := false }, kinds := [], alts := [], laidByText := true, laidKinds := [.data, .pinned], laidTests := true, laidLooks := .later }
def MoveRefusesUptoCardSaid : Prop := Claim7.holds Tryz.pinned (.plain (OpenSpec.upto moveRefusesSpec)) moveRefusesUptoCard
end Rows
end Go.Proofs.YtdaoingmiabbcaaGreatDoor
