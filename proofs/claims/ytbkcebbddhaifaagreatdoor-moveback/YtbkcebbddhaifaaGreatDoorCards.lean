/-
  DERIVED. GIVEN WITH THE SEED: THE CARDS: each row of YtbkcebbddhaifaaGreatDoorRows.lean that lists a variable, with what it lists TIED to the program's text (the seventh form; the later family's looks); each row that meets fmt, with fmt's text TOLD by the authors' own Lean function (tested against real Go, not proved from fmt's source: count such statements apart). THE CARD IS WHAT COUNTS. Prove the row's statement (the work); the ties are given (YtbkcebbddhaifaaGreatDoorTie.lean); close each card by the builder's one call (the guide's Derived/Test/ToyasCard.lean, 'card_holds'). Laid BY PROGRAM, IN A SANDBOX (cutbox-door.mjs). By AI agents, Wed Nov 11 2026. No macro, syntax, notation, axiom, sorry.
-/
import Derived.Test.YtbkcebbddhaifaaGreatDoorRows
import GoSem.ClaimSeven
namespace Go.Proofs.YtbkcebbddhaifaaGreatDoor
namespace Rows

/-- THE TIED CARD OF 'quadrillelaw22.MovePlays'. -/
def movePlaysCard : Claim7 := { stood := { row := movePlaysRow, standIns := [], harness := (true, "7586ccfc788ed0cbb30e4cac1753efde653fafb574a11a550a6ed038e194b7f5"), looks := false }, kinds := [], alts := [], laidByText := true, laidKinds := [.data, .pinned], laidTests := true, laidLooks := .later }
def MovePlaysCardSaid : Prop := Claim7.holds Tryz.pinned (.plain (OpenSpec.ofChange movePlaysSpec)) movePlaysCard

/-- THE TIED CARD OF 'quadrillelaw22.MoveFormula'. -/
def moveFormulaCard : Claim7 := { stood := { row := moveFormulaRow, standIns := [], harness := (true, "7586ccfc788ed0cbb30e4cac1753efde653fafb574a11a550a6ed038e194b7f5"), looks := false }, kinds := [], alts := [], laidByText := true, laidKinds := [.data, .pinned], laidTests := true, laidLooks := .later }
def MoveFormulaCardSaid : Prop := Claim7.holds Tryz.pinned (.plain (OpenSpec.ofChange moveFormulaSpec)) moveFormulaCard

/-- THE TIED CARD OF 'quadrillelaw22.MoveApart'. -/
def moveApartCard : Claim7 := { stood := { row := moveApartRow, standIns := [], harness := (true, "7586ccfc788ed0cbb30e4cac1753efde653fafb574a11a550a6ed038e194b7f5"), looks := false }, kinds := [], alts := [], laidByText := true, laidKinds := [.data, .pinned], laidTests := true, laidLooks := .later }
def MoveApartCardSaid : Prop := Claim7.holds Tryz.pinned (.plain (OpenSpec.ofChange moveApartSpec)) moveApartCard

/-- THE TIED CARD OF 'quadrillelaw22.MoveBack'. -/
def moveBackCard : Claim7 := { stood := { row := moveBackRow, standIns := [], harness := (true, "7586ccfc788ed0cbb30e4cac1753efde653fafb574a11a550a6ed038e194b7f5"), looks := false }, kinds := [], alts := [], laidByText := true, laidKinds := [.data, .pinned], laidTests := true, laidLooks := .later }
def MoveBackCardSaid : Prop := Claim7.holds Tryz.pinned (.plain (OpenSpec.ofChange moveBackSpec)) moveBackCard

/-- THE TIED CARD OF 'quadrillelaw22.MoveLines'. -/
def moveLinesCard : Claim7 := { stood := { row := moveLinesRow, standIns := [], harness := (true, "7586ccfc788ed0cbb30e4cac1753efde653fafb574a11a550a6ed038e194b7f5"), looks := false }, kinds := [], alts := [], laidByText := true, laidKinds := [.data, .pinned], laidTests := true, laidLooks := .later }
def MoveLinesCardSaid : Prop := Claim7.holds Tryz.pinned (.plain (OpenSpec.ofChange moveLinesSpec)) moveLinesCard

/-- THE SECOND FORM's CARD OF 'quadrillelaw22.MovePlays'. -/
def movePlaysUptoCard : Claim7 := { stood := { row := movePlaysUptoRow, standIns := [], harness := (true, "7586ccfc788ed0cbb30e4cac1753efde653fafb574a11a550a6ed038e194b7f5"), looks := false }, kinds := [], alts := [], laidByText := true, laidKinds := [.data, .pinned], laidTests := true, laidLooks := .later }
def MovePlaysUptoCardSaid : Prop := Claim7.holds Tryz.pinned (.plain (OpenSpec.upto movePlaysSpec)) movePlaysUptoCard

/-- THE SECOND FORM's CARD OF 'quadrillelaw22.MoveFormula'. -/
def moveFormulaUptoCard : Claim7 := { stood := { row := moveFormulaUptoRow, standIns := [], harness := (true, "7586ccfc788ed0cbb30e4cac1753efde653fafb574a11a550a6ed038e194b7f5"), looks := false }, kinds := [], alts := [], laidByText := true, laidKinds := [.data, .pinned], laidTests := true, laidLooks := .later }
def MoveFormulaUptoCardSaid : Prop := Claim7.holds Tryz.pinned (.plain (OpenSpec.upto moveFormulaSpec)) moveFormulaUptoCard

/-- THE SECOND FORM's CARD OF 'quadrillelaw22.MoveApart'. -/
def moveApartUptoCard : Claim7 := { stood := { row := moveApartUptoRow, standIns := [], harness := (true, "7586ccfc788ed0cbb30e4cac1753efde653fafb574a11a550a6ed038e194b7f5"), looks := false }, kinds := [], alts := [], laidByText := true, laidKinds := [.data, .pinned], laidTests := true, laidLooks := .later }
def MoveApartUptoCardSaid : Prop := Claim7.holds Tryz.pinned (.plain (OpenSpec.upto moveApartSpec)) moveApartUptoCard

/-- THE SECOND FORM's CARD OF 'quadrillelaw22.MoveBack'. -/
def moveBackUptoCard : Claim7 := { stood := { row := moveBackUptoRow, standIns := [], harness := (true, "7586ccfc788ed0cbb30e4cac1753efde653fafb574a11a550a6ed038e194b7f5"), looks := false }, kinds := [], alts := [], laidByText := true, laidKinds := [.data, .pinned], laidTests := true, laidLooks := .later }
def MoveBackUptoCardSaid : Prop := Claim7.holds Tryz.pinned (.plain (OpenSpec.upto moveBackSpec)) moveBackUptoCard

/-- THE SECOND FORM's CARD OF 'quadrillelaw22.MoveLines'. -/
def moveLinesUptoCard : Claim7 := { stood := { row := moveLinesUptoRow, standIns := [], harness := (true, "7586ccfc788ed0cbb30e4cac1753efde653fafb574a11a550a6ed038e194b7f5"), looks := false }, kinds := [], alts := [], laidByText := true, laidKinds := [.data, .pinned], laidTests := true, laidLooks := .later }
def MoveLinesUptoCardSaid : Prop := Claim7.holds Tryz.pinned (.plain (OpenSpec.upto moveLinesSpec)) moveLinesUptoCard
end Rows
end Go.Proofs.YtbkcebbddhaifaaGreatDoor
