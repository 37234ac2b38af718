/-
  DERIVED. GIVEN WITH THE SEED: THE CARDS: each row of YtecjfnkakodebaaGreatDoorRows.lean that lists a variable, with what it lists TIED to the program's text (the seventh form; the later family's looks); each row that meets fmt, with fmt's text TOLD by the authors' own Lean function (tested against real Go, not proved from fmt's source: count such statements apart). THE CARD IS WHAT COUNTS. Prove the row's statement (the work); the ties are given (YtecjfnkakodebaaGreatDoorTie.lean); close each card by the builder's one call (the guide's Derived/Test/ToyasCard.lean, 'card_holds'). Laid BY PROGRAM, IN A SANDBOX (cutbox-door.mjs). By AI agents, Wed Nov 11 2026. No macro, syntax, notation, axiom, sorry.
-/
import Derived.Test.YtecjfnkakodebaaGreatDoorRows
import GoSem.ClaimSeven
namespace Go.Proofs.YtecjfnkakodebaaGreatDoor
namespace Rows

/-- THE TIED CARD OF 'quadrillelaw22.MovePlays'. -/
def movePlaysCard : Claim7 := { stood := { row := movePlaysRow, standIns := [], harness := (true, "f7a7dcaa7a8b34a9d9d01052bedc775ec92879664363c5311bfdc58c85aef6a0"), looks := false }, kinds := [], alts := [], laidByText := true, laidKinds := [.data, .pinned], laidTests := true, laidLooks := .later }
def MovePlaysCardSaid : Prop := Claim7.holds Tryz.pinned (.plain (OpenSpec.ofChange movePlaysSpec)) movePlaysCard

/-- THE TIED CARD OF 'quadrillelaw22.MoveApart'. -/
def moveApartCard : Claim7 := { stood := { row := moveApartRow, standIns := [], harness := (true, "f7a7dcaa7a8b34a9d9d01052bedc775ec92879664363c5311bfdc58c85aef6a0"), looks := false }, kinds := [], alts := [], laidByText := true, laidKinds := [.data, .pinned], laidTests := true, laidLooks := .later }
def MoveApartCardSaid : Prop := Claim7.holds Tryz.pinned (.plain (OpenSpec.ofChange moveApartSpec)) moveApartCard

/-- THE TIED CARD OF 'quadrillelaw22.MoveCopies'. -/
def moveCopiesCard : Claim7 := { stood := { row := moveCopiesRow, standIns := [], harness := (true, "f7a7dcaa7a8b34a9d9d01052bedc775ec92879664363c5311bfdc58c85aef6a0"), looks := false }, kinds := [], alts := [], laidByText := true, laidKinds := [.data, .pinned], laidTests := true, laidLooks := .later }
def MoveCopiesCardSaid : Prop := Claim7.holds Tryz.pinned (.plain (OpenSpec.ofChange moveCopiesSpec)) moveCopiesCard

/-- THE TIED CARD OF 'quadrillelaw22.MoveRefuses'. -/
def moveRefusesCard : Claim7 := { stood := { row := moveRefusesRow, standIns := [], harness := (true, "f7a7dcaa7a8b34a9d9d01052bedc775ec92879664363c5311bfdc58c85aef6a0"), looks := false }, kinds := [], alts := [], laidByText := true, laidKinds := [.data, .pinned], laidTests := true, laidLooks := .later }
def MoveRefusesCardSaid : Prop := Claim7.holds Tryz.pinned (.plain (OpenSpec.ofChange moveRefusesSpec)) moveRefusesCard

/-- THE SECOND FORM's CARD OF 'quadrillelaw22.MovePlays'. -/
def movePlaysUptoCard : Claim7 := { stood := { row := movePlaysUptoRow, standIns := [], harness := (true, "f7a7dcaa7a8b34a9d9d01052bedc775ec92879664363c5311bfdc58c85aef6a0"), looks := false }, kinds := [], alts := [], laidByText := true, laidKinds := [.data, .pinned], laidTests := true, laidLooks := .later }
def MovePlaysUptoCardSaid : Prop := Claim7.holds Tryz.pinned (.plain (OpenSpec.upto movePlaysSpec)) movePlaysUptoCard

/-- THE SECOND FORM's CARD OF 'quadrillelaw22.MoveApart'. -/
def moveApartUptoCard : Claim7 := { stood := { row := moveApartUptoRow, standIns := [], harness := (true, "f7a7dcaa7a8b34a9d9d01052bedc775ec92879664363c5311bfdc58c85aef6a0"), looks := false }, kinds := [], alts := [], laidByText := true, laidKinds := [.data, .pinned], laidTests := true, laidLooks := .later }
def MoveApartUptoCardSaid : Prop := Claim7.holds Tryz.pinned (.plain (OpenSpec.upto moveApartSpec)) moveApartUptoCard

/-- THE SECOND FORM's CARD OF 'quadrillelaw22.MoveCopies'. -/
def moveCopiesUptoCard : Claim7 := { stood := { row := moveCopiesUptoRow, standIns := [], harness := (true, "f7a7dcaa7a8b34a9d9d01052bedc775ec92879664363c5311bfdc58c85aef6a0"), looks := false }, kinds := [], alts := [], laidByText := true, laidKinds := [.data, .pinned], laidTests := true, laidLooks := .later }
def MoveCopiesUptoCardSaid : Prop := Claim7.holds Tryz.pinned (.plain (OpenSpec.upto moveCopiesSpec)) moveCopiesUptoCard

/-- THE SECOND FORM's CARD OF 'quadrillelaw22.MoveRefuses'. -/
def moveRefusesUptoCard : Claim7 := { stood := { row := moveRefusesUptoRow, standIns := [], harness := (true, "f7a7dcaa7a8b34a9d9d01052bedc775ec92879664363c5311bfdc58c85aef6a0"), looks := false }, kinds := [], alts := [], laidByText := true, laidKinds := [.data, .pinned], laidTests := true, laidLooks := .later }
def MoveRefusesUptoCardSaid : Prop := Claim7.holds Tryz.pinned (.plain (OpenSpec.upto moveRefusesSpec)) moveRefusesUptoCard
end Rows
end Go.Proofs.YtecjfnkakodebaaGreatDoor
