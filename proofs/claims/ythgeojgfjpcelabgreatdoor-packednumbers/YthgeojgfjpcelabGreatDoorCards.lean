/-
  DERIVED. GIVEN WITH THE SEED: THE CARDS: each row of YthgeojgfjpcelabGreatDoorRows.lean that lists a variable, with what it lists TIED to the program's text (the seventh form; the later family's looks); each row that meets fmt, with fmt's text TOLD by the authors' own Lean function (tested against real Go, not proved from fmt's source: count such statements apart). THE CARD IS WHAT COUNTS. Prove the row's statement (the work); the ties are given (YthgeojgfjpcelabGreatDoorTie.lean); close each card by the builder's one call (the guide's Derived/Test/ToyasCard.lean, 'card_holds'). Laid BY PROGRAM, IN A SANDBOX (cutbox-door.mjs). By AI agents, Wed Nov 11 2026. No macro, syntax, notation, axiom, sorry.
-/
import Derived.Test.YthgeojgfjpcelabGreatDoorRows
import GoSem.ClaimSeven
namespace Go.Proofs.YthgeojgfjpcelabGreatDoor
namespace Rows

/-- THE TIED CARD OF 'quadrillelaw24.PackedTurned'. -/
def packedTurnedCard : Claim7 := { stood := { row := packedTurnedRow, standIns := [], harness := (true, "dc02d5062cb70561f34373d5621260c49dd3eb92a232a20c17a1780a814d3bbe"), looks := true }, kinds := [], alts := [], laidByText := true, laidKinds := [.data, .data, .data, .pinned], laidTests := true, laidLooks := .later }
def PackedTurnedCardSaid : Prop := Claim7.holds Tryz.pinned (.plain (OpenSpec.ofChange packedTurnedSpec)) packedTurnedCard

/-- THE TIED CARD OF 'quadrillelaw24.PackedNumbers'. -/
def packedNumbersCard : Claim7 := { stood := { row := packedNumbersRow, standIns := [], harness := (true, "dc02d5062cb70561f34373d5621260c49dd3eb92a232a20c17a1780a814d3bbe"), looks := true }, kinds := [], alts := [], laidByText := true, laidKinds := [.data, .data, .data, .pinned], laidTests := true, laidLooks := .later }
def PackedNumbersCardSaid : Prop := Claim7.holds Tryz.pinned (.plain (OpenSpec.ofChange packedNumbersSpec)) packedNumbersCard

/-- THE TIED CARD OF 'quadrillelaw24.PackedLimits'. -/
def packedLimitsCard : Claim7 := { stood := { row := packedLimitsRow, standIns := [], harness := (true, "dc02d5062cb70561f34373d5621260c49dd3eb92a232a20c17a1780a814d3bbe"), looks := true }, kinds := [], alts := [], laidByText := true, laidKinds := [.data, .data, .data, .pinned], laidTests := true, laidLooks := .later }
def PackedLimitsCardSaid : Prop := Claim7.holds Tryz.pinned (.plain (OpenSpec.ofChange packedLimitsSpec)) packedLimitsCard

/-- THE SECOND FORM's CARD OF 'quadrillelaw24.PackedTurned'. -/
def packedTurnedUptoCard : Claim7 := { stood := { row := packedTurnedUptoRow, standIns := [], harness := (true, "dc02d5062cb70561f34373d5621260c49dd3eb92a232a20c17a1780a814d3bbe"), looks := true }, kinds := [], alts := [], laidByText := true, laidKinds := [.data, .data, .data, .pinned], laidTests := true, laidLooks := .later }
def PackedTurnedUptoCardSaid : Prop := Claim7.holds Tryz.pinned (.plain (OpenSpec.upto packedTurnedSpec)) packedTurnedUptoCard

/-- THE SECOND FORM's CARD OF 'quadrillelaw24.PackedNumbers'. -/
def packedNumbersUptoCard : Claim7 := { stood := { row := packedNumbersUptoRow, standIns := [], harness := (true, "dc02d5062cb70561f34373d5621260c49dd3eb92a232a20c17a1780a814d3bbe"), looks := true }, kinds := [], alts := [], laidByText := true, laidKinds := [.data, .data, .data, .pinned], laidTests := true, laidLooks := .later }
def PackedNumbersUptoCardSaid : Prop := Claim7.holds Tryz.pinned (.plain (OpenSpec.upto packedNumbersSpec)) packedNumbersUptoCard

/-- THE SECOND FORM's CARD OF 'quadrillelaw24.PackedLimits'. -/
def packedLimitsUptoCard : Claim7 := { stood := { row := packedLimitsUptoRow, standIns := [], harness := (true, "dc02d5062cb70561f34373d5621260c49dd3eb92a232a20c17a1780a814d3bbe"), looks := true }, kinds := [], alts := [], laidByText := true, laidKinds := [.data, .data, .data, .pinned], laidTests := true, laidLooks := .later }
def PackedLimitsUptoCardSaid : Prop := Claim7.holds Tryz.pinned (.plain (OpenSpec.upto packedLimitsSpec)) packedLimitsUptoCard
end Rows
end Go.Proofs.YthgeojgfjpcelabGreatDoor
