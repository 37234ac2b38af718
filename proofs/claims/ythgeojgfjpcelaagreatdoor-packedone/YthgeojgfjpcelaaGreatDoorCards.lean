/-
  DERIVED. GIVEN WITH THE SEED: THE CARDS: each row of YthgeojgfjpcelaaGreatDoorRows.lean that lists a variable, with what it lists TIED to the program's text (the seventh form; the later family's looks); each row that meets fmt, with fmt's text TOLD by the authors' own Lean function (tested against real Go, not proved from fmt's source: count such statements apart). THE CARD IS WHAT COUNTS. Prove the row's statement (the work); the ties are given (YthgeojgfjpcelaaGreatDoorTie.lean); close each card by the builder's one call (the guide's Derived/Test/ToyasCard.lean, 'card_holds'). Laid BY PROGRAM, IN A SANDBOX (cutbox-door.mjs). By AI agents, Wed Nov 11 2026. No macro, syntax, notation, axiom, sorry.
-/
import Derived.Test.YthgeojgfjpcelaaGreatDoorRows
import GoSem.ClaimSeven
namespace Go.Proofs.YthgeojgfjpcelaaGreatDoor
namespace Rows

/-- THE TIED CARD OF 'quadrillelaw24.PackedNames'. -/
def packedNamesCard : Claim7 := { stood := { row := packedNamesRow, standIns := [], harness := (true, "4da4094ead0d052d22eecfbd1563ed032770b93c8bf44dc6d4548076081470fa"), looks := true }, kinds := [], alts := [], laidByText := true, laidKinds := [.data, .data, .data, .pinned], laidTests := true, laidLooks := .later }
def PackedNamesCardSaid : Prop := Claim7.holds Tryz.pinned (.plain (OpenSpec.ofChange packedNamesSpec)) packedNamesCard

/-- THE TIED CARD OF 'quadrillelaw24.PackedPacks'. -/
def packedPacksCard : Claim7 := { stood := { row := packedPacksRow, standIns := [], harness := (true, "4da4094ead0d052d22eecfbd1563ed032770b93c8bf44dc6d4548076081470fa"), looks := true }, kinds := [], alts := [], laidByText := true, laidKinds := [.data, .data, .data, .pinned], laidTests := true, laidLooks := .later }
def PackedPacksCardSaid : Prop := Claim7.holds Tryz.pinned (.plain (OpenSpec.ofChange packedPacksSpec)) packedPacksCard

/-- THE TIED CARD OF 'quadrillelaw24.PackedReads'. -/
def packedReadsCard : Claim7 := { stood := { row := packedReadsRow, standIns := [], harness := (true, "4da4094ead0d052d22eecfbd1563ed032770b93c8bf44dc6d4548076081470fa"), looks := true }, kinds := [], alts := [], laidByText := true, laidKinds := [.data, .data, .data, .pinned], laidTests := true, laidLooks := .later }
def PackedReadsCardSaid : Prop := Claim7.holds Tryz.pinned (.plain (OpenSpec.ofChange packedReadsSpec)) packedReadsCard

/-- THE TIED CARD OF 'quadrillelaw24.PackedLists'. -/
def packedListsCard : Claim7 := { stood := { row := packedListsRow, standIns := [], harness := (true, "4da4094ead0d052d22eecfbd1563ed032770b93c8bf44dc6d4548076081470fa"), looks := true }, kinds := [], alts := [], laidByText := true, laidKinds := [.data, .data, .data, .pinned], laidTests := true, laidLooks := .later }
def PackedListsCardSaid : Prop := Claim7.holds Tryz.pinned (.plain (OpenSpec.ofChange packedListsSpec)) packedListsCard

/-- THE TIED CARD OF 'quadrillelaw24.PackedBack'. -/
def packedBackCard : Claim7 := { stood := { row := packedBackRow, standIns := [], harness := (true, "4da4094ead0d052d22eecfbd1563ed032770b93c8bf44dc6d4548076081470fa"), looks := true }, kinds := [], alts := [], laidByText := true, laidKinds := [.data, .data, .data, .pinned], laidTests := true, laidLooks := .later }
def PackedBackCardSaid : Prop := Claim7.holds Tryz.pinned (.plain (OpenSpec.ofChange packedBackSpec)) packedBackCard

/-- THE TIED CARD OF 'quadrillelaw24.PackedOne'. -/
def packedOneCard : Claim7 := { stood := { row := packedOneRow, standIns := [], harness := (true, "4da4094ead0d052d22eecfbd1563ed032770b93c8bf44dc6d4548076081470fa"), looks := true }, kinds := [], alts := [], laidByText := true, laidKinds := [.data, .data, .data, .pinned], laidTests := true, laidLooks := .later }
def PackedOneCardSaid : Prop := Claim7.holds Tryz.pinned (.plain (OpenSpec.ofChange packedOneSpec)) packedOneCard

/-- THE SECOND FORM's CARD OF 'quadrillelaw24.PackedNames'. -/
def packedNamesUptoCard : Claim7 := { stood := { row := packedNamesUptoRow, standIns := [], harness := (true, "4da4094ead0d052d22eecfbd1563ed032770b93c8bf44dc6d4548076081470fa"), looks := true }, kinds := [], alts := [], laidByText := true, laidKinds := [.data, .data, .data, .pinned], laidTests := true, laidLooks := .later }
def PackedNamesUptoCardSaid : Prop := Claim7.holds Tryz.pinned (.plain (OpenSpec.upto packedNamesSpec)) packedNamesUptoCard

/-- THE SECOND FORM's CARD OF 'quadrillelaw24.PackedPacks'. -/
def packedPacksUptoCard : Claim7 := { stood := { row := packedPacksUptoRow, standIns := [], harness := (true, "4da4094ead0d052d22eecfbd1563ed032770b93c8bf44dc6d4548076081470fa"), looks := true }, kinds := [], alts := [], laidByText := true, laidKinds := [.data, .data, .data, .pinned], laidTests := true, laidLooks := .later }
def PackedPacksUptoCardSaid : Prop := Claim7.holds Tryz.pinned (.plain (OpenSpec.upto packedPacksSpec)) packedPacksUptoCard

/-- THE SECOND FORM's CARD OF 'quadrillelaw24.PackedReads'. -/
def packedReadsUptoCard : Claim7 := { stood := { row := packedReadsUptoRow, standIns := [], harness := (true, "4da4094ead0d052d22eecfbd1563ed032770b93c8bf44dc6d4548076081470fa"), looks := true }, kinds := [], alts := [], laidByText := true, laidKinds := [.data, .data, .data, .pinned], laidTests := true, laidLooks := .later }
def PackedReadsUptoCardSaid : Prop := Claim7.holds Tryz.pinned (.plain (OpenSpec.upto packedReadsSpec)) packedReadsUptoCard

/-- THE SECOND FORM's CARD OF 'quadrillelaw24.PackedLists'. -/
def packedListsUptoCard : Claim7 := { stood := { row := packedListsUptoRow, standIns := [], harness := (true, "4da4094ead0d052d22eecfbd1563ed032770b93c8bf44dc6d4548076081470fa"), looks := true }, kinds := [], alts := [], laidByText := true, laidKinds := [.data, .data, .data, .pinned], laidTests := true, laidLooks := .later }
def PackedListsUptoCardSaid : Prop := Claim7.holds Tryz.pinned (.plain (OpenSpec.upto packedListsSpec)) packedListsUptoCard

/-- THE SECOND FORM's CARD OF 'quadrillelaw24.PackedBack'. -/
def packedBackUptoCard : Claim7 := { stood := { row := packedBackUptoRow, standIns := [], harness := (true, "4da4094ead0d052d22eecfbd1563ed032770b93c8bf44dc6d4548076081470fa"), looks := true }, kinds := [], alts := [], laidByText := true, laidKinds := [.data, .data, .data, .pinned], laidTests := true, laidLooks := .later }
def PackedBackUptoCardSaid : Prop := Claim7.holds Tryz.pinned (.plain (OpenSpec.upto packedBackSpec)) packedBackUptoCard

/-- THE SECOND FORM's CARD OF 'quadrillelaw24.PackedOne'. -/
def packedOneUptoCard : Claim7 := { stood := { row := packedOneUptoRow, standIns := [], harness := (true, "4da4094ead0d052d22eecfbd1563ed032770b93c8bf44dc6d4548076081470fa"), looks := true }, kinds := [], alts := [], laidByText := true, laidKinds := [.data, .data, .data, .pinned], laidTests := true, laidLooks := .later }
def PackedOneUptoCardSaid : Prop := Claim7.holds Tryz.pinned (.plain (OpenSpec.upto packedOneSpec)) packedOneUptoCard
end Rows
end Go.Proofs.YthgeojgfjpcelaaGreatDoor
