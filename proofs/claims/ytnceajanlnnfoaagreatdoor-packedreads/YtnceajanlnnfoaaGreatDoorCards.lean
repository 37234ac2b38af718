/-
  DERIVED. GIVEN WITH THE SEED: THE CARDS: each row of YtnceajanlnnfoaaGreatDoorRows.lean that lists a variable, with what it lists TIED to the program's text (the seventh form; the later family's looks); each row that meets fmt, with fmt's text TOLD by the authors' own Lean function (tested against real Go, not proved from fmt's source: count such statements apart). THE CARD IS WHAT COUNTS. Prove the row's statement (the work); the ties are given (YtnceajanlnnfoaaGreatDoorTie.lean); close each card by the builder's one call (the guide's Derived/Test/ToyasCard.lean, 'card_holds'). Laid BY PROGRAM, IN A SANDBOX (cutbox-door.mjs). By AI agents, Wed Nov 11 2026. No macro, syntax, notation, axiom, sorry.
-/
import Derived.Test.YtnceajanlnnfoaaGreatDoorRows
import GoSem.ClaimSeven
namespace Go.Proofs.YtnceajanlnnfoaaGreatDoor
namespace Rows

/-- THE TIED CARD OF 'quadrillelaw24.PackedPacks'. -/
def packedPacksCard : Claim7 := { stood := { row := packedPacksRow, standIns := [], harness := (true, "93f3c98b206ebd1f09fea9e28958c93a4754595abe1199c4bcfdd224426364f9"), looks := true }, kinds := [], alts := [], laidByText := true, laidKinds := [.data, .data, .data, .pinned], laidTests := true, laidLooks := .later }
def PackedPacksCardSaid : Prop := Claim7.holds Tryz.pinned (.plain (OpenSpec.ofChange packedPacksSpec)) packedPacksCard

/-- THE TIED CARD OF 'quadrillelaw24.PackedReads'. -/
def packedReadsCard : Claim7 := { stood := { row := packedReadsRow, standIns := [], harness := (true, "93f3c98b206ebd1f09fea9e28958c93a4754595abe1199c4bcfdd224426364f9"), looks := true }, kinds := [], alts := [], laidByText := true, laidKinds := [.data, .data, .data, .pinned], laidTests := true, laidLooks := .later }
def PackedReadsCardSaid : Prop := Claim7.holds Tryz.pinned (.plain (OpenSpec.ofChange packedReadsSpec)) packedReadsCard

/-- THE TIED CARD OF 'quadrillelaw24.PackedLists'. -/
def packedListsCard : Claim7 := { stood := { row := packedListsRow, standIns := [], harness := (true, "93f3c98b206ebd1f09fea9e28958c93a4754595abe1199c4bcfdd224426364f9"), looks := true }, kinds := [], alts := [], laidByText := true, laidKinds := [.data, .data, .data, .pinned], laidTests := true, laidLooks := .later }
def PackedListsCardSaid : Prop := Claim7.holds Tryz.pinned (.plain (OpenSpec.ofChange packedListsSpec)) packedListsCard

/-- THE SECOND FORM's CARD OF 'quadrillelaw24.PackedPacks'. -/
def packedPacksUptoCard : Claim7 := { stood := { row := packedPacksUptoRow, standIns := [], harness := (true, "93f3c98b206ebd1f09fea9e28958c93a4754595abe1199c4bcfdd224426364f9"), looks := true }, kinds := [], alts := [], laidByText := true, laidKinds := [.data, .data, .data, .pinned], laidTests := true, laidLooks := .later }
def PackedPacksUptoCardSaid : Prop := Claim7.holds Tryz.pinned (.plain (OpenSpec.upto packedPacksSpec)) packedPacksUptoCard

/-- THE SECOND FORM's CARD OF 'quadrillelaw24.PackedReads'. -/
def packedReadsUptoCard : Claim7 := { stood := { row := packedReadsUptoRow, standIns := [], harness := (true, "93f3c98b206ebd1f09fea9e28958c93a4754595abe1199c4bcfdd224426364f9"), looks := true }, kinds := [], alts := [], laidByText := true, laidKinds := [.data, .data, .data, .pinned], laidTests := true, laidLooks := .later }
def PackedReadsUptoCardSaid : Prop := Claim7.holds Tryz.pinned (.plain (OpenSpec.upto packedReadsSpec)) packedReadsUptoCard

/-- THE SECOND FORM's CARD OF 'quadrillelaw24.PackedLists'. -/
def packedListsUptoCard : Claim7 := { stood := { row := packedListsUptoRow, standIns := [], harness := (true, "93f3c98b206ebd1f09fea9e28958c93a4754595abe1199c4bcfdd224426364f9"), looks := true }, kinds := [], alts := [], laidByText := true, laidKinds := [.data, .data, .data, .pinned], laidTests := true, laidLooks := .later }
def PackedListsUptoCardSaid : Prop := Claim7.holds Tryz.pinned (.plain (OpenSpec.upto packedListsSpec)) packedListsUptoCard
end Rows
end Go.Proofs.YtnceajanlnnfoaaGreatDoor
