/-
  DERIVED. GIVEN WITH THE SEED: THE CARDS: each row of YtdlieecpckpemaaGreatDoorRows.lean that lists a variable, with what it lists TIED to the program's text (the seventh form; the later family's looks); each row that meets fmt, with fmt's text TOLD by the authors' own Lean function (tested against real Go, not proved from fmt's source: count such statements apart). THE CARD IS WHAT COUNTS. Prove the row's statement (the work); the ties are given (YtdlieecpckpemaaGreatDoorTie.lean); close each card by the builder's one call (the guide's Derived/Test/ToyasCard.lean, 'card_holds'). Laid BY PROGRAM, IN A SANDBOX (cutbox-door.mjs). By AI agents, Wed Nov 11 2026. No macro, syntax, notation, axiom, sorry.
-/
import Derived.Test.YtdlieecpckpemaaGreatDoorRows
import GoSem.ClaimSeven
namespace Go.Proofs.YtdlieecpckpemaaGreatDoor
namespace Rows

/-- THE TIED CARD OF 'quadrillelaw18.LinksPlays'. -/
def linksPlaysCard : Claim7 := { stood := { row := linksPlaysRow, standIns := [], harness := (true, "270baa8d0406a7b6a4afda96e07ca4d8c49805d6604529460cd9ac5edf4bf048"), looks := false }, kinds := [], alts := [], laidByText := true, laidKinds := [.data], laidTests := true, laidLooks := .later }
def LinksPlaysCardSaid : Prop := Claim7.holds Tryz.pinned (.plain (OpenSpec.ofChange linksPlaysSpec)) linksPlaysCard

/-- THE TIED CARD OF 'quadrillelaw18.LinksHang'. -/
def linksHangCard : Claim7 := { stood := { row := linksHangRow, standIns := [], harness := (true, "270baa8d0406a7b6a4afda96e07ca4d8c49805d6604529460cd9ac5edf4bf048"), looks := false }, kinds := [], alts := [], laidByText := true, laidKinds := [.data], laidTests := true, laidLooks := .later }
def LinksHangCardSaid : Prop := Claim7.holds Tryz.pinned (.plain (OpenSpec.ofChange linksHangSpec)) linksHangCard

/-- THE TIED CARD OF 'quadrillelaw18.LinksCircles'. -/
def linksCirclesCard : Claim7 := { stood := { row := linksCirclesRow, standIns := [], harness := (true, "270baa8d0406a7b6a4afda96e07ca4d8c49805d6604529460cd9ac5edf4bf048"), looks := false }, kinds := [], alts := [], laidByText := true, laidKinds := [.data], laidTests := true, laidLooks := .later }
def LinksCirclesCardSaid : Prop := Claim7.holds Tryz.pinned (.plain (OpenSpec.ofChange linksCirclesSpec)) linksCirclesCard

/-- THE SECOND FORM's CARD OF 'quadrillelaw18.LinksPlays'. -/
def linksPlaysUptoCard : Claim7 := { stood := { row := linksPlaysUptoRow, standIns := [], harness := (true, "270baa8d0406a7b6a4afda96e07ca4d8c49805d6604529460cd9ac5edf4bf048"), looks := false }, kinds := [], alts := [], laidByText := true, laidKinds := [.data], laidTests := true, laidLooks := .later }
def LinksPlaysUptoCardSaid : Prop := Claim7.holds Tryz.pinned (.plain (OpenSpec.upto linksPlaysSpec)) linksPlaysUptoCard

/-- THE SECOND FORM's CARD OF 'quadrillelaw18.LinksHang'. -/
def linksHangUptoCard : Claim7 := { stood := { row := linksHangUptoRow, standIns := [], harness := (true, "270baa8d0406a7b6a4afda96e07ca4d8c49805d6604529460cd9ac5edf4bf048"), looks := false }, kinds := [], alts := [], laidByText := true, laidKinds := [.data], laidTests := true, laidLooks := .later }
def LinksHangUptoCardSaid : Prop := Claim7.holds Tryz.pinned (.plain (OpenSpec.upto linksHangSpec)) linksHangUptoCard

/-- THE SECOND FORM's CARD OF 'quadrillelaw18.LinksCircles'. -/
def linksCirclesUptoCard : Claim7 := { stood := { row := linksCirclesUptoRow, standIns := [], harness := (true, "270baa8d0406a7b6a4afda96e07ca4d8c49805d6604529460cd9ac5edf4bf048"), looks := false }, kinds := [], alts := [], laidByText := true, laidKinds := [.data], laidTests := true, laidLooks := .later }
def LinksCirclesUptoCardSaid : Prop := Claim7.holds Tryz.pinned (.plain (OpenSpec.upto linksCirclesSpec)) linksCirclesUptoCard
end Rows
end Go.Proofs.YtdlieecpckpemaaGreatDoor
