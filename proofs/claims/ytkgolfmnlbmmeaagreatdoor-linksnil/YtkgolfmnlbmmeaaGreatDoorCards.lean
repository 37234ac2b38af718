/-
  DERIVED. GIVEN WITH THE SEED: THE CARDS: each row of YtkgolfmnlbmmeaaGreatDoorRows.lean that lists a variable, with what it lists TIED to the program's text (the seventh form; the later family's looks); each row that meets fmt, with fmt's text TOLD by the authors' own Lean function (tested against real Go, not proved from fmt's source: count such statements apart). THE CARD IS WHAT COUNTS. Prove the row's statement (the work); the ties are given (YtkgolfmnlbmmeaaGreatDoorTie.lean); close each card by the builder's one call (the guide's Derived/Test/ToyasCard.lean, 'card_holds'). Laid BY PROGRAM, IN A SANDBOX (cutbox-door.mjs). By AI agents, Wed Nov 11 2026. No macro, syntax, notation, axiom, sorry.
-/
import Derived.Test.YtkgolfmnlbmmeaaGreatDoorRows
import GoSem.ClaimSeven
namespace Go.Proofs.YtkgolfmnlbmmeaaGreatDoor
namespace Rows

/-- THE TIED CARD OF 'quadrillelaw18.LinksPlays'. -/
def linksPlaysCard : Claim7 := { stood := { row := linksPlaysRow, standIns := [], harness := (true, "9754772de73ab4cbc78fe7471852e96cfedee18e06118cf198262ba66527503d"), looks := false }, kinds := [], alts := [], laidByText := true, laidKinds := [.data], laidTests := true, laidLooks := .later }
def LinksPlaysCardSaid : Prop := Claim7.holds Tryz.pinned (.plain (OpenSpec.ofChange linksPlaysSpec)) linksPlaysCard

/-- THE TIED CARD OF 'quadrillelaw18.LinksHang'. -/
def linksHangCard : Claim7 := { stood := { row := linksHangRow, standIns := [], harness := (true, "9754772de73ab4cbc78fe7471852e96cfedee18e06118cf198262ba66527503d"), looks := false }, kinds := [], alts := [], laidByText := true, laidKinds := [.data], laidTests := true, laidLooks := .later }
def LinksHangCardSaid : Prop := Claim7.holds Tryz.pinned (.plain (OpenSpec.ofChange linksHangSpec)) linksHangCard

/-- THE TIED CARD OF 'quadrillelaw18.LinksCircles'. -/
def linksCirclesCard : Claim7 := { stood := { row := linksCirclesRow, standIns := [], harness := (true, "9754772de73ab4cbc78fe7471852e96cfedee18e06118cf198262ba66527503d"), looks := false }, kinds := [], alts := [], laidByText := true, laidKinds := [.data], laidTests := true, laidLooks := .later }
def LinksCirclesCardSaid : Prop := Claim7.holds Tryz.pinned (.plain (OpenSpec.ofChange linksCirclesSpec)) linksCirclesCard

/-- THE TIED CARD OF 'quadrillelaw18.LinksNil'. -/
def linksNilCard : Claim7 := { stood := { row := linksNilRow, standIns := [], harness := (true, "9754772de73ab4cbc78fe7471852e96cfedee18e06118cf198262ba66527503d"), looks := false }, kinds := [], alts := [], laidByText := true, laidKinds := [.data], laidTests := true, laidLooks := .later }
def LinksNilCardSaid : Prop := Claim7.holds Tryz.pinned (.plain (OpenSpec.ofChange linksNilSpec)) linksNilCard

/-- THE SECOND FORM's CARD OF 'quadrillelaw18.LinksPlays'. -/
def linksPlaysUptoCard : Claim7 := { stood := { row := linksPlaysUptoRow, standIns := [], harness := (true, "9754772de73ab4cbc78fe7471852e96cfedee18e06118cf198262ba66527503d"), looks := false }, kinds := [], alts := [], laidByText := true, laidKinds := [.data], laidTests := true, laidLooks := .later }
def LinksPlaysUptoCardSaid : Prop := Claim7.holds Tryz.pinned (.plain (OpenSpec.upto linksPlaysSpec)) linksPlaysUptoCard

/-- THE SECOND FORM's CARD OF 'quadrillelaw18.LinksHang'. -/
def linksHangUptoCard : Claim7 := { stood := { row := linksHangUptoRow, standIns := [], harness := (true, "9754772de73ab4cbc78fe7471852e96cfedee18e06118cf198262ba66527503d"), looks := false }, kinds := [], alts := [], laidByText := true, laidKinds := [.data], laidTests := true, laidLooks := .later }
def LinksHangUptoCardSaid : Prop := Claim7.holds Tryz.pinned (.plain (OpenSpec.upto linksHangSpec)) linksHangUptoCard

/-- THE SECOND FORM's CARD OF 'quadrillelaw18.LinksCircles'. -/
def linksCirclesUptoCard : Claim7 := { stood := { row := linksCirclesUptoRow, standIns := [], harness := (true, "9754772de73ab4cbc78fe7471852e96cfedee18e06118cf198262ba66527503d"), looks := false }, kinds := [], alts := [], laidByText := true, laidKinds := [.data], laidTests := true, laidLooks := .later }
def LinksCirclesUptoCardSaid : Prop := Claim7.holds Tryz.pinned (.plain (OpenSpec.upto linksCirclesSpec)) linksCirclesUptoCard

/-- THE SECOND FORM's CARD OF 'quadrillelaw18.LinksNil'. -/
def linksNilUptoCard : Claim7 := { stood := { row := linksNilUptoRow, standIns := [], harness := (true, "9754772de73ab4cbc78fe7471852e96cfedee18e06118cf198262ba66527503d"), looks := false }, kinds := [], alts := [], laidByText := true, laidKinds := [.data], laidTests := true, laidLooks := .later }
def LinksNilUptoCardSaid : Prop := Claim7.holds Tryz.pinned (.plain (OpenSpec.upto linksNilSpec)) linksNilUptoCard
end Rows
end Go.Proofs.YtkgolfmnlbmmeaaGreatDoor
