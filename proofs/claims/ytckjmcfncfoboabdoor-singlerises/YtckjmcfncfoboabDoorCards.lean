/-
  DERIVED. GIVEN WITH THE SEED: THE CARDS: each row of YtckjmcfncfoboabDoorRows.lean that lists a variable, with what it lists TIED to the program's text (the seventh form; the later family's looks); each row that meets fmt, with fmt's text TOLD by the authors' own Lean function (tested against real Go, not proved from fmt's source: count such statements apart). THE CARD IS WHAT COUNTS. Prove the row's statement (the work); the ties are given (YtckjmcfncfoboabDoorTie.lean); close each card by the builder's one call (the guide's Derived/Test/ToyasCard.lean, 'card_holds'). Laid BY PROGRAM, IN A SANDBOX (cutbox-door.mjs). By AI agents, Wed Nov 11 2026. No macro, syntax, notation, axiom, sorry.
-/
import Derived.Test.YtckjmcfncfoboabDoorRows
import GoSem.ClaimSeven
namespace Go.Proofs.YtckjmcfncfoboabDoor
namespace Rows

/-- THE TIED CARD OF 'quadrillelaw04.SingleBack'. -/
def singleBackCard : Claim7 := { stood := { row := singleBackRow, standIns := [], harness := (true, "871c76d5ee85a5988ffc6017229e2223940bc25f79746865be6874d15a824e66"), looks := false }, kinds := [], alts := [], laidByText := true, laidKinds := [.data], laidTests := true, laidLooks := .later }
def SingleBackCardSaid : Prop := Claim7.holds Tryd.pinned (.plain (OpenSpec.ofChange singleBackSpec)) singleBackCard

/-- THE TIED CARD OF 'quadrillelaw04.SingleRises'. -/
def singleRisesCard : Claim7 := { stood := { row := singleRisesRow, standIns := [], harness := (true, "871c76d5ee85a5988ffc6017229e2223940bc25f79746865be6874d15a824e66"), looks := false }, kinds := [], alts := [], laidByText := true, laidKinds := [.data], laidTests := true, laidLooks := .later }
def SingleRisesCardSaid : Prop := Claim7.holds Tryd.pinned (.plain (OpenSpec.ofChange singleRisesSpec)) singleRisesCard

/-- THE SECOND FORM's CARD OF 'quadrillelaw04.SingleBack'. -/
def singleBackUptoCard : Claim7 := { stood := { row := singleBackUptoRow, standIns := [], harness := (true, "871c76d5ee85a5988ffc6017229e2223940bc25f79746865be6874d15a824e66"), looks := false }, kinds := [], alts := [], laidByText := true, laidKinds := [.data], laidTests := true, laidLooks := .later }
def SingleBackUptoCardSaid : Prop := Claim7.holds Tryd.pinned (.plain (OpenSpec.upto singleBackSpec)) singleBackUptoCard

/-- THE SECOND FORM's CARD OF 'quadrillelaw04.SingleRises'. -/
def singleRisesUptoCard : Claim7 := { stood := { row := singleRisesUptoRow, standIns := [], harness := (true, "871c76d5ee85a5988ffc6017229e2223940bc25f79746865be6874d15a824e66"), looks := false }, kinds := [], alts := [], laidByText := true, laidKinds := [.data], laidTests := true, laidLooks := .later }
def SingleRisesUptoCardSaid : Prop := Claim7.holds Tryd.pinned (.plain (OpenSpec.upto singleRisesSpec)) singleRisesUptoCard
end Rows
end Go.Proofs.YtckjmcfncfoboabDoor
