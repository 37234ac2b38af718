/-
  DERIVED. GIVEN WITH THE SEED: THE CARDS: each row of YtckjmcfncfoboaaDoorRows.lean that lists a variable, with what it lists TIED to the program's text (the seventh form; the later family's looks); each row that meets fmt, with fmt's text TOLD by the authors' own Lean function (tested against real Go, not proved from fmt's source: count such statements apart). THE CARD IS WHAT COUNTS. Prove the row's statement (the work); the ties are given (YtckjmcfncfoboaaDoorTie.lean); close each card by the builder's one call (the guide's Derived/Test/ToyasCard.lean, 'card_holds'). Laid BY PROGRAM, IN A SANDBOX (cutbox-door.mjs). By AI agents, Wed Nov 11 2026. No macro, syntax, notation, axiom, sorry.
-/
import Derived.Test.YtckjmcfncfoboaaDoorRows
import GoSem.ClaimSeven
namespace Go.Proofs.YtckjmcfncfoboaaDoor
namespace Rows

/-- THE TIED CARD OF 'quadrillelaw04.SingleKinds'. -/
def singleKindsCard : Claim7 := { stood := { row := singleKindsRow, standIns := [], harness := (true, "24db9b9b10a8341cb8d0d791cd98e2757268f26a48a85cba6447524377145b84"), looks := false }, kinds := [], alts := [], laidByText := true, laidKinds := [.data], laidTests := true, laidLooks := .later }
def SingleKindsCardSaid : Prop := Claim7.holds Tryd.pinned (.plain (OpenSpec.ofChange singleKindsSpec)) singleKindsCard

/-- THE TIED CARD OF 'quadrillelaw04.SingleReckons'. -/
def singleReckonsCard : Claim7 := { stood := { row := singleReckonsRow, standIns := [], harness := (true, "24db9b9b10a8341cb8d0d791cd98e2757268f26a48a85cba6447524377145b84"), looks := false }, kinds := [], alts := [], laidByText := true, laidKinds := [.data], laidTests := true, laidLooks := .later }
def SingleReckonsCardSaid : Prop := Claim7.holds Tryd.pinned (.plain (OpenSpec.ofChange singleReckonsSpec)) singleReckonsCard

/-- THE TIED CARD OF 'quadrillelaw04.SingleSums'. -/
def singleSumsCard : Claim7 := { stood := { row := singleSumsRow, standIns := [], harness := (true, "24db9b9b10a8341cb8d0d791cd98e2757268f26a48a85cba6447524377145b84"), looks := false }, kinds := [], alts := [], laidByText := true, laidKinds := [.data], laidTests := true, laidLooks := .later }
def SingleSumsCardSaid : Prop := Claim7.holds Tryd.pinned (.plain (OpenSpec.ofChange singleSumsSpec)) singleSumsCard

/-- THE TIED CARD OF 'quadrillelaw04.SingleWhole'. -/
def singleWholeCard : Claim7 := { stood := { row := singleWholeRow, standIns := [], harness := (true, "24db9b9b10a8341cb8d0d791cd98e2757268f26a48a85cba6447524377145b84"), looks := false }, kinds := [], alts := [], laidByText := true, laidKinds := [.data], laidTests := true, laidLooks := .later }
def SingleWholeCardSaid : Prop := Claim7.holds Tryd.pinned (.plain (OpenSpec.ofChange singleWholeSpec)) singleWholeCard

/-- THE TIED CARD OF 'quadrillelaw04.SingleFrom'. -/
def singleFromCard : Claim7 := { stood := { row := singleFromRow, standIns := [], harness := (true, "24db9b9b10a8341cb8d0d791cd98e2757268f26a48a85cba6447524377145b84"), looks := false }, kinds := [], alts := [], laidByText := true, laidKinds := [.data], laidTests := true, laidLooks := .later }
def SingleFromCardSaid : Prop := Claim7.holds Tryd.pinned (.plain (OpenSpec.ofChange singleFromSpec)) singleFromCard

/-- THE TIED CARD OF 'quadrillelaw04.SingleOdd'. -/
def singleOddCard : Claim7 := { stood := { row := singleOddRow, standIns := [], harness := (true, "24db9b9b10a8341cb8d0d791cd98e2757268f26a48a85cba6447524377145b84"), looks := false }, kinds := [], alts := [], laidByText := true, laidKinds := [.data], laidTests := true, laidLooks := .later }
def SingleOddCardSaid : Prop := Claim7.holds Tryd.pinned (.plain (OpenSpec.ofChange singleOddSpec)) singleOddCard

/-- THE SECOND FORM's CARD OF 'quadrillelaw04.SingleKinds'. -/
def singleKindsUptoCard : Claim7 := { stood := { row := singleKindsUptoRow, standIns := [], harness := (true, "24db9b9b10a8341cb8d0d791cd98e2757268f26a48a85cba6447524377145b84"), looks := false }, kinds := [], alts := [], laidByText := true, laidKinds := [.data], laidTests := true, laidLooks := .later }
def SingleKindsUptoCardSaid : Prop := Claim7.holds Tryd.pinned (.plain (OpenSpec.upto singleKindsSpec)) singleKindsUptoCard

/-- THE SECOND FORM's CARD OF 'quadrillelaw04.SingleReckons'. -/
def singleReckonsUptoCard : Claim7 := { stood := { row := singleReckonsUptoRow, standIns := [], harness := (true, "24db9b9b10a8341cb8d0d791cd98e2757268f26a48a85cba6447524377145b84"), looks := false }, kinds := [], alts := [], laidByText := true, laidKinds := [.data], laidTests := true, laidLooks := .later }
def SingleReckonsUptoCardSaid : Prop := Claim7.holds Tryd.pinned (.plain (OpenSpec.upto singleReckonsSpec)) singleReckonsUptoCard

/-- THE SECOND FORM's CARD OF 'quadrillelaw04.SingleSums'. -/
def singleSumsUptoCard : Claim7 := { stood := { row := singleSumsUptoRow, standIns := [], harness := (true, "24db9b9b10a8341cb8d0d791cd98e2757268f26a48a85cba6447524377145b84"), looks := false }, kinds := [], alts := [], laidByText := true, laidKinds := [.data], laidTests := true, laidLooks := .later }
def SingleSumsUptoCardSaid : Prop := Claim7.holds Tryd.pinned (.plain (OpenSpec.upto singleSumsSpec)) singleSumsUptoCard

/-- THE SECOND FORM's CARD OF 'quadrillelaw04.SingleWhole'. -/
def singleWholeUptoCard : Claim7 := { stood := { row := singleWholeUptoRow, standIns := [], harness := (true, "24db9b9b10a8341cb8d0d791cd98e2757268f26a48a85cba6447524377145b84"), looks := false }, kinds := [], alts := [], laidByText := true, laidKinds := [.data], laidTests := true, laidLooks := .later }
def SingleWholeUptoCardSaid : Prop := Claim7.holds Tryd.pinned (.plain (OpenSpec.upto singleWholeSpec)) singleWholeUptoCard

/-- THE SECOND FORM's CARD OF 'quadrillelaw04.SingleFrom'. -/
def singleFromUptoCard : Claim7 := { stood := { row := singleFromUptoRow, standIns := [], harness := (true, "24db9b9b10a8341cb8d0d791cd98e2757268f26a48a85cba6447524377145b84"), looks := false }, kinds := [], alts := [], laidByText := true, laidKinds := [.data], laidTests := true, laidLooks := .later }
def SingleFromUptoCardSaid : Prop := Claim7.holds Tryd.pinned (.plain (OpenSpec.upto singleFromSpec)) singleFromUptoCard

/-- THE SECOND FORM's CARD OF 'quadrillelaw04.SingleOdd'. -/
def singleOddUptoCard : Claim7 := { stood := { row := singleOddUptoRow, standIns := [], harness := (true, "24db9b9b10a8341cb8d0d791cd98e2757268f26a48a85cba6447524377145b84"), looks := false }, kinds := [], alts := [], laidByText := true, laidKinds := [.data], laidTests := true, laidLooks := .later }
def SingleOddUptoCardSaid : Prop := Claim7.holds Tryd.pinned (.plain (OpenSpec.upto singleOddSpec)) singleOddUptoCard
end Rows
end Go.Proofs.YtckjmcfncfoboaaDoor
