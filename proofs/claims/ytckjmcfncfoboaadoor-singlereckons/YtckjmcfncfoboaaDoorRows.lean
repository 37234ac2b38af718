/-
  NARROWER THAN 'FOR EVERY INPUT', by the rows' own cells (each row's printed sentence says how): SingleKinds: laid · SingleReckons: laid · SingleSums: laid · SingleWhole: laid · SingleFrom: laid · SingleOdd: laid.
  DERIVED. THE GIVEN ROWS OF THIS SEAT. 6 by the template 'for every input the law returns true; each argument reads behind the call as it read before'; 0 by the template 'total and deterministic' (their statements: YtckjmcfncfoboaaDoorTotals.lean).
  GIVEN WITH THE SEED: the statements are not yours to turn. If you find one false, say at which input.
  Laid BY PROGRAM, IN A SANDBOX (cutbox-rows.mjs): the forced cells as the released guide's own fill.sh prints them over the translation 9206d17750f50226… (all of the seat's roots in one cut). By AI agents, Wed Nov 11 2026. No macro, syntax, notation, axiom, sorry.
-/
import Derived.Test.YtckjmcfncfoboaaDoorChecked
import GoSem.Claim
import GoSem.ClaimJoined
import GoSem.ClaimMapViews
import Derived.JoinedTies
import Derived.KernelRfl
namespace Go.Proofs.YtckjmcfncfoboaaDoor
/- THE CELL 'sum', in the pinned program and in every row, IS THE sha256 OF THE DUMP (.gsa) THAT YtckjmcfncfoboaaDoorProg.lean LOADS. Nothing in Lean hashes anything: it is a label: what it is worth is what the hold of that sum in a sandbox is worth. -/
noncomputable def Tryd.pinned : Pinned := { name := "ytckjmcfncfoboaadoor", sum := "9206d17750f502269d463433f59c473f3ba0dc307b0eb96a471d8d3d5510f3bb", checked := Tryd.checked }
namespace Rows
def none {H : Type} : Left H := { results := [], args := [] }

/- WHAT THE LISTED PACKAGE-LEVEL VARIABLES READ AS WHEN THE CALL BEGINS. Each datum BY PROGRAM (the guide's laid-datum.mjs) off the statement by which the dump's own 'gosem.cut.vars' lays the variable. In a bare row this is a premise. The card (YtckjmcfncfoboaaDoorCards.lean) ties it to the program's text. -/
def laid_math_bits_deBruijn64tab {H : Type} : DataW H := .agg [.lit (.int .u8 0), .lit (.int .u8 1), .lit (.int .u8 56), .lit (.int .u8 2), .lit (.int .u8 57), .lit (.int .u8 49), .lit (.int .u8 28), .lit (.int .u8 3), .lit (.int .u8 61), .lit (.int .u8 58), .lit (.int .u8 42), .lit (.int .u8 50), .lit (.int .u8 38), .lit (.int .u8 29), .lit (.int .u8 17), .lit (.int .u8 4), .lit (.int .u8 62), .lit (.int .u8 47), .lit (.int .u8 59), .lit (.int .u8 36), .lit (.int .u8 45), .lit (.int .u8 43), .lit (.int .u8 51), .lit (.int .u8 22), .lit (.int .u8 53), .lit (.int .u8 39), .lit (.int .u8 33), .lit (.int .u8 30), .lit (.int .u8 24), .lit (.int .u8 18), .lit (.int .u8 12), .lit (.int .u8 5), .lit (.int .u8 63), .lit (.int .u8 55), .lit (.int .u8 48), .lit (.int .u8 27), .lit (.int .u8 60), .lit (.int .u8 41), .lit (.int .u8 37), .lit (.int .u8 16), .lit (.int .u8 46), .lit (.int .u8 35), .lit (.int .u8 44), .lit (.int .u8 21), .lit (.int .u8 52), .lit (.int .u8 32), .lit (.int .u8 23), .lit (.int .u8 11), .lit (.int .u8 54), .lit (.int .u8 26), .lit (.int .u8 40), .lit (.int .u8 15), .lit (.int .u8 34), .lit (.int .u8 20), .lit (.int .u8 31), .lit (.int .u8 10), .lit (.int .u8 25), .lit (.int .u8 14), .lit (.int .u8 19), .lit (.int .u8 9), .lit (.int .u8 13), .lit (.int .u8 8), .lit (.int .u8 7), .lit (.int .u8 6)]

/-- 'quadrillelaw04.SingleKinds': WHATEVER THE INPUT: true; the input reads as it did. -/
def singleKindsSpec : ChangeSpec := { name := "singleKinds", fn := fun _ => fun
  | [d1, d2, d3] => { results := [.lit (.bool true)], args := [d1, d2, d3] }
  | _ => none }
def singleKindsRow : OpenClaim := { program := "ytckjmcfncfoboaadoor", sum := "9206d17750f502269d463433f59c473f3ba0dc307b0eb96a471d8d3d5510f3bb", func := "quadrille/quadrillelaw04.SingleKinds", spec := "singleKinds", inPlace := ["math.Float64bits", "math.Float32bits", "math.Float32frombits", "math.Float64frombits"], named := ["math/bits.deBruijn64tab"], apart := false, laid := [("math/bits.deBruijn64tab", laid_math_bits_deBruijn64tab)] }
def SingleKindsSaid : Prop := singleKindsRow.holds Tryd.pinned (OpenSpec.ofChange singleKindsSpec)

/-- ITS FALSE NEIGHBOUR: 'it returns false'. Refute it at one input. -/
def singleKindsWrong : ChangeSpec := { name := "singleKinds", fn := fun _ => fun
  | [d1, d2, d3] => { results := [.lit (.bool false)], args := [d1, d2, d3] }
  | _ => none }
def SingleKindsWrongFalsely : Prop := singleKindsRow.holds Tryd.pinned (OpenSpec.ofChange singleKindsWrong)

/-- 'quadrillelaw04.SingleReckons': WHATEVER THE INPUT: true; the input reads as it did. -/
def singleReckonsSpec : ChangeSpec := { name := "singleReckons", fn := fun _ => fun
  | [d1, d2] => { results := [.lit (.bool true)], args := [d1, d2] }
  | _ => none }
def singleReckonsRow : OpenClaim := { program := "ytckjmcfncfoboaadoor", sum := "9206d17750f502269d463433f59c473f3ba0dc307b0eb96a471d8d3d5510f3bb", func := "quadrille/quadrillelaw04.SingleReckons", spec := "singleReckons", inPlace := ["math.Float64bits", "math.Float32bits", "math.Float32frombits", "math.Float64frombits"], named := ["math/bits.deBruijn64tab"], apart := false, laid := [("math/bits.deBruijn64tab", laid_math_bits_deBruijn64tab)] }
def SingleReckonsSaid : Prop := singleReckonsRow.holds Tryd.pinned (OpenSpec.ofChange singleReckonsSpec)

/-- ITS FALSE NEIGHBOUR: 'it returns false'. Refute it at one input. -/
def singleReckonsWrong : ChangeSpec := { name := "singleReckons", fn := fun _ => fun
  | [d1, d2] => { results := [.lit (.bool false)], args := [d1, d2] }
  | _ => none }
def SingleReckonsWrongFalsely : Prop := singleReckonsRow.holds Tryd.pinned (OpenSpec.ofChange singleReckonsWrong)

/-- 'quadrillelaw04.SingleSums': WHATEVER THE INPUT: true; the input reads as it did. -/
def singleSumsSpec : ChangeSpec := { name := "singleSums", fn := fun _ => fun
  | [d] => { results := [.lit (.bool true)], args := [d] }
  | _ => none }
def singleSumsRow : OpenClaim := { program := "ytckjmcfncfoboaadoor", sum := "9206d17750f502269d463433f59c473f3ba0dc307b0eb96a471d8d3d5510f3bb", func := "quadrille/quadrillelaw04.SingleSums", spec := "singleSums", inPlace := ["math.Float64bits", "math.Float32bits", "math.Float32frombits", "math.Float64frombits"], named := ["math/bits.deBruijn64tab"], apart := false, laid := [("math/bits.deBruijn64tab", laid_math_bits_deBruijn64tab)] }
def SingleSumsSaid : Prop := singleSumsRow.holds Tryd.pinned (OpenSpec.ofChange singleSumsSpec)

/-- ITS FALSE NEIGHBOUR: 'it returns false'. Refute it at one input. -/
def singleSumsWrong : ChangeSpec := { name := "singleSums", fn := fun _ => fun
  | [d] => { results := [.lit (.bool false)], args := [d] }
  | _ => none }
def SingleSumsWrongFalsely : Prop := singleSumsRow.holds Tryd.pinned (OpenSpec.ofChange singleSumsWrong)

/-- 'quadrillelaw04.SingleWhole': WHATEVER THE INPUT: true; the input reads as it did. -/
def singleWholeSpec : ChangeSpec := { name := "singleWhole", fn := fun _ => fun
  | [d1, d2] => { results := [.lit (.bool true)], args := [d1, d2] }
  | _ => none }
def singleWholeRow : OpenClaim := { program := "ytckjmcfncfoboaadoor", sum := "9206d17750f502269d463433f59c473f3ba0dc307b0eb96a471d8d3d5510f3bb", func := "quadrille/quadrillelaw04.SingleWhole", spec := "singleWhole", inPlace := ["math.Float64bits", "math.Float32bits", "math.Float32frombits", "math.Float64frombits"], named := ["math/bits.deBruijn64tab"], apart := false, laid := [("math/bits.deBruijn64tab", laid_math_bits_deBruijn64tab)] }
def SingleWholeSaid : Prop := singleWholeRow.holds Tryd.pinned (OpenSpec.ofChange singleWholeSpec)

/-- ITS FALSE NEIGHBOUR: 'it returns false'. Refute it at one input. -/
def singleWholeWrong : ChangeSpec := { name := "singleWhole", fn := fun _ => fun
  | [d1, d2] => { results := [.lit (.bool false)], args := [d1, d2] }
  | _ => none }
def SingleWholeWrongFalsely : Prop := singleWholeRow.holds Tryd.pinned (OpenSpec.ofChange singleWholeWrong)

/-- 'quadrillelaw04.SingleFrom': WHATEVER THE INPUT: true; the input reads as it did. -/
def singleFromSpec : ChangeSpec := { name := "singleFrom", fn := fun _ => fun
  | [d1, d2, d3] => { results := [.lit (.bool true)], args := [d1, d2, d3] }
  | _ => none }
def singleFromRow : OpenClaim := { program := "ytckjmcfncfoboaadoor", sum := "9206d17750f502269d463433f59c473f3ba0dc307b0eb96a471d8d3d5510f3bb", func := "quadrille/quadrillelaw04.SingleFrom", spec := "singleFrom", inPlace := ["math.Float64bits", "math.Float32bits", "math.Float32frombits", "math.Float64frombits"], named := ["math/bits.deBruijn64tab"], apart := false, laid := [("math/bits.deBruijn64tab", laid_math_bits_deBruijn64tab)] }
def SingleFromSaid : Prop := singleFromRow.holds Tryd.pinned (OpenSpec.ofChange singleFromSpec)

/-- ITS FALSE NEIGHBOUR: 'it returns false'. Refute it at one input. -/
def singleFromWrong : ChangeSpec := { name := "singleFrom", fn := fun _ => fun
  | [d1, d2, d3] => { results := [.lit (.bool false)], args := [d1, d2, d3] }
  | _ => none }
def SingleFromWrongFalsely : Prop := singleFromRow.holds Tryd.pinned (OpenSpec.ofChange singleFromWrong)

/-- 'quadrillelaw04.SingleOdd': WHATEVER THE INPUT: true; the input reads as it did. -/
def singleOddSpec : ChangeSpec := { name := "singleOdd", fn := fun _ => fun
  | [d1, d2] => { results := [.lit (.bool true)], args := [d1, d2] }
  | _ => none }
def singleOddRow : OpenClaim := { program := "ytckjmcfncfoboaadoor", sum := "9206d17750f502269d463433f59c473f3ba0dc307b0eb96a471d8d3d5510f3bb", func := "quadrille/quadrillelaw04.SingleOdd", spec := "singleOdd", inPlace := ["math.Float64bits", "math.Float32bits", "math.Float32frombits", "math.Float64frombits"], named := ["math/bits.deBruijn64tab"], apart := false, laid := [("math/bits.deBruijn64tab", laid_math_bits_deBruijn64tab)] }
def SingleOddSaid : Prop := singleOddRow.holds Tryd.pinned (OpenSpec.ofChange singleOddSpec)

/-- ITS FALSE NEIGHBOUR: 'it returns false'. Refute it at one input. -/
def singleOddWrong : ChangeSpec := { name := "singleOdd", fn := fun _ => fun
  | [d1, d2] => { results := [.lit (.bool false)], args := [d1, d2] }
  | _ => none }
def SingleOddWrongFalsely : Prop := singleOddRow.holds Tryd.pinned (OpenSpec.ofChange singleOddWrong)

/- THE SECOND FORM. 'bulk': how many values and letters a reading holds, each counted each time it is reached (what is shared counts as often as it is met; a slice's spare places count too). A statement '..UptoSaid' is the law's where the arguments, and the package variables that the reading takes, are together of bulk at most 1048576: NARROWER than '..Said'. Prove '..Said' where nothing that the law and all that it calls make is longer than what came in: it says more and counts as full. Else prove '..UptoSaid'. A law counts once. -/
mutual
def uptoBulk {H : Type} : DataW H → Nat
  | .lit (.string bytes) => bytes.length + 1
  | .lit _ => 1
  | .nil => 1
  | .ptr d => uptoBulk d + 1
  | .slice elems spare => uptoBulkAll elems + uptoBulkAll spare + 1
  | .agg parts => uptoBulkAll parts + 1
  | .iface _ d => uptoBulk d + 1
  | .map entries => uptoBulkEntries entries + 1
  | .held _ => 1
def uptoBulkAll {H : Type} : List (DataW H) → Nat
  | [] => 0
  | d :: r => uptoBulk d + uptoBulkAll r
def uptoBulkEntries {H : Type} : List (Lit × DataW H) → Nat
  | [] => 0
  | x :: r => uptoBulkEntry x + uptoBulkEntries r
def uptoBulkEntry {H : Type} : Lit × DataW H → Nat
  | (.string bytes, d) => bytes.length + uptoBulk d + 1
  | (_, d) => uptoBulk d + 1
 end
def uptoSmall : (H : Type) → List (DataW H) → Bool := fun _ ds => decide (uptoBulkAll ds ≤ 1048576)
def OpenSpec.upto (s : _root_.Go.ChangeSpec) : _root_.Go.OpenSpec := { _root_.Go.OpenSpec.ofChange s with cond := some uptoSmall }

/-- 'quadrillelaw04.SingleKinds', WHERE WHAT IT READS IS OF BULK AT MOST 1048576: true; the input reads as it did. -/
def singleKindsUptoRow : OpenClaim := { program := "ytckjmcfncfoboaadoor", sum := "9206d17750f502269d463433f59c473f3ba0dc307b0eb96a471d8d3d5510f3bb", func := "quadrille/quadrillelaw04.SingleKinds", spec := "singleKinds", inPlace := ["math.Float64bits", "math.Float32bits", "math.Float32frombits", "math.Float64frombits"], named := ["math/bits.deBruijn64tab"], apart := false, laid := [("math/bits.deBruijn64tab", laid_math_bits_deBruijn64tab)], narrowed := true }
def SingleKindsUptoSaid : Prop := singleKindsUptoRow.holds Tryd.pinned (OpenSpec.upto singleKindsSpec)

/-- 'quadrillelaw04.SingleReckons', WHERE WHAT IT READS IS OF BULK AT MOST 1048576: true; the input reads as it did. -/
def singleReckonsUptoRow : OpenClaim := { program := "ytckjmcfncfoboaadoor", sum := "9206d17750f502269d463433f59c473f3ba0dc307b0eb96a471d8d3d5510f3bb", func := "quadrille/quadrillelaw04.SingleReckons", spec := "singleReckons", inPlace := ["math.Float64bits", "math.Float32bits", "math.Float32frombits", "math.Float64frombits"], named := ["math/bits.deBruijn64tab"], apart := false, laid := [("math/bits.deBruijn64tab", laid_math_bits_deBruijn64tab)], narrowed := true }
def SingleReckonsUptoSaid : Prop := singleReckonsUptoRow.holds Tryd.pinned (OpenSpec.upto singleReckonsSpec)

/-- 'quadrillelaw04.SingleSums', WHERE WHAT IT READS IS OF BULK AT MOST 1048576: true; the input reads as it did. -/
def singleSumsUptoRow : OpenClaim := { program := "ytckjmcfncfoboaadoor", sum := "9206d17750f502269d463433f59c473f3ba0dc307b0eb96a471d8d3d5510f3bb", func := "quadrille/quadrillelaw04.SingleSums", spec := "singleSums", inPlace := ["math.Float64bits", "math.Float32bits", "math.Float32frombits", "math.Float64frombits"], named := ["math/bits.deBruijn64tab"], apart := false, laid := [("math/bits.deBruijn64tab", laid_math_bits_deBruijn64tab)], narrowed := true }
def SingleSumsUptoSaid : Prop := singleSumsUptoRow.holds Tryd.pinned (OpenSpec.upto singleSumsSpec)

/-- 'quadrillelaw04.SingleWhole', WHERE WHAT IT READS IS OF BULK AT MOST 1048576: true; the input reads as it did. -/
def singleWholeUptoRow : OpenClaim := { program := "ytckjmcfncfoboaadoor", sum := "9206d17750f502269d463433f59c473f3ba0dc307b0eb96a471d8d3d5510f3bb", func := "quadrille/quadrillelaw04.SingleWhole", spec := "singleWhole", inPlace := ["math.Float64bits", "math.Float32bits", "math.Float32frombits", "math.Float64frombits"], named := ["math/bits.deBruijn64tab"], apart := false, laid := [("math/bits.deBruijn64tab", laid_math_bits_deBruijn64tab)], narrowed := true }
def SingleWholeUptoSaid : Prop := singleWholeUptoRow.holds Tryd.pinned (OpenSpec.upto singleWholeSpec)

/-- 'quadrillelaw04.SingleFrom', WHERE WHAT IT READS IS OF BULK AT MOST 1048576: true; the input reads as it did. -/
def singleFromUptoRow : OpenClaim := { program := "ytckjmcfncfoboaadoor", sum := "9206d17750f502269d463433f59c473f3ba0dc307b0eb96a471d8d3d5510f3bb", func := "quadrille/quadrillelaw04.SingleFrom", spec := "singleFrom", inPlace := ["math.Float64bits", "math.Float32bits", "math.Float32frombits", "math.Float64frombits"], named := ["math/bits.deBruijn64tab"], apart := false, laid := [("math/bits.deBruijn64tab", laid_math_bits_deBruijn64tab)], narrowed := true }
def SingleFromUptoSaid : Prop := singleFromUptoRow.holds Tryd.pinned (OpenSpec.upto singleFromSpec)

/-- 'quadrillelaw04.SingleOdd', WHERE WHAT IT READS IS OF BULK AT MOST 1048576: true; the input reads as it did. -/
def singleOddUptoRow : OpenClaim := { program := "ytckjmcfncfoboaadoor", sum := "9206d17750f502269d463433f59c473f3ba0dc307b0eb96a471d8d3d5510f3bb", func := "quadrille/quadrillelaw04.SingleOdd", spec := "singleOdd", inPlace := ["math.Float64bits", "math.Float32bits", "math.Float32frombits", "math.Float64frombits"], named := ["math/bits.deBruijn64tab"], apart := false, laid := [("math/bits.deBruijn64tab", laid_math_bits_deBruijn64tab)], narrowed := true }
def SingleOddUptoSaid : Prop := singleOddUptoRow.holds Tryd.pinned (OpenSpec.upto singleOddSpec)

end Rows
end Go.Proofs.YtckjmcfncfoboaaDoor
