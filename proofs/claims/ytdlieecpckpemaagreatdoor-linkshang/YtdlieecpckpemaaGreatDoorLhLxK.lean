/- What the cards of this seat want: the table of math/bits as the program lays it; a cell opened. -/
import Derived.Test.YtdlieecpckpemaaGreatDoorLhTn
import Derived.Test.YtdlieecpckpemaaGreatDoorLhZw
import Derived.Test.YtdlieecpckpemaaGreatDoorCards
import Derived.Test.YtdlieecpckpemaaGreatDoorTie
import Derived.ProofKit
import Derived.SizedLaws
import Derived.ChangeSame
import Derived.LaidMore
import Derived.OpenShut
import Derived.Carry
import Derived.Stop.Joined
import Derived.Lib.LaidTab
namespace Go.Proofs.YtdlieecpckpemaaGreatDoor
open Go.ChangeShapes Go.WideShapes Go.ChangeAt Go.RowKit

theorem ownL : ownKnob Tryz.prog.godebug = none := by kernel_rfl
theorem laidL : laidOutB Tryz.prog = true := by kernel_rfl
theorem gTab : Tryz.prog.globalNamed "math/bits.deBruijn64tab" = some 0 := by kernel_rfl
theorem gTabType : (Tryz.prog.globals[0]?).map (·.type) = some 149 := by kernel_rfl
theorem cellsTab : Tryz.prog.cellsOf 149 = 64 := by kernel_rfl
theorem cellsU8 : Tryz.prog.cellsOf 5 = 1 := by kernel_rfl
def laidOne : List (String × DataW Unit) := [("math/bits.deBruijn64tab", Rows.laid_math_bits_deBruijn64tab)]
theorem tab_of {W : World} (h : laidMetH Tryz.prog laidOne W) : Tab W := by
  have t : Lib.TabIs Tryz.prog W "math/bits.deBruijn64tab" .u8 (Lib.deBruijn64tab.map fun n : Nat => (n : Int)) :=
    Lib.tabIs_of_head (rest := []) gTab gTabType Tryz.underlying149 Tryz.underlying5 cellsU8 cellsTab h
  intro j hj
  have := t.cell gTab j (by rw [List.length_map]; exact hj)
  rw [this]
  have e : (Lib.deBruijn64tab.map fun n : Nat => (n : Int)).getD j 0 = ((Lib.deBruijn64tab.getD j 0 : Nat) : Int) := by
    simp only [List.getD_eq_getElem?_getD, List.getElem?_map]
    cases Lib.deBruijn64tab[j]? <;> rfl
  rw [e]
/-- The heap that the program's own initialisers leave meets the row's list. -/
theorem door_met (os : Os) (args : Array Value) : laidMetH Tryz.prog laidOne ((World.doorLaid Tryz.prog 400 os).forCall (fun _ _ => 0) ⟨#[], args, []⟩).memory :=
  laidMetH_of_parts3 (fuel := 8) (laidMet_of_run' 8 (by kernel_rfl) (by kernel_rfl)) (by kernel_rfl) (by kernel_rfl)
theorem cellsIntL : Tryz.prog.cellsOf 3 = 1 := by kernel_rfl
theorem cellsAddrL : Tryz.prog.cellsOf 29 = 2 := by kernel_rfl
theorem trod_addrL {H : Type} {enc : TypeId × Value → H} {w : World} {base fuel : Nat} {v0 v1 : Value} {x : DataW H × List MemPlace} (h : DataW.trod enc Tryz.prog w base (fun _ => true) true fuel 29 [v0, v1] = some x) :
    ∃ c r : Int, v0 = .int .i64 c ∧ v1 = .int .i64 r := by
  obtain ⟨y0, y1, n, _, _, h0, h1⟩ := trod_struct2 Tryz.underlying29 h
  simp only [cellsIntL, List.drop_zero, List.take_succ_cons, List.take_zero, List.drop_succ_cons] at h0 h1
  obtain ⟨c, e0, _, _⟩ := DataW.trod_int Tryz.underlying3 h0
  obtain ⟨r, e1, _, _⟩ := DataW.trod_int Tryz.underlying3 h1
  simp at e0 e1
  exact ⟨c, r, e0, e1⟩
set_option maxRecDepth 100000 in
theorem open_addr {H : Type} {enc : TypeId × Value → H} {w : World} {base : Nat} {rr : Reach} {b0 : Nat} {v : Value} {d : DataW H} {p : List MemPlace} (hv : Value.okWide Tryz.prog w rr b0 29 v) (h : DataW.Trod enc Tryz.prog w base (fun _ => true) true 29 v d p) :
    ∃ c r : Int, v = .agg #[.int .i64 c, .int .i64 r] := by
  obtain ⟨cs, rfl, hsz⟩ := okWide_struct Tryz.underlying29 hv
  obtain ⟨l⟩ := cs
  have hl2 : l.length = 2 := hsz.trans cellsAddrL
  obtain ⟨c0, c1, rfl⟩ : ∃ c0 c1, l = [c0, c1] := by
    match l, hl2 with
    | [c0, c1], _ => exact ⟨c0, c1, rfl⟩
  obtain ⟨fuel, hf⟩ := h
  obtain ⟨c, r, rfl, rfl⟩ := trod_addrL (by simpa [Value.cells] using hf)
  exact ⟨c, r, rfl⟩
end Go.Proofs.YtdlieecpckpemaaGreatDoor
