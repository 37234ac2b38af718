/- A region that draws its order, whose operations read and whose callees read and lay new blocks: one walk of the text's order serves all. No function of the program here. -/
import Derived.Test.YthehdloofamadaaDoorLa
import Derived.Deep.QuietTactic
namespace Go.Proofs.YthehdloofamadaaDoor
open Go.RowKit

/-- A world in which all that lay in W0 lies as it lay. -/
structure BW (W0 : World) where
  wd : World
  bel : Below W0.heap.size W0 wd
instance bw_some (W0 : World) : Nonempty (BW W0) := ⟨⟨W0, Below.refl _ _⟩⟩
theorem wp_region_bw {P : Program} {id : Nat} {Q : Exit → Act → World → Prop} {a : Act} {W0 w : World} {l : List Oper} (hw : Below W0.heap.size W0 w) (hm : P.follows .mixedOrders = true) (hB : Region.lexB .any l.toArray = true)
    (h : wpQuiet P l.toArray (fun w' => ∃ x : BW W0, w' = x.wd) (fun a' => ∀ w', (∃ x : BW W0, w' = x.wd) → Q .normal a' w') l a) : (Code.region id l.toArray true).wp P Q a w :=
  wp_region_quiet (C := fun w' => ∃ x : BW W0, w' = x.wd) hm hB ⟨⟨_, Below.drew hw⟩, rfl⟩ (by simpa using h)
theorem calls_bw {P : Program} {f : FuncId} {args : Array Value} {W0 : World} {x : BW W0} {v : Value}
    (h : Calls P f args x.wd fun e w' => e = .returned v ∧ Below x.wd.heap.size x.wd w') : Calls P f args x.wd fun e w' => e = .returned v ∧ ∃ y : BW W0, w' = y.wd :=
  h.mono fun _ w' hh => ⟨hh.1, ⟨w', x.bel.trans (hh.2.mono x.bel.size)⟩, rfl⟩
end Go.Proofs.YthehdloofamadaaDoor
