/- The document's Valid, less, Order, ValidArea. The document's own (quadrilleref12): a node's own error. The document's first and Check (quadrilleref12). -/
import Derived.Test.YtbkcebbddhaifaaDoorB10
import Derived.Deep.RegionWith
import Derived.Test.YtbkcebbddhaifaaDoorB26
import Derived.Test.YtbkcebbddhaifaaDoorB27
import Derived.Test.YtbkcebbddhaifaaDoorB8
namespace Go.Proofs.YtbkcebbddhaifaaDoor
open Go.RowKit

end Go.Proofs.YtbkcebbddhaifaaDoor
namespace Go.Proofs.YtbkcebbddhaifaaDoor
open Go.RowKit Go.Lib

theorem vA_one (c r : Int) : vA c r c r = vC c r := by unfold vA; simp
end Go.Proofs.YtbkcebbddhaifaaDoor
namespace Go.Proofs.YtbkcebbddhaifaaDoor
open Go.RowKit Go.Lib
attribute [local irreducible] Nd.fe feL

theorem exec_load_mid {o : Oper} {a : Act} {x : Operand} {b p : Nat} {w : World} (cs : List Value) (ho : o.op = .load 37 x) (hx : a.eval x = .pointer (some ⟨b, p, none⟩)) (hc : w.rangeAt b p cs) (hcs : cs.length = 15) : (execOp a.eval o).run Tryd.prog w = .ok (.value (.agg cs.toArray)) w := by
  unfold execOp
  simp only [ho, hx, Instr.loadAt, Instr.sureAddr, Sem.run_bind, Sem.run_pure, Result.andThen_ok, run_loadVar_mid w b p 37 cs _ hc Tryd.underlying37 rfl (by rw [hcs]; exact infoNode)]
/-- The first q have no error. -/
def Okup (ts : List Nd) (c : Bool) (q : Nat) : Prop := ∀ i (h : i < ts.length), i < q → (ts[i]).fe c = 0
mutual
/-- Texts that are no longer than texts can be. -/
def Nd.txt : Nd → Prop
  | .mk h ts => h.s.size ≤ 140737488355328 ∧ txtL ts
def txtL : List Nd → Prop
  | [] => True
  | t :: ts => t.txt ∧ txtL ts
end
theorem txtL.get : ∀ {ts : List Nd}, txtL ts → ∀ i, (h : i < ts.length) → (ts[i]).txt
  | [], _, i, h => absurd h (by simp)
  | t :: ts, hk, i, h => by
    rw [txtL] at hk
    cases i with
    | zero => exact hk.1
    | succ i => exact hk.2.get i (by simpa using h)
end Go.Proofs.YtbkcebbddhaifaaDoor
