/-A range over a function that tells nothing. -/
import Derived.Test.YtecjfnkakodebaaGreatDoorQwXk
import Derived.RangeFuncNested
import Derived.RangeFuncBound
import Derived.RangeFuncCalls
import Derived.RangeFuncLeaves
import Derived.Shelf.Abstract
import Derived.OwnWalkIn
import Derived.TacticsInMore
import Derived.LoopNIn
import Derived.LoopIn
import Derived.Laws.EntriesVeiled
namespace Go.Proofs.YtecjfnkakodebaaGreatDoor
open Go.RowKit Go.Shelf
attribute [local go_sem] Oper.semAt_some
theorem putObj_kp {w W:World} {l:Nat} {o:Obj} (h:Kp w W Nul) (hl:w.heap.size<=l):Kp w (W.putObj l o) Nul:=
 ⟨h.os,h.tape,h.output,by have:=h.size;simpa [World.putObj] using this,fun i hi hs=>(World.putObj_heap_other (by omega)).trans (h.block i hi hs)⟩
section
variable {n:Nat} {P:Program} {g:Operand} {ps:Array Tmp} {assign body:Code} {Q:Exit->Act->World->Prop} {a:Act} {w:World}
def lrec (fn:FuncId) (a:Act) (ps:Array Tmp) (assign body:Code) (d:Nat) (st:LoopState) (pe:Option Code):Loop:={ state:=st,pending:=pe,fn,tmps:=a.tmps,params:=ps,assign,body,defers:=d }
end
end Go.Proofs.YtecjfnkakodebaaGreatDoor
