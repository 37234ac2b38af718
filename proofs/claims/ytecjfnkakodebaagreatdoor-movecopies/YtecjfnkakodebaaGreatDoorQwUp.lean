/-GridNil: the walk. -/
import Derived.Test.YtecjfnkakodebaaGreatDoorQwUj
import Derived.Test.YtecjfnkakodebaaGreatDoorQwUf
namespace Go.Proofs.YtecjfnkakodebaaGreatDoor
open Go.RowKit Go.Shelf Go.Maps
attribute [local go_sem] Oper.semAt_some
theorem loadIn_content {F:Fence} {n:Nat} {ops:Array Oper} {rest:List Oper} {o:Oper} {a:Act} {w:World} {Q:Exit->Act->World->Prop} (hgd:Region.wanted o (yielded ops a.tmps)=true) (x:Operand) (ho:o.op=.load 50 x) (g:Nat) (hx:a.eval x=.pointer (some ⟨g,0,none⟩)) (cs:Array Value) (hg:w.heap[g]? = some (.cells cs 50 (0,0))) (hcs:cs.size=21)
  (h:wpListIn F n Tryz.prog ops Q rest (a.put o.dst (.agg cs)) w):wpListIn F n Tryz.prog ops Q (o::rest) a w:=by
 refine wpListIn_step fun K hK=>?_
 simp only[hgd,if_true]
 unfold Oper.wpIn
 refine⟨by simp[Oper.about,ho],?_⟩
 rw[Oper.semAt_plain F _ _ (by rw[ho];intro c hc';cases hc')]
 rw[exec_load_content cs ho hx hg hcs]
 exact hK _ _ h
end Go.Proofs.YtecjfnkakodebaaGreatDoor
