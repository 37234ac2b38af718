/- Packed, the document's lists: rows in memory of one's own whose elements are one cell each, and append to them. -/
import Derived.Test.YtlppcfeakakpfaaGreatDoorQpPka
import Derived.Test.YtlppcfeakakpfaaGreatDoorQpXk
import Derived.Shelf.Strings.BuilderK
import Derived.Lib.FrozenHead
import Derived.Deep.AppendSrc
import Derived.Deep.Upon
namespace Go.Proofs.YtlppcfeakakpfaaGreatDoor
open Go.RowKit Go.Shelf
inductive By (e:TypeId) (w:World):Option Nat→Value→List Value→Prop
 | none:By e w none (.slice none 0 0) []
 | some {b n cap:Nat} {cur:Array Value} {fz:Nat×Nat} {xs:List Value} (hn:xs.length=n) (hb:w.heap[b]? = some (.cells cur e fz)) (hf:∀ i,i < cur.size → ¬ (fz.1≤i∧i < fz.2)) (hc:cur.size=cap) (ht:cur.toList.take n=xs) (h1:∀ u∈xs,u.oneCell'=true):By e w (some b) (.slice (some ⟨b,0,none⟩) n cap) xs
theorem wpList_append_eq' {P:Program} {w:World} {ops:Array Oper} {rest:List Oper} {o:Oper} {a:Act} {Q:Exit→Act→World→Prop} (hgd:o.guard=none) (s x:Operand) (t tx:TypeId) (ho:o.op=Op.call { callee:=Callee.builtin Builtin.append,args:=#[s,x],argTypes:=#[t,tx] })
  (v1 v2 v':Value) (w':World) (hs:a.eval s=v1) (hx:a.eval x=v2) (hr:(Builtin.append_ #[t,tx] o.type #[v1,v2]).run P w=.ok v' w') (h:wpList P ops Q rest (a.put o.dst v') w'):wpList P ops Q (o :: rest) a w:=by
 refine wpList_plain hgd fun K hK=>?_
 unfold Oper.wp execOp
 simp only [ho,resolve,invoke,builtin,Sem.run_bind,Sem.run_pure,Result.andThen_ok,List.map_toArray,List.map_cons,List.map_nil,hs,hx,hr]
 exact hK _ _ h
end Go.Proofs.YtlppcfeakakpfaaGreatDoor
