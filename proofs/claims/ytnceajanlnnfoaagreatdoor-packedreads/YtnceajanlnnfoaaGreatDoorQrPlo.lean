/-Packed: what every card of this seat wants: the tables as the program . -/
import Derived.Test.YtnceajanlnnfoaaGreatDoorQrPln
import Derived.Test.YtnceajanlnnfoaaGreatDoorCards
import Derived.Test.YtnceajanlnnfoaaGreatDoorTie
import Derived.ProofKit
import Derived.SizedLaws
import Derived.ChangeSame
import Derived.LaidMore
import Derived.Lay
import Derived.LaidOnce
import Derived.OpenShut
import Derived.Carry
import Derived.Stop.Joined
import Derived.Lib.LaidTab
import Derived.Lib.LaidU8T
namespace Go.Proofs.YtnceajanlnnfoaaGreatDoor
open Go.ChangeShapes Go.WideShapes Go.ChangeAt Go.RowKit
theorem ownK:ownKnob Tryz.prog.godebug=none:=by kernel_rfl
def R5:List (String×DataW Unit):=[("math/bits.deBruijn64tab", Rows.laid_math_bits_deBruijn64tab),("unicode/utf8.acceptRanges", Rows.laid_unicode_utf8_acceptRanges),("quadrille/packed.shapes", Rows.laid_quadrille_packed_shapes),("unicode/utf8.first", Rows.laid_unicode_utf8_first)]
theorem j9Q:Rows.laid_unicode_utf8_first=Lib.firstData:=by kernel_rfl
theorem j73:(Rows.laid_unicode_utf8_acceptRanges:DataW Unit)=Lib.acceptData:=by kernel_rfl
theorem u8x:U8Extra Tryz.prog Tryz.laysValid_ren:=⟨by kernel_rfl,by kernel_rfl,by kernel_rfl,by kernel_rfl,by kernel_rfl,by kernel_rfl,by kernel_rfl⟩
theorem gTab:Tryz.prog.globalNamed "math/bits.deBruijn64tab" = some 4:=by kernel_rfl
theorem j9Y:(Tryz.prog.globals[4]?).map (·.type)=some 260:=by kernel_rfl
theorem j8a:Tryz.prog.cellsOf 260=64:=by kernel_rfl
theorem gSh:Tryz.prog.globalNamed "quadrille/packed.shapes" = some 1:=by kernel_rfl
theorem j9X:(Tryz.prog.globals[1]?).map (·.type)=some 204:=by kernel_rfl
theorem cInt:Tryz.prog.cellsOf 3=1:=by kernel_rfl
theorem j8X:Tryz.prog.cellsOf 4=1:=by kernel_rfl
theorem cTwo:Tryz.prog.cellsOf 201=2:=by kernel_rfl
theorem j3Y:Tryz.prog.cellsOf 203=4:=by kernel_rfl
theorem j8Y:Tryz.prog.cellsOf 204=40:=by kernel_rfl
theorem j9T {α:Type}:∀(l:List α),l.length=4->∃a b c d,l=[a,b,c,d]
 | [a,b,c,d],_=>⟨a,b,c,d,rfl⟩
theorem jDu {H:Type}{enc:TypeId×Value->H}{w:World}{base:Nat}{sp:Nat->Bool}{held:Bool}{fuel:Nat}{cs:List Value}{a b c:Int}{d:Bool}{p:List MemPlace}
 (h:DataW.trod enc Tryz.prog w base sp held fuel 203 cs=some (.agg [.agg [.lit (.int .i64 a),.lit (.int .i64 b)],.lit (.int .i64 c),.lit (.bool d)],p)):cs=[.int .i64 a,.int .i64 b,.int .i64 c,.bool d]:=by
 obtain⟨xs,n,rfl,hx,hl,hxl,hall⟩:=DataW.trod_struct Tryz.underlying203 h;rw[j3Y] at hl;have hxs:xs.map (·.1)=[.agg [.lit (.int .i64 a),.lit (.int .i64 b)],.lit (.int .i64 c),.lit (.bool d)]:=by
  have:=congrArg Prod.fst hx
  simpa using this.symm
 match xs,hxs with
 | [x0,x1,x2],hxs=>
  simp only[List.map_cons,List.map_nil,List.cons.injEq,and_true] at hxs;obtain⟨e0,e1,e2⟩:=hxs;have h0:DataW.trod enc Tryz.prog w base sp held n 201 ((cs.drop 0).take (Tryz.prog.cellsOf 201))=some x0:=hall 0 _ rfl;have h1:DataW.trod enc Tryz.prog w base sp held n 3 ((cs.drop 2).take (Tryz.prog.cellsOf 3))=some x1:=hall 1 _ rfl;have h2:DataW.trod enc Tryz.prog w base sp held n 4 ((cs.drop 3).take (Tryz.prog.cellsOf 4))=some x2:=hall 2 _ rfl;rw[cTwo] at h0;rw[cInt] at h1;rw[j8X] at h2;obtain⟨y0,q0⟩:=x0;obtain⟨y1,q1⟩:=x1;obtain⟨y2,q2⟩:=x2;simp only at e0 e1 e2;subst e0 e1 e2;have c0:=Lib.cells_of_tab (zs:=[a,b]) Tryz.underlying201 Tryz.underlying3 cInt cTwo h0;obtain⟨z,c1,f1,_⟩:=DataW.trod_int Tryz.underlying3 h1;obtain⟨u,c2,f2⟩:=DataW.trod_bool Tryz.underlying4 h2;clear h0 h1 h2 h hx hall hxl;obtain⟨v0,v1,v2,v3,rfl⟩:=j9T cs hl
  have k0:[v0,v1]=[Value.int .i64 a,.int .i64 b]:=c0;have k1:[v2]=[Value.int .i64 z]:=c1;have k2:[v3]=[Value.bool u]:=c2;injection k0 with k3 k4;injection k4 with k5 _;injection k1 with k6 _;injection k2 with k7 _;have g1:c=z:=by injection f1 with f1 _;injection f1 with f1;injection f1
  have g2:d=u:=by injection f2 with f2 _;injection f2 with f2;injection f2
  rw[k3,k5,k6,k7,g1,g2]
theorem j3d {α:Type}:∀(n:Nat) (l:List α),l.length=n*4->(List.range n).flatMap (fun i=>(l.drop (i*4)).take 4)=l
 | 0,l,h=>by
  obtain rfl:l=[]:=List.length_eq_zero_iff.1 (by omega)
  rfl
 | n+1,l,h=>by
  rw[List.range_succ_eq_map,List.flatMap_cons,List.flatMap_map];have ih:=j3d n (l.drop 4) (by rw[List.length_drop];omega);have e:(fun i=>(l.drop ((i+1)*4)).take 4)=fun i=>((l.drop 4).drop (i*4)).take 4:=by
   funext i
   rw[List.drop_drop]
   congr 2
   omega
  simp only[Nat.succ_eq_add_one,Nat.zero_mul,List.drop_zero];rw[e,ih,List.take_append_drop]
def j6B:List (DataW Unit):=[.agg [.agg [.lit (.int .i64 0),.lit (.int .i64 0)],.lit (.int .i64 0),.lit (.bool false)],.agg [.agg [.lit (.int .i64 1),.lit (.int .i64 0)],.lit (.int .i64 0),.lit (.bool false)],.agg [.agg [.lit (.int .i64 2),.lit (.int .i64 0)],.lit (.int .i64 0),.lit (.bool false)],.agg [.agg [.lit (.int .i64 3),.lit (.int .i64 0)],.lit (.int .i64 0),.lit (.bool false)],.agg [.agg [.lit (.int .i64 4),.lit (.int .i64 0)],.lit (.int .i64 0),.lit (.bool false)],.agg [.agg [.lit (.int .i64 5),.lit (.int .i64 0)],.lit (.int .i64 0),.lit (.bool false)],.agg [.agg [.lit (.int .i64 5),.lit (.int .i64 6)],.lit (.int .i64 0),.lit (.bool false)],.agg [.agg [.lit (.int .i64 7),.lit (.int .i64 0)],.lit (.int .i64 1),.lit (.bool false)],.agg [.agg [.lit (.int .i64 7),.lit (.int .i64 0)],.lit (.int .i64 2),.lit (.bool false)],.agg [.agg [.lit (.int .i64 2),.lit (.int .i64 0)],.lit (.int .i64 0),.lit (.bool true)]]
theorem j35 {W:World}(h:laidMetH Tryz.prog R5 W):VS W/\Tab W/\Sh W:=by
 have hh:=h;have h':laidMet Tryz.prog R5 W:=by rw[MakeChecks.laidMetH_plain _ _ _ (by kernel_rfl)] at h;exact h
 obtain⟨ps,hl,_,_⟩:=h';refine⟨jEo ?_,?_,?_⟩
 ·refine utf8Tabs_of_readsT (U8Types.of196 Tryz.laysValid) u8x ?_ ?_
  ·rw[<- j9Q];exact Lib.LaidVars_reads hl _ _ (by simp[R5])
  ·rw[<- j73];exact Lib.LaidVars_reads hl _ _ (by simp[R5])
 ·have t:Lib.TabIs Tryz.prog W "math/bits.deBruijn64tab" .u8 (Lib.deBruijn64tab.map fun n:Nat=>(n:Int)):=
   Lib.tabIs_of_head (rest:=R5.tail) gTab j9Y Tryz.underlying260 Tryz.underlying5 j3b j8a hh
  intro j hj;have:=t.cell gTab j (by rw[List.length_map];exact hj);rw[this];have e:(Lib.deBruijn64tab.map fun n:Nat=>(n:Int)).getD j 0=((Lib.deBruijn64tab.getD j 0:Nat):Int):=by
   simp only[List.getD_eq_getElem?_getD,List.getElem?_map];cases Lib.deBruijn64tab[j]? <;> rfl
  rw[e]
 ·obtain⟨g,t,cs,fuel,p,hg,hty,hvar,hd⟩:=Lib.LaidVars_reads hl "quadrille/packed.shapes" Rows.laid_quadrille_packed_shapes (by simp[R5])
  obtain rfl:=Option.some.inj (gSh.symm.trans hg);obtain rfl:=Option.some.inj (j9X.symm.trans hty);have hlen:cs.toList.length=40:=by
   cases fuel with
   | zero=>simp[DataW.trod] at hd
   | succ fuel=>
    simp only[DataW.trod,Tryz.underlying204] at hd;split at hd
    ·rename_i q;rw[q,j8Y]
    ·cases hd
  have el:∀(i:Nat) (a b c:Int) (d:Bool),i<10->j6B[i]? = some (.agg [.agg [.lit (.int .i64 a),.lit (.int .i64 b)],.lit (.int .i64 c),.lit (.bool d)])->(cs.toList.drop (i*4)).take 4=[.int .i64 a,.int .i64 b,.int .i64 c,.bool d]:=fun i a b c d hi hq=>by
   obtain⟨fuel',d',q,hdi,he⟩:=Lib.array_elem (ds:=j6B) Tryz.underlying204 hd i hi;rw[hq] at hdi;injection hdi with hdi;subst hdi;rw[j3Y] at he;exact jDu he
  have hcs:cs.toList=Z1:=by
   rw[<- j3d 10 cs.toList hlen];rw[show List.range 10=[0,1,2,3,4,5,6,7,8,9] from rfl];simp only[List.flatMap_cons,List.flatMap_nil];rw[el 0 0 0 0 false (by decide) rfl,el 1 1 0 0 false (by decide) rfl,el 2 2 0 0 false (by decide) rfl,el 3 3 0 0 false (by decide) rfl,el 4 4 0 0 false (by decide) rfl,el 5 5 0 0 false (by decide) rfl,el 6 5 6 0 false (by decide) rfl,el 7 7 0 1 false (by decide) rfl,el 8 7 0 2 false (by decide) rfl,el 9 2 0 0 true (by decide) rfl]
   rfl
  unfold World.var? at hvar;rw[hg,Option.bind_some] at hvar;cases ho:W.heap[1]? with
  | none=>rw[ho] at hvar;cases hvar
  | some ob=>
   rw[ho] at hvar;cases ob with
   | cells cs' T fr=>
    simp only[Option.some.injEq] at hvar;subst hvar;exact⟨T,fr,by rw[ho,<- hcs]⟩
   | _=>simp at hvar
end Go.Proofs.YtnceajanlnnfoaaGreatDoor
