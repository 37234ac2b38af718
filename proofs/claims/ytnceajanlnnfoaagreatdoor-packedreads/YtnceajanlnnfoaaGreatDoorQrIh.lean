/-What copying leaves: validity, sameness. -/
import Derived.Test.YtnceajanlnnfoaaGreatDoorQrQq
import Derived.Test.YtnceajanlnnfoaaGreatDoorQrEo
namespace Go.Proofs.YtnceajanlnnfoaaGreatDoor
section
open Go.RowKit
theorem jBl (x:Nat):I3 (one x)=I3 x:=by
 by_cases h:9218868437227405312<mag x
 ·have h1:one x=9221120237041090560:=by unfold one;rw[if_pos h]
  have hc:cls x=1:=by unfold cls;rw[if_pos h]
  have e1:I3 x=false:=by unfold I3;rw[hc];rfl
  have e2:I3 9221120237041090560=false:=by decide +kernel
  rw[h1,e1,e2]
 ·have h1:one x=x:=by unfold one;rw[if_neg h]
  rw[h1]
theorem j9V (x y:Nat):F7 (one x) y=F7 x y:=by unfold F7;rw[j1M]
theorem jBP (x:Nat):(((one x:Nat):Int)==0)=((x:Int)==0):=by
 unfold one;split
 ·rename_i h
  have hx:x≠0:=fun e=>by subst e;revert h;decide +kernel
  have h1:((x:Int)==0)=false:=by simpa using hx
  rw[h1];rfl
 ·rfl
theorem j4Z (h g:Hd):j7 { h with x:=one h.x } g=j7 h g:=by
 unfold j7;simp only[j9V]
theorem jEx (h:Hd):j7 { h with x:=one h.x } (wmJ { h with x:=one h.x })=j7 h (wmJ h):=by
 rw[j4Z];unfold wmJ;simp only;by_cases k1:h.k=1
 ·simp only[k1,if_true];unfold j7;simp only[F7,j1M]
 ·simp only[k1,if_false]
theorem jF9 (h:Hd)(n:Nat):wm { h with x:=one h.x } n=wm h n:=by
 unfold wm;simp only[jEx,jBl]
theorem jBT (h:Hd)(n:Nat)(c:Bool):ownE { h with x:=one h.x } n c=ownE h n c:=by
 unfold ownE;simp only[jF9]
mutual
theorem j4N:∀(t:Nd) (c:Bool),(cpy t).fe c=t.fe c
 | .mk h ts,c=>by
  rw[cpy,Nd.fe,Nd.fe,j3g,jBT,j4J ts]
theorem j4J:∀(ts:List Nd) (c:Bool),feL (cpyL ts) c=feL ts c
 | [],c=>by rw[cpyL]
 | t::ts,c=>by rw[cpyL,feL,feL,j4N t c,j4J ts c]
end
mutual
theorem j4A:∀t:Nd,(cpy t).dep=t.dep
 | .mk h ts=>by rw[cpy,Nd.dep,Nd.dep,j47 ts]
theorem j47:∀ts:List Nd,depL (cpyL ts)=depL ts
 | []=>by rw[cpyL]
 | t::ts=>by rw[cpyL,depL,depL,j4A t,j47 ts]
end
theorem j8c (t:Nd):chk (cpy t)=chk t:=by unfold chk;rw[j1z,j4A,j4N]
mutual
theorem j6P:∀(t u:Nd),E3 (cpy t) u=E3 t u
 | .mk h ts,.mk g us=>by rw[cpy,E3,E3,j4Z,j4o ts us]
theorem j4o:∀(ts us:List Nd),D3 (cpyL ts) us=D3 ts us
 | [],us=>by rw[cpyL]
 | t::ts,[]=>by rw[cpyL,D3,D3]
 | t::ts,u::us=>by rw[cpyL,D3,D3,j6P t u,j4o ts us]
end
theorem j3Q (v:Vl):F8 { v with x:=one v.x }=F8 v:=by
 unfold F8;simp only[jBP]
theorem jFU (v:Vl):G9 { v with x:=one v.x }=G9 v:=by
 unfold G9;rw[j3Q]
theorem jEj (v:Vl)(u:Bool):G5 { v with x:=one v.x } u=G5 v u:=by
 unfold G5;rw[j3Q]
theorem j9g (c:Ct):gv (cpC c)=gv c:=by
 unfold gv Q7 cpC;simp only[jFU,jEj,j8c,G8,j6P]
mutual
theorem j3m:∀t:Nd,cpy (cpy t)=cpy t
 | .mk h ts=>by
  rw[cpy,cpy,j3i ts];simp only[j1M]
theorem j3i:∀ts:List Nd,cpyL (cpyL ts)=cpyL ts
 | []=>by rw[cpyL,cpyL]
 | t::ts=>by rw[cpyL,cpyL,j3m t,j3i ts]
end
theorem j8q (c:Ct):cpC (cpC c)=cpC c:=by
 unfold cpC;simp only[j1M,j3m]
theorem j9l (h:Hd):j7 h h=true:=by
 unfold j7;simp[j18]
mutual
theorem j6Q:∀t:Nd,E3 t t=true
 | .mk h ts=>by rw[E3,j9l,j4p ts];rfl
theorem j4p:∀ts:List Nd,D3 ts ts=true
 | []=>by rw[D3]
 | t::ts=>by rw[D3,j6Q t,j4p ts];rfl
end
theorem j3t (a:Ct):J4 a a=true:=by
 unfold J4 J7;simp only[beq_self_eq_true,Bool.true_and,j18,j6Q,decide_true];repeat' split
 all_goals rfl
structure Gd (c:Ct):Prop where
 val:gv c=true
 k:c.k≠0
 ok:c.t.ok
 x:c.v.x<18446744073709551616
 size:c.t.size<=1048576
 cp:cpC c=c
theorem Gd.of {c:Ct}(hv:gv c=true)(hk:c.k≠0)(ho:c.t.ok)(hx:c.v.x<18446744073709551616)(hs:c.t.size<=1048576):Gd (cpC c):=
 ⟨by rw[j9g];exact hv,hk,j3l _ ho,j09 _ hx,by show (cpy c.t).size<=_;rw[j1z];exact hs,j8q c⟩
abbrev Ar4:=(Int×Int)×(Int×Int)
abbrev Fate:=Ar4->Option Ar4
mutual
theorem E6.node {w:World}{sl:Value}:∀ {t:Nd} {fp:List Nat},E6 w sl t fp->∀b∈fp,∃cs:Array Value,w.heap[b]? = some (.cells cs 64 (0,0))
 | .mk _ ts,fp,h,b,hb=>by
  rw[E6] at h;rcases h with ⟨_,_,rfl⟩|⟨b',c,fps,cs,_,_,_,_,h5,_,rfl,h8⟩
  ·simp at hb
  ·rcases List.mem_cons.1 hb with rfl|hb
   ·exact⟨cs,h5⟩
   ·exact E2.node h8 b hb
theorem E2.node {w:World}{b':Nat}:∀ {ts:List Nd} {o:Nat} {fp:List Nat},E2 w b' o ts fp->∀b∈fp,∃cs:Array Value,w.heap[b]? = some (.cells cs 64 (0,0))
 | [],_,fp,h,b,hb=>by rw[E2] at h;subst h;simp at hb
 | t::ts,o,fp,h,b,hb=>by
  rw[E2] at h;obtain⟨sl,f1,f2,_,h2,rfl,h4⟩:=h;rcases List.mem_append.1 hb with hb|hb
  ·exact E6.node h2 b hb
  ·exact E2.node h4 b hb
end
theorem j2f {w:World}{b:Nat}(h:∃cs:Array Value,w.heap[b]? = some (.cells cs 64 (0,0))):b<w.heap.size:=by
 obtain⟨cs,h⟩:=h;exact(Array.getElem?_eq_some_iff.1 h).1
mutual
def fl:Nd->Nat
 | .mk h ts=>(if h.k=4 then 1 else 0)+flL ts
def flL:List Nd->Nat
 | []=>0
 | t::ts=>fl t+flL ts
end
end
section
open Go.RowKit Go.Shelf
attribute [local go_sem] Oper.semAt_some
section
variable {n:Nat} {P:Program} {α:Type} {g:Operand} {ps:Array Tmp} {assign body:Code} {Q:Exit->Act->World->Prop} {a:Act} {w:World}
end
end
section
open Go.RowKit
theorem j0R {w:World}{b:Nat}{cs:List Value}{t:TypeId}(h:Blk w b cs t):w.rangeAt b 0 cs:=fun j v hj=>by
 rw[Nat.zero_add];exact h.cell hj
abbrev j6 (x:Cc) (sl:Value):List Value:=.int .i64 x.1.1 :: .int .i64 x.1.2::x.2.cells sl
def rowP:List (Cc×Value)->List Value
 | []=>[]
 | y::ys=>j6 y.1 y.2++rowP ys
theorem j0C (x:Cc)(sl:Value):(j6 x sl).length=23:=rfl
theorem j1Z:∀ys:List (Cc×Value),(rowP ys).length=ys.length*23
 | []=>rfl
 | y::ys=>by rw[rowP,List.length_append,j1Z ys,j0C,List.length_cons];omega
theorem j0n:∀(ys zs:List (Cc×Value)),rowP (ys++zs)=rowP ys++rowP zs
 | [],zs=>rfl
 | y::ys,zs=>by rw[List.cons_append,rowP,rowP,j0n ys zs,List.append_assoc]
theorem jD8 (ys:List (Cc×Value))(y:Cc×Value):rowP (ys++[y])=rowP ys++j6 y.1 y.2:=by
 rw[j0n,rowP,rowP,List.append_nil]
theorem j5l:∀(ys:List (Cc×Value)) (i:Nat) (y:Cc×Value),ys[i]? = some y->∀j v,(j6 y.1 y.2)[j]? = some v->(rowP ys)[i*23+j]? = some v
 | [],i,y,h,_,_,_=>by simp at h
 | z::ys,0,y,h,j,v,hj=>by
  have e:z=y:=by simpa using h
  subst e;have hl:j<23:=by have:=(List.getElem?_eq_some_iff.1 hj).1;rw[j0C] at this;exact this
  rw[rowP,List.getElem?_append_left (by rw[j0C];omega),Nat.zero_mul,Nat.zero_add];exact hj
 | z::ys,i+1,y,h,j,v,hj=>by
  rw[rowP,List.getElem?_append_right (by rw[j0C];omega),j0C,show (i+1)*23+j-23=i*23+j by omega];exact j5l ys i y (by simpa using h) j v hj
structure Pts (w:World) (B:Nat) (F:Nat->Prop) (v:Value) (ys:List (Cc×Value)):Prop where
 row:w.ownsRow B 68 23 v ys.length (rowP ys)
 tree:∀y∈ys,NdIn w F y.2 y.1.2.t
theorem Pts.nil (w:World)(B:Nat)(F:Nat->Prop):Pts w B F (.slice none 0 0) []:=⟨World.ownsRow_nil _ _ _ _,fun y h=>by simp at h⟩
theorem Pts.slice {w:World}{B:Nat}{F:Nat->Prop}{v:Value}{ys:List (Cc×Value)}(h:Pts w B F v ys):∃p c,v=.slice p ys.length c/\(0<ys.length->∃b,p=some ⟨b,0,none⟩/\B<=b/\∀i y,ys[i]? = some y->w.rangeAt b (i*23) (j6 y.1 y.2)):=by
 rcases h.row.2 with ⟨rfl,e⟩|⟨g,c,cur,rfl,hB,_⟩
 ·exact⟨none,0,by rw[e],fun h=>by omega⟩
 ·refine⟨_,_,rfl,fun _=>⟨g,rfl,hB,fun i y hy j u hj=>?_⟩⟩;have:=h.row.cells (g:=g) rfl (i*23+j) u (j5l ys i y hy j u hj);rw[Q0,Nat.zero_add] at this;exact this
theorem Pts.kp {w w':World}{B:Nat}{F:Nat->Prop}{v:Value}{ys:List (Cc×Value)}(h:Pts w B F v ys)(k:Kp w w' Nul):Pts w' B F v ys:=
 ⟨j0h h.row k.below,fun y hy=>(h.tree y hy).kp k (fun _ _ x=>x)⟩
theorem j0c:(Tryz.prog.info? 68).map (·.size)=some 23:=by kernel_rfl
theorem j4d:∃i,Tryz.prog.info? 68=some i/\i.zero=some (.agg (.int .i64 0 :: .int .i64 0::zC21).toArray)/\i.size=23/\i.bytes=200:=by
 have h:(Tryz.prog.info? 68).map (fun i=>(i.zero,i.size,i.bytes))=some (some (.agg (.int .i64 0 :: .int .i64 0::zC21).toArray),23,200):=by kernel_rfl
 cases e:Tryz.prog.info? 68 with
 | none=>rw[e] at h;cases h
 | some i=>
  rw[e] at h;simp only[Option.map_some,Option.some.injEq,Prod.mk.injEq] at h;exact⟨i,rfl,h⟩
theorem j0D (x:Cc){sl:Value}(hs:sl.oneCell'=true):∀u∈j6 x sl,u.oneCell'=true:=by
 intro u hu;have:=x.2.one hs;rw[Array.all_eq_true'] at this;rcases List.mem_cons.1 hu with rfl|hu
 ·rfl
 ·rcases List.mem_cons.1 hu with rfl|hu
  ·rfl
  ·exact this u (by simpa using hu)
end
end Go.Proofs.YtnceajanlnnfoaaGreatDoor
