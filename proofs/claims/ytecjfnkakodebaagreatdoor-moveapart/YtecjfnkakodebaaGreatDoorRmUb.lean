/-Contents that came in, with all their nodes, opened. -/
import Derived.Test.YtecjfnkakodebaaGreatDoorRmAx
import Derived.Deep.Slices
import Derived.ChangeSame
import Derived.OpenShut
open Go.Proofs.Tryz
open Go.Value renaming int->O,bool->E,float->ap
open Go.IntKind renaming i64->I
open Bool renaming false->R,true->J
open Option renaming some->H
open Go.FloatKind renaming f64->ao
set_option maxRecDepth 100000
namespace Go.Proofs.YtecjfnkakodebaaGreatDoor
open Go.ChangeShapes Go.WideShapes Go.RowKit Go.Deep
theorem R6:prog.cellsOf 3=1:=by kernel_rfl
theorem j1h:prog.cellsOf 4=1:=by kernel_rfl
theorem j4W:prog.cellsOf 41=1:=by kernel_rfl
theorem j4a:prog.cellsOf 9=1:=by kernel_rfl
theorem j4U:prog.cellsOf 32=2:=by kernel_rfl
theorem j4Y:prog.cellsOf 45=4:=by kernel_rfl
theorem j2u:prog.cellsOf 48=15:=by kernel_rfl
theorem j96:prog.cellsOf 46=1:=by kernel_rfl
theorem j98:prog.cellsOf 43=5:=by kernel_rfl
theorem j94:prog.cellsOf 50=21:=by kernel_rfl
section
variable {ag:Type} {enc:TypeId×Value->ag} {w:World} {base:Nat}
theorem j7F {fuel:Nat}{cs:List Value}{x:DataW ag×List MemPlace}(h:DataW.trod enc prog w base (fun _=>J) J fuel 41 cs=H x):∃b:Nat,cs=[ap ao b]/\(Lit.float .f64 b).wf=J:=by
 have ht:=underlying41;cases fuel with
 | zero=>simp[DataW.trod] at h
 | succ n=>
  unfold DataW.trod at h;rw[ht] at h;split at h <;> simp_all
theorem Y3 {fuel:Nat}{v:Value}{x:DataW ag×List MemPlace}(h:DataW.trod enc prog w base (fun _=>J) J fuel 3 [v]=H x):∃c:Int,v=O I c:=by
 obtain⟨c,e,_,_⟩:=DataW.trod_int underlying3 h;exact⟨c,by simpa using e⟩
theorem jEM {fuel:Nat}{v0 v1:Value}{x:DataW ag×List MemPlace}(h:DataW.trod enc prog w base (fun _=>J) J fuel 32 [v0,v1]=H x):
 ∃c r:Int,v0=O I c/\v1=O I r:=by
 obtain⟨y0,y1,n,_,_,h0,h1⟩:=trod_struct2 underlying32 h;simp only[R6,List.drop_zero,List.take_succ_cons,List.take_zero,List.drop_succ_cons] at h0 h1;obtain⟨c,rfl⟩:=Y3 h0;obtain⟨r,rfl⟩:=Y3 h1;exact⟨c,r,rfl,rfl⟩
theorem j7G {fuel:Nat}{v0 v1 v2 v3:Value}{x:DataW ag×List MemPlace}(h:DataW.trod enc prog w base (fun _=>J) J fuel 45 [v0,v1,v2,v3]=H x):
 ∃(c r:Int) (p q:Bool),v0=O I c/\v1=O I r/\v2=E p/\v3=E q:=by
 obtain⟨xs,n,_,_,_,hlen,hf⟩:=DataW.trod_struct underlying45 h
 match xs,hlen with
 | [y0,y1,y2],_=>
  have g0:DataW.trod enc prog w base (fun _=>J) J n 32 [v0,v1]=H y0:=by simpa [j4U] using hf 0 _ rfl
  have g1:DataW.trod enc prog w base (fun _=>J) J n 4 [v2]=H y1:=by simpa [j1h] using hf 1 _ rfl
  have g2:DataW.trod enc prog w base (fun _=>J) J n 4 [v3]=H y2:=by simpa [j1h] using hf 2 _ rfl
  obtain⟨c,r,rfl,rfl⟩:=jEM g0;obtain⟨p,e1,_⟩:=DataW.trod_bool underlying4 g1;obtain⟨q,e2,_⟩:=DataW.trod_bool underlying4 g2;exact⟨c,r,p,q,rfl,rfl,by simpa using e1,by simpa using e2⟩
theorem j5y {F:Nat->Prop}{b:Nat}:∀(ts:List Nd) (o:Nat),(∀(i:Nat) (t:Nd),ts[i]? = H t->∃sl,w.rangeAt b (o+i*15) (t.hd.cells sl)/\NdIn w F sl t)->F6 w F b o ts
 | [],_,_=>by rw[F6];trivial
 | t::ts,o,h=>by
  rw[F6];refine⟨?_,j5y ts (o+15) (fun i u hu=>?_)⟩
  ·have:=h 0 t rfl;rw[Nat.zero_mul,Nat.add_zero] at this;exact this
  ·have:=h (i+1) u (by simpa using hu);rw[show o+(i+1)*15=o+15+i*15 by omega] at this;exact this
instance:Inhabited Nd:=⟨.mk ⟨0,0,0,⟨#[]⟩,R,0,0,0,R,R,0,0,R,R⟩ []⟩
theorem j2s {α:Type}[Inhabited α]{len:Nat}{p:Nat->α->Prop}(h:∀i,i<len->∃x,p i x):∃A:List α,A.length=len/\∀(i:Nat) (x:α),A[i]? = H x->p i x:=by
 obtain⟨f,hf⟩:=choose_lt h;refine⟨(List.range len).map f,by simp,fun i x hx=>?_⟩;rw[List.getElem?_map] at hx;rcases Nat.lt_or_ge i len with hi|hi
 ·rw[List.getElem?_range hi] at hx;simp only[Option.map_some,Option.some.injEq] at hx;rw[<- hx];exact hf i hi
 ·rw[List.getElem?_eq_none (by simpa using hi)] at hx;cases hx
end
end Go.Proofs.YtecjfnkakodebaaGreatDoor
