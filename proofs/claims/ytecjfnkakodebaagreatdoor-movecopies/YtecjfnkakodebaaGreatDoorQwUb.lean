/-Contents that came in, with all their nodes, opened. -/
import Derived.Test.YtecjfnkakodebaaGreatDoorQwGb
import Derived.Deep.Slices
import Derived.ChangeSame
import Derived.OpenShut
set_option maxRecDepth 100000
namespace Go.Proofs.YtecjfnkakodebaaGreatDoor
open Go.ChangeShapes Go.WideShapes Go.RowKit Go.Deep
theorem cellsInt:Tryz.prog.cellsOf 3=1:=by kernel_rfl
theorem cellsBool:Tryz.prog.cellsOf 4=1:=by kernel_rfl
theorem cellsF64:Tryz.prog.cellsOf 41=1:=by kernel_rfl
theorem cellsStr:Tryz.prog.cellsOf 9=1:=by kernel_rfl
theorem cellsAddr:Tryz.prog.cellsOf 32=2:=by kernel_rfl
theorem cellsRef:Tryz.prog.cellsOf 45=4:=by kernel_rfl
theorem cellsNode:Tryz.prog.cellsOf 48=15:=by kernel_rfl
theorem cellsNodes:Tryz.prog.cellsOf 46=1:=by kernel_rfl
theorem cellsValue:Tryz.prog.cellsOf 43=5:=by kernel_rfl
theorem cellsContent:Tryz.prog.cellsOf 50=21:=by kernel_rfl
section
variable {H:Type} {enc:TypeId×Value->H} {w:World} {base:Nat}
theorem trod_f64 {fuel:Nat} {cs:List Value} {x:DataW H×List MemPlace} (h:DataW.trod enc Tryz.prog w base (fun _=>true) true fuel 41 cs=some x):∃b:Nat,cs=[.float .f64 b]/\(Lit.float .f64 b).wf=true:=by
 have ht:=Tryz.underlying41
 cases fuel with
 | zero=>simp[DataW.trod] at h
 | succ n=>
  unfold DataW.trod at h
  rw[ht] at h
  split at h <;> simp_all
theorem trod_int1 {fuel:Nat} {v:Value} {x:DataW H×List MemPlace} (h:DataW.trod enc Tryz.prog w base (fun _=>true) true fuel 3 [v]=some x):∃c:Int,v=.int .i64 c:=by
 obtain⟨c,e,_,_⟩:=DataW.trod_int Tryz.underlying3 h
 exact⟨c,by simpa using e⟩
theorem trod_addr {fuel:Nat} {v0 v1:Value} {x:DataW H×List MemPlace} (h:DataW.trod enc Tryz.prog w base (fun _=>true) true fuel 32 [v0,v1]=some x) :
  ∃c r:Int,v0=.int .i64 c/\v1=.int .i64 r:=by
 obtain⟨y0,y1,n,_,_,h0,h1⟩:=trod_struct2 Tryz.underlying32 h
 simp only[cellsInt,List.drop_zero,List.take_succ_cons,List.take_zero,List.drop_succ_cons] at h0 h1
 obtain⟨c,rfl⟩:=trod_int1 h0
 obtain⟨r,rfl⟩:=trod_int1 h1
 exact⟨c,r,rfl,rfl⟩
theorem trod_ref {fuel:Nat} {v0 v1 v2 v3:Value} {x:DataW H×List MemPlace} (h:DataW.trod enc Tryz.prog w base (fun _=>true) true fuel 45 [v0,v1,v2,v3]=some x) :
  ∃(c r:Int) (p q:Bool),v0=.int .i64 c/\v1=.int .i64 r/\v2=.bool p/\v3=.bool q:=by
 obtain⟨xs,n,_,_,_,hlen,hf⟩:=DataW.trod_struct Tryz.underlying45 h
 match xs,hlen with
 | [y0,y1,y2],_=>
  have g0:DataW.trod enc Tryz.prog w base (fun _=>true) true n 32 [v0,v1]=some y0:=by simpa [cellsAddr] using hf 0 _ rfl
  have g1:DataW.trod enc Tryz.prog w base (fun _=>true) true n 4 [v2]=some y1:=by simpa [cellsBool] using hf 1 _ rfl
  have g2:DataW.trod enc Tryz.prog w base (fun _=>true) true n 4 [v3]=some y2:=by simpa [cellsBool] using hf 2 _ rfl
  obtain⟨c,r,rfl,rfl⟩:=trod_addr g0
  obtain⟨p,e1,_⟩:=DataW.trod_bool Tryz.underlying4 g1
  obtain⟨q,e2,_⟩:=DataW.trod_bool Tryz.underlying4 g2
  exact⟨c,r,p,q,rfl,rfl,by simpa using e1,by simpa using e2⟩
theorem nds_of {F:Nat->Prop} {b:Nat}:∀(ts:List Nd) (o:Nat),(∀(i:Nat) (t:Nd),ts[i]? = some t->∃sl,w.rangeAt b (o+i*15) (t.hd.cells sl)/\NdIn w F sl t)->NdsIn w F b o ts
 | [],_,_=>by rw[NdsIn];trivial
 | t::ts,o,h=>by
  rw[NdsIn]
  refine⟨?_,nds_of ts (o+15) (fun i u hu=>?_)⟩
  ·have:=h 0 t rfl
   rw[Nat.zero_mul,Nat.add_zero] at this
   exact this
  ·have:=h (i+1) u (by simpa using hu)
   rw[show o+(i+1)*15=o+15+i*15 by omega] at this
   exact this
instance:Inhabited Nd:=⟨.mk ⟨0,0,0,⟨#[]⟩,false,0,0,0,false,false,0,0,false,false⟩ []⟩
theorem by_each {α:Type} [Inhabited α] {len:Nat} {p:Nat->α->Prop} (h:∀i,i<len->∃x,p i x):∃A:List α,A.length=len/\∀(i:Nat) (x:α),A[i]? = some x->p i x:=by
 obtain⟨f,hf⟩:=choose_lt h
 refine⟨(List.range len).map f,by simp,fun i x hx=>?_⟩
 rw[List.getElem?_map] at hx
 rcases Nat.lt_or_ge i len with hi|hi
 ·rw[List.getElem?_range hi] at hx
  simp only[Option.map_some,Option.some.injEq] at hx
  rw[<- hx];exact hf i hi
 ·rw[List.getElem?_eq_none (by simpa using hi)] at hx;cases hx
end
end Go.Proofs.YtecjfnkakodebaaGreatDoor
