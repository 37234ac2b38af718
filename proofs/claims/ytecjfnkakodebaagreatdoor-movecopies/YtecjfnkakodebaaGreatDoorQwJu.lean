/-Lists of puts and of ints that came in, opened. -/
import Derived.Test.YtecjfnkakodebaaGreatDoorQwUb
import Derived.Test.YtecjfnkakodebaaGreatDoorQwIr
import Derived.SizedLaws
import Derived.Carry
set_option maxRecDepth 100000
namespace Go.Proofs.YtecjfnkakodebaaGreatDoor
open Go.ChangeShapes Go.WideShapes Go.RowKit Go.Deep
theorem f64_lt {b:Nat} (h:(Lit.float .f64 b).wf=true):b<18446744073709551616:=by
 simpa [Lit.wf] using h
theorem okL_of:∀ {ts:List Nd},(∀(i:Nat) (t:Nd),ts[i]? = some t->t.ok)->okL ts
 | [],_=>by rw[okL];trivial
 | t::ts,h=>by
  rw[okL]
  exact⟨h 0 t rfl,okL_of fun i u hu=>h (i+1) u (by simpa using hu)⟩
section
variable {H:Type} {enc:TypeId×Value->H} {w:World} {base:Nat}
theorem open_nodes2 {m:Nat} (ih:∀n,n<m->∀(cs:List Value) (x:DataW H×List MemPlace),DataW.trod enc Tryz.prog w base (fun _=>true) true n 48 cs=some x->∃(t:Nd) (sl:Value),cs=t.hd.cells sl/\NdIn w (fun _=>True) sl t/\t.ok)
  {v:Value} {x:DataW H×List MemPlace} (h:DataW.trod enc Tryz.prog w base (fun _=>true) true m 46 [v]=some x):∃ts:List Nd,(∀hd:Hd,NdIn w (fun _=>True) v (.mk hd ts))/\okL ts:=by
 rcases DataW.trod_slice Tryz.underlying46 h with ⟨hcs,_⟩|⟨a,len,cap,elems,rest,n,rfl,hcs,_,_,hl,hm,hel,hx,_,_⟩
 ·have hv:v=.slice none 0 0:=by simpa using hcs
  subst hv
  refine⟨[],fun hd=>?_,by rw[okL];trivial⟩
  rw[NdIn]
  exact⟨none,0,rfl,Nat.le_refl _,by decide,.inl ⟨rfl,.inl rfl⟩⟩
 ·have hv:v=.slice (some a) len cap:=by simpa using hcs
  subst hv
  rw[cellsNode] at hx
  have each:∀i,i<len->∃t:Nd,∃cs',∃sl,w.cells? base (a.add (i*15)) 15=some cs'/\cs'=t.hd.cells sl/\NdIn w (fun _=>True) sl t/\t.ok:=fun i hi=>by
   have h1:=hx i hi
   rw[List.getElem?_eq_getElem (by omega)] at h1
   obtain⟨cs',e1,e2⟩:=Option.bind_eq_some_iff.1 h1
   obtain⟨t,sl,e3,e4⟩:=ih n (by omega) cs' _ e2
   exact⟨t,cs',sl,e1,e3,e4⟩
  rcases Nat.eq_zero_or_pos len with h0|h0
  ·subst h0
   refine⟨[],fun hd=>?_,by rw[okL];trivial⟩
   rw[NdIn]
   exact⟨some a,cap,rfl,Nat.zero_le _,hm,.inl ⟨rfl,.inr (by simp)⟩⟩
  ·have hsp:a.spot=none:=by
    obtain⟨t,cs',sl,e1,e2,_⟩:=each 0 h0
    obtain⟨_,hlen,hcell⟩:=World.cells?_some e1
    have:=hcell 0 (by omega)
    rw[List.getElem?_eq_getElem (by omega)] at this
    simpa [Addr.add] using World.cell?_spot this
   obtain⟨b,o,sp⟩:=a
   simp only at hsp
   subst hsp
   obtain⟨ts,hts,hat⟩:=by_each each
   refine⟨ts,fun hd=>?_,okL_of fun i t ht=>by obtain⟨_,_,_,_,_,q⟩:=hat i t ht;exact q⟩
   rw[NdIn]
   refine⟨some ⟨b,o,none⟩,cap,by rw[hts],by omega,hm,.inr ⟨b,o,rfl,trivial,nds_of ts o (fun i t ht=>?_)⟩⟩
   obtain⟨cs',sl,e1,e2,e3,_⟩:=hat i t ht
   obtain⟨_,hlen,hcell⟩:=World.cells?_some e1
   refine⟨sl,fun j u hu=>?_,e3⟩
   rw[<- e2] at hu
   have hj:j<15:=by rw[<- hlen];exact(List.getElem?_eq_some_iff.1 hu).1
   have:=hcell j hj
   rw[add_plain,add_plain,hu] at this
   exact this
theorem open_node2 (fuel:Nat):∀(cs:List Value) (x:DataW H×List MemPlace),DataW.trod enc Tryz.prog w base (fun _=>true) true fuel 48 cs=some x->∃(t:Nd) (sl:Value),cs=t.hd.cells sl/\NdIn w (fun _=>True) sl t/\t.ok:=by
 induction fuel using Nat.strongRecOn with
 | _ fuel ih=>
  intro cs x h
  obtain⟨xs,n,rfl,_,hl,hlen,hf⟩:=DataW.trod_struct Tryz.underlying48 h
  rw[cellsNode] at hl
  match xs,hlen,cs,hl with
  | [y0,y1,y2,y3,y4,y5,y6,y7,y8],_,[v0,v1,v2,v3,v4,v5,v6,v7,v8,v9,v10,v11,v12,v13,v14],_=>
   have g0:DataW.trod enc Tryz.prog w base (fun _=>true) true n 3 [v0]=some y0:=by simpa [cellsInt] using hf 0 _ rfl
   have g1:DataW.trod enc Tryz.prog w base (fun _=>true) true n 3 [v1]=some y1:=by simpa [cellsInt] using hf 1 _ rfl
   have g2:DataW.trod enc Tryz.prog w base (fun _=>true) true n 41 [v2]=some y2:=by simpa [cellsF64] using hf 2 _ rfl
   have g3:DataW.trod enc Tryz.prog w base (fun _=>true) true n 9 [v3]=some y3:=by simpa [cellsStr] using hf 3 _ rfl
   have g4:DataW.trod enc Tryz.prog w base (fun _=>true) true n 4 [v4]=some y4:=by simpa [cellsBool] using hf 4 _ rfl
   have g5:DataW.trod enc Tryz.prog w base (fun _=>true) true n 3 [v5]=some y5:=by simpa [cellsInt] using hf 5 _ rfl
   have g6:DataW.trod enc Tryz.prog w base (fun _=>true) true n 45 [v6,v7,v8,v9]=some y6:=by simpa [cellsRef] using hf 6 _ rfl
   have g7:DataW.trod enc Tryz.prog w base (fun _=>true) true n 45 [v10,v11,v12,v13]=some y7:=by simpa [cellsRef] using hf 7 _ rfl
   have g8:DataW.trod enc Tryz.prog w base (fun _=>true) true n 46 [v14]=some y8:=by simpa [cellsNodes] using hf 8 _ rfl
   obtain⟨k,rfl⟩:=trod_int1 g0
   obtain⟨o,rfl⟩:=trod_int1 g1
   obtain⟨xx,e2,wf2⟩:=trod_f64 g2
   obtain⟨s,e3,_⟩:=DataW.trod_string Tryz.underlying9 g3
   obtain⟨b,e4,_⟩:=DataW.trod_bool Tryz.underlying4 g4
   obtain⟨f,rfl⟩:=trod_int1 g5
   obtain⟨c1,r1,p1,q1,rfl,rfl,rfl,rfl⟩:=trod_ref g6
   obtain⟨c2,r2,p2,q2,rfl,rfl,rfl,rfl⟩:=trod_ref g7
   obtain⟨ts,hts,hok⟩:=open_nodes2 (m:=n) (fun n' hn'=>ih n' (by omega)) g8
   have f2:v2=.float .f64 xx:=by simpa using e2
   have f3:v3=.string s:=by simpa using e3
   have f4:v4=.bool b:=by simpa using e4
   subst f2 f3 f4
   exact⟨.mk ⟨k,o,xx,s,b,f,c1,r1,p1,q1,c2,r2,p2,q2⟩ ts,v14,rfl,hts _,by rw[Nd.ok];exact⟨f64_lt wf2,hok⟩⟩
theorem open_contentC {fuel:Nat} {l:List Value} {x:DataW H×List MemPlace} (hl21:l.length=21) (hf':DataW.trod enc Tryz.prog w base (fun _=>true) true fuel 50 l=some x) :
  ∃(c:Ct) (sl:Value),l=c.cells sl/\Cn w c sl:=by
 obtain⟨xs,n,rfl,_,_,hlen,hg⟩:=DataW.trod_struct Tryz.underlying50 hf'
 match xs,hlen,l,hl21 with
 | [y0,y1,y2],_,[v0,v1,v2,v3,v4,v5,u0,u1,u2,u3,u4,u5,u6,u7,u8,u9,u10,u11,u12,u13,u14],_=>
  have g0:DataW.trod enc Tryz.prog w base (fun _=>true) true n 3 [v0]=some y0:=by simpa [cellsInt] using hg 0 _ rfl
  have g1':DataW.trod enc Tryz.prog w base (fun _=>true) true n 43 [v1,v2,v3,v4,v5]=some y1:=by simpa [cellsValue] using hg 1 _ rfl
  have g2':DataW.trod enc Tryz.prog w base (fun _=>true) true n 48 [u0,u1,u2,u3,u4,u5,u6,u7,u8,u9,u10,u11,u12,u13,u14]=some y2:=by simpa [cellsNode] using hg 2 _ rfl
  obtain⟨k,rfl⟩:=trod_int1 g0
  obtain⟨zs,n2,_,_,_,hlen2,hz⟩:=DataW.trod_struct Tryz.underlying43 g1'
  match zs,hlen2 with
  | [z0,z1,z2,z3,z4],_=>
   have k0:DataW.trod enc Tryz.prog w base (fun _=>true) true n2 3 [v1]=some z0:=by simpa [cellsInt] using hz 0 _ rfl
   have k1:DataW.trod enc Tryz.prog w base (fun _=>true) true n2 41 [v2]=some z1:=by simpa [cellsF64] using hz 1 _ rfl
   have k2:DataW.trod enc Tryz.prog w base (fun _=>true) true n2 9 [v3]=some z2:=by simpa [cellsStr] using hz 2 _ rfl
   have k3:DataW.trod enc Tryz.prog w base (fun _=>true) true n2 4 [v4]=some z3:=by simpa [cellsBool] using hz 3 _ rfl
   have k4:DataW.trod enc Tryz.prog w base (fun _=>true) true n2 3 [v5]=some z4:=by simpa [cellsInt] using hz 4 _ rfl
   obtain⟨vk,rfl⟩:=trod_int1 k0
   obtain⟨vx,e1,wf1⟩:=trod_f64 k1
   obtain⟨vs,e2,_⟩:=DataW.trod_string Tryz.underlying9 k2
   obtain⟨vb,e3,_⟩:=DataW.trod_bool Tryz.underlying4 k3
   obtain⟨vf,rfl⟩:=trod_int1 k4
   have f1:v2=.float .f64 vx:=by simpa using e1
   have f2:v3=.string vs:=by simpa using e2
   have f3:v4=.bool vb:=by simpa using e3
   subst f1 f2 f3
   obtain⟨t,sl,e,hin,hok⟩:=open_node2 n _ _ g2'
   simp only[Hd.cells,List.cons.injEq,and_true] at e
   obtain⟨rfl,rfl,rfl,rfl,rfl,rfl,rfl,rfl,rfl,rfl,rfl,rfl,rfl,rfl,rfl⟩:=e
   exact⟨⟨k,⟨vk,vx,vs,vb,vf⟩,t⟩,u14,rfl,⟨hok,f64_lt wf1,hin⟩⟩
theorem trod_addrI {fuel:Nat} {v0 v1:Value} {x:DataW H×List MemPlace} (h:DataW.trod enc Tryz.prog w base (fun _=>true) true fuel 32 [v0,v1]=some x) :
  ∃c r:Int,v0=.int .i64 c/\v1=.int .i64 r/\I64 c/\I64 r:=by
 obtain⟨y0,y1,n,_,_,h0,h1⟩:=trod_struct2 Tryz.underlying32 h
 simp only[cellsInt,List.drop_zero,List.take_succ_cons,List.take_zero,List.drop_succ_cons] at h0 h1
 obtain⟨c,e0,_,w0⟩:=DataW.trod_int Tryz.underlying3 h0
 obtain⟨r,e1,_,w1⟩:=DataW.trod_int Tryz.underlying3 h1
 simp at e0 e1
 exact⟨c,r,e0,e1,bounds_i64 w0,bounds_i64 w1⟩
theorem open_rows {t e:TypeId} {k fuel:Nat} {a:Option Addr} {len cap:Nat} {x:DataW H×List MemPlace} (ht:Tryz.prog.underlying t=some (.slice e)) (hk:Tryz.prog.cellsOf e=k) (k0:0<k) (h:DataW.trod enc Tryz.prog w base (fun _=>true) true fuel t [.slice a len cap]=some x) :
  len<=cap/\cap<=maxLen/\(0<len->∃b o n,a=some ⟨b,o,none⟩/\∀i,i<len->∃(cs:List Value) (y:DataW H×List MemPlace),cs.length=k/\(∀j,j<k->w.cell? ⟨b,o+i*k+j,none⟩=cs[j]?)/\DataW.trod enc Tryz.prog w base (fun _=>true) true n e cs=some y):=by
 rcases open_slice ht h with ⟨hcs,_⟩|⟨ad,len',cap',m,n,D,Pl,hcs,_,hl,hm,hmm,_,hx⟩
 ·simp only[List.cons.injEq,Value.slice.injEq,and_true] at hcs
  obtain⟨rfl,rfl,rfl⟩:=hcs
  exact⟨Nat.le_refl _,by decide,fun h=>absurd h (Nat.lt_irrefl _)⟩
 ·simp only[List.cons.injEq,Value.slice.injEq,and_true] at hcs
  obtain⟨rfl,rfl,rfl⟩:=hcs
  simp only[if_true] at hmm
  subst hmm
  rw[hk] at hx
  refine⟨hl,hm,fun h0=>?_⟩
  have hsp:ad.spot=none:=by
   obtain⟨cs',h1,_⟩:=hx 0 (by omega)
   obtain⟨_,hlen,hcell⟩:=World.cells?_some h1
   have:=hcell 0 k0
   rw[List.getElem?_eq_getElem (by omega)] at this
   simpa [Addr.add] using World.cell?_spot this
  obtain⟨b,o,sp⟩:=ad
  simp only at hsp
  subst hsp
  refine⟨b,o,n,rfl,fun i hi=>?_⟩
  obtain⟨cs',h1,h2⟩:=hx i (by omega)
  obtain⟨_,hlen,hcell⟩:=World.cells?_some h1
  refine⟨cs',_,hlen,fun j hj=>?_,h2⟩
  have:=hcell j hj
  rw[add_plain,add_plain] at this
  exact this
theorem cellsPut:Tryz.prog.cellsOf 52=23:=by kernel_rfl
instance:Inhabited (Cc×Value):=⟨(((0,0),ct0),.slice none 0 0)⟩
theorem open_puts {fuel:Nat} {a:Option Addr} {len cap:Nat} {x:DataW H×List MemPlace} (h:DataW.trod enc Tryz.prog w base (fun _=>true) true fuel 22 [.slice a len cap]=some x) :
  ∃xs:List (Cc×Value),xs.length=len/\PutsIn w (.slice a len cap) xs:=by
 obtain⟨h1,h2,h3⟩:=open_rows Tryz.underlying22 cellsPut (by decide) h
 rcases Nat.eq_zero_or_pos len with h0|h0
 ·subst h0
  exact⟨[],rfl,⟨a,cap,rfl,fun h=>absurd h (Nat.lt_irrefl _)⟩,Nat.zero_le _,fun z hz=>by simp at hz⟩
 ·obtain⟨b,o,n,rfl,hx⟩:=h3 h0
  obtain⟨A,hA,hAt⟩:=by_each (α:=Cc×Value) (len:=len) (p:=fun i y=>w.rangeAt b (o+i*23) (ptCells y.1 y.2)/\Cn w y.1.2 y.2) (fun i hi=>by
   obtain⟨cs,y,e1,e2,e3⟩:=hx i hi
   obtain⟨y0,y1,n',_,_,g0,g1⟩:=trod_struct2 Tryz.underlying52 e3
   simp only[cellsAddr] at g0
   simp only[cellsContent] at g1
   obtain⟨v0,v1,l,rfl⟩:∃v0 v1 l,cs=v0::v1::l:=by
    match cs,e1 with
    | v0::v1::l,_=>exact⟨v0,v1,l,rfl⟩
   have hl:l.length=21:=by simpa using e1
   have g1':DataW.trod enc Tryz.prog w base (fun _=>true) true n' 50 l=some y1:=by
    have:((v0::v1::l).drop 2).take 21=l:=by
     show l.take 21=l
     rw[<- hl,List.take_length]
    rw[this] at g1;exact g1
   obtain⟨c,r,rfl,rfl,_,_⟩:=trod_addrI (by simpa using g0)
   obtain⟨ct,sl,rfl,hcn⟩:=open_contentC hl g1'
   refine⟨(((c,r),ct),sl),fun j u hu=>?_,hcn⟩
   have hj:j<23:=by have:=(List.getElem?_eq_some_iff.1 hu).1;rw[pt_len] at this;exact this
   rw[e2 j hj];exact hu)
  subst hA
  refine⟨A,rfl,⟨_,cap,rfl,fun _=>⟨b,o,rfl,fun i y hy=>(hAt i y hy).1⟩⟩,by omega,fun z hz=>?_⟩
  obtain⟨i,hi⟩:=List.mem_iff_getElem?.1 hz
  exact(hAt i z hi).2
end
end Go.Proofs.YtecjfnkakodebaaGreatDoor
