/- GridPlays: for every list of ops the call returns true, and what was handed in reads as it did; no condition (a tied card: two tables of unicode/utf8 stand as the program lays them). -/
import Derived.Test.YtlppcfeakakpfaaGreatDoorQpUb
import Derived.Test.YtlppcfeakakpfaaGreatDoorQpPsb
import Derived.Test.YtlppcfeakakpfaaGreatDoorCards
import Derived.Test.YtlppcfeakakpfaaGreatDoorTie
import Derived.ProofKit
import Derived.SizedLaws
import Derived.ChangeSame
import Derived.LaidMore
import Derived.Lay
import Derived.LaidOnce
import Derived.OpenShut
import Derived.Deep.Slices
import Derived.Carry
import Derived.Stop.Joined
import Derived.Lib.LaidU8T
set_option maxRecDepth 100000
namespace Go.Proofs.YtlppcfeakakpfaaGreatDoor
open Go.ChangeShapes Go.WideShapes Go.RowKit Go.Deep
theorem f64_lt {b:Nat} (h:(Lit.float .f64 b).wf=true):b < 18446744073709551616:=by
 simpa [Lit.wf] using h
theorem okL_of:∀ {ts:List Nd},(∀ (i:Nat) (t:Nd),ts[i]? = some t→t.ok)→okL ts
 | [],_=>by rw [okL];trivial
 | t :: ts,h=>by
  rw [okL]
  exact ⟨h 0 t rfl,okL_of fun i u hu=>h (i+1) u (by simpa using hu)⟩
theorem txtL_of:∀ {ts:List Nd},(∀ (i:Nat) (t:Nd),ts[i]? = some t→t.txt)→txtL ts
 | [],_=>by rw [txtL];trivial
 | t :: ts,h=>by
  rw [txtL]
  exact ⟨h 0 t rfl,txtL_of fun i u hu=>h (i+1) u (by simpa using hu)⟩
section
variable {H:Type} {P:Program}
theorem weights_agg {t:TypeId} {fs:Array Field} (hu:P.underlying t=some (.struct fs)) {parts:List (DataW H)} {j:Nat} {f:TypeId} {d:DataW H} (hf:(fs.toList.map (·.type))[j]? = some f) (hd:parts[j]? = some d):∀ n∈d.weights P f,n∈DataW.weights P t (.agg parts):=by
 intro n hn
 rw [DataW.weights,hu]
 exact DataW.weights_mem_each hf hd n hn
theorem weights_all {e:TypeId}:∀ {ds:List (DataW H)} {d:DataW H},d∈ds→∀ n∈d.weights P e,n∈DataW.weightsAll P e ds
 | [],_,h,_,_=>by simp at h
 | x :: xs,d,h,n,hn=>by
  rw [DataW.weightsAll,List.mem_append]
  rcases List.mem_cons.1 h with rfl|h
  ·exact .inl hn
  ·exact .inr (weights_all h n hn)
theorem weights_slice {t e:TypeId} (hu:P.underlying t=some (.slice e)) {elems spare:List (DataW H)} {d:DataW H} (hd:d∈elems):∀ n∈d.weights P e,n∈DataW.weights P t (.slice elems spare):=by
 intro n hn
 rw [DataW.weights,hu]
 exact List.mem_cons_of_mem _ (List.mem_append_left _ (weights_all hd n hn))
end
section
variable {H:Type} {enc:TypeId×Value→H} {w:World} {base:Nat}
theorem open_nodes3 {m:Nat} (ih:∀ n,n < m→∀ (cs:List Value) (x:DataW H×List MemPlace),DataW.trod enc Tryz.prog w base (fun _=>true) true n 44 cs=some x→(∀ n∈x.1.weights Tryz.prog 44,n≤reachBytes)→∃ (t:Nd) (sl:Value),cs=t.hd.cells sl∧NdIn w (fun _=>True) sl t∧t.ok∧t.txt)
  {v:Value} {x:DataW H×List MemPlace} (h:DataW.trod enc Tryz.prog w base (fun _=>true) true m 42 [v]=some x) (hw:∀ n∈x.1.weights Tryz.prog 42,n≤reachBytes):∃ ts:List Nd,(∀ hd:Hd,NdIn w (fun _=>True) v (.mk hd ts))∧okL ts∧txtL ts:=by
 rcases DataW.trod_slice Tryz.underlying42 h with ⟨hcs,_⟩|⟨a,len,cap,elems,rest,n,rfl,hcs,hxe,_,hl,hm,hel,hx,_,_⟩
 ·have hv:v=.slice none 0 0:=by simpa using hcs
  subst hv
  refine ⟨[],fun hd=>?_,by rw [okL];trivial,by rw [txtL];trivial⟩
  rw [NdIn]
  exact ⟨none,0,rfl,Nat.le_refl _,by decide,.inl ⟨rfl,.inl rfl⟩⟩
 ·have hv:v=.slice (some a) len cap:=by simpa using hcs
  subst hv
  rw [cellsNode] at hx
  have each:∀ i,i < len→∃ t:Nd,∃ cs',∃ sl,w.cells? base (a.add (i * 15)) 15=some cs'∧cs'=t.hd.cells sl∧NdIn w (fun _=>True) sl t∧t.ok∧t.txt:=fun i hi=>by
   have h1:=hx i hi
   rw [List.getElem?_eq_getElem (by omega)] at h1
   obtain ⟨cs',e1,e2⟩:=Option.bind_eq_some_iff.1 h1
   obtain ⟨t,sl,e3,e4⟩:=ih n (by omega) cs' _ e2 (fun m hm=>hw m (by rw [hxe];exact weights_slice Tryz.underlying42 (List.mem_map_of_mem (List.getElem_mem _)) m hm))
   exact ⟨t,cs',sl,e1,e3,e4⟩
  rcases Nat.eq_zero_or_pos len with h0|h0
  ·subst h0
   refine ⟨[],fun hd=>?_,by rw [okL];trivial,by rw [txtL];trivial⟩
   rw [NdIn]
   exact ⟨some a,cap,rfl,Nat.zero_le _,hm,.inl ⟨rfl,.inr (by simp)⟩⟩
  ·have hsp:a.spot=none:=by
    obtain ⟨t,cs',sl,e1,e2,_⟩:=each 0 h0
    obtain ⟨_,hlen,hcell⟩:=World.cells?_some e1
    have:=hcell 0 (by omega)
    rw [List.getElem?_eq_getElem (by omega)] at this
    simpa [Addr.add] using World.cell?_spot this
   obtain ⟨b,o,sp⟩:=a
   simp only at hsp
   subst hsp
   obtain ⟨ts,hts,hat⟩:=by_each each
   refine ⟨ts,fun hd=>?_,okL_of fun i t ht=>by obtain ⟨_,_,_,_,_,q,_⟩:=hat i t ht;exact q,txtL_of fun i t ht=>by obtain ⟨_,_,_,_,_,_,q⟩:=hat i t ht;exact q⟩
   rw [NdIn]
   refine ⟨some ⟨b,o,none⟩,cap,by rw [hts],by omega,hm,.inr ⟨b,o,rfl,trivial,nds_of ts o (fun i t ht=>?_)⟩⟩
   obtain ⟨cs',sl,e1,e2,e3,_⟩:=hat i t ht
   obtain ⟨_,hlen,hcell⟩:=World.cells?_some e1
   refine ⟨sl,fun j u hu=>?_,e3⟩
   rw [← e2] at hu
   have hj:j < 15:=by rw [← hlen];exact (List.getElem?_eq_some_iff.1 hu).1
   have:=hcell j hj
   rw [add_plain,add_plain,hu] at this
   exact this
theorem open_node3 (fuel:Nat):∀ (cs:List Value) (x:DataW H×List MemPlace),DataW.trod enc Tryz.prog w base (fun _=>true) true fuel 44 cs=some x→(∀ n∈x.1.weights Tryz.prog 44,n≤reachBytes)→∃ (t:Nd) (sl:Value),cs=t.hd.cells sl∧NdIn w (fun _=>True) sl t∧t.ok∧t.txt:=by
 induction fuel using Nat.strongRecOn with
 | _ fuel ih=>
  intro cs x h hw
  obtain ⟨xs,n,rfl,hxe,hl,hlen,hf⟩:=DataW.trod_struct Tryz.underlying44 h
  rw [cellsNode] at hl
  match xs,hlen,cs,hl with
  | [y0,y1,y2,y3,y4,y5,y6,y7,y8],_,[v0,v1,v2,v3,v4,v5,v6,v7,v8,v9,v10,v11,v12,v13,v14],_=>
   have g0:DataW.trod enc Tryz.prog w base (fun _=>true) true n 3 [v0]=some y0:=by simpa [cellsInt] using hf 0 _ rfl
   have g1:DataW.trod enc Tryz.prog w base (fun _=>true) true n 3 [v1]=some y1:=by simpa [cellsInt] using hf 1 _ rfl
   have g2:DataW.trod enc Tryz.prog w base (fun _=>true) true n 37 [v2]=some y2:=by simpa [cellsF64] using hf 2 _ rfl
   have g3:DataW.trod enc Tryz.prog w base (fun _=>true) true n 9 [v3]=some y3:=by simpa [cellsStr] using hf 3 _ rfl
   have g4:DataW.trod enc Tryz.prog w base (fun _=>true) true n 4 [v4]=some y4:=by simpa [cellsBool] using hf 4 _ rfl
   have g5:DataW.trod enc Tryz.prog w base (fun _=>true) true n 3 [v5]=some y5:=by simpa [cellsInt] using hf 5 _ rfl
   have g6:DataW.trod enc Tryz.prog w base (fun _=>true) true n 41 [v6,v7,v8,v9]=some y6:=by simpa [cellsRef] using hf 6 _ rfl
   have g7:DataW.trod enc Tryz.prog w base (fun _=>true) true n 41 [v10,v11,v12,v13]=some y7:=by simpa [cellsRef] using hf 7 _ rfl
   have g8:DataW.trod enc Tryz.prog w base (fun _=>true) true n 42 [v14]=some y8:=by simpa [cellsNodes] using hf 8 _ rfl
   obtain ⟨k,rfl⟩:=trod_int1 g0
   obtain ⟨o,rfl⟩:=trod_int1 g1
   obtain ⟨xx,e2,wf2⟩:=trod_f64 g2
   obtain ⟨s,e3,x3,_⟩:=DataW.trod_string Tryz.underlying9 g3
   obtain ⟨b,e4,_⟩:=DataW.trod_bool Tryz.underlying4 g4
   obtain ⟨f,rfl⟩:=trod_int1 g5
   obtain ⟨c1,r1,p1,q1,rfl,rfl,rfl,rfl⟩:=trod_ref g6
   obtain ⟨c2,r2,p2,q2,rfl,rfl,rfl,rfl⟩:=trod_ref g7
   obtain ⟨ts,hts,hok,htx⟩:=open_nodes3 (m:=n) (fun n' hn'=>ih n' (by omega)) g8 (fun m hm=>hw m (by rw [hxe];exact weights_agg (j:=8) Tryz.underlying44 rfl rfl m hm))
   have hs3:s.size≤140737488355328:=by
    have:=hw s.data.toList.length (by rw [hxe];exact weights_agg (j:=3) (f:=9) (d:=y3.1) Tryz.underlying44 rfl rfl _ (by rw [x3,DataW.weights];simp))
    have h2:s.size=s.data.toList.length:=by simp
    rw [h2];unfold reachBytes at this;omega
   have f2:v2=.float .f64 xx:=by simpa using e2
   have f3:v3=.string s:=by simpa using e3
   have f4:v4=.bool b:=by simpa using e4
   subst f2 f3 f4
   exact ⟨.mk ⟨k,o,xx,s,b,f,c1,r1,p1,q1,c2,r2,p2,q2⟩ ts,v14,rfl,hts _,by rw [Nd.ok];exact ⟨f64_lt wf2,hok⟩,by rw [Nd.txt];exact ⟨hs3,htx⟩⟩
theorem open_content5 {fuel:Nat} {l:List Value} {d:DataW H} {p:List MemPlace} (hl21:l.length=21) (hf':DataW.trod enc Tryz.prog w base (fun _=>true) true fuel 46 l=some (d,p)) (hw:∀ n∈d.weights Tryz.prog 46,n≤reachBytes) :
  ∃ (c:Ct) (sl:Value),l=c.cells sl∧Cn w c sl∧c.t.txt∧c.v.s.size≤140737488355328:=by
 obtain ⟨xs,n,rfl,hxe,_,hlen,hg⟩:=DataW.trod_struct Tryz.underlying46 hf'
 have hde:d=.agg (xs.map (·.1)):=congrArg Prod.fst hxe
 clear hxe
 match xs,hlen,l,hl21,hde,hg with
 | [y0,y1,y2],_,[v0,v1,v2,v3,v4,v5,u0,u1,u2,u3,u4,u5,u6,u7,u8,u9,u10,u11,u12,u13,u14],_,hde,hg=>
  have g0:DataW.trod enc Tryz.prog w base (fun _=>true) true n 3 [v0]=some y0:=by simpa [cellsInt] using hg 0 _ rfl
  have g1':DataW.trod enc Tryz.prog w base (fun _=>true) true n 39 [v1,v2,v3,v4,v5]=some y1:=by simpa [cellsValue] using hg 1 _ rfl
  have g2':DataW.trod enc Tryz.prog w base (fun _=>true) true n 44 [u0,u1,u2,u3,u4,u5,u6,u7,u8,u9,u10,u11,u12,u13,u14]=some y2:=by simpa [cellsNode] using hg 2 _ rfl
  obtain ⟨k,rfl⟩:=trod_int1 g0
  obtain ⟨zs,n2,_,hze,_,hlen2,hz⟩:=DataW.trod_struct Tryz.underlying39 g1'
  match zs,hlen2,hze,hz with
  | [z0,z1,z2,z3,z4],_,hze,hz=>
   have k0:DataW.trod enc Tryz.prog w base (fun _=>true) true n2 3 [v1]=some z0:=by simpa [cellsInt] using hz 0 _ rfl
   have k1:DataW.trod enc Tryz.prog w base (fun _=>true) true n2 37 [v2]=some z1:=by simpa [cellsF64] using hz 1 _ rfl
   have k2:DataW.trod enc Tryz.prog w base (fun _=>true) true n2 9 [v3]=some z2:=by simpa [cellsStr] using hz 2 _ rfl
   have k3:DataW.trod enc Tryz.prog w base (fun _=>true) true n2 4 [v4]=some z3:=by simpa [cellsBool] using hz 3 _ rfl
   have k4:DataW.trod enc Tryz.prog w base (fun _=>true) true n2 3 [v5]=some z4:=by simpa [cellsInt] using hz 4 _ rfl
   obtain ⟨vk,rfl⟩:=trod_int1 k0
   obtain ⟨vx,e1,wf1⟩:=trod_f64 k1
   obtain ⟨vs,e2,x2,_⟩:=DataW.trod_string Tryz.underlying9 k2
   have hs2:vs.size≤140737488355328:=by
    have:=hw vs.data.toList.length (by rw [hde];exact weights_agg (j:=1) (f:=39) (d:=y1.1) Tryz.underlying46 rfl rfl _ (by rw [hze];exact weights_agg (j:=2) (f:=9) (d:=z2.1) Tryz.underlying39 rfl rfl _ (by rw [x2,DataW.weights];simp)))
    have h2:vs.size=vs.data.toList.length:=by simp
    rw [h2];unfold reachBytes at this;omega
   obtain ⟨vb,e3,_⟩:=DataW.trod_bool Tryz.underlying4 k3
   obtain ⟨vf,rfl⟩:=trod_int1 k4
   have f1:v2=.float .f64 vx:=by simpa using e1
   have f2:v3=.string vs:=by simpa using e2
   have f3:v4=.bool vb:=by simpa using e3
   subst f1 f2 f3
   obtain ⟨t,sl,e,hin,hok,htx⟩:=open_node3 n _ _ g2' (fun m hm=>hw m (by rw [hde];exact weights_agg (j:=2) Tryz.underlying46 rfl rfl m hm))
   simp only [Hd.cells,List.cons.injEq,and_true] at e
   obtain ⟨rfl,rfl,rfl,rfl,rfl,rfl,rfl,rfl,rfl,rfl,rfl,rfl,rfl,rfl,rfl⟩:=e
   exact ⟨⟨k,⟨vk,vx,vs,vb,vf⟩,t⟩,u14,rfl,⟨hok,f64_lt wf1,hin⟩,htx,hs2⟩
theorem trod_addrI {fuel:Nat} {v0 v1:Value} {x:DataW H×List MemPlace} (h:DataW.trod enc Tryz.prog w base (fun _=>true) true fuel 36 [v0,v1]=some x) :
  ∃ c r:Int,v0=.int .i64 c∧v1=.int .i64 r∧I64 c∧I64 r:=by
 obtain ⟨y0,y1,n,_,_,h0,h1⟩:=trod_struct2 Tryz.underlying36 h
 simp only [cellsInt,List.drop_zero,List.take_succ_cons,List.take_zero,List.drop_succ_cons] at h0 h1
 obtain ⟨c,e0,_,w0⟩:=DataW.trod_int Tryz.underlying3 h0
 obtain ⟨r,e1,_,w1⟩:=DataW.trod_int Tryz.underlying3 h1
 simp at e0 e1
 exact ⟨c,r,e0,e1,bounds_i64 w0,bounds_i64 w1⟩
theorem trod_intI {fuel:Nat} {v0:Value} {x:DataW H×List MemPlace} (h:DataW.trod enc Tryz.prog w base (fun _=>true) true fuel 3 [v0]=some x):∃ c:Int,v0=.int .i64 c∧I64 c:=by
 obtain ⟨c,e0,_,w0⟩:=DataW.trod_int Tryz.underlying3 h
 simp at e0
 exact ⟨c,e0,bounds_i64 w0⟩
theorem cellsOp:Tryz.prog.cellsOf 50=30:=by kernel_rfl
theorem cellsArea17:Tryz.prog.cellsOf 48=4:=by kernel_rfl
theorem open_op {fuel:Nat} {l:List Value} {d:DataW H} {p:List MemPlace} (hl30:l.length=30) (hf':DataW.trod enc Tryz.prog w base (fun _=>true) true fuel 50 l=some (d,p)) (hw:∀ n∈d.weights Tryz.prog 50,n≤reachBytes) :
  ∃ o:Ov,l=o.cells∧OvIn w o:=by
 obtain ⟨xs,n,rfl,hxe,_,hlen,hg⟩:=DataW.trod_struct Tryz.underlying50 hf'
 have hde:d=.agg (xs.map (·.1)):=congrArg Prod.fst hxe
 clear hxe
 obtain ⟨v0,v1,v2,v3,v4,m,u0,u1,u2,u3,rfl,hm21⟩:∃ v0 v1 v2 v3 v4 m u0 u1 u2 u3,l=[v0,v1,v2,v3,v4] ++ m ++ [u0,u1,u2,u3]∧m.length=21:=by
  match l,hl30 with
  | [v0,v1,v2,v3,v4,a0,a1,a2,a3,a4,a5,a6,a7,a8,a9,a10,a11,a12,a13,a14,a15,a16,a17,a18,a19,a20,u0,u1,u2,u3],_=>exact ⟨v0,v1,v2,v3,v4,[a0,a1,a2,a3,a4,a5,a6,a7,a8,a9,a10,a11,a12,a13,a14,a15,a16,a17,a18,a19,a20],u0,u1,u2,u3,rfl,rfl⟩
 match xs,hlen,hde,hg with
 | [y0,y1,y2,y3,y4,y5],_,hde,hg=>
  have g0:DataW.trod enc Tryz.prog w base (fun _=>true) true n 3 [v0]=some y0:=by simpa [cellsInt] using hg 0 _ rfl
  have g1:DataW.trod enc Tryz.prog w base (fun _=>true) true n 3 [v1]=some y1:=by simpa [cellsInt] using hg 1 _ rfl
  have g2:DataW.trod enc Tryz.prog w base (fun _=>true) true n 3 [v2]=some y2:=by simpa [cellsInt] using hg 2 _ rfl
  have g3:DataW.trod enc Tryz.prog w base (fun _=>true) true n 36 [v3,v4]=some y3:=by simpa [cellsInt,cellsAddr] using hg 3 _ rfl
  have g4:DataW.trod enc Tryz.prog w base (fun _=>true) true n 46 m=some y4:=by
   have h:=hg 4 _ rfl
   simpa [cellsInt,cellsAddr,cellsContent,hm21] using h
  have g5:DataW.trod enc Tryz.prog w base (fun _=>true) true n 48 [u0,u1,u2,u3]=some y5:=by
   have h:=hg 5 _ rfl
   simpa [cellsInt,cellsAddr,cellsContent,cellsArea17,hm21] using h
  obtain ⟨on,rfl,hon⟩:=trod_intI g0
  obtain ⟨kd,rfl,_⟩:=trod_intI g1
  obtain ⟨nn,rfl,hnn⟩:=trod_intI g2
  obtain ⟨c,s,rfl,rfl,hc,hs⟩:=trod_addrI g3
  obtain ⟨z0,z1,n',_,_,q0,q1⟩:=trod_struct2 Tryz.underlying48 g5
  simp only [cellsAddr,List.drop_zero,List.take_succ_cons,List.take_zero,List.drop_succ_cons] at q0 q1
  obtain ⟨m1,m2,rfl,rfl,_,_⟩:=trod_addrI q0
  obtain ⟨m3,m4,rfl,rfl,_,_⟩:=trod_addrI q1
  obtain ⟨y4d,y4p⟩:=y4
  obtain ⟨ct,sl,rfl,hcn,htx,hsx⟩:=open_content5 hm21 g4 (fun k hk=>hw k (by rw [hde];exact weights_agg (j:=4) Tryz.underlying50 rfl rfl k hk))
  exact ⟨⟨on,kd,nn,c,s,ct,sl,m1,m2,m3,m4⟩,rfl,⟨hon,hnn,hc,hs,hcn,htx,hsx⟩⟩
instance:Inhabited Ov:=⟨⟨0,0,0,0,0,ct0,.slice none 0 0,0,0,0,0⟩⟩
theorem open_ops {fuel:Nat} {v:Value} {x:DataW H×List MemPlace} (h:DataW.trod enc Tryz.prog w base (fun _=>true) true fuel 22 [v]=some x) (hw:∀ n∈x.1.weights Tryz.prog 22,n≤reachBytes):∃ xs:List Ov,OpsIn w v xs:=by
 rcases DataW.trod_slice Tryz.underlying22 h with ⟨hcs,_⟩|⟨a,len,cap,elems,rest,n,rfl,hcs,hxe,_,hl,hm,hel,hx,_,_⟩
 ·have hv:v=.slice none 0 0:=by simpa using hcs
  subst hv
  exact ⟨[],⟨none,0,rfl,fun h=>absurd h (Nat.lt_irrefl _)⟩,Nat.zero_le _,fun y hy=>by simp at hy⟩
 ·have hv:v=.slice (some a) len cap:=by simpa using hcs
  subst hv
  rw [cellsOp] at hx
  have each:∀ i,i < len→∃ o:Ov,∃ cs',w.cells? base (a.add (i * 30)) 30=some cs'∧cs'=o.cells∧OvIn w o:=fun i hi=>by
   have h1:=hx i hi
   rw [List.getElem?_eq_getElem (by omega)] at h1
   obtain ⟨cs',e1,e2⟩:=Option.bind_eq_some_iff.1 h1
   obtain ⟨_,hlen,_⟩:=World.cells?_some e1
   obtain ⟨o,e3,e4⟩:=open_op hlen e2 (fun m hm=>hw m (by rw [hxe];exact weights_slice Tryz.underlying22 (List.mem_map_of_mem (List.getElem_mem _)) m hm))
   exact ⟨o,cs',e1,e3,e4⟩
  rcases Nat.eq_zero_or_pos len with h0|h0
  ·subst h0
   exact ⟨[],⟨some a,cap,rfl,fun h=>absurd h (Nat.lt_irrefl _)⟩,Nat.zero_le _,fun y hy=>by simp at hy⟩
  ·have hsp:a.spot=none:=by
    obtain ⟨o,cs',e1,e2,_⟩:=each 0 h0
    obtain ⟨_,hlen,hcell⟩:=World.cells?_some e1
    have:=hcell 0 (by omega)
    rw [List.getElem?_eq_getElem (by omega)] at this
    simpa [Addr.add] using World.cell?_spot this
   obtain ⟨b,o,sp⟩:=a
   simp only at hsp
   subst hsp
   obtain ⟨xs,hxs,hat⟩:=by_each each
   subst hxs
   refine ⟨xs,⟨_,cap,rfl,fun _=>⟨b,o,rfl,fun i y hy=>?_⟩⟩,by omega,fun y hy=>?_⟩
   ·obtain ⟨cs',e1,e2,_⟩:=hat i y hy
    obtain ⟨_,hlen,hcell⟩:=World.cells?_some e1
    intro j u hu
    rw [← e2] at hu
    have hj:j < 30:=by rw [← hlen];exact (List.getElem?_eq_some_iff.1 hu).1
    have:=hcell j hj
    rw [add_plain,add_plain,hu] at this
    exact this
   ·obtain ⟨i,hi⟩:=List.mem_iff_getElem?.1 hy
    obtain ⟨_,_,_,q⟩:=hat i y hi
    exact q
end
end Go.Proofs.YtlppcfeakakpfaaGreatDoor
namespace Go.Proofs.YtlppcfeakakpfaaGreatDoor
open Go.ChangeShapes Go.WideShapes Go.ChangeAt Go.RowKit
theorem ownK:ownKnob Tryz.prog.godebug=none:=by kernel_rfl
theorem laidK:laidOutB Tryz.prog=true:=by kernel_rfl
def laidTwo:List (String×DataW Unit):=[("unicode/utf8.acceptRanges", Rows.laid_unicode_utf8_acceptRanges),("unicode/utf8.first", Rows.laid_unicode_utf8_first)]
theorem first_is:Rows.laid_unicode_utf8_first=Lib.firstData:=by kernel_rfl
theorem accept_is:(Rows.laid_unicode_utf8_acceptRanges:DataW Unit)=Lib.acceptData:=by kernel_rfl
theorem u8x:U8Extra Tryz.prog Tryz.laysValid_ren:=⟨by kernel_rfl,by kernel_rfl,by kernel_rfl,by kernel_rfl,by kernel_rfl,by kernel_rfl,by kernel_rfl⟩
theorem tabs_of {W:World} (h:laidMetH Tryz.prog laidTwo W):Lib.Utf8Tabs (Tryz.laysValid_ren.g 3) (Tryz.laysValid_ren.g 4) W:=by
 have h':laidMet Tryz.prog laidTwo W:=by rw [MakeChecks.laidMetH_plain _ _ _ (by kernel_rfl)] at h;exact h
 obtain ⟨ps,hl,_,_⟩:=h'
 refine utf8Tabs_of_readsT (U8Types.of196 Tryz.laysValid) u8x ?_ ?_
 ·rw [← first_is];exact Lib.LaidVars_reads hl _ _ (by simp [laidTwo])
 ·rw [← accept_is];exact Lib.LaidVars_reads hl _ _ (by simp [laidTwo])
theorem plays_lifted (os:Os) (started:os.Started) (H:Type) (enc:TypeId×Value→H) :
  ReturnsInHanded {} Tryz.checked os 3 .any (fun w args=>(Rows.gridPlaysSpec.pre enc Tryz.prog Tryz.f3 [] false w args∧laidMetH Tryz.prog laidTwo w)∧sizedMet enc Tryz.prog Tryz.f3 (OpenSpec.ofChange Rows.gridPlaysSpec) false w args)
   (Rows.gridPlaysSpec.post enc Tryz.prog Tryz.f3 false true false false):=by
 refine returnsInHanded_of_change_and (C:=Tryz.checked) (X:=fun w _=>laidMetH Tryz.prog laidTwo w) (fun _ _ _ hh h=>h.of_heap hh) ownK started (by kernel_rfl) Tryz.func3
  (ChangeSpec.witness_shaped (enc:=enc) (C:=Tryz.checked) (os:=os) (X:=fun w _=>laidMetH Tryz.prog laidTwo w) false (World.laidAll Tryz.prog os laidTwo) #[.slice none 0 0] 8 (World.laidAll_os _ _ _) (World.shaped_of_ZipB (by kernel_rfl) (by kernel_rfl)) (by kernel_rfl) (by kernel_rfl) (by kernel_rfl) (by rw [MakeChecks.laidMetH_plain _ _ _ (by kernel_rfl)];exact laidMet_laidAll _ (by kernel_rfl) (by kernel_rfl))) ?_
 intro W base args ds gs before hval0 hW _ hsized hL _
 have hval:∀ (j:Nat) t v,Tryz.f3.params[j]? = some t→args[j]? = some v→Value.okWide Tryz.prog W .any base t v:=hval0
 have hW':=hW
 obtain ⟨p,q,hA0,hV,rfl,hfz,hnd⟩:=hW
 have hA:DataW.TrodAll enc Tryz.prog W 0 (fun _=>true) true Tryz.f3.params.toList args.toList ds p:=hA0
 rw [Tryz.params3] at hA hval
 obtain ⟨v1,d1,rfl,rfl,h1⟩:=trodAll_one hA
 obtain ⟨rfl,rfl⟩:=trodVars_none hV
 have h1k:=h1
 have hw:∀ (j:Nat) (t:TypeId) (d:DataW H),(Tryz.f3.params.toList ++ Rows.gridPlaysSpec.plain.varTypes Tryz.prog)[j]? = some t→([d1] ++ ([]:List (DataW H)))[j]? = some d→∀ n∈d.weights Tryz.prog t,n≤reachBytes:=fun j t d ht hd n hn=>by
  have:=List.all_eq_true.1 hsized _ (DataW.weights_mem_each ht hd n hn)
  simpa using this
 obtain ⟨a0,l0,c0,rfl⟩:=okWide_slice Tryz.underlying22 (hval 0 _ v1 rfl rfl)
 obtain ⟨fuel,f1⟩:=h1
 obtain ⟨xs,hX⟩:=open_ops (by simpa [Value.cells] using f1) (hw 0 _ d1 rfl rfl)
 clear hA0 hval0
 simp only [List.append_nil] at hW'
 have hlt:∀ x∈p,x.block < W.heap.size:=fun x hx=>by
  have:=hW'.lt x (by simpa using hx)
  simpa using this
 have k1:∀ (W':World),Below W.heap.size W W'→DataW.Trod enc Tryz.prog W' 0 (fun b=>decide (b < W.heap.size)) true 22 (.slice a0 l0 c0) d1 p:=fun W' hn=>Below.trod laidK (by kernel_rfl) (of_decide_eq_true (by kernel_rfl)) h1k hn (fun x hx=>hlt x (by simp [hx]))
 refine (plays17 _ xs W hX (vs_of (tabs_of hL))).mono ?_
 rintro e W' ⟨rfl,hk⟩
 have hnx:=hk.below
 exact ⟨_,rfl,_,_,_,[],_,[],hW',trodAll_mk1 (shut_bool Tryz.underlying4 _),trodAll_mk1 (k1 _ hnx),rfl,hnx.frame _,fun h=>by cases h⟩
theorem plays_said:Rows.GridPlaysSaid:=
 OpenClaim.holds_of_wide 3 Tryz.f3 rfl rfl rfl rfl rfl rfl rfl ⟨rfl,rfl,rfl,rfl,rfl⟩ rfl rfl rfl rfl rfl (by kernel_rfl) Tryz.func3 (by kernel_rfl)
  (of_decide_eq_true (by kernel_rfl)) (by unfold Func.isWrapper;first|(rw [if_pos (by decide +kernel)];kernel_rfl)|(rw [if_neg (by decide +kernel)];exact ⟨rfl,rfl⟩))
  (fun os started H enc _=>plays_lifted os started H enc)
theorem plays_plain (f:FuncId) (fn:Func) (hf:Tryz.pinned.checked.prog.funcNamed Tryz.f3.name=some f) (hfn:Tryz.pinned.checked.prog.funcs[f]? = some fn) :
  false=Tryz.pinned.checked.prog.looks []∧∀ (j:Nat) t,fn.params[j]? = some t → Tryz.pinned.checked.prog.wantsStandIn t=false:=by
 obtain rfl:f=3:=Option.some.inj ((show Tryz.prog.funcNamed Tryz.f3.name=some 3 by kernel_rfl).symm.trans hf) |>.symm
 obtain rfl:fn=Tryz.f3:=(Option.some.inj (Tryz.func3.symm.trans hfn)).symm
 refine ⟨by kernel_rfl,fun j t ht=>?_⟩
 rw [Tryz.params3] at ht
 have hm:t∈[22]:=by simpa using Array.mem_of_getElem? ht
 have hall:([22].all fun u=>!Tryz.prog.wantsStandIn u)=true:=by kernel_rfl
 exact (show Tryz.prog.wantsStandIn t=false by simpa using List.all_eq_true.1 hall t hm)
theorem plays_card:Rows.GridPlaysCardSaid:=
 Claim7.holds_tied_plain_at .later [] _ _ _ _ plays_said (fun _ h=>by cases h) (by kernel_rfl) (fun _ h=>by cases h) gridPlays_row_tie rfl ⟨rfl,rfl⟩ (by kernel_rfl) rfl plays_plain (by kernel_rfl)
end Go.Proofs.YtlppcfeakakpfaaGreatDoor
