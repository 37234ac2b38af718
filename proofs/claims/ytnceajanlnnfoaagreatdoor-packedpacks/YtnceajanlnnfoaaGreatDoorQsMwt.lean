/- A node that came in, with all its nodes, opened; how great it is. -/
import Derived.Test.YtnceajanlnnfoaaGreatDoorQsQq
import Derived.Test.YtnceajanlnnfoaaGreatDoorQsEp
import Derived.Test.YtnceajanlnnfoaaGreatDoorCards
import Derived.ProofKit
import Derived.SizedLaws
import Derived.ChangeSame
import Derived.OpenShut
import Derived.Carry
set_option maxRecDepth 100000
namespace Go.Proofs.YtnceajanlnnfoaaGreatDoor
open Go.ChangeShapes Go.WideShapes Go.RowKit Go.Deep
theorem f64_lt {b:Nat} (h:(Lit.float .f64 b).wf=true):b < 18446744073709551616:=by
 simpa [Lit.wf] using h
theorem okL_of:∀ {ts:List Nd},(∀ (i:Nat) (t:Nd),ts[i]? = some t→t.ok)→okL ts
 | [],_=>by rw [okL];trivial
 | t :: ts,h=>by
  rw [okL]
  exact ⟨h 0 t rfl,okL_of fun i u hu=>h (i+1) u (by simpa using hu)⟩
theorem txtL_of:∀ {ts:List Nd},(∀ (i:Nat) (t:Nd),ts[i]? = some t→t.txt)→txtL ts
 | [],_=>by rw [txtL];trivial
 | t :: ts,h=>by
  rw [txtL]
  exact ⟨h 0 t rfl,txtL_of fun i u hu=>h (i+1) u (by simpa using hu)⟩
section
variable {H:Type} {P:Program}
theorem weights_agg {t:TypeId} {fs:Array Field} (hu:P.underlying t=some (.struct fs)) {parts:List (DataW H)} {j:Nat} {f:TypeId} {d:DataW H} (hf:(fs.toList.map (·.type))[j]? = some f) (hd:parts[j]? = some d):∀ n∈d.weights P f,n∈DataW.weights P t (.agg parts):=by
 intro n hn
 rw [DataW.weights,hu]
 exact DataW.weights_mem_each hf hd n hn
theorem weights_all {e:TypeId}:∀ {ds:List (DataW H)} {d:DataW H},d∈ds→∀ n∈d.weights P e,n∈DataW.weightsAll P e ds
 | [],_,h,_,_=>by simp at h
 | x :: xs,d,h,n,hn=>by
  rw [DataW.weightsAll,List.mem_append]
  rcases List.mem_cons.1 h with rfl|h
  ·exact .inl hn
  ·exact .inr (weights_all h n hn)
theorem weights_slice {t e:TypeId} (hu:P.underlying t=some (.slice e)) {elems spare:List (DataW H)} {d:DataW H} (hd:d∈elems):∀ n∈d.weights P e,n∈DataW.weights P t (.slice elems spare):=by
 intro n hn
 rw [DataW.weights,hu]
 exact List.mem_cons_of_mem _ (List.mem_append_left _ (weights_all hd n hn))
end
theorem size_bulk {H:Type}:∀ {ts:List Nd} {ds:List (DataW H)},ts.length=ds.length→(∀ (i:Nat) (t:Nd) (d:DataW H),ts[i]? = some t→ds[i]? = some d→t.size≤Rows.uptoBulk d)→sizeL ts≤Rows.uptoBulkAll ds
 | [],_,_,_=>by rw [sizeL];omega
 | t :: ts,[],h,_=>by simp at h
 | t :: ts,d :: ds,h,hh=>by
  rw [sizeL,Rows.uptoBulkAll]
  have h1:=hh 0 t d rfl rfl
  have h2:=size_bulk (ts:=ts) (ds:=ds) (by simpa using h) (fun i u e hu he=>hh (i+1) u e (by simpa using hu) (by simpa using he))
  omega
theorem bulk_part {H:Type}:∀ {ds:List (DataW H)} {d:DataW H},d∈ds→Rows.uptoBulk d≤Rows.uptoBulkAll ds
 | [],_,h=>by simp at h
 | x :: xs,d,h=>by
  rw [Rows.uptoBulkAll]
  rcases List.mem_cons.1 h with rfl|h
  ·omega
  ·have:=bulk_part h;omega
section
variable {H:Type} {enc:TypeId×Value→H} {w:World} {base:Nat}
theorem open_nodes4 {m:Nat} (ih:∀ n,n < m→∀ (cs:List Value) (x:DataW H×List MemPlace),DataW.trod enc Tryz.prog w base (fun _=>true) true n 64 cs=some x→(∀ n∈x.1.weights Tryz.prog 64,n≤reachBytes)→∃ (t:Nd) (sl:Value),cs=t.hd.cells sl∧NdIn w (fun _=>True) sl t∧t.ok∧t.txt∧t.size≤Rows.uptoBulk x.1)
  {v:Value} {x:DataW H×List MemPlace} (h:DataW.trod enc Tryz.prog w base (fun _=>true) true m 62 [v]=some x) (hw:∀ n∈x.1.weights Tryz.prog 62,n≤reachBytes):∃ ts:List Nd,(∀ hd:Hd,NdIn w (fun _=>True) v (.mk hd ts))∧okL ts∧txtL ts∧sizeL ts≤Rows.uptoBulk x.1:=by
 rcases DataW.trod_slice Tryz.underlying62 h with ⟨hcs,_⟩|⟨a,len,cap,elems,rest,n,rfl,hcs,hxe,_,hl,hm,hel,hx,_,_⟩
 ·have hv:v=.slice none 0 0:=by simpa using hcs
  subst hv
  refine ⟨[],fun hd=>?_,by rw [okL];trivial,by rw [txtL];trivial,by rw [sizeL];omega⟩
  rw [NdIn]
  exact ⟨none,0,rfl,Nat.le_refl _,by decide,.inl ⟨rfl,.inl rfl⟩⟩
 ·have hv:v=.slice (some a) len cap:=by simpa using hcs
  subst hv
  rw [cellsNode] at hx
  have each:∀ i,i < len→∃ t:Nd,∃ cs',∃ sl,w.cells? base (a.add (i * 15)) 15=some cs'∧cs'=t.hd.cells sl∧NdIn w (fun _=>True) sl t∧t.ok∧t.txt∧∀ d,(elems.map (·.1))[i]? = some d→t.size≤Rows.uptoBulk d:=fun i hi=>by
   have h1:=hx i hi
   rw [List.getElem?_eq_getElem (by omega)] at h1
   obtain ⟨cs',e1,e2⟩:=Option.bind_eq_some_iff.1 h1
   obtain ⟨t,sl,e3,e4,e5,e6,e7⟩:=ih n (by omega) cs' _ e2 (fun m hm=>hw m (by rw [hxe];exact weights_slice Tryz.underlying62 (List.mem_map_of_mem (List.getElem_mem _)) m hm))
   refine ⟨t,cs',sl,e1,e3,e4,e5,e6,fun d hd=>?_⟩
   rw [List.getElem?_map,List.getElem?_eq_getElem (by omega)] at hd
   have hd':=Option.some.inj hd
   rw [← hd'];exact e7
  rcases Nat.eq_zero_or_pos len with h0|h0
  ·subst h0
   refine ⟨[],fun hd=>?_,by rw [okL];trivial,by rw [txtL];trivial,by rw [sizeL];omega⟩
   rw [NdIn]
   exact ⟨some a,cap,rfl,Nat.zero_le _,hm,.inl ⟨rfl,.inr (by simp)⟩⟩
  ·have hsp:a.spot=none:=by
    obtain ⟨t,cs',sl,e1,e2,_⟩:=each 0 h0
    obtain ⟨_,hlen,hcell⟩:=World.cells?_some e1
    have:=hcell 0 (by omega)
    rw [List.getElem?_eq_getElem (by omega)] at this
    simpa [Addr.add] using World.cell?_spot this
   obtain ⟨b,o,sp⟩:=a
   simp only at hsp
   subst hsp
   obtain ⟨ts,hts,hat⟩:=by_each each
   refine ⟨ts,fun hd=>?_,okL_of fun i t ht=>by obtain ⟨_,_,_,_,_,q,_⟩:=hat i t ht;exact q,txtL_of fun i t ht=>by obtain ⟨_,_,_,_,_,_,q,_⟩:=hat i t ht;exact q,?_⟩
   rotate_left
   ·have hb:=size_bulk (ts:=ts) (ds:=elems.map (·.1)) (by rw [hts,List.length_map];omega) (fun i t d ht hd=>by obtain ⟨_,_,_,_,_,_,_,q⟩:=hat i t ht;exact q d hd)
    rw [hxe,Rows.uptoBulk];omega
   rw [NdIn]
   refine ⟨some ⟨b,o,none⟩,cap,by rw [hts],by omega,hm,.inr ⟨b,o,rfl,trivial,nds_of ts o (fun i t ht=>?_)⟩⟩
   obtain ⟨cs',sl,e1,e2,e3,_⟩:=hat i t ht
   obtain ⟨_,hlen,hcell⟩:=World.cells?_some e1
   refine ⟨sl,fun j u hu=>?_,e3⟩
   rw [← e2] at hu
   have hj:j < 15:=by rw [← hlen];exact (List.getElem?_eq_some_iff.1 hu).1
   have:=hcell j hj
   rw [add_plain,add_plain,hu] at this
   exact this
theorem open_node4 (fuel:Nat):∀ (cs:List Value) (x:DataW H×List MemPlace),DataW.trod enc Tryz.prog w base (fun _=>true) true fuel 64 cs=some x→(∀ n∈x.1.weights Tryz.prog 64,n≤reachBytes)→∃ (t:Nd) (sl:Value),cs=t.hd.cells sl∧NdIn w (fun _=>True) sl t∧t.ok∧t.txt∧t.size≤Rows.uptoBulk x.1:=by
 induction fuel using Nat.strongRecOn with
 | _ fuel ih=>
  intro cs x h hw
  obtain ⟨xs,n,rfl,hxe,hl,hlen,hf⟩:=DataW.trod_struct Tryz.underlying64 h
  rw [cellsNode] at hl
  match xs,hlen,cs,hl with
  | [y0,y1,y2,y3,y4,y5,y6,y7,y8],_,[v0,v1,v2,v3,v4,v5,v6,v7,v8,v9,v10,v11,v12,v13,v14],_=>
   have g0:DataW.trod enc Tryz.prog w base (fun _=>true) true n 3 [v0]=some y0:=by simpa [cellsInt] using hf 0 _ rfl
   have g1:DataW.trod enc Tryz.prog w base (fun _=>true) true n 3 [v1]=some y1:=by simpa [cellsInt] using hf 1 _ rfl
   have g2:DataW.trod enc Tryz.prog w base (fun _=>true) true n 50 [v2]=some y2:=by simpa [cellsF64] using hf 2 _ rfl
   have g3:DataW.trod enc Tryz.prog w base (fun _=>true) true n 9 [v3]=some y3:=by simpa [cellsStr] using hf 3 _ rfl
   have g4:DataW.trod enc Tryz.prog w base (fun _=>true) true n 4 [v4]=some y4:=by simpa [cellsBool] using hf 4 _ rfl
   have g5:DataW.trod enc Tryz.prog w base (fun _=>true) true n 3 [v5]=some y5:=by simpa [cellsInt] using hf 5 _ rfl
   have g6:DataW.trod enc Tryz.prog w base (fun _=>true) true n 61 [v6,v7,v8,v9]=some y6:=by simpa [cellsRef] using hf 6 _ rfl
   have g7:DataW.trod enc Tryz.prog w base (fun _=>true) true n 61 [v10,v11,v12,v13]=some y7:=by simpa [cellsRef] using hf 7 _ rfl
   have g8:DataW.trod enc Tryz.prog w base (fun _=>true) true n 62 [v14]=some y8:=by simpa [cellsNodes] using hf 8 _ rfl
   obtain ⟨k,rfl⟩:=trod_int1 g0
   obtain ⟨o,rfl⟩:=trod_int1 g1
   obtain ⟨xx,e2,wf2⟩:=trod_f64 g2
   obtain ⟨s,e3,x3,_⟩:=DataW.trod_string Tryz.underlying9 g3
   obtain ⟨b,e4,_⟩:=DataW.trod_bool Tryz.underlying4 g4
   obtain ⟨f,rfl⟩:=trod_int1 g5
   obtain ⟨c1,r1,p1,q1,rfl,rfl,rfl,rfl⟩:=trod_ref g6
   obtain ⟨c2,r2,p2,q2,rfl,rfl,rfl,rfl⟩:=trod_ref g7
   obtain ⟨ts,hts,hok,htx,hsz⟩:=open_nodes4 (m:=n) (fun n' hn'=>ih n' (by omega)) g8 (fun m hm=>hw m (by rw [hxe];exact weights_agg (j:=8) Tryz.underlying64 rfl rfl m hm))
   have hs3:s.size≤140737488355328:=by
    have:=hw s.data.toList.length (by rw [hxe];exact weights_agg (j:=3) (f:=9) (d:=y3.1) Tryz.underlying64 rfl rfl _ (by rw [x3,DataW.weights];simp))
    have h2:s.size=s.data.toList.length:=by simp
    rw [h2];unfold reachBytes at this;omega
   have f2:v2=.float .f64 xx:=by simpa using e2
   have f3:v3=.string s:=by simpa using e3
   have f4:v4=.bool b:=by simpa using e4
   subst f2 f3 f4
   exact ⟨.mk ⟨k,o,xx,s,b,f,c1,r1,p1,q1,c2,r2,p2,q2⟩ ts,v14,rfl,hts _,by rw [Nd.ok];exact ⟨f64_lt wf2,hok⟩,by rw [Nd.txt];exact ⟨hs3,htx⟩,by
    have h8:Rows.uptoBulk y8.1≤Rows.uptoBulkAll ([y0,y1,y2,y3,y4,y5,y6,y7,y8].map (·.1)):=bulk_part (by simp)
    rw [hxe,Rows.uptoBulk,Nd.size];omega⟩
end
end Go.Proofs.YtnceajanlnnfoaaGreatDoor
