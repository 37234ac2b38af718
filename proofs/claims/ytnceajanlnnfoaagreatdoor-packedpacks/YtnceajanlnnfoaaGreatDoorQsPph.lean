/- PackedPacks: for every list of puts of bulk at most 1048576: Pack tells the document's bytes and end, and the grid stays as it was; what was handed in reads as it did (a tied card: four tables stand as the program lays them). -/
import Derived.Test.YtnceajanlnnfoaaGreatDoorQsPlo
import Derived.Test.YtnceajanlnnfoaaGreatDoorQsPpe
import Derived.Test.YtnceajanlnnfoaaGreatDoorQsMwt
import Derived.Test.YtnceajanlnnfoaaGreatDoorQsMwu
import Derived.Deep.Slices
set_option maxRecDepth 100000
namespace Go.Proofs.YtnceajanlnnfoaaGreatDoor
open Go.ChangeShapes Go.WideShapes Go.ChangeAt Go.RowKit Go.Deep
section
variable {H:Type} {enc:TypeId×Value→H} {w:World} {base:Nat}
theorem open_contentC4 {fuel:Nat} {l:List Value} {x:DataW H×List MemPlace} (hl21:l.length=21) (hf':DataW.trod enc Tryz.prog w base (fun _=>true) true fuel 66 l=some x) (hw:∀ n∈x.1.weights Tryz.prog 66,n≤reachBytes) :
  ∃ (c:Ct) (sl:Value),l=c.cells sl∧Cn w c sl∧c.t.txt∧c.v.s.size≤140737488355328∧c.t.size≤Rows.uptoBulk x.1:=by
 obtain ⟨xs,n,rfl,hxe,_,hlen,hg⟩:=DataW.trod_struct Tryz.underlying66 hf'
 match xs,hlen,l,hl21 with
 | [y0,y1,y2],_,[v0,v1,v2,v3,v4,v5,u0,u1,u2,u3,u4,u5,u6,u7,u8,u9,u10,u11,u12,u13,u14],_=>
  have g0:DataW.trod enc Tryz.prog w base (fun _=>true) true n 3 [v0]=some y0:=by simpa [cellsInt] using hg 0 _ rfl
  have g1':DataW.trod enc Tryz.prog w base (fun _=>true) true n 59 [v1,v2,v3,v4,v5]=some y1:=by simpa [cellsValue] using hg 1 _ rfl
  have g2':DataW.trod enc Tryz.prog w base (fun _=>true) true n 64 [u0,u1,u2,u3,u4,u5,u6,u7,u8,u9,u10,u11,u12,u13,u14]=some y2:=by simpa [cellsNode] using hg 2 _ rfl
  obtain ⟨k,rfl⟩:=trod_int1 g0
  obtain ⟨zs,n2,_,hze,_,hlen2,hz⟩:=DataW.trod_struct Tryz.underlying59 g1'
  match zs,hlen2 with
  | [z0,z1,z2,z3,z4],_=>
   have k0:DataW.trod enc Tryz.prog w base (fun _=>true) true n2 3 [v1]=some z0:=by simpa [cellsInt] using hz 0 _ rfl
   have k1:DataW.trod enc Tryz.prog w base (fun _=>true) true n2 50 [v2]=some z1:=by simpa [cellsF64] using hz 1 _ rfl
   have k2:DataW.trod enc Tryz.prog w base (fun _=>true) true n2 9 [v3]=some z2:=by simpa [cellsStr] using hz 2 _ rfl
   have k3:DataW.trod enc Tryz.prog w base (fun _=>true) true n2 4 [v4]=some z3:=by simpa [cellsBool] using hz 3 _ rfl
   have k4:DataW.trod enc Tryz.prog w base (fun _=>true) true n2 3 [v5]=some z4:=by simpa [cellsInt] using hz 4 _ rfl
   obtain ⟨vk,rfl⟩:=trod_int1 k0
   obtain ⟨vx,e1,wf1⟩:=trod_f64 k1
   obtain ⟨vs,e2,x2,_⟩:=DataW.trod_string Tryz.underlying9 k2
   obtain ⟨vb,e3,_⟩:=DataW.trod_bool Tryz.underlying4 k3
   obtain ⟨vf,rfl⟩:=trod_int1 k4
   have f1:v2=.float .f64 vx:=by simpa using e1
   have f2:v3=.string vs:=by simpa using e2
   have f3:v4=.bool vb:=by simpa using e3
   subst f1 f2 f3
   have hvs:vs.size≤140737488355328:=by
    have:=hw vs.data.toList.length (by rw [hxe];exact weights_agg (j:=1) (f:=59) (d:=y1.1) Tryz.underlying66 rfl rfl _ (by rw [hze];exact weights_agg (j:=2) (f:=9) (d:=z2.1) Tryz.underlying59 rfl rfl _ (by rw [x2,DataW.weights];simp)))
    have h2:vs.size=vs.data.toList.length:=by simp
    rw [h2];unfold reachBytes at this;omega
   obtain ⟨t,sl,e,hin,hok,htx,hbk⟩:=open_node4 n _ _ g2' (fun m hm=>hw m (by rw [hxe];exact weights_agg (j:=2) Tryz.underlying66 rfl rfl m hm))
   have hb2:t.size≤Rows.uptoBulk x.1:=by
    have h8:Rows.uptoBulk y2.1≤Rows.uptoBulkAll ([y0,y1,y2].map (·.1)):=bulk_part (by simp)
    rw [hxe,Rows.uptoBulk];omega
   simp only [Hd.cells,List.cons.injEq,and_true] at e
   obtain ⟨rfl,rfl,rfl,rfl,rfl,rfl,rfl,rfl,rfl,rfl,rfl,rfl,rfl,rfl,rfl⟩:=e
   exact ⟨⟨k,⟨vk,vx,vs,vb,vf⟩,t⟩,u14,rfl,⟨hok,f64_lt wf1,hin⟩,htx,hvs,hb2⟩
theorem trod_addrI {fuel:Nat} {v0 v1:Value} {x:DataW H×List MemPlace} (h:DataW.trod enc Tryz.prog w base (fun _=>true) true fuel 57 [v0,v1]=some x) :
  ∃ c r:Int,v0=.int .i64 c∧v1=.int .i64 r∧I64 c∧I64 r:=by
 obtain ⟨y0,y1,n,_,_,h0,h1⟩:=trod_struct2 Tryz.underlying57 h
 simp only [cellsInt,List.drop_zero,List.take_succ_cons,List.take_zero,List.drop_succ_cons] at h0 h1
 obtain ⟨c,e0,_,w0⟩:=DataW.trod_int Tryz.underlying3 h0
 obtain ⟨r,e1,_,w1⟩:=DataW.trod_int Tryz.underlying3 h1
 simp at e0 e1
 exact ⟨c,r,e0,e1,bounds_i64 w0,bounds_i64 w1⟩
theorem cellsPut:Tryz.prog.cellsOf 68=23:=by kernel_rfl
instance:Inhabited (Cc×Value):=⟨(((0,0),ct0),.slice none 0 0)⟩
theorem open_puts4 {fuel:Nat} {a:Option Addr} {len cap:Nat} {x:DataW H×List MemPlace} (h:DataW.trod enc Tryz.prog w base (fun _=>true) true fuel 22 [.slice a len cap]=some x) (hw:∀ n∈x.1.weights Tryz.prog 22,n≤reachBytes) (hbk:Rows.uptoBulk x.1≤1048576) :
  ∃ xs:List (Cc×Value),PutsIn w (.slice a len cap) xs∧∀ y∈xs,Sm24 y.1.2:=by
 rcases DataW.trod_slice Tryz.underlying22 h with ⟨hcs,_⟩|⟨ad,len',cap',elems,rest,n,rfl,hcs,hxe,_,hl,hm,hel,hx,_,_⟩
 ·simp only [List.cons.injEq,Value.slice.injEq,and_true] at hcs
  obtain ⟨rfl,rfl,rfl⟩:=hcs
  exact ⟨[],⟨⟨_,_,rfl,fun h=>absurd h (Nat.lt_irrefl _)⟩,Nat.zero_le _,fun z hz=>by simp at hz⟩,fun z hz=>by simp at hz⟩
 ·simp only [List.cons.injEq,Value.slice.injEq,and_true] at hcs
  obtain ⟨rfl,rfl,rfl⟩:=hcs
  rw [cellsPut] at hx
  have each:∀ i,i < len→∃ (cs:List Value) (y:DataW H×List MemPlace),w.cells? base (ad.add (i * 23)) 23=some cs∧DataW.trod enc Tryz.prog w base (fun _=>true) true n 68 cs=some y∧y∈elems:=fun i hi=>by
   have h1:=hx i hi
   rw [List.getElem?_eq_getElem (by omega)] at h1
   obtain ⟨cs',e1,e2⟩:=Option.bind_eq_some_iff.1 h1
   exact ⟨cs',_,e1,e2,List.getElem_mem _⟩
  rcases Nat.eq_zero_or_pos len with h0|h0
  ·subst h0
   exact ⟨[],⟨⟨_,_,rfl,fun h=>absurd h (Nat.lt_irrefl _)⟩,Nat.zero_le _,fun z hz=>by simp at hz⟩,fun z hz=>by simp at hz⟩
  have hsp:ad.spot=none:=by
   obtain ⟨cs',y,e1,_⟩:=each 0 h0
   obtain ⟨_,hlen,hcell⟩:=World.cells?_some e1
   have:=hcell 0 (by omega)
   rw [List.getElem?_eq_getElem (by omega)] at this
   simpa [Addr.add] using World.cell?_spot this
  obtain ⟨b,o,sp⟩:=ad
  simp only at hsp
  subst hsp
  obtain ⟨A,hA,hAt⟩:=by_each (α:=Cc×Value) (len:=len) (p:=fun i y=>w.rangeAt b (o+i * 23) (ptCells y.1 y.2)∧Cn w y.1.2 y.2∧Sm24 y.1.2) (fun i hi=>by
   obtain ⟨cs,y,e0,e3,hy⟩:=each i hi
   obtain ⟨_,e1,hcell⟩:=World.cells?_some e0
   have e2:∀ j,j < 23→w.cell? ⟨b,o+i * 23+j,none⟩=cs[j]?:=fun j hj=>by
    have:=hcell j hj
    rw [add_plain,add_plain] at this
    exact this
   have hwy:∀ m∈y.1.weights Tryz.prog 68,m≤reachBytes:=fun m hm=>hw m (by rw [hxe];exact weights_slice Tryz.underlying22 (List.mem_map_of_mem hy) m hm)
   have hby:Rows.uptoBulk y.1≤1048576:=by
    have h8:Rows.uptoBulk y.1≤Rows.uptoBulkAll (elems.map (·.1)):=bulk_part (List.mem_map_of_mem hy)
    rw [hxe,Rows.uptoBulk] at hbk
    omega
   obtain ⟨y0,y1,n',hye,_,g0,g1⟩:=trod_struct2 Tryz.underlying68 e3
   simp only [cellsAddr] at g0
   simp only [cellsContent] at g1
   obtain ⟨v0,v1,l,rfl⟩:∃ v0 v1 l,cs=v0 :: v1 :: l:=by
    match cs,e1 with
    | v0 :: v1 :: l,_=>exact ⟨v0,v1,l,rfl⟩
   have hl:l.length=21:=by simpa using e1
   have g1':DataW.trod enc Tryz.prog w base (fun _=>true) true n' 66 l=some y1:=by
    have:((v0 :: v1 :: l).drop 2).take 21=l:=by
     show l.take 21=l
     rw [← hl,List.take_length]
    rw [this] at g1;exact g1
   obtain ⟨c,r,rfl,rfl,_,_⟩:=trod_addrI (by simpa using g0)
   have hwc:∀ m∈y1.1.weights Tryz.prog 66,m≤reachBytes:=fun m hm=>hwy m (by rw [hye];exact weights_agg (j:=1) (f:=66) Tryz.underlying68 rfl rfl m hm)
   obtain ⟨ct,sl,rfl,hcn,htx,hvs,hcb⟩:=open_contentC4 hl g1' hwc
   have hcs:ct.t.size≤1048576:=by
    have h8:Rows.uptoBulk y1.1≤Rows.uptoBulkAll [y0.1,y1.1]:=bulk_part (by simp)
    rw [hye,Rows.uptoBulk] at hby
    omega
   refine ⟨(((c,r),ct),sl),fun j u hu=>?_,hcn,⟨hcs,htx,hvs⟩⟩
   have hj:j < 23:=by have:=(List.getElem?_eq_some_iff.1 hu).1;rw [pt_len] at this;exact this
   rw [e2 j hj];exact hu)
  subst hA
  refine ⟨A,⟨⟨_,cap,rfl,fun _=>⟨b,o,rfl,fun i y hy=>(hAt i y hy).1⟩⟩,by omega,fun z hz=>?_⟩,fun z hz=>?_⟩
  ·obtain ⟨i,hi⟩:=List.mem_iff_getElem?.1 hz
   exact (hAt i z hi).2.1
  ·obtain ⟨i,hi⟩:=List.mem_iff_getElem?.1 hz
   exact (hAt i z hi).2.2
end
theorem packs_lifted (os:Os) (started:os.Started) (H:Type) (enc:TypeId×Value→H) (FI:Stop.Interp) :
  ReturnsInHanded {} Tryz.checked os 3 .any (fun w args=>((Rows.OpenSpec.upto Rows.packedPacksSpec).pre enc Tryz.prog Tryz.f3 [] false w args∧laidMetH Tryz.prog laidFour w)∧sizedMet enc Tryz.prog Tryz.f3 (Rows.OpenSpec.upto Rows.packedPacksSpec) false w args)
   (((Rows.OpenSpec.upto Rows.packedPacksSpec).at FI).post enc Tryz.prog Tryz.f3 false true false false):=by
 refine returnsInHanded_of_cond_and (C:=Tryz.checked) (s:=Rows.OpenSpec.upto Rows.packedPacksSpec) (k:=Rows.uptoSmall) rfl (X:=fun w _=>laidMetH Tryz.prog laidFour w) (fun _ _ _ hh h=>h.of_heap hh) ownK started (by kernel_rfl) Tryz.func3
  (OpenSpec.witness_laid (enc:=enc) (C:=Tryz.checked) (os:=os) (s:=Rows.OpenSpec.upto Rows.packedPacksSpec) (k:=Rows.uptoSmall) rfl (X:=fun w _=>laidMetH Tryz.prog laidFour w) false (World.laidAll Tryz.prog os laidFour) #[.slice none 0 0] 8 (World.laidAll_os _ _ _) (World.shaped_of_ZipB (by kernel_rfl) (by kernel_rfl)) (by kernel_rfl) (by kernel_rfl) (by kernel_rfl) (by rw [MakeChecks.laidMetH_plain _ _ _ (by kernel_rfl)];exact laidMet_laidAll _ (by kernel_rfl) (by kernel_rfl))) ?_
 intro W base args ds gs before hval0 hW _ hbulk hsized hL _
 have hval:∀ (j:Nat) t v,Tryz.f3.params[j]? = some t→args[j]? = some v→Value.okWide Tryz.prog W .any base t v:=hval0
 have hW':=hW
 obtain ⟨p,q,hA0,hV,rfl,hfz,hnd⟩:=hW
 have hA:DataW.TrodAll enc Tryz.prog W 0 (fun _=>true) true Tryz.f3.params.toList args.toList ds p:=hA0
 rw [Tryz.params3] at hA hval
 obtain ⟨v0,d0,rfl,rfl,h0⟩:=trodAll_one hA
 obtain ⟨rfl,rfl⟩:=trodVars_none hV
 have h0k:=h0
 have hw:∀ (j:Nat) (t:TypeId) (d:DataW H),(Tryz.f3.params.toList ++ (Rows.OpenSpec.upto Rows.packedPacksSpec).bare.plain.varTypes Tryz.prog)[j]? = some t→([d0] ++ ([]:List (DataW H)))[j]? = some d→∀ n∈d.weights Tryz.prog t,n≤reachBytes:=fun j t d ht hd n hn=>by
  have:=List.all_eq_true.1 hsized _ (DataW.weights_mem_each ht hd n hn)
  simpa using this
 obtain ⟨a0,l0,c0,rfl⟩:=okWide_slice Tryz.underlying22 (hval 0 _ v0 rfl rfl)
 obtain ⟨g0,f0⟩:=h0
 have hbk:Rows.uptoBulk d0≤1048576:=by
  have hb:Rows.uptoBulkAll ([d0] ++ ([]:List (DataW H)))≤1048576:=of_decide_eq_true hbulk
  have hb2:Rows.uptoBulk d0≤Rows.uptoBulkAll ([d0] ++ ([]:List (DataW H))):=bulk_part (by simp)
  omega
 obtain ⟨xl,hX,hsm⟩:=open_puts4 (x:=(d0,p)) (by simpa [Value.cells] using f0) (hw 0 _ d0 rfl rfl) hbk
 clear hA0 hval0
 simp only [List.append_nil] at hW'
 have hlt:∀ x∈p,x.block < W.heap.size:=fun x hx=>by
  have:=hW'.lt x (by simpa using hx)
  simpa using this
 have k0:∀ (W':World),Below W.heap.size W W'→DataW.Trod enc Tryz.prog W' 0 (fun b=>decide (b < W.heap.size)) true 22 (.slice a0 l0 c0) d0 p:=fun W' hn=>Below.trod laidK (by kernel_rfl) (of_decide_eq_true (by kernel_rfl)) h0k hn (fun x hx=>hlt x hx)
 refine (packs24 _ xl W hX hsm (tabs_of hL).1 (tabs_of hL).2.2 (tabs_of hL).2.1).mono ?_
 rintro e W' ⟨rfl,hk⟩
 have hnx:=hk.below
 exact ⟨_,rfl,_,_,_,[],_,[],hW',trodAll_mk1 (shut_bool Tryz.underlying4 _),trodAll_mk1 (k0 _ hnx),rfl,hnx.frame _,fun h=>by cases h⟩
theorem packs_said:Rows.PackedPacksUptoSaid:=
 OpenClaim.holds_of_cond 3 Tryz.f3 rfl rfl rfl rfl rfl rfl rfl ⟨rfl,rfl,rfl,rfl,rfl⟩ rfl rfl rfl rfl rfl (by kernel_rfl) Tryz.func3 (by kernel_rfl)
  (of_decide_eq_true (by kernel_rfl)) (by unfold Func.isWrapper;first|(rw [if_pos (by decide +kernel)];kernel_rfl)|(rw [if_neg (by decide +kernel)];exact ⟨rfl,rfl⟩))
  (fun os started H enc _ FI=>packs_lifted os started H enc FI)
theorem packs_plain (f:FuncId) (fn:Func) (hf:Tryz.pinned.checked.prog.funcNamed Tryz.f3.name=some f) (hfn:Tryz.pinned.checked.prog.funcs[f]? = some fn) :
  true=Tryz.pinned.checked.prog.looks []∧∀ (j:Nat) t,fn.params[j]? = some t→Tryz.pinned.checked.prog.wantsStandIn t=false:=by
 obtain rfl:f=3:=Option.some.inj ((show Tryz.prog.funcNamed Tryz.f3.name=some 3 by kernel_rfl).symm.trans hf) |>.symm
 obtain rfl:fn=Tryz.f3:=(Option.some.inj (Tryz.func3.symm.trans hfn)).symm
 refine ⟨by kernel_rfl,fun j t ht=>?_⟩
 rw [Tryz.params3] at ht
 have hm:t∈[22]:=by simpa using Array.mem_of_getElem? ht
 have hall:([22].all fun u=>!Tryz.prog.wantsStandIn u)=true:=by kernel_rfl
 exact (show Tryz.prog.wantsStandIn t=false by simpa using List.all_eq_true.1 hall t hm)
theorem packs_card:Rows.PackedPacksUptoCardSaid:=
 Claim7.holds_tied_plain_at .later [] _ _ _ _ packs_said (fun _ h=>by cases h) (by kernel_rfl) (fun _ h=>by cases h) packedPacksUpto_row_tie rfl ⟨rfl,rfl⟩ (by kernel_rfl) rfl packs_plain (by kernel_rfl)
#print axioms packs_card
end Go.Proofs.YtnceajanlnnfoaaGreatDoor
