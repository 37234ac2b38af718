/- MoveCopies: for every list of puts and every step the call returns true, and what was handed in reads as it did; no condition (a tied card: two tables of unicode/utf8 stand as the program lays them). -/
import Derived.Test.YtecjfnkakodebaaGreatDoorQwJu
import Derived.Test.YtecjfnkakodebaaGreatDoorQwMzv
import Derived.Test.YtecjfnkakodebaaGreatDoorCards
import Derived.Test.YtecjfnkakodebaaGreatDoorTie
import Derived.ProofKit
import Derived.LaidMore
import Derived.Lay
import Derived.LaidOnce
import Derived.Stop.Joined
import Derived.Lib.LaidU8T
set_option maxRecDepth 100000
namespace Go.Proofs.YtecjfnkakodebaaGreatDoor
open Go.ChangeShapes Go.WideShapes Go.ChangeAt Go.RowKit
theorem ownK:ownKnob Tryz.prog.godebug=none:=by kernel_rfl
theorem laidK:laidOutB Tryz.prog=true:=by kernel_rfl
def laidTwo:List (String×DataW Unit):=[("unicode/utf8.acceptRanges", Rows.laid_unicode_utf8_acceptRanges),("unicode/utf8.first", Rows.laid_unicode_utf8_first)]
theorem first_is:Rows.laid_unicode_utf8_first=Lib.firstData:=by kernel_rfl
theorem accept_is:(Rows.laid_unicode_utf8_acceptRanges:DataW Unit)=Lib.acceptData:=by kernel_rfl
theorem u8x:U8Extra Tryz.prog Tryz.laysValid_ren:=⟨by kernel_rfl,by kernel_rfl,by kernel_rfl,by kernel_rfl,by kernel_rfl,by kernel_rfl,by kernel_rfl⟩
theorem tabs_of {W:World} (h:laidMetH Tryz.prog laidTwo W):Lib.Utf8Tabs (Tryz.laysValid_ren.g 3) (Tryz.laysValid_ren.g 4) W:=by
 have h':laidMet Tryz.prog laidTwo W:=by rw[MakeChecks.laidMetH_plain _ _ _ (by kernel_rfl)] at h;exact h
 obtain⟨ps,hl,_,_⟩:=h'
 refine utf8Tabs_of_readsT (U8Types.of196 Tryz.laysValid) u8x ?_ ?_
 ·rw[<- first_is];exact Lib.LaidVars_reads hl _ _ (by simp[laidTwo])
 ·rw[<- accept_is];exact Lib.LaidVars_reads hl _ _ (by simp[laidTwo])
theorem cellsStep:Tryz.prog.cellsOf 36=9:=by kernel_rfl
theorem cellsAr4:Tryz.prog.cellsOf 34=4:=by kernel_rfl
theorem cellsAd2:Tryz.prog.cellsOf 32=2:=by kernel_rfl
theorem open_step {H:Type} {enc:TypeId×Value->H} {w:World} {rr:Reach} {b0:Nat} {v:Value} {d:DataW H} {p:List MemPlace} (hv:Value.okWide Tryz.prog w rr b0 36 v) (h:DataW.Trod enc Tryz.prog w 0 (fun _=>true) true 36 v d p) :
  ∃x0 x1 x2 f1 f2 g1 g2 t1 t2:Int,v=.agg #[.int .i64 x0,.int .i64 x1,.int .i64 x2,.int .i64 f1,.int .i64 f2,.int .i64 g1,.int .i64 g2,.int .i64 t1,.int .i64 t2]/\I64 f1/\I64 f2/\I64 g1/\I64 g2/\I64 t1/\I64 t2:=by
 obtain⟨cs,rfl,hsz⟩:=okWide_struct Tryz.underlying36 hv
 obtain⟨l⟩:=cs
 have hl9:l.length=9:=hsz.trans cellsStep
 obtain⟨fuel,hf⟩:=h
 have hf':DataW.trod enc Tryz.prog w 0 (fun _=>true) true fuel 36 l=some (d,p):=by simpa [Value.cells] using hf
 obtain⟨xs,n,rfl,_,_,hlen,hg⟩:=DataW.trod_struct Tryz.underlying36 hf'
 match xs,hlen,l,hl9 with
 | [y0,y1,y2,y3,y4],_,[c0,c1,c2,c3,c4,c5,c6,c7,c8],_=>
  have g0:DataW.trod enc Tryz.prog w 0 (fun _=>true) true n 3 [c0]=some y0:=by simpa [cellsInt] using hg 0 _ rfl
  have g1:DataW.trod enc Tryz.prog w 0 (fun _=>true) true n 3 [c1]=some y1:=by simpa [cellsInt] using hg 1 _ rfl
  have g2:DataW.trod enc Tryz.prog w 0 (fun _=>true) true n 3 [c2]=some y2:=by simpa [cellsInt] using hg 2 _ rfl
  have g3:DataW.trod enc Tryz.prog w 0 (fun _=>true) true n 34 [c3,c4,c5,c6]=some y3:=by simpa [cellsInt,cellsAr4] using hg 3 _ rfl
  have g4:DataW.trod enc Tryz.prog w 0 (fun _=>true) true n 32 [c7,c8]=some y4:=by simpa [cellsInt,cellsAr4,cellsAd2] using hg 4 _ rfl
  obtain⟨x0,rfl⟩:=trod_int1 g0
  obtain⟨x1,rfl⟩:=trod_int1 g1
  obtain⟨x2,rfl⟩:=trod_int1 g2
  obtain⟨z0,z1,m,_,_,q0,q1⟩:=trod_struct2 Tryz.underlying34 g3
  simp only[cellsAd2,List.drop_zero,List.take_succ_cons,List.take_zero,List.drop_succ_cons] at q0 q1
  obtain⟨f1,f2,rfl,rfl,i1,i2⟩:=trod_addrI q0
  obtain⟨g1',g2',rfl,rfl,i3,i4⟩:=trod_addrI q1
  obtain⟨t1,t2,rfl,rfl,i5,i6⟩:=trod_addrI g4
  exact⟨x0,x1,x2,f1,f2,g1',g2',t1,t2,rfl,i1,i2,i3,i4,i5,i6⟩
theorem cop_lifted (os:Os) (started:os.Started) (H:Type) (enc:TypeId×Value->H) :
  ReturnsInHanded {} Tryz.checked os 5 .any (fun w args=>(Rows.moveCopiesSpec.pre enc Tryz.prog Tryz.f5 [] false w args/\laidMetH Tryz.prog laidTwo w)/\sizedMet enc Tryz.prog Tryz.f5 (OpenSpec.ofChange Rows.moveCopiesSpec) false w args)
   (Rows.moveCopiesSpec.post enc Tryz.prog Tryz.f5 false true false false):=by
 refine returnsInHanded_of_change_and (C:=Tryz.checked) (X:=fun w _=>laidMetH Tryz.prog laidTwo w) (fun _ _ _ hh h=>h.of_heap hh) ownK started (by kernel_rfl) Tryz.func5
  (ChangeSpec.witness_shaped (enc:=enc) (C:=Tryz.checked) (os:=os) (X:=fun w _=>laidMetH Tryz.prog laidTwo w) false (World.laidAll Tryz.prog os laidTwo) #[.slice none 0 0,.agg #[.int .i64 0,.int .i64 0,.int .i64 0,.int .i64 0,.int .i64 0,.int .i64 0,.int .i64 0,.int .i64 0,.int .i64 0]] 8 (World.laidAll_os _ _ _) (World.shaped_of_ZipB (by kernel_rfl) (by kernel_rfl)) (by kernel_rfl) (by kernel_rfl) (by kernel_rfl) (by rw[MakeChecks.laidMetH_plain _ _ _ (by kernel_rfl)];exact laidMet_laidAll _ (by kernel_rfl) (by kernel_rfl))) ?_
 intro W base args ds gs before hval0 hW _ _ hL _
 have hval:∀(j:Nat) t v,Tryz.f5.params[j]? = some t->args[j]? = some v->Value.okWide Tryz.prog W .any base t v:=hval0
 have hW':=hW
 obtain⟨p,q,hA0,hV,rfl,hfz,hnd⟩:=hW
 have hA:DataW.TrodAll enc Tryz.prog W 0 (fun _=>true) true Tryz.f5.params.toList args.toList ds p:=hA0
 rw[Tryz.params5] at hA hval
 obtain⟨v0,v1,d0,d1,p0,p1,rfl,rfl,rfl,h0,h1⟩:=trodAll_two hA
 obtain⟨rfl,rfl⟩:=trodVars_none hV
 obtain⟨a0,l0,c0,rfl⟩:=okWide_slice Tryz.underlying22 (hval 0 _ v0 rfl rfl)
 have h0k:=h0
 have h1k:=h1
 obtain⟨x0,x1,x2,f1,f2,g1,g2,t1,t2,rfl,i1,i2,i3,i4,i5,i6⟩:=open_step (hval 1 _ v1 rfl rfl) h1
 obtain⟨g0,f0⟩:=h0
 obtain⟨xl,_,hX⟩:=open_puts (by simpa [Value.cells] using f0)
 clear hA0 hval0
 simp only[List.append_nil] at hW'
 have hlt:∀x∈p0++p1,x.block<W.heap.size:=fun x hx=>by
  have:=hW'.lt x (by simpa using hx)
  simpa using this
 have k0:∀(W':World),Below W.heap.size W W'->DataW.Trod enc Tryz.prog W' 0 (fun b=>decide (b<W.heap.size)) true 22 (.slice a0 l0 c0) d0 p0:=fun W' hn=>Below.trod laidK (by kernel_rfl) (of_decide_eq_true (by kernel_rfl)) h0k hn (fun x hx=>hlt x (by simp[hx]))
 have k1:∀(W':World),Below W.heap.size W W'->DataW.Trod enc Tryz.prog W' 0 (fun b=>decide (b<W.heap.size)) true 36 (.agg #[.int .i64 x0,.int .i64 x1,.int .i64 x2,.int .i64 f1,.int .i64 f2,.int .i64 g1,.int .i64 g2,.int .i64 t1,.int .i64 t2]) d1 p1:=fun W' hn=>Below.trod laidK (by kernel_rfl) (of_decide_eq_true (by kernel_rfl)) h1k hn (fun x hx=>hlt x (by simp[hx]))
 refine(copies22 _ xl x0 x1 x2 f1 f2 g1 g2 t1 t2 W hX i1 i2 i3 i4 i5 i6 (vs_of (tabs_of hL))).mono ?_
 rintro e W' ⟨rfl,hk⟩
 have hnx:=hk.below
 exact⟨_,rfl,_,_,_,[],_,[],hW',trodAll_mk1 (shut_bool Tryz.underlying4 _),trodAll_mk2 (k0 _ hnx) (k1 _ hnx),rfl,hnx.frame _,fun h=>by cases h⟩
theorem cop_said:Rows.MoveCopiesSaid:=
 OpenClaim.holds_of_wide 5 Tryz.f5 rfl rfl rfl rfl rfl rfl rfl ⟨rfl,rfl,rfl,rfl,rfl⟩ rfl rfl rfl rfl rfl (by kernel_rfl) Tryz.func5 (by kernel_rfl)
  (of_decide_eq_true (by kernel_rfl)) (by unfold Func.isWrapper;first|(rw[if_pos (by decide +kernel)];kernel_rfl)|(rw[if_neg (by decide +kernel)];exact⟨rfl,rfl⟩))
  (fun os started H enc _=>cop_lifted os started H enc)
theorem cop_plain (f:FuncId) (fn:Func) (hf:Tryz.pinned.checked.prog.funcNamed Tryz.f5.name=some f) (hfn:Tryz.pinned.checked.prog.funcs[f]? = some fn) :
  false=Tryz.pinned.checked.prog.looks []/\∀(j:Nat) t,fn.params[j]? = some t -> Tryz.pinned.checked.prog.wantsStandIn t=false:=by
 obtain rfl:f=5:=Option.some.inj ((show Tryz.prog.funcNamed Tryz.f5.name=some 5 by kernel_rfl).symm.trans hf) |>.symm
 obtain rfl:fn=Tryz.f5:=(Option.some.inj (Tryz.func5.symm.trans hfn)).symm
 refine⟨by kernel_rfl,fun j t ht=>?_⟩
 rw[Tryz.params5] at ht
 have hm:t∈[22,36]:=by simpa using Array.mem_of_getElem? ht
 have hall:([22,36].all fun u=>!Tryz.prog.wantsStandIn u)=true:=by kernel_rfl
 exact(show Tryz.prog.wantsStandIn t=false by simpa using List.all_eq_true.1 hall t hm)
theorem cop_card:Rows.MoveCopiesCardSaid:=
 Claim7.holds_tied_plain_at .later [] _ _ _ _ cop_said (fun _ h=>by cases h) (by kernel_rfl) (fun _ h=>by cases h) moveCopies_row_tie rfl ⟨rfl,rfl⟩ (by kernel_rfl) rfl cop_plain (by kernel_rfl)
#print axioms cop_card
end Go.Proofs.YtecjfnkakodebaaGreatDoor
