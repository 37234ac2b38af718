/-MoveApart: for every two lists of puts and every step, where what is r. -/
import Derived.Test.YtecjfnkakodebaaGreatDoorRmMoz
open Go.Proofs.Tryz
open Go.Value renaming int->O,slice->U,agg->T
open Go.IntKind renaming i64->I
open Bool renaming false->R,true->J
open Option renaming some->H,none->G
set_option maxRecDepth 100000
namespace Go.Proofs.YtecjfnkakodebaaGreatDoor
open Go.ChangeShapes Go.WideShapes Go.ChangeAt Go.RowKit Go.Deep
theorem jBD (os:Os)(started:os.Started)(ag:Type)(enc:TypeId×Value->ag)(FI:Stop.Interp):
 ReturnsInHanded {} checked os 4 .any (fun w args=>((Rows.OpenSpec.upto Rows.moveApartSpec).pre enc prog f4 [] R w args/\laidMetH prog T9 w)/\sizedMet enc prog f4 (Rows.OpenSpec.upto Rows.moveApartSpec) R w args)
  (((Rows.OpenSpec.upto Rows.moveApartSpec).at FI).post enc prog f4 R J R R):=by
 refine j6X (C:=checked) (s:=Rows.OpenSpec.upto Rows.moveApartSpec) (k:=Rows.uptoSmall) rfl (X:=fun w _=>laidMetH prog T9 w) (fun _ _ _ hh h=>h.of_heap hh) ownK started (by kernel_rfl) func4
  (OpenSpec.witness_laid (enc:=enc) (C:=checked) (os:=os) (s:=Rows.OpenSpec.upto Rows.moveApartSpec) (k:=Rows.uptoSmall) rfl (X:=fun w _=>laidMetH prog T9 w) R (World.laidAll prog os T9) #[U G 0 0,T #[O I 0,O I 0,O I 0,O I 0,O I 0,O I 0,O I 0,O I 0,O I 0],U G 0 0] 8 (World.laidAll_os _ _ _) (World.shaped_of_ZipB (by kernel_rfl) (by kernel_rfl)) (by kernel_rfl) (by kernel_rfl) (by kernel_rfl) (by rw[MakeChecks.laidMetH_plain _ _ _ (by kernel_rfl)];exact laidMet_laidAll _ (by kernel_rfl) (by kernel_rfl))) ?_
 intro W base args ds gs before hval0 hW _ hbulk hsized hL _;have hval:∀(j:Nat) t v,f4.params[j]? = H t->args[j]? = H v->Value.okWide prog W .any base t v:=hval0;have hW':=hW;obtain⟨p,q,hA0,hV,rfl,hfz,hnd⟩:=hW;have hA:DataW.TrodAll enc prog W 0 (fun _=>J) J f4.params.toList args.toList ds p:=hA0;rw[params4] at hA hval;obtain⟨v0,v1,v2,d0,d1,d2,p0,p1,p2,rfl,rfl,rfl,h0,h1,h2⟩:=trodAll_three hA;obtain⟨rfl,rfl⟩:=trodVars_none hV;have h0k:=h0;have h1k:=h1;have h2k:=h2;have hw:∀(j:Nat) (t:TypeId) (d:DataW ag),(f4.params.toList++(Rows.OpenSpec.upto Rows.moveApartSpec).bare.plain.varTypes prog)[j]? = H t->([d0,d1,d2]++([]:List (DataW ag)))[j]? = H d->∀n∈d.weights prog t,n<=reachBytes:=fun j t d ht hd n hn=>by
  have:=List.all_eq_true.1 hsized _ (DataW.weights_mem_each ht hd n hn)
  simpa using this
 have hb:Rows.uptoBulkAll ([d0,d1,d2]++([]:List (DataW ag)))<=1048576:=of_decide_eq_true hbulk;obtain⟨a0,l0,c0,rfl⟩:=okWide_slice underlying22 (hval 0 _ v0 rfl rfl);obtain⟨g0,f0⟩:=h0;have hb0:Rows.uptoBulk d0<=1048576:=by
  have hb2:Rows.uptoBulk d0<=Rows.uptoBulkAll ([d0,d1,d2]++([]:List (DataW ag))):=j05 (by simp);omega
 obtain⟨xl,hX0,hsm0⟩:=j3Y (x:=(d0,p0)) (by simpa [Value.cells] using f0) (hw 0 _ d0 rfl rfl) hb0;obtain⟨cs1,rfl,hsz1⟩:=okWide_struct underlying36 (hval 1 _ v1 rfl rfl);obtain⟨l1⟩:=cs1;have hl9:=hsz1.trans j4Z;obtain⟨g1,f1⟩:=h1;obtain⟨z,hz1,hz0⟩:=j68 (x:=(d1,p1)) hl9 (by simpa [Value.cells] using f1);subst hz1;obtain⟨a2,l2,c2,rfl⟩:=okWide_slice underlying22 (hval 2 _ v2 rfl rfl);obtain⟨g2,f2⟩:=h2;have hb2:Rows.uptoBulk d2<=1048576:=by
  have hb2:Rows.uptoBulk d2<=Rows.uptoBulkAll ([d0,d1,d2]++([]:List (DataW ag))):=j05 (by simp);omega
 obtain⟨ml,hX2,hsm2⟩:=j3Y (x:=(d2,p2)) (by simpa [Value.cells] using f2) (hw 2 _ d2 rfl rfl) hb2;clear hA0 hval0;simp only[List.append_nil] at hW';have hlt:∀x∈p0++(p1++p2),x.block<W.heap.size:=fun x hx=>by
  have:=hW'.lt x (by simpa using hx)
  simpa using this
 have k0:=fun (W':World) (hn:Below W.heap.size W W')=>Below.trod j1L (by kernel_rfl) (of_decide_eq_true (by kernel_rfl)) h0k hn (fun x hx=>hlt x (by simp[hx]))
 have k1:=fun (W':World) (hn:Below W.heap.size W W')=>Below.trod j1L (by kernel_rfl) (of_decide_eq_true (by kernel_rfl)) h1k hn (fun x hx=>hlt x (by simp[hx]))
 have k2:=fun (W':World) (hn:Below W.heap.size W W')=>Below.trod j1L (by kernel_rfl) (of_decide_eq_true (by kernel_rfl)) h2k hn (fun x hx=>hlt x (by simp[hx]))
 refine(j8r _ _ xl ml z W hX0 hsm0 hX2 hsm2 hz0 (j7O (j76 hL))).mono ?_;rintro e W' ⟨rfl,hk⟩;have hnx:=hk.below;exact⟨_,rfl,_,_,_,[],_,[],hW',trodAll_mk1 (shut_bool underlying4 _),trodAll_mk3 (k0 _ hnx) (k1 _ hnx) (k2 _ hnx),rfl,hnx.frame _,fun h=>by cases h⟩
theorem jBF:Rows.MoveApartUptoSaid:=
 OpenClaim.holds_of_cond 4 f4 rfl rfl rfl rfl rfl rfl rfl ⟨rfl,rfl,rfl,rfl,rfl⟩ rfl rfl rfl rfl rfl (by kernel_rfl) func4 (by kernel_rfl)
  (of_decide_eq_true (by kernel_rfl)) (by unfold Func.isWrapper;first|(rw[if_pos (by decide +kernel)];kernel_rfl)|(rw[if_neg (by decide +kernel)];exact⟨rfl,rfl⟩))
  (fun os started ag enc _ FI=>jBD os started ag enc FI)
theorem jBE (f:FuncId)(fn:Func)(hf:Tryz.pinned.checked.prog.funcNamed f4.name=H f)(hfn:Tryz.pinned.checked.prog.funcs[f]? = H fn):
 R=Tryz.pinned.checked.prog.looks []/\∀(j:Nat) t,fn.params[j]? = H t -> Tryz.pinned.checked.prog.wantsStandIn t=R:=by
 obtain rfl:f=4:=Option.some.inj ((show prog.funcNamed f4.name=H 4 by kernel_rfl).symm.trans hf) |>.symm;obtain rfl:fn=f4:=(Option.some.inj (func4.symm.trans hfn)).symm;refine⟨by kernel_rfl,fun j t ht=>?_⟩;rw[params4] at ht;have hm:t∈[22,36,22]:=by simpa using Array.mem_of_getElem? ht
 have hall:([22,36,22].all fun u=>!prog.wantsStandIn u)=J:=by kernel_rfl
 exact(show prog.wantsStandIn t=R by simpa using List.all_eq_true.1 hall t hm)
theorem mapart_card:Rows.MoveApartUptoCardSaid:=
 Claim7.holds_tied_plain_at .later [] _ _ _ _ jBF (fun _ h=>by cases h) (by kernel_rfl) (fun _ h=>by cases h) moveApartUpto_row_tie rfl ⟨rfl,rfl⟩ (by kernel_rfl) rfl jBE (by kernel_rfl)
#print axioms mapart_card
end Go.Proofs.YtecjfnkakodebaaGreatDoor
