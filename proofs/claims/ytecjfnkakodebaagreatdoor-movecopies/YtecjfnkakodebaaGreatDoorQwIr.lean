/-In, All: what they tell. -/
import Derived.Test.YtecjfnkakodebaaGreatDoorQwIg
import Derived.Test.YtecjfnkakodebaaGreatDoorQwUp
set_option maxHeartbeats 16000000
set_option maxRecDepth 100000
namespace Go.Proofs.YtecjfnkakodebaaGreatDoor
open Go.RowKit Go.Maps Go.Sort Go.Lib Go.Shelf
attribute [local go_sem] Oper.semAt_some
section
variable {n:Nat} {P:Program} {md:Region.Mode} {ops:Array Oper} {Q:Exit->Act->World->Prop} {fuel:Nat} {listed:Array Bool} {a:Act} {w w':World}
theorem any_val {i:Nat} {o:Oper} {v:Value} (d:Option Tmp) (ho:ops[i]? = some o) (hd:o.dst=d) (hg:o.guard=none) (hab:o.about P w a.eval=none) (hpl:∀c,o.op ≠ .defer c) (he:(execOp a.eval o).run P w=.ok (.value v) w')
  (h:wpAnyIn Fence.wide n P md ops Q fuel (listed.setIfInBounds i true) (a.put d v) w'):wpOpIn Fence.wide n P ops Q i (wpAnyIn Fence.wide n P md ops Q fuel (listed.setIfInBounds i true)) a w:=by
 subst hd
 refine wpOpIn_step ho fun K hK=>?_
 simp only[Region.wanted,hg,if_true]
 unfold Oper.wpIn
 refine⟨by simp[hab],?_⟩
 rw[Oper.semAt_plain Fence.wide _ _ (fun c hc'=>hpl c hc'),he]
 exact hK _ _ h
theorem any_call {i:Nat} {o:Oper} {f:FuncId} {args:Array Value} (d:Option Tmp) (ho:ops[i]? = some o) (hd:o.dst=d) (hg:o.guard=none) (hn:1<=n) (hpl:∀c,o.op ≠ .defer c) (he:(execOp a.eval o).run P w=.ok (.enter f args) w')
  (h:Calls P f args w' fun e w2=>∃v,e=.returned v/\wpAnyIn Fence.wide n P md ops Q fuel (listed.setIfInBounds i true) (a.put d v) w2):wpOpIn Fence.wide n P ops Q i (wpAnyIn Fence.wide n P md ops Q fuel (listed.setIfInBounds i true)) a w:=by
 subst hd
 refine wpOpIn_step ho fun K hK=>?_
 simp only[Region.wanted,hg,if_true]
 unfold Oper.wpIn
 refine⟨fun _ _=>trivial,?_⟩
 rw[Oper.semAt_plain Fence.wide _ _ (fun c hc'=>hpl c hc'),he]
 refine⟨fun _=>hn,(callsIn_wide.2 h).mono ?_⟩
 rintro e w2 ⟨v,rfl,h2⟩
 exact hK _ _ h2
theorem any_round {i:Nat} {o:Oper} {l f:Nat} {tms:Array Value} {asg bod:Code} (d:Option Tmp) (ho:ops[i]? = some o) (hd:o.dst=d) (hg:o.guard=none) (hn:1<=n) (hpl:∀c,o.op ≠ .defer c) (he:(execOp a.eval o).run P w=.ok (.round l f tms asg bod) w')
  (h:RoundIn Fence.wide (n-1) P l f tms asg bod w' fun e w2=>∃v,e=.returned v/\wpAnyIn Fence.wide n P md ops Q fuel (listed.setIfInBounds i true) (a.put d v) w2):wpOpIn Fence.wide n P ops Q i (wpAnyIn Fence.wide n P md ops Q fuel (listed.setIfInBounds i true)) a w:=by
 subst hd
 refine wpOpIn_step ho fun K hK=>?_
 simp only[Region.wanted,hg,if_true]
 unfold Oper.wpIn
 refine⟨fun _ _=>trivial,?_⟩
 rw[Oper.semAt_plain Fence.wide _ _ (fun c hc'=>hpl c hc'),he]
 refine⟨fun _=>hn,h.mono ?_⟩
 rintro e w2 ⟨v,rfl,h2⟩
 exact hK _ _ h2
end
end Go.Proofs.YtecjfnkakodebaaGreatDoor
namespace Go.Proofs.YtecjfnkakodebaaGreatDoor
open Go.RowKit Go.Maps Go.Sort Go.Lib Go.Shelf
attribute [local go_sem] Oper.semAt_some
theorem loadIn_put {F:Fence} {n:Nat} {ops:Array Oper} {rest:List Oper} {o:Oper} {a:Act} {w:World} {Q:Exit->Act->World->Prop} (hgd:Region.wanted o (yielded ops a.tmps)=true) (x:Operand) (ho:o.op=.load 52 x) (b p:Nat) (hx:a.eval x=.pointer (some ⟨b,p,none⟩)) (cs:List Value) (hc:w.rangeAt b p cs) (hcs:cs.length=23)
  (h:wpListIn F n Tryz.prog ops Q rest (a.put o.dst (.agg cs.toArray)) w):wpListIn F n Tryz.prog ops Q (o::rest) a w:=by
 refine wpInV hgd (by simp[Oper.about,ho]) (fun c hc'=>by rw[ho] at hc';cases hc') ?_ h
 unfold execOp
 simp only[ho,hx,Instr.loadAt,Instr.sureAddr,Sem.run_bind,Sem.run_pure,Result.andThen_ok,run_loadVar_mid w b p 52 cs _ hc Tryz.underlying52 rfl (by rw[hcs];exact infoPut)]
theorem storeIn_new' {F:Fence} {n:Nat} {ops:Array Oper} {rest:List Oper} {o:Oper} {a:Act} {Q:Exit->Act->World->Prop} (hgd:Region.wanted o (yielded ops a.tmps)=true) (ty:TypeId) (x y:Operand) (ho:o.op=.store ty x y) (w:World) (z cells:Array Value) (N:Nat) (hN:N=w.heap.size) (hx:a.eval x=.pointer (some ⟨N,0,none⟩)) (hy:a.eval y=.agg cells)
  (hz:z.size=cells.size) (hi:(Tryz.prog.info? ty).map (·.size)=some cells.size) (h1:cells.all (·.oneCell')=true)
  (h:wpListIn F n Tryz.prog ops Q rest (a.put o.dst undef) (w.alloc (.cells cells ty))):wpListIn F n Tryz.prog ops Q (o::rest) a (w.alloc (.cells z ty)):=by
 subst hN
 have ht:(w.alloc (.cells z ty)).there w.heap.size 0 cells.size:=by
  intro j hj
  constructor
  ·rw[World.cell?_alloc_at _ _ _ _ rfl,Array.getElem?_eq_getElem (by omega)];rfl
  ·rw[frozen?_alloc_cells,frozen_new]
 have hs:=run_storeVar_mid (P:=Tryz.prog) (w.alloc (.cells z ty)) w.heap.size 0 ty cells ht hi h1
 refine wpInS hgd (by simp[Oper.about,ho]) (fun c hc'=>by rw[ho] at hc';cases hc') ?_ h
 unfold execOp
 simp only[ho,hx,hy,Instr.storeAt,Instr.sureAddr,Sem.run_bind,Sem.run_pure,Result.andThen_ok,hs]
 rw[setCells_new w ty z cells hz]
theorem same_in_order {K K':List Cc} (h:Strict (K.map (·.1))) (h':Strict (K'.map (·.1))) (hm:∀x,x∈K↔x∈K'):K=K':=
 sorted_same (lt:=fun x y:Cc=>ltOf cfA x.1 y.1) (fun x=>swoA.irrefl x.1) (fun x y z=>swoA.trans x.1 y.1 z.1) (List.pairwise_map.1 h) (List.pairwise_map.1 h') hm
abbrev encP (x:Cc×Value):Array Value:=#[.agg #[.int .i64 x.1.1.1,.int .i64 x.1.1.2],.agg (x.1.2.cells x.2).toArray]
theorem regIn_noPanic {F:Fence} {n:Nat} {P:Program} {id:Nat} {ops:Array Oper} {b:Bool} {Q:Exit->Act->World->Prop} {a:Act} {w:World} (h:(Code.region id ops b).wpIn F n P (NoPanic Q) a w):(Code.region id ops b).wpIn F n P Q a w:=
 wpIn_mono h NoPanic.imp
theorem any_take {n:Nat} {P:Program} {md:Region.Mode} {ops:Array Oper} {Q:Exit->Act->World->Prop} {fuel:Nat} {listed:Array Bool} {a:Act} {w:World} {i:Nat} {oi:Oper} (v:Value) (d:Option Tmp) (hi:ops[i]? = some oi) (hd:oi.dst=d) (hs:Region.noSelect ops=true) (hf:Region.free md ops listed i=true) (hr:(Region.ready md ops listed).contains i=true)
  (hQ:∀c a w,Q (.panic c) (a.put d v) w->Q (.panic c) a w) (hw:Region.wanted oi (yielded ops a.tmps)=true) (hab:∀w,oi.about P w a.eval=none) (hy:∀w,(execOp a.eval oi).run P w=.ok (.value v) w)
  (h:wpAnyIn Fence.wide n P md ops Q fuel (listed.setIfInBounds i true) (a.put d v) w):wpAnyIn Fence.wide n P md ops Q (fuel+1) listed a w:=by
 subst hd
 exact wpAnyIn_take rfl hi hs hf hr hQ ⟨.inl ⟨hw,hy⟩,hab⟩ h
theorem exec_load_row {o:Oper} {ρ:Operand->Value} {w:World} (ty:TypeId) (x:Operand) (ho:o.op=.load ty x) (b p:Nat) (hx:ρ x=.pointer (some ⟨b,p,none⟩)) (cs:List Value) (d:TypeDesc) (hc:w.rangeAt b p cs) (hu:Tryz.prog.underlying ty=some d) (hd:d.isRow=true) (hi:(Tryz.prog.info? ty).map (·.size)=some cs.length) :
  (execOp ρ o).run Tryz.prog w=.ok (.value (.agg cs.toArray)) w:=by
 unfold execOp
 simp only[ho,hx,Instr.loadAt,Instr.sureAddr,Sem.run_bind,Sem.run_pure,Result.andThen_ok,run_loadVar_mid w b p ty cs d hc hu hd hi]
structure InR (W:World) (A b:Nat) (ys:List (Cc×Value)) (Z:Nat->Prop) (wr:World):Prop where
 nz:¬Z b
 rng:∀i y,ys[i]? = some y->wr.rangeAt b (i*23) (ptCells y.1 y.2)
 tree:∀y∈ys,NdIn wr (fun i=>i<A) y.2 y.1.2.t
 size:W.heap.size<=wr.heap.size
end Go.Proofs.YtecjfnkakodebaaGreatDoor
namespace Go.Proofs.YtecjfnkakodebaaGreatDoor
open Go.RowKit Go.Maps Go.Sort Go.Lib
theorem in_at (g:Nat) (w:World):Calls Tryz.prog 54 #[.pointer (some ⟨g,0,none⟩),.agg #[.int .i64 1,.int .i64 1,.int .i64 256,.int .i64 4096]] w fun e w'=>∃x0 x1,e=.returned (.func (.func 97) #[] #[.pointer (some ⟨x0,0,none⟩),.pointer (some ⟨x1,0,none⟩)])/\Blk w' x0 [.pointer (some ⟨g,0,none⟩)] 24/\Blk w' x1 [.int .i64 1,.int .i64 1,.int .i64 256,.int .i64 4096] 34/\Kp w w' Nul:=by
 obtain⟨W,hW⟩:∃W,(w.alloc (.cells #[.pointer (some ⟨g,0,none⟩)] 24)).alloc (.cells #[.int .i64 1,.int .i64 1,.int .i64 256,.int .i64 4096] 34)=W:=⟨_,rfl⟩
 have HW:Hid ((w.alloc (.cells #[.pointer (some ⟨g,0,none⟩)] 24)).alloc (.cells #[.int .i64 1,.int .i64 1,.int .i64 256,.int .i64 4096] 34)=W):=hW
 have HK:Hid (Kp w W Nul):=by show Kp w W Nul;rw[<- hW];exact((Kp.refl w Nul).alloc _).alloc _
 have HB0:Hid (Blk W w.heap.size [.pointer (some ⟨g,0,none⟩)] 24):=by show Blk _ _ _ _;rw[<- hW];exact(Blk.new w [.pointer (some ⟨g,0,none⟩)] _).alloc _
 have HB1:Hid (Blk W (w.heap.size+1) [.int .i64 1,.int .i64 1,.int .i64 256,.int .i64 4096] 34):=by
  have:=Blk.new (w.alloc (.cells #[.pointer (some ⟨g,0,none⟩)] 24)) [.int .i64 1,.int .i64 1,.int .i64 256,.int .i64 4096] 34
  rw[World.size_alloc] at this
  show Blk _ _ _ _
  rw[<- hW];exact this
 clear hW
 go_enter Tryz.func54,Tryz.ntmps54
 go_wp2_with fail
 rw[HW.out]
 go_ret
 exact⟨_,_,rfl,HB0.out,HB1.out,HK.out⟩
theorem all_at (g:Nat) (w:World):Calls Tryz.prog 34 #[.pointer (some ⟨g,0,none⟩)] w fun e w'=>∃x0 x1,e=.returned (.func (.func 97) #[] #[.pointer (some ⟨x0,0,none⟩),.pointer (some ⟨x1,0,none⟩)])/\Blk w' x0 [.pointer (some ⟨g,0,none⟩)] 24/\Blk w' x1 [.int .i64 1,.int .i64 1,.int .i64 256,.int .i64 4096] 34/\Kp w w' Nul:=by
 have H:Hid (Calls Tryz.prog 54 #[.pointer (some ⟨g,0,none⟩),.agg #[.int .i64 1,.int .i64 1,.int .i64 256,.int .i64 4096]] w fun e w'=>∃x0 x1,e=.returned (.func (.func 97) #[] #[.pointer (some ⟨x0,0,none⟩),.pointer (some ⟨x1,0,none⟩)])/\Blk w' x0 [.pointer (some ⟨g,0,none⟩)] 24/\Blk w' x1 [.int .i64 1,.int .i64 1,.int .i64 256,.int .i64 4096] 34/\Kp w w' Nul):=in_at g w
 go_enter Tryz.func34,Tryz.ntmps34
 go_wp2_with fail
 refine H.out.mono ?_
 rintro e w1 ⟨x0,x1,rfl,h1,h2,h3⟩
 have HE:Hid (Blk w1 x0 [.pointer (some ⟨g,0,none⟩)] 24/\Blk w1 x1 [.int .i64 1,.int .i64 1,.int .i64 256,.int .i64 4096] 34/\Kp w w1 Nul):=⟨h1,h2,h3⟩
 clear h1 h2 h3 H
 go_wp2_with fail
 go_ret
 exact⟨_,_,rfl,HE.out⟩
structure Ok17 (L:List Cc):Prop where
 gd:∀x∈L,Gd x.2
 at':∀x∈L,vC x.1.1 x.1.2=true
 len:L.length<=4096
theorem Ok17.nil:Ok17 []:=⟨fun x h=>by simp at h,fun x h=>by simp at h,by simp⟩
theorem Ok17.okC {L:List Cc} (h:Ok17 L):OkC L:=fun x hx=>⟨(h.gd x hx).x,(h.gd x hx).ok⟩
theorem Ok17.put {L:List Cc} (h:Ok17 L) (ho:L.Pairwise (fun x y=>x.1≠y.1)) {c r:Int} {ct:Ct} (hx:vC c r=true) (hg:Gd ct) (hroom:L.length<4096∨∃c',((c,r),c')∈L):Ok17 (putL L (c,r) ct):=by
 refine⟨fun x hx'=>?_,fun x hx'=>?_,?_⟩
 ·rcases(putL_mem x).1 hx' with rfl|h1
  ·exact hg
  ·exact h.gd x h1.1
 ·rcases(putL_mem x).1 hx' with rfl|h1
  ·exact hx
  ·exact h.at' x h1.1
 ·by_cases hin:∃c',((c,r),c')∈L
  ·rw[putL_in ho hin];exact h.len
  ·have hno:∀c',((c,r),c')∉L:=fun c' q=>hin ⟨c',q⟩
   rw[putL_out hno]
   rcases hroom with h1|h1
   ·omega
   ·exact absurd h1 hin
theorem Ok17.del {L:List Cc} (h:Ok17 L) (k:Int×Int):Ok17 (delL L k):=
 ⟨fun x hx=>h.gd x ((delL_mem x).1 hx).1,fun x hx=>h.at' x ((delL_mem x).1 hx).1,Nat.le_trans (List.length_filter_le _ _) h.len⟩
structure PutR (L:List Cc) (c r:Int) (ct:Ct) (er:Int) (L':List Cc):Prop where
 ok:Ok17 L'
 put:vC c r=true->gv ct=true->ct.k≠0->(L.length<4096∨∃c',((c,r),c')∈L)->er=0/\L'=putL L (c,r) (cpC ct)
 del:vC c r=true->gv ct=true->ct.k=0->er=0/\L'=delL L (c,r)
theorem put_any (G:Nat->Prop) (g:Nat) (c r:Int) (ct:Ct) (sl:Value) (F:Nat->Prop) (L:List Cc) (w:World) (hG:GridIn w G g L) (hnew:∀i,w.heap.size<=i->G i) (hL:Ok17 L) (hok:ct.t.ok) (hx:ct.v.x<18446744073709551616) (hs:ct.t.size<=1048576) (hin:NdIn w F sl ct.t) (U:VS w) :
  Calls Tryz.prog 11 #[.pointer (some ⟨g,0,none⟩),.agg #[.int .i64 c,.int .i64 r],ct.val sl] w fun e w'=>∃er L',e=.returned (.int .i64 er)/\GridIn w' G g L'/\PutR L c r ct er L'/\Km g w w':=by
 have h:GI 0 w g L:=GridIn.mono hG (fun _ _=>Nat.zero_le _)
 obtain⟨mv,bg⟩:=h.blk
 have hval:∀V,gv ct=V->∀wq,Kp w wq Nul->Calls Tryz.prog 43 #[ct.val sl] wq fun e w'=>e=.returned (.bool V)/\Kp wq w' Nul:=fun V hV wq k=>by subst hV;exact gv_at ct sl F wq hok (hin.kp k (fun _ _ x=>x)) (U.kp k)
 have hcp:∀wq,Kp w wq Nul->Calls Tryz.prog 47 #[ct.val sl] wq fun e w'=>∃sl' fp,e=.returned ((cpC ct).val sl')/\Own w' wq.heap.size sl' (cpC ct).t fp/\Kp wq w' Nul:=fun wq k=>(gCopy_at ct sl F wq hx hs hok (hin.kp k (fun _ _ x=>x))).mono (by
  rintro e w' ⟨sl',fp,h1,h2,h3⟩
  exact⟨sl',fp,h1,h2,Kp.of_below h3⟩)
 have hno:∀er w',Kp w w' Nul->(vC c r=true->gv ct=true->False)->∃er' L',Ending.returned (.int .i64 er)=.returned (.int .i64 er')/\GridIn w' G g L'/\PutR L c r ct er' L'/\Km g w w':=fun er w' k hf=>⟨er,L,rfl,hG.kp k,⟨hL,fun h1 h2=>(hf h1 h2).elim,fun h1 h2=>(hf h1 h2).elim⟩,Km.of_nul k bg.lt⟩
 cases hV:gv ct with
 | false=>
  refine(put_no g c r ct sl false w (fun e=>by cases e) (hval false hV)).mono ?_
  rintro e w' ⟨rfl,k⟩
  exact hno _ w' k (fun _ h2=>by rw[hV] at h2;cases h2)
 | true=>
  cases hC:vC c r with
  | false=>
   refine(put_no g c r ct sl true w (fun _=>hC) (hval true hV)).mono ?_
   rintro e w' ⟨rfl,k⟩
   exact hno _ w' k (fun h1 _=>by rw[hC] at h1;cases h1)
  | true=>
   by_cases hk:ct.k=0
   ·refine(put_dm G g c r hC ct hk sl L w hG (hval true hV)).mono ?_
    rintro e w' ⟨rfl,h1,h2⟩
    exact⟨0,_,rfl,h1,⟨hL.del _,fun _ _ h=>absurd hk h,fun _ _ _=>⟨rfl,rfl⟩⟩,h2⟩
   ·by_cases hroom:L.length<4096∨∃c',((c,r),c')∈L
    ·refine(put_m G g c r hC ct hk sl L w h hG hnew hL.len hroom (hval true hV) hcp).mono ?_
     rintro e w' ⟨rfl,h1,h2⟩
     exact⟨0,_,rfl,h1,⟨hL.put h.once hC (Gd.of hV hk hok hx hs) hroom,fun _ _ _ _=>⟨rfl,rfl⟩,fun _ _ h=>absurd h hk⟩,h2⟩
    ·have hfull:4096<=L.length:=by
      rcases Nat.lt_or_ge L.length 4096 with q|q
      ·exact absurd (.inl q) hroom
      ·exact q
     refine(put_full 0 g c r hC ct hk sl L w h hfull (fun c' q=>hroom (.inr ⟨c',q⟩)) (hval true hV)).mono ?_
     rintro e w' ⟨rfl,k⟩
     exact⟨41,L,rfl,hG.kp k,⟨hL,fun _ _ _ q=>absurd q hroom,fun _ _ q=>absurd q hk⟩,Km.of_nul k bg.lt⟩
end Go.Proofs.YtecjfnkakodebaaGreatDoor
namespace Go.Proofs.YtecjfnkakodebaaGreatDoor
open Go.RowKit Go.Maps Go.Sort Go.Lib
def pkf (c m:Int):Nat:=if c<0 then ((-(c+1))%m).toNat else (c%m).toNat
theorem pkf_val (c m:Int) (h1:1<=m):(pkf c m:Int)=(if c<0 then (-(c+1))%m else c%m)/\(pkf c m:Int)<m:=by
 have hm0:m≠0:=by omega
 unfold pkf
 by_cases h:c<0
 ·have e1:=Int.emod_nonneg (-(c+1)) hm0
  have e2:=Int.emod_lt_of_pos (-(c+1)) (b:=m) (by omega)
  rw[if_pos h,if_pos h];omega
 ·have e1:=Int.emod_nonneg c hm0
  have e2:=Int.emod_lt_of_pos c (b:=m) (by omega)
  rw[if_neg h,if_neg h];omega
section
variable {α:Type}
end
theorem same_eqC {L M:List Cc} (hL:L.Pairwise (fun x y=>x.1≠y.1)) (hM:M.Pairwise (fun x y=>x.1≠y.1)) (h:∀x,x∈L↔x∈M):EqC L M:=by
 have nL:L.Nodup:=hL.imp (fun {x y} q e=>q (by rw[e]))
 have nM:M.Nodup:=hM.imp (fun {x y} q e=>q (by rw[e]))
 refine⟨(List.Perm.length_eq ((List.perm_ext_iff_of_nodup nL nM).2 h)),fun k a hk=>⟨a,(h _).1 hk,csame_refl a⟩⟩
end Go.Proofs.YtecjfnkakodebaaGreatDoor
namespace Go.Proofs.YtecjfnkakodebaaGreatDoor
open Go.RowKit Go.Maps Go.Sort Go.Lib
theorem pt_parts {w:World} {b o:Nat} {c s:Int} {a:Ct} {sa:Value} (h:w.rangeAt b o (ptCells ((c,s),a) sa)):w.rangeAt b o [.int .i64 c,.int .i64 s]/\w.rangeAt b (o+2) (a.cells sa):=by
 refine⟨fun j v hj=>h j v ?_,fun j v hj=>?_⟩
 ·match j,hj with
  | 0,hj=>exact hj
  | 1,hj=>exact hj
 ·have:=h (2+j) v (by rw[Nat.add_comm 2 j];exact hj)
  rw[<- Nat.add_assoc] at this
  exact this
structure PutsIn (w:World) (v:Value) (xs:List (Cc×Value)):Prop where
 sl:∃a c,v=.slice a xs.length c/\(0<xs.length->∃b o,a=some ⟨b,o,none⟩/\∀(i:Nat) y,xs[i]? = some y->w.rangeAt b (o+i*23) (ptCells y.1 y.2))
 len:xs.length<=maxLen
 cn:∀y∈xs,Cn w y.1.2 y.2
end Go.Proofs.YtecjfnkakodebaaGreatDoor
namespace Go.Proofs.YtecjfnkakodebaaGreatDoor
open Go.RowKit Go.Maps Go.Sort Go.Lib Go.Shelf
theorem wpListIn_append_tell {F:Fence} {n:Nat} {P:Program} (w:World) {ops:Array Oper} {rest:List Oper} {o:Oper} {a:Act} {Q:Exit->Act->World->Prop}
  (hg:o.guard=none) (s x:Operand) (t:TypeId) (hop:o.op=Op.call { callee:=Callee.builtin Builtin.append,args:=#[s,x],argTypes:=#[t,t] })
  (base:Nat) (e:TypeId) (i:TypeInfo) (z:Value) (size bytes:Nat) (h1:P.underlying t=some (.slice e)) (h2:P.info? e=some i) (h3:i.zero=some z) (h4:i.size=size) (h5:i.bytes=bytes) (h6:z.cells.size=size) (h7:0<size)
  (v:Value) (k:Nat) (xs:List Value) (hs:a.eval s=v) (hown:w.ownsRow base e size v k xs) (ad:Addr) (m c:Nat) (news:List Value) (hx:a.eval x=.slice (some ad) m c) (hn:news.length=m*size)
  (hc:∀j u,news[j]? = some u->w.cell? (ad.add j)=some u) (h1c:∀u∈news,u.oneCell'=true) (hm:0<m) (b1:k+m<=maxLen) (b2:(k+m)*bytes<=140737488355328) (b3:base<=w.heap.size)
  (hK:∀g c' w',w'.ownsRow base e size (.slice (some ⟨g,0,none⟩) (k+m) c') (k+m) (xs++news)->w.grownBy w' v.ownBlock->(v.ownBlock=some g∨w.heap.size<=g)->wpListIn F n P ops Q rest (a.put o.dst (.slice (some ⟨g,0,none⟩) (k+m) c')) w') :
  wpListIn F n P ops Q (o::rest) a w:=by
 refine wpListIn_plain hg fun K hK'=>?_
 obtain⟨g,c',w',hrun,r1,r2,r3⟩:=run_append_tell (P:=P) w base t o.type e i z size bytes h1 h2 h3 h4 h5 h6 h7 v k xs hown ad m c news hn hc h1c hm b1 b2 b3
 unfold Oper.wpIn
 refine⟨?_,?_⟩
 ·simp[Oper.about,hop,resolve,Target.leads,Sem.run_pure]
 ·rw[Oper.semAt_plain F _ _ (by rw[hop];intro c hc';cases hc')]
  simp[execOp,hop,resolve,invoke,builtin,hs,hx,hrun,Result.andThen]
  exact hK' _ _ (hK g c' w' r1 r2 r3)
theorem storeIn_var {F:Fence} {n:Nat} {ops:Array Oper} {rest:List Oper} {o:Oper} {a:Act} {w:World} {Q:Exit->Act->World->Prop} (hgd:Region.wanted o (yielded ops a.tmps)=true) (ty:TypeId) (x y:Operand) (ho:o.op=.store ty x y)
  (b:Nat) (hx:a.eval x=.pointer (some ⟨b,0,none⟩)) (v:Value) (hy:a.eval y=v) (h1:v.oneCell'=true) (t:TypeId) (old:Value) (hb:Blk w b [old] t) (hi:(Tryz.prog.info? ty).map (·.size)=some 1)
  (h:∀W,Blk W b [v] t->Kp w W (fun i=>i=b)->wpListIn F n Tryz.prog ops Q rest (a.put o.dst undef) W):wpListIn F n Tryz.prog ops Q (o::rest) a w:=by
 subst hy
 refine wpInS hgd (by simp[Oper.about,ho]) (fun c hc'=>by rw[ho] at hc';cases hc') (w':=w.setRow b #[a.eval y]) ?_ (h _ (setRow_heap w b #[old] #[a.eval y] t (0,0) hb) ?_)
 ·unfold execOp
  simp only[ho,hx,Instr.storeAt,Instr.sureAddr,Sem.run_bind,Sem.run_pure,Result.andThen_ok,run_storeVar_one w b t ty old _ hb hi h1]
 ·refine⟨rfl,rfl,rfl,?_,fun i _ hn=>?_⟩
  ·unfold World.setRow;simp
  ·unfold World.setRow
   simp only[Array.getElem?_modify]
   rw[if_neg (fun e=>hn e.symm)]
theorem in_order {L:List Cc} (h:L.Pairwise (fun x y=>x.1≠y.1)):∃K:List Cc,Strict (K.map (·.1))/\∀x,x∈K↔x∈L:=by
 refine⟨L.mergeSort (fun x y=>!(ltOf cfA) y.1 x.1),?_,fun x=>List.mem_mergeSort⟩
 rw[List.map_mergeSort (s:=fun x y=>!(ltOf cfA) y x) (fun a _ b _=>rfl)]
 exact merge_strict (List.pairwise_map.2 h)
end Go.Proofs.YtecjfnkakodebaaGreatDoor
namespace Go.Proofs.YtecjfnkakodebaaGreatDoor
open Go.RowKit Go.Maps Go.Sort Go.Lib Go.Shelf
attribute [local go_sem] Oper.semAt_some
def wdA (a b:Int):Nat:=(b-a+1).toNat
def cK (m1 m2 m3:Int) (k:Nat):Int×Int:=(m1+(k%wdA m1 m3:Nat),m2+(k/wdA m1 m3:Nat))
def szN (m1 m2 m3 m4:Int):Nat:=if vA m1 m2 m3 m4=true then wdA m2 m4*wdA m1 m3 else 0
theorem cK_at (m1 m2 m3:Int) (x y:Nat) (hx:x<wdA m1 m3):cK m1 m2 m3 (y*wdA m1 m3+x)=(m1+(x:Int),m2+(y:Int)):=by
 have h1:(y*wdA m1 m3+x)%wdA m1 m3=x:=by rw[Nat.mul_comm,Nat.mul_add_mod,Nat.mod_eq_of_lt hx]
 have h2:(y*wdA m1 m3+x)/wdA m1 m3=y:=by rw[Nat.mul_comm,Nat.mul_add_div (by omega),Nat.div_eq_of_lt hx,Nat.add_zero]
 unfold cK
 rw[h1,h2]
theorem idx_lt {x y u v:Nat} (hx:x<u) (hy:y<v):y*u+x<v*u:=by
 have:(y+1)*u<=v*u:=Nat.mul_le_mul_right u hy
 rw[Nat.add_mul,Nat.one_mul] at this
 omega
abbrev encXA (x:Int×Int):Array Value:=#[.agg #[.int .i64 x.1,.int .i64 x.2]]
def TellA (m1 m2 m3:Int) (k:Nat) (x:Int×Int) (_:Nat->Prop) (_:World):Prop:=x=cK m1 m2 m3 k
theorem cellsA (a b c d:Int) (w:World):Calls Tryz.prog 36 #[.agg #[.int .i64 a,.int .i64 b,.int .i64 c,.int .i64 d]] w fun e w'=>∃p,e=.returned (.func (.func 69) #[] #[.pointer (some ⟨p,0,none⟩)])/\w.heap.size<=p/\Blk w' p [.int .i64 a,.int .i64 b,.int .i64 c,.int .i64 d] 34/\Kp w w' Nul:=by
 go_enter Tryz.func36,Tryz.ntmps36
 go_wp2_with fail
 go_ret
 exact⟨_,rfl,Nat.le_refl _,Blk.new w _ _,(Kp.refl _ _).alloc _⟩
theorem res_noneI {fn:Func} (h:fn.results=#[]) (tmps:Array Value) (w:World):(results fn tmps).run Tryz.prog w=.ok (.tuple #[]) w:=by
 simp[results,h]
theorem cells_own (m1 m2 m3 m4:Int) (Bn:Nat) (w:World) (hB:Blk w Bn [.int .i64 m1,.int .i64 m2,.int .i64 m3,.int .i64 m4] 34) (S:Nat->Prop) (hS:¬S Bn):SeqOwn Tryz.prog 69 #[.pointer (some ⟨Bn,0,none⟩)] encXA (TellA m1 m2 m3) (szN m1 m2 m3 m4) S w:=by
 intro J Z W hkW hsz hJ hJZ hY h0
 obtain⟨V,hV⟩:∃V,vA m1 m2 m3 m4=V:=⟨_,rfl⟩
 have HV:Hid (∀w,Calls Tryz.prog 58 #[.agg #[.int .i64 m1,.int .i64 m2,.int .i64 m3,.int .i64 m4]] w fun e w'=>e=.returned (.bool V)/\Kp w w' Nul):=fun w=>(pValidArea_any m1 m2 m3 m4 w).mono fun e w' h=>⟨hV ▸ h.1,Kp.of_gr h.2⟩
 have hBlt:Bn<w.heap.size:=hB.lt
 have HBk:Hid (∀k Z W1 W',J k Z W1->Kp W1 W' (fun i=>Z i∨i=w.heap.size+1)->Blk W1 Bn [.int .i64 m1,.int .i64 m2,.int .i64 m3,.int .i64 m4] 34->Blk W' Bn [.int .i64 m1,.int .i64 m2,.int .i64 m3,.int .i64 m4] 34):=fun k Z W1 W' hj hk hb=>hb.kp hk (fun e=>by
  rcases e with e|e
  ·exact hS ((hJZ _ _ _ hj).2 _ hBlt e)
  ·omega)
 have HB:Hid (Blk W Bn [.int .i64 m1,.int .i64 m2,.int .i64 m3,.int .i64 m4] 34):=hB.kp hkW (fun x=>x)
 have HJ:Hid (∀k Z W W',J k Z W->Kp W W' Nul->J k Z W'):=hJ
 have HJ0:Hid (J 0 Z W):=h0
 have HY:Hid (∀m k x Z W1,k<szN m1 m2 m3 m4->J k Z W1->TellA m1 m2 m3 k x Z W1->YieldAt Fence.wide m Tryz.prog (w.heap.size+1) (encXA x) W1 fun e W'=>e=.returned (.bool true)/\(∃Z',J (k+1) Z' W'/\More Z Z' W1)/\Kp W1 W' (fun i=>Z i∨i=w.heap.size+1)):=hY
 have HN:Hid (szN m1 m2 m3 m4=if V=true then wdA m2 m4*wdA m1 m3 else 0):=by show _=_;rw[<- hV];rfl
 have hb:=vA_iff m1 m2 m3 m4
 rw[hV] at hb
 obtain⟨l,hl⟩:∃l,w.heap.size+1=l:=⟨_,rfl⟩
 rw[hl] at HY HBk ⊢
 clear hB hkW hsz hJ hJZ hY h0 hl hBlt hS hV
 refine(callsIn_wide (n:=9)).1 ?_
 refine callsIn_of_wp Tryz.func69 rfl trivial ?_ rfl
 simp only[Tryz.ntmps69,List.size_toArray,List.length_cons,List.length_nil,Nat.reduceAdd,Nat.reduceSub,Array.replicate_succ,Array.replicate_zero,List.push_toArray,List.append_toArray,List.nil_append,List.cons_append]
 have a0:W.cell? ⟨Bn,0,none⟩=some (.int .i64 m1):=HB.out.cell rfl
 have a1:W.cell? ⟨Bn,1,none⟩=some (.int .i64 m2):=HB.out.cell rfl
 have a2:W.cell? ⟨Bn,2,none⟩=some (.int .i64 m3):=HB.out.cell rfl
 have a3:W.cell? ⟨Bn,3,none⟩=some (.int .i64 m4):=HB.out.cell rfl
 have HBd:Hid (V=true->1<=m1/\m1<=m3/\m3<=256/\1<=m2/\m2<=m4/\m4<=4096):=hb.1
 clear hb
 gi_wp2_with (fail)
 refine⟨trivial,(callsIn_wide.2 (HV.out _)).mono ?_⟩
 rintro e W1 ⟨rfl,hk⟩
 have J1:Hid (∃Z,J 0 Z W1):=⟨Z,HJ.out 0 Z W W1 HJ0.out hk⟩
 have A1:Hid (Blk W1 Bn [.int .i64 m1,.int .i64 m2,.int .i64 m3,.int .i64 m4] 34):=HB.out.kp hk (fun x=>x)
 clear hk a0 a1 a2 a3 HJ0 HJ HB HV
 cases V with
 | false=>
  have HN0:Hid (∃Z',J (szN m1 m2 m3 m4) Z' W1):=by
   show ∃_,_
   rw[HN.out]
   exact J1.out
  gi_wp2_with (fail)
  refine bodyPost_ret (res_noneI rfl _ _) rfl ?_
  exact⟨⟨_,rfl⟩,HN0.out⟩
 | true=>
 obtain⟨b1,b2,b3,b4,b5,b6⟩:=HBd.out rfl
 have HN1:Hid (szN m1 m2 m3 m4=wdA m2 m4*wdA m1 m3):=HN.out
 obtain⟨p,hp⟩:∃p,wdA m1 m3=p:=⟨_,rfl⟩
 obtain⟨q,hq⟩:∃q,wdA m2 m4=q:=⟨_,rfl⟩
 have hp':(p:Int)=m3-m1+1:=by rw[<- hp];unfold wdA;omega
 have hq':(q:Int)=m4-m2+1:=by rw[<- hq];unfold wdA;omega
 have HCK:Hid (∀x y:Nat,x<p->(m1+(x:Int),m2+(y:Int))=cK m1 m2 m3 (y*p+x)):=fun x y hx=>by
  subst hp
  exact(cK_at m1 m2 m3 x y hx).symm
 rw[hp,hq] at HN1
 clear HN HBd hp hq
 have a0:W1.cell? ⟨Bn,0,none⟩=some (.int .i64 m1):=A1.out.cell rfl
 have a1:W1.cell? ⟨Bn,1,none⟩=some (.int .i64 m2):=A1.out.cell rfl
 have a2:W1.cell? ⟨Bn,2,none⟩=some (.int .i64 m3):=A1.out.cell rfl
 have a3:W1.cell? ⟨Bn,3,none⟩=some (.int .i64 m4):=A1.out.cell rfl
 gi_wp2_with (fail)
 clear a0 a1 a2 a3
 gi_loopw [3,4] (fun sr sc wr=>∃y:Nat,y<=q/\sr=.int .i64 (m2+y)/\(∃Z,J (y*p) Z wr)/\Blk wr Bn [.int .i64 m1,.int .i64 m2,.int .i64 m3,.int .i64 m4] 34) (fun sr _ _=>(m4+1-intOf sr).toNat)
 case atStart=>exact⟨0,Nat.zero_le _,by simp,by rw[Nat.zero_mul];exact J1.out,A1.out⟩
 case round=>
  obtain⟨y,hy,rfl,hJs,hnx⟩:=hrel
  have JS:Hid (∃Z,J (y*p) Z wr):=hJs
  have NX:Hid (Blk wr Bn [.int .i64 m1,.int .i64 m2,.int .i64 m3,.int .i64 m4] 34):=hnx
  clear hJs hnx
  have c0:wr.cell? ⟨Bn,0,none⟩=some (.int .i64 m1):=NX.out.cell rfl
  have c3:wr.cell? ⟨Bn,3,none⟩=some (.int .i64 m4):=NX.out.cell rfl
  by_cases hlt:y<q
  ·have hys:m2+(y:Int)<=m4:=by omega
   gi_wp2_with (fail)
   clear c0 c3
   gi_loopw [4] (fun sc wq=>∃x:Nat,x<=p/\sc=.int .i64 (m1+x)/\(∃Z,J (y*p+x) Z wq)/\Blk wq Bn [.int .i64 m1,.int .i64 m2,.int .i64 m3,.int .i64 m4] 34) (fun sc _=>(m3+1-intOf sc).toNat)
   case atStart=>exact⟨0,Nat.zero_le _,by simp,JS.out,NX.out⟩
   case round=>
    clear JS NX
    obtain⟨x,hx,rfl,hJs,hnx⟩:=hrel
    have NX:Hid (Blk wr Bn [.int .i64 m1,.int .i64 m2,.int .i64 m3,.int .i64 m4] 34):=hnx
    obtain⟨Zq,hJs⟩:=hJs
    have JS:Hid (J (y*p+x) Zq wr):=hJs
    clear hJs hnx
    have c2:wr.cell? ⟨Bn,2,none⟩=some (.int .i64 m3):=NX.out.cell rfl
    by_cases hlx:x<p
    ·have hxs:m1+(x:Int)<=m3:=by omega
     obtain⟨fn,tmps,assign,body,hy',hR⟩:=HY.out (9-1) (y*p+x) (m1+(x:Int),m2+(y:Int)) Zq wr (by rw[HN1.out];exact idx_lt hlx hlt) JS.out (HCK.out x y hlx)
     dsimp only [encXA] at hy'
     gi_wp2_with (fail)
     refine hR.mono ?_
     rintro e W3 ⟨rfl,⟨Z3,hJ3,_⟩,hk3⟩
     have J3:Hid (∃Z,J (y*p+(x+1)) Z W3):=⟨Z3,hJ3⟩
     have K3:Hid (Blk W3 Bn [.int .i64 m1,.int .i64 m2,.int .i64 m3,.int .i64 m4] 34):=HBk.out _ _ _ _ JS.out hk3 NX.out
     clear hJ3 hk3
     gi_wp2_with (fail)
     go_roundw
     case rel=>exact⟨x+1,by omega,by go_num,J3.out,K3.out⟩
     case measure=>simp only[intOf];omega
    ·have hxe:x=p:=by omega
     subst hxe
     have hxs:¬m1+(x:Int)<=m3:=by omega
     have JE:Hid (∃Z,J ((y+1)*x) Z wr):=⟨Zq,by rw[Nat.add_mul,Nat.one_mul];exact JS.out⟩
     gi_wp2_with (fail)
     go_roundw
     case rel=>exact⟨y+1,by omega,by go_num,JE.out,NX.out⟩
     case measure=>simp only[intOf];omega
  ·have hye:y=q:=by omega
   subst hye
   have hys:¬m2+(y:Int)<=m4:=by omega
   have HE:Hid (∃Z',J (szN m1 m2 m3 m4) Z' wr):=by show ∃_,_;rw[HN1.out];exact JS.out
   gi_wp2_with (fail)
   go_end0
   exact⟨⟨_,rfl⟩,HE.out⟩
end Go.Proofs.YtecjfnkakodebaaGreatDoor
namespace Go.Proofs.YtecjfnkakodebaaGreatDoor
open Go.RowKit Go.Maps Go.Sort Go.Lib Go.Shelf
attribute [local go_sem] Oper.semAt_some
theorem cells_ow3 (m1 m2 m3 m4:Int) (Bn:Nat) (w:World) (hB:Blk w Bn [.int .i64 m1,.int .i64 m2,.int .i64 m3,.int .i64 m4] 34) (S:Nat->Prop) (hS:¬S Bn):SeqOw3 Tryz.prog 69 #[.pointer (some ⟨Bn,0,none⟩)] encXA (fun _ _=>False) (TellA m1 m2 m3) (szN m1 m2 m3 m4) S w:=by
 intro J Jx Z W hkW hsz hJ _ hJZ hY h0
 obtain⟨V,hV⟩:∃V,vA m1 m2 m3 m4=V:=⟨_,rfl⟩
 have HV:Hid (∀w,Calls Tryz.prog 58 #[.agg #[.int .i64 m1,.int .i64 m2,.int .i64 m3,.int .i64 m4]] w fun e w'=>e=.returned (.bool V)/\Kp w w' Nul):=fun w=>(pValidArea_any m1 m2 m3 m4 w).mono fun e w' h=>⟨hV ▸ h.1,Kp.of_gr h.2⟩
 have hBlt:Bn<w.heap.size:=hB.lt
 have HBk:Hid (∀k Z W1 W',J k Z W1->Kp W1 W' (fun i=>(Z i∨False)∨i=w.heap.size+1)->Blk W1 Bn [.int .i64 m1,.int .i64 m2,.int .i64 m3,.int .i64 m4] 34->Blk W' Bn [.int .i64 m1,.int .i64 m2,.int .i64 m3,.int .i64 m4] 34):=fun k Z W1 W' hj hk hb=>hb.kp hk (fun e=>by
  rcases e with (e|e)|e
  ·exact hS ((hJZ _ _ _ hj).2 _ hBlt e)
  ·exact e
  ·omega)
 have HB:Hid (Blk W Bn [.int .i64 m1,.int .i64 m2,.int .i64 m3,.int .i64 m4] 34):=hB.kp hkW (fun x=>x)
 have HJ:Hid (∀k Z W W',J k Z W->Kp W W' Nul->J k Z W'):=hJ
 have HJ0:Hid (J 0 Z W):=h0
 have HY:Hid (∀m k x Z W1,k<szN m1 m2 m3 m4->J k Z W1->TellA m1 m2 m3 k x Z W1->YieldAt Fence.wide m Tryz.prog (w.heap.size+1) (encXA x) W1 fun e W'=>(e=.returned (.bool true)/\(∃Z',J (k+1) Z' W'/\More Z Z' W1)/\Kp W1 W' (fun i=>(Z i∨False)∨i=w.heap.size+1))∨(e=.returned (.bool false)/\Jx W')):=hY
 have HN:Hid (szN m1 m2 m3 m4=if V=true then wdA m2 m4*wdA m1 m3 else 0):=by show _=_;rw[<- hV];rfl
 have hb:=vA_iff m1 m2 m3 m4
 rw[hV] at hb
 obtain⟨l,hl⟩:∃l,w.heap.size+1=l:=⟨_,rfl⟩
 rw[hl] at HY HBk ⊢
 clear hB hkW hsz hJ hJZ hY h0 hl hBlt hS hV
 refine(callsIn_wide (n:=9)).1 ?_
 refine callsIn_of_wp Tryz.func69 rfl trivial ?_ rfl
 simp only[Tryz.ntmps69,List.size_toArray,List.length_cons,List.length_nil,Nat.reduceAdd,Nat.reduceSub,Array.replicate_succ,Array.replicate_zero,List.push_toArray,List.append_toArray,List.nil_append,List.cons_append]
 have a0:W.cell? ⟨Bn,0,none⟩=some (.int .i64 m1):=HB.out.cell rfl
 have a1:W.cell? ⟨Bn,1,none⟩=some (.int .i64 m2):=HB.out.cell rfl
 have a2:W.cell? ⟨Bn,2,none⟩=some (.int .i64 m3):=HB.out.cell rfl
 have a3:W.cell? ⟨Bn,3,none⟩=some (.int .i64 m4):=HB.out.cell rfl
 have HBd:Hid (V=true->1<=m1/\m1<=m3/\m3<=256/\1<=m2/\m2<=m4/\m4<=4096):=hb.1
 clear hb
 gi_wp2_with (fail)
 refine⟨trivial,(callsIn_wide.2 (HV.out _)).mono ?_⟩
 rintro e W1 ⟨rfl,hk⟩
 have J1:Hid (∃Z,J 0 Z W1):=⟨Z,HJ.out 0 Z W W1 HJ0.out hk⟩
 have A1:Hid (Blk W1 Bn [.int .i64 m1,.int .i64 m2,.int .i64 m3,.int .i64 m4] 34):=HB.out.kp hk (fun x=>x)
 clear hk a0 a1 a2 a3 HJ0 HJ HB HV
 cases V with
 | false=>
  have HN0:Hid (∃Z',J (szN m1 m2 m3 m4) Z' W1):=by
   show ∃_,_
   rw[HN.out]
   exact J1.out
  gi_wp2_with (fail)
  refine bodyPost_ret (res_noneI rfl _ _) rfl ?_
  exact⟨⟨_,rfl⟩,.inl HN0.out⟩
 | true=>
 obtain⟨b1,b2,b3,b4,b5,b6⟩:=HBd.out rfl
 have HN1:Hid (szN m1 m2 m3 m4=wdA m2 m4*wdA m1 m3):=HN.out
 obtain⟨p,hp⟩:∃p,wdA m1 m3=p:=⟨_,rfl⟩
 obtain⟨q,hq⟩:∃q,wdA m2 m4=q:=⟨_,rfl⟩
 have hp':(p:Int)=m3-m1+1:=by rw[<- hp];unfold wdA;omega
 have hq':(q:Int)=m4-m2+1:=by rw[<- hq];unfold wdA;omega
 have HCK:Hid (∀x y:Nat,x<p->(m1+(x:Int),m2+(y:Int))=cK m1 m2 m3 (y*p+x)):=fun x y hx=>by
  subst hp
  exact(cK_at m1 m2 m3 x y hx).symm
 rw[hp,hq] at HN1
 clear HN HBd hp hq
 have a0:W1.cell? ⟨Bn,0,none⟩=some (.int .i64 m1):=A1.out.cell rfl
 have a1:W1.cell? ⟨Bn,1,none⟩=some (.int .i64 m2):=A1.out.cell rfl
 have a2:W1.cell? ⟨Bn,2,none⟩=some (.int .i64 m3):=A1.out.cell rfl
 have a3:W1.cell? ⟨Bn,3,none⟩=some (.int .i64 m4):=A1.out.cell rfl
 gi_wp2_with (fail)
 clear a0 a1 a2 a3
 gi_loopw [3,4] (fun sr sc wr=>∃y:Nat,y<=q/\sr=.int .i64 (m2+y)/\(∃Z,J (y*p) Z wr)/\Blk wr Bn [.int .i64 m1,.int .i64 m2,.int .i64 m3,.int .i64 m4] 34) (fun sr _ _=>(m4+1-intOf sr).toNat)
 case atStart=>exact⟨0,Nat.zero_le _,by simp,by rw[Nat.zero_mul];exact J1.out,A1.out⟩
 case round=>
  obtain⟨y,hy,rfl,hJs,hnx⟩:=hrel
  have JS:Hid (∃Z,J (y*p) Z wr):=hJs
  have NX:Hid (Blk wr Bn [.int .i64 m1,.int .i64 m2,.int .i64 m3,.int .i64 m4] 34):=hnx
  clear hJs hnx
  have c0:wr.cell? ⟨Bn,0,none⟩=some (.int .i64 m1):=NX.out.cell rfl
  have c3:wr.cell? ⟨Bn,3,none⟩=some (.int .i64 m4):=NX.out.cell rfl
  by_cases hlt:y<q
  ·have hys:m2+(y:Int)<=m4:=by omega
   gi_wp2_with (fail)
   clear c0 c3
   gi_loopw [4] (fun sc wq=>∃x:Nat,x<=p/\sc=.int .i64 (m1+x)/\(∃Z,J (y*p+x) Z wq)/\Blk wq Bn [.int .i64 m1,.int .i64 m2,.int .i64 m3,.int .i64 m4] 34) (fun sc _=>(m3+1-intOf sc).toNat)
   case atStart=>exact⟨0,Nat.zero_le _,by simp,JS.out,NX.out⟩
   case round=>
    clear JS NX
    obtain⟨x,hx,rfl,hJs,hnx⟩:=hrel
    have NX:Hid (Blk wr Bn [.int .i64 m1,.int .i64 m2,.int .i64 m3,.int .i64 m4] 34):=hnx
    obtain⟨Zq,hJs⟩:=hJs
    have JS:Hid (J (y*p+x) Zq wr):=hJs
    clear hJs hnx
    have c2:wr.cell? ⟨Bn,2,none⟩=some (.int .i64 m3):=NX.out.cell rfl
    by_cases hlx:x<p
    ·have hxs:m1+(x:Int)<=m3:=by omega
     obtain⟨fn,tmps,assign,body,hy',hR⟩:=HY.out (9-1) (y*p+x) (m1+(x:Int),m2+(y:Int)) Zq wr (by rw[HN1.out];exact idx_lt hlx hlt) JS.out (HCK.out x y hlx)
     dsimp only [encXA] at hy'
     gi_wp2_with (fail)
     refine hR.mono ?_
     rintro e W3 (⟨rfl,⟨Z3,hJ3,_⟩,hk3⟩|⟨rfl,hjx⟩)
     ·have J3:Hid (∃Z,J (y*p+(x+1)) Z W3):=⟨Z3,hJ3⟩
      have K3:Hid (Blk W3 Bn [.int .i64 m1,.int .i64 m2,.int .i64 m3,.int .i64 m4] 34):=HBk.out _ _ _ _ JS.out hk3 NX.out
      clear hJ3 hk3
      gi_wp2_with (fail)
      go_roundw
      case rel=>exact⟨x+1,by omega,by go_num,J3.out,K3.out⟩
      case measure=>simp only[intOf];omega
     ·have HX:Hid (Jx W3):=hjx
      clear hjx
      gi_wp2_with (fail)
      refine bodyPost_ret (res_noneI rfl _ _) rfl ?_
      exact⟨⟨_,rfl⟩,.inr HX.out⟩
    ·have hxe:x=p:=by omega
     subst hxe
     have hxs:¬m1+(x:Int)<=m3:=by omega
     have JE:Hid (∃Z,J ((y+1)*x) Z wr):=⟨Zq,by rw[Nat.add_mul,Nat.one_mul];exact JS.out⟩
     gi_wp2_with (fail)
     go_roundw
     case rel=>exact⟨y+1,by omega,by go_num,JE.out,NX.out⟩
     case measure=>simp only[intOf];omega
  ·have hye:y=q:=by omega
   subst hye
   have hys:¬m2+(y:Int)<=m4:=by omega
   have HE:Hid (∃Z',J (szN m1 m2 m3 m4) Z' wr):=by show ∃_,_;rw[HN1.out];exact JS.out
   gi_wp2_with (fail)
   go_end0
   exact⟨⟨_,rfl⟩,.inl HE.out⟩
end Go.Proofs.YtecjfnkakodebaaGreatDoor
namespace Go.Proofs.YtecjfnkakodebaaGreatDoor
open Go.RowKit Go.Maps Go.Sort Go.Lib
def inL (m1 m2 m3 m4:Int) (L:List Cc):List Cc:=L.filter fun x=>inA m1 m2 m3 m4 x.1.1 x.1.2
theorem inL_iff {m1 m2 m3 m4:Int} {L M:List Cc} {x:Cc} (h:inL m1 m2 m3 m4 L=M):x∈M↔x∈L/\inA m1 m2 m3 m4 x.1.1 x.1.2=true:=by rw[<- h];exact List.mem_filter
theorem inL_sub {m1 m2 m3 m4:Int} {L M:List Cc} {x:Cc} (h:inL m1 m2 m3 m4 L=M) (hx:x∈M):x∈L:=((inL_iff h).1 hx).1
theorem inL_mem {m1 m2 m3 m4:Int} {L M:List Cc} {k:Int×Int} {a b:Ct} (h:inL m1 m2 m3 m4 L=M) (hx:(k,a)∈L) (hy:(k,b)∈M):(k,a)∈M:=(inL_iff h).2 ⟨hx,((inL_iff h).1 hy).2⟩
theorem inL_once {m1 m2 m3 m4:Int} {L M:List Cc} (h:inL m1 m2 m3 m4 L=M) (ho:L.Pairwise (fun x y=>x.1≠y.1)):M.Pairwise (fun x y=>x.1≠y.1):=by rw[<- h];exact ho.filter _
theorem inL_len {m1 m2 m3 m4:Int} {L M:List Cc} (h:inL m1 m2 m3 m4 L=M):M.length<=L.length:=by rw[<- h];exact List.length_filter_le _ _
structure FiA (m1 m2 m3 m4:Int) (w:World) (g:Nat) (mv:Option Nat) (r:Nat) (L:List Cc) (v:Value) (wr:World) (rem:List Cc) (acc:List (Int×Int)):Prop where
 un:UnR w w.heap.size mv r L.length (fun x=>inA m1 m2 m3 m4 x.1.1 x.1.2=true) (fun _=>False) L v wr rem acc
 row:wr.ownsRow (w.heap.size+1+1+1) 32 2 v acc.length (flatK encA 2 acc.toArray).toList
 b0:Blk wr w.heap.size [.pointer (some ⟨g,0,none⟩)] 24
 b1:Blk wr (w.heap.size+1) [.int .i64 m1,.int .i64 m2,.int .i64 m3,.int .i64 m4] 34
 b2:Blk wr (w.heap.size+1+1) [v] 78
theorem filled_map (g:Nat) (m1 m2 m3 m4:Int) (L M:List Cc) (hM:inL m1 m2 m3 m4 L=M) (w:World) (hg:GI 0 w g L) (lL:L.length<=4096) (sz:Int) (hsz:sizeA m1 m2 m3 m4=sz) (hnl:¬sz<(L.length:Int)) :
  Calls Tryz.prog 134 #[.pointer (some ⟨g,0,none⟩),.agg #[.int .i64 m1,.int .i64 m2,.int .i64 m3,.int .i64 m4]] w fun e w'=>∃U v',e=.returned v'/\CellsFrom w.heap.size w' v' U/\Strict U/\(∀x,x∈U↔∃a,(x,a)∈M)/\Kp w w' Nul:=by
 obtain⟨mv,bg,hlen⟩:=gi_len hg
 obtain⟨i0,hi,hz0,hz1,hz2⟩:=infoAddr
 obtain⟨W3,hW3⟩:∃W3,((w.alloc (.cells #[.pointer (some ⟨g,0,none⟩)] 24)).alloc (.cells #[.int .i64 m1,.int .i64 m2,.int .i64 m3,.int .i64 m4] 34)).alloc (.cells #[.slice none 0 0] 78)=W3:=⟨_,rfl⟩
 have k3:Kp w W3 Nul:=by rw[<- hW3];exact(((Kp.refl w Nul).alloc _).alloc _).alloc _
 have s3:W3.heap.size=w.heap.size+1+1+1:=by rw[<- hW3,World.size_alloc,World.size_alloc,World.size_alloc]
 have B0:Blk W3 w.heap.size [.pointer (some ⟨g,0,none⟩)] 24:=by rw[<- hW3];exact((Blk.new w [.pointer (some ⟨g,0,none⟩)] _).alloc _).alloc _
 have B1:Blk W3 (w.heap.size+1) [.int .i64 m1,.int .i64 m2,.int .i64 m3,.int .i64 m4] 34:=by
  have:=Blk.new (w.alloc (.cells #[.pointer (some ⟨g,0,none⟩)] 24)) [.int .i64 m1,.int .i64 m2,.int .i64 m3,.int .i64 m4] 34
  rw[World.size_alloc] at this
  rw[<- hW3];exact this.alloc _
 have B2:Blk W3 (w.heap.size+1+1) [.slice none 0 0] 78:=by
  have:=Blk.new ((w.alloc (.cells #[.pointer (some ⟨g,0,none⟩)] 24)).alloc (.cells #[.int .i64 m1,.int .i64 m2,.int .i64 m3,.int .i64 m4] 34)) [.slice none 0 0] 78
  rw[World.size_alloc,World.size_alloc] at this
  rw[<- hW3];exact this
 have HS:Hid (∀wq,Kp W3 wq Nul->wq.cell? ⟨w.heap.size,0,none⟩=some (.pointer (some ⟨g,0,none⟩))/\wq.cell? ⟨w.heap.size+1,0,none⟩=some (.int .i64 m1)/\wq.cell? ⟨w.heap.size+1,1,none⟩=some (.int .i64 m2)/\wq.cell? ⟨w.heap.size+1,2,none⟩=some (.int .i64 m3)/\wq.cell? ⟨w.heap.size+1,3,none⟩=some (.int .i64 m4)/\wq.cell? ⟨g,0,none⟩=some (.map mv)/\∀ty,(Builtin.len_ #[94] ty #[.map mv]).run Tryz.prog wq=.ok (.int .i64 L.length) wq):=fun wq k=>
  ⟨(B0.kp k (fun x=>x)).cell rfl,(B1.kp k (fun x=>x)).cell rfl,(B1.kp k (fun x=>x)).cell rfl,(B1.kp k (fun x=>x)).cell rfl,(B1.kp k (fun x=>x)).cell rfl,(bg.kp (k3.trans k) (fun x=>x)).cell rfl,hlen wq (k3.trans k)⟩
 have HSize:Hid (∀wq,Kp W3 wq Nul->Calls Tryz.prog 152 #[.agg #[.int .i64 m1,.int .i64 m2,.int .i64 m3,.int .i64 m4]] wq fun e w'=>e=.returned (.int .i64 sz)/\Kp W3 w' Nul):=fun wq k=>(pSize_any m1 m2 m3 m4 wq).mono fun e w' ⟨q1,q2⟩=>⟨hsz ▸ q1,k.trans (Kp.of_gr q2)⟩
 have HIn:Hid (∀c s wq,Calls Tryz.prog 20 #[.agg #[.int .i64 m1,.int .i64 m2,.int .i64 m3,.int .i64 m4],.agg #[.int .i64 c,.int .i64 s]] wq fun e w'=>e=.returned (.bool (inA m1 m2 m3 m4 c s))/\Kp wq w' Nul):=fun c s wq=>(pIn_any m1 m2 m3 m4 c s wq).mono fun e w' ⟨q1,q2⟩=>⟨q1,Kp.of_gr q2⟩
 have HG:Hid (GI 0 w g L):=hg
 have HBg:Hid (Blk w g [.map mv] 96):=bg
 have HLL:Hid (L.length<=4096):=lL
 have HMM:Hid (inL m1 m2 m3 m4 L=M):=hM
 have HW3:Hid (((w.alloc (.cells #[.pointer (some ⟨g,0,none⟩)] 24)).alloc (.cells #[.int .i64 m1,.int .i64 m2,.int .i64 m3,.int .i64 m4] 34)).alloc (.cells #[.slice none 0 0] 78)=W3):=hW3
 have HK3:Hid (Kp w W3 Nul):=k3
 have HS3:Hid (W3.heap.size=w.heap.size+1+1+1):=s3
 have HB0:Hid (Blk W3 w.heap.size [.pointer (some ⟨g,0,none⟩)] 24):=B0
 have HB1:Hid (Blk W3 (w.heap.size+1) [.int .i64 m1,.int .i64 m2,.int .i64 m3,.int .i64 m4] 34):=B1
 have HB2:Hid (Blk W3 (w.heap.size+1+1) [.slice none 0 0] 78):=B2
 clear hg bg hlen lL hM hsz hW3 k3 s3 B0 B1 B2
 go_enter Tryz.func134,Tryz.ntmps134
 go_wp2_with fail
 rw[HW3.out]
 clear HW3
 refine wp_region_noPanic ?_
 refine wp_region_nul (W:=W3) (Kp.refl _ _) (by kernel_rfl) (by kernel_rfl) ?_
 refine quiet_run (some 8) rfl ?_ (by rfl) ?_ ?_
 rotate_left
 ·intro w' hk;obtain⟨s0,s1,s2,s3,s4,s5,s6⟩:=HS.out _ hk;clear hk;go_simp;try with_reducible rfl
 simp only[Act.put,Sz0,Sz1,Sz2]
 refine quiet_call (some 9) rfl 152 #[.agg #[.int .i64 m1,.int .i64 m2,.int .i64 m3,.int .i64 m4]] (.int .i64 sz) (by rfl) (fun w'=>by go_simp) (fun w' hk=>HSize.out w' hk) ?_
 simp only[Act.put,Sz0,Sz1,Sz2]
 refine quiet_run (some 10) rfl ?_ (by rfl) ?_ ?_
 rotate_left
 ·intro w' hk;obtain⟨s0,s1,s2,s3,s4,s5,s6⟩:=HS.out _ hk;clear hk;go_simp;try with_reducible rfl
 simp only[Act.put,Sz0,Sz1,Sz2]
 refine quiet_run (some 11) rfl ?_ (by rfl) ?_ ?_
 rotate_left
 ·intro w' hk;obtain⟨s0,s1,s2,s3,s4,s5,s6⟩:=HS.out _ hk;clear hk;go_simp;try with_reducible rfl
 simp only[Act.put,Sz0,Sz1,Sz2]
 refine quiet_run (some 12) rfl ?_ (by rfl) ?_ ?_
 rotate_left
 ·intro w' hk;obtain⟨s0,s1,s2,s3,s4,s5,s6⟩:=HS.out _ hk;clear hk;go_simp;try with_reducible rfl
 simp only[Act.put,Sz0,Sz1,Sz2]
 refine quiet_run (some 13) rfl ?_ (by rfl) ?_ ?_
 rotate_left
 ·intro w' hk;obtain⟨s0,s1,s2,s3,s4,s5,s6⟩:=HS.out _ hk;clear hk;go_simp;try with_reducible rfl
 simp only[Act.put,Sz0,Sz1,Sz2]
 refine quiet_run (some 14) rfl ?_ (by rfl) ?_ ?_
 rotate_left
 ·intro w' hk;obtain⟨s0,s1,s2,s3,s4,s5,s6⟩:=HS.out _ hk;clear hk;go_simp;try with_reducible rfl
 simp only[Act.put,Sz0,Sz1,Sz2]
 refine quiet_run (some 15) rfl (.bool false) (by rfl) ?_ ?_
 ·intro w' hk;clear hk;go_simp;try simp[hnl]
 simp only[Act.put,Sz0,Sz1,Sz2]
 refine wpQuiet_nil ?_
 intro w2 hk2
 refine NoPanic.normal ?_
 obtain⟨c0,_,_,_,_,c5,_⟩:=HS.out w2 hk2
 have HLow:Hid (GridIn w2 (fun b=>b<w.heap.size) g L):=HG.out.low.kp (HK3.out.trans hk2)
 have HBg2:Hid (Blk w2 g [.map mv] 96):=HBg.out.kp (HK3.out.trans hk2) (fun x=>x)
 have HKW:Hid (Kp W3 w2 Nul):=hk2
 clear hk2 hnl HS HSize
 go_wp2_with (first
  | (at_range;refine wpList_range_grid _ rfl _ rfl g L mv w.heap.size rfl HLow.out HBg2.out ?_;intro w0 hrg0 hg0 hs0)
  | fail)
 have HStart:Hid (FiA m1 m2 m3 m4 w g mv w2.heap.size L (.slice none 0 0) w0 L []):=by
  have k0:Kp w2 w0 Nul:=Kp.of_grown hg0 (fun i e=>by cases e)
  have k30:Kp W3 w0 Nul:=HKW.out.trans k0
  have r0:∀B,w0.ownsRow B 32 2 (.slice none 0 0) ([]:List (Int×Int)).length (flatK encA 2 ([]:List (Int×Int)).toArray).toList:=fun B=>⟨by simp[flatK],.inl ⟨rfl,rfl⟩⟩
  refine⟨⟨hrg0,r0 _,by simp,List.nodup_nil,fun x=>⟨fun h=>by simp at h,fun h=>?_⟩,fun x h=>h,HK3.out.trans k30⟩,r0 _,HB0.out.kp k30 (fun x=>x),HB1.out.kp k30 (fun x=>x),HB2.out.kp k30 (fun x=>x)⟩
  rcases h with h|⟨b,h1,h2,_⟩
  ·exact h.elim
  ·exact absurd h1 h2
 have HAr:Hid (w.heap.size+1+1+1<=w2.heap.size):=by show _<=_;have:=HKW.out.size;have:=HS3.out;omega
 clear hrg0 hg0 hs0 c0 c5 HLow HBg2 HKW HB0 HB1 HB2 HS3 HK3
 go_frame
 obtain⟨r2,hr2⟩:∃r2,w2.heap.size=r2:=⟨_,rfl⟩
 rw[hr2] at HStart HAr
 rw[hr2]
 clear hr2
 go_loopw[] (fun wr=>∃v rem acc,FiA m1 m2 m3 m4 w g mv r2 L v wr rem acc) (fun wr=>glen wr mv r2)
 case atStart=>exact⟨_,L,[],HStart.out⟩
 case round=>
  clear HStart
  obtain⟨v,rem,acc,hfi⟩:=hrel
  have HF:Hid (FiA m1 m2 m3 m4 w g mv r2 L v wr rem acc):=hfi
  have HRG:Hid (GRg wr w.heap.size mv r2 rem):=hfi.un.rg
  have hA2:w.heap.size<=r2:=by have:=HAr.out;omega
  clear hfi
  go_wp2_with (first
   | (at_next;refine wpList_next_grid _ rfl _ rfl w.heap.size mv r2 rem rfl HRG.out hA2 ?_ ?_)
   | fail)
  ·intro hr0
   have d2:wr.cell? ⟨w.heap.size+1+1,0,none⟩=some v:=HF.out.b2.cell rfl
   have HSort:Hid (Calls Tryz.prog 153 #[v,.func (.func 154) #[] #[]] wr fun e w'=>e=.returned (.tuple #[])/\CellsFrom w.heap.size w' v (acc.mergeSort fun x y=>!(ltOf cfA) y x)/\Kp w w' Nul/\w'.cell? ⟨w.heap.size+1+1,0,none⟩=some v):=by
    have hacc:acc.length<=1048576:=by have:=HF.out.un.len;have:=HLL.out;omega
    refine(sort_cells acc v (w.heap.size+1+1+1) wr hacc (own1_row rfl HF.out.row)).mono ?_
    rintro e w' ⟨rfl,h1,h2⟩
    exact⟨rfl,(own1_from h1).down (by omega),HF.out.un.kp.trans' h2 (fun i hi e=>absurd e (by omega)),(HF.out.b2.kp h2 (by omega)).cell rfl⟩
   have HM2:Hid (∀x,x∈(acc.mergeSort fun x y=>!(ltOf cfA) y x)↔∃a,(x,a)∈M):=fun x=>by
    rw[List.mem_mergeSort,HF.out.un.mem,hr0]
    constructor
    ·rintro(h|⟨b,h1,_,h3⟩)
     ·exact h.elim
     ·exact⟨b,(inL_iff HMM.out).2 ⟨h1,h3⟩⟩
    ·rintro⟨a,h⟩
     exact .inr ⟨a,((inL_iff HMM.out).1 h).1,by simp,((inL_iff HMM.out).1 h).2⟩
   have HST:Hid (Strict (acc.mergeSort fun x y=>!(ltOf cfA) y x)):=merge_strict HF.out.un.nodup
   clear hr0 HF HRG hA2
   go_wp2_with fail
   refine HSort.out.mono ?_
   rintro e w' ⟨rfl,hcf,hk,d3⟩
   go_wp2_with fail
   go_ret
   exact⟨_,_,rfl,hcf,HST.out,HM2.out,hk⟩
  ·intro c s ct sl w1 hmem hin hrg1 hlt1 hgr1 hsz1 hen
   have k1:Kp wr w1 (fun i=>i=r2):=Kp.of_grown hgr1 (fun i e=>by cases e;rfl)
   have HK1:Hid (Kp w w1 Nul):=HF.out.un.kp.trans' k1 (fun i hi e=>by have:i=r2:=e;omega)
   have hne:=row_ne HRG.out HF.out.un.row
   have HNE:Hid (v.ownBlock≠some r2):=hne
   have HRow1:Hid (w1.ownsRow (w.heap.size+1+1+1) 32 2 v acc.length (flatK encA 2 acc.toArray).toList):=HF.out.row.kept hgr1 (.inr hne)
   have hr3:=HAr.out
   have b0:=HF.out.b0.kp k1 (fun e=>by have:w.heap.size=r2:=e;omega)
   have b1:=HF.out.b1.kp k1 (fun e=>by have:w.heap.size+1=r2:=e;omega)
   have b2:=HF.out.b2.kp k1 (fun e=>by have:w.heap.size+1+1=r2:=e;omega)
   have HB0:Hid (Blk w1 w.heap.size [.pointer (some ⟨g,0,none⟩)] 24):=b0
   have HB1:Hid (Blk w1 (w.heap.size+1) [.int .i64 m1,.int .i64 m2,.int .i64 m3,.int .i64 m4] 34):=b1
   have HB2:Hid (Blk w1 (w.heap.size+1+1) [v] 78):=b2
   have d0:(w1.alloc (.cells #[.int .i64 c,.int .i64 s] 32)).cell? ⟨w.heap.size+1,0,none⟩=some (.int .i64 m1):=(b1.alloc _).cell rfl
   have d1:(w1.alloc (.cells #[.int .i64 c,.int .i64 s] 32)).cell? ⟨w.heap.size+1,1,none⟩=some (.int .i64 m2):=(b1.alloc _).cell rfl
   have d2:(w1.alloc (.cells #[.int .i64 c,.int .i64 s] 32)).cell? ⟨w.heap.size+1,2,none⟩=some (.int .i64 m3):=(b1.alloc _).cell rfl
   have d3:(w1.alloc (.cells #[.int .i64 c,.int .i64 s] 32)).cell? ⟨w.heap.size+1,3,none⟩=some (.int .i64 m4):=(b1.alloc _).cell rfl
   have HG1:Hid (GRg w1 w.heap.size mv r2 (rem.filter (fun x=>decide (x.1≠(c,s))))):=by show GRg _ _ _ _ _;simpa using hrg1
   have HLT:Hid (glen w1 mv r2<glen wr mv r2):=hlt1
   have HMEM:Hid (((c,s),ct)∈rem):=hmem
   have HA3:Hid (∀wq,Kp (w1.alloc (.cells #[.int .i64 c,.int .i64 s] 32)) wq Nul->wq.cell? ⟨w1.heap.size,0,none⟩=some (.int .i64 c)/\wq.cell? ⟨w1.heap.size,1,none⟩=some (.int .i64 s)/\wq.cell? ⟨w.heap.size+1+1,0,none⟩=some v):=fun wq k=>⟨((Blk.new w1 [.int .i64 c,.int .i64 s] 32).kp k (fun x=>x)).cell rfl,((Blk.new w1 [.int .i64 c,.int .i64 s] 32).kp k (fun x=>x)).cell rfl,(HB2.out.kp (((Kp.refl w1 Nul).alloc _).trans k) (fun x=>x)).cell rfl⟩
   clear hne k1 hrg1 hlt1 hgr1 hsz1 hmem hin b0 b1 b2 hr3 hA2
   go_wp2_with fail
   obtain⟨I,hI⟩:∃I,inA m1 m2 m3 m4 c s=I:=⟨_,rfl⟩
   have HI:Hid (inA m1 m2 m3 m4 c s=I):=hI
   have HIc:=HIn.out c s (w1.alloc (.cells #[.int .i64 c,.int .i64 s] 32))
   rw[hI] at HIc
   clear hI
   refine HIc.mono ?_
   clear HIc
   rintro e w3 ⟨rfl,hk3⟩
   obtain⟨q0,q1,q2⟩:=HA3.out w3 hk3
   have hk13:Kp w1 w3 Nul:=((Kp.refl w1 Nul).alloc _).trans hk3
   have HK3:Hid (Kp w w3 Nul):=HK1.out.trans hk13
   have HK13:Hid (Kp w1 w3 Nul):=hk13
   have HRow3:Hid (w3.ownsRow (w.heap.size+1+1+1) 32 2 v acc.length (flatK encA 2 acc.toArray).toList):=row_kp HRow1.out hk13 (fun i _ e=>e)
   have HB4:Hid (Blk (w3.alloc (.cells #[.int .i64 c,.int .i64 s] 32)) w3.heap.size [.int .i64 c,.int .i64 s] 32):=Blk.new w3 [.int .i64 c,.int .i64 s] _
   have HRow4:Hid ((w3.alloc (.cells #[.int .i64 c,.int .i64 s] 32)).ownsRow (w.heap.size+1+1+1) 32 2 v acc.length (flatK encA 2 acc.toArray).toList):=HRow3.out.alloc _
   have HLEN:Hid (acc.length<=4096):=by show _<=_;have:=HF.out.un.len;have:=HLL.out;omega
   have HB30:=HB0.out.kp hk13 (fun x=>x)
   have HB3':Hid (Blk w3 w.heap.size [.pointer (some ⟨g,0,none⟩)] 24/\Blk w3 (w.heap.size+1) [.int .i64 m1,.int .i64 m2,.int .i64 m3,.int .i64 m4] 34/\Blk w3 (w.heap.size+1+1) [v] 78):=⟨HB30,HB1.out.kp hk13 (fun x=>x),HB2.out.kp hk13 (fun x=>x)⟩
   clear hk3 hk13 HA3 HRow1 HB0 HB1 HB2 HB30 d0 d1 d2 d3
   cases I with
   | false=>
    have HNP:Hid (¬inA m1 m2 m3 m4 c s=true):=by show ¬_;rw[HI.out];exact Bool.false_ne_true
    have HF6:Hid (FiA m1 m2 m3 m4 w g mv r2 L v w3 (rem.filter (fun x=>decide (x.1≠(c,s)))) acc):=by
     have b16:Below w.heap.size w1 w3:=⟨HK13.out.os,HK13.out.tape,HK13.out.output,HK13.out.size,fun i hi=>HK13.out.block i (by have:=HK1.out.size;omega) (fun e=>e)⟩
     have r16:w3.heap[r2]? = w1.heap[r2]?:=HK13.out.block r2 HG1.out.lt (fun e=>e)
     exact⟨HF.out.un.skip HMEM.out HNP.out HG.out.once (HG1.out.keep b16 r16) (row_down HRow3.out (by omega)) HK3.out,HRow3.out,HB3'.out.1,HB3'.out.2.1,HB3'.out.2.2⟩
    have HME:Hid (glen w3 mv r2<glen wr mv r2):=by
     have b16:Below w.heap.size w1 w3:=⟨HK13.out.os,HK13.out.tape,HK13.out.output,HK13.out.size,fun i hi=>HK13.out.block i (by have:=HK1.out.size;omega) (fun e=>e)⟩
     have r16:w3.heap[r2]? = w1.heap[r2]?:=HK13.out.block r2 HG1.out.lt (fun e=>e)
     show _<_
     rw[HG1.out.glen b16 r16];exact HLT.out
    clear HB3' HRow3 HRow4 HB4
    go_wp2_with fail
    go_roundw
    case rel=>exact⟨_,_,_,HF6.out⟩
    case measure=>exact HME.out
   | true=>
   go_wp2_with (at_builtin;refine wpList_append_own _ rfl _ _ 78 rfl (w.heap.size+1+1+1) 32 i0 _ 2 16 Tryz.underlying78 hi hz0 hz1 hz2 rfl (by decide) _ _ _ rfl HRow4.out ⟨w3.heap.size,0,none⟩ 1 1 (encA (c,s)) rfl ?qc1 ?qc2 ?qc3 ?qc4 ?qc5 ?qc6 ?_)
   case qc1=>rfl
   case qc2=>
    intro j u hj
    first
    | exact hj
    | (rw[Addr.add_lit,Nat.zero_add];exact HB4.out.at'.trans hj)
   case qc3=>exact encA_one _
   case qc4=>have:=HLEN.out;unfold maxLen;omega
   case qc5=>have:=HLEN.out;omega
   case qc6=>rw[World.size_alloc];have:=HB3'.out.2.2.lt;omega
   intro v5 w5 hrow5 hg5 hnil5
   have hob:=own_block HRow4.out
   have k45:=Kp.of_grown (S:=fun i=>v.ownBlock=some i) hg5 (fun i e=>e)
   have k35:Kp w3 w5 (fun i=>v.ownBlock=some i):=((Kp.refl w3 _).alloc _).trans k45
   have HB5:Hid (Blk w5 w.heap.size [.pointer (some ⟨g,0,none⟩)] 24/\Blk w5 (w.heap.size+1) [.int .i64 m1,.int .i64 m2,.int .i64 m3,.int .i64 m4] 34/\Blk w5 (w.heap.size+1+1) [v] 78):=⟨HB3'.out.1.kp k35 (fun e=>by have:=hob _ e;omega),HB3'.out.2.1.kp k35 (fun e=>by have:=hob _ e;omega),HB3'.out.2.2.kp k35 (fun e=>by have:=hob _ e;omega)⟩
   have HK35:Hid (Kp w3 w5 (fun i=>v.ownBlock=some i)):=k35
   have HOB:Hid (∀i,v.ownBlock=some i->w.heap.size+1+1+1<=i):=hob
   have HRow5:Hid (w5.ownsRow (w.heap.size+1+1+1) 32 2 v5 (acc.length+1) ((flatK encA 2 acc.toArray).toList++encA (c,s))):=hrow5
   have O5:Hid (v5.oneCell'=true):=row_one hrow5
   clear hrow5 hg5 hnil5 k45 k35 hob HB4 HRow4 HB3'
   go_wp2_with (first
    | (refine wpList_store_var rfl 78 (.tmp 5) (.tmp 42) rfl (w.heap.size+1+1) rfl v5 rfl O5.out 78 v HB5.out.2.2 (by kernel_rfl) ?_;intro w6 hb6 hk6)
    | fail)
   have k36:Kp w3 w6 (fun i=>v.ownBlock=some i∨i=w.heap.size+1+1):=(HK35.out.mono (fun i _ e=>.inl e)).trans' hk6 (fun i _ e=>.inr e)
   have hr2:=HAr.out
   have hr1:=HG1.out.lt
   have hb3:=HK13.out.size
   have HK6:Hid (Kp w w6 Nul):=HK3.out.trans' k36 (fun i hi e=>by
    rcases e with e|e
    ·have:=HOB.out i e;omega
    ·omega)
   have k16:=HK13.out.of_nul.trans k36
   have b16:Below w.heap.size w1 w6:=⟨k16.os,k16.tape,k16.output,k16.size,fun i hi=>k16.block i (by have:=HK1.out.size;omega) (fun e=>by
    rcases e with e|e
    ·have:=HOB.out i e;omega
    ·omega)⟩
   have r16:w6.heap[r2]? = w1.heap[r2]?:=k16.block r2 hr1 (fun e=>by
    rcases e with e|e
    ·exact HNE.out e
    ·omega)
   have hrow6:w6.ownsRow (w.heap.size+1+1+1) 32 2 v5 (acc.length+1) ((flatK encA 2 acc.toArray).toList++encA (c,s)):=row_kp HRow5.out hk6 (fun i hi e=>by have:i=w.heap.size+1+1:=e;omega)
   have HF6:Hid (FiA m1 m2 m3 m4 w g mv r2 L v5 w6 (rem.filter (fun x=>decide (x.1≠(c,s)))) (acc++[(c,s)])):=by
    refine⟨HF.out.un.take HMEM.out HI.out HG.out.once (fun h=>h) (HG1.out.keep b16 r16) (row_down hrow6 (by omega)) HK6.out,?_,HB5.out.1.kp hk6 (fun e=>by have:w.heap.size=w.heap.size+1+1:=e;omega),HB5.out.2.1.kp hk6 (fun e=>by have:w.heap.size+1=w.heap.size+1+1:=e;omega),hb6⟩
    rw[flat_snoc,List.length_append];exact hrow6
   have HME:Hid (glen w6 mv r2<glen wr mv r2):=by show _<_;rw[HG1.out.glen b16 r16];exact HLT.out
   clear k36 hr2 hr1 hb3 k16 b16 r16 hrow6 hb6 hk6
   go_wp2_with fail
   go_roundw
   case rel=>exact⟨_,_,_,_,_,_,_,_,_,_,_,_,⟨_,_,_,HF6.out⟩,rfl⟩
   case measure=>exact HME.out
end Go.Proofs.YtecjfnkakodebaaGreatDoor
namespace Go.Proofs.YtecjfnkakodebaaGreatDoor
open Go.RowKit Go.Maps Go.Sort Go.Lib Go.Shelf
attribute [local go_sem] Oper.semAt_some
abbrev encQ (x:(Cc×Value)×List Nat):Array Value:=encP x.1
abbrev wtQ (x:(Cc×Value)×List Nat):Nat->Prop:=fun i=>i∈x.2
def TellQ (w:World) (K:List Cc) (k:Nat) (x:(Cc×Value)×List Nat) (Z:Nat->Prop) (W:World):Prop:=K[k]? = some x.1.1/\NdOwn W x.1.2 x.1.1.2.t x.2/\x.2.Nodup/\∀i∈x.2,w.heap.size+2<=i/\¬Z i
theorem in1_seq2 (g x0 x1 A:Nat) (L K:List Cc) (w:World) (S:Nat->Prop) (hg:GI 0 w g L) (hF:GridIn w (fun b=>b<A) g L) (gL:∀x∈L,Gd x.2) (hv:∀x∈L,vC x.1.1 x.1.2=true) (lL:L.length<=4096)
  (hK:Strict (K.map (·.1))) (hKL:∀x,x∈K↔x∈L) (hA:A<=w.heap.size) (hS:∀i,S i->A<=i) (b0:Blk w x0 [.pointer (some ⟨g,0,none⟩)] 24) (b1:Blk w x1 [.int .i64 1,.int .i64 1,.int .i64 256,.int .i64 4096] 34) :
  SeqOw2 Tryz.prog 97 #[.pointer (some ⟨x0,0,none⟩),.pointer (some ⟨x1,0,none⟩)] encQ wtQ (TellQ w K) K.length S w:=by
 intro J Z W hkw hsz hJ hJz hY hj0
 have c0:W.cell? ⟨x0,0,none⟩=some (.pointer (some ⟨g,0,none⟩)):=(b0.kp hkw (fun x=>x)).cell rfl
 have d0:W.cell? ⟨x1,0,none⟩=some (.int .i64 1):=(b1.kp hkw (fun x=>x)).cell rfl
 have d1:W.cell? ⟨x1,1,none⟩=some (.int .i64 1):=(b1.kp hkw (fun x=>x)).cell rfl
 have d2:W.cell? ⟨x1,2,none⟩=some (.int .i64 256):=(b1.kp hkw (fun x=>x)).cell rfl
 have d3:W.cell? ⟨x1,3,none⟩=some (.int .i64 4096):=(b1.kp hkw (fun x=>x)).cell rfl
 have HWi:Hid (Calls Tryz.prog 98 #[.pointer (some ⟨g,0,none⟩),.agg #[.int .i64 1,.int .i64 1,.int .i64 256,.int .i64 4096]] W fun e w'=>∃b ys,e=.returned (.slice (some ⟨b,0,none⟩) ys.length ys.length)/\WiR W w' (fun b=>b<A) L b ys):=within_at g _ L W (hg.kp hkw) (hF.kp hkw) gL hv lL
 have HSZ:Hid (w.heap.size+2<=W.heap.size):=hsz
 have HJ:Hid (∀k Z W W',J k Z W->Kp W W' Nul->J k Z W'):=hJ
 have HJZ:Hid (∀k Z W,J k Z W->(∀i,Z i->i<W.heap.size)/\∀i,i<w.heap.size->Z i->S i):=hJz
 have HY:Hid (∀m k x Z W1,k<K.length->J k Z W1->TellQ w K k x Z W1->YieldAt Fence.wide m Tryz.prog (w.heap.size+1) (encQ x) W1 fun e W'=>e=.returned (.bool true)/\(∃Z',J (k+1) Z' W'/\More Z Z' W1)/\Kp W1 W' (fun i=>(Z i∨wtQ x i)∨i=w.heap.size+1)):=hY
 have HJ0:Hid (J 0 Z W):=hj0
 have HGd:Hid (∀x∈L,Gd x.2):=gL
 have HA:Hid (A<=w.heap.size):=hA
 have HS:Hid (∀i,S i->A<=i):=hS
 have HKK:Hid (∀ys:List (Cc×Value),Strict (ys.map (·.1.1))->(∀x,x∈ys.map (·.1)↔x∈L)->ys.map (·.1)=K):=fun ys h1 h2=>same_in_order (by rw[List.map_map];exact h1) hK (fun x=>(h2 x).trans (hKL x).symm)
 have HLK:Hid (K.length<=4096):=by
  have hnd:(K.map (·.1)).Nodup:=strict_nodup hK
  have:=nodup_le _ (L.map (·.1)) hnd (fun x hx=>by
   obtain⟨y,hy,rfl⟩:=List.mem_map.1 hx
   exact List.mem_map.2 ⟨y,(hKL y).1 hy,rfl⟩)
  rw[List.length_map,List.length_map] at this
  show _<=_;omega
 clear hkw hsz hJ hJz hY hj0 hg hF gL hv lL hK hKL hA hS b0 b1
 simp only[List.append_toArray,List.cons_append,List.nil_append]
 refine(callsIn_wide (n:=8)).1 ?_
 refine callsIn_of_wp Tryz.func97 rfl trivial ?_ rfl
 simp only[Tryz.ntmps97,List.size_toArray,List.length_cons,List.length_nil,Nat.reduceAdd,Nat.reduceSub,Array.replicate_succ,Array.replicate_zero,List.push_toArray,List.append_toArray,List.nil_append,List.cons_append]
 gi_wp2_with (fail)
 refine⟨trivial,(callsIn_wide.2 HWi.out).mono ?_⟩
 rintro e w2 ⟨b,ys,rfl,hwi⟩
 have HW2:Hid (WiR W w2 (fun b=>b<A) L b ys):=hwi
 have HYK:Hid (ys.map (·.1)=K):=HKK.out ys hwi.strict hwi.mem
 have hlen:ys.length=K.length:=by rw[<- HYK.out,List.length_map]
 clear hwi c0 d0 d1 d2 d3 HKK
 rw[hlen]
 generalize hn:K.length=n at *
 have HLEN:Hid (ys.length=n):=hlen
 have HN:Hid (K.length=n):=hn
 clear hn hlen
 gi_wp2_with (fail)
 gi_loopw [12] (fun i wr=>∃(q:Nat) (Z:Nat->Prop),q<=n/\i=.int .i64 q/\J q Z wr/\InR W A b ys Z wr) (fun i _=>n-(RowKit.intOf i).toNat)
 case atStart=>
  refine⟨0,Z,Nat.zero_le _,rfl,HJ.out _ _ _ _ HJ0.out HW2.out.kp,?_⟩
  exact⟨fun h=>by have h1:=(HJZ.out _ _ _ HJ0.out).1 b h;have h2:=HW2.out.low;omega,HW2.out.rng,HW2.out.tree,HW2.out.kp.size⟩
 case round=>
  obtain⟨q,Zq,hq,rfl,hjq,hin⟩:=hrel
  have HJQ:Hid (J q Zq wr):=hjq
  have HIN:Hid (InR W A b ys Zq wr):=hin
  clear hjq hin
  by_cases hlt:q<n
  ·have hqt:q<ys.length:=by rw[HLEN.out];exact hlt
   obtain⟨⟨⟨⟨c,s⟩,a⟩,sa⟩,hys⟩:∃y,ys[q]=y:=⟨_,rfl⟩
   have hget:ys[q]? = some (((c,s),a),sa):=by rw[List.getElem?_eq_getElem hqt,hys]
   have HR:Hid (wr.rangeAt b (q*23) (ptCells ((c,s),a) sa)):=HIN.out.rng q _ hget
   have htree:NdIn wr (fun i=>i<A) sa a.t:=HIN.out.tree _ (List.mem_of_getElem? hget)
   have O1:Hid (sa.oneCell'=true):=htree.one
   have hKq:K[q]? = some ((c,s),a):=by rw[<- HYK.out,List.getElem?_map,hget];rfl
   have HKQ:Hid (K[q]? = some ((c,s),a)):=hKq
   have hgd:Gd a:=HGd.out _ ((HW2.out.mem _).1 (List.mem_map.2 ⟨_,List.mem_of_getElem? hget,rfl⟩))
   have hbl:b<wr.heap.size:=rangeAt_lt HR.out
   have HBL:Hid (b<wr.heap.size):=hbl
   have B5:Blk (wr.alloc (.cells (ptCells ((c,s),a) sa).toArray 52)) wr.heap.size (ptCells ((c,s),a) sa) 52:=Blk.new wr _ _
   have HAt:Hid (∀wq,Kp (wr.alloc (.cells (ptCells ((c,s),a) sa).toArray 52)) wq Nul->wq.rangeAt wr.heap.size 0 [.int .i64 c,.int .i64 s]):=fun wq k j v hj=>by
    match j,hj with
    | 0,hj=>cases hj;exact(B5.kp k (fun x=>x)).cell rfl
    | 1,hj=>cases hj;exact(B5.kp k (fun x=>x)).cell rfl
   have HCo:Hid (∀wq,Kp (wr.alloc (.cells (ptCells ((c,s),a) sa).toArray 52)) wq Nul->wq.rangeAt wr.heap.size 2 (a.cells sa)):=fun wq k j v hj=>by
    refine(B5.kp k (fun x=>x)).cell ?_
    show (ptCells ((c,s),a) sa)[2+j]? = some v
    rw[Nat.add_comm 2 j];exact hj
   have HCp:Hid (∀wq,Kp (wr.alloc (.cells (ptCells ((c,s),a) sa).toArray 52)) wq Nul->Calls Tryz.prog 47 #[.agg (a.cells sa).toArray] wq fun e w'=>∃sl',e=.returned (.agg (a.cells sl').toArray)/\(∃fp,Own w' wq.heap.size sl' a.t fp)/\Kp wq w' Nul):=fun wq k=>by
    have hk:Kp wr wq Nul:=((Kp.refl wr Nul).alloc _).trans k
    refine(gCopy_at a sa (fun i=>i<A) wq hgd.x hgd.size hgd.ok (htree.kp hk (fun _ _ x=>x))).mono ?_
    rintro e w' ⟨sl',fp,rfl,h1,h2⟩
    rw[hgd.cp] at h1 ⊢
    exact⟨sl',rfl,⟨fp,h1⟩,Kp.of_below h2⟩
   have hkb:(q:Int)+1<=9223372036854775807:=by have:=HLK.out;omega
   have hq0:(0:Int)<=(q:Int):=by omega
   have hqn:(q:Int)<(n:Int):=by omega
   clear hqt hys hget htree hKq hgd hbl B5
   gi_wp2_with (first
    | (refine loadIn_put rfl (.tmp 14) rfl b (q*23) rfl (ptCells ((c,s),a) sa) HR.out rfl ?_)
    | (refine storeIn_new' rfl 52 (.tmp 5) (.tmp 15) rfl _ _ _ _ (by first|rfl|simp) rfl rfl rfl infoPut (all_oneCell_toArray (pt_one _ O1.out)) ?_)
    | fail)
   refine regIn_noPanic ?_
   refine wpIn_region_any (by kernel_rfl) ?_
   refine any_take (i:=0) (.func (.yield (w.heap.size+1)) #[] #[]) (some 16) rfl rfl (by kernel_rfl) (by kernel_rfl) (by kernel_rfl) (fun _ _ _ h=>h) rfl (fun _=>rfl) (fun _=>by go_simp) ?_
   simp only[Act.put,Sz0,Sz1,Sz2]
   refine any_take (i:=1) (.pointer (some ⟨wr.heap.size,0,none⟩)) (some 17) rfl rfl (by kernel_rfl) (by kernel_rfl) (by kernel_rfl) (fun _ _ _ h=>h) rfl (fun _=>rfl) (fun _=>by go_simp) ?_
   simp only[Act.put,Sz0,Sz1,Sz2]
   refine any_take (i:=3) (.pointer (some ⟨wr.heap.size,2,none⟩)) (some 19) rfl rfl (by kernel_rfl) (by kernel_rfl) (by kernel_rfl) (fun _ _ _ h=>h) rfl (fun _=>rfl) (fun _=>by go_simp) ?_
   simp only[Act.put,Sz0,Sz1,Sz2]
   refine wpAnyIn_ready (rs:=[2,4]) (by kernel_rfl) (by simp) ?_
   intro i hi
   rcases List.mem_cons.1 hi with rfl|hi
   ·clear hi
    refine any_val (v:=.agg #[.int .i64 c,.int .i64 s]) (some 18) rfl rfl rfl rfl (fun c h=>by cases h) (w':=(wr.alloc (.cells (ptCells ((c,s),a) sa).toArray 52)).drew) (exec_load_row 32 (.tmp 17) rfl wr.heap.size 0 rfl [.int .i64 c,.int .i64 s] _ (HAt.out (wr.alloc (.cells (ptCells ((c,s),a) sa).toArray 52)).drew ((Kp.refl _ _).drew)) Tryz.underlying32 rfl infoAddr2) ?_
    simp only[Act.put,Sz0,Sz1,Sz2]
    refine wpAnyIn_ready (rs:=[4]) (by kernel_rfl) (by simp) ?_
    intro i hi
    obtain rfl:=List.mem_singleton.1 hi
    clear hi
    refine any_val (v:=.agg (a.cells sa).toArray) (some 20) rfl rfl rfl rfl (fun c h=>by cases h) (w':=(wr.alloc (.cells (ptCells ((c,s),a) sa).toArray 52)).drew) (exec_load_row 50 (.tmp 19) rfl wr.heap.size 2 rfl (a.cells sa) _ (HCo.out _ ((Kp.refl _ _).drew)) Tryz.underlying50 rfl infoContent) ?_
    simp only[Act.put,Sz0,Sz1,Sz2]
    refine wpAnyIn_ready (rs:=[5]) (by kernel_rfl) (by simp) ?_
    intro i hi
    obtain rfl:=List.mem_singleton.1 hi
    clear hi
    refine any_call (f:=47) (args:=#[.agg (a.cells sa).toArray]) (some 21) rfl rfl rfl (by decide) (fun c h=>by cases h) (w':=(wr.alloc (.cells (ptCells ((c,s),a) sa).toArray 52)).drew) (by go_simp) ?_
    refine(HCp.out _ ((Kp.refl _ _).drew)).mono ?_
    rintro e w4 ⟨s4,rfl,⟨f4,ho4⟩,hk4⟩
    refine⟨_,rfl,?_⟩
    simp only[Act.put,Sz0,Sz1,Sz2]
    refine wpAnyIn_ready (rs:=[6]) (by kernel_rfl) (by simp) ?_
    intro i hi
    obtain rfl:=List.mem_singleton.1 hi
    clear hi
    have hK4:Kp wr w4 Nul:=((Kp.refl wr Nul).alloc _).drew.trans hk4
    have hs5:(wr.alloc (.cells (ptCells ((c,s),a) sa).toArray 52)).drew.heap.size=wr.heap.size+1:=World.size_alloc _ _
    obtain⟨fn,tms,asg,bod,hy,hR⟩:=HY.out 7 q ((((c,s),a),s4),f4) Zq w4 hlt (HJ.out _ _ _ _ HJQ.out hK4) ⟨HKQ.out,ho4.own,ho4.nodup,fun i hi=>by
     have h1:=(ho4.new i hi).1
     have h2:=HSZ.out
     have h3:=HIN.out.size
     exact⟨by omega,fun hz=>by have:=(HJZ.out _ _ _ HJQ.out).1 i hz;omega⟩⟩
    refine any_round (l:=w.heap.size+1) (f:=fn) (tms:=tms) (asg:=asg) (bod:=bod) (some 22) rfl rfl rfl (by decide) (fun c h=>by cases h) (w':=w4) ?_ ?_
    ·first
     | (go_simp;done)
     | (go_simp;exact hy)
    refine hR.mono ?_
    rintro e w6 ⟨rfl,⟨Z6,hj6,hm6⟩,hk6⟩
    refine⟨_,rfl,?_⟩
    simp only[Act.put,Sz0,Sz1,Sz2]
    have HJ6:Hid (J (q+1) Z6 w6):=hj6
    have HIN6:Hid (InR W A b ys Z6 w6):=by
     have k6:Kp wr w6 (fun i=>(Zq i∨i∈f4)∨i=w.heap.size+1):=hK4.of_nul.trans hk6
     have hbl:=HBL.out
     have hb2:=HW2.out.low
     have hb3:=HSZ.out
     refine⟨fun hz=>?_,fun i y hy=>rangeAt_kp (HIN.out.rng i y hy) k6 (fun e=>?_),fun y hy=>(HIN.out.tree y hy).kp k6 (fun i hi e=>?_),Nat.le_trans HIN.out.size k6.size⟩
     ·rcases hm6 b hz with h|h
      ·exact HIN.out.nz h
      ·have h1:=HBL.out
       have h2:=hK4.size
       omega
     ·rcases e with (e|e)|e
      ·exact HIN.out.nz e
      ·have:=(ho4.new _ e).1;omega
      ·omega
     ·have hi':i<A:=hi
      have h1:=HA.out
      rcases e with (e|e)|e
      ·have:=HS.out i ((HJZ.out _ _ _ HJQ.out).2 i (by omega) e)
       omega
      ·have:=(ho4.new _ e).1;have:=HIN.out.size;omega
      ·omega
    clear hy hR hj6 hm6 hk6 hk4 ho4 hK4 hs5
    refine wpAnyIn_ready (rs:=[7]) (by kernel_rfl) (by simp) ?_
    intro i hi
    obtain rfl:=List.mem_singleton.1 hi
    clear hi
    refine any_val (v:=.bool false) (some 23) rfl rfl rfl rfl (fun c h=>by cases h) (w':=w6) (by go_simp) ?_
    simp only[Act.put,Sz0,Sz1,Sz2]
    refine wpAnyIn_done (by kernel_rfl) ?_ _
    refine NoPanic.normal ?_
    gi_wp2_with (fail)
    exact⟨⟨q+1,Z6,by omega,by go_num,HJ6.out,HIN6.out⟩,by simp only[RowKit.intOf];omega⟩
   ·obtain rfl:=List.mem_singleton.1 hi
    clear hi
    refine any_val (v:=.agg (a.cells sa).toArray) (some 20) rfl rfl rfl rfl (fun c h=>by cases h) (w':=(wr.alloc (.cells (ptCells ((c,s),a) sa).toArray 52)).drew) (exec_load_row 50 (.tmp 19) rfl wr.heap.size 2 rfl (a.cells sa) _ (HCo.out _ ((Kp.refl _ _).drew)) Tryz.underlying50 rfl infoContent) ?_
    simp only[Act.put,Sz0,Sz1,Sz2]
    refine wpAnyIn_ready (rs:=[2,5]) (by kernel_rfl) (by simp) ?_
    intro i hi
    rcases List.mem_cons.1 hi with rfl|hi
    ·clear hi
     refine any_val (v:=.agg #[.int .i64 c,.int .i64 s]) (some 18) rfl rfl rfl rfl (fun c h=>by cases h) (w':=(wr.alloc (.cells (ptCells ((c,s),a) sa).toArray 52)).drew) (exec_load_row 32 (.tmp 17) rfl wr.heap.size 0 rfl [.int .i64 c,.int .i64 s] _ (HAt.out (wr.alloc (.cells (ptCells ((c,s),a) sa).toArray 52)).drew ((Kp.refl _ _).drew)) Tryz.underlying32 rfl infoAddr2) ?_
     simp only[Act.put,Sz0,Sz1,Sz2]
     refine wpAnyIn_ready (rs:=[5]) (by kernel_rfl) (by simp) ?_
     intro i hi
     obtain rfl:=List.mem_singleton.1 hi
     clear hi
     refine any_call (f:=47) (args:=#[.agg (a.cells sa).toArray]) (some 21) rfl rfl rfl (by decide) (fun c h=>by cases h) (w':=(wr.alloc (.cells (ptCells ((c,s),a) sa).toArray 52)).drew) (by go_simp) ?_
     refine(HCp.out _ ((Kp.refl _ _).drew)).mono ?_
     rintro e w4 ⟨s4,rfl,⟨f4,ho4⟩,hk4⟩
     refine⟨_,rfl,?_⟩
     simp only[Act.put,Sz0,Sz1,Sz2]
     refine wpAnyIn_ready (rs:=[6]) (by kernel_rfl) (by simp) ?_
     intro i hi
     obtain rfl:=List.mem_singleton.1 hi
     clear hi
     have hK4:Kp wr w4 Nul:=((Kp.refl wr Nul).alloc _).drew.trans hk4
     have hs5:(wr.alloc (.cells (ptCells ((c,s),a) sa).toArray 52)).drew.heap.size=wr.heap.size+1:=World.size_alloc _ _
     obtain⟨fn,tms,asg,bod,hy,hR⟩:=HY.out 7 q ((((c,s),a),s4),f4) Zq w4 hlt (HJ.out _ _ _ _ HJQ.out hK4) ⟨HKQ.out,ho4.own,ho4.nodup,fun i hi=>by
      have h1:=(ho4.new i hi).1
      have h2:=HSZ.out
      have h3:=HIN.out.size
      exact⟨by omega,fun hz=>by have:=(HJZ.out _ _ _ HJQ.out).1 i hz;omega⟩⟩
     refine any_round (l:=w.heap.size+1) (f:=fn) (tms:=tms) (asg:=asg) (bod:=bod) (some 22) rfl rfl rfl (by decide) (fun c h=>by cases h) (w':=w4) ?_ ?_
     ·first
      | (go_simp;done)
      | (go_simp;exact hy)
     refine hR.mono ?_
     rintro e w6 ⟨rfl,⟨Z6,hj6,hm6⟩,hk6⟩
     refine⟨_,rfl,?_⟩
     simp only[Act.put,Sz0,Sz1,Sz2]
     have HJ6:Hid (J (q+1) Z6 w6):=hj6
     have HIN6:Hid (InR W A b ys Z6 w6):=by
      have k6:Kp wr w6 (fun i=>(Zq i∨i∈f4)∨i=w.heap.size+1):=hK4.of_nul.trans hk6
      have hbl:=HBL.out
      have hb2:=HW2.out.low
      have hb3:=HSZ.out
      refine⟨fun hz=>?_,fun i y hy=>rangeAt_kp (HIN.out.rng i y hy) k6 (fun e=>?_),fun y hy=>(HIN.out.tree y hy).kp k6 (fun i hi e=>?_),Nat.le_trans HIN.out.size k6.size⟩
      ·rcases hm6 b hz with h|h
       ·exact HIN.out.nz h
       ·have h1:=HBL.out
        have h2:=hK4.size
        omega
      ·rcases e with (e|e)|e
       ·exact HIN.out.nz e
       ·have:=(ho4.new _ e).1;omega
       ·omega
      ·have hi':i<A:=hi
       have h1:=HA.out
       rcases e with (e|e)|e
       ·have:=HS.out i ((HJZ.out _ _ _ HJQ.out).2 i (by omega) e)
        omega
       ·have:=(ho4.new _ e).1;have:=HIN.out.size;omega
       ·omega
     clear hy hR hj6 hm6 hk6 hk4 ho4 hK4 hs5
     refine wpAnyIn_ready (rs:=[7]) (by kernel_rfl) (by simp) ?_
     intro i hi
     obtain rfl:=List.mem_singleton.1 hi
     clear hi
     refine any_val (v:=.bool false) (some 23) rfl rfl rfl rfl (fun c h=>by cases h) (w':=w6) (by go_simp) ?_
     simp only[Act.put,Sz0,Sz1,Sz2]
     refine wpAnyIn_done (by kernel_rfl) ?_ _
     refine NoPanic.normal ?_
     gi_wp2_with (fail)
     exact⟨⟨q+1,Z6,by omega,by go_num,HJ6.out,HIN6.out⟩,by simp only[RowKit.intOf];omega⟩
    ·obtain rfl:=List.mem_singleton.1 hi
     clear hi
     refine any_call (f:=47) (args:=#[.agg (a.cells sa).toArray]) (some 21) rfl rfl rfl (by decide) (fun c h=>by cases h) (w':=(wr.alloc (.cells (ptCells ((c,s),a) sa).toArray 52)).drew) (by go_simp) ?_
     refine(HCp.out _ ((Kp.refl _ _).drew)).mono ?_
     rintro e w4 ⟨s4,rfl,⟨f4,ho4⟩,hk4⟩
     refine⟨_,rfl,?_⟩
     simp only[Act.put,Sz0,Sz1,Sz2]
     refine wpAnyIn_ready (rs:=[2]) (by kernel_rfl) (by simp) ?_
     intro i hi
     obtain rfl:=List.mem_singleton.1 hi
     clear hi
     refine any_val (v:=.agg #[.int .i64 c,.int .i64 s]) (some 18) rfl rfl rfl rfl (fun c h=>by cases h) (w':=w4) (exec_load_row 32 (.tmp 17) rfl wr.heap.size 0 rfl [.int .i64 c,.int .i64 s] _ (HAt.out w4 (((Kp.refl _ _).drew).trans hk4)) Tryz.underlying32 rfl infoAddr2) ?_
     simp only[Act.put,Sz0,Sz1,Sz2]
     refine wpAnyIn_ready (rs:=[6]) (by kernel_rfl) (by simp) ?_
     intro i hi
     obtain rfl:=List.mem_singleton.1 hi
     clear hi
     have hK4:Kp wr w4 Nul:=((Kp.refl wr Nul).alloc _).drew.trans hk4
     have hs5:(wr.alloc (.cells (ptCells ((c,s),a) sa).toArray 52)).drew.heap.size=wr.heap.size+1:=World.size_alloc _ _
     obtain⟨fn,tms,asg,bod,hy,hR⟩:=HY.out 7 q ((((c,s),a),s4),f4) Zq w4 hlt (HJ.out _ _ _ _ HJQ.out hK4) ⟨HKQ.out,ho4.own,ho4.nodup,fun i hi=>by
      have h1:=(ho4.new i hi).1
      have h2:=HSZ.out
      have h3:=HIN.out.size
      exact⟨by omega,fun hz=>by have:=(HJZ.out _ _ _ HJQ.out).1 i hz;omega⟩⟩
     refine any_round (l:=w.heap.size+1) (f:=fn) (tms:=tms) (asg:=asg) (bod:=bod) (some 22) rfl rfl rfl (by decide) (fun c h=>by cases h) (w':=w4) ?_ ?_
     ·first
      | (go_simp;done)
      | (go_simp;exact hy)
     refine hR.mono ?_
     rintro e w6 ⟨rfl,⟨Z6,hj6,hm6⟩,hk6⟩
     refine⟨_,rfl,?_⟩
     simp only[Act.put,Sz0,Sz1,Sz2]
     have HJ6:Hid (J (q+1) Z6 w6):=hj6
     have HIN6:Hid (InR W A b ys Z6 w6):=by
      have k6:Kp wr w6 (fun i=>(Zq i∨i∈f4)∨i=w.heap.size+1):=hK4.of_nul.trans hk6
      have hbl:=HBL.out
      have hb2:=HW2.out.low
      have hb3:=HSZ.out
      refine⟨fun hz=>?_,fun i y hy=>rangeAt_kp (HIN.out.rng i y hy) k6 (fun e=>?_),fun y hy=>(HIN.out.tree y hy).kp k6 (fun i hi e=>?_),Nat.le_trans HIN.out.size k6.size⟩
      ·rcases hm6 b hz with h|h
       ·exact HIN.out.nz h
       ·have h1:=HBL.out
        have h2:=hK4.size
        omega
      ·rcases e with (e|e)|e
       ·exact HIN.out.nz e
       ·have:=(ho4.new _ e).1;omega
       ·omega
      ·have hi':i<A:=hi
       have h1:=HA.out
       rcases e with (e|e)|e
       ·have:=HS.out i ((HJZ.out _ _ _ HJQ.out).2 i (by omega) e)
        omega
       ·have:=(ho4.new _ e).1;have:=HIN.out.size;omega
       ·omega
     clear hy hR hj6 hm6 hk6 hk4 ho4 hK4 hs5
     refine wpAnyIn_ready (rs:=[7]) (by kernel_rfl) (by simp) ?_
     intro i hi
     obtain rfl:=List.mem_singleton.1 hi
     clear hi
     refine any_val (v:=.bool false) (some 23) rfl rfl rfl rfl (fun c h=>by cases h) (w':=w6) (by go_simp) ?_
     simp only[Act.put,Sz0,Sz1,Sz2]
     refine wpAnyIn_done (by kernel_rfl) ?_ _
     refine NoPanic.normal ?_
     gi_wp2_with (fail)
     exact⟨⟨q+1,Z6,by omega,by go_num,HJ6.out,HIN6.out⟩,by simp only[RowKit.intOf];omega⟩
  ·have hqe:q=n:=by omega
   subst hqe
   have hqn:¬((q:Int)<(q:Int)):=by omega
   have HJN:Hid (∃Z',J q Z' wr):=⟨_,HJQ.out⟩
   gi_wp2_with (fail)
   go_end0
   exact⟨⟨_,rfl⟩,by rw[HN.out];exact HJN.out⟩
end Go.Proofs.YtecjfnkakodebaaGreatDoor
namespace Go.Proofs.YtecjfnkakodebaaGreatDoor
open Go.RowKit Go.Maps
def roomB (M:List Cc) (p:Int×Int):Bool:=decide (M.length<4096)||M.any (fun x=>x.1==p)
theorem roomB_iff {M:List Cc} {p:Int×Int}:roomB M p=true↔(M.length<4096∨∃c',(p,c')∈M):=by
 unfold roomB
 simp only[Bool.or_eq_true,decide_eq_true_eq,List.any_eq_true,beq_iff_eq]
 constructor
 ·rintro(h|⟨x,h,e⟩)
  ·exact .inl h
  ·exact .inr ⟨x.2,by rw[<- e];exact h⟩
 ·rintro(h|⟨c',h⟩)
  ·exact .inl h
  ·exact .inr ⟨_,h,rfl⟩
def pts (M:List Cc):List Cc->Option (List Cc)
 | []=>some M
 | y::ys=>if roomB M y.1=true then pts (putL M y.1 y.2) ys else none
theorem pts_app:∀(ys zs:List Cc) (M:List Cc),pts M (ys++zs)=(pts M ys).bind (fun M'=>pts M' zs)
 | [],zs,M=>rfl
 | y::ys,zs,M=>by
  show (if _ then _ else _)=(if _ then _ else _:Option (List Cc)).bind _
  split
  ·exact pts_app ys zs _
  ·rfl
theorem pts_next {ys M M':List Cc} {k:Nat} {y:Cc} (h:pts M (ys.take k)=some M') (hy:ys[k]? = some y) (hr:roomB M' y.1=true):pts M (ys.take (k+1))=some (putL M' y.1 y.2):=by
 rw[List.take_add_one,hy,pts_app,h]
 show pts M' [y]=_
 rw[pts,if_pos hr,pts]
theorem pts_fail {ys M M':List Cc} {k:Nat} {y:Cc} (h:pts M (ys.take k)=some M') (hy:ys[k]? = some y) (hr:¬roomB M' y.1=true):pts M ys=none:=by
 have hk:k<ys.length:=(List.getElem?_eq_some_iff.1 hy).1
 have e:ys=ys.take (k+1)++ys.drop (k+1):=(List.take_append_drop _ _).symm
 rw[e,pts_app,List.take_add_one,hy,pts_app,h]
 show ((pts M' [y]).bind _)=none
 rw[pts,if_neg hr]
 rfl
theorem putL_cons {M:List Cc} {p:Int×Int} {c:Ct} (h:∀c',(p,c')∉M):putL M p c=(p,c)::M:=by
 unfold putL
 rw[filt_none h]
theorem pts_mem:∀(ys:List Cc) (M M':List Cc),ys.Pairwise (fun x y=>x.1≠y.1)->pts M ys=some M'->∀x,x∈M'↔x∈ys∨(x∈M/\∀y∈ys,y.1≠x.1)
 | [],M,M',_,h,x=>by
  simp only[pts,Option.some.injEq] at h
  subst h
  simp
 | y::ys,M,M',ho,h,x=>by
  rw[List.pairwise_cons] at ho
  rw[pts] at h
  split at h
  ·rw[pts_mem ys _ M' ho.2 h x,putL_mem]
   constructor
   ·rintro(h1|⟨h1|h1,h2⟩)
    ·exact .inl (List.mem_cons_of_mem _ h1)
    ·exact .inl (by rw[h1];exact List.mem_cons_self)
    ·refine .inr ⟨h1.1,fun z hz=>?_⟩
     rcases List.mem_cons.1 hz with rfl|hz
     ·exact fun e=>h1.2 e.symm
     ·exact h2 z hz
   ·rintro(h1|⟨h1,h2⟩)
    ·rcases List.mem_cons.1 h1 with rfl|h1
     ·exact .inr ⟨.inl rfl,fun z hz e=>ho.1 z hz e.symm⟩
     ·exact .inl h1
    ·exact .inr ⟨.inr ⟨h1,fun e=>h2 y List.mem_cons_self e.symm⟩,fun z hz=>h2 z (List.mem_cons_of_mem _ hz)⟩
  ·cases h
theorem pts_some:∀(ys:List Cc) (M:List Cc),ys.Pairwise (fun x y=>x.1≠y.1)->(∀y∈ys,∀x∈M,y.1≠x.1)->M.length+ys.length<=4096->∃M',pts M ys=some M'
 | [],M,_,_,_=>⟨M,rfl⟩
 | y::ys,M,ho,hn,hl=>by
  rw[List.pairwise_cons] at ho
  simp only[List.length_cons] at hl
  rw[pts,if_pos (roomB_iff.2 (.inl (by omega)))]
  have e:putL M y.1 y.2=(y.1,y.2)::M:=putL_cons (fun c' hc=>hn y List.mem_cons_self _ hc rfl)
  rw[e]
  exact pts_some ys _ ho.2 (fun z hz x hx=>by
   rcases List.mem_cons.1 hx with rfl|hx
   ·exact fun e=>ho.1 z hz e.symm
   ·exact hn z (List.mem_cons_of_mem _ hz) x hx) (by simp only[List.length_cons];omega)
end Go.Proofs.YtecjfnkakodebaaGreatDoor
