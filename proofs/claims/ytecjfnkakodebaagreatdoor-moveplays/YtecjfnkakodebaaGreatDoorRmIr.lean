/-In, All: what they tell. -/
import Derived.Test.YtecjfnkakodebaaGreatDoorRmIh
open Go.Proofs.Tryz
open Go.Value renaming int->O,bool->E,slice->U,agg->T,pointer->an,tuple->au
open Go.IntKind renaming i64->I
open Bool renaming false->R,true->J
open Option renaming some->H,none->G
open Go.Ending renaming returned->Q
set_option maxHeartbeats 16000000
set_option maxRecDepth 100000
namespace Go.Proofs.YtecjfnkakodebaaGreatDoor
section
open Go.RowKit Go.Maps Go.Sort Go.Lib Go.Shelf
attribute [local go_sem] Oper.semAt_some
section
variable {n:Nat} {P:Program} {md:Region.Mode} {ops:Array Oper} {am:Exit->Act->World->Prop} {fuel:Nat} {listed:Array Bool} {a:Act} {w w':World}
theorem U4 {i:Nat}{o:Oper}{v:Value}(d:Option Tmp)(ho:ops[i]? = H o)(hd:o.dst=d)(hg:o.guard=G)(hab:o.about P w a.eval=G)(hpl:∀c,o.op ≠ .defer c)(he:(execOp a.eval o).run P w=.ok (.value v) w')
 (h:wpAnyIn Fence.wide n P md ops am fuel (listed.setIfInBounds i J) (a.put d v) w'):wpOpIn Fence.wide n P ops am i (wpAnyIn Fence.wide n P md ops am fuel (listed.setIfInBounds i J)) a w:=by
 subst hd;refine wpOpIn_step ho fun K hK=>?_
 simp only[Region.wanted,hg,if_true];unfold Oper.wpIn;refine⟨by simp[hab],?_⟩;rw[Oper.semAt_plain Fence.wide _ _ (fun c hc'=>hpl c hc'),he];exact hK _ _ h
theorem j2p {i:Nat}{o:Oper}{f:FuncId}{args:Array Value}(d:Option Tmp)(ho:ops[i]? = H o)(hd:o.dst=d)(hg:o.guard=G)(hn:1<=n)(hpl:∀c,o.op ≠ .defer c)(he:(execOp a.eval o).run P w=.ok (.enter f args) w')
 (h:Calls P f args w' fun e w2=>∃v,e=Q v/\wpAnyIn Fence.wide n P md ops am fuel (listed.setIfInBounds i J) (a.put d v) w2):wpOpIn Fence.wide n P ops am i (wpAnyIn Fence.wide n P md ops am fuel (listed.setIfInBounds i J)) a w:=by
 subst hd;refine wpOpIn_step ho fun K hK=>?_
 simp only[Region.wanted,hg,if_true];unfold Oper.wpIn;refine⟨fun _ _=>trivial,?_⟩;rw[Oper.semAt_plain Fence.wide _ _ (fun c hc'=>hpl c hc'),he];refine⟨fun _=>hn,(callsIn_wide.2 h).mono ?_⟩;rintro e w2 ⟨v,rfl,h2⟩;exact hK _ _ h2
theorem j2q {i:Nat}{o:Oper}{l f:Nat}{tms:Array Value}{asg bod:Code}(d:Option Tmp)(ho:ops[i]? = H o)(hd:o.dst=d)(hg:o.guard=G)(hn:1<=n)(hpl:∀c,o.op ≠ .defer c)(he:(execOp a.eval o).run P w=.ok (.round l f tms asg bod) w')
 (h:RoundIn Fence.wide (n-1) P l f tms asg bod w' fun e w2=>∃v,e=Q v/\wpAnyIn Fence.wide n P md ops am fuel (listed.setIfInBounds i J) (a.put d v) w2):wpOpIn Fence.wide n P ops am i (wpAnyIn Fence.wide n P md ops am fuel (listed.setIfInBounds i J)) a w:=by
 subst hd;refine wpOpIn_step ho fun K hK=>?_
 simp only[Region.wanted,hg,if_true];unfold Oper.wpIn;refine⟨fun _ _=>trivial,?_⟩;rw[Oper.semAt_plain Fence.wide _ _ (fun c hc'=>hpl c hc'),he];refine⟨fun _=>hn,h.mono ?_⟩;rintro e w2 ⟨v,rfl,h2⟩;exact hK _ _ h2
end
end
section
open Go.RowKit Go.Maps Go.Sort Go.Lib Go.Shelf
attribute [local go_sem] Oper.semAt_some
theorem jAu {F:Fence}{n:Nat}{ops:Array Oper}{rest:List Oper}{o:Oper}{a:Act}{w:World}{am:Exit->Act->World->Prop}(hgd:Region.wanted o (yielded ops a.tmps)=J)(x:Operand)(ho:o.op=.load 52 x)(b p:Nat)(hx:a.eval x=an (H ⟨b,p,G⟩))(cs:List Value)(hc:w.rangeAt b p cs)(hcs:cs.length=23)
 (h:wpListIn F n prog ops am rest (a.put o.dst (T cs.toArray)) w):wpListIn F n prog ops am (o::rest) a w:=by
 refine j40 hgd (by simp[Oper.about,ho]) (fun c hc'=>by rw[ho] at hc';cases hc') ?_ h;unfold execOp;simp only[ho,hx,Instr.loadAt,Instr.sureAddr,Sem.run_bind,Sem.run_pure,Result.andThen_ok,run_loadVar_mid w b p 52 cs _ hc underlying52 rfl (by rw[hcs];exact j3L)]
theorem j2Z {F:Fence}{n:Nat}{ops:Array Oper}{rest:List Oper}{o:Oper}{a:Act}{am:Exit->Act->World->Prop}(hgd:Region.wanted o (yielded ops a.tmps)=J)(ty:TypeId)(x y:Operand)(ho:o.op=.store ty x y)(w:World)(z cells:Array Value)(N:Nat)(hN:N=w.heap.size)(hx:a.eval x=an (H ⟨N,0,G⟩))(hy:a.eval y=T cells)
 (hz:z.size=cells.size) (hi:(prog.info? ty).map (·.size)=H cells.size) (h1:cells.all (·.oneCell')=J)
 (h:wpListIn F n prog ops am rest (a.put o.dst undef) (w.alloc (.cells cells ty))):wpListIn F n prog ops am (o::rest) a (w.alloc (.cells z ty)):=by
 subst hN;have ht:(w.alloc (.cells z ty)).there w.heap.size 0 cells.size:=by
  intro j hj;constructor
  ·rw[World.cell?_alloc_at _ _ _ _ rfl,Array.getElem?_eq_getElem (by omega)];rfl
  ·rw[frozen?_alloc_cells,j1G]
 have hs:=run_storeVar_mid (P:=prog) (w.alloc (.cells z ty)) w.heap.size 0 ty cells ht hi h1;refine j2h hgd (by simp[Oper.about,ho]) (fun c hc'=>by rw[ho] at hc';cases hc') ?_ h;unfold execOp;simp only[ho,hx,hy,Instr.storeAt,Instr.sureAddr,Sem.run_bind,Sem.run_pure,Result.andThen_ok,hs];rw[j3s w ty z cells hz]
theorem jDq {K K':List Cc}(h:E9 (K.map (·.1)))(h':E9 (K'.map (·.1)))(hm:∀x,x∈K↔x∈K'):K=K':=
 j70 (lt:=fun x y:Cc=>ltOf cfA x.1 y.1) (fun x=>swoA.irrefl x.1) (fun x y z=>swoA.trans x.1 y.1 z.1) (List.pairwise_map.1 h) (List.pairwise_map.1 h') hm
abbrev encP (x:Cc×Value):Array Value:=#[T #[O I x.1.1.1,O I x.1.1.2],T (x.1.2.cells x.2).toArray]
theorem j1S {F:Fence}{n:Nat}{P:Program}{id:Nat}{ops:Array Oper}{b:Bool}{am:Exit->Act->World->Prop}{a:Act}{w:World}(h:(Code.region id ops b).wpIn F n P (NoPanic am) a w):(Code.region id ops b).wpIn F n P am a w:=
 wpIn_mono h NoPanic.imp
theorem j2r {n:Nat}{P:Program}{md:Region.Mode}{ops:Array Oper}{am:Exit->Act->World->Prop}{fuel:Nat}{listed:Array Bool}{a:Act}{w:World}{i:Nat}{oi:Oper}(v:Value)(d:Option Tmp)(hi:ops[i]? = H oi)(hd:oi.dst=d)(hs:Region.noSelect ops=J)(hf:Region.free md ops listed i=J)(hr:(Region.ready md ops listed).contains i=J)
 (hQ:∀c a w,am (.panic c) (a.put d v) w->am (.panic c) a w) (hw:Region.wanted oi (yielded ops a.tmps)=J) (hab:∀w,oi.about P w a.eval=G) (hy:∀w,(execOp a.eval oi).run P w=.ok (.value v) w)
 (h:wpAnyIn Fence.wide n P md ops am fuel (listed.setIfInBounds i J) (a.put d v) w):wpAnyIn Fence.wide n P md ops am (fuel+1) listed a w:=by
 subst hd;exact wpAnyIn_take rfl hi hs hf hr hQ ⟨.inl ⟨hw,hy⟩,hab⟩ h
theorem q9 {o:Oper}{ρ:Operand->Value}{w:World}(ty:TypeId)(x:Operand)(ho:o.op=.load ty x)(b p:Nat)(hx:ρ x=an (H ⟨b,p,G⟩))(cs:List Value)(d:TypeDesc)(hc:w.rangeAt b p cs)(hu:prog.underlying ty=H d)(hd:d.isRow=J)(hi:(prog.info? ty).map (·.size)=H cs.length):
 (execOp ρ o).run prog w=.ok (.value (T cs.toArray)) w:=by
 unfold execOp;simp only[ho,hx,Instr.loadAt,Instr.sureAddr,Sem.run_bind,Sem.run_pure,Result.andThen_ok,run_loadVar_mid w b p ty cs d hc hu hd hi]
end
section
open Go.RowKit Go.Maps Go.Sort Go.Lib Go.Shelf
attribute [local go_sem] Oper.semAt_some
abbrev encQ (x:(Cc×Value)×List Nat):Array Value:=encP x.1
abbrev wtQ (x:(Cc×Value)×List Nat):Nat->Prop:=fun i=>i∈x.2
def j0Z (w:World) (K:List Cc) (k:Nat) (x:(Cc×Value)×List Nat) (Z:Nat->Prop) (W:World):Prop:=K[k]? = H x.1.1/\D2 W x.1.2 x.1.1.2.t x.2/\x.2.Nodup/\∀i∈x.2,w.heap.size+2<=i/\¬Z i
end
section
open Go.RowKit Go.Maps Go.Sort Go.Lib
theorem jAQ (g:Nat)(w:World):Calls prog 54 #[an (H ⟨g,0,G⟩),T #[O I 1,O I 1,O I 256,O I 4096]] w fun e w'=>∃x0 x1,e=Q (.func (.func 97) #[] #[an (H ⟨x0,0,G⟩),an (H ⟨x1,0,G⟩)])/\Blk w' x0 [an (H ⟨g,0,G⟩)] 24/\Blk w' x1 [O I 1,O I 1,O I 256,O I 4096] 34/\Kp w w' Nul:=by
 obtain⟨W,hW⟩:=e_ ((w.alloc (.cells #[an (H ⟨g,0,G⟩)] 24)).alloc (.cells #[O I 1,O I 1,O I 256,O I 4096] 34));have HW:=h_ hW;have HK:Hid (Kp w W Nul):=by show Kp w W Nul;rw[<- hW];exact((Kp.refl w Nul).alloc _).alloc _
 have HB0:Hid (Blk W w.heap.size [an (H ⟨g,0,G⟩)] 24):=by show Blk _ _ _ _;rw[<- hW];exact(Blk.new w [an (H ⟨g,0,G⟩)] _).alloc _
 have HB1:Hid (Blk W (w.heap.size+1) [O I 1,O I 1,O I 256,O I 4096] 34):=by
  have:=Blk.new (w.alloc (.cells #[an (H ⟨g,0,G⟩)] 24)) [O I 1,O I 1,O I 256,O I 4096] 34;rw[World.size_alloc] at this;show Blk _ _ _ _;rw[<- hW];exact this
 clear hW;go_enter func54,ntmps54;go_wp2_with fail;rw[HW.o];go_ret;exact⟨_,_,rfl,HB0.o,HB1.o,HK.o⟩
theorem j2n (g:Nat)(w:World):Calls prog 34 #[an (H ⟨g,0,G⟩)] w fun e w'=>∃x0 x1,e=Q (.func (.func 97) #[] #[an (H ⟨x0,0,G⟩),an (H ⟨x1,0,G⟩)])/\Blk w' x0 [an (H ⟨g,0,G⟩)] 24/\Blk w' x1 [O I 1,O I 1,O I 256,O I 4096] 34/\Kp w w' Nul:=by
 have ag:=h_ (jAQ g w);go_enter func34,ntmps34;go_wp2_with fail;refine ag.o.mono ?_;rintro e w1 ⟨x0,x1,rfl,h1,h2,h3⟩;have HE:Hid (Blk w1 x0 [an (H ⟨g,0,G⟩)] 24/\Blk w1 x1 [O I 1,O I 1,O I 256,O I 4096] 34/\Kp w w1 Nul):=⟨h1,h2,h3⟩;clear h1 h2 h3 ag;go_wp2_with fail;go_ret;exact⟨_,_,rfl,HE.o⟩
structure Ok17 (L:List Cc):Prop where
 gd:∀x∈L,Gd x.2
 at':∀x∈L,vC x.1.1 x.1.2=J
 len:L.length<=4096
theorem Ok17.nil:Ok17 []:=⟨fun x h=>by simp at h,fun x h=>by simp at h,by simp⟩
theorem Ok17.put {L:List Cc}(h:Ok17 L)(ho:L.Pairwise (fun x y=>x.1≠y.1)){c r:Int}{ct:Ct}(hx:vC c r=J)(hg:Gd ct)(hroom:L.length<4096∨∃c',((c,r),c')∈L):Ok17 (putL L (c,r) ct):=by
 refine⟨fun x hx'=>?_,fun x hx'=>?_,?_⟩
 ·rcases(R8 x).1 hx' with rfl|h1
  ·exact hg
  ·exact h.gd x h1.1
 ·rcases(R8 x).1 hx' with rfl|h1
  ·exact hx
  ·exact h.at' x h1.1
 ·by_cases hin:∃c',((c,r),c')∈L
  ·rw[j6M ho hin];exact h.len
  ·have hno:∀c',((c,r),c')∉L:=(fun c' q=>hin ⟨c',q⟩);rw[j6N hno];rcases hroom with h1|h1
   ·omega
   ·exact absurd h1 hin
theorem Ok17.del {L:List Cc}(h:Ok17 L)(k:Int×Int):Ok17 (delL L k):=
 ⟨fun x hx=>h.gd x ((Y4 x).1 hx).1,fun x hx=>h.at' x ((Y4 x).1 hx).1,Nat.le_trans (List.length_filter_le _ _) h.len⟩
structure PutR (L:List Cc) (c r:Int) (ct:Ct) (er:Int) (L':List Cc):Prop where
 ok:Ok17 L'
 put:vC c r=J->gv ct=J->ct.k≠0->(L.length<4096∨∃c',((c,r),c')∈L)->er=0/\L'=putL L (c,r) (cpC ct)
 del:vC c r=J->gv ct=J->ct.k=0->er=0/\L'=delL L (c,r)
theorem j2H (ah:Nat->Prop)(g:Nat)(c r:Int)(ct:Ct)(sl:Value)(F:Nat->Prop)(L:List Cc)(w:World)(hG:j6 w ah g L)(hnew:∀i,w.heap.size<=i->ah i)(hL:Ok17 L)(hok:ct.t.ok)(hx:ct.v.x<18446744073709551616)(hs:ct.t.size<=1048576)(hin:NdIn w F sl ct.t)(aj:VS w):
 Calls prog 11 #[an (H ⟨g,0,G⟩),T #[O I c,O I r],ct.val sl] w fun e w'=>∃er L',e=Q (O I er)/\j6 w' ah g L'/\PutR L c r ct er L'/\Km g w w':=by
 have h:GI 0 w g L:=j6.mono hG (fun _ _=>Nat.zero_le _);obtain⟨mv,bg⟩:=h.blk;have hval:∀V,gv ct=V->∀wq,Kp w wq Nul->Calls prog 43 #[ct.val sl] wq fun e w'=>e=Q (E V)/\Kp wq w' Nul:=fun V hV wq k=>by subst hV;exact j1t ct sl F wq hok (hin.kp k (fun _ _ x=>x)) (aj.kp k)
 have hcp:∀wq,Kp w wq Nul->Calls prog 47 #[ct.val sl] wq fun e w'=>∃sl' fp,e=Q ((cpC ct).val sl')/\Own w' wq.heap.size sl' (cpC ct).t fp/\Kp wq w' Nul:=fun wq k=>(j0S ct sl F wq hx hs hok (hin.kp k (fun _ _ x=>x))).mono (by
  rintro e w' ⟨sl',fp,h1,h2,h3⟩;exact⟨sl',fp,h1,h2,Kp.of_below h3⟩)
 have hno:∀er w',Kp w w' Nul->(vC c r=J->gv ct=J->False)->∃er' L',Q (O I er)=Q (O I er')/\j6 w' ah g L'/\PutR L c r ct er' L'/\Km g w w':=fun er w' k hf=>⟨er,L,rfl,hG.kp k,⟨hL,fun h1 h2=>(hf h1 h2).elim,fun h1 h2=>(hf h1 h2).elim⟩,Km.of_nul k bg.lt⟩
 cases hV:gv ct with
 | false=>
  refine(j2I g c r ct sl R w (fun e=>by cases e) (hval R hV)).mono ?_;rintro e w' ⟨rfl,k⟩;exact hno _ w' k (fun _ h2=>by rw[hV] at h2;cases h2)
 | true=>
  cases hC:vC c r with
  | false=>
   refine(j2I g c r ct sl J w (fun _=>hC) (hval J hV)).mono ?_;rintro e w' ⟨rfl,k⟩;exact hno _ w' k (fun h1 _=>by rw[hC] at h1;cases h1)
  | true=>
   by_cases hk:ct.k=0
   ·refine(j3e ah g c r hC ct hk sl L w hG (hval J hV)).mono ?_;rintro e w' ⟨rfl,h1,h2⟩;exact⟨0,_,rfl,h1,⟨hL.del _,fun _ _ h=>absurd hk h,fun _ _ _=>⟨rfl,rfl⟩⟩,h2⟩
   ·by_cases hroom:L.length<4096∨∃c',((c,r),c')∈L
    ·refine(j3g ah g c r hC ct hk sl L w h hG hnew hL.len hroom (hval J hV) hcp).mono ?_;rintro e w' ⟨rfl,h1,h2⟩;exact⟨0,_,rfl,h1,⟨hL.put h.once hC (Gd.of hV hk hok hx hs) hroom,fun _ _ _ _=>⟨rfl,rfl⟩,fun _ _ h=>absurd h hk⟩,h2⟩
    ·have hfull:4096<=L.length:=by
      rcases Nat.lt_or_ge L.length 4096 with q|q
      ·exact absurd (.inl q) hroom
      ·exact q
     refine(j3f 0 g c r hC ct hk sl L w h hfull (fun c' q=>hroom (.inr ⟨c',q⟩)) (hval J hV)).mono ?_;rintro e w' ⟨rfl,k⟩;exact⟨41,L,rfl,hG.kp k,⟨hL,fun _ _ _ q=>absurd q hroom,fun _ _ q=>absurd q hk⟩,Km.of_nul k bg.lt⟩
end
section
open Go.RowKit Go.Maps Go.Sort Go.Lib
def pkf (c m:Int):Nat:=if c<0 then ((-(c+1))%m).toNat else (c%m).toNat
theorem j3Z (c m:Int)(h1:1<=m):(pkf c m:Int)=(if c<0 then (-(c+1))%m else c%m)/\(pkf c m:Int)<m:=by
 have hm0:m≠0:=by omega
 unfold pkf;by_cases h:c<0
 ·have e1:=Int.emod_nonneg (-(c+1)) hm0;have e2:=Int.emod_lt_of_pos (-(c+1)) (b:=m) (by omega);rw[if_pos h,if_pos h];omega
 ·have e1:=Int.emod_nonneg c hm0;have e2:=Int.emod_lt_of_pos c (b:=m) (by omega);rw[if_neg h,if_neg h];omega
section
variable {α:Type}
end
end
section
open Go.RowKit Go.Maps Go.Sort Go.Lib
theorem I9 {w:World}{b o:Nat}{c s:Int}{a:Ct}{sa:Value}(h:w.rangeAt b o (j8 ((c,s),a) sa)):w.rangeAt b o [O I c,O I s]/\w.rangeAt b (o+2) (a.cells sa):=by
 refine⟨fun j v hj=>h j v ?_,fun j v hj=>?_⟩
 ·match j,hj with
  | 0,hj=>exact hj
  | 1,hj=>exact hj
 ·have:=h (2+j) v (by rw[Nat.add_comm 2 j];exact hj);rw[<- Nat.add_assoc] at this;exact this
structure j0O (w:World) (v:Value) (xs:List (Cc×Value)):Prop where
 sl:∃a c,v=U a xs.length c/\(0<xs.length->∃b o,a=H ⟨b,o,G⟩/\∀(i:Nat) y,xs[i]? = H y->w.rangeAt b (o+i*23) (j8 y.1 y.2))
 len:xs.length<=maxLen
 cn:∀y∈xs,Cn w y.1.2 y.2
end
section
open Go.RowKit Go.Maps Go.Sort Go.Lib Go.Shelf
theorem jEz {F:Fence}{n:Nat}{P:Program}(w:World){ops:Array Oper}{rest:List Oper}{o:Oper}{a:Act}{am:Exit->Act->World->Prop}
 (hg:o.guard=G) (s x:Operand) (t:TypeId) (hop:o.op=Op.call { callee:=Callee.builtin Builtin.append,args:=#[s,x],argTypes:=#[t,t] })
 (base:Nat) (e:TypeId) (i:TypeInfo) (z:Value) (size bytes:Nat) (h1:P.underlying t=H (.slice e)) (h2:P.info? e=H i) (h3:i.zero=H z) (h4:i.size=size) (h5:i.bytes=bytes) (h6:z.cells.size=size) (h7:0<size)
 (v:Value) (k:Nat) (xs:List Value) (hs:a.eval s=v) (hown:w.ownsRow base e size v k xs) (ad:Addr) (m c:Nat) (news:List Value) (hx:a.eval x=U (H ad) m c) (hn:news.length=m*size)
 (hc:∀j u,news[j]? = H u->w.cell? (ad.add j)=H u) (h1c:∀u∈news,u.oneCell'=J) (hm:0<m) (b1:k+m<=maxLen) (b2:(k+m)*bytes<=140737488355328) (b3:base<=w.heap.size)
 (hK:∀g c' w',w'.ownsRow base e size (U (H ⟨g,0,G⟩) (k+m) c') (k+m) (xs++news)->w.grownBy w' v.ownBlock->(v.ownBlock=H g∨w.heap.size<=g)->wpListIn F n P ops am rest (a.put o.dst (U (H ⟨g,0,G⟩) (k+m) c')) w') :
 wpListIn F n P ops am (o::rest) a w:=by
 refine wpListIn_plain hg fun K hK'=>?_
 obtain⟨g,c',w',hrun,r1,r2,r3⟩:=j6q (P:=P) w base t o.type e i z size bytes h1 h2 h3 h4 h5 h6 h7 v k xs hown ad m c news hn hc h1c hm b1 b2 b3;unfold Oper.wpIn;refine⟨?_,?_⟩
 ·simp[Oper.about,hop,resolve,Target.leads,Sem.run_pure]
 ·rw[Oper.semAt_plain F _ _ (by rw[hop];intro c hc';cases hc')];simp[execOp,hop,resolve,invoke,builtin,hs,hx,hrun,Result.andThen];exact hK' _ _ (hK g c' w' r1 r2 r3)
theorem j0K {F:Fence}{n:Nat}{ops:Array Oper}{rest:List Oper}{o:Oper}{a:Act}{w:World}{am:Exit->Act->World->Prop}(hgd:Region.wanted o (yielded ops a.tmps)=J)(ty:TypeId)(x y:Operand)(ho:o.op=.store ty x y)
 (b:Nat) (hx:a.eval x=an (H ⟨b,0,G⟩)) (v:Value) (hy:a.eval y=v) (h1:v.oneCell'=J) (t:TypeId) (old:Value) (hb:Blk w b [old] t) (hi:(prog.info? ty).map (·.size)=H 1)
 (h:∀W,Blk W b [v] t->Kp w W (fun i=>i=b)->wpListIn F n prog ops am rest (a.put o.dst undef) W):wpListIn F n prog ops am (o::rest) a w:=by
 subst hy;refine j2h hgd (by simp[Oper.about,ho]) (fun c hc'=>by rw[ho] at hc';cases hc') (w':=w.setRow b #[a.eval y]) ?_ (h _ (setRow_heap w b #[old] #[a.eval y] t (0,0) hb) ?_)
 ·unfold execOp;simp only[ho,hx,Instr.storeAt,Instr.sureAddr,Sem.run_bind,Sem.run_pure,Result.andThen_ok,run_storeVar_one w b t ty old _ hb hi h1]
 ·refine⟨rfl,rfl,rfl,?_,fun i _ hn=>?_⟩
  ·unfold World.setRow;simp
  ·unfold World.setRow;simp only[Array.getElem?_modify];rw[if_neg (fun e=>hn e.symm)]
theorem j3I {L:List Cc}(h:L.Pairwise (fun x y=>x.1≠y.1)):∃K:List Cc,E9 (K.map (·.1))/\∀x,x∈K↔x∈L:=by
 refine⟨L.mergeSort (fun x y=>!(ltOf cfA) y.1 x.1),?_,fun x=>List.mem_mergeSort⟩;rw[List.map_mergeSort (s:=fun x y=>!(ltOf cfA) y x) (fun a _ b _=>rfl)];exact j5s (List.pairwise_map.2 h)
theorem j6.far {w w':World}{F S:Nat->Prop}{g:Nat}{L:List Cc}(h:j6 w F g L)(k:Kp w w' S)(hS:∀i,F i->¬S i):j6 w' F g L:=by
 obtain⟨hg,⟨hb,rfl⟩|⟨m,D,hb,hFm,hne,hown,hm⟩⟩:=h
 ·exact⟨hg,.inl ⟨(k.block g (Array.getElem?_eq_some_iff.1 hb).1 (hS g hg)).trans hb,rfl⟩⟩
 ·exact⟨hg,.inr ⟨m,D,(k.block g (Array.getElem?_eq_some_iff.1 hb).1 (hS g hg)).trans hb,hFm,hne,j0T hown (k.block m hown.lt (hS m hFm)),⟨hm.size,hm.rng,hm.keys,fun c r ct hc=>by obtain⟨sl,e1,e2⟩:=hm.vals c r ct hc;exact⟨sl,e1,e2.kp k (fun i hi=>hS i hi)⟩,hm.once⟩⟩⟩
structure I8 (K:List Cc) (k:Int×Int) (lo:Nat):Prop where
 le:lo<=K.length
 lt:∀j x,K[j]? = H x->j<lo->ltOf cfA x.1 k=J
 ge:∀j x,K[j]? = H x->lo<=j->ltOf cfA x.1 k=R
def isK (K:List Cc) (lo:Nat) (k:Int×Int):Bool:=match K[lo]? with|none=>R|some x=>decide (x.1=k)
def insK (K:List Cc) (k:Int×Int) (lo:Nat) (mid:List Cc):List Cc:=K.take lo++(mid++K.drop (lo+(isK K lo k).toNat))
theorem j2a {K:List Cc}(h:E9 (K.map (·.1))){i j:Nat}{x y:Cc}(hx:K[i]? = H x)(hy:K[j]? = H y)(hij:i<j):ltOf cfA x.1 y.1=J:=by
 unfold E9 at h;rw[List.pairwise_map,List.pairwise_iff_getElem] at h;obtain⟨hi,rfl⟩:=List.getElem?_eq_some_iff.1 hx;obtain⟨hj,rfl⟩:=List.getElem?_eq_some_iff.1 hy;exact h i j hi hj hij
theorem I8.at_is {K:List Cc}{k:Int×Int}{lo:Nat}(p:I8 K k lo){j:Nat}{x:Cc}(hs:E9 (K.map (·.1)))(hx:K[j]? = H x)(e:x.1=k):j=lo:=by
 rcases Nat.lt_trichotomy j lo with h|h|h
 ·have:=p.lt j x hx h;rw[e,j07] at this;cases this
 ·exact h
 ·have hl:lo<K.length:=Nat.lt_trans h (List.getElem?_eq_some_iff.1 hx).1;have hy:K[lo]? = H K[lo]:=List.getElem?_eq_getElem hl;have h1:=p.ge lo _ hy (Nat.le_refl _);have h2:=j2a hs hy hx h;rw[e,h1] at h2;cases h2
theorem j0C {K:List Cc}{k:Int×Int}{lo:Nat}(p:I8 K k lo)(hs:E9 (K.map (·.1))):isK K lo k=J↔∃a,(k,a)∈K:=by
 constructor
 ·intro h;unfold isK at h;split at h
  ·cases h
  ·rename_i x hx
   exact⟨x.2,by have:=List.mem_of_getElem? hx;rw[<- of_decide_eq_true h];exact this⟩
 ·rintro⟨a,ha⟩;obtain⟨j,hj⟩:=List.mem_iff_getElem?.1 ha;have e:=p.at_is hs hj rfl;subst e;unfold isK;rw[hj];exact decide_eq_true rfl
theorem I8.drop_lt {K:List Cc}{k:Int×Int}{lo:Nat}(p:I8 K k lo)(hs:E9 (K.map (·.1))){x:Cc}(hx:x∈K.drop (lo+(isK K lo k).toNat)):ltOf cfA k x.1=J:=by
 obtain⟨j,hj⟩:=List.mem_iff_getElem?.1 hx;rw[List.getElem?_drop] at hj;have h1:=p.ge _ x hj (by omega);cases hq:ltOf cfA k x.1 with
 | true=>rfl
 | false=>
  have e:=j2v x.1 k h1 hq;have e2:=p.at_is hs hj e;have hi:isK K lo k=J:=(j0C p hs).2 ⟨x.2,by have:=List.mem_of_getElem? hj;rw[<- e];exact this⟩;rw[hi] at e2;have e3:lo+1+j=lo:=e2;omega
theorem I8.take_lt {K:List Cc}{k:Int×Int}{lo:Nat}(p:I8 K k lo){x:Cc}(hx:x∈K.take lo):ltOf cfA x.1 k=J:=by
 obtain⟨j,hj⟩:=List.mem_iff_getElem?.1 hx;rw[List.getElem?_take] at hj;split at hj
 ·exact p.lt j x hj ‹_›
 ·cases hj
theorem jAS {K:List Cc}{k:Int×Int}{lo:Nat}(p:I8 K k lo)(hs:E9 (K.map (·.1)))(mid:List Cc)(x:Cc):x∈insK K k lo mid↔(x∈K/\x.1≠k)∨x∈mid:=by
 unfold insK;rw[List.mem_append,List.mem_append];constructor
 ·rintro(h|h|h)
  ·exact .inl ⟨List.mem_of_mem_take h,fun e=>by have:=p.take_lt h;rw[e,j07] at this;cases this⟩
  ·exact .inr h
  ·exact .inl ⟨List.mem_of_mem_drop h,fun e=>by have:=p.drop_lt hs h;rw[e,j07] at this;cases this⟩
 ·rintro(⟨h,hn⟩|h)
  ·obtain⟨j,hj⟩:=List.mem_iff_getElem?.1 h;by_cases q:j<lo
   ·exact .inl (List.mem_iff_getElem?.2 ⟨j,by rw[List.getElem?_take,if_pos q];exact hj⟩)
   ·refine .inr (.inr ?_);have hne:isK K lo k=J->j≠lo:=fun hi e=>by
     subst e;unfold isK at hi;rw[hj] at hi;exact hn (of_decide_eq_true hi)
    have hle:lo+(isK K lo k).toNat<=j:=by
     cases hi:isK K lo k with
     | false=>simp;omega
     | true=>have:=hne hi;simp;omega
    exact List.mem_iff_getElem?.2 ⟨j-(lo+(isK K lo k).toNat),by rw[List.getElem?_drop,Nat.add_sub_cancel' hle];exact hj⟩
  ·exact .inr (.inl h)
theorem jAT {K:List Cc}{k:Int×Int}{lo:Nat}(p:I8 K k lo)(hs:E9 (K.map (·.1)))(mid:List Cc)(hm:mid=[]∨∃a,mid=[(k,a)]):E9 ((insK K k lo mid).map (·.1)):=by
 have hs':=hs;unfold E9 at hs ⊢;unfold insK;rw[List.map_append,List.map_append,List.pairwise_append,List.pairwise_append];have hk:∀y∈mid.map (·.1),y=k:=fun y hy=>by
  rcases hm with rfl|⟨a,rfl⟩
  ·simp at hy
  ·simpa using hy
 refine⟨?_,⟨?_,?_,?_⟩,?_⟩
 ·rw[List.map_take];exact hs.take
 ·rcases hm with rfl|⟨a,rfl⟩ <;> simp
 ·rw[List.map_drop];exact hs.drop
 ·intro x hx y hy;rw[hk x hx];obtain⟨z,hz,rfl⟩:=List.mem_map.1 hy;exact p.drop_lt hs' hz
 ·intro x hx y hy;obtain⟨z,hz,rfl⟩:=List.mem_map.1 hx;have h1:=p.take_lt hz;rcases List.mem_append.1 hy with hy|hy
  ·rw[hk y hy];exact h1
  ·obtain⟨u,hu,rfl⟩:=List.mem_map.1 hy;exact j18 h1 (p.drop_lt hs' hu)
end
section
open Go.RowKit Go.Maps Go.Sort Go.Lib Go.Shelf
attribute [local go_sem] Oper.semAt_some
def wdA (a b:Int):Nat:=(b-a+1).toNat
def cK (m1 m2 m3:Int) (k:Nat):Int×Int:=(m1+(k%wdA m1 m3:Nat),m2+(k/wdA m1 m3:Nat))
def szN (m1 m2 m3 m4:Int):Nat:=if vA m1 m2 m3 m4=J then wdA m2 m4*wdA m1 m3 else 0
theorem j2t (m1 m2 m3:Int)(x y:Nat)(hx:x<wdA m1 m3):cK m1 m2 m3 (y*wdA m1 m3+x)=(m1+(x:Int),m2+(y:Int)):=by
 have h1:(y*wdA m1 m3+x)%wdA m1 m3=x:=by rw[Nat.mul_comm,Nat.mul_add_mod,Nat.mod_eq_of_lt hx]
 have h2:(y*wdA m1 m3+x)/wdA m1 m3=y:=by rw[Nat.mul_comm,Nat.mul_add_div (by omega),Nat.div_eq_of_lt hx,Nat.add_zero]
 unfold cK;rw[h1,h2]
theorem j5Z {x y u v:Nat}(hx:x<u)(hy:y<v):y*u+x<v*u:=by
 have:(y+1)*u<=v*u:=Nat.mul_le_mul_right u hy;rw[Nat.add_mul,Nat.one_mul] at this;omega
abbrev j1m (x:Int×Int):Array Value:=#[T #[O I x.1,O I x.2]]
def j1Z (m1 m2 m3:Int) (k:Nat) (x:Int×Int) (_:Nat->Prop) (_:World):Prop:=x=cK m1 m2 m3 k
theorem j93 (a b c d:Int)(w:World):Calls prog 36 #[T #[O I a,O I b,O I c,O I d]] w fun e w'=>∃p,e=Q (.func (.func 69) #[] #[an (H ⟨p,0,G⟩)])/\w.heap.size<=p/\Blk w' p [O I a,O I b,O I c,O I d] 34/\Kp w w' Nul:=by
 go_enter func36,ntmps36;go_wp2_with fail;go_ret;exact⟨_,rfl,Nat.le_refl _,Blk.new w _ _,(Kp.refl _ _).alloc _⟩
theorem j1T {fn:Func}(h:fn.results=#[])(tmps:Array Value)(w:World):(results fn tmps).run prog w=.ok (au #[]) w:=by
 simp[results,h]
end
section
open Go.RowKit Go.Maps Go.Sort Go.Lib Go.Shelf
attribute [local go_sem] Oper.semAt_some
theorem j4c (m1 m2 m3 m4:Int)(Bn:Nat)(w:World)(hB:Blk w Bn [O I m1,O I m2,O I m3,O I m4] 34)(S:Nat->Prop)(hS:¬S Bn):j0Y prog 69 #[an (H ⟨Bn,0,G⟩)] j1m (fun _ _=>False) (j1Z m1 m2 m3) (szN m1 m2 m3 m4) S w:=by
 intro ai Jx Z W hkW hsz hJ _ hJZ hY h0;obtain⟨V,hV⟩:=e_ (vA m1 m2 m3 m4);have HV:Hid (∀w,Calls prog 58 #[T #[O I m1,O I m2,O I m3,O I m4]] w fun e w'=>e=Q (E V)/\Kp w w' Nul):=fun w=>(Y8 m1 m2 m3 m4 w).mono fun e w' h=>⟨hV ▸ h.1,Kp.of_gr h.2⟩
 have hBlt:=hB.lt;have HBk:Hid (∀k Z W1 W',ai k Z W1->Kp W1 W' (fun i=>(Z i∨False)∨i=w.heap.size+1)->Blk W1 Bn [O I m1,O I m2,O I m3,O I m4] 34->Blk W' Bn [O I m1,O I m2,O I m3,O I m4] 34):=fun k Z W1 W' hj hk hb=>hb.kp hk (fun e=>by
  rcases e with (e|e)|e
  ·exact hS ((hJZ _ _ _ hj).2 _ hBlt e)
  ·exact e
  ·omega)
 have HB:=h_ (hB.kp hkW (fun x=>x));have HJ:=h_ hJ;have HJ0:=h_ h0;have HY:=h_ hY;have HN:Hid (szN m1 m2 m3 m4=if V=J then wdA m2 m4*wdA m1 m3 else 0):=by show _=_;rw[<- hV];rfl
 have hb:=j0y m1 m2 m3 m4;rw[hV] at hb;obtain⟨l,hl⟩:=e_ (w.heap.size+1);rw[hl] at HY HBk ⊢;clear hB hkW hsz hJ hJZ hY h0 hl hBlt hS hV;refine(callsIn_wide (n:=9)).1 ?_;refine callsIn_of_wp func69 rfl trivial ?_ rfl;simp only[ntmps69,List.size_toArray,List.length_cons,List.length_nil,Nat.reduceAdd,Nat.reduceSub,Array.replicate_succ,Array.replicate_zero,List.push_toArray,List.append_toArray,List.nil_append,List.cons_append];have a0:=HB.o.c_ 0 rfl;have a1:=HB.o.c_ 1 rfl;have a2:=HB.o.c_ 2 rfl;have a3:=HB.o.c_ 3 rfl;have HBd:=h_ hb.1;clear hb
 gi_wp2_with (fail)
 refine⟨trivial,(callsIn_wide.2 (HV.o _)).mono ?_⟩;rintro e W1 ⟨rfl,hk⟩;have J1:Hid (∃Z,ai 0 Z W1):=⟨Z,HJ.o 0 Z W W1 HJ0.o hk⟩;have A1:=h_ (HB.o.kp hk (fun x=>x));clear hk a0 a1 a2 a3 HJ0 HJ HB HV;cases V with
 | false=>
  have HN0:Hid (∃Z',ai (szN m1 m2 m3 m4) Z' W1):=by
   show ∃_,_;rw[HN.o];exact J1.o
  gi_wp2_with (fail)
  refine bodyPost_ret (j1T rfl _ _) rfl ?_;exact⟨⟨_,rfl⟩,.inl HN0.o⟩
 | true=>
 obtain⟨b1,b2,b3,b4,b5,b6⟩:=HBd.o rfl;have HN1:=h_ HN.o;obtain⟨p,hp⟩:=e_ (wdA m1 m3);obtain⟨q,hq⟩:=e_ (wdA m2 m4);have hp':(p:Int)=m3-m1+1:=by rw[<- hp];unfold wdA;omega
 have hq':(q:Int)=m4-m2+1:=by rw[<- hq];unfold wdA;omega
 have HCK:Hid (∀x y:Nat,x<p->(m1+(x:Int),m2+(y:Int))=cK m1 m2 m3 (y*p+x)):=fun x y hx=>by
  subst hp;exact(j2t m1 m2 m3 x y hx).symm
 rw[hp,hq] at HN1;clear HN HBd hp hq;have a0:=A1.o.c_ 0 rfl;have a1:=A1.o.c_ 1 rfl;have a2:=A1.o.c_ 2 rfl;have a3:=A1.o.c_ 3 rfl
 gi_wp2_with (fail)
 clear a0 a1 a2 a3
 gi_loopw [3,4] (fun sr sc wr=>∃y:Nat,y<=q/\sr=O I (m2+y)/\(∃Z,ai (y*p) Z wr)/\Blk wr Bn [O I m1,O I m2,O I m3,O I m4] 34) (fun sr _ _=>(m4+1-RowKit.intOf sr).toNat)
 case atStart=>exact⟨0,Nat.zero_le _,by simp,by rw[Nat.zero_mul];exact J1.o,A1.o⟩
 case round=>
  obtain⟨y,hy,rfl,hJs,hnx⟩:=hrel;have JS:=h_ hJs;have NX:=h_ hnx;clear hJs hnx;have c0:=NX.o.c_ 0 rfl;have c3:=NX.o.c_ 3 rfl;by_cases hlt:y<q
  ·have hys:m2+(y:Int)<=m4:=by omega
   gi_wp2_with (fail)
   clear c0 c3
   gi_loopw [4] (fun sc wq=>∃x:Nat,x<=p/\sc=O I (m1+x)/\(∃Z,ai (y*p+x) Z wq)/\Blk wq Bn [O I m1,O I m2,O I m3,O I m4] 34) (fun sc _=>(m3+1-RowKit.intOf sc).toNat)
   case atStart=>exact⟨0,Nat.zero_le _,by simp,JS.o,NX.o⟩
   case round=>
    clear JS NX;obtain⟨x,hx,rfl,hJs,hnx⟩:=hrel;have NX:=h_ hnx;obtain⟨Zq,hJs⟩:=hJs;have JS:=h_ hJs;clear hJs hnx;have c2:=NX.o.c_ 2 rfl;by_cases hlx:x<p
    ·have hxs:m1+(x:Int)<=m3:=(by omega);obtain⟨fn,tmps,assign,body,hy',hR⟩:=HY.o (9-1) (y*p+x) (m1+(x:Int),m2+(y:Int)) Zq wr (by rw[HN1.o];exact j5Z hlx hlt) JS.o (HCK.o x y hlx)
     dsimp only [j1m] at hy'
     gi_wp2_with (fail)
     refine hR.mono ?_;rintro e W3 (⟨rfl,⟨Z3,hJ3,_⟩,hk3⟩|⟨rfl,hjx⟩)
     ·have J3:Hid (∃Z,ai (y*p+(x+1)) Z W3):=⟨Z3,hJ3⟩;have K3:=h_ (HBk.o _ _ _ _ JS.o hk3 NX.o);clear hJ3 hk3
      gi_wp2_with (fail)
      go_roundw
      case rel=>exact⟨x+1,by omega,by go_num,J3.o,K3.o⟩
      case measure=>simp only[RowKit.intOf];omega
     ·have HX:=h_ hjx;clear hjx
      gi_wp2_with (fail)
      refine bodyPost_ret (j1T rfl _ _) rfl ?_;exact⟨⟨_,rfl⟩,.inr HX.o⟩
    ·have hxe:x=p:=(by omega);subst hxe;have hxs:¬m1+(x:Int)<=m3:=(by omega);have JE:Hid (∃Z,ai ((y+1)*x) Z wr):=⟨Zq,by rw[Nat.add_mul,Nat.one_mul];exact JS.o⟩
     gi_wp2_with (fail)
     go_roundw
     case rel=>exact⟨y+1,by omega,by go_num,JE.o,NX.o⟩
     case measure=>simp only[RowKit.intOf];omega
  ·have hye:y=q:=(by omega);subst hye;have hys:¬m2+(y:Int)<=m4:=(by omega);have HE:Hid (∃Z',ai (szN m1 m2 m3 m4) Z' wr):=by show ∃_,_;rw[HN1.o];exact JS.o
   gi_wp2_with (fail)
   go_end0
   exact⟨⟨_,rfl⟩,.inl HE.o⟩
end
section
open Go.RowKit Go.Maps Go.Sort Go.Lib
def inL (m1 m2 m3 m4:Int) (L:List Cc):List Cc:=L.filter fun x=>inA m1 m2 m3 m4 x.1.1 x.1.2
theorem Q6 {m1 m2 m3 m4:Int}{L M:List Cc}{x:Cc}(h:inL m1 m2 m3 m4 L=M):x∈M↔x∈L/\inA m1 m2 m3 m4 x.1.1 x.1.2=J:=by rw[<- h];exact List.mem_filter
theorem j5c {m1 m2 m3 m4:Int}{L M:List Cc}{x:Cc}(h:inL m1 m2 m3 m4 L=M)(hx:x∈M):x∈L:=((Q6 h).1 hx).1
theorem jAP {m1 m2 m3 m4:Int}{L M:List Cc}{k:Int×Int}{a b:Ct}(h:inL m1 m2 m3 m4 L=M)(hx:(k,a)∈L)(hy:(k,b)∈M):(k,a)∈M:=(Q6 h).2 ⟨hx,((Q6 h).1 hy).2⟩
theorem j3G {m1 m2 m3 m4:Int}{L M:List Cc}(h:inL m1 m2 m3 m4 L=M)(ho:L.Pairwise (fun x y=>x.1≠y.1)):M.Pairwise (fun x y=>x.1≠y.1):=by rw[<- h];exact ho.filter _
theorem j5b {m1 m2 m3 m4:Int}{L M:List Cc}(h:inL m1 m2 m3 m4 L=M):M.length<=L.length:=by rw[<- h];exact List.length_filter_le _ _
structure FiA (m1 m2 m3 m4:Int) (w:World) (g:Nat) (mv:Option Nat) (r:Nat) (L:List Cc) (v:Value) (wr:World) (rem:List Cc) (acc:List (Int×Int)):Prop where
 un:UnR w w.heap.size mv r L.length (fun x=>inA m1 m2 m3 m4 x.1.1 x.1.2=J) (fun _=>False) L v wr rem acc
 row:wr.ownsRow (w.heap.size+1+1+1) 32 2 v acc.length (flatK encA 2 acc.toArray).toList
 b0:Blk wr w.heap.size [an (H ⟨g,0,G⟩)] 24
 b1:Blk wr (w.heap.size+1) [O I m1,O I m2,O I m3,O I m4] 34
 b2:Blk wr (w.heap.size+1+1) [v] 78
theorem j9v (g:Nat)(m1 m2 m3 m4:Int)(L M:List Cc)(hM:inL m1 m2 m3 m4 L=M)(w:World)(hg:GI 0 w g L)(lL:L.length<=4096)(sz:Int)(hsz:j0w m1 m2 m3 m4=sz)(hnl:¬sz<(L.length:Int)):
 Calls prog 134 #[an (H ⟨g,0,G⟩),T #[O I m1,O I m2,O I m3,O I m4]] w fun e w'=>∃aj v',e=Q v'/\U8 w.heap.size w' v' aj/\E9 aj/\(∀x,x∈aj↔∃a,(x,a)∈M)/\Kp w w' Nul:=by
 obtain⟨mv,bg,hlen⟩:=j1H hg;obtain⟨i0,hi,hz0,hz1,hz2⟩:=j3J;obtain⟨W3,hW3⟩:=e_ (((w.alloc (.cells #[an (H ⟨g,0,G⟩)] 24)).alloc (.cells #[O I m1,O I m2,O I m3,O I m4] 34)).alloc (.cells #[U G 0 0] 78));have k3:Kp w W3 Nul:=by rw[<- hW3];exact(((Kp.refl w Nul).alloc _).alloc _).alloc _
 have s3:W3.heap.size=w.heap.size+1+1+1:=by rw[<- hW3,World.size_alloc,World.size_alloc,World.size_alloc]
 have B0:Blk W3 w.heap.size [an (H ⟨g,0,G⟩)] 24:=by rw[<- hW3];exact((Blk.new w [an (H ⟨g,0,G⟩)] _).alloc _).alloc _
 have B1:Blk W3 (w.heap.size+1) [O I m1,O I m2,O I m3,O I m4] 34:=by
  have:=Blk.new (w.alloc (.cells #[an (H ⟨g,0,G⟩)] 24)) [O I m1,O I m2,O I m3,O I m4] 34;rw[World.size_alloc] at this;rw[<- hW3];exact this.alloc _
 have B2:Blk W3 (w.heap.size+1+1) [U G 0 0] 78:=by
  have:=Blk.new ((w.alloc (.cells #[an (H ⟨g,0,G⟩)] 24)).alloc (.cells #[O I m1,O I m2,O I m3,O I m4] 34)) [U G 0 0] 78;rw[World.size_alloc,World.size_alloc] at this;rw[<- hW3];exact this
 have HS:Hid (∀wq,Kp W3 wq Nul->wq.cell? ⟨w.heap.size,0,G⟩=H (an (H ⟨g,0,G⟩))/\wq.cell? ⟨w.heap.size+1,0,G⟩=H (O I m1)/\wq.cell? ⟨w.heap.size+1,1,G⟩=H (O I m2)/\wq.cell? ⟨w.heap.size+1,2,G⟩=H (O I m3)/\wq.cell? ⟨w.heap.size+1,3,G⟩=H (O I m4)/\wq.cell? ⟨g,0,G⟩=H (.map mv)/\∀ty,(Builtin.len_ #[94] ty #[.map mv]).run prog wq=.ok (O I L.length) wq):=fun wq k=>
  ⟨(B0.kp k (fun x=>x)).cell rfl,(B1.kp k (fun x=>x)).cell rfl,(B1.kp k (fun x=>x)).cell rfl,(B1.kp k (fun x=>x)).cell rfl,(B1.kp k (fun x=>x)).cell rfl,(bg.kp (k3.trans k) (fun x=>x)).cell rfl,hlen wq (k3.trans k)⟩
 have HSize:Hid (∀wq,Kp W3 wq Nul->Calls prog 152 #[T #[O I m1,O I m2,O I m3,O I m4]] wq fun e w'=>e=Q (O I sz)/\Kp W3 w' Nul):=fun wq k=>(j6E m1 m2 m3 m4 wq).mono fun e w' ⟨q1,q2⟩=>⟨hsz ▸ q1,k.trans (Kp.of_gr q2)⟩
 have HIn:Hid (∀c s wq,Calls prog 20 #[T #[O I m1,O I m2,O I m3,O I m4],T #[O I c,O I s]] wq fun e w'=>e=Q (E (inA m1 m2 m3 m4 c s))/\Kp wq w' Nul):=fun c s wq=>(j6D m1 m2 m3 m4 c s wq).mono fun e w' ⟨q1,q2⟩=>⟨q1,Kp.of_gr q2⟩
 have HG:=h_ hg;have HBg:=h_ bg;have HLL:=h_ lL;have HMM:=h_ hM;have HW3:=h_ hW3;have HK3:=h_ k3;have HS3:=h_ s3;have HB0:=h_ B0;have HB1:=h_ B1;have HB2:=h_ B2;clear hg bg hlen lL hM hsz hW3 k3 s3 B0 B1 B2;go_enter func134,ntmps134;go_wp2_with fail;rw[HW3.o];clear HW3;refine wp_region_noPanic ?_;refine j7a (W:=W3) (Kp.refl _ _) (by kernel_rfl) (by kernel_rfl) ?_;refine Q9 (H 8) rfl ?_ (by rfl) ?_ ?_;rotate_left
 ·intro w' hk;obtain⟨s0,s1,s2,s3,s4,s5,s6⟩:=HS.o _ hk;clear hk;go_simp;try with_reducible rfl
 simp only[Act.put,Sz0,Sz1,Sz2];refine j6Q (H 9) rfl 152 #[T #[O I m1,O I m2,O I m3,O I m4]] (O I sz) (by rfl) (fun w'=>by go_simp) (fun w' hk=>HSize.o w' hk) ?_;simp only[Act.put,Sz0,Sz1,Sz2];refine Q9 (H 10) rfl ?_ (by rfl) ?_ ?_;rotate_left
 ·intro w' hk;obtain⟨s0,s1,s2,s3,s4,s5,s6⟩:=HS.o _ hk;clear hk;go_simp;try with_reducible rfl
 simp only[Act.put,Sz0,Sz1,Sz2];refine Q9 (H 11) rfl ?_ (by rfl) ?_ ?_;rotate_left
 ·intro w' hk;obtain⟨s0,s1,s2,s3,s4,s5,s6⟩:=HS.o _ hk;clear hk;go_simp;try with_reducible rfl
 simp only[Act.put,Sz0,Sz1,Sz2];refine Q9 (H 12) rfl ?_ (by rfl) ?_ ?_;rotate_left
 ·intro w' hk;obtain⟨s0,s1,s2,s3,s4,s5,s6⟩:=HS.o _ hk;clear hk;go_simp;try with_reducible rfl
 simp only[Act.put,Sz0,Sz1,Sz2];refine Q9 (H 13) rfl ?_ (by rfl) ?_ ?_;rotate_left
 ·intro w' hk;obtain⟨s0,s1,s2,s3,s4,s5,s6⟩:=HS.o _ hk;clear hk;go_simp;try with_reducible rfl
 simp only[Act.put,Sz0,Sz1,Sz2];refine Q9 (H 14) rfl ?_ (by rfl) ?_ ?_;rotate_left
 ·intro w' hk;obtain⟨s0,s1,s2,s3,s4,s5,s6⟩:=HS.o _ hk;clear hk;go_simp;try with_reducible rfl
 simp only[Act.put,Sz0,Sz1,Sz2];refine Q9 (H 15) rfl (E R) (by rfl) ?_ ?_
 ·intro w' hk;clear hk;go_simp;try simp[hnl]
 simp only[Act.put,Sz0,Sz1,Sz2];refine wpQuiet_nil ?_;intro w2 hk2;refine NoPanic.normal ?_;obtain⟨c0,_,_,_,_,c5,_⟩:=HS.o w2 hk2;have HLow:=h_ (HG.o.low.kp (HK3.o.trans hk2));have HBg2:=h_ (HBg.o.kp (HK3.o.trans hk2) (fun x=>x));have HKW:=h_ hk2;clear hk2 hnl HS HSize;go_wp2_with (first
  | (at_range;refine j7Z _ rfl _ rfl g L mv w.heap.size rfl HLow.o HBg2.o ?_;intro w0 hrg0 hg0 hs0)
  | fail)
 have HStart:Hid (FiA m1 m2 m3 m4 w g mv w2.heap.size L (U G 0 0) w0 L []):=by
  have k0:Kp w2 w0 Nul:=Kp.of_grown hg0 (fun i e=>by cases e);have k30:=HKW.o.trans k0;have r0:∀B,w0.ownsRow B 32 2 (U G 0 0) ([]:List (Int×Int)).length (flatK encA 2 ([]:List (Int×Int)).toArray).toList:=fun B=>⟨by simp[flatK],.inl ⟨rfl,rfl⟩⟩
  refine⟨⟨hrg0,r0 _,by simp,List.nodup_nil,fun x=>⟨fun h=>by simp at h,fun h=>?_⟩,fun x h=>h,HK3.o.trans k30⟩,r0 _,HB0.o.kp k30 (fun x=>x),HB1.o.kp k30 (fun x=>x),HB2.o.kp k30 (fun x=>x)⟩;rcases h with h|⟨b,h1,h2,_⟩
  ·exact h.elim
  ·exact absurd h1 h2
 have HAr:Hid (w.heap.size+1+1+1<=w2.heap.size):=by show _<=_;have:=HKW.o.size;have:=HS3.o;omega
 clear hrg0 hg0 hs0 c0 c5 HLow HBg2 HKW HB0 HB1 HB2 HS3 HK3
 go_frame
 obtain⟨r2,hr2⟩:=e_ w2.heap.size;rw[hr2] at HStart HAr;rw[hr2];clear hr2;go_loopw[] (fun wr=>∃v rem acc,FiA m1 m2 m3 m4 w g mv r2 L v wr rem acc) (fun wr=>glen wr mv r2)
 case atStart=>exact⟨_,L,[],HStart.o⟩
 case round=>
  clear HStart;obtain⟨v,rem,acc,hfi⟩:=hrel;have HF:=h_ hfi;have HRG:=h_ hfi.un.rg;have hA2:w.heap.size<=r2:=by have:=HAr.o;omega
  clear hfi;go_wp2_with (first
   | (at_next;refine j7Y _ rfl _ rfl w.heap.size mv r2 rem rfl HRG.o hA2 ?_ ?_)
   | fail)
  ·intro hr0;have d2:=HF.o.b2.c_ 0 rfl;have HSort:Hid (Calls prog 153 #[v,.func (.func 154) #[] #[]] wr fun e w'=>e=Q (au #[])/\U8 w.heap.size w' v (acc.mergeSort fun x y=>!(ltOf cfA) y x)/\Kp w w' Nul/\w'.cell? ⟨w.heap.size+1+1,0,G⟩=H v):=by
    have hacc:acc.length<=1048576:=(by have:=HF.o.un.len;have:=HLL.o;omega);refine(jE4 acc v (w.heap.size+1+1+1) wr hacc (j6A rfl HF.o.row)).mono ?_;rintro e w' ⟨rfl,h1,h2⟩;exact⟨rfl,(j69 h1).down (by omega),HF.o.un.kp.trans' h2 (fun i hi e=>absurd e (by omega)),(HF.o.b2.kp h2 (by omega)).cell rfl⟩
   have HM2:Hid (∀x,x∈(acc.mergeSort fun x y=>!(ltOf cfA) y x)↔∃a,(x,a)∈M):=fun x=>by
    rw[List.mem_mergeSort,HF.o.un.mem,hr0];constructor
    ·rintro(h|⟨b,h1,_,h3⟩)
     ·exact h.elim
     ·exact⟨b,(Q6 HMM.o).2 ⟨h1,h3⟩⟩
    ·rintro⟨a,h⟩;exact .inr ⟨a,((Q6 HMM.o).1 h).1,by simp,((Q6 HMM.o).1 h).2⟩
   have HST:=h_ (j5s HF.o.un.nodup);clear hr0 HF HRG hA2;go_wp2_with fail;refine HSort.o.mono ?_;rintro e w' ⟨rfl,hcf,hk,d3⟩;go_wp2_with fail;go_ret;exact⟨_,_,rfl,hcf,HST.o,HM2.o,hk⟩
  ·intro c s ct sl w1 hmem hin hrg1 hlt1 hgr1 hsz1 hen;have k1:Kp wr w1 (fun i=>i=r2):=Kp.of_grown hgr1 (fun i e=>by cases e;rfl);have HK1:=h_ (HF.o.un.kp.trans' k1 (fun i hi e=>by have:i=r2:=e;omega));have hne:=jDY HRG.o HF.o.un.row;have HNE:=h_ hne;have HRow1:Hid (w1.ownsRow (w.heap.size+1+1+1) 32 2 v acc.length (flatK encA 2 acc.toArray).toList):=HF.o.row.kept hgr1 (.inr hne);have hr3:=HAr.o;have b0:=HF.o.b0.kp k1 (fun e=>by have:w.heap.size=r2:=e;omega);have b1:=HF.o.b1.kp k1 (fun e=>by have:w.heap.size+1=r2:=e;omega);have b2:=HF.o.b2.kp k1 (fun e=>by have:w.heap.size+1+1=r2:=e;omega);have HB0:=h_ b0;have HB1:=h_ b1;have HB2:=h_ b2;have d0:(w1.alloc (.cells #[O I c,O I s] 32)).cell? ⟨w.heap.size+1,0,G⟩=H (O I m1):=(b1.alloc _).cell rfl;have d1:(w1.alloc (.cells #[O I c,O I s] 32)).cell? ⟨w.heap.size+1,1,G⟩=H (O I m2):=(b1.alloc _).cell rfl
   have d2:(w1.alloc (.cells #[O I c,O I s] 32)).cell? ⟨w.heap.size+1,2,G⟩=H (O I m3):=(b1.alloc _).cell rfl;have d3:(w1.alloc (.cells #[O I c,O I s] 32)).cell? ⟨w.heap.size+1,3,G⟩=H (O I m4):=(b1.alloc _).cell rfl;have HG1:Hid (GRg w1 w.heap.size mv r2 (rem.filter (fun x=>decide (x.1≠(c,s))))):=(by show GRg _ _ _ _ _;simpa using hrg1);have HLT:=h_ hlt1;have HMEM:=h_ hmem;have HA3:Hid (∀wq,Kp (w1.alloc (.cells #[O I c,O I s] 32)) wq Nul->wq.cell? ⟨w1.heap.size,0,G⟩=H (O I c)/\wq.cell? ⟨w1.heap.size,1,G⟩=H (O I s)/\wq.cell? ⟨w.heap.size+1+1,0,G⟩=H v):=fun wq k=>⟨((Blk.new w1 [O I c,O I s] 32).kp k (fun x=>x)).cell rfl,((Blk.new w1 [O I c,O I s] 32).kp k (fun x=>x)).cell rfl,(HB2.o.kp (((Kp.refl w1 Nul).alloc _).trans k) (fun x=>x)).cell rfl⟩
   clear hne k1 hrg1 hlt1 hgr1 hsz1 hmem hin b0 b1 b2 hr3 hA2;go_wp2_with fail;obtain⟨ab,hI⟩:=e_ (inA m1 m2 m3 m4 c s);have HI:=h_ hI;have HIc:=HIn.o c s (w1.alloc (.cells #[O I c,O I s] 32));rw[hI] at HIc;clear hI;refine HIc.mono ?_;clear HIc;rintro e w3 ⟨rfl,hk3⟩;obtain⟨q0,q1,q2⟩:=HA3.o w3 hk3;have hk13:Kp w1 w3 Nul:=((Kp.refl w1 Nul).alloc _).trans hk3;have HK3:=h_ (HK1.o.trans hk13);have HK13:=h_ hk13;have HRow3:=h_ (j0u HRow1.o hk13 (fun i _ e=>e));have HB4:Hid (Blk (w3.alloc (.cells #[O I c,O I s] 32)) w3.heap.size [O I c,O I s] 32):=Blk.new w3 [O I c,O I s] _;have HRow4:Hid ((w3.alloc (.cells #[O I c,O I s] 32)).ownsRow (w.heap.size+1+1+1) 32 2 v acc.length (flatK encA 2 acc.toArray).toList):=HRow3.o.alloc _;have HLEN:Hid (acc.length<=4096):=by show _<=_;have:=HF.o.un.len;have:=HLL.o;omega
   have HB30:=HB0.o.kp hk13 (fun x=>x);have HB3':Hid (Blk w3 w.heap.size [an (H ⟨g,0,G⟩)] 24/\Blk w3 (w.heap.size+1) [O I m1,O I m2,O I m3,O I m4] 34/\Blk w3 (w.heap.size+1+1) [v] 78):=⟨HB30,HB1.o.kp hk13 (fun x=>x),HB2.o.kp hk13 (fun x=>x)⟩;clear hk3 hk13 HA3 HRow1 HB0 HB1 HB2 HB30 d0 d1 d2 d3;cases ab with
   | false=>
    have HNP:Hid (¬inA m1 m2 m3 m4 c s=J):=(by show ¬_;rw[HI.o];exact Bool.false_ne_true);have HF6:Hid (FiA m1 m2 m3 m4 w g mv r2 L v w3 (rem.filter (fun x=>decide (x.1≠(c,s)))) acc):=by
     have b16:Below w.heap.size w1 w3:=⟨HK13.o.os,HK13.o.tape,HK13.o.output,HK13.o.size,fun i hi=>HK13.o.block i (by have:=HK1.o.size;omega) (fun e=>e)⟩;have r16:=HK13.o.block r2 HG1.o.lt (fun e=>e);exact⟨HF.o.un.skip HMEM.o HNP.o HG.o.once (HG1.o.keep b16 r16) (j6k HRow3.o (by omega)) HK3.o,HRow3.o,HB3'.o.1,HB3'.o.2.1,HB3'.o.2.2⟩
    have HME:Hid (glen w3 mv r2<glen wr mv r2):=by
     have b16:Below w.heap.size w1 w3:=⟨HK13.o.os,HK13.o.tape,HK13.o.output,HK13.o.size,fun i hi=>HK13.o.block i (by have:=HK1.o.size;omega) (fun e=>e)⟩;have r16:=HK13.o.block r2 HG1.o.lt (fun e=>e);show _<_;rw[HG1.o.glen b16 r16];exact HLT.o
    clear HB3' HRow3 HRow4 HB4;go_wp2_with fail;go_roundw
    case rel=>exact⟨_,_,_,HF6.o⟩
    case measure=>exact HME.o
   | true=>
   go_wp2_with (at_builtin;refine wpList_append_own _ rfl _ _ 78 rfl (w.heap.size+1+1+1) 32 i0 _ 2 16 underlying78 hi hz0 hz1 hz2 rfl (by decide) _ _ _ rfl HRow4.o ⟨w3.heap.size,0,G⟩ 1 1 (encA (c,s)) rfl ?qc1 ?qc2 ?qc3 ?qc4 ?qc5 ?qc6 ?_)
   case qc1=>rfl
   case qc2=>
    intro j u hj;first
    | exact hj
    | (rw[Addr.add_lit,Nat.zero_add];exact HB4.o.at'.trans hj)
   case qc3=>exact j32 _
   case qc4=>have:=HLEN.o;unfold maxLen;omega
   case qc5=>have:=HLEN.o;omega
   case qc6=>rw[World.size_alloc];have:=HB3'.o.2.2.lt;omega
   intro v5 w5 hrow5 hg5 hnil5;have hob:=j0p HRow4.o;have k45:=Kp.of_grown (S:=fun i=>v.ownBlock=H i) hg5 (fun i e=>e);have k35:Kp w3 w5 (fun i=>v.ownBlock=H i):=((Kp.refl w3 _).alloc _).trans k45;have HB5:Hid (Blk w5 w.heap.size [an (H ⟨g,0,G⟩)] 24/\Blk w5 (w.heap.size+1) [O I m1,O I m2,O I m3,O I m4] 34/\Blk w5 (w.heap.size+1+1) [v] 78):=⟨HB3'.o.1.kp k35 (fun e=>by have:=hob _ e;omega),HB3'.o.2.1.kp k35 (fun e=>by have:=hob _ e;omega),HB3'.o.2.2.kp k35 (fun e=>by have:=hob _ e;omega)⟩;have HK35:=h_ k35;have HOB:=h_ hob;have HRow5:=h_ hrow5;have O5:=h_ (jDZ hrow5);clear hrow5 hg5 hnil5 k45 k35 hob HB4 HRow4 HB3';go_wp2_with (first
    | (refine L9 rfl 78 (.tmp 5) (.tmp 42) rfl (w.heap.size+1+1) rfl v5 rfl O5.o 78 v HB5.o.2.2 (by kernel_rfl) ?_;intro w6 hb6 hk6)
    | fail)
   have k36:Kp w3 w6 (fun i=>v.ownBlock=H i∨i=w.heap.size+1+1):=(HK35.o.mono (fun i _ e=>.inl e)).trans' hk6 (fun i _ e=>.inr e);have hr2:=HAr.o;have hr1:=HG1.o.lt;have hb3:=HK13.o.size;have HK6:Hid (Kp w w6 Nul):=HK3.o.trans' k36 (fun i hi e=>by
    rcases e with e|e
    ·have:=HOB.o i e;omega
    ·omega)
   have k16:=HK13.o.of_nul.trans k36;have b16:Below w.heap.size w1 w6:=⟨k16.os,k16.tape,k16.output,k16.size,fun i hi=>k16.block i (by have:=HK1.o.size;omega) (fun e=>by
    rcases e with e|e
    ·have:=HOB.o i e;omega
    ·omega)⟩
   have r16:w6.heap[r2]? = w1.heap[r2]?:=k16.block r2 hr1 (fun e=>by
    rcases e with e|e
    ·exact HNE.o e
    ·omega)
   have hrow6:=j0u HRow5.o hk6 (fun i hi e=>by have:i=w.heap.size+1+1:=e;omega);have HF6:Hid (FiA m1 m2 m3 m4 w g mv r2 L v5 w6 (rem.filter (fun x=>decide (x.1≠(c,s)))) (acc++[(c,s)])):=by
    refine⟨HF.o.un.take HMEM.o HI.o HG.o.once (fun h=>h) (HG1.o.keep b16 r16) (j6k hrow6 (by omega)) HK6.o,?_,HB5.o.1.kp hk6 (fun e=>by have:w.heap.size=w.heap.size+1+1:=e;omega),HB5.o.2.1.kp hk6 (fun e=>by have:w.heap.size+1=w.heap.size+1+1:=e;omega),hb6⟩;rw[j37,List.length_append];exact hrow6
   have HME:Hid (glen w6 mv r2<glen wr mv r2):=(by show _<_;rw[HG1.o.glen b16 r16];exact HLT.o);clear k36 hr2 hr1 hb3 k16 b16 r16 hrow6 hb6 hk6;go_wp2_with fail;go_roundw
   case rel=>exact⟨_,_,_,_,_,_,_,_,_,_,_,_,⟨_,_,_,HF6.o⟩,rfl⟩
   case measure=>exact HME.o
end
section
open Go.RowKit Go.Maps
def G9 (M:List Cc) (p:Int×Int):Bool:=decide (M.length<4096)||M.any (fun x=>x.1==p)
theorem O4 {M:List Cc}{p:Int×Int}:G9 M p=J↔(M.length<4096∨∃c',(p,c')∈M):=by
 unfold G9;simp only[Bool.or_eq_true,decide_eq_true_eq,List.any_eq_true,beq_iff_eq];constructor
 ·rintro(h|⟨x,h,e⟩)
  ·exact .inl h
  ·exact .inr ⟨x.2,by rw[<- e];exact h⟩
 ·rintro(h|⟨c',h⟩)
  ·exact .inl h
  ·exact .inr ⟨_,h,rfl⟩
def pts (M:List Cc):List Cc->Option (List Cc)
 | []=>H M
 | y::ys=>if G9 M y.1=J then pts (putL M y.1 y.2) ys else G
theorem j0s:∀(ys zs:List Cc) (M:List Cc),pts M (ys++zs)=(pts M ys).bind (fun M'=>pts M' zs)
 | [],zs,M=>rfl
 | y::ys,zs,M=>by
  show (if _ then _ else _)=(if _ then _ else _:Option (List Cc)).bind _;split
  ·exact j0s ys zs _
  ·rfl
theorem j3c {ys M M':List Cc}{k:Nat}{y:Cc}(h:pts M (ys.take k)=H M')(hy:ys[k]? = H y)(hr:G9 M' y.1=J):pts M (ys.take (k+1))=H (putL M' y.1 y.2):=by
 rw[List.take_add_one,hy,j0s,h];show pts M' [y]=_;rw[pts,if_pos hr,pts]
theorem j3b {ys M M':List Cc}{k:Nat}{y:Cc}(h:pts M (ys.take k)=H M')(hy:ys[k]? = H y)(hr:¬G9 M' y.1=J):pts M ys=G:=by
 have hk:k<ys.length:=(List.getElem?_eq_some_iff.1 hy).1;have e:ys=ys.take (k+1)++ys.drop (k+1):=(List.take_append_drop _ _).symm;rw[e,j0s,List.take_add_one,hy,j0s,h];show ((pts M' [y]).bind _)=G;rw[pts,if_neg hr]
 rfl
end
end Go.Proofs.YtecjfnkakodebaaGreatDoor
