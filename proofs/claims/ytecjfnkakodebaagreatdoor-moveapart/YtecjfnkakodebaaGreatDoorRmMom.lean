/-The document's goal and put (quadrilleref22). -/
import Derived.Test.YtecjfnkakodebaaGreatDoorRmPnd
import Derived.Test.YtecjfnkakodebaaGreatDoorRmMod
import Derived.Test.YtecjfnkakodebaaGreatDoorRmMyf
open Go.Proofs.Tryz
open Go.Value renaming int->O,bool->E,slice->U,agg->T,pointer->an,float->ap,string->aq,tuple->au
open Go.IntKind renaming i64->I
open Bool renaming false->R,true->J
open Option renaming some->H,none->G
open Go.Ending renaming returned->Q
open Go.FloatKind renaming f64->ao
set_option maxRecDepth 20000
set_option maxHeartbeats 32000000
namespace Go.Proofs.YtecjfnkakodebaaGreatDoor
section
open Go.RowKit Go.Maps Go.Sort Go.Lib Go.Shelf
theorem lay1 (w:World)(c0:List Value)(t0:TypeId):∃W,(w.alloc (.cells c0.toArray t0))=W/\Kp w W Nul/\Blk W (w.heap.size) c0 t0/\W.heap.size=w.heap.size+1:=by
 exact⟨_,rfl,(Kp.refl _ _).alloc _,Blk.new _ _ _,World.size_alloc _ _⟩
theorem lay2 (w:World)(c0 c1:List Value)(t0 t1:TypeId):∃W,((w.alloc (.cells c0.toArray t0)).alloc (.cells c1.toArray t1))=W/\Kp w W Nul/\Blk W (w.heap.size) c0 t0/\Blk W (w.heap.size+1) c1 t1/\W.heap.size=w.heap.size+2:=by
 obtain⟨aj,h,k,b0,s⟩:=lay1 w c0 t0;rw[h];refine⟨_,rfl,k.alloc _,b0.alloc _,?_,by rw[World.size_alloc,s]⟩;rw[<- s];exact Blk.new _ _ _
theorem lay3 (w:World)(c0 c1 c2:List Value)(t0 t1 t2:TypeId):∃W,(((w.alloc (.cells c0.toArray t0)).alloc (.cells c1.toArray t1)).alloc (.cells c2.toArray t2))=W/\Kp w W Nul/\Blk W (w.heap.size) c0 t0/\Blk W (w.heap.size+1) c1 t1/\Blk W (w.heap.size+2) c2 t2/\W.heap.size=w.heap.size+3:=by
 obtain⟨aj,h,k,b0,b1,s⟩:=lay2 w c0 c1 t0 t1;rw[h];refine⟨_,rfl,k.alloc _,b0.alloc _,b1.alloc _,?_,by rw[World.size_alloc,s]⟩;rw[<- s];exact Blk.new _ _ _
theorem lay4 (w:World)(c0 c1 c2 c3:List Value)(t0 t1 t2 t3:TypeId):∃W,((((w.alloc (.cells c0.toArray t0)).alloc (.cells c1.toArray t1)).alloc (.cells c2.toArray t2)).alloc (.cells c3.toArray t3))=W/\Kp w W Nul/\Blk W (w.heap.size) c0 t0/\Blk W (w.heap.size+1) c1 t1/\Blk W (w.heap.size+2) c2 t2/\Blk W (w.heap.size+3) c3 t3/\W.heap.size=w.heap.size+4:=by
 obtain⟨aj,h,k,b0,b1,b2,s⟩:=lay3 w c0 c1 c2 t0 t1 t2;rw[h];refine⟨_,rfl,k.alloc _,b0.alloc _,b1.alloc _,b2.alloc _,?_,by rw[World.size_alloc,s]⟩;rw[<- s];exact Blk.new _ _ _
theorem Q8 (g:Nat)(w:World):(binOp .eql 25 (an (H ⟨g,0,G⟩)) (an G)).run prog w=.ok (E R) w:=by
 simp[go_sem]
theorem j6Y (A:Ar4)(t:Int×Int)(p q:Int)(V1 V2:Bool)(w:World)(hp:wrap64 (wrap64 (t.1+A.2.1)-A.1.1)=p)(hq:wrap64 (wrap64 (t.2+A.2.2)-A.1.2)=q)(h1:vC t.1 t.2=V1)(h2:vC p q=V2):
 Calls prog 74 #[T #[O I A.1.1,O I A.1.2,O I A.2.1,O I A.2.2],T #[O I t.1,O I t.2]] w fun e w'=>e=Q (au #[T (if V1=J then #[O I t.1,O I t.2,O I p,O I q] else #[O I 0,O I 0,O I 0,O I 0]),E (V1&&V2)])/\Kp w w' Nul:=by
 have HV1:Hid (∀wq,Calls prog 49 #[T #[O I t.1,O I t.2]] wq fun e w'=>e=Q (E V1)/\Kp wq w' Nul):=fun wq=>by rw[<- h1];exact(j0t _ _ wq).mono fun e w' z=>⟨z.1,Kp.of_gr z.2⟩
 have HV2:Hid (∀wq,Calls prog 49 #[T #[O I p,O I q]] wq fun e w'=>e=Q (E V2)/\Kp wq w' Nul):=fun wq=>by rw[<- h2];exact(j0t _ _ wq).mono fun e w' z=>⟨z.1,Kp.of_gr z.2⟩
 have HP:Hid (wrap64 (wrap64 (t.1+A.2.1)-A.1.1)=p/\wrap64 (wrap64 (t.2+A.2.2)-A.1.2)=q):=⟨hp,hq⟩;obtain⟨W0,hW0,kW0,b0,b1,b2,sW0⟩:=lay3 w ([O I A.1.1,O I A.1.2,O I A.2.1,O I A.2.2]) ([O I t.1,O I t.2]) ([O I 0,O I 0,O I 0,O I 0]) 34 32 34;have HW0:=h_ hW0;have KW0:=h_ kW0;have SW0:=h_ sW0;have B0:=k_ b0;have B1:=k_ b1;have B2:=k_ b2;clear hW0 kW0 sW0 b0 b1 b2;clear hp hq h1 h2;go_enter func74,ntmps74;go_wp2_with (first
  | (rw[HW0.o])
  | (refine wpList_load_mid rfl _ _ rfl _ _ rfl _ _ (j5 (B1.o _ (Kp.refl _ _))) underlying32 rfl F5 ?_)
  | fail)
 refine(HV1.o _).mono ?_;rintro e w1 ⟨rfl,hk1⟩;have K1:=h_ hk1;clear hk1;cases V1 with
 | false=>
  have HB1:=h_ (B2.o w1 K1.o);clear HP HV1 HV2;go_wp2_with (first
   | (refine D5 rfl _ (.tmp 4) (.tmp 13) rfl _ _ [O I 0,O I 0,O I 0,O I 0] _ HB1.o rfl rfl rfl D7 (by simp[Value.oneCell']) ?_;intro W5 hb5 hk5)
   | fail)
  refine bodyPost_ret (R9 rfl _ _ (w.heap.size+2) 34 _ (0,0) _ rfl hb5 underlying34 rfl D7) rfl ?_;exact⟨by simp,(KW0.o.trans K1.o).trans' hk5 (fun i hi e=>by have e':i=w.heap.size+2:=e;omega)⟩
 | true=>
  have a0:=(B0.o w1 K1.o).c_ 0 rfl;have a1:=(B0.o w1 K1.o).c_ 1 rfl;have a2:=(B0.o w1 K1.o).c_ 2 rfl;have a3:=(B0.o w1 K1.o).c_ 3 rfl;have c0:=(B1.o w1 K1.o).c_ 0 rfl;have c1:=(B1.o w1 K1.o).c_ 1 rfl;clear HV1;go_wp2_with fail
  (try simp only[HP.o.1,HP.o.2])
  refine(HV2.o _).mono ?_;rintro e w2 ⟨rfl,hk2⟩;have kA:Kp w1 (w1.alloc (.cells #[O I p,O I q] 32)) Nul:=(Kp.refl w1 Nul).alloc _;have K2:=h_ ((K1.o.trans kA).trans hk2);have HN:=h_ ((Blk.new w1 [O I p,O I q] 32).kp hk2 (fun x=>x));have HB2:=h_ (B2.o w2 K2.o);clear hk2 kA a0 a1 a2 a3 c0 c1 HP HV2;go_wp2_with (first
   | (refine wpList_load_mid rfl _ (.tmp 3) rfl _ 0 rfl _ _ (j5 (B1.o _ K2.o)) underlying32 rfl F5 ?_)
   | (refine wpList_load_mid rfl _ (.tmp 7) rfl _ 0 rfl _ _ (j5 HN.o) underlying32 rfl F5 ?_)
   | (refine D5 rfl _ (.tmp 4) (.tmp 39) rfl _ _ [O I t.1,O I t.2,O I p,O I q] _ HB2.o rfl rfl rfl D7 (by simp[Value.oneCell']) ?_;intro W5 hb5 hk5)
   | fail)
  refine bodyPost_ret (R9 rfl _ _ (w.heap.size+2) 34 _ (0,0) _ rfl hb5 underlying34 rfl D7) rfl ?_;exact⟨by simp,(KW0.o.trans K2.o).trans' hk5 (fun i hi e=>by have e':i=w.heap.size+2:=e;omega)⟩
theorem j6a (A:Ar4)(t:Int×Int)(w:World)(hA:Ar4.ok A=J)(hf:fits A t=J):
 Calls prog 74 #[T #[O I A.1.1,O I A.1.2,O I A.2.1,O I A.2.2],T #[O I t.1,O I t.2]] w fun e w'=>e=Q (au #[T #[O I (mvTo A t).1.1,O I (mvTo A t).1.2,O I (mvTo A t).2.1,O I (mvTo A t).2.2],E J])/\Kp w w' Nul:=by
 have h1:=(I2 A).1 hA;have h2:=(I2 _).1 (show Ar4.ok (mvTo A t)=J from hf);unfold mvTo at h2 ⊢;simp only at h2 ⊢;have e1:wrap64 (wrap64 (t.1+A.2.1)-A.1.1)=A.2.1+t.1-A.1.1:=by unfold wrap64;omega
 have e2:wrap64 (wrap64 (t.2+A.2.2)-A.1.2)=A.2.2+t.2-A.1.2:=by unfold wrap64;omega
 have v1:vC t.1 t.2=J:=by rw[G6];omega
 have v2:vC (A.2.1+t.1-A.1.1) (A.2.2+t.2-A.1.2)=J:=by rw[G6];omega
 exact j6Y A t _ _ J J w e1 e2 v1 v2
theorem j6Z (A:Ar4)(t:Int×Int)(w:World)(hA:Ar4.ok A=J)(hf:¬fits A t=J):
 Calls prog 74 #[T #[O I A.1.1,O I A.1.2,O I A.2.1,O I A.2.2],T #[O I t.1,O I t.2]] w fun e w'=>∃z1 z2 z3 z4:Int,e=Q (au #[T #[O I z1,O I z2,O I z3,O I z4],E R])/\Kp w w' Nul:=by
 obtain⟨p,hp⟩:=e_ (wrap64 (wrap64 (t.1+A.2.1)-A.1.1));obtain⟨q,hq⟩:=e_ (wrap64 (wrap64 (t.2+A.2.2)-A.1.2));refine(j6Y A t p q _ _ w hp hq rfl rfl).mono ?_;rintro e w' ⟨rfl,k⟩;cases h1:vC t.1 t.2 with
 | false=>exact⟨0,0,0,0,by simp,k⟩
 | true=>
  have h2:vC p q=R:=by
   cases h2:vC p q with
   | false=>rfl
   | true=>
    refine absurd ?_ hf;have hA':=(I2 A).1 hA;rw[G6] at h1 h2;have e1:p=A.2.1+t.1-A.1.1:=(by rw[<- hp];unfold wrap64;omega);have e2:q=A.2.2+t.2-A.1.2:=(by rw[<- hq];unfold wrap64;omega);show Ar4.ok (mvTo A t)=J;rw[I2];unfold mvTo;simp only;omega
  rw[h2];exact⟨t.1,t.2,p,q,by simp,k⟩
theorem jDd (g:Nat)(c s t1 t2 d1 d2:Int)(p1 p2 p3 p4 p5:Value)(cs:List Value)(cs':Value->List Value)(h15:cs.length=15)(h15':∀v,(cs' v).length=15)(am:Value->World->Prop)(af:Int->World->Prop)(w:World)
 (hd1:wrap64 (c-t1)=d1) (hd2:wrap64 (s-t2)=d2) (hone:∀v w',am v w'->(cs' v).toArray.all (·.oneCell')=J)
 (HS:Hid (∀wq,Kp w wq Nul->w.heap.size<wq.heap.size->Calls prog 113 #[T cs.toArray,O I d1,O I d2] wq fun e w'=>∃v,e=Q (au #[T (cs' v).toArray,O I 0])/\am v w'/\Kp wq w' Nul))
 (HP:Hid (∀v wq wr,am v wq->w.heap.size<=wq.heap.size->Kp w wr Nul->Kp wq wr (fun i=>i=w.heap.size)->Calls prog 12 #[an (H ⟨g,0,G⟩),T #[O I c,O I s],T (O I 2::p1::p2::p3::p4::p5::cs' v).toArray] wr fun e w'=>∃er,e=Q (O I er)/\af er w')) :
 Calls prog 77 #[an (H ⟨g,0,G⟩),T (O I 2::p1::p2::p3::p4::p5::cs).toArray,T #[O I t1,O I t2],T #[O I c,O I s]] w fun e w'=>∃er,e=Q (O I er)/\af er w':=by
 obtain⟨W0,hW0,kW0,b0,b1,b2,sW0⟩:=lay3 w ((O I 2::p1::p2::p3::p4::p5::cs)) ([O I t1,O I t2]) ([O I c,O I s]) 50 32 32;have HW0:=h_ hW0;have KW0:=h_ kW0;have SW0:=h_ sW0;have B0:=k_ b0;have B1:=k_ b1;have B2:=k_ b2;clear hW0 kW0 sW0 b0 b1 b2;have HR:=h_ (J4 (pre:=[O I 2,p1,p2,p3,p4,p5]) (l:=cs) (post:=[]) (t:=50) (fr:=(0,0)) (by rw[List.append_nil];exact B0.o _ (Kp.refl _ _)));have HI:Hid ((prog.info? 48).map (·.size)=H cs.length):=by show _=_;rw[j3,h15]
 have HIv:Hid (∀v,(prog.info? 48).map (·.size)=H (cs' v).length):=fun v=>by rw[j3,h15']
 have HIc:Hid (∀v,(prog.info? 50).map (·.size)=H (O I 2::p1::p2::p3::p4::p5::cs' v).length):=fun v=>by rw[D9];simp[h15' v]
 have HL:Hid (∀v,cs.length=(cs' v).length):=fun v=>by rw[h15,h15']
 have HOne:=h_ hone;have c0:=(B0.o _ (Kp.refl _ _)).c_ 0 rfl;have a0:=(B1.o _ (Kp.refl _ _)).c_ 0 rfl;have a1:=(B1.o _ (Kp.refl _ _)).c_ 1 rfl;have e0:=(B2.o _ (Kp.refl _ _)).c_ 0 rfl;have e1:=(B2.o _ (Kp.refl _ _)).c_ 1 rfl;have H15:=h_ h15';clear h15 h15' hone;go_enter func77,ntmps77;go_wp2_with (first
  | (rw[HW0.o])
  | (refine wpList_load_mid rfl _ _ rfl _ _ rfl _ _ HR.o underlying48 rfl HI.o ?_)
  | fail)
 refine(HS.o W0 KW0.o (by have:=SW0.o;omega)).mono ?_;rintro e w1 ⟨v,rfl,hq,hk⟩;have K1:=h_ hk;have HQ:=h_ hq;have O1:=h_ (HOne.o v w1 hq);have HIv2:=h_ (HIv.o v);have HIc2:=h_ (HIc.o v);have HL2:=h_ (HL.o v);clear hq hk c0 a0 a1 e0 e1 HIv HIc HL HR HI HOne HS;obtain⟨cv,hcv⟩:=e_ (cs' v);obtain⟨W2,hW2,k2,b2,s2⟩:=lay1 w1 cv 48;have HW2:=h_ hW2;have K2:=h_ (K1.o.trans k2);have HKw:=h_ k2;have BF:=h_ b2;have B1':Hid (Blk W2 w.heap.size ([O I 2,p1,p2,p3,p4,p5]++cs++[]) 50):=by show Blk _ _ _ _;rw[List.append_nil];exact B0.o W2 K2.o
 have B2':=h_ (B2.o W2 K2.o);have HPv:Hid (∀wr,Kp W2 wr (fun i=>i=w.heap.size)->Calls prog 12 #[an (H ⟨g,0,G⟩),T #[O I c,O I s],T (O I 2::p1::p2::p3::p4::p5::cv).toArray] wr fun e w'=>∃er,e=Q (O I er)/\af er w'):=fun wr k=>by
  rw[<- hcv];exact HP.o v w1 wr HQ.o (KW0.o.trans K1.o).size ((KW0.o.trans K2.o).trans' k (fun i hi e=>by have e':i=w.heap.size:=e;omega)) (HKw.o.of_nul.trans k)
 have HC15:Hid (cv.length=15):=by show _=_;rw[<- hcv];exact H15.o v
 rw[hcv] at O1 HIv2 HIc2 HL2;rw[hcv];clear hcv HP HQ hW2 k2 b2 s2;go_wp2_with (first
  | (rw[HW2.o])
  | (refine F9 rfl _ _ _ rfl _ _ cv.toArray _ _ (by first|rfl|simp) rfl rfl (by simp[HC15.o]) HIv2.o O1.o ?_)
  | (refine wpList_load_mid rfl _ _ rfl _ _ rfl _ _ (j5 BF.o) underlying48 rfl HIv2.o ?_)
  | (refine L8 rfl _ _ _ rfl _ 6 [O I 2,p1,p2,p3,p4,p5] cs [] _ _ B1'.o rfl HL2.o rfl rfl HIv2.o O1.o ?_;intro X hX kX;rw[List.append_nil] at hX;have HX:=h_ (j5 hX);have KX:=h_ kX;have l0:=(B2'.o.kp kX (by show ¬_=_;omega)).c_ 0 rfl;have l1:=(B2'.o.kp kX (by show ¬_=_;omega)).c_ 1 rfl;clear hX kX)
  | (refine wpList_load_mid rfl _ _ rfl _ _ rfl _ _ HX.o underlying50 rfl HIc2.o ?_)
  | fail)
 refine(HPv.o X KX.o).mono ?_;rintro e w2 ⟨er,rfl,hr⟩;have HRr:=h_ hr;clear hr l0 l1;go_wp2_with fail;go_ret;exact⟨er,rfl,HRr.o⟩
theorem jDe (g:Nat)(c s t1 t2 k:Int)(l:List Value)(h20:l.length=20)(hk:¬k=2)(af:Int->World->Prop)(w:World)
 (HP:Hid (∀wr,Kp w wr Nul->Calls prog 12 #[an (H ⟨g,0,G⟩),T #[O I c,O I s],T (O I k::l).toArray] wr fun e w'=>∃er,e=Q (O I er)/\af er w')) :
 Calls prog 77 #[an (H ⟨g,0,G⟩),T (O I k::l).toArray,T #[O I t1,O I t2],T #[O I c,O I s]] w fun e w'=>∃er,e=Q (O I er)/\af er w':=by
 obtain⟨W0,hW0,kW0,b0,b1,b2,sW0⟩:=lay3 w ((O I k::l)) ([O I t1,O I t2]) ([O I c,O I s]) 50 32 32;have HW0:=h_ hW0;have KW0:=h_ kW0;have SW0:=h_ sW0;have B0:=k_ b0;have B1:=k_ b1;have B2:=k_ b2;clear hW0 kW0 sW0 b0 b1 b2;have HI:Hid ((prog.info? 50).map (·.size)=H (O I k::l).length):=by show _=_;rw[D9];simp[h20]
 have HR0:=h_ (j5 (B0.o _ (Kp.refl _ _)));have c0:=(B0.o _ (Kp.refl _ _)).c_ 0 rfl;have e0:=(B2.o _ (Kp.refl _ _)).c_ 0 rfl;have e1:=(B2.o _ (Kp.refl _ _)).c_ 1 rfl;clear h20;go_enter func77,ntmps77;go_wp2_with (first
  | (rw[HW0.o])
  | (refine wpList_load_mid rfl _ _ rfl _ _ rfl _ _ HR0.o underlying50 rfl HI.o ?_)
  | fail)
 refine(HP.o W0 KW0.o).mono ?_;rintro e w2 ⟨er,rfl,hr⟩;have HRr:=h_ hr;clear hr c0 e0 e1;go_wp2_with fail;go_ret;exact⟨er,rfl,HRr.o⟩
theorem j6n (B r:Nat)(M:List Cc)(c s t1 t2:Int)(a:Ct)(sl:Value)(w:World)(h:DM w B r M)(hB:B<=w.heap.size)(hg:Gd a)(hv:vC c s=J)(hv1:vC t1 t2=J)(hin:NdIn w (fun b=>b<w.heap.size) sl a.t):
 Calls prog 77 #[an (H ⟨r,0,G⟩),a.val sl,T #[O I t1,O I t2],T #[O I c,O I s]] w fun e w'=>e=Q (O I (if G9 M (c,s)=J then 0 else 41))/\DM w' B r (if G9 M (c,s)=J then putL M (c,s) (hmC (shH (c-t1) (s-t2)) a) else M)/\Kp w w' (fun i=>i=r):=by
 have hrl:=h.lt;have key:∀ {f} , (Calls prog f #[an (H ⟨r,0,G⟩),a.val sl,T #[O I t1,O I t2],T #[O I c,O I s]] w fun e w'=>∃er,e=Q (O I er)/\(er=(if G9 M (c,s)=J then 0 else 41)/\DM w' B r (if G9 M (c,s)=J then putL M (c,s) (hmC (shH (c-t1) (s-t2)) a) else M)/\Kp w w' (fun i=>i=r)))->Calls prog f #[an (H ⟨r,0,G⟩),a.val sl,T #[O I t1,O I t2],T #[O I c,O I s]] w fun e w'=>e=Q (O I (if G9 M (c,s)=J then 0 else 41))/\DM w' B r (if G9 M (c,s)=J then putL M (c,s) (hmC (shH (c-t1) (s-t2)) a) else M)/\Kp w w' (fun i=>i=r):=fun q=>q.mono (by
  rintro e w' ⟨er,rfl,rfl,h2,h3⟩;exact⟨rfl,h2,h3⟩)
 refine key ?_;have hv':=(G6 _ _).1 hv;have hv1':=(G6 _ _).1 hv1;have e1:wrap64 (c-t1)=c-t1:=by unfold wrap64;omega
 have e2:wrap64 (s-t2)=s-t2:=by unfold wrap64;omega
 rcases j1r hg with ⟨hk,_,_⟩|⟨hk,hc,_⟩
 ·have hk2:¬a.k=2:=by omega
  rw[j3C _ hg.val hk2];have hval:a.val sl=T (O I a.k :: O I a.v.k :: ap ao a.v.x :: aq a.v.s :: E a.v.b :: O I a.v.f::a.t.hd.cells sl).toArray:=rfl;rw[hval];refine jDe r c s t1 t2 a.k _ rfl hk2 (fun er w'=>er=(if G9 M (c,s)=J then 0 else 41)/\DM w' B r (if G9 M (c,s)=J then putL M (c,s) a else M)/\Kp w w' (fun i=>i=r)) w (fun wr k=>?_);refine(dput B r M c s a sl _ wr (h.kp k) (Nat.le_trans hB k.size) hg hv (hin.kp k (fun _ _ x=>x))).mono ?_;rintro e w' ⟨rfl,h2,h3⟩;exact⟨_,rfl,rfl,h2,k.of_nul.trans h3⟩
 ·have hgd:=j1u (j2V (c-t1) (s-t2)) hg;have hval:a.val sl=T (O I 2 :: O I a.v.k :: ap ao a.v.x :: aq a.v.s :: E a.v.b :: O I a.v.f::a.t.hd.cells sl).toArray:=by rw[<- hk]
  rw[hval];refine jDd r c s t1 t2 (c-t1) (s-t2) (O I a.v.k) (ap ao a.v.x) (aq a.v.s) (E a.v.b) (O I a.v.f) (a.t.hd.cells sl) (fun v=>(hmN (shH (c-t1) (s-t2)) a.t).hd.cells v) rfl (fun _=>rfl)
   (fun v w'=>∃(wq:World) (fp:List Nat),w.heap.size<wq.heap.size/\Own w' wq.heap.size v (hmN (shH (c-t1) (s-t2)) a.t) fp) (fun er w'=>er=(if G9 M (c,s)=J then 0 else 41)/\DM w' B r (if G9 M (c,s)=J then putL M (c,s) (hmC (shH (c-t1) (s-t2)) a) else M)/\Kp w w' (fun i=>i=r)) w e1 e2 (fun v w' q=>?_) (fun wq k hlt=>?_) (fun v wq wr q _ k1 k2=>?_)
  ·obtain⟨wq,fp,_,h'⟩:=q;exact Hd.one _ h'.own.one
  ·refine(jDk a.t sl _ (c-t1) (s-t2) wq hg.size hg.ok (j5H hg) (hin.kp k (fun _ _ x=>x))).mono ?_;rintro e w' ⟨v,rfl,hr⟩;cases hr with
   | err h' _=>exact absurd hc h'
   | ok _ sl' fp ho k'=>exact⟨sl',rfl,⟨wq,fp,hlt,ho⟩,k'⟩
  ·obtain⟨w0,fp,hlt,ho⟩:=q;have hin':NdIn wr (fun _=>True) v (hmN (shH (c-t1) (s-t2)) a.t):=(ho.isIn.kp k2 (fun i hi e=>by have e':i=w.heap.size:=e;have h1:=hi.1;omega)).mono (fun b hb hl=>⟨rfl,trivial⟩);have e3:(hmC (shH (c-t1) (s-t2)) a).val v=T (O I 2 :: O I a.v.k :: ap ao a.v.x :: aq a.v.s :: E a.v.b :: O I a.v.f::(hmN (shH (c-t1) (s-t2)) a.t).hd.cells v).toArray:=by
    rw[<- hk];rfl
   rw[<- e3];refine(dput B r M c s _ v _ wr (h.kp k1) (Nat.le_trans hB k1.size) hgd hv hin').mono ?_;rintro e w' ⟨rfl,h2,h3⟩;exact⟨_,rfl,rfl,h2,k1.of_nul.trans h3⟩
theorem j0B:(prog.info? 52).map (·.size)=H 23:=by kernel_rfl
theorem j2G (x:Cc){sl:Value}(h:sl.oneCell'=J):(j8 x sl).toArray.all (·.oneCell')=J:=by
 simp only[List.all_toArray];exact List.all_eq_true.2 (fun u hu=>j0r x h u hu)
theorem j38 {a:Ct}(h:Gd a)(hk:a.k=2):a.t.fe R=0:=by
 rcases j1r h with ⟨h1,_,_⟩|⟨_,h2,_⟩
 ·omega
 ·exact j4e h2
def woL (A:Ar4) (K:List Cc):List Cc:=K.filterMap (fun x:Cc=>if inA A.1.1 A.1.2 A.2.1 A.2.2 x.1.1 x.1.2=J then G else H x)
theorem jEs {A:Ar4}{K:List Cc}{y:Cc}:y∈woL A K↔y∈K/\¬inA A.1.1 A.1.2 A.2.1 A.2.2 y.1.1 y.1.2=J:=by
 unfold woL;rw[List.mem_filterMap];constructor
 ·rintro⟨x,hx,e⟩;by_cases q:inA A.1.1 A.1.2 A.2.1 A.2.2 x.1.1 x.1.2=J
  ·rw[if_pos q] at e;cases e
  ·rw[if_neg q] at e;injection e with e;subst e;exact⟨hx,q⟩
 ·rintro⟨h1,h2⟩;exact⟨y,h1,by rw[if_neg h2]⟩
inductive WoR (A:Ar4) (L:List Cc) (w w':World):Value->Prop
 | mk (r:Nat) (M:List Cc) (hr:w.heap.size<=r) (dm:DM w' w.heap.size r M) (mem:∀y,y∈M↔y∈L/\¬inA A.1.1 A.1.2 A.2.1 A.2.2 y.1.1 y.1.2=J) (k:Kp w w' Nul):WoR A L w w' (an (H ⟨r,0,G⟩))
theorem j3r (A:Ar4)(B g:Nat)(L:List Cc)(w:World)(hA:Ar4.ok A=J)(hg:DM w B g L):
 Calls prog 75 #[an (H ⟨g,0,G⟩),T #[O I A.1.1,O I A.1.2,O I A.2.1,O I A.2.2]] w fun e w'=>∃v,e=Q v/\WoR A L w w' v:=by
 obtain⟨v0,ys,hd,hal⟩:=hg.ex;obtain⟨p,cp,rfl,hrow⟩:=j19 hd;obtain⟨n,hn⟩:=e_ ys.length;obtain⟨K,hK⟩:=e_ (ys.map (·.1));rw[hK] at hal;rw[hn] at hd;have HN:Hid (ys.length=n/\K.length=n/\n<=4096/\ys.map (·.1)=K):=⟨hn,by rw[<- hK,List.length_map,hn],by have h1:=hal.len;have h2:=hg.ok.len;rw[<- hK,List.length_map,hn] at h1;omega,hK⟩;have HSl:Hid (∀wq,Kp w wq Nul->wq.cell? ⟨g,0,G⟩=H (U p n cp)):=fun wq k=>(hd.box.kp k (fun x=>x)).cell rfl
 have HRow:=h_ hrow;have HAl:=h_ hal;have HOk:Hid (Ok17 L/\L.Pairwise (fun x y=>x.1≠y.1)):=⟨hg.ok,hg.once⟩;clear hg hd hal hrow hn hK;have HA:=h_ hA;obtain⟨W0,hW0,kW0,b0,b1,sW0⟩:=lay2 w ([O I A.1.1,O I A.1.2,O I A.2.1,O I A.2.2]) ([U G 0 0]) 34 81;have HW0:=h_ hW0;have KW0:=h_ kW0;have SW0:=h_ sW0;have B0:=k_ b0;have B1:=k_ b1;clear hW0 kW0 sW0 b0 b1;have HD0:Hid (DM W0 w.heap.size (w.heap.size+1) []):=DM.new (B1.o _ (Kp.refl _ _));have q0:=HSl.o W0 KW0.o;clear hA;go_enter func75,ntmps75;go_wp2_with fail;rw[HW0.o];go_loopw[6] (fun i wr=>∃(k:Nat) (M:List Cc),k<=n/\i=O I k/\DM wr w.heap.size (w.heap.size+1) M/\(∀z,z∈M↔z∈(K.take k).filterMap (fun x:Cc=>if inA A.1.1 A.1.2 A.2.1 A.2.2 x.1.1 x.1.2=J then G else H x))/\M.length<=k/\Kp W0 wr (fun i=>i=w.heap.size+1)) (fun i _=>n-(RowKit.intOf i).toNat)
 case atStart=>exact⟨0,[],Nat.zero_le _,rfl,HD0.o,by simp,Nat.zero_le _,Kp.refl _ _⟩
 case round=>
  clear q0 HD0;obtain⟨k,M,hk,rfl,hdm,hmem,hlen,hkp⟩:=hrel;have HDM:=h_ hdm;have HMem:=h_ hmem;have HLen:=h_ hlen;have HK0:=h_ hkp;have HKw:=h_ (KW0.o.trans' hkp (fun i hi e=>by have e':i=w.heap.size+1:=e;omega));clear hdm hmem hlen hkp;have q0:=HSl.o wr HKw.o;by_cases hlt:k<n
  ·skip
   have hkt:k<ys.length:=(by rw[HN.o.1];exact hlt);obtain⟨⟨⟨⟨c,s⟩,a⟩,sl⟩,hys⟩:∃y,ys[k]=y:=⟨_,rfl⟩;have hget:ys[k]? = H (((c,s),a),sl):=(by rw[List.getElem?_eq_getElem hkt,hys]);have hKk:K[k]? = H ((c,s),a):=(by rw[<- HN.o.2.2.2,List.getElem?_map,hget];rfl);obtain⟨b,rfl,hb,hra⟩:=HRow.o k _ hget;have hmL:=(HAl.o.mem _).1 (List.mem_of_getElem? hKk);have HGd:=h_ (HOk.o.1.gd _ hmL);have HvC:=h_ (HOk.o.1.at' _ hmL);have HKk:=h_ hKk;have HRG:Hid (∀wq,Kp w wq Nul->wq.rangeAt b (k*23) [O I c,O I s]/\wq.rangeAt b (k*23+2) (a.cells sl)/\wq.rangeAt b (k*23) (j8 ((c,s),a) sl)/\NdIn wq (fun b=>b<w.heap.size) sl a.t):=(fun wq q=>⟨(I9 (hra wq q).1).1,(I9 (hra wq q).1).2,(hra wq q).1,(hra wq q).2⟩);have hk0:(0:Int)<=(k:Int):=(by omega);have hkn:(k:Int)<(n:Int):=(by omega);have hkb:(k:Int)+1<=9223372036854775807:=(by have:=HN.o.2.2.1;omega);clear hkt hys hget hKk hb hra hmL
   have HArea:=(h_ fun wq (q:Kp wr wq (fun i=>i=w.heap.size+1))=>((B0.o _ (Kp.refl _ _)).kp HK0.o (by show ¬_=_;omega)).kp q (by show ¬_=_;omega));have HKq:=(h_ fun wq (q:Kp wr wq (fun i=>i=w.heap.size+1))=>HKw.o.trans' q (fun i hi e=>by have e':i=w.heap.size+1:=e;omega));have HSlr:=(h_ fun wq (q:Kp wr wq (fun i=>i=w.heap.size+1))=>HSl.o wq (HKq.o wq q));have HRGr:Hid (∀wq,Kp wr wq (fun i=>i=w.heap.size+1)->wq.rangeAt b (k*23) [O I c,O I s]/\wq.rangeAt b (k*23+2) (a.cells sl)):=(fun wq q=>⟨(HRG.o wq (HKq.o wq q)).1,(HRG.o wq (HKq.o wq q)).2.1⟩);obtain⟨V,hV⟩:=e_ (inA A.1.1 A.1.2 A.2.1 A.2.2 c s);have HV:=h_ hV;have HH:Hid (∀wq,Calls prog 76 #[T #[O I A.1.1,O I A.1.2,O I A.2.1,O I A.2.2],T #[O I c,O I s]] wq fun e w'=>e=Q (E V)/\Kp wq w' Nul):=fun wq=>by
    rw[<- hV,<- j3H HA.o];exact X9 _ _ _ _ _ _ wq
   have hroom:G9 M (c,s)=J:=O4.2 (.inl (by have h1:=HLen.o;have h2:=HN.o.2.2.1;omega));have HPut:Hid (∀wq,Kp wr wq Nul->Calls prog 12 #[an (H ⟨w.heap.size+1,0,G⟩),T #[O I c,O I s],T (a.cells sl).toArray] wq fun e w'=>e=Q (O I 0)/\DM w' w.heap.size (w.heap.size+1) (putL M (c,s) a)/\Kp wq w' (fun i=>i=w.heap.size+1)):=fun wq q=>by
    have h:=dput w.heap.size (w.heap.size+1) M c s a sl _ wq (HDM.o.kp q) (Nat.le_trans HKw.o.size q.size) HGd.o HvC.o (HRG.o wq (HKw.o.trans q)).2.2.2;rw[if_pos hroom,if_pos hroom] at h;exact h
   clear hV hroom;go_wp2_with fail;refine wp_region_noPanic ?_;refine I0 (fun w':World=>Kp wr w' (fun i=>i=w.heap.size+1)) (by kernel_rfl) ((Kp.refl wr _).drew) (fun hHeld=>?_);refine tk 0 18 hHeld ?_ (v:=T ([O I A.1.1,O I A.1.2,O I A.2.1,O I A.2.2]).toArray) (hy:=by exact fun w' hSw=>q9 _ _ rfl _ _ rfl _ _ (j5 (HArea.o w' hSw)) underlying34 rfl D7);refine tk 1 19 hHeld ?_;refine tk 2 20 hHeld ?_;refine tk 3 21 hHeld ?_;refine tk 4 22 hHeld ?_ (hy:=by intro w' hSw;have s0:=HSlr.o w' hSw;clear hSw;go_simp;try with_reducible rfl);refine tk 5 23 hHeld ?_;refine tk 6 24 hHeld ?_;refine tk 7 25 hHeld ?_;refine tk 8 26 hHeld ?_ (v:=T ([O I c,O I s]).toArray) (hy:=by exact fun w' hSw=>q9 _ _ rfl _ _ rfl _ _ ((HRGr.o w' hSw).1) underlying32 rfl F5);refine D6 (i:=9) (by kernel_rfl) rfl rfl (fun KK hKK=>?_)
   go_simp;refine(HH.o _).mono ?_;rintro e w1 ⟨rfl,hk1⟩;have K1:=h_ (((Kp.refl wr Nul).drew).trans hk1);refine hKK.o _ _ K1.o.of_nul (fun hHeld=>?_);clear hKK KK hk1
   (try simp only[Act.put,Sz0,Sz1,Sz2])
   cases V with
   | true=>
    refine tk 10 28 hHeld ?_ (v:=E R);refine wpAnyH_done (by kernel_rfl) ?_ _;refine NoPanic.normal ?_;clear hHeld HArea HH;go_wp2_with fail;go_roundw
    case rel=>exact⟨k+1,M,by omega,by go_num,HDM.o.kp K1.o,j1F HKk.o (by show (if _ then _ else _)=_;rw[if_pos HV.o]) HMem.o,Nat.le_succ_of_le HLen.o,HK0.o.trans K1.o.of_nul⟩
    case measure=>simp only[RowKit.intOf];omega
   | false=>
    refine tk 10 28 hHeld ?_ (v:=E J);refine wpAnyH_done (by kernel_rfl) ?_ _;refine NoPanic.normal ?_;clear hHeld HArea HH;go_wp2_with fail;refine wp_region_noPanic ?_;refine I0 (fun w':World=>Kp wr w' (fun i=>i=w.heap.size+1)) (by kernel_rfl) (K1.o.drew.of_nul) (fun hHeld=>?_);refine tk 0 29 hHeld ?_;refine tk 1 30 hHeld ?_;refine tk 2 31 hHeld ?_;refine tk 3 32 hHeld ?_;refine tk 4 33 hHeld ?_ (hy:=by intro w' hSw;have s0:=HSlr.o w' hSw;clear hSw;go_simp;try with_reducible rfl);refine tk 5 34 hHeld ?_;refine tk 6 35 hHeld ?_;refine tk 7 36 hHeld ?_;refine tk 8 37 hHeld ?_ (v:=T ([O I c,O I s]).toArray) (hy:=by exact fun w' hSw=>q9 _ _ rfl _ _ rfl _ _ ((HRGr.o w' hSw).1) underlying32 rfl F5);refine tk 9 38 hHeld ?_;refine tk 10 39 hHeld ?_;refine tk 11 40 hHeld ?_;refine tk 12 41 hHeld ?_ (hy:=by intro w' hSw;have s0:=HSlr.o w' hSw;clear hSw;go_simp;try with_reducible rfl)
    refine tk 13 42 hHeld ?_;refine tk 14 43 hHeld ?_;refine tk 15 44 hHeld ?_;refine tk 16 45 hHeld ?_ (v:=T (a.cells sl).toArray) (hy:=by exact fun w' hSw=>q9 _ _ rfl _ _ rfl _ _ ((HRGr.o w' hSw).2) underlying50 rfl D9);refine D6 (i:=17) (by kernel_rfl) rfl rfl (fun KK hKK=>?_);go_simp;refine(HPut.o _ K1.o.drew).mono ?_;rintro e w2 ⟨rfl,hd2,hk2⟩;have HD2:=h_ hd2;have K2:=h_ ((K1.o.drew).of_nul.trans hk2);refine hKK.o _ _ K2.o (fun hHeld=>?_);clear hKK KK hd2 hk2
    (try simp only[Act.put,Sz0,Sz1,Sz2])
    refine wpAnyH_done (by kernel_rfl) ?_ _;refine NoPanic.normal ?_;clear hHeld;go_wp2_with fail;go_roundw
    case rel=>exact⟨k+1,_,by omega,by go_num,HD2.o,Y7 HKk.o (by show (if _ then _ else _)=_;rw[if_neg (by rw[HV.o];decide)]) (fun j z y' hj hz hy=>by
     have e:y'=z:=by
      by_cases q:inA A.1.1 A.1.2 A.2.1 A.2.2 z.1.1 z.1.2=J
      ·rw[if_pos q] at hy;cases hy
      ·rw[if_neg q] at hy;injection hy with hy;exact hy.symm
     rw[e];exact j75 HAl.o.st hz HKk.o hj) HMem.o,j00 HLen.o,HK0.o.trans K2.o⟩
    case measure=>simp only[RowKit.intOf];omega
  ·have hke:k=n:=(by omega);subst hke;have hkn:¬((k:Int)<(k:Int)):=(by omega);have HEnd:Hid (∀X,Kp wr X Nul->WoR A L w X (an (H ⟨w.heap.size+1,0,G⟩))):=fun X kX=>by
    refine .mk _ M (by omega) (HDM.o.kp kX) (fun y=>?_) (HKw.o.trans kX);rw[HMem.o y];have e:=List.take_of_length_le (by rw[HN.o.2.1];exact Nat.le_refl _);rw[e];show y∈woL A K↔_;rw[jEs,HAl.o.mem]
   go_wp2_with fail;go_ret;exact⟨_,rfl,HEnd.o _ (Kp.refl _ _)⟩
theorem jD0 (A:Ar4)(g:Nat)(am:Nat->World->Prop)(w:World)(hA:Ar4.ok A=J)(hW:∀wq,Kp w wq Nul->Calls prog 75 #[an (H ⟨g,0,G⟩),T #[O I A.1.1,O I A.1.2,O I A.2.1,O I A.2.2]] wq fun e w'=>∃r,e=Q (an (H ⟨r,0,G⟩))/\am r w'):
 Calls prog 41 #[an (H ⟨g,0,G⟩),T #[O I A.1.1,O I A.1.2,O I A.2.1,O I A.2.2]] w fun e w'=>∃v,e=Q v/\∃r,v=au #[an (H ⟨r,0,G⟩),O I 0]/\am r w':=by
 have HVa:Hid (∀wq,Calls prog 73 #[T #[O I A.1.1,O I A.1.2,O I A.2.1,O I A.2.2]] wq fun e w'=>e=Q (E J)/\Kp wq w' Nul):=fun wq=>(Q3 _ _ _ _ wq).mono fun e w' z=>⟨by rw[z.1];exact congrArg (fun b=>Q (E b)) hA,by rw[z.2];repeat (first|exact Kp.refl _ _|refine Kp.alloc ?_ _)⟩
 have HC:=h_ hW;have hnp:=fun wq=>Q8 g wq
 obtain⟨W0,hW0,kW0,b0,sW0⟩:=lay1 w ([O I A.1.1,O I A.1.2,O I A.2.1,O I A.2.2]) 34;have HW0:=h_ hW0;have KW0:=h_ kW0;have SW0:=h_ sW0;have B0:=k_ b0;clear hW0 kW0 sW0 b0;clear hA hW;go_enter func41,ntmps41;go_wp2_with (first
  | (rw[HW0.o])
  | (refine wpList_load_mid rfl _ _ rfl _ _ rfl _ _ (j5 (B0.o _ (Kp.refl _ _))) underlying34 rfl D7 ?_)
  | fail)
 refine(HVa.o _).mono ?_;rintro e w1 ⟨rfl,hk1⟩;have K1:=h_ hk1;clear hk1 HVa;go_wp2_with (first
  | (refine wpList_load_mid rfl _ _ rfl _ _ rfl _ _ (j5 (B0.o _ K1.o)) underlying34 rfl D7 ?_)
  | fail)
 refine(HC.o _ (KW0.o.trans K1.o)).mono ?_;rintro e w2 ⟨r2,rfl,hq⟩;have HQ:Hid (∃r,au #[an (H ⟨r2,0,G⟩),O I 0]=au #[an (H ⟨r,0,G⟩),O I 0]/\am r w2):=⟨r2,rfl,hq⟩;clear hq;go_wp2_with fail
 go_ret2
 exact⟨_,rfl,HQ.o⟩
end
section
open Go.RowKit Go.Maps
theorem jD2 (A:Ar4)(f:Int×Int)(w:World):
 Calls prog 38 #[an G,T #[O I A.1.1,O I A.1.2,O I A.2.1,O I A.2.2],T #[O I f.1,O I f.2]] w fun e w'=>e=Q (au #[an G,O I 1])/\Kp w w' Nul:=by
 obtain⟨V,hV⟩:=e_ (Ar4.ok A);have HVa:Hid (∀wq,Calls prog 73 #[T #[O I A.1.1,O I A.1.2,O I A.2.1,O I A.2.2]] wq fun e w'=>e=Q (E V)/\Kp wq w' Nul):=fun wq=>(Q3 _ _ _ _ wq).mono fun e w' z=>⟨by rw[z.1];exact congrArg (fun b=>Q (E b)) hV,by rw[z.2];repeat (first|exact Kp.refl _ _|refine Kp.alloc ?_ _)⟩
 obtain⟨W0,hW0,kW0,b0,b1,sW0⟩:=lay2 w ([O I A.1.1,O I A.1.2,O I A.2.1,O I A.2.2]) ([O I f.1,O I f.2]) 34 32;have HW0:=h_ hW0;have KW0:=h_ kW0;have SW0:=h_ sW0;have B0:=k_ b0;have B1:=k_ b1;clear hW0 kW0 sW0 b0 b1;clear hV;go_enter func38,ntmps38;go_wp2_with (first
  | (rw[HW0.o])
  | (refine wpList_load_mid rfl _ _ rfl _ _ rfl _ _ (j5 (B0.o _ (Kp.refl _ _))) underlying34 rfl D7 ?_)
  | fail)
 refine(HVa.o _).mono ?_;rintro e w1 ⟨rfl,hk1⟩;have K1:=h_ hk1;clear hk1 HVa;go_wp2_with fail
 go_ret2
 first|exact⟨rfl,KW0.o.trans K1.o⟩|exact KW0.o.trans K1.o
theorem jD1 (g:Nat)(A:Ar4)(f:Int×Int)(w:World)(hV:Ar4.ok A=R):
 Calls prog 38 #[an (H ⟨g,0,G⟩),T #[O I A.1.1,O I A.1.2,O I A.2.1,O I A.2.2],T #[O I f.1,O I f.2]] w fun e w'=>e=Q (au #[an G,O I 1])/\Kp w w' Nul:=by
 have hnp:=fun wq=>Q8 g wq
 have HVa:Hid (∀wq,Calls prog 73 #[T #[O I A.1.1,O I A.1.2,O I A.2.1,O I A.2.2]] wq fun e w'=>e=Q (E R)/\Kp wq w' Nul):=fun wq=>(Q3 _ _ _ _ wq).mono fun e w' z=>⟨by rw[z.1];exact congrArg (fun b=>Q (E b)) hV,by rw[z.2];repeat (first|exact Kp.refl _ _|refine Kp.alloc ?_ _)⟩
 obtain⟨W0,hW0,kW0,b0,b1,sW0⟩:=lay2 w ([O I A.1.1,O I A.1.2,O I A.2.1,O I A.2.2]) ([O I f.1,O I f.2]) 34 32;have HW0:=h_ hW0;have KW0:=h_ kW0;have SW0:=h_ sW0;have B0:=k_ b0;have B1:=k_ b1;clear hW0 kW0 sW0 b0 b1;clear hV;go_enter func38,ntmps38;go_wp2_with (first
  | (rw[HW0.o])
  | (refine wpList_load_mid rfl _ _ rfl _ _ rfl _ _ (j5 (B0.o _ (Kp.refl _ _))) underlying34 rfl D7 ?_)
  | fail)
 refine(HVa.o _).mono ?_;rintro e w1 ⟨rfl,hk1⟩;have K1:=h_ hk1;clear hk1 HVa;go_wp2_with fail
 go_ret2
 first|exact⟨rfl,KW0.o.trans K1.o⟩|exact KW0.o.trans K1.o
theorem jDL (A:Ar4)(f:Int×Int)(w:World):
 Calls prog 40 #[an G,T #[O I A.1.1,O I A.1.2,O I A.2.1,O I A.2.2],T #[O I f.1,O I f.2]] w fun e w'=>e=Q (au #[an G,O I 1])/\Kp w w' Nul:=by
 obtain⟨V,hV⟩:=e_ (Ar4.ok A);have HVa:Hid (∀wq,Calls prog 73 #[T #[O I A.1.1,O I A.1.2,O I A.2.1,O I A.2.2]] wq fun e w'=>e=Q (E V)/\Kp wq w' Nul):=fun wq=>(Q3 _ _ _ _ wq).mono fun e w' z=>⟨by rw[z.1];exact congrArg (fun b=>Q (E b)) hV,by rw[z.2];repeat (first|exact Kp.refl _ _|refine Kp.alloc ?_ _)⟩
 obtain⟨W0,hW0,kW0,b0,b1,sW0⟩:=lay2 w ([O I A.1.1,O I A.1.2,O I A.2.1,O I A.2.2]) ([O I f.1,O I f.2]) 34 32;have HW0:=h_ hW0;have KW0:=h_ kW0;have SW0:=h_ sW0;have B0:=k_ b0;have B1:=k_ b1;clear hW0 kW0 sW0 b0 b1;clear hV;go_enter func40,ntmps40;go_wp2_with (first
  | (rw[HW0.o])
  | (refine wpList_load_mid rfl _ _ rfl _ _ rfl _ _ (j5 (B0.o _ (Kp.refl _ _))) underlying34 rfl D7 ?_)
  | fail)
 refine(HVa.o _).mono ?_;rintro e w1 ⟨rfl,hk1⟩;have K1:=h_ hk1;clear hk1 HVa;go_wp2_with fail
 go_ret2
 first|exact⟨rfl,KW0.o.trans K1.o⟩|exact KW0.o.trans K1.o
theorem jDK (g:Nat)(A:Ar4)(f:Int×Int)(w:World)(hV:Ar4.ok A=R):
 Calls prog 40 #[an (H ⟨g,0,G⟩),T #[O I A.1.1,O I A.1.2,O I A.2.1,O I A.2.2],T #[O I f.1,O I f.2]] w fun e w'=>e=Q (au #[an G,O I 1])/\Kp w w' Nul:=by
 have hnp:=fun wq=>Q8 g wq
 have HVa:Hid (∀wq,Calls prog 73 #[T #[O I A.1.1,O I A.1.2,O I A.2.1,O I A.2.2]] wq fun e w'=>e=Q (E R)/\Kp wq w' Nul):=fun wq=>(Q3 _ _ _ _ wq).mono fun e w' z=>⟨by rw[z.1];exact congrArg (fun b=>Q (E b)) hV,by rw[z.2];repeat (first|exact Kp.refl _ _|refine Kp.alloc ?_ _)⟩
 obtain⟨W0,hW0,kW0,b0,b1,sW0⟩:=lay2 w ([O I A.1.1,O I A.1.2,O I A.2.1,O I A.2.2]) ([O I f.1,O I f.2]) 34 32;have HW0:=h_ hW0;have KW0:=h_ kW0;have SW0:=h_ sW0;have B0:=k_ b0;have B1:=k_ b1;clear hW0 kW0 sW0 b0 b1;clear hV;go_enter func40,ntmps40;go_wp2_with (first
  | (rw[HW0.o])
  | (refine wpList_load_mid rfl _ _ rfl _ _ rfl _ _ (j5 (B0.o _ (Kp.refl _ _))) underlying34 rfl D7 ?_)
  | fail)
 refine(HVa.o _).mono ?_;rintro e w1 ⟨rfl,hk1⟩;have K1:=h_ hk1;clear hk1 HVa;go_wp2_with fail
 go_ret2
 first|exact⟨rfl,KW0.o.trans K1.o⟩|exact KW0.o.trans K1.o
theorem jDC (A:Ar4)(f:Int×Int)(w:World):
 Calls prog 39 #[an G,T #[O I f.1,O I f.2],T #[O I A.1.1,O I A.1.2,O I A.2.1,O I A.2.2]] w fun e w'=>e=Q (au #[an G,O I 1])/\Kp w w' Nul:=by
 obtain⟨V,hV⟩:=e_ (Ar4.ok A);have HVa:Hid (∀wq,Calls prog 73 #[T #[O I A.1.1,O I A.1.2,O I A.2.1,O I A.2.2]] wq fun e w'=>e=Q (E V)/\Kp wq w' Nul):=fun wq=>(Q3 _ _ _ _ wq).mono fun e w' z=>⟨by rw[z.1];exact congrArg (fun b=>Q (E b)) hV,by rw[z.2];repeat (first|exact Kp.refl _ _|refine Kp.alloc ?_ _)⟩
 obtain⟨W0,hW0,kW0,b0,b1,sW0⟩:=lay2 w ([O I f.1,O I f.2]) ([O I A.1.1,O I A.1.2,O I A.2.1,O I A.2.2]) 32 34;have HW0:=h_ hW0;have KW0:=h_ kW0;have SW0:=h_ sW0;have B0:=k_ b0;have B1:=k_ b1;clear hW0 kW0 sW0 b0 b1;clear hV;go_enter func39,ntmps39;go_wp2_with (first
  | (rw[HW0.o])
  | (refine wpList_load_mid rfl _ _ rfl _ _ rfl _ _ (j5 (B1.o _ (Kp.refl _ _))) underlying34 rfl D7 ?_)
  | fail)
 refine(HVa.o _).mono ?_;rintro e w1 ⟨rfl,hk1⟩;have K1:=h_ hk1;clear hk1 HVa;go_wp2_with fail
 go_ret2
 first|exact⟨rfl,KW0.o.trans K1.o⟩|exact KW0.o.trans K1.o
theorem jDB (g:Nat)(A:Ar4)(f:Int×Int)(w:World)(hV:Ar4.ok A=R):
 Calls prog 39 #[an (H ⟨g,0,G⟩),T #[O I f.1,O I f.2],T #[O I A.1.1,O I A.1.2,O I A.2.1,O I A.2.2]] w fun e w'=>e=Q (au #[an G,O I 1])/\Kp w w' Nul:=by
 have hnp:=fun wq=>Q8 g wq
 have HVa:Hid (∀wq,Calls prog 73 #[T #[O I A.1.1,O I A.1.2,O I A.2.1,O I A.2.2]] wq fun e w'=>e=Q (E R)/\Kp wq w' Nul):=fun wq=>(Q3 _ _ _ _ wq).mono fun e w' z=>⟨by rw[z.1];exact congrArg (fun b=>Q (E b)) hV,by rw[z.2];repeat (first|exact Kp.refl _ _|refine Kp.alloc ?_ _)⟩
 obtain⟨W0,hW0,kW0,b0,b1,sW0⟩:=lay2 w ([O I f.1,O I f.2]) ([O I A.1.1,O I A.1.2,O I A.2.1,O I A.2.2]) 32 34;have HW0:=h_ hW0;have KW0:=h_ kW0;have SW0:=h_ sW0;have B0:=k_ b0;have B1:=k_ b1;clear hW0 kW0 sW0 b0 b1;clear hV;go_enter func39,ntmps39;go_wp2_with (first
  | (rw[HW0.o])
  | (refine wpList_load_mid rfl _ _ rfl _ _ rfl _ _ (j5 (B1.o _ (Kp.refl _ _))) underlying34 rfl D7 ?_)
  | fail)
 refine(HVa.o _).mono ?_;rintro e w1 ⟨rfl,hk1⟩;have K1:=h_ hk1;clear hk1 HVa;go_wp2_with fail
 go_ret2
 first|exact⟨rfl,KW0.o.trans K1.o⟩|exact KW0.o.trans K1.o
theorem jCz (A:Ar4)(w:World):
 Calls prog 41 #[an G,T #[O I A.1.1,O I A.1.2,O I A.2.1,O I A.2.2]] w fun e w'=>e=Q (au #[an G,O I 1])/\Kp w w' Nul:=by
 obtain⟨V,hV⟩:=e_ (Ar4.ok A);have HVa:Hid (∀wq,Calls prog 73 #[T #[O I A.1.1,O I A.1.2,O I A.2.1,O I A.2.2]] wq fun e w'=>e=Q (E V)/\Kp wq w' Nul):=fun wq=>(Q3 _ _ _ _ wq).mono fun e w' z=>⟨by rw[z.1];exact congrArg (fun b=>Q (E b)) hV,by rw[z.2];repeat (first|exact Kp.refl _ _|refine Kp.alloc ?_ _)⟩
 obtain⟨W0,hW0,kW0,b0,sW0⟩:=lay1 w ([O I A.1.1,O I A.1.2,O I A.2.1,O I A.2.2]) 34;have HW0:=h_ hW0;have KW0:=h_ kW0;have SW0:=h_ sW0;have B0:=k_ b0;clear hW0 kW0 sW0 b0;clear hV;go_enter func41,ntmps41;go_wp2_with (first
  | (rw[HW0.o])
  | (refine wpList_load_mid rfl _ _ rfl _ _ rfl _ _ (j5 (B0.o _ (Kp.refl _ _))) underlying34 rfl D7 ?_)
  | fail)
 refine(HVa.o _).mono ?_;rintro e w1 ⟨rfl,hk1⟩;have K1:=h_ hk1;clear hk1 HVa;go_wp2_with fail
 go_ret2
 first|exact⟨rfl,KW0.o.trans K1.o⟩|exact KW0.o.trans K1.o
theorem jCy (g:Nat)(A:Ar4)(w:World)(hV:Ar4.ok A=R):
 Calls prog 41 #[an (H ⟨g,0,G⟩),T #[O I A.1.1,O I A.1.2,O I A.2.1,O I A.2.2]] w fun e w'=>e=Q (au #[an G,O I 1])/\Kp w w' Nul:=by
 have hnp:=fun wq=>Q8 g wq
 have HVa:Hid (∀wq,Calls prog 73 #[T #[O I A.1.1,O I A.1.2,O I A.2.1,O I A.2.2]] wq fun e w'=>e=Q (E R)/\Kp wq w' Nul):=fun wq=>(Q3 _ _ _ _ wq).mono fun e w' z=>⟨by rw[z.1];exact congrArg (fun b=>Q (E b)) hV,by rw[z.2];repeat (first|exact Kp.refl _ _|refine Kp.alloc ?_ _)⟩
 obtain⟨W0,hW0,kW0,b0,sW0⟩:=lay1 w ([O I A.1.1,O I A.1.2,O I A.2.1,O I A.2.2]) 34;have HW0:=h_ hW0;have KW0:=h_ kW0;have SW0:=h_ sW0;have B0:=k_ b0;clear hW0 kW0 sW0 b0;clear hV;go_enter func41,ntmps41;go_wp2_with (first
  | (rw[HW0.o])
  | (refine wpList_load_mid rfl _ _ rfl _ _ rfl _ _ (j5 (B0.o _ (Kp.refl _ _))) underlying34 rfl D7 ?_)
  | fail)
 refine(HVa.o _).mono ?_;rintro e w1 ⟨rfl,hk1⟩;have K1:=h_ hk1;clear hk1 HVa;go_wp2_with fail
 go_ret2
 first|exact⟨rfl,KW0.o.trans K1.o⟩|exact KW0.o.trans K1.o
theorem jD4 (g:Nat)(A:Ar4)(f:Int×Int)(w:World)(hV:Ar4.ok A=J)(hf:¬fits A f=J):
 Calls prog 38 #[an (H ⟨g,0,G⟩),T #[O I A.1.1,O I A.1.2,O I A.2.1,O I A.2.2],T #[O I f.1,O I f.2]] w fun e w'=>e=Q (au #[an G,O I 20])/\Kp w w' Nul:=by
 have HVa:Hid (∀wq,Calls prog 73 #[T #[O I A.1.1,O I A.1.2,O I A.2.1,O I A.2.2]] wq fun e w'=>e=Q (E J)/\Kp wq w' Nul):=fun wq=>(Q3 _ _ _ _ wq).mono fun e w' z=>⟨by rw[z.1];exact congrArg (fun b=>Q (E b)) hV,by rw[z.2];repeat (first|exact Kp.refl _ _|refine Kp.alloc ?_ _)⟩
 obtain⟨W0,hW0,kW0,b0,b1,sW0⟩:=lay2 w ([O I A.1.1,O I A.1.2,O I A.2.1,O I A.2.2]) ([O I f.1,O I f.2]) 34 32;have HW0:=h_ hW0;have KW0:=h_ kW0;have SW0:=h_ sW0;have B0:=k_ b0;have B1:=k_ b1;clear hW0 kW0 sW0 b0 b1;have HG:=h_ fun wq=>j6Z A f wq hV hf
 have hnp:=fun wq=>Q8 g wq
 clear hV hf;go_enter func38,ntmps38;go_wp2_with (first
  | (rw[HW0.o])
  | (refine wpList_load_mid rfl _ _ rfl _ _ rfl _ _ (j5 (B0.o _ (Kp.refl _ _))) underlying34 rfl D7 ?_)
  | fail)
 refine(HVa.o _).mono ?_;rintro e w1 ⟨rfl,hk1⟩;have K1:=h_ hk1;clear hk1 HVa;go_wp2_with (first
  | (refine wpList_load_mid rfl _ _ rfl _ _ rfl _ _ (j5 (B0.o _ K1.o)) underlying34 rfl D7 ?_)
  | (refine wpList_load_mid rfl _ _ rfl _ _ rfl _ _ (j5 (B1.o _ K1.o)) underlying32 rfl F5 ?_)
  | fail)
 refine(HG.o _).mono ?_;rintro e w2 ⟨z1,z2,z3,z4,rfl,hk2⟩;have K2:Hid (Kp w (w2.alloc (.cells #[O I z1,O I z2,O I z3,O I z4] 34)) Nul):=(KW0.o.trans (K1.o.trans hk2)).trans ((Kp.refl _ _).alloc _);clear hk2 HG;go_wp2_with fail
 go_ret2
 first|exact⟨rfl,K2.o⟩|exact K2.o
theorem jDN (g:Nat)(A:Ar4)(f:Int×Int)(w:World)(hV:Ar4.ok A=J)(hf:¬fits A f=J):
 Calls prog 40 #[an (H ⟨g,0,G⟩),T #[O I A.1.1,O I A.1.2,O I A.2.1,O I A.2.2],T #[O I f.1,O I f.2]] w fun e w'=>e=Q (au #[an G,O I 20])/\Kp w w' Nul:=by
 have HVa:Hid (∀wq,Calls prog 73 #[T #[O I A.1.1,O I A.1.2,O I A.2.1,O I A.2.2]] wq fun e w'=>e=Q (E J)/\Kp wq w' Nul):=fun wq=>(Q3 _ _ _ _ wq).mono fun e w' z=>⟨by rw[z.1];exact congrArg (fun b=>Q (E b)) hV,by rw[z.2];repeat (first|exact Kp.refl _ _|refine Kp.alloc ?_ _)⟩
 obtain⟨W0,hW0,kW0,b0,b1,sW0⟩:=lay2 w ([O I A.1.1,O I A.1.2,O I A.2.1,O I A.2.2]) ([O I f.1,O I f.2]) 34 32;have HW0:=h_ hW0;have KW0:=h_ kW0;have SW0:=h_ sW0;have B0:=k_ b0;have B1:=k_ b1;clear hW0 kW0 sW0 b0 b1;have HG:=h_ fun wq=>j6Z A f wq hV hf
 have hnp:=fun wq=>Q8 g wq
 clear hV hf;go_enter func40,ntmps40;go_wp2_with (first
  | (rw[HW0.o])
  | (refine wpList_load_mid rfl _ _ rfl _ _ rfl _ _ (j5 (B0.o _ (Kp.refl _ _))) underlying34 rfl D7 ?_)
  | fail)
 refine(HVa.o _).mono ?_;rintro e w1 ⟨rfl,hk1⟩;have K1:=h_ hk1;clear hk1 HVa;go_wp2_with (first
  | (refine wpList_load_mid rfl _ _ rfl _ _ rfl _ _ (j5 (B0.o _ K1.o)) underlying34 rfl D7 ?_)
  | (refine wpList_load_mid rfl _ _ rfl _ _ rfl _ _ (j5 (B1.o _ K1.o)) underlying32 rfl F5 ?_)
  | fail)
 refine(HG.o _).mono ?_;rintro e w2 ⟨z1,z2,z3,z4,rfl,hk2⟩;have K2:Hid (Kp w (w2.alloc (.cells #[O I z1,O I z2,O I z3,O I z4] 34)) Nul):=(KW0.o.trans (K1.o.trans hk2)).trans ((Kp.refl _ _).alloc _);clear hk2 HG;go_wp2_with fail
 go_ret2
 first|exact⟨rfl,K2.o⟩|exact K2.o
theorem jDE (g:Nat)(A:Ar4)(f:Int×Int)(w:World)(hV:Ar4.ok A=J)(hf:¬vC f.1 f.2=J):
 Calls prog 39 #[an (H ⟨g,0,G⟩),T #[O I f.1,O I f.2],T #[O I A.1.1,O I A.1.2,O I A.2.1,O I A.2.2]] w fun e w'=>e=Q (au #[an G,O I 20])/\Kp w w' Nul:=by
 have HVa:Hid (∀wq,Calls prog 73 #[T #[O I A.1.1,O I A.1.2,O I A.2.1,O I A.2.2]] wq fun e w'=>e=Q (E J)/\Kp wq w' Nul):=fun wq=>(Q3 _ _ _ _ wq).mono fun e w' z=>⟨by rw[z.1];exact congrArg (fun b=>Q (E b)) hV,by rw[z.2];repeat (first|exact Kp.refl _ _|refine Kp.alloc ?_ _)⟩
 obtain⟨W0,hW0,kW0,b0,b1,sW0⟩:=lay2 w ([O I f.1,O I f.2]) ([O I A.1.1,O I A.1.2,O I A.2.1,O I A.2.2]) 32 34;have HW0:=h_ hW0;have KW0:=h_ kW0;have SW0:=h_ sW0;have B0:=k_ b0;have B1:=k_ b1;clear hW0 kW0 sW0 b0 b1;have HVc:Hid (∀wq,Calls prog 49 #[T #[O I f.1,O I f.2]] wq fun e w'=>e=Q (E R)/\Kp wq w' Nul):=fun wq=>(j0t _ _ wq).mono fun e w' z=>⟨by rw[z.1];simpa using hf,Kp.of_gr z.2⟩
 have hnp:=fun wq=>Q8 g wq
 clear hV hf;go_enter func39,ntmps39;go_wp2_with (first
  | (rw[HW0.o])
  | (refine wpList_load_mid rfl _ _ rfl _ _ rfl _ _ (j5 (B1.o _ (Kp.refl _ _))) underlying34 rfl D7 ?_)
  | fail)
 refine(HVa.o _).mono ?_;rintro e w1 ⟨rfl,hk1⟩;have K1:=h_ hk1;clear hk1 HVa;go_wp2_with (first
  | (refine wpList_load_mid rfl _ _ rfl _ _ rfl _ _ (j5 (B0.o _ K1.o)) underlying32 rfl F5 ?_)
  | fail)
 refine(HVc.o _).mono ?_;rintro e w2 ⟨rfl,hk2⟩;have K2:=h_ (KW0.o.trans (K1.o.trans hk2));clear hk2 HVc;go_wp2_with fail
 go_ret2
 first|exact⟨rfl,K2.o⟩|exact K2.o
theorem j6d (cols:Bool)(at' cnt:Int)(w:World):
 Calls prog 37 #[an G,E cols,O I at',O I cnt] w fun e w'=>e=Q (au #[an G,O I 1])/\Kp w w' Nul:=by
 obtain⟨m,hm⟩:∃m:Int,(if cols=J then (256:Int) else 4096)=m:=⟨_,rfl⟩;obtain⟨V,hV⟩:=e_ (decide (1<=at'/\at'<=m /\ -m<=cnt/\cnt<=m));have HMn:Hid (∀wq,Calls prog 70 #[E cols,O I at',O I cnt] wq fun e w'=>e=Q (au #[O I m,E V])/\w'=wq):=fun wq=>by
  have:=j22 cols at' cnt wq;rw[hm,hV] at this;exact this
 clear hm hV;go_enter func37,ntmps37;go_wp2_with fail;refine(HMn.o _).mono ?_;rintro e w1 ⟨rfl,hz⟩;replace hz:=hz.symm;subst hz;clear HMn;go_wp2_with fail
 go_ret2
 first|exact⟨rfl,Kp.refl _ _⟩|exact Kp.refl _ _
theorem j6c (g:Nat)(cols:Bool)(at' cnt:Int)(w:World)(h:¬lnOk cols at' cnt):
 Calls prog 37 #[an (H ⟨g,0,G⟩),E cols,O I at',O I cnt] w fun e w'=>e=Q (au #[an G,O I 1])/\Kp w w' Nul:=by
 obtain⟨m,hm⟩:∃m:Int,(if cols=J then (256:Int) else 4096)=m:=⟨_,rfl⟩;obtain⟨V,hV⟩:=e_ (decide (1<=at'/\at'<=m /\ -m<=cnt/\cnt<=m));have HMn:Hid (∀wq,Calls prog 70 #[E cols,O I at',O I cnt] wq fun e w'=>e=Q (au #[O I m,E V])/\w'=wq):=fun wq=>by
  have:=j22 cols at' cnt wq;rw[hm,hV] at this;exact this
 have hnp:=fun wq=>Q8 g wq
 have h':V=R:=by
  rw[<- hV,decide_eq_false_iff_not];intro q;refine h ((j3N cols at' cnt).1 ?_);rw[hm];exact q
 clear h hm hV;subst h';go_enter func37,ntmps37;go_wp2_with fail;refine(HMn.o _).mono ?_;rintro e w1 ⟨rfl,hz⟩;replace hz:=hz.symm;subst hz;clear HMn;go_wp2_with fail
 go_ret2
 first|exact⟨rfl,Kp.refl _ _⟩|exact Kp.refl _ _
theorem j4K (A:Ar4)(t:Int×Int)(w:World):
 Calls prog 52 #[an G,T #[O I A.1.1,O I A.1.2,O I A.2.1,O I A.2.2],T #[O I t.1,O I t.2]] w fun e w'=>e=Q (au #[T #[O I 0,O I 0,O I 0,O I 0],O I 1])/\Kp w w' Nul:=by
 obtain⟨W0,hW0,kW0,b0,b1,b2,sW0⟩:=lay3 w ([O I A.1.1,O I A.1.2,O I A.2.1,O I A.2.2]) ([O I t.1,O I t.2]) ([O I 0,O I 0,O I 0,O I 0]) 34 32 34;have HW0:=h_ hW0;have KW0:=h_ kW0;have SW0:=h_ sW0;have B0:=k_ b0;have B1:=k_ b1;have B2:=k_ b2;clear hW0 kW0 sW0 b0 b1 b2;have HB2:=h_ (B2.o _ (Kp.refl _ _));go_enter func52,ntmps52;go_wp2_with (first
  | (rw[HW0.o])
  | (refine D5 rfl _ _ _ rfl _ _ _ _ HB2.o rfl rfl rfl D7 (by simp[Value.oneCell']) ?_;intro W5 hb5 hk5)
  | fail)
 refine bodyPost_ret (R9 rfl _ _ (w.heap.size+2) 34 _ (0,0) _ rfl hb5 underlying34 rfl D7) rfl ?_;exact⟨rfl,KW0.o.trans' hk5 (fun i hi e=>by have e':i=w.heap.size+2:=e;omega)⟩
theorem j9S (A1 A2 A3 A4 t1 t2 ae:Int)(w:World)(hE:¬ae=0)
 (HG:Hid (∀w,Calls prog 52 #[an G,T #[O I A1,O I A2,O I A3,O I A4],T #[O I t1,O I t2]] w fun e w'=>e=Q (au #[T #[O I 0,O I 0,O I 0,O I 0],O I ae])/\Kp w w' Nul)) :
 Calls prog 16 #[an G,T #[O I A1,O I A2,O I A3,O I A4],T #[O I t1,O I t2]] w fun e w'=>e=Q (au #[an G,O I ae])/\Kp w w' Nul:=by
 obtain⟨W,hW⟩:=e_ ((((w.alloc (.cells #[O I A1,O I A2,O I A3,O I A4] 34)).alloc (.cells #[O I t1,O I t2] 32)).alloc (.cells #[an G] 24)).alloc (.cells #[O I 0] 39));have HW:=h_ hW;have kW:Hid (Kp w W Nul):=by show Kp _ _ _;rw[<- hW];exact((((Kp.refl w Nul).alloc _).alloc _).alloc _).alloc _
 have HB2:Hid (Blk W (w.heap.size+1+1) [an G] 24):=by show Blk _ _ _ _;rw[<- hW];exact(blkN (by simp) [an G] _).alloc _
 have HB3:Hid (Blk W (w.heap.size+1+1+1) [O I 0] 39):=by show Blk _ _ _ _;rw[<- hW];exact blkN (by simp) [O I 0] _
 clear hW;go_enter func16,ntmps16;go_wp2_with fail;rw[HW.o];clear HW;refine(HG.o _).mono ?_;rintro e w1 ⟨rfl,hk1⟩;have K1:Hid (Kp w (w1.alloc (.cells #[O I 0,O I 0,O I 0,O I 0] 34)) Nul):=kW.o.trans (hk1.alloc _);have HC2:Hid (Blk (w1.alloc (.cells #[O I 0,O I 0,O I 0,O I 0] 34)) (w.heap.size+1+1) [an G] 24):=HB2.o.kp (hk1.alloc _) (fun x=>x);have HC3:=h_ fun Y (k:Kp (w1.alloc (.cells #[O I 0,O I 0,O I 0,O I 0] 34)) Y (fun i=>i=w.heap.size+1+1))=>(HB3.o.kp (hk1.alloc _) (fun x=>x)).kp k (fun e=>by have e':w.heap.size+1+1+1=w.heap.size+1+1:=e;omega)
 clear hk1 HB2 HB3;go_wp2_with (first
  | (refine L9 rfl _ _ _ rfl _ rfl _ rfl rfl _ _ HC2.o (by kernel_rfl) ?_;intro Y hbY hkY;have HD2:=h_ hbY;have HD3:=HC3.o Y hkY;have KY:=h_ (K1.o.trans' hkY (fun i hi e=>by have e':i=w.heap.size+1+1:=e;omega));clear hbY hkY HC2)
  | (refine L9 rfl _ _ _ rfl _ rfl _ rfl rfl _ _ HD3 (by kernel_rfl) ?_;intro Y2 hb2 hk2)
  | fail)
 have c1:=(HD2.o.kp hk2 (fun e=>by have e':w.heap.size+1+1=w.heap.size+1+1+1:=e;omega)).c_ 0 rfl;have c2:=hb2.c_ 0 rfl;refine bodyPost_ret (X8 rfl _ _ (w.heap.size+1+1) (w.heap.size+1+1+1) (an G) (O I ae) rfl rfl ?_ ?_) rfl ?_
 ·clear c2 hb2 hk2;go_simp
 ·clear c1 hb2 hk2;go_simp
 ·exact⟨rfl,KY.o.trans' hk2 (fun i hi e=>by have e':i=w.heap.size+1+1+1:=e;omega)⟩
theorem jBM (A1 A2 A3 A4 t1 t2 ae:Int)(w:World)(hE:¬ae=0)
 (HG:Hid (∀w,Calls prog 52 #[an G,T #[O I A1,O I A2,O I A3,O I A4],T #[O I t1,O I t2]] w fun e w'=>e=Q (au #[T #[O I 0,O I 0,O I 0,O I 0],O I ae])/\Kp w w' Nul)) :
 Calls prog 29 #[an G,T #[O I A1,O I A2,O I A3,O I A4],T #[O I t1,O I t2]] w fun e w'=>e=Q (au #[an G,O I ae])/\Kp w w' Nul:=by
 have kW:Hid (∀a b,Kp w ((w.alloc a).alloc b) Nul):=fun a b=>((Kp.refl w Nul).alloc _).alloc _
 go_enter func29,ntmps29;go_wp2_with fail;refine(HG.o _).mono ?_;rintro e w1 ⟨rfl,hk1⟩;have K1:=h_ ((kW.o _ _).trans hk1);clear hk1;go_wp2_with fail
 go_ret2
 first
 | exact⟨rfl,K1.o.alloc _⟩
 | exact K1.o.alloc _
theorem j9R (A:Ar4)(t:Int×Int)(w:World):Calls prog 16 #[an G,T #[O I A.1.1,O I A.1.2,O I A.2.1,O I A.2.2],T #[O I t.1,O I t.2]] w fun e w'=>e=Q (au #[an G,O I 1])/\Kp w w' Nul:=j9S _ _ _ _ _ _ 1 w (by decide) (fun w=>j4K A t w)
theorem jBL (A:Ar4)(t:Int×Int)(w:World):Calls prog 29 #[an G,T #[O I A.1.1,O I A.1.2,O I A.2.1,O I A.2.2],T #[O I t.1,O I t.2]] w fun e w'=>e=Q (au #[an G,O I 1])/\Kp w w' Nul:=jBM _ _ _ _ _ _ 1 w (by decide) (fun w=>j4K A t w)
theorem j9C (A:Ar4)(w:World):Calls prog 23 #[an G,T #[O I A.1.1,O I A.1.2,O I A.2.1,O I A.2.2]] w fun e w'=>e=Q (au #[an G,O I 1])/\Kp w w' Nul:=by
 have kW:Hid (∀a,Kp w (w.alloc a) Nul):=fun a=>(Kp.refl w Nul).alloc _
 go_enter func23,ntmps23;go_wp2_with fail
 go_ret2
 first|exact⟨rfl,kW.o _⟩|exact kW.o _
theorem j4S (cols:Bool)(at' cnt:Int)(w:World):Calls prog 65 #[an G,E cols,O I at',O I cnt] w fun e w'=>e=Q (au #[an G,O I 1])/\w'=w:=by
 go_enter func65,ntmps65;go_wp2_with fail
 go_ret2
 first|exact⟨rfl,rfl⟩|rfl|trivial
theorem jDc (at' cnt:Int)(w:World):Calls prog 30 #[an G,O I at',O I cnt] w fun e w'=>e=Q (au #[an G,O I 1])/\Kp w w' Nul:=by
 have ag:Hid (∀w,Calls prog 65 #[an G,E R,O I at',O I cnt] w fun e w'=>e=Q (au #[an G,O I 1])/\w'=w):=fun w=>j4S R at' cnt w
 go_enter func30,ntmps30;go_wp2_with fail;refine(ag.o _).mono ?_;rintro e w1 ⟨rfl,hz⟩;replace hz:=hz.symm;subst hz;go_wp2_with fail
 go_ret2
 first|exact⟨rfl,Kp.refl _ _⟩|exact Kp.refl _ _
theorem j9M (at' cnt:Int)(w:World):Calls prog 31 #[an G,O I at',O I cnt] w fun e w'=>e=Q (au #[an G,O I 1])/\Kp w w' Nul:=by
 have ag:Hid (∀w,Calls prog 65 #[an G,E J,O I at',O I cnt] w fun e w'=>e=Q (au #[an G,O I 1])/\w'=w):=fun w=>j4S J at' cnt w
 go_enter func31,ntmps31;go_wp2_with fail;refine(ag.o _).mono ?_;rintro e w1 ⟨rfl,hz⟩;replace hz:=hz.symm;subst hz;go_wp2_with fail
 go_ret2
 first|exact⟨rfl,Kp.refl _ _⟩|exact Kp.refl _ _
theorem j9r (A:Ar4)(f:Int×Int)(w:World):Calls prog 22 #[an G,T #[O I f.1,O I f.2],T #[O I A.1.1,O I A.1.2,O I A.2.1,O I A.2.2]] w fun e w'=>e=Q (au #[an G,O I 1])/\Kp w w' Nul:=by
 obtain⟨W0,hW0,kW0,b0,b1,b2,b3,sW0⟩:=lay4 w ([O I f.1,O I f.2]) ([O I A.1.1,O I A.1.2,O I A.2.1,O I A.2.2]) ([an G]) ([O I 0]) 32 34 24 39;have HW0:=h_ hW0;have KW0:=h_ kW0;have SW0:=h_ sW0;have B0:=k_ b0;have B1:=k_ b1;have B2:=k_ b2;have B3:=k_ b3;clear hW0 kW0 sW0 b0 b1 b2 b3;have HC2:=h_ (B2.o _ (Kp.refl _ _));have HC3:=h_ fun Y (k:Kp W0 Y (fun i=>i=w.heap.size+2))=>(B3.o _ (Kp.refl _ _)).kp k (by show ¬_=_;omega)
 go_enter func22,ntmps22;go_wp2_with (first
  | (rw[HW0.o])
  | (refine L9 rfl _ _ _ rfl _ rfl _ rfl rfl _ _ HC2.o (by kernel_rfl) ?_;intro Y hbY hkY;have HD2:=h_ hbY;have HD3:=HC3.o Y hkY;have KY:=h_ (KW0.o.trans' hkY (fun i hi e=>by have e':i=w.heap.size+2:=e;omega));clear hbY hkY HC2)
  | (refine L9 rfl _ _ _ rfl _ rfl _ rfl rfl _ _ HD3 (by kernel_rfl) ?_;intro Y2 hb2 hk2)
  | fail)
 have c1:=(HD2.o.kp hk2 (by show ¬_=_;omega)).c_ 0 rfl;have c2:=hb2.c_ 0 rfl;refine bodyPost_ret (X8 rfl _ _ (w.heap.size+2) (w.heap.size+3) (an G) (O I 1) rfl rfl ?_ ?_) rfl ?_
 ·clear c2 hb2 hk2;go_simp
 ·clear c1 hb2 hk2;go_simp
 ·exact⟨rfl,KY.o.trans' hk2 (fun i hi e=>by have e':i=w.heap.size+3:=e;omega)⟩
end
section
open Go.RowKit Go.Maps Go.Sort Go.Lib Go.Shelf
theorem jBS {A ak:Ar4}(hA:Ar4.ok A=J)(hT:Ar4.ok ak=J)(c s:Int):mvF A ak ((c,s),(c,s))=if inR A.1.1 A.1.2 A.2.1 A.2.2 c s=J then H ((c+ak.1.1-A.1.1,s+ak.1.2-A.1.2),(c+ak.1.1-A.1.1,s+ak.1.2-A.1.2)) else if inR ak.1.1 ak.1.2 ak.2.1 ak.2.2 c s=J then G else H ((c,s),(c,s)):=by
 unfold mvF;simp only[Bool.and_self];rw[j09 hA,j09 hT]
 rfl
inductive RmP (A ak:Ar4) (L:List Cc) (w w':World):Value->Prop
 | mk (r:Nat) (M:List Cc) (hr:w.heap.size<=r) (dm:DM w' w.heap.size r M) (mem:∀y,y∈M↔y∈brL (mvF A ak) L) (k:Kp w w' Nul):RmP A ak L w w' (au #[an (H ⟨r,0,G⟩),O I 0])
theorem jDM (A ak:Ar4)(t:Int×Int)(B g:Nat)(L:List Cc)(w:World)(hMv:mvOk A ak)(hg:DM w B g L)
 (HG:Hid (∀wq,Calls prog 74 #[T #[O I A.1.1,O I A.1.2,O I A.2.1,O I A.2.2],T #[O I t.1,O I t.2]] wq fun e w'=>e=Q (au #[T #[O I ak.1.1,O I ak.1.2,O I ak.2.1,O I ak.2.2],E J])/\Kp wq w' Nul)) :
 Calls prog 40 #[an (H ⟨g,0,G⟩),T #[O I A.1.1,O I A.1.2,O I A.2.1,O I A.2.2],T #[O I t.1,O I t.2]] w fun e w'=>∃v,e=Q v/\RmP A ak L w w' v:=by
 obtain⟨v0,ys,hd,hal⟩:=hg.ex;obtain⟨p,cp,rfl,hrow⟩:=j19 hd;obtain⟨n,hn⟩:∃n,ys.length=n:=⟨_,rfl⟩;obtain⟨K,hK⟩:∃K,ys.map (·.1)=K:=⟨_,rfl⟩;rw[hK] at hal;rw[hn] at hd;have HN:Hid (ys.length=n/\K.length=n/\n<=4096/\ys.map (·.1)=K):=⟨hn,by rw[<- hK,List.length_map,hn],by have h1:=hal.len;have h2:=hg.ok.len;rw[<- hK,List.length_map,hn] at h1;omega,hK⟩;have HSl:Hid (∀wq,Kp w wq Nul->wq.cell? ⟨g,0,G⟩=H (U p n cp)):=fun wq k=>(hd.box.kp k (fun x=>x)).cell rfl
 have HRow:=h_ hrow;have HAl:=h_ hal;have HOk:Hid (Ok17 L/\L.Pairwise (fun x y=>x.1≠y.1)):=⟨hg.ok,hg.once⟩;clear hg hd hal hrow hn hK;have HMv:=h_ hMv;have HVa:Hid (∀wq,Calls prog 73 #[T #[O I A.1.1,O I A.1.2,O I A.2.1,O I A.2.2]] wq fun e w'=>e=Q (E J)/\Kp wq w' Nul):=fun wq=>(Q3 _ _ _ _ wq).mono fun e w' z=>⟨by rw[z.1];exact congrArg (fun b=>Q (E b)) hMv.a,by rw[z.2];repeat (first|exact Kp.refl _ _|refine Kp.alloc ?_ _)⟩
 obtain⟨W0,hW0,kW0,b0,b1,sW0⟩:=lay2 w ([O I A.1.1,O I A.1.2,O I A.2.1,O I A.2.2]) ([O I t.1,O I t.2]) 34 32;have HW0:=h_ hW0;have KW0:=h_ kW0;have SW0:=h_ sW0;have B0:=k_ b0;have B1:=k_ b1;clear hW0 kW0 sW0 b0 b1;have hnp:=fun wq=>Q8 g wq
 clear hMv;go_enter func40,ntmps40;go_wp2_with (first
  | (rw[HW0.o])
  | (refine wpList_load_mid rfl 34 (.tmp 4) rfl w.heap.size 0 rfl [O I A.1.1,O I A.1.2,O I A.2.1,O I A.2.2] _ (j5 (B0.o _ (Kp.refl _ _))) underlying34 rfl D7 ?_)
  | fail)
 refine(HVa.o _).mono ?_;rintro e w1 ⟨rfl,hk1⟩;have K1:=h_ hk1;clear hk1 HVa;go_wp2_with (first
  | (refine wpList_load_mid rfl 34 (.tmp 4) rfl w.heap.size 0 rfl [O I A.1.1,O I A.1.2,O I A.2.1,O I A.2.2] _ (j5 (B0.o _ K1.o)) underlying34 rfl D7 ?_)
  | (refine wpList_load_mid rfl 32 (.tmp 5) rfl (w.heap.size+1) 0 rfl [O I t.1,O I t.2] _ (j5 (B1.o _ K1.o)) underlying32 rfl F5 ?_)
  | fail)
 refine(HG.o _).mono ?_;rintro e w2 ⟨rfl,hk2⟩;obtain⟨TB,hTB⟩:∃TB,w2.heap.size=TB:=⟨_,rfl⟩;obtain⟨W4,hW4,kW4,bW4,sW4⟩:=lay1 w2 [O I ak.1.1,O I ak.1.2,O I ak.2.1,O I ak.2.2] 34;rw[hTB] at bW4;have HW4:=h_ hW4;have K04:=h_ ((K1.o.trans hk2).trans kW4);have HTB:Hid (w2.heap.size=TB/\TB<W4.heap.size/\w.heap.size<W4.heap.size):=⟨hTB,bW4.lt,by have h1:=SW0.o;have h2:=K04.o.size;omega⟩;have HTh:=k_ bW4;have HFr:=h_ fun X (kX:Kp W4 X Nul)=>B0.o X (K04.o.trans kX)
 have HKw4:=h_ (KW0.o.trans K04.o);obtain⟨W5,hW5,kW5,bW5,sW5⟩:=lay1 W4 [U G 0 0] 81;have HW5:=h_ hW5;have HD0:Hid (DM W5 w.heap.size W4.heap.size []):=DM.new bW5;have HK45:=h_ kW5;have q0:W5.cell? ⟨g,0,G⟩=H (U p n cp):=HSl.o W5 (HKw4.o.trans kW5);clear hk2 hTB hW4 kW4 bW4 sW4 hW5 kW5 bW5 sW5 HG;go_upto_region 5 with (first
  | (refine F9 rfl 34 (.tmp 9) (.tmp 27) rfl _ _ _ _ _ (by first|rfl|simp) rfl rfl rfl D7 (by simp[Value.oneCell']) ?_)
  | fail)
 (try simp only[Act.put])
 rw[HW4.o,HTB.o.1];go_upto_region 8 with fail;rw[HW5.o];clear HW5 HW4 hnp;go_wp2_with fail;go_loopw[12] (fun i wr=>∃(k:Nat) (M:List Cc),k<=n/\i=O I k/\DM wr w.heap.size W4.heap.size M/\(∀z,z∈M↔z∈(K.take k).filterMap (fun x:Cc=>(mvF A ak (x.1,x.1)).map fun b=>(b.1,alC (mvF A ak) x.2)))/\M.length<=k/\Kp W4 wr Nul) (fun i _=>n-(RowKit.intOf i).toNat)
 case atStart=>exact⟨0,[],Nat.zero_le _,rfl,HD0.o,by simp,Nat.zero_le _,HK45.o⟩
 case round=>
  clear q0 HD0;obtain⟨k,M,hk,rfl,hdm,hmem,hlen,hkp⟩:=hrel;have HDM:=h_ hdm;have HRlt:=h_ hdm.lt;have HMem:=h_ hmem;have HLen:=h_ hlen;have HK4:Hid (Kp W4 wr Nul):=hkp;have HKw:Hid (Kp w wr Nul):=HKw4.o.trans hkp;clear hdm hmem hlen hkp;have q0:wr.cell? ⟨g,0,G⟩=H (U p n cp):=HSl.o wr HKw.o;by_cases hlt:k<n
  ·skip
   have hkt:k<ys.length:=(by rw[HN.o.1];exact hlt);obtain⟨⟨⟨⟨c,s⟩,a⟩,sl⟩,hys⟩:∃y,ys[k]=y:=⟨_,rfl⟩;have hget:ys[k]? = H (((c,s),a),sl):=(by rw[List.getElem?_eq_getElem hkt,hys]);have hKk:K[k]? = H ((c,s),a):=(by rw[<- HN.o.2.2.2,List.getElem?_map,hget];rfl);obtain⟨b,rfl,hb,hra⟩:=HRow.o k _ hget;have hmL:((c,s),a)∈L:=(HAl.o.mem _).1 (List.mem_of_getElem? hKk);have HGd:Hid (Gd a):=HOk.o.1.gd _ hmL;have HvC:Hid (vC c s=J):=HOk.o.1.at' _ hmL;have HKk:Hid (K[k]? = H ((c,s),a)):=hKk;have HRG:Hid (∀wq,Kp w wq Nul->wq.rangeAt b (k*23) [O I c,O I s]/\wq.rangeAt b (k*23+2) (a.cells sl)/\wq.rangeAt b (k*23) (j8 ((c,s),a) sl)/\NdIn wq (fun b=>b<w.heap.size) sl a.t):=(fun wq q=>⟨(I9 (hra wq q).1).1,(I9 (hra wq q).1).2,(hra wq q).1,(hra wq q).2⟩);have hk0:(0:Int)<=(k:Int):=(by omega);have hkn:(k:Int)<(n:Int):=(by omega);have hkb:(k:Int)+1<=9223372036854775807:=by have:=HN.o.2.2.1;omega
   clear hkt hys hget hKk hb hra hmL;have HKv:Hid (∀y∈K,vC y.1.1 y.1.2=J):=(fun y hy=>HOk.o.1.at' y ((HAl.o.mem y).1 hy));obtain⟨V1,hV1⟩:∃V,inR A.1.1 A.1.2 A.2.1 A.2.2 c s=V:=⟨_,rfl⟩;obtain⟨V2,hV2⟩:∃V,inR ak.1.1 ak.1.2 ak.2.1 ak.2.2 c s=V:=⟨_,rfl⟩;have HH1:Hid (∀wq,Calls prog 76 #[T #[O I A.1.1,O I A.1.2,O I A.2.1,O I A.2.2],T #[O I c,O I s]] wq fun e w'=>e=Q (E V1)/\Kp wq w' Nul):=(fun wq=>by rw[<- hV1];exact X9 _ _ _ _ _ _ wq);have HH2:Hid (∀wq,Calls prog 76 #[T #[O I ak.1.1,O I ak.1.2,O I ak.2.1,O I ak.2.2],T #[O I c,O I s]] wq fun e w'=>e=Q (E V2)/\Kp wq w' Nul):=(fun wq=>by rw[<- hV2];exact X9 _ _ _ _ _ _ wq);obtain⟨M1,hM1⟩:∃z,c+ak.1.1-A.1.1=z:=⟨_,rfl⟩;obtain⟨N1,hN1⟩:∃z,s+ak.1.2-A.1.2=z:=⟨_,rfl⟩;have HMd:Hid (∀wq,Calls prog 80 #[T #[O I c,O I s],T #[O I A.1.1,O I A.1.2,O I A.2.1,O I A.2.2],T #[O I ak.1.1,O I ak.1.2,O I ak.2.1,O I ak.2.2]] wq fun e w'=>e=Q (T #[O I M1,O I N1])/\Kp wq w' Nul):=fun wq=>by
    have h1:=(I2 A).1 HMv.o.a;have h2:=(I2 ak).1 HMv.o.b;have h3:=(G6 _ _).1 HvC.o;exact j2O _ _ _ _ _ _ _ _ _ _ _ _ wq (by rw[<- hM1];exact j0D (by omega) (by omega) (by omega)) (by rw[<- hN1];exact j0D (by omega) (by omega) (by omega))
   have HFa:Hid (mvF A ak ((c,s),(c,s))=if V1=J then H ((M1,N1),(M1,N1)) else if V2=J then G else H ((c,s),(c,s))):=by
    show _=_;rw[jBS HMv.o.a HMv.o.b,hV1,hV2,hM1,hN1]
   clear hV1 hV2 hM1 hN1;obtain⟨W1,hW1,kW1,bW1,sW1⟩:=lay1 wr (j8 ((c,s),a) sl) 52;have HW1:=h_ hW1;have K1:=h_ kW1;have HP1:=k_ bW1;have HIn1:=(h_ fun X (kX:Kp wr X Nul)=>(HRG.o X (HKw.o.trans kX)).2.2.2);have O1:=h_ ((HRG.o wr HKw.o).2.2.2.one);have HRP:=h_ ((HRG.o wr HKw.o).2.2.1);have p2:=(HP1.o W1 (Kp.refl _ _)).c_ 2 rfl;have HP2:=h_ p2;clear hW1 kW1 bW1 sW1 p2;go_upto_region 12 with (first
    | (rw[HW1.o])
    | (refine wpList_load_mid rfl 52 (.tmp 46) rfl b (k*23) rfl (j8 ((c,s),a) sl) _ HRP.o underlying52 rfl j0B ?_)
    | (refine F9 rfl 52 (.tmp 13) (.tmp 47) rfl _ _ _ _ _ (by first|rfl|simp) rfl rfl rfl j0B (j2G _ O1.o) ?_)
    | fail)
   (try simp only[Act.put])
   (try rw[HW1.o])
   clear q0 HRP;by_cases h2:a.k=2
   ·skip
    have hk2:=h2;have HR8:=h_ (J4 (pre:=[O I c,O I s,O I a.k,O I a.v.k,ap ao a.v.x,aq a.v.s,E a.v.b,O I a.v.f]) (l:=a.t.hd.cells sl) (post:=[]) (t:=52) (fr:=(0,0)) (by rw[List.append_nil];exact HP1.o W1 (Kp.refl _ _)));have HFol:=(h_ fun wq (q:Kp w wq Nul)=>jDG A ak HMv.o.a HMv.o.b a.t.size a.t sl (fun b=>b<w.heap.size) R wq (Nat.le_refl _) HGd.o.size (j38 HGd.o hk2) (HRG.o wq q).2.2.2);have a0:=(HFr.o W1 (HK4.o.trans K1.o)).c_ 0 rfl;have a1:=(HFr.o W1 (HK4.o.trans K1.o)).c_ 1 rfl;have a2:=(HFr.o W1 (HK4.o.trans K1.o)).c_ 2 rfl;have a3:=(HFr.o W1 (HK4.o.trans K1.o)).c_ 3 rfl;have e0:=(HTh.o W1 (HK4.o.trans K1.o)).c_ 0 rfl;have e1:=(HTh.o W1 (HK4.o.trans K1.o)).c_ 1 rfl;have e2:=(HTh.o W1 (HK4.o.trans K1.o)).c_ 2 rfl;have e3:=(HTh.o W1 (HK4.o.trans K1.o)).c_ 3 rfl
    have p2:=HP2.o;rw[hk2] at p2;go_wp2_with (first
     | (refine wpList_load_mid rfl 48 (.tmp 53) rfl wr.heap.size 8 rfl (a.t.hd.cells sl) _ HR8.o underlying48 rfl j3 ?_)
     | fail)
    refine(HFol.o _ (HKw.o.trans K1.o)).mono ?_;rintro e w2 ⟨sl',fp,rfl,ho,hbl⟩;have K12:Hid (Kp W1 w2 Nul):=Kp.of_below hbl;have HO2:=h_ ho;have O2:=h_ ho.own.one;have HPB:Hid (Blk w2 wr.heap.size ([O I c,O I s,O I a.k,O I a.v.k,ap ao a.v.x,aq a.v.s,E a.v.b,O I a.v.f]++a.t.hd.cells sl++[]) 52):=(by show Blk _ _ _ _;rw[List.append_nil];exact HP1.o w2 (Kp.of_below hbl));obtain⟨H2,hH2⟩:=e_ ((alN (mvF A ak) a.t).hd);have HH2':=h_ hH2;rw[hH2];clear hH2 ho hbl a0 a1 a2 a3 e0 e1 e2 e3 p2 HFol HR8;go_upto_region 14 with (first
     | (refine L8 rfl 48 (.tmp 59) (.tmp 57) rfl wr.heap.size 8 [O I c,O I s,O I a.k,O I a.v.k,ap ao a.v.x,aq a.v.s,E a.v.b,O I a.v.f] (a.t.hd.cells sl) [] (H2.cells sl') _ HPB.o rfl rfl rfl rfl j3 (Hd.one H2 O2.o) ?_;intro X hX kX0;have HX0:Hid (Blk X wr.heap.size ([O I c,O I s,O I a.k,O I a.v.k,ap ao a.v.x,aq a.v.s,E a.v.b,O I a.v.f]++H2.cells sl'++[]) 52):=hX;have KX0:Hid (Kp w2 X (fun i=>i=wr.heap.size)):=kX0;clear hX kX0)
     | fail)
    have HS1:=h_ ((HP1.o W1 (Kp.refl _ _)).lt);have KX:=h_ ((K1.o.trans K12.o).trans' KX0.o (fun i hi e=>by have e':i=wr.heap.size:=e;omega));obtain⟨a',ha'⟩:=e_ (alC (mvF A ak) a);have HA':=h_ ha';have HGa:Hid (Gd a'):=(by show Gd _;rw[<- ha'];exact j0P (j24 HMv.o) HGd.o);have HIX:Hid (NdIn X (fun _=>True) sl' a'.t):=by
     show NdIn _ _ _ _;rw[<- ha'];exact(HO2.o.isIn.kp KX0.o (fun i hi e=>by have e':i=wr.heap.size:=e;have h1:=hi.1;have:=HS1.o;omega)).mono (fun b hb hl=>⟨rfl,trivial⟩)
    have HPX:Hid (∀Y,Kp X Y Nul->Blk Y wr.heap.size (j8 ((c,s),a') sl') 52):=fun Y kY=>by
     have h:=HX0.o;unfold Hid at h;rw[List.append_nil,<- HH2'.o] at h;rw[<- HA'.o];exact(show Blk X wr.heap.size (j8 ((c,s),alC (mvF A ak) a) sl') 52 from h).kp kY (fun x=>x)
    clear ha' hk2 HX0;have HPut:Hid (∀c2 s2,vC c2 s2=J->∀wq,Kp X wq Nul->Calls prog 12 #[an (H ⟨W4.heap.size,0,G⟩),T #[O I c2,O I s2],T (a'.cells sl').toArray] wq fun e w'=>e=Q (O I 0)/\DM w' w.heap.size W4.heap.size (putL M (c2,s2) a')/\Kp wq w' (fun i=>i=W4.heap.size)):=fun c2 s2 hv wq q=>by
     have h:=dput w.heap.size W4.heap.size M c2 s2 a' sl' _ wq (HDM.o.kp (KX.o.trans q)) (Nat.le_trans HKw.o.size (Nat.le_trans KX.o.size q.size)) HGa.o hv (HIX.o.kp q (fun _ _ x=>x));have hroom:G9 M (c2,s2)=J:=O4.2 (.inl (by have h1:=HLen.o;have h2:=HN.o.2.2.1;omega));rw[if_pos hroom,if_pos hroom] at h;exact h
    have a0:=(HFr.o X (HK4.o.trans KX.o)).c_ 0 rfl;have a1:=(HFr.o X (HK4.o.trans KX.o)).c_ 1 rfl;have a2:=(HFr.o X (HK4.o.trans KX.o)).c_ 2 rfl;have a3:=(HFr.o X (HK4.o.trans KX.o)).c_ 3 rfl;have p0:=(HPX.o X (Kp.refl _ _)).c_ 0 rfl;have p1:=(HPX.o X (Kp.refl _ _)).c_ 1 rfl;go_wp2_with fail;refine(HH1.o _).mono ?_;rintro e w4 ⟨rfl,hk4⟩;have K4:=h_ hk4;have KX4:=h_ (KX.o.trans hk4);clear hk4 a0 a1 a2 a3 p0 p1;cases V1 with
    | true=>
     have HB:Hid (mvF A ak ((c,s),(c,s))=H ((M1,N1),(M1,N1))):=(by show _=_;rw[HFa.o];simp);have hvM:=j1D (j24 HMv.o) HvC.o HB.o;have HPutM:=h_ (HPut.o M1 N1 hvM);have HPa:Hid (∀wq,Kp w4 wq (fun i=>i=W4.heap.size)->wq.rangeAt wr.heap.size 0 [O I c,O I s]/\wq.rangeAt wr.heap.size 2 (a'.cells sl')/\Blk wq w.heap.size [O I A.1.1,O I A.1.2,O I A.2.1,O I A.2.2] 34/\Blk wq TB [O I ak.1.1,O I ak.1.2,O I ak.2.1,O I ak.2.2] 34):=fun wq q=>by
      have hne:¬wr.heap.size=W4.heap.size:=(by have:=HRlt.o;omega);have h:=I9 (j5 ((HPX.o w4 K4.o).kp q hne));exact⟨h.1,by have h2:=h.2;rw[Nat.zero_add] at h2;exact h2,(HFr.o w4 (HK4.o.trans KX4.o)).kp q (by show ¬_=_;have:=HTB.o;omega),(HTh.o w4 (HK4.o.trans KX4.o)).kp q (by show ¬_=_;have:=HTB.o;omega)⟩
     clear hvM;go_wp2_with fail;refine wp_region_noPanic ?_;refine I0 (fun w':World=>Kp w4 w' (fun i=>i=W4.heap.size)) (by kernel_rfl) ((Kp.refl w4 _).drew) (fun hHeld=>?_);refine tk 0 64 hHeld ?_;refine tk 1 65 hHeld ?_;refine tk 2 66 hHeld ?_ (v:=T ([O I c,O I s]).toArray) (hy:=by exact fun w' hSw=>q9 32 (.tmp 65) rfl wr.heap.size 0 rfl ([O I c,O I s]) _ ((HPa.o w' hSw).1) underlying32 rfl F5);refine tk 3 67 hHeld ?_ (v:=T ([O I A.1.1,O I A.1.2,O I A.2.1,O I A.2.2]).toArray) (hy:=by exact fun w' hSw=>q9 34 (.tmp 4) rfl w.heap.size 0 rfl ([O I A.1.1,O I A.1.2,O I A.2.1,O I A.2.2]) _ (j5 (HPa.o w' hSw).2.2.1) underlying34 rfl D7);refine tk 4 68 hHeld ?_ (v:=T ([O I ak.1.1,O I ak.1.2,O I ak.2.1,O I ak.2.2]).toArray) (hy:=by exact fun w' hSw=>q9 34 (.tmp 9) rfl TB 0 rfl ([O I ak.1.1,O I ak.1.2,O I ak.2.1,O I ak.2.2]) _ (j5 (HPa.o w' hSw).2.2.2) underlying34 rfl D7)
     refine tk 6 70 hHeld ?_;refine tk 7 71 hHeld ?_ (v:=T (a'.cells sl').toArray) (hy:=by exact fun w' hSw=>q9 50 (.tmp 70) rfl wr.heap.size 2 rfl (a'.cells sl') _ ((HPa.o w' hSw).2.1) underlying50 rfl D9);refine D6 (i:=5) (by kernel_rfl) rfl rfl (fun KK hKK=>?_);go_simp;refine(HMd.o _).mono ?_;rintro e w5 ⟨rfl,hk5⟩;have K45:=h_ (((Kp.refl w4 Nul).drew).trans hk5);refine hKK.o _ _ K45.o.of_nul (fun hHeld=>?_);clear hKK KK hk5
     (try simp only[Act.put,Sz0,Sz1,Sz2])
     refine D6 (i:=8) (by kernel_rfl) rfl rfl (fun KK hKK=>?_);go_simp;refine(HPutM.o _ (K4.o.trans K45.o)).mono ?_;rintro e w6 ⟨rfl,hd6,hk6⟩;have HD5:=h_ hd6;have K46:=h_ (K45.o.of_nul.trans hk6);have KX6:=h_ (K4.o.of_nul.trans K46.o);refine hKK.o _ _ K46.o (fun hHeld=>?_);clear hKK KK hd6 hk6
     (try simp only[Act.put,Sz0,Sz1,Sz2])
     refine wpAnyH_done (by kernel_rfl) ?_ _;refine NoPanic.normal ?_;clear hHeld HPa HPutM;go_wp2_with fail;go_roundw
     case rel=>exact⟨k+1,_,by omega,by go_num,HD5.o,(by rw[<- HA'.o];exact Y7 (y:=((M1,N1),alC (mvF A ak) a)) HKk.o (by show (Option.map _ _)=_;rw[HB.o];rfl) (j04 (j1P HMv.o) HAl.o.st HKv.o HKk.o HB.o) HMem.o),j00 HLen.o,(HK4.o.trans KX.o).trans' KX6.o (fun i hi e=>by have e':i=W4.heap.size:=e;omega)⟩
     case measure=>simp only[RowKit.intOf];omega
    | false=>
     have e0:=(HTh.o w4 (HK4.o.trans KX4.o)).c_ 0 rfl;have e1:=(HTh.o w4 (HK4.o.trans KX4.o)).c_ 1 rfl;have e2:=(HTh.o w4 (HK4.o.trans KX4.o)).c_ 2 rfl;have e3:=(HTh.o w4 (HK4.o.trans KX4.o)).c_ 3 rfl;have p0:=(HPX.o w4 K4.o).c_ 0 rfl;have p1:=(HPX.o w4 K4.o).c_ 1 rfl;go_wp2_with fail;refine(HH2.o _).mono ?_;rintro e w5 ⟨rfl,hk5⟩;have K5:=h_ (K4.o.trans hk5);have KX5:=h_ (KX.o.trans K5.o);clear hk5 e0 e1 e2 e3 p0 p1;cases V2 with
     | true=>
      have HB:Hid (mvF A ak ((c,s),(c,s))=G):=(by show _=_;rw[HFa.o];simp);go_wp2_with fail;go_roundw
      case rel=>exact⟨k+1,M,by omega,by go_num,HDM.o.kp KX5.o,j1F HKk.o (by show (Option.map _ _)=_;rw[HB.o];rfl) HMem.o,Nat.le_succ_of_le HLen.o,HK4.o.trans KX5.o⟩
      case measure=>simp only[RowKit.intOf];omega
     | false=>
      have HB:Hid (mvF A ak ((c,s),(c,s))=H ((c,s),(c,s))):=(by show _=_;rw[HFa.o];simp);have HPutC:=h_ (HPut.o c s HvC.o);have p0:=(HPX.o w5 K5.o).c_ 0 rfl;have p1:=(HPX.o w5 K5.o).c_ 1 rfl;have HRc:Hid (w5.rangeAt wr.heap.size 2 (a'.cells sl')):=by
       have h2:=(I9 (j5 (HPX.o w5 K5.o))).2;rw[Nat.zero_add] at h2;exact h2
      go_wp2_with (first
       | (refine wpList_load_mid rfl 50 (.tmp 81) rfl wr.heap.size 2 rfl (a'.cells sl') _ HRc.o underlying50 rfl D9 ?_)
       | fail)
      refine(HPutC.o _ K5.o).mono ?_;rintro e w6 ⟨rfl,hd6,hk6⟩;have HD5:=h_ hd6;have KX6:=h_ (K5.o.of_nul.trans hk6);clear hd6 hk6 p0 p1;go_wp2_with fail;go_roundw
      case rel=>exact⟨k+1,_,by omega,by go_num,HD5.o,(by rw[<- HA'.o];exact Y7 (y:=((c,s),alC (mvF A ak) a)) HKk.o (by show (Option.map _ _)=_;rw[HB.o];rfl) (j04 (j1P HMv.o) HAl.o.st HKv.o HKk.o HB.o) HMem.o),j00 HLen.o,(HK4.o.trans KX.o).trans' KX6.o (fun i hi e=>by have e':i=W4.heap.size:=e;omega)⟩
      case measure=>simp only[RowKit.intOf];omega
   ·skip
    have KX:=h_ K1.o;have HGa:=h_ HGd.o;have HA':Hid (alC (mvF A ak) a=a):=j16 _ HGd.o.val h2;have HIX:=h_ ((HIn1.o W1 K1.o).mono (fun b hb hl=>⟨rfl,trivial⟩));have HPX:=h_ HP1.o;have hk2:(a.k==2)=R:=(by simpa using h2);have p2:=HP2.o;go_upto_region 14 with fail;clear p2 hk2;have HPut:Hid (∀c2 s2,vC c2 s2=J->∀wq,Kp W1 wq Nul->Calls prog 12 #[an (H ⟨W4.heap.size,0,G⟩),T #[O I c2,O I s2],T (a.cells sl).toArray] wq fun e w'=>e=Q (O I 0)/\DM w' w.heap.size W4.heap.size (putL M (c2,s2) a)/\Kp wq w' (fun i=>i=W4.heap.size)):=fun c2 s2 hv wq q=>by
     have h:=dput w.heap.size W4.heap.size M c2 s2 a sl _ wq (HDM.o.kp (KX.o.trans q)) (Nat.le_trans HKw.o.size (Nat.le_trans KX.o.size q.size)) HGa.o hv (HIX.o.kp q (fun _ _ x=>x));have hroom:G9 M (c2,s2)=J:=O4.2 (.inl (by have h1:=HLen.o;have h2:=HN.o.2.2.1;omega));rw[if_pos hroom,if_pos hroom] at h;exact h
    have a0:=(HFr.o W1 (HK4.o.trans KX.o)).c_ 0 rfl;have a1:=(HFr.o W1 (HK4.o.trans KX.o)).c_ 1 rfl;have a2:=(HFr.o W1 (HK4.o.trans KX.o)).c_ 2 rfl;have a3:=(HFr.o W1 (HK4.o.trans KX.o)).c_ 3 rfl;have p0:=(HPX.o W1 (Kp.refl _ _)).c_ 0 rfl;have p1:=(HPX.o W1 (Kp.refl _ _)).c_ 1 rfl;go_wp2_with fail;refine(HH1.o _).mono ?_;rintro e w4 ⟨rfl,hk4⟩;have K4:=h_ hk4;have KX4:=h_ (KX.o.trans hk4);clear hk4 a0 a1 a2 a3 p0 p1;cases V1 with
    | true=>
     have HB:Hid (mvF A ak ((c,s),(c,s))=H ((M1,N1),(M1,N1))):=(by show _=_;rw[HFa.o];simp);have hvM:=j1D (j24 HMv.o) HvC.o HB.o;have HPutM:=h_ (HPut.o M1 N1 hvM);have HPa:Hid (∀wq,Kp w4 wq (fun i=>i=W4.heap.size)->wq.rangeAt wr.heap.size 0 [O I c,O I s]/\wq.rangeAt wr.heap.size 2 (a.cells sl)/\Blk wq w.heap.size [O I A.1.1,O I A.1.2,O I A.2.1,O I A.2.2] 34/\Blk wq TB [O I ak.1.1,O I ak.1.2,O I ak.2.1,O I ak.2.2] 34):=fun wq q=>by
      have hne:¬wr.heap.size=W4.heap.size:=(by have:=HRlt.o;omega);have h:=I9 (j5 ((HPX.o w4 K4.o).kp q hne));exact⟨h.1,by have h2:=h.2;rw[Nat.zero_add] at h2;exact h2,(HFr.o w4 (HK4.o.trans KX4.o)).kp q (by show ¬_=_;have:=HTB.o;omega),(HTh.o w4 (HK4.o.trans KX4.o)).kp q (by show ¬_=_;have:=HTB.o;omega)⟩
     clear hvM;go_wp2_with fail;refine wp_region_noPanic ?_;refine I0 (fun w':World=>Kp w4 w' (fun i=>i=W4.heap.size)) (by kernel_rfl) ((Kp.refl w4 _).drew) (fun hHeld=>?_);refine tk 0 64 hHeld ?_;refine tk 1 65 hHeld ?_;refine tk 2 66 hHeld ?_ (v:=T ([O I c,O I s]).toArray) (hy:=by exact fun w' hSw=>q9 32 (.tmp 65) rfl wr.heap.size 0 rfl ([O I c,O I s]) _ ((HPa.o w' hSw).1) underlying32 rfl F5);refine tk 3 67 hHeld ?_ (v:=T ([O I A.1.1,O I A.1.2,O I A.2.1,O I A.2.2]).toArray) (hy:=by exact fun w' hSw=>q9 34 (.tmp 4) rfl w.heap.size 0 rfl ([O I A.1.1,O I A.1.2,O I A.2.1,O I A.2.2]) _ (j5 (HPa.o w' hSw).2.2.1) underlying34 rfl D7);refine tk 4 68 hHeld ?_ (v:=T ([O I ak.1.1,O I ak.1.2,O I ak.2.1,O I ak.2.2]).toArray) (hy:=by exact fun w' hSw=>q9 34 (.tmp 9) rfl TB 0 rfl ([O I ak.1.1,O I ak.1.2,O I ak.2.1,O I ak.2.2]) _ (j5 (HPa.o w' hSw).2.2.2) underlying34 rfl D7)
     refine tk 6 70 hHeld ?_;refine tk 7 71 hHeld ?_ (v:=T (a.cells sl).toArray) (hy:=by exact fun w' hSw=>q9 50 (.tmp 70) rfl wr.heap.size 2 rfl (a.cells sl) _ ((HPa.o w' hSw).2.1) underlying50 rfl D9);refine D6 (i:=5) (by kernel_rfl) rfl rfl (fun KK hKK=>?_);go_simp;refine(HMd.o _).mono ?_;rintro e w5 ⟨rfl,hk5⟩;have K45:=h_ (((Kp.refl w4 Nul).drew).trans hk5);refine hKK.o _ _ K45.o.of_nul (fun hHeld=>?_);clear hKK KK hk5
     (try simp only[Act.put,Sz0,Sz1,Sz2])
     refine D6 (i:=8) (by kernel_rfl) rfl rfl (fun KK hKK=>?_);go_simp;refine(HPutM.o _ (K4.o.trans K45.o)).mono ?_;rintro e w6 ⟨rfl,hd6,hk6⟩;have HD5:=h_ hd6;have K46:=h_ (K45.o.of_nul.trans hk6);have KX6:=h_ (K4.o.of_nul.trans K46.o);refine hKK.o _ _ K46.o (fun hHeld=>?_);clear hKK KK hd6 hk6
     (try simp only[Act.put,Sz0,Sz1,Sz2])
     refine wpAnyH_done (by kernel_rfl) ?_ _;refine NoPanic.normal ?_;clear hHeld HPa HPutM;go_wp2_with fail;go_roundw
     case rel=>exact⟨k+1,_,by omega,by go_num,HD5.o,(by rw[<- HA'.o];exact Y7 (y:=((M1,N1),alC (mvF A ak) a)) HKk.o (by show (Option.map _ _)=_;rw[HB.o];rfl) (j04 (j1P HMv.o) HAl.o.st HKv.o HKk.o HB.o) HMem.o),j00 HLen.o,(HK4.o.trans KX.o).trans' KX6.o (fun i hi e=>by have e':i=W4.heap.size:=e;omega)⟩
     case measure=>simp only[RowKit.intOf];omega
    | false=>
     have e0:=(HTh.o w4 (HK4.o.trans KX4.o)).c_ 0 rfl;have e1:=(HTh.o w4 (HK4.o.trans KX4.o)).c_ 1 rfl;have e2:=(HTh.o w4 (HK4.o.trans KX4.o)).c_ 2 rfl;have e3:=(HTh.o w4 (HK4.o.trans KX4.o)).c_ 3 rfl;have p0:=(HPX.o w4 K4.o).c_ 0 rfl;have p1:=(HPX.o w4 K4.o).c_ 1 rfl;go_wp2_with fail;refine(HH2.o _).mono ?_;rintro e w5 ⟨rfl,hk5⟩;have K5:=h_ (K4.o.trans hk5);have KX5:=h_ (KX.o.trans K5.o);clear hk5 e0 e1 e2 e3 p0 p1;cases V2 with
     | true=>
      have HB:Hid (mvF A ak ((c,s),(c,s))=G):=(by show _=_;rw[HFa.o];simp);go_wp2_with fail;go_roundw
      case rel=>exact⟨k+1,M,by omega,by go_num,HDM.o.kp KX5.o,j1F HKk.o (by show (Option.map _ _)=_;rw[HB.o];rfl) HMem.o,Nat.le_succ_of_le HLen.o,HK4.o.trans KX5.o⟩
      case measure=>simp only[RowKit.intOf];omega
     | false=>
      have HB:Hid (mvF A ak ((c,s),(c,s))=H ((c,s),(c,s))):=(by show _=_;rw[HFa.o];simp);have HPutC:=h_ (HPut.o c s HvC.o);have p0:=(HPX.o w5 K5.o).c_ 0 rfl;have p1:=(HPX.o w5 K5.o).c_ 1 rfl;have HRc:Hid (w5.rangeAt wr.heap.size 2 (a.cells sl)):=by
       have h2:=(I9 (j5 (HPX.o w5 K5.o))).2;rw[Nat.zero_add] at h2;exact h2
      go_wp2_with (first
       | (refine wpList_load_mid rfl 50 (.tmp 81) rfl wr.heap.size 2 rfl (a.cells sl) _ HRc.o underlying50 rfl D9 ?_)
       | fail)
      refine(HPutC.o _ K5.o).mono ?_;rintro e w6 ⟨rfl,hd6,hk6⟩;have HD5:=h_ hd6;have KX6:=h_ (K5.o.of_nul.trans hk6);clear hd6 hk6 p0 p1;go_wp2_with fail;go_roundw
      case rel=>exact⟨k+1,_,by omega,by go_num,HD5.o,(by rw[<- HA'.o];exact Y7 (y:=((c,s),alC (mvF A ak) a)) HKk.o (by show (Option.map _ _)=_;rw[HB.o];rfl) (j04 (j1P HMv.o) HAl.o.st HKv.o HKk.o HB.o) HMem.o),j00 HLen.o,(HK4.o.trans KX.o).trans' KX6.o (fun i hi e=>by have e':i=W4.heap.size:=e;omega)⟩
      case measure=>simp only[RowKit.intOf];omega
  ·have hke:k=n:=(by omega);subst hke;have hkn:¬((k:Int)<(k:Int)):=(by omega);have HEnd:Hid (∀X,Kp wr X Nul->RmP A ak L w X (au #[an (H ⟨W4.heap.size,0,G⟩),O I 0])):=fun X kX=>by
    refine .mk _ M (Nat.le_of_lt HTB.o.2.2) (HDM.o.kp kX) (fun y=>?_) (HKw.o.trans kX);rw[HMem.o y];have e:=List.take_of_length_le (by rw[HN.o.2.1];exact Nat.le_refl _);rw[e];show y∈brL (mvF A ak) K↔_;rw[T8,T8];exact⟨fun ⟨x,h1,h2⟩=>⟨x,(HAl.o.mem x).1 h1,h2⟩,fun ⟨x,h1,h2⟩=>⟨x,(HAl.o.mem x).2 h1,h2⟩⟩
   go_wp2_with fail
   go_ret2
   exact⟨_,rfl,HEnd.o _ (Kp.refl _ _)⟩
end
end Go.Proofs.YtecjfnkakodebaaGreatDoor
