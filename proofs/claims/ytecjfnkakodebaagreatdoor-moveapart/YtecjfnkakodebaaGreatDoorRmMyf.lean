/-Move: asGreat, Move. -/
import Derived.Test.YtecjfnkakodebaaGreatDoorRmMzk
open Go.Proofs.Tryz
open Go.Value renaming int->O,bool->E,agg->T,pointer->an,float->ap,string->aq,tuple->au
open Go.IntKind renaming i64->I
open Bool renaming false->R,true->J
open Option renaming some->H,none->G
open Go.Ending renaming returned->Q
open Go.FloatKind renaming f64->ao
set_option maxRecDepth 40000
set_option maxHeartbeats 16000000
namespace Go.Proofs.YtecjfnkakodebaaGreatDoor
section
open Go.RowKit Go.Maps
theorem j8u (g:Nat)(A1 A2 A3 A4 t1 t2 d1 d2 c1 c2 c3 c4 ae:Int)(p:Bool)(w:World)
 (hng:∀(b:Nat) (wq:World),(binOp .eql 24 (an (H ⟨b,0,G⟩)) (an G)).run prog wq=.ok (E R) wq)
 (HV:Hid (∀w,Calls prog 58 #[T #[O I A1,O I A2,O I A3,O I A4]] w fun e w'=>e=Q (E p)/\Kp w w' Nul))
 (HM:Hid (∀w,Calls prog 56 #[T #[O I A3,O I A4],T #[O I A1,O I A2],T #[O I t1,O I t2]] w fun e w'=>e=Q (T #[O I d1,O I d2])/\Kp w w' Nul))
 (HA:Hid (∀w,Calls prog 96 #[T #[O I t1,O I t2],T #[O I d1,O I d2]] w fun e w'=>e=Q (au #[T #[O I c1,O I c2,O I c3,O I c4],O I ae])/\Kp w w' Nul)) :
 Calls prog 52 #[an (H ⟨g,0,G⟩),T #[O I A1,O I A2,O I A3,O I A4],T #[O I t1,O I t2]] w fun e w'=>e=Q (if p then au #[T #[O I c1,O I c2,O I c3,O I c4],O I ae] else au #[T #[O I 0,O I 0,O I 0,O I 0],O I 1])/\Kp w w' Nul:=by
 obtain⟨W,hW⟩:=e_ (((w.alloc (.cells #[O I A1,O I A2,O I A3,O I A4] 34)).alloc (.cells #[O I t1,O I t2] 32)).alloc (.cells #[O I 0,O I 0,O I 0,O I 0] 34));have HW:=h_ hW;have kW:Hid (Kp w W Nul):=by show Kp _ _ _;rw[<- hW];exact(((Kp.refl w Nul).alloc _).alloc _).alloc _
 have HB0:Hid (Blk W w.heap.size [O I A1,O I A2,O I A3,O I A4] 34):=by show Blk _ _ _ _;rw[<- hW];exact((Blk.new w _ _).alloc _).alloc _
 have HB1:Hid (Blk W (w.heap.size+1) [O I t1,O I t2] 32):=by show Blk _ _ _ _;rw[<- hW];exact(blk2 (cs:=[O I t1,O I t2])).alloc _
 have HB2:Hid (Blk W (w.heap.size+1+1) [O I 0,O I 0,O I 0,O I 0] 34):=by show Blk _ _ _ _;rw[<- hW];exact blk3
 clear hW;go_enter func52,ntmps52;go_wp2_with fail;rw[HW.o];clear HW;refine(HV.o W).mono ?_;rintro e w1 ⟨rfl,hk1⟩;have K1:=h_ hk1;clear hk1;cases p
 ·have HB2':=h_ (HB2.o.kp K1.o (fun x=>x));go_wp2_with (first|(refine D5 rfl _ _ _ rfl _ _ _ _ HB2'.o rfl rfl rfl D7 (O8 _ _ _ _) ?_;intro Y hbY hkY)|fail);refine bodyPost_ret (R9 rfl _ _ (w.heap.size+1+1) 34 _ (0,0) _ rfl hbY underlying34 rfl D7) rfl ?_;exact⟨rfl,(kW.o.trans K1.o).trans' hkY (fun i hi e=>by have e':i=w.heap.size+1+1:=e;omega)⟩
 ·go_wp2_with fail;have HS0:=h_ fun wq (k:Kp W wq (fun i=>i=(w.heap.size+1+1)))=>HB0.o.kp k (fun e=>by have e':w.heap.size=w.heap.size+1+1:=e;omega)
  have HS1:=h_ fun wq (k:Kp W wq (fun i=>i=(w.heap.size+1+1)))=>HB1.o.kp k (fun e=>by have e':w.heap.size+1=w.heap.size+1+1:=e;omega)
  clear HV;refine I0 (fun w':World=>Kp W w' (fun i=>i=(w.heap.size+1+1))) (by kernel_rfl) (K1.o.of_nul.drew) (fun hHeld=>?_);refine tk 0 16 hHeld ?_ (v:=T #[O I t1,O I t2]) (hy:=by exact fun w' hSw=>q9 _ _ rfl _ _ rfl _ _ (j3h (HS1.o w' hSw)) underlying32 rfl F5);refine tk 1 17 hHeld ?_ (v:=an (H ⟨w.heap.size,2,G⟩));refine tk 2 18 hHeld ?_ (v:=T #[O I A3,O I A4]) (hy:=by exact fun w' hSw=>q9 _ _ rfl _ _ rfl _ _ (j6l (HS0.o w' hSw)) underlying32 rfl F5);refine tk 3 19 hHeld ?_ (v:=an (H ⟨w.heap.size,0,G⟩));refine tk 4 20 hHeld ?_ (v:=T #[O I A1,O I A2]) (hy:=by exact fun w' hSw=>q9 _ _ rfl _ _ rfl _ _ (j0v (HS0.o w' hSw)) underlying32 rfl F5);refine tk 5 21 hHeld ?_ (v:=T #[O I t1,O I t2]) (hy:=by exact fun w' hSw=>q9 _ _ rfl _ _ rfl _ _ (j3h (HS1.o w' hSw)) underlying32 rfl F5)
  refine ts 6 fun K hK=>?_
  go_simp;refine(HM.o _).mono ?_;rintro e v1 ⟨rfl,hk2⟩;have L1:=h_ (K1.o.drew.trans hk2);refine hK.o _ _ L1.o.of_nul (fun hHeld=>?_);clear hK K hk2
  (try simp only[Act.put,Sz0,Sz1,Sz2])
  refine ts 7 fun K hK=>?_
  go_simp;refine(HA.o _).mono ?_;rintro e v2 ⟨rfl,hk2⟩;have L2:=h_ (L1.o.trans hk2);refine hK.o _ _ L2.o.of_nul (fun hHeld=>?_);clear hK K hk2
  (try simp only[Act.put,Sz0,Sz1,Sz2])
  refine tk 8 24 hHeld ?_ (v:=T #[O I c1,O I c2,O I c3,O I c4]);refine tk 9 25 hHeld ?_ (v:=O I ae);have HB2':=h_ (HB2.o.kp L2.o (fun x=>x));refine ts 10 fun K hK=>?_
  refine J2 34 (.tmp 6) (.tmp 24) rfl (w.heap.size+1+1) _ [O I c1,O I c2,O I c3,O I c4] _ HB2'.o rfl rfl rfl D7 (O8 _ _ _ _) ?_;intro Y hbY hkY;have LY:=h_ (L2.o.of_nul.trans hkY);refine hK.o _ _ LY.o (fun hHeld=>?_);clear hK K
  (try simp only[Act.put])
  refine ts 11 fun K hK=>?_
  go_simp;refine hK.o _ _ LY.o (fun hHeld=>?_);clear hK K
  (try simp only[Act.put,Sz0,Sz1,Sz2])
  refine wpAnyH_done (by kernel_rfl) ?_ _;go_wp2_with fail;refine bodyPost_ret (R9 rfl _ _ (w.heap.size+1+1) 34 _ (0,0) _ rfl hbY underlying34 rfl D7) rfl ?_;exact⟨rfl,kW.o.trans' LY.o (fun i hi e=>by have e':i=w.heap.size+1+1:=e;omega)⟩
def mvTo (A:Ar4) (t:Int×Int):Ar4:=(t,(A.2.1+t.1-A.1.1,A.2.2+t.2-A.1.2))
def fits (A:Ar4) (t:Int×Int):Bool:=Ar4.ok (mvTo A t)
theorem j5F {A:Ar4}{t:Int×Int}(h:Ar4.ok A=J)(hf:fits A t=J):mvOk A (mvTo A t):=⟨h,hf,by unfold mvTo;simp only;omega,by unfold mvTo;simp only;omega⟩
theorem j5E {A:Ar4}{t:Int×Int}(h:Ar4.ok A=J):(vC t.1 t.2&&vC (mvd A.2.1 t.1 A.1.1) (mvd A.2.2 t.2 A.1.2))=fits A t:=by
 have hA:=(I2 A).1 h;by_cases ht:vC t.1 t.2=J
 ·have ht':=ht;rw[G6] at ht';rw[X5 (by unfold I64;omega),X5 (by unfold I64;omega),Bool.eq_iff_iff];unfold fits;rw[I2,Bool.and_eq_true,G6,G6];unfold mvTo;simp only;omega
 ·have:vC t.1 t.2=R:=by simpa using ht
  rw[this,Bool.false_and]
  symm
  rw[Bool.eq_false_iff];intro hf;unfold fits at hf;rw[I2] at hf;rw[G6] at ht;unfold mvTo at hf;simp only at hf;omega
def agV (A:Ar4) (t:Int×Int):Value:=if Ar4.ok A=J then (if fits A t=J then au #[T #[O I (mvTo A t).1.1,O I (mvTo A t).1.2,O I (mvTo A t).2.1,O I (mvTo A t).2.2],O I 0] else au #[T #[O I 0,O I 0,O I 0,O I 0],O I 20]) else au #[T #[O I 0,O I 0,O I 0,O I 0],O I 1]
theorem j27 (g:Nat)(w:World):(binOp .eql 24 (an (H ⟨g,0,G⟩)) (an G)).run prog w=.ok (E R) w:=by
 simp[go_sem]
theorem j1c (g:Nat)(A:Ar4)(t:Int×Int)(w:World):
 Calls prog 52 #[an (H ⟨g,0,G⟩),T #[O I A.1.1,O I A.1.2,O I A.2.1,O I A.2.2],T #[O I t.1,O I t.2]] w fun e w'=>e=Q (agV A t)/\Kp w w' Nul:=by
 have hV:∀w,Calls prog 58 #[T #[O I A.1.1,O I A.1.2,O I A.2.1,O I A.2.2]] w fun e w'=>e=Q (E (Ar4.ok A))/\Kp w w' Nul:=fun w=>(Y8 A.1.1 A.1.2 A.2.1 A.2.2 w).mono fun e w' h=>⟨h.1,Kp.of_gr h.2⟩
 have hM:=j23 A.2.1 A.2.2 A.1.1 A.1.2 t.1 t.2;have hA:∃c1 c2 c3 c4 ae:Int,(∀w,Calls prog 96 #[T #[O I t.1,O I t.2],T #[O I (mvd A.2.1 t.1 A.1.1),O I (mvd A.2.2 t.2 A.1.2)]] w fun e w'=>e=Q (au #[T #[O I c1,O I c2,O I c3,O I c4],O I ae])/\Kp w w' Nul)/\(Ar4.ok A=J -> au #[T #[O I c1,O I c2,O I c3,O I c4],O I ae]=agV A t):=by
  have h0:=fun w=>jCH t.1 t.2 (mvd A.2.1 t.1 A.1.1) (mvd A.2.2 t.2 A.1.2) w
  unfold arV arE j17 at h0;by_cases q:(vC t.1 t.2&&vC (mvd A.2.1 t.1 A.1.1) (mvd A.2.2 t.2 A.1.2))=J
  ·simp only[q,if_true] at h0;refine⟨_,_,_,_,_,fun w=>(h0 w).mono fun e w' h=>⟨h.1,Kp.of_gr h.2⟩,fun hok=>?_⟩;have hf:=q;rw[j5E hok] at hf;unfold agV;rw[if_pos hok,if_pos hf];have hA:=(I2 A).1 hok;have q':=q;rw[Bool.and_eq_true,G6,G6] at q';have e1:mvd A.2.1 t.1 A.1.1=A.2.1+t.1-A.1.1:=X5 (by unfold I64;omega);have e2:mvd A.2.2 t.2 A.1.2=A.2.2+t.2-A.1.2:=X5 (by unfold I64;omega);rw[e1,e2];unfold mvTo;simp only;rw[show min t.1 (A.2.1+t.1-A.1.1)=t.1 by omega,show min t.2 (A.2.2+t.2-A.1.2)=t.2 by omega,show max t.1 (A.2.1+t.1-A.1.1)=A.2.1+t.1-A.1.1 by omega,show max t.2 (A.2.2+t.2-A.1.2)=A.2.2+t.2-A.1.2 by omega]
  ·have q0:(vC t.1 t.2&&vC (mvd A.2.1 t.1 A.1.1) (mvd A.2.2 t.2 A.1.2))=R:=(by simpa using q);simp only[q0,Bool.false_eq_true,if_false] at h0;refine⟨_,_,_,_,_,fun w=>(h0 w).mono fun e w' h=>⟨h.1,Kp.of_gr h.2⟩,fun hok=>?_⟩;rw[j5E hok] at q0;unfold agV;rw[if_pos hok,if_neg (by rw[q0];decide)]
 obtain⟨c1,c2,c3,c4,ae,hA1,hA2⟩:=hA;refine(j8u g _ _ _ _ _ _ _ _ c1 c2 c3 c4 ae (Ar4.ok A) w j27 hV hM hA1).mono fun e w' h=>⟨h.1.trans ?_,h.2⟩
 cases hok:Ar4.ok A with
 | true=>rw[<- hA2 hok];rfl
 | false=>unfold agV;rw[hok];rfl
inductive MvR (A:Ar4) (t:Int×Int) (L:List Cc) (w w':World):Value->Prop
 | bad (h:¬Ar4.ok A=J) (k:Kp w w' Nul):MvR A t L w w' (au #[an G,O I 1])
 | off (h:Ar4.ok A=J) (hf:¬fits A t=J) (k:Kp w w' Nul):MvR A t L w w' (au #[an G,O I 20])
 | ok (h:Ar4.ok A=J) (hf:fits A t=J) (g2:Nat) (M:List Cc) (hb:BrR (mvF A (mvTo A t)) L w w' g2 M):MvR A t L w w' (au #[an (H ⟨g2,0,G⟩),O I 0])
theorem j5v (g:Nat)(A1 A2 A3 A4 t1 t2 ae:Int)(w:World)(hE:¬ae=0)
 (HG:Hid (∀w,Calls prog 52 #[an (H ⟨g,0,G⟩),T #[O I A1,O I A2,O I A3,O I A4],T #[O I t1,O I t2]] w fun e w'=>e=Q (au #[T #[O I 0,O I 0,O I 0,O I 0],O I ae])/\Kp w w' Nul)) :
 Calls prog 29 #[an (H ⟨g,0,G⟩),T #[O I A1,O I A2,O I A3,O I A4],T #[O I t1,O I t2]] w fun e w'=>e=Q (au #[an G,O I ae])/\Kp w w' Nul:=by
 have kW:Hid (∀a b,Kp w ((w.alloc a).alloc b) Nul):=fun a b=>((Kp.refl w Nul).alloc _).alloc _
 go_enter func29,ntmps29;go_wp2_with fail;refine(HG.o _).mono ?_;rintro e w1 ⟨rfl,hk1⟩;have K1:Hid (Kp w w1 Nul):=(kW.o _ _).trans hk1;clear hk1;go_wp2_with fail
 go_ret2
 first
 | exact⟨rfl,K1.o.alloc _⟩
 | exact K1.o.alloc _
theorem jBN (g:Nat)(A1 A2 A3 A4 B1 B2 B3 B4 t1 t2:Int)(L:List Cc)(w:World)(lo:Bool)(f:Fate)
 (HG:Hid (∀w,Calls prog 52 #[an (H ⟨g,0,G⟩),T #[O I A1,O I A2,O I A3,O I A4],T #[O I t1,O I t2]] w fun e w'=>e=Q (au #[T #[O I B1,O I B2,O I B3,O I B4],O I 0])/\Kp w w' Nul))
 (HB:Hid (∀xf xt wq,Kp w wq Nul->MvIn wq xf xt ((A1,A2),(A3,A4)) ((B1,B2),(B3,B4))->Calls prog 64 #[T #[j1o xf xt],an (H ⟨g,0,G⟩)] wq fun e w'=>∃g2 M,e=Q (au #[an (H ⟨g2,0,G⟩),E lo])/\BrR f L wq w' g2 M)) :
 Calls prog 29 #[an (H ⟨g,0,G⟩),T #[O I A1,O I A2,O I A3,O I A4],T #[O I t1,O I t2]] w fun e w'=>∃g2 M,e=Q (au #[an (H ⟨g2,0,G⟩),O I 0])/\BrR f L w w' g2 M:=by
 have HO:=h_ fun w=>jBv A1 A2 A3 A4 B1 B2 B3 B4 w
 have HBR:Hid (∀wq w' g2 M,Kp w wq Nul->BrR f L wq w' g2 M->BrR f L w w' g2 M):=fun wq w' g2 M k h=>⟨h.gi.mono (fun i hi=>Nat.le_trans k.size hi),h.ok,h.mem,Nat.le_trans k.size h.lo,k.trans h.kp⟩
 obtain⟨W,hW⟩:=e_ ((w.alloc (.cells #[O I A1,O I A2,O I A3,O I A4] 34)).alloc (.cells #[O I t1,O I t2] 32));have HW:=h_ hW;have kW:Hid (Kp w W Nul):=by show Kp _ _ _;rw[<- hW];exact((Kp.refl w Nul).alloc _).alloc _
 have HB0:Hid (Blk W w.heap.size [O I A1,O I A2,O I A3,O I A4] 34):=by show Blk _ _ _ _;rw[<- hW];exact(Blk.new w _ _).alloc _
 clear hW;go_enter func29,ntmps29;go_wp2_with fail;rw[HW.o];clear HW;refine(HG.o _).mono ?_;rintro e w1 ⟨rfl,hk1⟩;have K1:=h_ hk1;obtain⟨W1,hW1⟩:=e_ (w1.alloc (.cells #[O I B1,O I B2,O I B3,O I B4] 34));have HW1:=h_ hW1;have KW1:Hid (Kp w W1 Nul):=by show Kp _ _ _;rw[<- hW1];exact(kW.o.trans hk1).alloc _
 have d0:(w1.alloc (.cells #[O I B1,O I B2,O I B3,O I B4] 34)).cell? ⟨w.heap.size,0,G⟩=H (O I A1):=(HB0.o.kp (hk1.alloc _) (fun x=>x)).cell rfl;have d1:(w1.alloc (.cells #[O I B1,O I B2,O I B3,O I B4] 34)).cell? ⟨w.heap.size,1,G⟩=H (O I A2):=(HB0.o.kp (hk1.alloc _) (fun x=>x)).cell rfl;have d2:(w1.alloc (.cells #[O I B1,O I B2,O I B3,O I B4] 34)).cell? ⟨w.heap.size,2,G⟩=H (O I A3):=(HB0.o.kp (hk1.alloc _) (fun x=>x)).cell rfl;have d3:(w1.alloc (.cells #[O I B1,O I B2,O I B3,O I B4] 34)).cell? ⟨w.heap.size,3,G⟩=H (O I A4):=(HB0.o.kp (hk1.alloc _) (fun x=>x)).cell rfl;clear hk1 hW1;go_wp2_with fail;rw[HW1.o] at d0 d1 d2 d3 ⊢;clear HW1 d0 d1 d2 d3;refine(HO.o _).mono ?_
 rintro e w2 ⟨xf,xt,rfl,hin,hk2⟩;have K2:=h_ (KW1.o.trans hk2);have HIn:=h_ hin;clear hk2 hin HO;go_wp2_with fail;refine(HB.o xf xt _ K2.o HIn.o).mono ?_;rintro e w3 ⟨g2,M,rfl,hbr⟩;have HBr:=h_ (HBR.o _ w3 g2 M K2.o hbr);clear hbr HB HBR;go_wp2_with fail
 go_ret2
 first
 | exact⟨g2,M,rfl,HBr.o⟩
 | exact⟨M,HBr.o⟩
theorem j5u (g:Nat)(L:List Cc)(A:Ar4)(t:Int×Int)(w:World)(hg:GI 0 w g L)(hL:Ok17 L)(hv:VS w):
 Calls prog 29 #[an (H ⟨g,0,G⟩),T #[O I A.1.1,O I A.1.2,O I A.2.1,O I A.2.2],T #[O I t.1,O I t.2]] w fun e w'=>∃v u,e=Q (au #[v,u])/\MvR A t L w w' (au #[v,u]):=by
 have hG:=fun w=>j1c g A t w
 unfold agV at hG;by_cases hA:Ar4.ok A=J
 ·simp only[if_pos hA] at hG;by_cases hf:fits A t=J
  ·simp only[if_pos hf] at hG;refine(jBN g _ _ _ _ _ _ _ _ _ _ L w (F8 (mvF A (mvTo A t)) L) (mvF A (mvTo A t)) hG (fun xf xt wq k hin=>OfM.brought_at xf xt A (mvTo A t) (j5F hA hf) g L wq (hg.kp k) hL hin (hv.kp k))).mono ?_;rintro e w' ⟨g2,M,rfl,hb⟩;exact⟨_,_,rfl,.ok hA hf g2 M hb⟩
  ·simp only[if_neg hf] at hG;refine(j5v g _ _ _ _ _ _ 20 w (by decide) hG).mono ?_;rintro e w' ⟨rfl,k⟩;exact⟨_,_,rfl,.off hA hf k⟩
 ·simp only[if_neg hA] at hG;refine(j5v g _ _ _ _ _ _ 1 w (by decide) hG).mono ?_;rintro e w' ⟨rfl,k⟩;exact⟨_,_,rfl,.bad hA k⟩
#print axioms j5u
theorem j9D (g:Nat)(A1 A2 A3 A4:Int)(w:World)
 (hng:∀(b:Nat) (wq:World),(binOp .eql 24 (an (H ⟨b,0,G⟩)) (an G)).run prog wq=.ok (E R) wq)
 (HV:Hid (∀w,Calls prog 58 #[T #[O I A1,O I A2,O I A3,O I A4]] w fun e w'=>e=Q (E R)/\Kp w w' Nul)) :
 Calls prog 23 #[an (H ⟨g,0,G⟩),T #[O I A1,O I A2,O I A3,O I A4]] w fun e w'=>e=Q (au #[an G,O I 1])/\Kp w w' Nul:=by
 have kW:Hid (∀a,Kp w (w.alloc a) Nul):=fun a=>(Kp.refl w Nul).alloc _
 go_enter func23,ntmps23;go_wp2_with fail;refine(HV.o _).mono ?_;rintro e w1 ⟨rfl,hk1⟩;have K1:=h_ ((kW.o _).trans hk1);clear hk1;go_wp2_with fail
 go_ret2
 first
 | exact⟨rfl,K1.o⟩
 | exact K1.o
theorem blkN {X:World}{n:Nat}(hn:X.heap.size=n)(cs:List Value)(t:TypeId):Blk (X.alloc (.cells cs.toArray t)) n cs t:=hn ▸ Blk.new X cs t
theorem X8 {P:Program}{fn:Func}{p q:Tmp}{ty tz:TypeId}(h:fn.results=#[.cell p ty,.cell q tz])(tmps:Array Value)(w:World)(a b:Nat)(v u:Value)
 (hp:tmps.getD p undef=an (H ⟨a,0,G⟩)) (hq:tmps.getD q undef=an (H ⟨b,0,G⟩)) (hv:(loadVar ty ⟨a,0,G⟩).run P w=.ok v w) (hu:(loadVar tz ⟨b,0,G⟩).run P w=.ok u w) :
 (results fn tmps).run P w=.ok (au #[v,u]) w:=by
 have hp':tmps[p]?.getD undef=an (H ⟨a,0,G⟩):=by simpa using hp
 have hq':tmps[q]?.getD undef=an (H ⟨b,0,G⟩):=by simpa using hq
 simp[results,h,hp',hq',asAddr,hv,hu]
theorem j4g (g:Nat)(A1 A2 A3 A4 t1 t2 ae:Int)(w:World)(hE:¬ae=0)
 (HG:Hid (∀w,Calls prog 52 #[an (H ⟨g,0,G⟩),T #[O I A1,O I A2,O I A3,O I A4],T #[O I t1,O I t2]] w fun e w'=>e=Q (au #[T #[O I 0,O I 0,O I 0,O I 0],O I ae])/\Kp w w' Nul)) :
 Calls prog 16 #[an (H ⟨g,0,G⟩),T #[O I A1,O I A2,O I A3,O I A4],T #[O I t1,O I t2]] w fun e w'=>e=Q (au #[an G,O I ae])/\Kp w w' Nul:=by
 obtain⟨W,hW⟩:=e_ ((((w.alloc (.cells #[O I A1,O I A2,O I A3,O I A4] 34)).alloc (.cells #[O I t1,O I t2] 32)).alloc (.cells #[an G] 24)).alloc (.cells #[O I 0] 39));have HW:=h_ hW;have kW:Hid (Kp w W Nul):=by show Kp _ _ _;rw[<- hW];exact((((Kp.refl w Nul).alloc _).alloc _).alloc _).alloc _
 have HB2:Hid (Blk W (w.heap.size+1+1) [an G] 24):=by show Blk _ _ _ _;rw[<- hW];exact(blkN (by simp) [an G] _).alloc _
 have HB3:Hid (Blk W (w.heap.size+1+1+1) [O I 0] 39):=by show Blk _ _ _ _;rw[<- hW];exact blkN (by simp) [O I 0] _
 clear hW;go_enter func16,ntmps16;go_wp2_with fail;rw[HW.o];clear HW;refine(HG.o _).mono ?_;rintro e w1 ⟨rfl,hk1⟩;have K1:Hid (Kp w (w1.alloc (.cells #[O I 0,O I 0,O I 0,O I 0] 34)) Nul):=kW.o.trans (hk1.alloc _);have HC2:Hid (Blk (w1.alloc (.cells #[O I 0,O I 0,O I 0,O I 0] 34)) (w.heap.size+1+1) [an G] 24):=HB2.o.kp (hk1.alloc _) (fun x=>x);have HC3:=h_ fun Y (k:Kp (w1.alloc (.cells #[O I 0,O I 0,O I 0,O I 0] 34)) Y (fun i=>i=w.heap.size+1+1))=>(HB3.o.kp (hk1.alloc _) (fun x=>x)).kp k (fun e=>by have e':w.heap.size+1+1+1=w.heap.size+1+1:=e;omega)
 clear hk1 HB2 HB3;go_wp2_with (first
  | (refine L9 rfl _ _ _ rfl _ rfl _ rfl rfl _ _ HC2.o (by kernel_rfl) ?_;intro Y hbY hkY;have HD2:=h_ hbY;have HD3:=HC3.o Y hkY;have KY:=h_ (K1.o.trans' hkY (fun i hi e=>by have e':i=w.heap.size+1+1:=e;omega));clear hbY hkY HC2)
  | (refine L9 rfl _ _ _ rfl _ rfl _ rfl rfl _ _ HD3 (by kernel_rfl) ?_;intro Y2 hb2 hk2)
  | fail)
 have c1:=(HD2.o.kp hk2 (fun e=>by have e':w.heap.size+1+1=w.heap.size+1+1+1:=e;omega)).c_ 0 rfl;have c2:=hb2.c_ 0 rfl;refine bodyPost_ret (X8 rfl _ _ (w.heap.size+1+1) (w.heap.size+1+1+1) (an G) (O I ae) rfl rfl ?_ ?_) rfl ?_
 ·clear c2 hb2 hk2;go_simp
 ·clear c1 hb2 hk2;go_simp
 ·exact⟨rfl,KY.o.trans' hk2 (fun i hi e=>by have e':i=w.heap.size+1+1+1:=e;omega)⟩
theorem j9s (g:Nat)(A1 A2 A3 A4 t1 t2:Int)(q:Bool)(w:World)
 (hng:∀(b:Nat) (wq:World),(binOp .eql 24 (an (H ⟨b,0,G⟩)) (an G)).run prog wq=.ok (E R) wq)
 (HV:Hid (∀w,Calls prog 58 #[T #[O I A1,O I A2,O I A3,O I A4]] w fun e w'=>e=Q (E q)/\Kp w w' Nul))
 (HU:Hid (q=J->∀w,Calls prog 44 #[T #[O I t1,O I t2]] w fun e w'=>e=Q (E R)/\Kp w w' Nul)) :
 Calls prog 22 #[an (H ⟨g,0,G⟩),T #[O I t1,O I t2],T #[O I A1,O I A2,O I A3,O I A4]] w fun e w'=>e=Q (au #[an G,O I (if q=J then 20 else 1)])/\Kp w w' Nul:=by
 obtain⟨W,hW⟩:=e_ ((((w.alloc (.cells #[O I t1,O I t2] 32)).alloc (.cells #[O I A1,O I A2,O I A3,O I A4] 34)).alloc (.cells #[an G] 24)).alloc (.cells #[O I 0] 39));have HW:=h_ hW;have kW:Hid (Kp w W Nul):=by show Kp _ _ _;rw[<- hW];exact((((Kp.refl w Nul).alloc _).alloc _).alloc _).alloc _
 have HB0:Hid (Blk W w.heap.size [O I t1,O I t2] 32):=by show Blk _ _ _ _;rw[<- hW];exact(((Blk.new w _ _).alloc _).alloc _).alloc _
 have HB2:Hid (Blk W (w.heap.size+1+1) [an G] 24):=by show Blk _ _ _ _;rw[<- hW];exact(blkN (by simp) [an G] _).alloc _
 have HB3:Hid (Blk W (w.heap.size+1+1+1) [O I 0] 39):=by show Blk _ _ _ _;rw[<- hW];exact blkN (by simp) [O I 0] _
 clear hW;go_enter func22,ntmps22;go_wp2_with fail;rw[HW.o];clear HW;refine(HV.o _).mono ?_;rintro e w1 ⟨rfl,hk1⟩;cases q with
 | false=>
  have K1:=h_ (kW.o.trans hk1);have HC2:=h_ (HB2.o.kp hk1 (fun x=>x));have HC3:=h_ fun Y (k:Kp w1 Y (fun i=>i=w.heap.size+1+1))=>(HB3.o.kp hk1 (fun x=>x)).kp k (fun e=>by have e':w.heap.size+1+1+1=w.heap.size+1+1:=e;omega)
  clear hk1 HB2 HB3;go_wp2_with (first
   | (refine L9 rfl _ _ _ rfl _ rfl _ rfl rfl _ _ HC2.o (by kernel_rfl) ?_;intro Y hbY hkY;have HD2:=h_ hbY;have HD3:=HC3.o Y hkY;have KY:=h_ (K1.o.trans' hkY (fun i hi e=>by have e':i=w.heap.size+1+1:=e;omega));clear hbY hkY HC2)
   | (refine L9 rfl _ _ _ rfl _ rfl _ rfl rfl _ _ HD3 (by kernel_rfl) ?_;intro Y2 hb2 hk2)
   | fail)
  have c1:=(HD2.o.kp hk2 (fun e=>by have e':w.heap.size+1+1=w.heap.size+1+1+1:=e;omega)).c_ 0 rfl;have c2:=hb2.c_ 0 rfl;refine bodyPost_ret (X8 rfl _ _ (w.heap.size+1+1) (w.heap.size+1+1+1) (an G) (O I 1) rfl rfl ?_ ?_) rfl ?_
  ·clear c2 hb2 hk2;go_simp
  ·clear c1 hb2 hk2;go_simp
  ·exact⟨rfl,KY.o.trans' hk2 (fun i hi e=>by have e':i=w.heap.size+1+1+1:=e;omega)⟩
 | true=>
  have c0:=(HB0.o.kp hk1 (fun x=>x)).c_ 0 rfl;have c1:=(HB0.o.kp hk1 (fun x=>x)).c_ 1 rfl;have K0:=h_ hk1;have HU':=h_ (HU.o rfl);clear HU;clear hk1;go_wp2_with fail;clear c0 c1;refine(HU'.o _).mono ?_;rintro e w2 ⟨rfl,hk2⟩;have hk1:=K0.o.trans hk2;clear hk2;have K1:=h_ (kW.o.trans hk1);have HC2:=h_ (HB2.o.kp hk1 (fun x=>x));have HC3:=h_ fun Y (k:Kp w2 Y (fun i=>i=w.heap.size+1+1))=>(HB3.o.kp hk1 (fun x=>x)).kp k (fun e=>by have e':w.heap.size+1+1+1=w.heap.size+1+1:=e;omega)
  clear hk1 HB2 HB3;go_wp2_with (first
   | (refine L9 rfl _ _ _ rfl _ rfl _ rfl rfl _ _ HC2.o (by kernel_rfl) ?_;intro Y hbY hkY;have HD2:=h_ hbY;have HD3:=HC3.o Y hkY;have KY:=h_ (K1.o.trans' hkY (fun i hi e=>by have e':i=w.heap.size+1+1:=e;omega));clear hbY hkY HC2)
   | (refine L9 rfl _ _ _ rfl _ rfl _ rfl rfl _ _ HD3 (by kernel_rfl) ?_;intro Y2 hb2 hk2)
   | fail)
  have c1:=(HD2.o.kp hk2 (fun e=>by have e':w.heap.size+1+1=w.heap.size+1+1+1:=e;omega)).c_ 0 rfl;have c2:=hb2.c_ 0 rfl;refine bodyPost_ret (X8 rfl _ _ (w.heap.size+1+1) (w.heap.size+1+1+1) (an G) (O I 20) rfl rfl ?_ ?_) rfl ?_
  ·clear c2 hb2 hk2;go_simp
  ·clear c1 hb2 hk2;go_simp
  ·exact⟨rfl,KY.o.trans' hk2 (fun i hi e=>by have e':i=w.heap.size+1+1+1:=e;omega)⟩
theorem j9B (g:Nat)(A:Ar4)(w:World)(h:¬Ar4.ok A=J):
 Calls prog 23 #[an (H ⟨g,0,G⟩),T #[O I A.1.1,O I A.1.2,O I A.2.1,O I A.2.2]] w fun e w'=>e=Q (au #[an G,O I 1])/\Kp w w' Nul:=
 j9D g _ _ _ _ w j27 (fun w=>(Y8 A.1.1 A.1.2 A.2.1 A.2.2 w).mono fun e w' q=>⟨by rw[q.1];exact congrArg (fun b=>Q (E b)) (show Ar4.ok A=R from Bool.eq_false_iff.2 h),Kp.of_gr q.2⟩)
theorem j9P (g:Nat)(A:Ar4)(t:Int×Int)(w:World)(h:¬Ar4.ok A=J):
 Calls prog 16 #[an (H ⟨g,0,G⟩),T #[O I A.1.1,O I A.1.2,O I A.2.1,O I A.2.2],T #[O I t.1,O I t.2]] w fun e w'=>e=Q (au #[an G,O I 1])/\Kp w w' Nul:=by
 have hG:=fun w=>j1c g A t w
 unfold agV at hG;simp only[if_neg h] at hG;exact j4g g _ _ _ _ _ _ 1 w (by decide) hG
theorem j9U (g:Nat)(A:Ar4)(t:Int×Int)(w:World)(h:Ar4.ok A=J)(hf:¬fits A t=J):
 Calls prog 16 #[an (H ⟨g,0,G⟩),T #[O I A.1.1,O I A.1.2,O I A.2.1,O I A.2.2],T #[O I t.1,O I t.2]] w fun e w'=>e=Q (au #[an G,O I 20])/\Kp w w' Nul:=by
 have hG:=fun w=>j1c g A t w
 unfold agV at hG;simp only[if_pos h,if_neg hf] at hG;exact j4g g _ _ _ _ _ _ 20 w (by decide) hG
theorem j5C (g:Nat)(A:Ar4)(t:Int×Int)(w:World)(h:Ar4.ok A=J->¬vC t.1 t.2=J):
 Calls prog 22 #[an (H ⟨g,0,G⟩),T #[O I t.1,O I t.2],T #[O I A.1.1,O I A.1.2,O I A.2.1,O I A.2.2]] w fun e w'=>e=Q (au #[an G,O I (if Ar4.ok A=J then 20 else 1)])/\Kp w w' Nul:=
 j9s g _ _ _ _ _ _ (Ar4.ok A) w j27 (fun w=>(Y8 A.1.1 A.1.2 A.2.1 A.2.2 w).mono fun e w' q=>⟨q.1,Kp.of_gr q.2⟩)
  (fun hq w=>(U5 t.1 t.2 w).mono fun e w' q=>⟨by rw[q.1];exact congrArg (fun b=>Q (E b)) (by simpa using h hq),by rw[q.2];exact(Kp.refl w Nul).alloc _⟩)
structure PcR (M:List Cc) (p:Int×Int) (a:Ct) (er:Int) (M':List Cc):Prop where
 yes:G9 M p=J->er=0/\M'=putL M p a
 no:¬G9 M p=J->er=41/\M'=M
theorem j6P (ah:Nat->Prop)(g:Nat)(c s:Int)(a:Ct)(sl:Value)(F:Nat->Prop)(M:List Cc)(w:World)(hG:j6 w ah g M)(hnew:∀i,w.heap.size<=i->ah i)(hM:Ok17 M)(ha:Gd a)(hv:vC c s=J)(hin:NdIn w F sl a.t)(aj:VS w):
 Calls prog 11 #[an (H ⟨g,0,G⟩),T #[O I c,O I s],a.val sl] w fun e w'=>∃er,e=Q (O I er)/\∃M',j6 w' ah g M'/\PcR M (c,s) a er M'/\Km g w w':=by
 have h:GI 0 w g M:=j6.mono hG (fun _ _=>Nat.zero_le _);obtain⟨mv,bg⟩:=h.blk;have hval:∀wq,Kp w wq Nul->Calls prog 43 #[a.val sl] wq fun e w'=>e=Q (E J)/\Kp wq w' Nul:=fun wq k=>by
  have:=j1t a sl F wq ha.ok (hin.kp k (fun _ _ x=>x)) (aj.kp k);rw[ha.val] at this;exact this
 have hcp:∀wq,Kp w wq Nul->Calls prog 47 #[a.val sl] wq fun e w'=>∃sl' fp,e=Q ((cpC a).val sl')/\Own w' wq.heap.size sl' (cpC a).t fp/\Kp wq w' Nul:=fun wq k=>(j0S a sl F wq ha.x ha.size ha.ok (hin.kp k (fun _ _ x=>x))).mono (by
  rintro e w' ⟨sl',fp,h1,h2,h3⟩;exact⟨sl',fp,h1,h2,Kp.of_below h3⟩)
 by_cases hr:G9 M (c,s)=J
 ·refine(j3g ah g c s hv a ha.k sl M w h hG hnew hM.len (O4.1 hr) hval hcp).mono ?_;rintro e w' ⟨rfl,h1,h2⟩;rw[ha.cp] at h1;exact⟨_,rfl,_,h1,⟨fun _=>⟨rfl,rfl⟩,fun e=>absurd hr e⟩,h2⟩
 ·have hn:=fun q=>hr (O4.2 q)
  refine(j3f 0 g c s hv a ha.k sl M w h (by
   have:¬M.length<4096:=(fun q=>hn (.inl q));omega) (fun c' hc=>hn (.inr ⟨c',hc⟩)) hval).mono ?_
  rintro e w' ⟨rfl,k⟩;exact⟨_,rfl,_,hG.kp k,⟨fun e=>absurd e hr,fun _=>⟨rfl,rfl⟩⟩,Km.of_nul k bg.lt⟩
theorem jCg (g:Nat)(c s t1 t2 d1 d2:Int)(p1 p2 p3 p4 p5:Value)(cs:List Value)(cs':Value->List Value)(h15:cs.length=15)(h15':∀v,(cs' v).length=15)(am:Value->World->Prop)(af:Int->World->Prop)(w:World)
 (hd1:wrap64 (c-t1)=d1) (hd2:wrap64 (s-t2)=d2) (hone:∀v w',am v w'->(cs' v).toArray.all (·.oneCell')=J)
 (HS:Hid (∀wq,Kp w wq Nul->w.heap.size+1<wq.heap.size->Calls prog 99 #[T cs.toArray,O I d1,O I d2] wq fun e w'=>∃v,e=Q (au #[T (cs' v).toArray,O I 0])/\am v w'/\Kp wq w' Nul))
 (HP:Hid (∀v wq wr,am v wq->Kp w wq Nul->Kp wq wr (fun i=>i=w.heap.size+1)->Calls prog 11 #[an (H ⟨g,0,G⟩),T #[O I c,O I s],T (O I 2::p1::p2::p3::p4::p5::cs' v).toArray] wr fun e w'=>∃er,e=Q (O I er)/\af er w')) :
 Calls prog 55 #[an (H ⟨g,0,G⟩),T #[O I c,O I s],T (O I 2::p1::p2::p3::p4::p5::cs).toArray,T #[O I t1,O I t2]] w fun e w'=>∃er,e=Q (O I er)/\af er w':=by
 obtain⟨W,hW⟩:=e_ (((w.alloc (.cells #[O I c,O I s] 32)).alloc (.cells (O I 2::p1::p2::p3::p4::p5::cs).toArray 50)).alloc (.cells #[O I t1,O I t2] 32));have HW:=h_ hW;have kW:Hid (Kp w W Nul):=by show Kp _ _ _;rw[<- hW];exact(((Kp.refl w Nul).alloc _).alloc _).alloc _
 have b0:Hid (Blk W w.heap.size [O I c,O I s] 32):=by show Blk _ _ _ _;rw[<- hW];exact((Blk.new w [O I c,O I s] _).alloc _).alloc _
 have b1:Hid (Blk W (w.heap.size+1) (O I 2::p1::p2::p3::p4::p5::cs) 50):=by show Blk _ _ _ _;rw[<- hW];exact(blkS (by simp) (O I 2::p1::p2::p3::p4::p5::cs) _).alloc _
 have b2:Hid (Blk W (w.heap.size+1+1) [O I t1,O I t2] 32):=by show Blk _ _ _ _;rw[<- hW];exact blkS (by simp) [O I t1,O I t2] _
 have HR:=h_ (J4 (pre:=[O I 2,p1,p2,p3,p4,p5]) (l:=cs) (post:=[]) (t:=50) (fr:=(0,0)) (by rw[List.append_nil];exact b1.o));have HI:Hid ((prog.info? 48).map (·.size)=H cs.length):=by show _=_;rw[j3,h15]
 have HIv:Hid (∀v,(prog.info? 48).map (·.size)=H (cs' v).length):=fun v=>by rw[j3,h15']
 have HIc:Hid (∀v,(prog.info? 50).map (·.size)=H (O I 2::p1::p2::p3::p4::p5::cs' v).length):=fun v=>by rw[D9];simp[h15' v]
 have HL:Hid (∀v,cs.length=(cs' v).length):=fun v=>by rw[h15,h15']
 have HOne:=h_ hone;have c0:=b1.o.c_ 0 rfl;have a0:=b0.o.c_ 0 rfl;have a1:=b0.o.c_ 1 rfl;have e0:=b2.o.c_ 0 rfl;have e1:=b2.o.c_ 1 rfl;clear hW h15 h15' hone;go_enter func55,ntmps55;go_wp2_with (first
  | (rw[HW.o])
  | (refine wpList_load_mid rfl _ _ rfl _ _ rfl _ _ HR.o underlying48 rfl HI.o ?_)
  | fail)
 refine(HS.o W kW.o (Nat.lt_trans (Nat.lt_succ_self _) b2.o.lt)).mono ?_;rintro e w1 ⟨v,rfl,hq,hk⟩;have K1:=h_ hk;have HQ:=h_ hq;have B1:Hid (Blk w1 (w.heap.size+1) ([O I 2,p1,p2,p3,p4,p5]++cs++[]) 50):=by show Blk _ _ _ _;rw[List.append_nil];exact b1.o.kp hk (fun x=>x)
 have B0:=h_ (b0.o.kp hk (fun x=>x));have O1:=h_ (HOne.o v w1 hq);have HIv':=HIv.o v;have HIv2:=h_ HIv';have HIc2:=h_ (HIc.o v);have HL2:=h_ (HL.o v);clear hq hk c0 a0 a1 e0 e1 HIv' HIv HIc HL HR HI HW b0 b1 b2 HOne HS;obtain⟨cv,hcv⟩:=e_ (cs' v);have HPv:Hid (∀wr,Kp w1 wr (fun i=>i=w.heap.size+1)->Calls prog 11 #[an (H ⟨g,0,G⟩),T #[O I c,O I s],T (O I 2::p1::p2::p3::p4::p5::cv).toArray] wr fun e w'=>∃er,e=Q (O I er)/\af er w'):=fun wr k=>by
  rw[<- hcv];exact HP.o v w1 wr HQ.o (kW.o.trans K1.o) k
 rw[hcv] at O1 HIv2 HIc2 HL2;rw[hcv];clear hcv HP HQ;go_wp2_with (first
  | (refine L8 rfl _ _ _ rfl _ 6 [O I 2,p1,p2,p3,p4,p5] cs [] _ _ B1.o rfl HL2.o rfl rfl HIv2.o O1.o ?_;intro X hX kX;rw[List.append_nil] at hX;have HX:=h_ (j5 hX);have KX:=h_ kX;have l0:=(B0.o.kp kX (by show ¬_=_;omega)).c_ 0 rfl;have l1:=(B0.o.kp kX (by show ¬_=_;omega)).c_ 1 rfl;clear hX kX)
  | (refine wpList_load_mid rfl _ _ rfl _ _ rfl _ _ HX.o underlying50 rfl HIc2.o ?_)
  | fail)
 refine(HPv.o X KX.o).mono ?_;rintro e w2 ⟨er,rfl,hr⟩;have HRr:=h_ hr;clear hr l0 l1;go_wp2_with fail;go_ret;first
 | exact⟨er,rfl,HRr.o⟩
 | exact HRr.o
theorem jF3 {c s t1 t2:Int}(h:vC c s=J)(h':vC t1 t2=J):wrap64 (c-t1)=c-t1/\wrap64 (s-t2)=s-t2/\I64 (c-t1)/\I64 (s-t2):=by
 rw[G6] at h h';unfold wrap64 I64;omega
theorem j9Y {a:Ct}(h:cpC a=a):cpy a.t=a.t:=congrArg Ct.t h
theorem j6L (ah:Nat->Prop)(g:Nat)(c s t1 t2:Int)(a:Ct)(sl:Value)(F:Nat->Prop)(M:List Cc)(w:World)(hG:j6 w ah g M)(hnew:∀i,w.heap.size<=i->ah i)(hM:Ok17 M)(ha:Gd a)(hv:vC c s=J)(ht:vC t1 t2=J)(hin:NdIn w F sl a.t)(aj:VS w):
 Calls prog 55 #[an (H ⟨g,0,G⟩),T #[O I c,O I s],a.val sl,T #[O I t1,O I t2]] w fun e w'=>∃er,e=Q (O I er)/\∃M',j6 w' ah g M'/\PcR M (c,s) (hmC (shH (c-t1) (s-t2)) a) er M'/\Km g w w':=by
 obtain⟨w1,w2,w3,w4⟩:=jF3 hv ht;have hgl:g<w.heap.size:=by
  obtain⟨mv,bg⟩:=(show GI 0 w g M from j6.mono hG (fun _ _=>Nat.zero_le _)).blk;exact bg.lt
 by_cases hk:a.k=2
 ·have hchk:chk a.t=0:=by
   have h:=ha.val;unfold gv Q1 at h;simp[hk] at h;exact h.2
  have hgd:Gd (hmC (shH (c-t1) (s-t2)) a):=j1u (j2V _ _) ha;have e2:=j9Y ha.cp;have hS:=fun wq (k:Kp w wq Nul)=>jDv (c-t1) (s-t2) w3 w4 a.t sl F wq ha.ok (hin.kp k (fun _ _ x=>x)) (aj.kp k) hchk
  rw[e2] at hS;have hval:a.val sl=T (O I 2 :: O I a.v.k :: ap ao a.v.x :: aq a.v.s :: E a.v.b :: O I a.v.f::a.t.hd.cells sl).toArray:=by
   rw[<- hk]
  rw[hval];refine jCg g c s t1 t2 (c-t1) (s-t2) (O I a.v.k) (ap ao a.v.x) (aq a.v.s) (E a.v.b) (O I a.v.f) (a.t.hd.cells sl) (fun v=>(hmN (shH (c-t1) (s-t2)) a.t).hd.cells v) rfl (fun _=>rfl)
   (fun v w'=>∃(wq:World) (fp:List Nat),w.heap.size<=wq.heap.size/\Own w' wq.heap.size v (hmN (shH (c-t1) (s-t2)) a.t) fp/\w.heap.size+1<wq.heap.size) (fun er w'=>∃M',j6 w' ah g M'/\PcR M (c,s) (hmC (shH (c-t1) (s-t2)) a) er M'/\Km g w w') w w1 w2 (fun v w' h=>?_) (fun wq k hsz=>?_) (fun v wq wr hq k1 k2=>?_)
  ·obtain⟨wq,fp,_,h,_⟩:=h;exact Hd.one _ h.own.one
  ·refine(hS wq k).mono ?_;rintro e w' ⟨sl',fp,rfl,h1,h2⟩;exact⟨sl',rfl,⟨wq,fp,k.size,h1,hsz⟩,h2⟩
  ·obtain⟨w0,fp,hle,ho,hlt⟩:=hq;have kwr:=k1.trans' k2 (fun i hi e=>by have e':i=w.heap.size+1:=e;omega);have hin':NdIn wr (fun _=>True) v (hmN (shH (c-t1) (s-t2)) a.t):=(ho.isIn.kp k2 (fun i hi e=>by have e':i=w.heap.size+1:=e;have h1:=hi.1;omega)).mono (fun b hb hl=>⟨rfl,trivial⟩);have e3:(hmC (shH (c-t1) (s-t2)) a).val v=T (O I 2 :: O I a.v.k :: ap ao a.v.x :: aq a.v.s :: E a.v.b :: O I a.v.f::(hmN (shH (c-t1) (s-t2)) a.t).hd.cells v).toArray:=by
    rw[<- hk];rfl
   rw[<- e3];refine(j6P ah g c s _ v (fun _=>True) M wr (hG.kp kwr) (fun i hi=>hnew i (Nat.le_trans kwr.size hi)) hM hgd hv hin' (aj.kp kwr)).mono ?_;rintro e w' ⟨er,rfl,M',h1,h2,h3⟩;exact⟨er,rfl,M',h1,h2,(Km.of_nul kwr hgl).trans h3⟩
 ·have e1:hmC (shH (c-t1) (s-t2)) a=a:=j3C _ ha.val hk;rw[e1];have hval:a.val sl=T (O I a.k :: O I a.v.k :: ap ao a.v.x :: aq a.v.s :: E a.v.b :: O I a.v.f::a.t.hd.cells sl).toArray:=rfl;rw[hval];refine jCh g c s t1 t2 a.k _ hk rfl (fun er w'=>∃M',j6 w' ah g M'/\PcR M (c,s) a er M'/\Km g w w') w (fun wq k=>?_);refine(j6P ah g c s a sl F M wq (hG.kp k) (fun i hi=>hnew i (Nat.le_trans k.size hi)) hM ha hv (hin.kp k (fun _ _ x=>x)) (aj.kp k)).mono ?_;rintro e w' ⟨er,rfl,M',h1,h2,h3⟩;exact⟨er,rfl,M',h1,h2,(Km.of_nul k hgl).trans h3⟩
end
section
open Go.RowKit Go.Maps
attribute [local go_sem] Oper.semAt_some
structure CyI (w:World) (B x6 x10 g2:Nat) (M0 Ys:List Cc) (k:Nat) (Z:Nat->Prop) (W:World) (M:List Cc):Prop where
 gi:j6 W (fun i=>Z i/\w.heap.size<=i) g2 M
 ok:Ok17 M
 put:pts M0 (Ys.take k)=H M
 oth:Blk W x10 [an (H ⟨g2,0,G⟩)] 24
 r6:Blk W x6 [an G] 24
 r7:Blk W (x6+1) [O I 0] 39
 kp:Kp w W Nul
 zl:∀i,Z i->i<W.heap.size/\((i=x6∨i=x6+1)∨(w.heap.size<=i/\i<x10)∨B+2<=i)
 z6:Z x6/\Z (x6+1)
 hB:x6+1<w.heap.size/\w.heap.size<=x10/\x10<B
structure CyX (w0:World) (B x6:Nat) (M0 Ys:List Cc) (W:World):Prop where
 full:pts M0 Ys=G
 r6:Blk W x6 [an G] 24
 r7:Blk W (x6+1) [O I 41] 39
 kp:Kp w0 W Nul
 hB:w0.heap.size<=x6/\x6+1<B
section
variable {w W W':World} {B x6 x10 g2:Nat} {M0 Ys:List Cc} {k:Nat} {Z:Nat->Prop} {M:List Cc}
theorem CyI.far {S:Nat->Prop}(h:CyI w B x6 x10 g2 M0 Ys k Z W M)(g:Kp W W' S)(hZ:∀i,Z i->¬S i)(hb:∀i,i<B->S i->False):CyI w B x6 x10 g2 M0 Ys k Z W' M:=by
 have hB:=h.hB;exact⟨h.gi.far' g (fun i hi=>hZ i hi.1),h.ok,h.put,h.oth.kp g (fun e=>hb _ hB.2.2 e),h.r6.kp g (fun e=>hb _ (by omega) e),h.r7.kp g (fun e=>hb _ (by omega) e),h.kp.trans' g (fun i hi e=>hb i (by omega) e),fun i hi=>⟨Nat.lt_of_lt_of_le (h.zl i hi).1 g.size,(h.zl i hi).2⟩,h.z6,hB⟩
theorem CyI.sm (h:CyI w B x6 x10 g2 M0 Ys k Z W M){i:Nat}(hs:Sm W g2 i):Z i/\w.heap.size<=i:=by
 obtain⟨hF,⟨hb',_⟩|⟨m,D,hb',hm',_⟩⟩:=h.gi
 ·rcases hs with rfl|⟨e,_⟩
  ·exact hF
  ·rw[hb'] at e;simp at e
 ·rcases hs with rfl|⟨e,_⟩
  ·exact hF
  ·rw[hb'] at e;have em:m=i:=(by simpa using e);rw[<- em];exact hm'
theorem CyI.o (h:CyI w B x6 x10 g2 M0 Ys k Z W M){i:Nat}(hi:i<w.heap.size∨(x10<=i/\i<B+2)):¬Sm W g2 i:=fun e=>by
 have hB:=h.hB;have h1:=h.sm e;rcases(h.zl i h1.1).2 with q|q|q <;> omega
theorem CyI.step {y:Cc}{X:World}(h:CyI w B x6 x10 g2 M0 Ys k Z W M)(hy:Ys[k]? = H y)(hgd:Gd y.2)(hv:vC y.1.1 y.1.2=J)(hr:G9 M y.1=J)(hBV:B+2<=W.heap.size)
 (hg:j6 X (fun i=>(Z i/\w.heap.size<=i)∨W.heap.size<=i) g2 (putL M y.1 y.2)) (km:Km g2 W X) :
 ∃Z',CyI w B x6 x10 g2 M0 Ys (k+1) Z' X (putL M y.1 y.2)/\∀i,Z' i->Z i∨W.heap.size<=i:=by
 have hB:=h.hB;have hkp:=km.kp;have hsz:=hkp.size;have hn:∀i,i<w.heap.size->¬Sm W g2 i:=fun i hi=>h.o (.inl hi)
 refine⟨fun i=>(Z i∨W.heap.size<=i)/\i<X.heap.size,⟨?_,Ok17.put h.ok h.gi.once' hv hgd (O4.1 hr),j3c h.put hy hr,h.oth.kp hkp (h.o (.inr ⟨Nat.le_refl _,by omega⟩)),h.r6.kp hkp (hn _ (by omega)),h.r7.kp hkp (hn _ (by omega)),h.kp.trans' hkp (fun i hi e=>hn i hi e),fun i hi=>⟨hi.2,?_⟩,⟨⟨.inl h.z6.1,?_⟩,⟨.inl h.z6.2,?_⟩⟩,hB⟩,fun i hi=>hi.1⟩
 ·have hw:=h.kp.size;refine hg.lows.mono (fun i hi=>?_);rcases hi.1 with q|q
  ·exact⟨⟨.inl q.1,hi.2⟩,q.2⟩
  ·exact⟨⟨.inr q,hi.2⟩,by omega⟩
 ·rcases hi.1 with q|q
  ·exact(h.zl i q).2
  ·exact .inr (.inr (by omega))
 ·exact Nat.lt_of_lt_of_le (h.zl _ h.z6.1).1 hsz
 ·exact Nat.lt_of_lt_of_le (h.zl _ h.z6.2).1 hsz
theorem CyI.fail {y:Cc}(h:CyI w B x6 x10 g2 M0 Ys k Z W M)(hy:Ys[k]? = H y)(hr:¬G9 M y.1=J):pts M0 Ys=G:=j3b h.put hy hr
end
structure CyS (w':World) (x10 xa x4 x5:Nat) (pg ad ar tt ct:List Value):Prop where
 p:Blk w' x10 pg 24
 a:Blk w' xa ad 32
 f:Blk w' x4 ar 34
 t:Blk w' x5 tt 32
 c:Blk w' (xa+1) ct 50
theorem CyS.kp {w1 w2:World}{x10 xa x4 x5:Nat}{pg ad ar tt ct:List Value}{S:Nat->Prop}(h:CyS w1 x10 xa x4 x5 pg ad ar tt ct)(k:Kp w1 w2 S)(h1:¬S x10)(h2:¬S xa)(h3:¬S x4)(h4:¬S x5)(h5:¬S (xa+1)):CyS w2 x10 xa x4 x5 pg ad ar tt ct:=⟨h.p.kp k h1,h.a.kp k h2,h.f.kp k h3,h.t.kp k h4,h.c.kp k h5⟩
theorem CyS.nul {w1 w2:World}{x10 xa x4 x5:Nat}{pg ad ar tt ct:List Value}(h:CyS w1 x10 xa x4 x5 pg ad ar tt ct)(k:Kp w1 w2 Nul):CyS w2 x10 xa x4 x5 pg ad ar tt ct:=h.kp k (fun x=>x) (fun x=>x) (fun x=>x) (fun x=>x) (fun x=>x)
structure CpV (w w':World) (L M0 Ys:List Cc) (b1 b2 b3 b4:Int) (v:Value):Prop where
 mem:∀y,y∈M0↔y∈L/\y∉inL b1 b2 b3 b4 L
 once:M0.Pairwise (fun x y=>x.1≠y.1)
 ok:Ok17 M0
 kp:Kp w w' Nul
 full:pts M0 Ys=G->v=au #[an G,O I 41]
 fit:∀M',pts M0 Ys=H M'->∃g2,v=au #[an (H ⟨g2,0,G⟩),O I 0]/\j6 w' (fun i=>w.heap.size<=i) g2 M'/\Ok17 M'
def cpY (A1 A2 t1 t2:Int) (K:List Cc):List Cc:=K.map fun x=>((x.1.1+t1-A1,x.1.2+t2-A2),hmC (shH (t1-A1) (t2-A2)) x.2)
theorem j9X {A1 A2 t1 t2:Int}{K:List Cc}{k:Nat}{x:Cc}(h:K[k]? = H x):(cpY A1 A2 t1 t2 K)[k]? = H ((x.1.1+t1-A1,x.1.2+t2-A2),hmC (shH (t1-A1) (t2-A2)) x.2):=by
 unfold cpY;rw[List.getElem?_map,h];rfl
theorem j6J {M0 Ys M:List Cc}(h:pts M0 (Ys.take Ys.length)=H M):pts M0 Ys=H M:=by rw[List.take_length] at h;exact h
theorem j9Q (g:Nat)(L K Ys:List Cc)(A1 A2 A3 A4 t1 t2 B1 B2 B3 B4:Int)(w:World)(hg:GI 0 w g L)(hL:Ok17 L)
 (hKs:E9 (K.map (·.1))) (hKm:∀x,x∈K↔x∈inL A1 A2 A3 A4 L) (hY:Ys=cpY A1 A2 t1 t2 K) (hC:∀x∈K,vC (x.1.1+t1-A1) (x.1.2+t2-A2)=J)
 (HG:Hid (∀w,Calls prog 52 #[an (H ⟨g,0,G⟩),T #[O I A1,O I A2,O I A3,O I A4],T #[O I t1,O I t2]] w fun e w'=>e=Q (au #[T #[O I B1,O I B2,O I B3,O I B4],O I 0])/\Kp w w' Nul))
 (HWo:Hid (∀wq,Kp w wq Nul->Calls prog 53 #[an (H ⟨g,0,G⟩),T #[O I B1,O I B2,O I B3,O I B4]] wq fun e w'=>∃g2 M,e=Q (an (H ⟨g2,0,G⟩))/\j6 w' (fun i=>wq.heap.size<=i) g2 M/\Ok17 M/\(∀y,y∈M↔y∈L/\y∉inL B1 B2 B3 B4 L)/\wq.heap.size<=g2/\Kp wq w' Nul))
 (HIn:Hid (∀w,Calls prog 54 #[an (H ⟨g,0,G⟩),T #[O I A1,O I A2,O I A3,O I A4]] w fun e w'=>∃x0 x1,e=Q (.func (.func 97) #[] #[an (H ⟨x0,0,G⟩),an (H ⟨x1,0,G⟩)])/\Blk w' x0 [an (H ⟨g,0,G⟩)] 24/\Blk w' x1 [O I A1,O I A2,O I A3,O I A4] 34/\Kp w w' Nul))
 (HMvd:Hid (∀c s w,vC (c+t1-A1) (s+t2-A2)=J->vC c s=J->Calls prog 56 #[T #[O I c,O I s],T #[O I A1,O I A2],T #[O I t1,O I t2]] w fun e w'=>e=Q (T #[O I (c+t1-A1),O I (s+t2-A2)])/\Kp w w' Nul))
 (HPcd:Hid (∀(ah F:Nat->Prop) (g2:Nat) (c s c' s':Int) (a:Ct) (sl:Value) (M:List Cc) (wq:World),Kp w wq Nul->j6 wq ah g2 M->(∀i,wq.heap.size<=i->ah i)->Ok17 M->Gd a->vC c' s'=J->vC c s=J->NdIn wq F sl a.t->Calls prog 55 #[an (H ⟨g2,0,G⟩),T #[O I c',O I s'],a.val sl,T #[O I c,O I s]] wq fun e w'=>∃er,e=Q (O I er)/\∃M',j6 w' ah g2 M'/\PcR M (c',s') (hmC (shH (c'-c) (s'-s)) a) er M'/\Km g2 wq w')) :
 Calls prog 16 #[an (H ⟨g,0,G⟩),T #[O I A1,O I A2,O I A3,O I A4],T #[O I t1,O I t2]] w fun e w'=>∃v M0,e=Q v/\CpV w w' L M0 Ys B1 B2 B3 B4 v:=by
 have HG0:=h_ hg;have HOk:=h_ hL;have HKs:=h_ hKs;have HKm:=h_ hKm;have HY:=h_ hY;have HC:=h_ hC;obtain⟨W0,hW0⟩:=e_ ((((w.alloc (.cells #[O I A1,O I A2,O I A3,O I A4] 34)).alloc (.cells #[O I t1,O I t2] 32)).alloc (.cells #[an G] 24)).alloc (.cells #[O I 0] 39));have HW0:=h_ hW0;have k0:Hid (Kp w W0 Nul):=by show Kp _ _ _;rw[<- hW0];exact((((Kp.refl w Nul).alloc _).alloc _).alloc _).alloc _
 have HB4:Hid (∀X,Kp W0 X Nul->Blk X w.heap.size [O I A1,O I A2,O I A3,O I A4] 34):=fun X k=>by
  have:Blk W0 w.heap.size [O I A1,O I A2,O I A3,O I A4] 34:=by rw[<- hW0];exact(((Blk.new w [O I A1,O I A2,O I A3,O I A4] _).alloc _).alloc _).alloc _
  exact this.kp k (fun x=>x)
 have HB5:Hid (∀X,Kp W0 X Nul->Blk X (w.heap.size+1) [O I t1,O I t2] 32):=fun X k=>by
  have:Blk W0 (w.heap.size+1) [O I t1,O I t2] 32:=by rw[<- hW0];exact((blkS (by simp) [O I t1,O I t2] _).alloc _).alloc _
  exact this.kp k (fun x=>x)
 have HB6:Hid (∀X,Kp W0 X Nul->Blk X (w.heap.size+2) [an G] 24):=fun X k=>by
  have:Blk W0 (w.heap.size+2) [an G] 24:=by rw[<- hW0];exact(blkS (by simp) [an G] _).alloc _
  exact this.kp k (fun x=>x)
 have HB7:Hid (∀X,Kp W0 X Nul->Blk X (w.heap.size+2+1) [O I 0] 39):=fun X k=>by
  have:Blk W0 (w.heap.size+2+1) [O I 0] 39:=by rw[<- hW0];exact blkS (by simp) [O I 0] _
  exact this.kp k (fun x=>x)
 have S0:Hid (W0.heap.size=w.heap.size+4):=by show _=_;rw[<- hW0];simp
 clear hW0 hg hL hKs hKm hY hC;refine(callsIn_wide (n:=12)).1 ?_;refine callsIn_of_wp_marks func16 rfl trivial ?_ rfl;simp only[ntmps16,List.size_toArray,List.length_cons,List.length_nil,Nat.reduceAdd,Nat.reduceSub,Array.replicate_succ,Array.replicate_zero,List.push_toArray,List.append_toArray,List.nil_append,List.cons_append];refine wpIn_wide.2 ?_;go_wp2_with fail;rw[HW0.o];clear HW0;refine(HG.o _).mono ?_;rintro e w1 ⟨rfl,hk1⟩;obtain⟨V8,hV8⟩:=e_ (w1.alloc (.cells #[O I B1,O I B2,O I B3,O I B4] 34));have HV8:=h_ hV8;have K8:Hid (Kp W0 V8 Nul):=by show Kp _ _ _;rw[<- hV8];exact hk1.alloc _
 have S8:Hid (w.heap.size+4<V8.heap.size):=by
  show _<_;have:=hk1.size;rw[S0.o] at this;rw[<- hV8,World.size_alloc];omega
 clear hk1 hV8 HG;go_wp2_with fail;rw[HV8.o];clear HV8;refine(HWo.o V8 (k0.o.trans K8.o)).mono ?_;rintro e w2 ⟨g2,M0,rfl,hgi,hok,hmem,_,hk2⟩;have HM0:=h_ hmem;have HOk0:=h_ hok;have HOn0:=h_ hgi.once';obtain⟨W3,hW3⟩:=e_ (w2.alloc (.cells #[an (H ⟨g2,0,G⟩)] 24));have HW3:=h_ hW3;have k23:Kp w2 W3 Nul:=by rw[<- hW3];exact(Kp.refl _ _).alloc _
 have K3:=h_ (hk2.trans k23);have HO3:Hid (Blk W3 w2.heap.size [an (H ⟨g2,0,G⟩)] 24):=by show Blk _ _ _ _;rw[<- hW3];exact Blk.new w2 _ _
 have HG3:=h_ (hgi.lows.kp k23);have HS2:=h_ hk2.size;have d0:(w2.alloc (.cells #[an (H ⟨g2,0,G⟩)] 24)).cell? ⟨w.heap.size,0,G⟩=H (O I A1):=by rw[hW3];exact(HB4.o _ (K8.o.trans K3.o)).cell rfl
 have d1:(w2.alloc (.cells #[an (H ⟨g2,0,G⟩)] 24)).cell? ⟨w.heap.size,1,G⟩=H (O I A2):=by rw[hW3];exact(HB4.o _ (K8.o.trans K3.o)).cell rfl
 have d2:(w2.alloc (.cells #[an (H ⟨g2,0,G⟩)] 24)).cell? ⟨w.heap.size,2,G⟩=H (O I A3):=by rw[hW3];exact(HB4.o _ (K8.o.trans K3.o)).cell rfl
 have d3:(w2.alloc (.cells #[an (H ⟨g2,0,G⟩)] 24)).cell? ⟨w.heap.size,3,G⟩=H (O I A4):=by rw[hW3];exact(HB4.o _ (K8.o.trans K3.o)).cell rfl
 clear hgi hok hmem hk2 hW3 k23 HWo;go_wp2_with fail;rw[HW3.o] at d0 d1 d2 d3 ⊢;clear HW3 d0 d1 d2 d3;refine(HIn.o _).mono ?_;rintro e w3 ⟨x0,x1,rfl,hb0,hb1,hk3⟩;have HX:Hid (Blk w3 x0 [an (H ⟨g,0,G⟩)] 24/\Blk w3 x1 [O I A1,O I A2,O I A3,O I A4] 34):=⟨hb0,hb1⟩;have K4:=h_ (K3.o.trans hk3);have HO4:=h_ (HO3.o.kp hk3 (fun x=>x));have HG4:=h_ (HG3.o.kp hk3);have HL3:=h_ HO4.o.lt;clear hb0 hb1 hk3 HIn HO3 HG3;go_wp2_with fail;have hL3:=HL3.o;have hS2:=HS2.o;have hS8:=S8.o;have K04:=h_ ((k0.o.trans K8.o).trans K4.o);have KW4:=h_ (K8.o.trans K4.o);generalize hact:Act.mk _ _=a0;refine j11 (α:=(Cc×Value)×List Nat) (N:=K.length) (gf:=97) (lb:=#[an (H ⟨x0,0,G⟩),an (H ⟨x1,0,G⟩)]) (by rw[<- hact];rfl) (enters_of func97 (by kernel_rfl) rfl) (encs:=encQ) wtQ (fun _=>rfl) (j0Z w3 K) ?hT (fun i=>(i=w.heap.size+2∨i=w.heap.size+2+1)∨(V8.heap.size<=i/\i<w2.heap.size)) ?hseq (fun k Z V=>∃M,CyI V8 w3.heap.size (w.heap.size+2) w2.heap.size g2 M0 Ys k Z V M) ?hZ ?hZl ?hI (CyX w w3.heap.size (w.heap.size+2) M0 Ys) ?hIx (fun i=>(i=w.heap.size+2∨i=w.heap.size+2+1)∨(V8.heap.size<=i/\i<w2.heap.size)) ?h0 ?hround ?hdone ?hstop
 case hT=>rintro k x Z V ⟨_,_,_,h⟩;exact⟨fun q=>by have:=(h _ q).1;omega,fun q=>by have:=(h _ q).1;omega⟩
 case hseq=>
  refine j3F g x0 x1 (fun i=>i<w.heap.size) A1 A2 A3 A4 L _ K rfl w3 _ (HG0.o.kp K04.o) (HG0.o.low.kp K04.o) HOk.o.gd HOk.o.at' HOk.o.len HKs.o HKm.o (fun i e=>?_) (fun i e q=>?_) HX.o.1 HX.o.2
  ·have e':=e;omega
  ·have q':=q;rcases e with e|e <;> omega
 case hZ=>
  rintro k Z V ⟨M',h⟩;exact⟨fun q=>by rcases(h.zl _ q).2 with e|e|e <;> omega,fun q=>by rcases(h.zl _ q).2 with e|e|e <;> omega⟩
 case hZl=>
  rintro k Z V ⟨M',h⟩;exact⟨fun i hi=>(h.zl i hi).1,fun i hlt hi=>by rcases(h.zl i hi).2 with e|e|e;exact .inl e;exact .inr e;omega⟩
 case hI=>
  rintro k Z V V' ⟨M',h⟩ q;exact⟨M',h.far q (fun i hi e=>by rcases(h.zl _ hi).2 with q|q|q <;> rcases e with e|e <;> omega) (fun i hi e=>by rcases e with e|e <;> omega)⟩
 case hIx=>
  intro V V' h q;have hB:=h.hB;exact⟨h.full,h.r6.kp q (fun e=>by rcases e with e|e <;> omega),h.r7.kp q (fun e=>by rcases e with e|e <;> omega),h.kp.trans' q (fun i hi e=>by rcases e with e|e <;> omega),hB⟩
 case h0=>
  refine⟨M0,HG4.o.mono (fun i hi=>⟨.inr hi,hi.1⟩),HOk0.o,rfl,HO4.o,HB6.o _ KW4.o,HB7.o _ KW4.o,K4.o,fun i hi=>?_,⟨.inl (.inl rfl),.inl (.inr rfl)⟩,by omega,hS2,hL3⟩;rcases hi with e|e
  ·exact⟨by omega,.inl e⟩
  ·exact⟨by omega,.inr (.inl e)⟩
 case hround=>
  subst hact;rintro k ⟨⟨⟨⟨c,s⟩,a⟩,sl⟩,fp⟩ Z V0 KK hkN hsW ⟨M',hI⟩ ⟨hKk,hown,hnd,hfz⟩ hcont;have HI:=h_ hI;have HKk:=h_ hKk;have HSW:=h_ hsW;have O1:=h_ hown.one;have HOwn:=h_ hown;have HFz:=h_ hfz;clear hI hKk hsW hown hnd hfz HX HO4 HG4;simp only[List.zip_toArray,List.zip_cons_cons,List.zip_nil_right,List.foldl_toArray',List.foldl_cons,List.foldl_nil]
  gi_wp2_with (first
   | (refine j2Z rfl 50 (.tmp 12) (.tmp 31) rfl _ _ _ _ (by first|rfl|simp) rfl rfl rfl D9 (a.one O1.o) ?_)
   | fail)
  refine hcont _ _ (((Kp.refl V0 Nul).alloc _).alloc _) (fun V hV _=>?_);have hW2:Kp V0 ((V0.alloc (.cells #[O I c,O I s] 32)).alloc (.cells (a.cells sl).toArray 50)) Nul:=((Kp.refl V0 Nul).alloc _).alloc _;have hWV:=(hW2.mono (fun _ _ q=>q.elim)).trans hV;have HIV:=h_ (HI.o.far hWV (fun i hi e=>by have e':i=w3.heap.size+1:=e;rcases(HI.o.zl i hi).2 with q|q|q <;> omega) (fun i hi e=>by have e':i=w3.heap.size+1:=e;omega));have HbA:=h_ (((Blk.new V0 [O I c,O I s] 32).alloc _).kp hV (fun e=>by have e':V0.heap.size=w3.heap.size+1:=e;have:=HSW.o;omega));have HbC:Hid (Blk V (V0.heap.size+1) (a.cells sl) 50):=by
   have h1:=Blk.new (V0.alloc (.cells #[O I c,O I s] 32)) (a.cells sl) 50;rw[World.size_alloc] at h1;exact h1.kp hV (fun e=>by have e':V0.heap.size+1=w3.heap.size+1:=e;have:=HSW.o;omega)
  have HVV:=h_ HbC.o.lt;have KV:=h_ ((k0.o.trans K8.o).trans HIV.o.kp);have HSS:Hid ((fun w':World=>CyS w' w2.heap.size V0.heap.size w.heap.size (w.heap.size+1) [an (H ⟨g2,0,G⟩)] [O I c,O I s] [O I A1,O I A2,O I A3,O I A4] [O I t1,O I t2] (a.cells sl)) V):=⟨HIV.o.oth,HbA.o,HB4.o _ (K8.o.trans HIV.o.kp),HB5.o _ (K8.o.trans HIV.o.kp),HbC.o⟩;have HOwnV:=h_ (HOwn.o.mono (fun i hi=>hWV.block i (F4 (HOwn.o.node i hi)) (fun e=>by have e':i=w3.heap.size+1:=e;have:=(HFz.o i hi).1;omega)));have hxL:((c,s),a)∈L:=((Q6 rfl).1 ((HKm.o _).1 (List.mem_of_getElem? HKk.o))).1;have HGd:=h_ (HOk.o.gd _ hxL);have hvc:=HOk.o.at' _ hxL;have hvt:=HC.o _ (List.mem_of_getElem? HKk.o);have HV2:=h_ hvt;have HYk:Hid (Ys[k]? = H ((c+t1-A1,s+t2-A2),hmC (shH (t1-A1) (t2-A2)) a)):=by show _=_;rw[HY.o];exact j9X HKk.o
  have HMv:=h_ fun w=>HMvd.o c s w hvt hvc
  have HPc:Hid (∀wq,Kp V wq Nul->Calls prog 55 #[an (H ⟨g2,0,G⟩),T #[O I (c+t1-A1),O I (s+t2-A2)],a.val sl,T #[O I c,O I s]] wq fun e w'=>∃er,e=Q (O I er)/\∃M2,j6 w' (fun i=>(Z i/\V8.heap.size<=i)∨wq.heap.size<=i) g2 M2/\PcR M' (c+t1-A1,s+t2-A2) (hmC (shH (t1-A1) (t2-A2)) a) er M2/\Km g2 wq w'):=fun wq k=>by
   have h:=HPcd.o (fun i=>(Z i/\V8.heap.size<=i)∨wq.heap.size<=i) (fun _=>True) g2 c s (c+t1-A1) (s+t2-A2) a sl M' wq (KV.o.trans k) ((HIV.o.gi.mono (fun i hi=>.inl hi)).kp k) (fun i hi=>.inr hi) HIV.o.ok HGd.o hvt hvc ((HOwnV.o.isIn (fun _ _=>trivial)).kp k (fun _ _ x=>x));rw[show c+t1-A1-c=t1-A1 by omega,show s+t2-A2-s=t2-A2 by omega] at h;exact h
  have HOut:Hid (∀v1,Kp V v1 Nul->∀i,i<V8.heap.size∨i=w2.heap.size∨i=V0.heap.size∨i=V0.heap.size+1->¬Sm v1 g2 i):=fun v1 k i hi=>by
   have hh:=HIV.o.far k (fun _ _ q=>q) (fun _ _ q=>q);intro e;have h1:=hh.sm e;have h2:=(HI.o.zl i h1.1);have hB:=HI.o.hB;have h3:=HSW.o;rcases h2.2 with q|q|q <;> rcases hi with p|p|p|p <;> omega
  have H45:Hid (w.heap.size+1<V8.heap.size):=by show _<_;omega
  have HRl:Hid (∀y,y=((c+t1-A1,s+t2-A2),hmC (shH (t1-A1) (t2-A2)) a)->Gd y.2):=fun y hy=>by subst hy;exact j1u (j2V _ _) HGd.o
  clear hcont hV hW2 hWV hvc hvt hxL HbA HbC HOwn HOwnV HPcd HMvd
  gi_wp2_with (fail)
  refine j1S ?_;refine j2M (fun w':World=>CyS w' w2.heap.size V0.heap.size w.heap.size (w.heap.size+1) [an (H ⟨g2,0,G⟩)] [O I c,O I s] [O I A1,O I A2,O I A3,O I A4] [O I t1,O I t2] (a.cells sl)) (by kernel_rfl) (by kernel_rfl) (j29 (fun a w h=>Or.elim h (fun q=>Exit.noConfusion (And.left q)) (fun q=>Exit.noConfusion (And.left q)))) (HSS.o.nul (Kp.refl _ _).drew) (fun hHeld=>?_);refine tk 0 32 hHeld ?_ (v:=an (H ⟨g2,0,G⟩)) (hy:=by intro w' hSw;have s0:=hSw.p.cell (i:=0) rfl;clear hSw;go_simp);refine tk 1 33 hHeld ?_ (v:=T ([O I c,O I s]:List Value).toArray) (hy:=by exact fun w' hSw=>q9 32 (.tmp 11) rfl V0.heap.size 0 rfl [O I c,O I s] _ (j5 hSw.a) underlying32 rfl F5);refine tk 2 34 hHeld ?_ (v:=an (H ⟨w.heap.size,0,G⟩));refine tk 3 35 hHeld ?_ (v:=T ([O I A1,O I A2]:List Value).toArray) (hy:=by exact fun w' hSw=>q9 32 (.tmp 34) rfl w.heap.size 0 rfl [O I A1,O I A2] _ (J4 (pre:=[]) (l:=[O I A1,O I A2]) (post:=[O I A3,O I A4]) hSw.f) underlying32 rfl F5)
  refine tk 4 36 hHeld ?_ (v:=T ([O I t1,O I t2]:List Value).toArray) (hy:=by exact fun w' hSw=>q9 32 (.tmp 5) rfl (w.heap.size+1) 0 rfl [O I t1,O I t2] _ (j5 hSw.t) underlying32 rfl F5);refine tk 6 38 hHeld ?_ (v:=a.val sl) (hy:=by exact fun w' hSw=>Y5 _ rfl rfl hSw.c rfl);refine tk 7 39 hHeld ?_ (v:=T ([O I c,O I s]:List Value).toArray) (hy:=by exact fun w' hSw=>q9 32 (.tmp 11) rfl V0.heap.size 0 rfl [O I c,O I s] _ (j5 hSw.a) underlying32 rfl F5);refine D6 (i:=5) (by kernel_rfl) rfl rfl (fun K hK=>?_);go_simp;refine(HMv.o _).mono ?_;rintro e v1 ⟨rfl,hk2⟩;have E1:=h_ (((Kp.refl V Nul).drew).trans hk2);refine hK.o _ _ (HSS.o.nul E1.o) (fun hHeld=>?_);clear hK K hk2
  (try simp only[Act.put,Sz0,Sz1,Sz2])
  refine D6 (i:=8) (by kernel_rfl) rfl rfl (fun K hK=>?_);go_simp;refine(HPc.o v1 E1.o).mono ?_;rintro e X ⟨er,rfl,M2,hgX,hp,hkm⟩;have HSX:Hid ((fun w':World=>CyS w' w2.heap.size V0.heap.size w.heap.size (w.heap.size+1) [an (H ⟨g2,0,G⟩)] [O I c,O I s] [O I A1,O I A2,O I A3,O I A4] [O I t1,O I t2] (a.cells sl)) X):=(HSS.o.nul E1.o).kp hkm.kp (HOut.o v1 E1.o _ (.inr (.inl rfl))) (HOut.o v1 E1.o _ (.inr (.inr (.inl rfl)))) (HOut.o v1 E1.o _ (.inl (by have:=H45.o;omega))) (HOut.o v1 E1.o _ (.inl (by have:=H45.o;omega))) (HOut.o v1 E1.o _ (.inr (.inr (.inr rfl))));by_cases hr:G9 M' (c+t1-A1,s+t2-A2)=J
  ·obtain⟨rfl,rfl⟩:=hp.yes hr;have hVs:=Nat.le_trans (Nat.le_trans HSW.o (by have:=HVV.o;omega)) E1.o.size;have hIv1:=HIV.o.far E1.o (fun _ _ q=>q) (fun _ _ q=>q);obtain⟨Z',hZ1,hZ2⟩:=CyI.step hIv1 HYk.o (HRl.o _ rfl) HV2.o hr hVs hgX hkm;have HZ:Hid (∃Z',(∃M,CyI V8 w3.heap.size (w.heap.size+2) w2.heap.size g2 M0 Ys (k+1) Z' X M)/\More Z Z' V0):=⟨Z',⟨_,hZ1⟩,fun i hi=>(hZ2 i hi).imp id (fun q=>by have:=HVV.o;have:=E1.o.size;omega)⟩;have HKX:Hid (Kp V X (fun i=>(Z i∨wtQ ((((c,s),a),sl),fp) i)∨V0.heap.size<=i)):=(E1.o.mono (fun _ _ q=>q.elim)).trans' hkm.kp (fun i _ e=>.inl (.inl (hIv1.sm e).1));clear hZ1 hZ2 hIv1;refine hK.o _ _ HSX.o (fun hHeld=>?_);clear hK K hkm hgX
   (try simp only[Act.put,Sz0,Sz1,Sz2])
   refine tk 9 13 hHeld ?_ (v:=O I 0);refine wpAnyH_done (by kernel_rfl) ?_ _;refine NoPanic.normal ?_
   gi_wp2_with (fail)
   first
   | exact⟨HKX.o,HZ.o⟩
   | exact .inl ⟨rfl,HKX.o,HZ.o⟩
  ·obtain⟨rfl,rfl⟩:=hp.no hr;have hIv1:=HIV.o.far E1.o (fun _ _ q=>q) (fun _ _ q=>q);have HFu:=h_ (hIv1.fail HYk.o hr);have HKX:Hid (Kp V X (fun i=>(Z i∨wtQ ((((c,s),a),sl),fp) i)∨V0.heap.size<=i)):=(E1.o.mono (fun _ _ q=>q.elim)).trans' hkm.kp (fun i _ e=>.inl (.inl (hIv1.sm e).1));have H6:Hid (Blk X (w.heap.size+2) [an G] 24):=hIv1.r6.kp hkm.kp (hIv1.o (.inl (by omega)));have H7:Hid (Blk X (w.heap.size+2+1) [O I 0] 39):=hIv1.r7.kp hkm.kp (hIv1.o (.inl (by omega)));have KwX:Hid (Kp w X Nul):=(KV.o.trans E1.o).trans' hkm.kp (fun i hi e=>hIv1.o (.inl (by omega)) e);have HZ6:=h_ hIv1.z6;clear hIv1;refine hK.o _ _ HSX.o (fun hHeld=>?_);clear hK K hkm hgX
   (try simp only[Act.put,Sz0,Sz1,Sz2])
   refine tk 9 13 hHeld ?_ (v:=O I 41);refine wpAnyH_done (by kernel_rfl) ?_ _;refine NoPanic.normal ?_
   gi_wp2_with (first
    | (refine j0K rfl 24 (.tmp 6) (.const (an G)) rfl (w.heap.size+2) rfl (an G) rfl rfl 24 _ H6.o (by kernel_rfl) ?_;intro Y hbY hkY;have HY6:Hid (Blk Y (w.heap.size+2) [an G] 24):=hbY;have HY7:Hid (Blk Y (w.heap.size+2+1) [O I 0] 39):=H7.o.kp hkY (by show ¬_=_;omega);have KY:Hid (Kp X Y (fun i=>i=w.heap.size+2)):=hkY;clear hbY hkY)
    | (refine j0K rfl 39 (.tmp 7) (.tmp 43) rfl (w.heap.size+2+1) rfl (O I 41) rfl rfl 39 _ HY7.o (by kernel_rfl) ?_;intro Y2 hb2 hk2;have HE6:Hid (Blk Y2 (w.heap.size+2) [an G] 24):=HY6.o.kp hk2 (by show ¬_=_;omega);have HE7:Hid (Blk Y2 (w.heap.size+2+1) [O I 41] 39):=hb2;have KE:Hid (Kp Y Y2 (fun i=>i=w.heap.size+2+1)):=hk2;clear hb2 hk2)
    | fail)
   have q1:Kp V Y2 (fun i=>(Z i∨wtQ ((((c,s),a),sl),fp) i)∨V0.heap.size<=i):=(HKX.o.trans (KY.o.mono (fun i _ e=>.inl (.inl (by have e':i=w.heap.size+2:=e;rw[e'];exact HZ6.o.1))))).trans (KE.o.mono (fun i _ e=>.inl (.inl (by have e':i=w.heap.size+2+1:=e;rw[e'];exact HZ6.o.2))));have q2:CyX w w3.heap.size (w.heap.size+2) M0 Ys Y2:=⟨HFu.o,HE6.o,HE7.o,(KwX.o.trans' KY.o (fun i hi e=>by have e':i=w.heap.size+2:=e;omega)).trans' KE.o (fun i hi e=>by have e':i=w.heap.size+2+1:=e;omega),by omega⟩;first
   | exact⟨q1,q2⟩
   | exact .inr ⟨rfl,q1,q2⟩
 case hdone=>
  subst hact;rintro D Z V hD ⟨M',h⟩ hDf;have HI:=h_ h;have HPt:Hid (pts M0 Ys=H M'):=by
   have h1:=h.put;rw[show K.length=Ys.length by rw[HY.o];simp[cpY]] at h1;exact j6J h1
  have HDf:=h_ hDf;have HD:=h_ hD;have H6:=h_ h.r6;have H7:=h_ h.r7;have c0:=h.oth.c_ 0 rfl;clear h hDf hD;go_wp2_with (first
   | (refine L9 rfl 24 (.tmp 6) (.tmp 44) rfl (w.heap.size+2) rfl (an (H ⟨g2,0,G⟩)) rfl rfl 24 _ H6.o (by kernel_rfl) ?_;intro Y hbY hkY;have HY6:Hid (Blk Y (w.heap.size+2) [an (H ⟨g2,0,G⟩)] 24):=hbY;have HY7:Hid (Blk Y (w.heap.size+2+1) [O I 0] 39):=H7.o.kp hkY (by show ¬_=_;omega);have KY:Hid (Kp V Y (fun i=>i=w.heap.size+2∨i=w.heap.size+2+1)):=hkY.mono (fun _ _ e=>.inl e);clear hbY hkY)
   | (refine L9 rfl 39 (.tmp 7) (.const (O I 0)) rfl (w.heap.size+2+1) rfl (O I 0) rfl rfl 39 _ HY7.o (by kernel_rfl) ?_;intro Y2 hb2 hk2;have HE6:Hid (Blk Y2 (w.heap.size+2) [an (H ⟨g2,0,G⟩)] 24):=HY6.o.kp hk2 (by show ¬_=_;omega);have HE7:Hid (Blk Y2 (w.heap.size+2+1) [O I 0] 39):=hb2;have KE:Hid (Kp V Y2 (fun i=>i=w.heap.size+2∨i=w.heap.size+2+1)):=KY.o.trans (hk2.mono (fun _ _ e=>.inr e));clear hb2 hk2)
   | fail)
  have hd:=HD.o;have hD2:=(KE.o.block D (Array.getElem?_eq_some_iff.1 HDf.o).1 (fun e=>by rcases e with e|e <;> omega)).trans HDf.o;refine⟨by simp,.inl ⟨_,_,rfl,run_takeDeferred hD2,?_⟩⟩;have c1:(Y2.putObj D (.deferred G)).cell? ⟨w.heap.size+2,0,G⟩=H (an (H ⟨g2,0,G⟩)):=(HE6.o.kp J0 (by show ¬_=_;omega)).cell rfl;have c2:(Y2.putObj D (.deferred G)).cell? ⟨w.heap.size+2+1,0,G⟩=H (O I 0):=(HE7.o.kp J0 (by show ¬_=_;omega)).cell rfl;refine⟨_,X8 rfl _ _ (w.heap.size+2) (w.heap.size+2+1) (an (H ⟨g2,0,G⟩)) (O I 0) rfl rfl ?_ ?_,_,M0,rfl,?_⟩
  ·clear c2 hd;go_simp
  ·clear c1 hd;go_simp
  ·refine⟨HM0.o,HOn0.o,HOk0.o,X6 (((k0.o.trans K8.o).trans HI.o.kp).trans' KE.o (fun i hi e=>by rcases e with e|e <;> omega)) (by omega),(fun e=>by rw[HPt.o] at e;cases e),fun M1 e=>by
    rw[HPt.o] at e;cases e
    refine⟨g2,rfl,((HI.o.gi.far' KE.o (fun i hi e=>by have:=hi.2;rcases e with e|e <;> omega)).far' J0 (fun i hi e=>by have e':i=D:=e;rcases(HI.o.zl i hi.1).2 with q|q|q <;> omega)).mono (fun i hi=>by have:=hi.2;show w.heap.size<=i;omega),HI.o.ok⟩⟩
 case hstop=>
  subst hact;rintro D V hD h hDf;have HI:=h_ h;have HDf:=h_ hDf;have HD:=h_ hD;clear h hDf hD;go_wp2_with fail;have hd:=HD.o;refine⟨by simp,.inl ⟨_,_,rfl,run_takeDeferred HDf.o,?_⟩⟩;have c1:(V.putObj D (.deferred G)).cell? ⟨w.heap.size+2,0,G⟩=H (an G):=(HI.o.r6.kp J0 (by show ¬_=_;omega)).cell rfl;have c2:(V.putObj D (.deferred G)).cell? ⟨w.heap.size+2+1,0,G⟩=H (O I 41):=(HI.o.r7.kp J0 (by show ¬_=_;omega)).cell rfl;refine⟨_,X8 rfl _ _ (w.heap.size+2) (w.heap.size+2+1) (an G) (O I 41) rfl rfl ?_ ?_,_,M0,rfl,?_⟩
  ·clear c2 hd;go_simp
  ·clear c1 hd;go_simp
  ·exact⟨HM0.o,HOn0.o,HOk0.o,X6 HI.o.kp (by omega),fun _=>rfl,fun M1 e=>by rw[HI.o.full] at e;cases e⟩
end
end Go.Proofs.YtecjfnkakodebaaGreatDoor
