/-The document's Shift of a reference (quadrilleref10). -/
import Derived.Test.YtecjfnkakodebaaGreatDoorRmMzk
open Go.Proofs.Tryz
open Go.Value renaming int->O,bool->E,agg->T,tuple->au
open Go.IntKind renaming i64->I
open Bool renaming false->R,true->J
open Go.Ending renaming returned->Q
set_option maxRecDepth 40000
set_option maxHeartbeats 16000000
namespace Go.Proofs.YtecjfnkakodebaaGreatDoor
section
open Go.RowKit
attribute [local go_sem] Oper.semAt_some
theorem jDi (c r x y A B:Int)(p q P am:Bool)(w:World)(hv:vC c r=J)(hP:shN c x 256 p=(A,P))(hQ:shN r y 4096 q=(B,am)):
 Calls prog 162 #[T #[O I c,O I r,E p,E q],O I x,O I y] w fun e w'=>e=Q (if (P&&am)=J then au #[T #[O I A,O I B,E p,E q],E J] else au #[T #[O I 0,O I 0,E R,E R],E R])/\Kp w w' Nul:=by
 have H1:Hid (∀w,Calls prog 49 #[T #[O I c,O I r]] w fun e w'=>e=Q (E J)/\Kp w w' Nul):=fun w=>(j2J c r w).mono fun e w' h=>⟨by rw[h.1,hv],by rw[h.2];exact(Kp.refl _ _).alloc _⟩
 have hb:=(G6 _ _).1 hv;have H2:Hid (∀w,Calls prog 177 #[O I c,O I x,O I 256,E p] w fun e w'=>e=Q (au #[O I A,E P])/\w'=w):=fun w=>by
  have h:=j6p c x 256 p (by omega) (by omega) (by omega) (by omega) w;rw[hP] at h;exact h
 have H3:Hid (∀w,Calls prog 177 #[O I r,O I y,O I 4096,E q] w fun e w'=>e=Q (au #[O I B,E am])/\w'=w):=fun w=>by
  have h:=j6p r y 4096 q (by omega) (by omega) (by omega) (by omega) w;rw[hQ] at h;exact h
 clear hv hb hP hQ;obtain⟨W0,hW0⟩:=e_ ((w.alloc (.cells #[O I c,O I r,E p,E q] 45)).alloc (.cells #[O I 0,O I 0,E R,E R] 45));have HW0:=h_ hW0;have K0:Hid (Kp w W0 Nul):=by show Kp _ _ _;rw[<- hW0];exact Kp.new2 _ _ _ _
 have HN0:Hid (∀X,Kp W0 X Nul->Blk X w.heap.size [O I c,O I r,E p,E q] 45):=fun aj hq=>by
  have:Blk W0 w.heap.size [O I c,O I r,E p,E q] 45:=by rw[<- hW0];exact(Blk.new w [O I c,O I r,E p,E q] 45).kp ((Kp.refl _ Nul).alloc _) (fun x=>x)
  exact this.kp hq (fun x=>x)
 have HZ0:Hid (∀X,Kp W0 X Nul->Blk X (w.heap.size+1) [O I 0,O I 0,E R,E R] 45):=fun aj hq=>by
  have:Blk W0 (w.heap.size+1) [O I 0,O I 0,E R,E R] 45:=by
   rw[<- hW0];have:=Blk.new (w.alloc (.cells #[O I c,O I r,E p,E q] 45)) [O I 0,O I 0,E R,E R] 45;rw[World.size_alloc] at this;exact this
  exact this.kp hq (fun x=>x)
 clear hW0;have m0:=HN0.o W0 (Kp.refl _ _);have l0:=m0.cell (i:=0) rfl;have l1:=m0.cell (i:=1) rfl;clear m0;go_enter func162,ntmps162;go_wp2_with (first|(rw[HW0.o])|fail);clear l0 l1;refine(H1.o _).mono ?_;rintro e w1 ⟨rfl,hk⟩;have K1:=h_ hk;clear hk;have m0:=HN0.o w1 K1.o;have l0:=m0.cell (i:=0) rfl;have l1:=m0.cell (i:=1) rfl;have l2:=m0.cell (i:=2) rfl;have l3:=m0.cell (i:=3) rfl;clear m0;go_upto_region 5 with (first|(go_at_call 177;refine(H2.o _).mono ?_;rintro e wz ⟨rfl,hwz⟩;rw[hwz];clear hwz wz)|fail);go_upto_region 6 with (first|(go_at_call 177;refine(H3.o _).mono ?_;rintro e wz ⟨rfl,hwz⟩;rw[hwz];clear hwz wz)|fail);clear l0 l1 l2 l3 H1 H2 H3;have B1:=h_ (HN0.o w1 K1.o);have B2:=h_ (HZ0.o w1 K1.o);cases hO:(P&&am) with
 | false=>
  have hb2:=B2.o;have z0:=hb2.cell (i:=0) rfl;have z1:=hb2.cell (i:=1) rfl;have z2:=hb2.cell (i:=2) rfl;have z3:=hb2.cell (i:=3) rfl;have hf:=B2.o;clear hb2;cases P <;> cases am <;> first
   | (exact absurd hO (by decide))
   | (
    clear hO;go_wp2_with (first
     | (refine D5 rfl _ _ _ rfl _ _ _ _ B2.o rfl rfl rfl j7 (by simp[Value.oneCell']) ?_;intro W5 hb5 hk5)
     | fail)
    refine bodyPost_ret (R9 rfl _ _ (w.heap.size+1) 45 _ (0,0) _ rfl hb5 underlying45 rfl j7) rfl ?_;exact⟨rfl,(K0.o.trans K1.o).trans' hk5 (fun i hi e=>by have e':i=w.heap.size+1:=e;omega)⟩)
 | true=>
  obtain⟨rfl,rfl⟩:P=J/\am=J:=by simpa using hO
  clear hO;go_wp2_with (first
   | (refine L8 rfl 32 (.tmp 49) (.tmp 48) rfl w.heap.size 0 [] [O I c,O I r] [E p,E q] [O I A,O I B] _ B1.o rfl rfl rfl rfl F5 (by simp[Value.oneCell']) ?_;intro W5 hb5 hk5;have HG1:=h_ hb5;have HG2:=h_ (B2.o.kp hk5 (fun e=>by have e':w.heap.size+1=w.heap.size:=e;omega));have HK5:Hid (Kp w W5 Nul):=(K0.o.trans K1.o).trans' hk5 (fun i hi e=>by have e':i=w.heap.size:=e;omega);clear hb5 hk5)
   | (refine wpList_load_mid rfl _ (.tmp 3) rfl _ 0 rfl _ _ (j5 HG1.o) underlying45 rfl j7 ?_)
   | (refine D5 rfl _ (.tmp 6) (.tmp 50) rfl _ _ [O I A,O I B,E p,E q] _ HG2.o rfl rfl rfl j7 (I1 _ _ _ _) ?_;intro W6 hb6 hk6)
   | fail)
  refine bodyPost_ret (R9 rfl _ _ (w.heap.size+1) 45 _ (0,0) _ rfl hb6 underlying45 rfl j7) rfl ?_;exact⟨rfl,HK5.o.trans' hk6 (fun i hi e=>by have e':i=w.heap.size+1:=e;omega)⟩
theorem j3q (c r x y:Int)(p q:Bool)(w:World)(hv:vC c r=J):
 Calls prog 162 #[T #[O I c,O I r,E p,E q],O I x,O I y] w fun e w'=>e=Q (if shOk c r p q x y=J then au #[T #[O I (shN c x 256 p).1,O I (shN r y 4096 q).1,E p,E q],E J] else au #[T #[O I 0,O I 0,E R,E R],E R])/\Kp w w' Nul:=by
 have h:=jDi c r x y (shN c x 256 p).1 (shN r y 4096 q).1 p q (shN c x 256 p).2 (shN r y 4096 q).2 w hv rfl rfl;have e:shOk c r p q x y=((shN c x 256 p).2&&(shN r y 4096 q).2):=by unfold shOk;rw[hv,Bool.true_and]
 rw[e];exact h
end
section
open Go.RowKit
attribute [local go_sem] Oper.semAt_some
structure RsS (w X:World) (n4 n5:Nat) (ca cb x y:List Value):Prop where
 ba:Blk X w.heap.size ca 45
 bb:Blk X (w.heap.size+1) cb 45
 z2:Blk X (w.heap.size+1+1) [O I 0,O I 0,E R,E R] 45
 z3:Blk X (w.heap.size+1+1+1) [O I 0,O I 0,E R,E R] 45
 bx:Blk X n4 x 45
 by':Blk X n5 y 45
 kp:Kp w X Nul
 h4:w.heap.size+4<=n4
 h5:n4<n5
theorem RsS.setX {w X W:World}{n4 n5:Nat}{ca cb x y x':List Value}(h:RsS w X n4 n5 ca cb x y)(hb:Blk W n4 x' 45)(hk:Kp X W (fun i=>i=n4)):RsS w W n4 n5 ca cb x' y:=by
 have h4:=h.h4;have h5:=h.h5;exact⟨h.ba.kp hk (by show ¬_=_;omega),h.bb.kp hk (by show ¬_=_;omega),h.z2.kp hk (by show ¬_=_;omega),h.z3.kp hk (by show ¬_=_;omega),hb,h.by'.kp hk (by show ¬_=_;omega),h.kp.trans' hk (fun i hi e=>by have e':i=n4:=e;omega),h4,h5⟩
theorem RsS.setY {w X W:World}{n4 n5:Nat}{ca cb x y y':List Value}(h:RsS w X n4 n5 ca cb x y)(hb:Blk W n5 y' 45)(hk:Kp X W (fun i=>i=n5)):RsS w W n4 n5 ca cb x y':=by
 have h4:=h.h4;have h5:=h.h5;exact⟨h.ba.kp hk (by show ¬_=_;omega),h.bb.kp hk (by show ¬_=_;omega),h.z2.kp hk (by show ¬_=_;omega),h.z3.kp hk (by show ¬_=_;omega),h.bx.kp hk (by show ¬_=_;omega),hb,h.kp.trans' hk (fun i hi e=>by have e':i=n5:=e;omega),h4,h5⟩
theorem jDh (a b c d:Int)(p q u v:Bool)(w:World):
 Calls prog 163 #[T #[O I a,O I b,E p,E q],T #[O I c,O I d,E u,E v]] w fun e w'=>e=Q (au #[T #[O I (if c<a then c else a),O I (if d<b then d else b),E (if c<a then u else p),E (if d<b then v else q)],T #[O I (if c<a then a else c),O I (if d<b then b else d),E (if c<a then p else u),E (if d<b then q else v)]])/\Kp w w' Nul:=by
 obtain⟨W0,hW0⟩:=e_ ((((w.alloc (.cells #[O I a,O I b,E p,E q] 45)).alloc (.cells #[O I c,O I d,E u,E v] 45)).alloc (.cells #[O I 0,O I 0,E R,E R] 45)).alloc (.cells #[O I 0,O I 0,E R,E R] 45));have HW0:=h_ hW0;obtain⟨W1,hW1⟩:=e_ (W0.alloc (.cells #[O I a,O I b,E p,E q] 45));have HW1:=h_ hW1;obtain⟨W2,hW2⟩:=e_ (W1.alloc (.cells #[O I c,O I d,E u,E v] 45));have HW2:=h_ hW2;have HA0:Hid (Blk W0 w.heap.size [O I a,O I b,E p,E q] 45):=by show Blk _ _ _ _;rw[<- hW0];exact(((Blk.new w [O I a,O I b,E p,E q] 45).alloc _).alloc _).alloc _
 have HB0:Hid (Blk W0 (w.heap.size+1) [O I c,O I d,E u,E v] 45):=by show Blk _ _ _ _;rw[<- hW0];exact((blkS (by simp) [O I c,O I d,E u,E v] _).alloc _).alloc _
 have z2:Blk W0 (w.heap.size+1+1) [O I 0,O I 0,E R,E R] 45:=by rw[<- hW0];exact(blkS (by simp) [O I 0,O I 0,E R,E R] _).alloc _
 have z3:Blk W0 (w.heap.size+1+1+1) [O I 0,O I 0,E R,E R] 45:=by rw[<- hW0];exact blkS (by simp) [O I 0,O I 0,E R,E R] _
 have k0:Kp w W0 Nul:=by rw[<- hW0];exact((((Kp.refl w Nul).alloc _).alloc _).alloc _).alloc _
 have s0:W0.heap.size=w.heap.size+4:=by rw[<- hW0];simp
 have s1:W1.heap.size=W0.heap.size+1:=by rw[<- hW1];simp
 have k1:Kp W0 W1 Nul:=by rw[<- hW1];exact(Kp.refl _ _).alloc _
 have k2:Kp W1 W2 Nul:=by rw[<- hW2];exact(Kp.refl _ _).alloc _
 have bx:Blk W1 W0.heap.size [O I a,O I b,E p,E q] 45:=by rw[<- hW1];exact Blk.new W0 _ _
 have by':Blk W2 W1.heap.size [O I c,O I d,E u,E v] 45:=by rw[<- hW2];exact Blk.new W1 _ _
 have HB1:=h_ (HB0.o.kp k1 (fun x=>x));have ST:Hid (RsS w W2 W0.heap.size W1.heap.size [O I a,O I b,E p,E q] [O I c,O I d,E u,E v] [O I a,O I b,E p,E q] [O I c,O I d,E u,E v]):=⟨HA0.o.kp (k1.trans k2) (fun x=>x),HB0.o.kp (k1.trans k2) (fun x=>x),z2.kp (k1.trans k2) (fun x=>x),z3.kp (k1.trans k2) (fun x=>x),bx.kp k2 (fun x=>x),by',(k0.trans k1).trans k2,by omega,by omega⟩;clear hW0 hW1 hW2 HB0 z2 z3 k0 s0 s1 k1 k2 bx by'
 go_enter func163,ntmps163;go_upto_region 3 with (first
  | (rw[HW0.o])
  | (rw[HW1.o])
  | (rw[HW2.o])
  | (refine wpList_load_mid rfl _ _ rfl _ _ rfl _ _ (j5 HA0.o) underlying45 rfl j7 ?_)
  | (refine wpList_load_mid rfl _ _ rfl _ _ rfl _ _ (j5 HB1.o) underlying45 rfl j7 ?_)
  | (refine F9 rfl _ _ _ rfl _ _ _ _ _ (by first|rfl|simp) rfl rfl rfl j7 (I1 _ _ _ _) ?_)
  | (refine F9 rfl _ _ _ rfl _ _ _ _ _ (by first|rfl|simp) rfl rfl rfl j7 (I1 _ _ _ _) ?_)
  | fail)
 clear HW0 HW1 HW2 HA0 HB1;obtain⟨n4,hn4⟩:=e_ W0.heap.size;obtain⟨n5,hn5⟩:=e_ W1.heap.size
 (try simp only[Act.put])
 rw[hn4,hn5] at ST ⊢;clear hn4 hn5;have hn4:=ST.o.h4;have hn5:=ST.o.h5;by_cases h1:c<a
 ·by_cases h2:d<b
  ·skip
   have l0:=ST.o.ba.c_ 0 rfl;have l1:=ST.o.bb.c_ 0 rfl;go_upto_region 4 with fail;clear l0 l1;have l0:=ST.o.bb.c_ 0 rfl;go_upto_region 5 with (first|(refine I3 rfl _ _ _ rfl _ _ rfl _ rfl rfl _ _ ST.o.bx (by kernel_rfl) (by simp) ?_;intro V0 hb hk;have S0:=h_ (ST.o.setX hb hk);clear hb hk)|fail);clear l0;have l0:=S0.o.bb.c_ 2 rfl;go_upto_region 6 with (first|(refine I3 rfl _ _ _ rfl _ _ rfl _ rfl rfl _ _ S0.o.bx (by kernel_rfl) (by simp) ?_;intro V1 hb hk;have S1:=h_ (S0.o.setX hb hk);clear hb hk)|fail);clear l0;have l0:=S1.o.ba.c_ 0 rfl;go_upto_region 7 with (first|(refine I3 rfl _ _ _ rfl _ _ rfl _ rfl rfl _ _ S1.o.by' (by kernel_rfl) (by simp) ?_;intro V2 hb hk;have S2:=h_ (S1.o.setY hb hk);clear hb hk)|fail);clear l0;have l0:=S2.o.ba.c_ 2 rfl;go_upto_region 8 with (first|(refine I3 rfl _ _ _ rfl _ _ rfl _ rfl rfl _ _ S2.o.by' (by kernel_rfl) (by simp) ?_;intro V3 hb hk;have S3:=h_ (S2.o.setY hb hk);clear hb hk)|fail)
   clear l0;have l0:=S3.o.ba.c_ 1 rfl;have l1:=S3.o.bb.c_ 1 rfl;go_upto_region 9 with fail;clear l0 l1;have l0:=S3.o.bb.c_ 1 rfl;go_upto_region 10 with (first|(refine I3 rfl _ _ _ rfl _ _ rfl _ rfl rfl _ _ S3.o.bx (by kernel_rfl) (by simp) ?_;intro V4 hb hk;have S4:=h_ (S3.o.setX hb hk);clear hb hk)|fail);clear l0;have l0:=S4.o.bb.c_ 3 rfl;go_upto_region 11 with (first|(refine I3 rfl _ _ _ rfl _ _ rfl _ rfl rfl _ _ S4.o.bx (by kernel_rfl) (by simp) ?_;intro V5 hb hk;have S5:=h_ (S4.o.setX hb hk);clear hb hk)|fail);clear l0;have l0:=S5.o.ba.c_ 1 rfl;go_upto_region 12 with (first|(refine I3 rfl _ _ _ rfl _ _ rfl _ rfl rfl _ _ S5.o.by' (by kernel_rfl) (by simp) ?_;intro V6 hb hk;have S6:=h_ (S5.o.setY hb hk);clear hb hk)|fail);clear l0;have l0:=S6.o.ba.c_ 3 rfl;go_upto_region 13 with (first|(refine I3 rfl _ _ _ rfl _ _ rfl _ rfl rfl _ _ S6.o.by' (by kernel_rfl) (by simp) ?_;intro V7 hb hk;have S7:=h_ (S6.o.setY hb hk);clear hb hk)|fail)
   clear l0;refine wp_region_noPanic ?_;refine I0 (fun w':World=>Blk w' n4 [O I c,O I d,E u,E v] 45/\Blk w' n5 [O I a,O I b,E p,E q] 45) (by kernel_rfl) ⟨S7.o.bx.kp (Kp.refl _ Nul).drew (fun x=>x),S7.o.by'.kp (Kp.refl _ Nul).drew (fun x=>x)⟩ (fun hHeld=>?_);refine tk 0 56 hHeld ?_ (v:=T #[O I c,O I d,E u,E v]) (hy:=by exact fun w' hSw=>q9 _ _ rfl _ _ rfl _ _ (j5 hSw.1) underlying45 rfl j7);refine tk 1 57 hHeld ?_ (v:=T #[O I a,O I b,E p,E q]) (hy:=by exact fun w' hSw=>q9 _ _ rfl _ _ rfl _ _ (j5 hSw.2) underlying45 rfl j7);refine ts 2 fun K hK=>?_
   refine J2 45 (.tmp 4) (.tmp 56) rfl (w.heap.size+1+1) _ [O I c,O I d,E u,E v] _ (S7.o.z2.kp (Kp.refl _ Nul).drew (fun x=>x)) rfl rfl rfl j7 (I1 _ _ _ _) ?_;intro Y hY kY;have kY':=((Kp.refl V7 (fun i=>i=w.heap.size+1+1)).drew).trans kY;have HY3:=h_ (S7.o.z3.kp kY' (by show ¬_=_;omega));refine hK.o _ _ ⟨S7.o.bx.kp kY' (by show ¬_=_;omega),S7.o.by'.kp kY' (by show ¬_=_;omega)⟩ (fun hHeld=>?_);clear hK K
   (try simp only[Act.put])
   refine ts 3 fun K hK=>?_
   refine J2 45 (.tmp 5) (.tmp 57) rfl (w.heap.size+1+1+1) _ [O I a,O I b,E p,E q] _ HY3.o rfl rfl rfl j7 (I1 _ _ _ _) ?_;intro Y2 hY2 kY2;have hYY:=hY.kp kY2 (by show ¬_=_;omega);refine hK.o _ _ ⟨(S7.o.bx.kp kY' (by show ¬_=_;omega)).kp kY2 (by show ¬_=_;omega),(S7.o.by'.kp kY' (by show ¬_=_;omega)).kp kY2 (by show ¬_=_;omega)⟩ (fun _=>?_);clear hK K hHeld
   (try simp only[Act.put])
   refine wpAnyH_done (by kernel_rfl) ?_ _;refine NoPanic.normal ?_;go_wp2_with fail;refine bodyPost_ret (j0H rfl _ _ (w.heap.size+1+1) 45 _ (0,0) _ (w.heap.size+1+1+1) 45 _ (0,0) _ rfl hYY underlying45 rfl j7 rfl hY2 underlying45 rfl j7) rfl ?_;refine⟨?_,(S7.o.kp.trans' kY' (fun i hi e=>by have e':i=w.heap.size+1+1:=e;omega)).trans' kY2 (fun i hi e=>by have e':i=w.heap.size+1+1+1:=e;omega)⟩
   rfl
  ·skip
   have l0:=ST.o.ba.c_ 0 rfl;have l1:=ST.o.bb.c_ 0 rfl;go_upto_region 4 with fail;clear l0 l1;have l0:=ST.o.bb.c_ 0 rfl;go_upto_region 5 with (first|(refine I3 rfl _ _ _ rfl _ _ rfl _ rfl rfl _ _ ST.o.bx (by kernel_rfl) (by simp) ?_;intro V0 hb hk;have S0:=h_ (ST.o.setX hb hk);clear hb hk)|fail);clear l0;have l0:=S0.o.bb.c_ 2 rfl;go_upto_region 6 with (first|(refine I3 rfl _ _ _ rfl _ _ rfl _ rfl rfl _ _ S0.o.bx (by kernel_rfl) (by simp) ?_;intro V1 hb hk;have S1:=h_ (S0.o.setX hb hk);clear hb hk)|fail);clear l0;have l0:=S1.o.ba.c_ 0 rfl;go_upto_region 7 with (first|(refine I3 rfl _ _ _ rfl _ _ rfl _ rfl rfl _ _ S1.o.by' (by kernel_rfl) (by simp) ?_;intro V2 hb hk;have S2:=h_ (S1.o.setY hb hk);clear hb hk)|fail);clear l0;have l0:=S2.o.ba.c_ 2 rfl;go_upto_region 8 with (first|(refine I3 rfl _ _ _ rfl _ _ rfl _ rfl rfl _ _ S2.o.by' (by kernel_rfl) (by simp) ?_;intro V3 hb hk;have S3:=h_ (S2.o.setY hb hk);clear hb hk)|fail)
   clear l0;have l0:=S3.o.ba.c_ 1 rfl;have l1:=S3.o.bb.c_ 1 rfl;go_upto_region 13 with fail;clear l0 l1;refine wp_region_noPanic ?_;refine I0 (fun w':World=>Blk w' n4 [O I c,O I b,E u,E q] 45/\Blk w' n5 [O I a,O I d,E p,E v] 45) (by kernel_rfl) ⟨S3.o.bx.kp (Kp.refl _ Nul).drew (fun x=>x),S3.o.by'.kp (Kp.refl _ Nul).drew (fun x=>x)⟩ (fun hHeld=>?_);refine tk 0 56 hHeld ?_ (v:=T #[O I c,O I b,E u,E q]) (hy:=by exact fun w' hSw=>q9 _ _ rfl _ _ rfl _ _ (j5 hSw.1) underlying45 rfl j7);refine tk 1 57 hHeld ?_ (v:=T #[O I a,O I d,E p,E v]) (hy:=by exact fun w' hSw=>q9 _ _ rfl _ _ rfl _ _ (j5 hSw.2) underlying45 rfl j7);refine ts 2 fun K hK=>?_
   refine J2 45 (.tmp 4) (.tmp 56) rfl (w.heap.size+1+1) _ [O I c,O I b,E u,E q] _ (S3.o.z2.kp (Kp.refl _ Nul).drew (fun x=>x)) rfl rfl rfl j7 (I1 _ _ _ _) ?_;intro Y hY kY;have kY':=((Kp.refl V3 (fun i=>i=w.heap.size+1+1)).drew).trans kY;have HY3:=h_ (S3.o.z3.kp kY' (by show ¬_=_;omega));refine hK.o _ _ ⟨S3.o.bx.kp kY' (by show ¬_=_;omega),S3.o.by'.kp kY' (by show ¬_=_;omega)⟩ (fun hHeld=>?_);clear hK K
   (try simp only[Act.put])
   refine ts 3 fun K hK=>?_
   refine J2 45 (.tmp 5) (.tmp 57) rfl (w.heap.size+1+1+1) _ [O I a,O I d,E p,E v] _ HY3.o rfl rfl rfl j7 (I1 _ _ _ _) ?_;intro Y2 hY2 kY2;have hYY:=hY.kp kY2 (by show ¬_=_;omega);refine hK.o _ _ ⟨(S3.o.bx.kp kY' (by show ¬_=_;omega)).kp kY2 (by show ¬_=_;omega),(S3.o.by'.kp kY' (by show ¬_=_;omega)).kp kY2 (by show ¬_=_;omega)⟩ (fun _=>?_);clear hK K hHeld
   (try simp only[Act.put])
   refine wpAnyH_done (by kernel_rfl) ?_ _;refine NoPanic.normal ?_;go_wp2_with fail;refine bodyPost_ret (j0H rfl _ _ (w.heap.size+1+1) 45 _ (0,0) _ (w.heap.size+1+1+1) 45 _ (0,0) _ rfl hYY underlying45 rfl j7 rfl hY2 underlying45 rfl j7) rfl ?_;refine⟨?_,(S3.o.kp.trans' kY' (fun i hi e=>by have e':i=w.heap.size+1+1:=e;omega)).trans' kY2 (fun i hi e=>by have e':i=w.heap.size+1+1+1:=e;omega)⟩
   rfl
 ·by_cases h2:d<b
  ·skip
   have l0:=ST.o.ba.c_ 0 rfl;have l1:=ST.o.bb.c_ 0 rfl;go_upto_region 8 with fail;clear l0 l1;have l0:=ST.o.ba.c_ 1 rfl;have l1:=ST.o.bb.c_ 1 rfl;go_upto_region 9 with fail;clear l0 l1;have l0:=ST.o.bb.c_ 1 rfl;go_upto_region 10 with (first|(refine I3 rfl _ _ _ rfl _ _ rfl _ rfl rfl _ _ ST.o.bx (by kernel_rfl) (by simp) ?_;intro V0 hb hk;have S0:=h_ (ST.o.setX hb hk);clear hb hk)|fail);clear l0;have l0:=S0.o.bb.c_ 3 rfl;go_upto_region 11 with (first|(refine I3 rfl _ _ _ rfl _ _ rfl _ rfl rfl _ _ S0.o.bx (by kernel_rfl) (by simp) ?_;intro V1 hb hk;have S1:=h_ (S0.o.setX hb hk);clear hb hk)|fail);clear l0;have l0:=S1.o.ba.c_ 1 rfl;go_upto_region 12 with (first|(refine I3 rfl _ _ _ rfl _ _ rfl _ rfl rfl _ _ S1.o.by' (by kernel_rfl) (by simp) ?_;intro V2 hb hk;have S2:=h_ (S1.o.setY hb hk);clear hb hk)|fail);clear l0;have l0:=S2.o.ba.c_ 3 rfl;go_upto_region 13 with (first|(refine I3 rfl _ _ _ rfl _ _ rfl _ rfl rfl _ _ S2.o.by' (by kernel_rfl) (by simp) ?_;intro V3 hb hk;have S3:=h_ (S2.o.setY hb hk);clear hb hk)|fail)
   clear l0;refine wp_region_noPanic ?_;refine I0 (fun w':World=>Blk w' n4 [O I a,O I d,E p,E v] 45/\Blk w' n5 [O I c,O I b,E u,E q] 45) (by kernel_rfl) ⟨S3.o.bx.kp (Kp.refl _ Nul).drew (fun x=>x),S3.o.by'.kp (Kp.refl _ Nul).drew (fun x=>x)⟩ (fun hHeld=>?_);refine tk 0 56 hHeld ?_ (v:=T #[O I a,O I d,E p,E v]) (hy:=by exact fun w' hSw=>q9 _ _ rfl _ _ rfl _ _ (j5 hSw.1) underlying45 rfl j7);refine tk 1 57 hHeld ?_ (v:=T #[O I c,O I b,E u,E q]) (hy:=by exact fun w' hSw=>q9 _ _ rfl _ _ rfl _ _ (j5 hSw.2) underlying45 rfl j7);refine ts 2 fun K hK=>?_
   refine J2 45 (.tmp 4) (.tmp 56) rfl (w.heap.size+1+1) _ [O I a,O I d,E p,E v] _ (S3.o.z2.kp (Kp.refl _ Nul).drew (fun x=>x)) rfl rfl rfl j7 (I1 _ _ _ _) ?_;intro Y hY kY;have kY':=((Kp.refl V3 (fun i=>i=w.heap.size+1+1)).drew).trans kY;have HY3:=h_ (S3.o.z3.kp kY' (by show ¬_=_;omega));refine hK.o _ _ ⟨S3.o.bx.kp kY' (by show ¬_=_;omega),S3.o.by'.kp kY' (by show ¬_=_;omega)⟩ (fun hHeld=>?_);clear hK K
   (try simp only[Act.put])
   refine ts 3 fun K hK=>?_
   refine J2 45 (.tmp 5) (.tmp 57) rfl (w.heap.size+1+1+1) _ [O I c,O I b,E u,E q] _ HY3.o rfl rfl rfl j7 (I1 _ _ _ _) ?_;intro Y2 hY2 kY2;have hYY:=hY.kp kY2 (by show ¬_=_;omega);refine hK.o _ _ ⟨(S3.o.bx.kp kY' (by show ¬_=_;omega)).kp kY2 (by show ¬_=_;omega),(S3.o.by'.kp kY' (by show ¬_=_;omega)).kp kY2 (by show ¬_=_;omega)⟩ (fun _=>?_);clear hK K hHeld
   (try simp only[Act.put])
   refine wpAnyH_done (by kernel_rfl) ?_ _;refine NoPanic.normal ?_;go_wp2_with fail;refine bodyPost_ret (j0H rfl _ _ (w.heap.size+1+1) 45 _ (0,0) _ (w.heap.size+1+1+1) 45 _ (0,0) _ rfl hYY underlying45 rfl j7 rfl hY2 underlying45 rfl j7) rfl ?_;refine⟨?_,(S3.o.kp.trans' kY' (fun i hi e=>by have e':i=w.heap.size+1+1:=e;omega)).trans' kY2 (fun i hi e=>by have e':i=w.heap.size+1+1+1:=e;omega)⟩
   rfl
  ·skip
   have l0:=ST.o.ba.c_ 0 rfl;have l1:=ST.o.bb.c_ 0 rfl;go_upto_region 8 with fail;clear l0 l1;have l0:=ST.o.ba.c_ 1 rfl;have l1:=ST.o.bb.c_ 1 rfl;go_upto_region 13 with fail;clear l0 l1;refine wp_region_noPanic ?_;refine I0 (fun w':World=>Blk w' n4 [O I a,O I b,E p,E q] 45/\Blk w' n5 [O I c,O I d,E u,E v] 45) (by kernel_rfl) ⟨ST.o.bx.kp (Kp.refl _ Nul).drew (fun x=>x),ST.o.by'.kp (Kp.refl _ Nul).drew (fun x=>x)⟩ (fun hHeld=>?_);refine tk 0 56 hHeld ?_ (v:=T #[O I a,O I b,E p,E q]) (hy:=by exact fun w' hSw=>q9 _ _ rfl _ _ rfl _ _ (j5 hSw.1) underlying45 rfl j7);refine tk 1 57 hHeld ?_ (v:=T #[O I c,O I d,E u,E v]) (hy:=by exact fun w' hSw=>q9 _ _ rfl _ _ rfl _ _ (j5 hSw.2) underlying45 rfl j7);refine ts 2 fun K hK=>?_
   refine J2 45 (.tmp 4) (.tmp 56) rfl (w.heap.size+1+1) _ [O I a,O I b,E p,E q] _ (ST.o.z2.kp (Kp.refl _ Nul).drew (fun x=>x)) rfl rfl rfl j7 (I1 _ _ _ _) ?_;intro Y hY kY;have kY':=((Kp.refl W2 (fun i=>i=w.heap.size+1+1)).drew).trans kY;have HY3:=h_ (ST.o.z3.kp kY' (by show ¬_=_;omega));refine hK.o _ _ ⟨ST.o.bx.kp kY' (by show ¬_=_;omega),ST.o.by'.kp kY' (by show ¬_=_;omega)⟩ (fun hHeld=>?_);clear hK K
   (try simp only[Act.put])
   refine ts 3 fun K hK=>?_
   refine J2 45 (.tmp 5) (.tmp 57) rfl (w.heap.size+1+1+1) _ [O I c,O I d,E u,E v] _ HY3.o rfl rfl rfl j7 (I1 _ _ _ _) ?_;intro Y2 hY2 kY2;have hYY:=hY.kp kY2 (by show ¬_=_;omega);refine hK.o _ _ ⟨(ST.o.bx.kp kY' (by show ¬_=_;omega)).kp kY2 (by show ¬_=_;omega),(ST.o.by'.kp kY' (by show ¬_=_;omega)).kp kY2 (by show ¬_=_;omega)⟩ (fun _=>?_);clear hK K hHeld
   (try simp only[Act.put])
   refine wpAnyH_done (by kernel_rfl) ?_ _;refine NoPanic.normal ?_;go_wp2_with fail;refine bodyPost_ret (j0H rfl _ _ (w.heap.size+1+1) 45 _ (0,0) _ (w.heap.size+1+1+1) 45 _ (0,0) _ rfl hYY underlying45 rfl j7 rfl hY2 underlying45 rfl j7) rfl ?_;refine⟨?_,(ST.o.kp.trans' kY' (fun i hi e=>by have e':i=w.heap.size+1+1:=e;omega)).trans' kY2 (fun i hi e=>by have e':i=w.heap.size+1+1+1:=e;omega)⟩
   rfl
end
end Go.Proofs.YtecjfnkakodebaaGreatDoor
