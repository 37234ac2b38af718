/-Copy: what becomes of a node that names cells, so much farther on. -/
import Derived.Test.YtecjfnkakodebaaGreatDoorRmMyb
open Go.Proofs.Tryz
open Go.Value renaming int->O,bool->E,slice->U,agg->T,pointer->an,float->ap,string->aq,tuple->au
open Go.IntKind renaming i64->I
open Bool renaming false->R,true->J
open Option renaming some->H,none->G
open Go.Ending renaming returned->Q
open Go.FloatKind renaming f64->ao
set_option maxRecDepth 20000
set_option maxHeartbeats 16000000
namespace Go.Proofs.YtecjfnkakodebaaGreatDoor
open Go.RowKit
theorem j7:(prog.info? 45).map (·.size)=H 4:=by kernel_rfl
theorem I1 (a b:Int)(p q:Bool):(([O I a,O I b,E p,E q]:List Value).toArray.all (·.oneCell'))=J:=by simp[Value.oneCell']
theorem blkS {X:World}{n:Nat}(hn:X.heap.size=n)(cs:List Value)(t:TypeId):Blk (X.alloc (.cells cs.toArray t)) n cs t:=hn ▸ Blk.new X cs t
theorem Kp.new2 (w:World)(S:Nat->Prop)(a b:Obj):Kp w ((w.alloc a).alloc b) S:=((Kp.refl w S).alloc _).alloc _
theorem j62 (w:World):Calls prog 173 #[] w fun e w'=>e=Q (ndF.hd.val (U G 0 0))/\Kp w w' Nul:=by
 have HB:Hid (Blk (w.alloc (.cells #[O I 0,O I 0,ap ao 0,aq ⟨#[]⟩,E R,O I 0,O I 0,O I 0,E R,E R,O I 0,O I 0,E R,E R,U G 0 0] 48)) w.heap.size [O I 0,O I 0,ap ao 0,aq ⟨#[]⟩,E R,O I 0,O I 0,O I 0,E R,E R,O I 0,O I 0,E R,E R,U G 0 0] 48):=Blk.new _ _ _;go_enter func173,ntmps173;go_wp2_with (first
  | (refine D5 rfl _ (.tmp 0) (.tmp 1) rfl _ _ [O I 4,O I 0,ap ao 0,aq ⟨#[]⟩,E R,O I 4,O I 0,O I 0,E R,E R,O I 0,O I 0,E R,E R,U G 0 0] _ HB.o rfl rfl rfl j3 (Hd.one ⟨4,0,0,⟨#[]⟩,R,4,0,0,R,R,0,0,R,R⟩ rfl) ?_;intro W5 hb5 hk5)
  | fail)
 refine bodyPost_ret (results_cell_row rfl _ _ w.heap.size 48 _ (0,0) _ rfl hb5 underlying48 rfl j3) rfl ?_;exact⟨rfl,((Kp.refl w Nul).alloc _).trans' hk5 (fun i hi e=>by have e':i=w.heap.size:=e;omega)⟩
theorem jE0 (k o':Int)(x:Nat)(s:ByteArray)(bb:Bool)(ff c1 r1:Int)(p1 q1:Bool)(c2 r2:Int)(p2 q2:Bool)(sl:Value)(X Y A B:Int)(P am aa:Bool)(w:World)(hs:sl.oneCell'=J)
 (HSh:Hid (∀wq,Calls prog 172 #[T #[O I c1,O I r1,E p1,E q1],O I X,O I Y] wq fun e w'=>e=Q (au #[T #[O I A,O I B,E P,E am],E aa])/\Kp wq w' Nul)) :
 Calls prog 155 #[T #[O I k,O I o',ap ao x,aq s,E bb,O I ff,O I c1,O I r1,E p1,E q1,O I c2,O I r2,E p2,E q2,sl],O I X,O I Y] w fun e w'=>e=Q (if aa=J then T #[O I k,O I o',ap ao x,aq s,E bb,O I ff,O I A,O I B,E P,E am,O I c2,O I r2,E p2,E q2,sl] else ndF.hd.val (U G 0 0))/\Kp w w' Nul:=by
 have O1:=h_ hs;have HNo:=h_ j62;clear hs;obtain⟨W0,hW0⟩:=e_ ((w.alloc (.cells #[O I k,O I o',ap ao x,aq s,E bb,O I ff,O I c1,O I r1,E p1,E q1,O I c2,O I r2,E p2,E q2,sl] 48)).alloc (.cells #[O I 0,O I 0,ap ao 0,aq ⟨#[]⟩,E R,O I 0,O I 0,O I 0,E R,E R,O I 0,O I 0,E R,E R,U G 0 0] 48));have HW0:=h_ hW0;have K0:Hid (Kp w W0 Nul):=by show Kp _ _ _;rw[<- hW0];exact Kp.new2 _ _ _ _
 have S0:Hid (W0.heap.size=w.heap.size+2):=by show _=_;rw[<- hW0];simp
 have HN0:Hid (∀X,Kp W0 X Nul->Blk X w.heap.size [O I k,O I o',ap ao x,aq s,E bb,O I ff,O I c1,O I r1,E p1,E q1,O I c2,O I r2,E p2,E q2,sl] 48):=fun aj hq=>by
  have:Blk W0 w.heap.size [O I k,O I o',ap ao x,aq s,E bb,O I ff,O I c1,O I r1,E p1,E q1,O I c2,O I r2,E p2,E q2,sl] 48:=by rw[<- hW0];exact(Blk.new w [O I k,O I o',ap ao x,aq s,E bb,O I ff,O I c1,O I r1,E p1,E q1,O I c2,O I r2,E p2,E q2,sl] 48).alloc _
  exact this.kp hq (fun x=>x)
 have HZ0:Hid (∀X,Kp W0 X Nul->Blk X (w.heap.size+1) [O I 0,O I 0,ap ao 0,aq ⟨#[]⟩,E R,O I 0,O I 0,O I 0,E R,E R,O I 0,O I 0,E R,E R,U G 0 0] 48):=fun aj hq=>by
  have:Blk W0 (w.heap.size+1) [O I 0,O I 0,ap ao 0,aq ⟨#[]⟩,E R,O I 0,O I 0,O I 0,E R,E R,O I 0,O I 0,E R,E R,U G 0 0] 48:=by
   rw[<- hW0];have:=Blk.new (w.alloc (.cells #[O I k,O I o',ap ao x,aq s,E bb,O I ff,O I c1,O I r1,E p1,E q1,O I c2,O I r2,E p2,E q2,sl] 48)) [O I 0,O I 0,ap ao 0,aq ⟨#[]⟩,E R,O I 0,O I 0,O I 0,E R,E R,O I 0,O I 0,E R,E R,U G 0 0] 48;rw[World.size_alloc] at this;exact this
  exact this.kp hq (fun x=>x)
 have HR0:Hid (W0.rangeAt w.heap.size 6 [O I c1,O I r1,E p1,E q1]):=J4 (pre:=[O I k,O I o',ap ao x,aq s,E bb,O I ff]) (post:=[O I c2,O I r2,E p2,E q2,sl]) (HN0.o W0 (Kp.refl _ _));clear hW0;go_enter func155,ntmps155;go_wp2_with (first
  | (refine wpList_load_mid rfl 45 (.tmp 10) rfl w.heap.size 6 rfl [O I c1,O I r1,E p1,E q1] _ HR0.o underlying45 rfl j7 ?_)
  | fail)
 rw[HW0.o];refine(HSh.o _).mono ?_;rintro e w1 ⟨rfl,hk1⟩;obtain⟨W2,hW2⟩:=e_ (w1.alloc (.cells #[O I A,O I B,E P,E am] 45));have HW2:=h_ hW2;have K2:Hid (Kp W0 W2 Nul):=by show Kp _ _ _;rw[<- hW2];exact hk1.alloc _
 have S1:Hid (w.heap.size+2<=w1.heap.size):=by have:=hk1.size;rw[S0.o] at this;exact this
 have HB2:Hid (Blk W2 w1.heap.size [O I A,O I B,E P,E am] 45):=by show Blk _ _ _ _;rw[<- hW2];exact Blk.new w1 _ _
 clear hk1 hW2 HW0 HR0 HSh;cases aa with
 | false=>
  go_wp2_with fail;rw[HW2.o];go_wp2_with fail;refine(HNo.o _).mono ?_;rintro e w5 ⟨rfl,hk5⟩;have K5:=h_ (K2.o.trans hk5);have HZ5:=h_ (HZ0.o w5 K5.o);clear hk5;go_wp2_with (first
   | (refine D5 rfl 48 (.tmp 6) (.tmp 19) rfl (w.heap.size+1) _ [O I 4,O I 0,ap ao 0,aq ⟨#[]⟩,E R,O I 4,O I 0,O I 0,E R,E R,O I 0,O I 0,E R,E R,U G 0 0] _ HZ5.o rfl rfl rfl j3 (Hd.one ⟨4,0,0,⟨#[]⟩,R,4,0,0,R,R,0,0,R,R⟩ rfl) ?_;intro W6 hb6 hk6)
   | fail)
  refine bodyPost_ret (results_cell_row rfl _ _ (w.heap.size+1) 48 _ (0,0) _ rfl hb6 underlying48 rfl j3) rfl ?_;exact⟨rfl,(K0.o.trans K5.o).trans' hk6 (fun i hi e=>by have e':i=w.heap.size+1:=e;omega)⟩
 | true=>
  have HN2:=h_ (HN0.o W2 K2.o);have HZ2:=h_ (HZ0.o W2 K2.o);have l0:=HB2.o.c_ 0 rfl;have l1:=HB2.o.c_ 1 rfl;have l2:=HB2.o.c_ 2 rfl;have l3:=HB2.o.c_ 3 rfl;go_wp2_with (first
   | (rw[HW2.o])
   | (refine L8 rfl 45 (.tmp 21) (.tmp 20) rfl w.heap.size 6 [O I k,O I o',ap ao x,aq s,E bb,O I ff] [O I c1,O I r1,E p1,E q1] [O I c2,O I r2,E p2,E q2,sl] [O I A,O I B,E P,E am] _ HN2.o rfl rfl rfl rfl j7 (I1 _ _ _ _) ?_;intro W5 hb5 hk5;have HG1:Hid (Blk W5 w.heap.size [O I k,O I o',ap ao x,aq s,E bb,O I ff,O I A,O I B,E P,E am,O I c2,O I r2,E p2,E q2,sl] 48):=hb5;have HG2:Hid (Blk W5 (w.heap.size+1) [O I 0,O I 0,ap ao 0,aq ⟨#[]⟩,E R,O I 0,O I 0,O I 0,E R,E R,O I 0,O I 0,E R,E R,U G 0 0] 48):=HZ2.o.kp hk5 (by show ¬(w.heap.size+1)=w.heap.size;omega);have KG:Hid (Kp w W5 Nul):=(K0.o.trans K2.o).trans' hk5 (fun i hi e=>by have e':i=w.heap.size:=e;omega);clear hb5 hk5)
   | (refine wpList_load_mid rfl _ (.tmp 3) rfl _ 0 rfl _ _ (j5 HG1.o) underlying48 rfl j3 ?_)
   | (refine D5 rfl _ (.tmp 6) (.tmp 22) rfl _ _ [O I k,O I o',ap ao x,aq s,E bb,O I ff,O I A,O I B,E P,E am,O I c2,O I r2,E p2,E q2,sl] _ HG2.o rfl rfl rfl j3 (Hd.one ⟨k,o',x,s,bb,ff,A,B,P,am,c2,r2,p2,q2⟩ O1.o) ?_;intro W9 hb9 hk9)
   | fail)
  refine bodyPost_ret (results_cell_row rfl _ _ (w.heap.size+1) 48 _ (0,0) _ rfl hb9 underlying48 rfl j3) rfl ?_;exact⟨rfl,KG.o.trans' hk9 (fun i hi e=>by have e':i=w.heap.size+1:=e;omega)⟩
theorem I3 {P:Program}{ops:Array Oper}{rest:List Oper}{op:Oper}{a:Act}{w:World}{am:Exit->Act->World->Prop}(hgd:op.guard=G)(ty:TypeId)(x y:Operand)(ho:op.op=.store ty x y)
 (b i:Nat) (hx:a.eval x=an (H ⟨b,i,G⟩)) (v:Value) (hy:a.eval y=v) (h1:v.oneCell'=J) (t:TypeId) (cs:List Value) (hb:Blk w b cs t) (hi:(P.info? ty).map (·.size)=H 1) (hl:i<cs.length)
 (h:∀W,Blk W b (cs.set i v) t->Kp w W (fun i=>i=b)->wpList P ops am rest (a.put op.dst undef) W):wpList P ops am (op::rest) a w:=by
 have hb':=hb;have hc:v.cells=#[v]:=by cases v <;> first|rfl|cases h1
 have hth:w.there b i 1:=J5 hb' _ _ (by simp;omega);have hrun:(storeVar ty ⟨b,i,G⟩ v).run P w=.ok () (w.setCells b i [v]):=by
  have:=run_storeCells_cells (P:=P) b i [v] 0 w (fun j hj=>by simpa using (hth j (by simpa using hj)).1) (fun j hj=>by simpa using (hth j (by simpa using hj)).2) (fun x hx=>by simp at hx;subst hx;exact h1);cases hq:P.info? ty with
  | none=>simp[hq] at hi
  | some q=>
   have hs:q.size=1:=(by simpa [hq] using hi);simp only[Nat.add_zero] at this;simp[storeVar,sizeOf,typeInfo,hq,hc,hs,this]
 refine wpList_plain hgd fun _ hK=>?_
 unfold Oper.wp execOp;simp only[ho,hx,hy,Instr.storeAt,Instr.sureAddr,Sem.run_bind,Sem.run_pure,Result.andThen_ok,hrun];refine hK _ _ (h _ ?_ (O6 (fun i=>i=b) rfl _ _ _));show Blk (w.setCell ⟨b,i,G⟩ v) b (cs.set i v) t;exact hb.set i v
theorem jDs (a b c d:Int)(p q u v:Bool)(w:World):
 Calls prog 174 #[T #[O I a,O I b,E p,E q],T #[O I c,O I d,E u,E v]] w fun e w'=>e=Q (au #[T #[O I (if c<a then c else a),O I (if d<b then d else b),E (if c<a then u else p),E (if d<b then v else q)],T #[O I (if c<a then a else c),O I (if d<b then b else d),E (if c<a then p else u),E (if d<b then q else v)]])/\Kp w w' Nul:=by
 obtain⟨W0,hW0⟩:=e_ ((((w.alloc (.cells #[O I a,O I b,E p,E q] 45)).alloc (.cells #[O I c,O I d,E u,E v] 45)).alloc (.cells #[O I 0,O I 0,E R,E R] 45)).alloc (.cells #[O I 0,O I 0,E R,E R] 45));have HW0:=h_ hW0;have K0:Hid (Kp w W0 Nul):=by show Kp _ _ _;rw[<- hW0];exact((((Kp.refl w Nul).alloc _).alloc _).alloc _).alloc _
 have HA0:Hid (Blk W0 w.heap.size [O I a,O I b,E p,E q] 45):=by show Blk _ _ _ _;rw[<- hW0];exact(((Blk.new w [O I a,O I b,E p,E q] 45).alloc _).alloc _).alloc _
 have HB0:Hid (Blk W0 (w.heap.size+1) [O I c,O I d,E u,E v] 45):=by show Blk _ _ _ _;rw[<- hW0];exact((blkS (by simp) [O I c,O I d,E u,E v] _).alloc _).alloc _
 have HZ4:Hid (∀X,Kp W0 X (fun i=>i=w.heap.size∨i=w.heap.size+1)->Blk X (w.heap.size+1+1) [O I 0,O I 0,E R,E R] 45):=fun X k=>by
  have:Blk W0 (w.heap.size+1+1) [O I 0,O I 0,E R,E R] 45:=by rw[<- hW0];exact(blkS (by simp) [O I 0,O I 0,E R,E R] _).alloc _
  exact this.kp k (fun e=>by have e':w.heap.size+1+1=w.heap.size∨w.heap.size+1+1=w.heap.size+1:=e;omega)
 have HZ5:Hid (∀X,Kp W0 X (fun i=>i=w.heap.size∨i=w.heap.size+1)->Blk X (w.heap.size+1+1+1) [O I 0,O I 0,E R,E R] 45):=fun X k=>by
  have:Blk W0 (w.heap.size+1+1+1) [O I 0,O I 0,E R,E R] 45:=by rw[<- hW0];exact blkS (by simp) [O I 0,O I 0,E R,E R] _
  exact this.kp k (fun e=>by have e':w.heap.size+1+1+1=w.heap.size∨w.heap.size+1+1+1=w.heap.size+1:=e;omega)
 have KX0:Hid (Kp W0 W0 (fun i=>i=w.heap.size∨i=w.heap.size+1)):=Kp.refl _ _;clear hW0;go_enter func174,ntmps174;by_cases h1:c<a
 ·by_cases h2:d<b
  ·skip
   have la0:W0.cell? ⟨w.heap.size,0,G⟩=H (O I a):=HA0.o.cell rfl;have lb0:=HB0.o.c_ 0 rfl;go_wp2_with (first
    | (rw[HW0.o])
    | (refine I3 rfl _ _ _ rfl _ _ rfl _ rfl rfl _ _ HA0.o (by kernel_rfl) (by simp) ?_;intro W1 hb1 hk1;have HA1:=h_ hb1;have HB1:=h_ (HB0.o.kp hk1 (by show ¬_=_;omega));have KX1:=h_ (KX0.o.trans (hk1.mono (fun i _ e=>by have e':i=w.heap.size:=e;omega)));clear hb1 hk1)
    | (refine I3 rfl _ _ _ rfl _ _ rfl _ rfl rfl _ _ HB1.o (by kernel_rfl) (by simp) ?_;intro W2 hb2 hk2;have HB2:=h_ hb2;have HA2:=h_ (HA1.o.kp hk2 (by show ¬_=_;omega));have KX2:=h_ (KX1.o.trans (hk2.mono (fun i _ e=>by have e':i=(w.heap.size+1):=e;omega)));clear hb2 hk2;clear la0 lb0;have la2:=HA2.o.c_ 2 rfl;have lb2:=HB2.o.c_ 2 rfl)
    | (refine I3 rfl _ _ _ rfl _ _ rfl _ rfl rfl _ _ HA2.o (by kernel_rfl) (by simp) ?_;intro W3 hb3 hk3;have HA3:=h_ hb3;have HB3:=h_ (HB2.o.kp hk3 (by show ¬_=_;omega));have KX3:=h_ (KX2.o.trans (hk3.mono (fun i _ e=>by have e':i=w.heap.size:=e;omega)));clear hb3 hk3)
    | (refine I3 rfl _ _ _ rfl _ _ rfl _ rfl rfl _ _ HB3.o (by kernel_rfl) (by simp) ?_;intro W4 hb4 hk4;have HB4:=h_ hb4;have HA4:=h_ (HA3.o.kp hk4 (by show ¬_=_;omega));have KX4:=h_ (KX3.o.trans (hk4.mono (fun i _ e=>by have e':i=(w.heap.size+1):=e;omega)));clear hb4 hk4;clear la2 lb2;have la1:=HA4.o.c_ 1 rfl;have lb1:=HB4.o.c_ 1 rfl)
    | (refine I3 rfl _ _ _ rfl _ _ rfl _ rfl rfl _ _ HA4.o (by kernel_rfl) (by simp) ?_;intro W5 hb5 hk5;have HA5:=h_ hb5;have HB5:=h_ (HB4.o.kp hk5 (by show ¬_=_;omega));have KX5:=h_ (KX4.o.trans (hk5.mono (fun i _ e=>by have e':i=w.heap.size:=e;omega)));clear hb5 hk5)
    | (refine I3 rfl _ _ _ rfl _ _ rfl _ rfl rfl _ _ HB5.o (by kernel_rfl) (by simp) ?_;intro W6 hb6 hk6;have HB6:=h_ hb6;have HA6:=h_ (HA5.o.kp hk6 (by show ¬_=_;omega));have KX6:=h_ (KX5.o.trans (hk6.mono (fun i _ e=>by have e':i=(w.heap.size+1):=e;omega)));clear hb6 hk6;clear la1 lb1;have la3:=HA6.o.c_ 3 rfl;have lb3:=HB6.o.c_ 3 rfl)
    | (refine I3 rfl _ _ _ rfl _ _ rfl _ rfl rfl _ _ HA6.o (by kernel_rfl) (by simp) ?_;intro W7 hb7 hk7;have HA7:=h_ hb7;have HB7:=h_ (HB6.o.kp hk7 (by show ¬_=_;omega));have KX7:=h_ (KX6.o.trans (hk7.mono (fun i _ e=>by have e':i=w.heap.size:=e;omega)));clear hb7 hk7)
    | (refine I3 rfl _ _ _ rfl _ _ rfl _ rfl rfl _ _ HB7.o (by kernel_rfl) (by simp) ?_;intro W8 hb8 hk8;have HB8:=h_ hb8;have HA8:=h_ (HA7.o.kp hk8 (by show ¬_=_;omega));have KX8:=h_ (KX7.o.trans (hk8.mono (fun i _ e=>by have e':i=(w.heap.size+1):=e;omega)));clear hb8 hk8;clear la3 lb3)
    | fail)
   have HAf:=h_ HA8;have HBf:=h_ HB8;have KF:=h_ KX8;have HR4:=h_ (HZ4.o _ KF.o);have HR5:=h_ (HZ5.o _ KF.o);refine wp_region_noPanic ?_;refine I0 (fun w':World=>Blk w' w.heap.size [O I c,O I d,E u,E v] 45/\Blk w' (w.heap.size+1) [O I a,O I b,E p,E q] 45) (by kernel_rfl) ⟨HAf.o.kp (Kp.refl _ Nul).drew (fun x=>x),HBf.o.kp (Kp.refl _ Nul).drew (fun x=>x)⟩ (fun hHeld=>?_);refine tk 0 52 hHeld ?_ (v:=T #[O I c,O I d,E u,E v]) (hy:=by exact fun w' hSw=>q9 _ _ rfl _ _ rfl _ _ (j5 hSw.1) underlying45 rfl j7);refine tk 1 53 hHeld ?_ (v:=T #[O I a,O I b,E p,E q]) (hy:=by exact fun w' hSw=>q9 _ _ rfl _ _ rfl _ _ (j5 hSw.2) underlying45 rfl j7);refine ts 2 fun K hK=>?_
   refine J2 45 (.tmp 4) (.tmp 52) rfl (w.heap.size+1+1) _ [O I c,O I d,E u,E v] _ (HR4.o.kp (Kp.refl _ Nul).drew (fun x=>x)) rfl rfl rfl j7 (I1 _ _ _ _) ?_;intro Y hY kY;have kY':=((Kp.refl W8 (fun i=>i=w.heap.size+1+1)).drew).trans kY;have HY5:=h_ (HR5.o.kp kY' (by show ¬_=_;omega));refine hK.o _ _ ⟨HAf.o.kp kY' (by show ¬_=_;omega),HBf.o.kp kY' (by show ¬_=_;omega)⟩ (fun hHeld=>?_);clear hK K
   (try simp only[Act.put])
   refine ts 3 fun K hK=>?_
   refine J2 45 (.tmp 5) (.tmp 53) rfl (w.heap.size+1+1+1) _ [O I a,O I b,E p,E q] _ HY5.o rfl rfl rfl j7 (I1 _ _ _ _) ?_;intro Y2 hY2 kY2;have hYY:=hY.kp kY2 (by show ¬_=_;omega);refine hK.o _ _ ⟨(HAf.o.kp kY' (by show ¬_=_;omega)).kp kY2 (by show ¬_=_;omega),(HBf.o.kp kY' (by show ¬_=_;omega)).kp kY2 (by show ¬_=_;omega)⟩ (fun _=>?_);clear hK K hHeld
   (try simp only[Act.put])
   refine wpAnyH_done (by kernel_rfl) ?_ _;refine NoPanic.normal ?_;go_wp2_with fail;refine bodyPost_ret (j0H rfl _ _ (w.heap.size+1+1) 45 _ (0,0) _ (w.heap.size+1+1+1) 45 _ (0,0) _ rfl hYY underlying45 rfl j7 rfl hY2 underlying45 rfl j7) rfl ?_;refine⟨?_,((K0.o.trans' KF.o (fun i hi e=>by have e':i=w.heap.size∨i=w.heap.size+1:=e;omega)).trans' kY' (fun i hi e=>by have e':i=w.heap.size+1+1:=e;omega)).trans' kY2 (fun i hi e=>by have e':i=w.heap.size+1+1+1:=e;omega)⟩
   rfl
  ·skip
   have la0:W0.cell? ⟨w.heap.size,0,G⟩=H (O I a):=HA0.o.cell rfl;have lb0:=HB0.o.c_ 0 rfl;go_wp2_with (first
    | (rw[HW0.o])
    | (refine I3 rfl _ _ _ rfl _ _ rfl _ rfl rfl _ _ HA0.o (by kernel_rfl) (by simp) ?_;intro W1 hb1 hk1;have HA1:=h_ hb1;have HB1:=h_ (HB0.o.kp hk1 (by show ¬_=_;omega));have KX1:=h_ (KX0.o.trans (hk1.mono (fun i _ e=>by have e':i=w.heap.size:=e;omega)));clear hb1 hk1)
    | (refine I3 rfl _ _ _ rfl _ _ rfl _ rfl rfl _ _ HB1.o (by kernel_rfl) (by simp) ?_;intro W2 hb2 hk2;have HB2:=h_ hb2;have HA2:=h_ (HA1.o.kp hk2 (by show ¬_=_;omega));have KX2:=h_ (KX1.o.trans (hk2.mono (fun i _ e=>by have e':i=(w.heap.size+1):=e;omega)));clear hb2 hk2;clear la0 lb0;have la2:=HA2.o.c_ 2 rfl;have lb2:=HB2.o.c_ 2 rfl)
    | (refine I3 rfl _ _ _ rfl _ _ rfl _ rfl rfl _ _ HA2.o (by kernel_rfl) (by simp) ?_;intro W3 hb3 hk3;have HA3:=h_ hb3;have HB3:=h_ (HB2.o.kp hk3 (by show ¬_=_;omega));have KX3:=h_ (KX2.o.trans (hk3.mono (fun i _ e=>by have e':i=w.heap.size:=e;omega)));clear hb3 hk3)
    | (refine I3 rfl _ _ _ rfl _ _ rfl _ rfl rfl _ _ HB3.o (by kernel_rfl) (by simp) ?_;intro W4 hb4 hk4;have HB4:=h_ hb4;have HA4:=h_ (HA3.o.kp hk4 (by show ¬_=_;omega));have KX4:=h_ (KX3.o.trans (hk4.mono (fun i _ e=>by have e':i=(w.heap.size+1):=e;omega)));clear hb4 hk4;clear la2 lb2;have la1:=HA4.o.c_ 1 rfl;have lb1:=HB4.o.c_ 1 rfl)
    | fail)
   have HAf:=h_ HA4;have HBf:=h_ HB4;have KF:=h_ KX4;have HR4:=h_ (HZ4.o _ KF.o);have HR5:=h_ (HZ5.o _ KF.o);refine wp_region_noPanic ?_;refine I0 (fun w':World=>Blk w' w.heap.size [O I c,O I b,E u,E q] 45/\Blk w' (w.heap.size+1) [O I a,O I d,E p,E v] 45) (by kernel_rfl) ⟨HAf.o.kp (Kp.refl _ Nul).drew (fun x=>x),HBf.o.kp (Kp.refl _ Nul).drew (fun x=>x)⟩ (fun hHeld=>?_);refine tk 0 52 hHeld ?_ (v:=T #[O I c,O I b,E u,E q]) (hy:=by exact fun w' hSw=>q9 _ _ rfl _ _ rfl _ _ (j5 hSw.1) underlying45 rfl j7);refine tk 1 53 hHeld ?_ (v:=T #[O I a,O I d,E p,E v]) (hy:=by exact fun w' hSw=>q9 _ _ rfl _ _ rfl _ _ (j5 hSw.2) underlying45 rfl j7);refine ts 2 fun K hK=>?_
   refine J2 45 (.tmp 4) (.tmp 52) rfl (w.heap.size+1+1) _ [O I c,O I b,E u,E q] _ (HR4.o.kp (Kp.refl _ Nul).drew (fun x=>x)) rfl rfl rfl j7 (I1 _ _ _ _) ?_;intro Y hY kY;have kY':=((Kp.refl W4 (fun i=>i=w.heap.size+1+1)).drew).trans kY;have HY5:=h_ (HR5.o.kp kY' (by show ¬_=_;omega));refine hK.o _ _ ⟨HAf.o.kp kY' (by show ¬_=_;omega),HBf.o.kp kY' (by show ¬_=_;omega)⟩ (fun hHeld=>?_);clear hK K
   (try simp only[Act.put])
   refine ts 3 fun K hK=>?_
   refine J2 45 (.tmp 5) (.tmp 53) rfl (w.heap.size+1+1+1) _ [O I a,O I d,E p,E v] _ HY5.o rfl rfl rfl j7 (I1 _ _ _ _) ?_;intro Y2 hY2 kY2;have hYY:=hY.kp kY2 (by show ¬_=_;omega);refine hK.o _ _ ⟨(HAf.o.kp kY' (by show ¬_=_;omega)).kp kY2 (by show ¬_=_;omega),(HBf.o.kp kY' (by show ¬_=_;omega)).kp kY2 (by show ¬_=_;omega)⟩ (fun _=>?_);clear hK K hHeld
   (try simp only[Act.put])
   refine wpAnyH_done (by kernel_rfl) ?_ _;refine NoPanic.normal ?_;go_wp2_with fail;refine bodyPost_ret (j0H rfl _ _ (w.heap.size+1+1) 45 _ (0,0) _ (w.heap.size+1+1+1) 45 _ (0,0) _ rfl hYY underlying45 rfl j7 rfl hY2 underlying45 rfl j7) rfl ?_;refine⟨?_,((K0.o.trans' KF.o (fun i hi e=>by have e':i=w.heap.size∨i=w.heap.size+1:=e;omega)).trans' kY' (fun i hi e=>by have e':i=w.heap.size+1+1:=e;omega)).trans' kY2 (fun i hi e=>by have e':i=w.heap.size+1+1+1:=e;omega)⟩
   rfl
 ·by_cases h2:d<b
  ·skip
   have la0:W0.cell? ⟨w.heap.size,0,G⟩=H (O I a):=HA0.o.cell rfl;have lb0:=HB0.o.c_ 0 rfl;have la1:=HA0.o.c_ 1 rfl;have lb1:=HB0.o.c_ 1 rfl;go_wp2_with (first
    | (rw[HW0.o])
    | (refine I3 rfl _ _ _ rfl _ _ rfl _ rfl rfl _ _ HA0.o (by kernel_rfl) (by simp) ?_;intro W1 hb1 hk1;have HA1:=h_ hb1;have HB1:=h_ (HB0.o.kp hk1 (by show ¬_=_;omega));have KX1:=h_ (KX0.o.trans (hk1.mono (fun i _ e=>by have e':i=w.heap.size:=e;omega)));clear hb1 hk1)
    | (refine I3 rfl _ _ _ rfl _ _ rfl _ rfl rfl _ _ HB1.o (by kernel_rfl) (by simp) ?_;intro W2 hb2 hk2;have HB2:=h_ hb2;have HA2:=h_ (HA1.o.kp hk2 (by show ¬_=_;omega));have KX2:=h_ (KX1.o.trans (hk2.mono (fun i _ e=>by have e':i=(w.heap.size+1):=e;omega)));clear hb2 hk2;clear la1 lb1;have la3:=HA2.o.c_ 3 rfl;have lb3:=HB2.o.c_ 3 rfl)
    | (refine I3 rfl _ _ _ rfl _ _ rfl _ rfl rfl _ _ HA2.o (by kernel_rfl) (by simp) ?_;intro W3 hb3 hk3;have HA3:=h_ hb3;have HB3:=h_ (HB2.o.kp hk3 (by show ¬_=_;omega));have KX3:=h_ (KX2.o.trans (hk3.mono (fun i _ e=>by have e':i=w.heap.size:=e;omega)));clear hb3 hk3)
    | (refine I3 rfl _ _ _ rfl _ _ rfl _ rfl rfl _ _ HB3.o (by kernel_rfl) (by simp) ?_;intro W4 hb4 hk4;have HB4:=h_ hb4;have HA4:=h_ (HA3.o.kp hk4 (by show ¬_=_;omega));have KX4:=h_ (KX3.o.trans (hk4.mono (fun i _ e=>by have e':i=(w.heap.size+1):=e;omega)));clear hb4 hk4;clear la3 lb3)
    | fail)
   have HAf:=h_ HA4;have HBf:=h_ HB4;have KF:=h_ KX4;have HR4:=h_ (HZ4.o _ KF.o);have HR5:=h_ (HZ5.o _ KF.o);refine wp_region_noPanic ?_;refine I0 (fun w':World=>Blk w' w.heap.size [O I a,O I d,E p,E v] 45/\Blk w' (w.heap.size+1) [O I c,O I b,E u,E q] 45) (by kernel_rfl) ⟨HAf.o.kp (Kp.refl _ Nul).drew (fun x=>x),HBf.o.kp (Kp.refl _ Nul).drew (fun x=>x)⟩ (fun hHeld=>?_);refine tk 0 52 hHeld ?_ (v:=T #[O I a,O I d,E p,E v]) (hy:=by exact fun w' hSw=>q9 _ _ rfl _ _ rfl _ _ (j5 hSw.1) underlying45 rfl j7);refine tk 1 53 hHeld ?_ (v:=T #[O I c,O I b,E u,E q]) (hy:=by exact fun w' hSw=>q9 _ _ rfl _ _ rfl _ _ (j5 hSw.2) underlying45 rfl j7);refine ts 2 fun K hK=>?_
   refine J2 45 (.tmp 4) (.tmp 52) rfl (w.heap.size+1+1) _ [O I a,O I d,E p,E v] _ (HR4.o.kp (Kp.refl _ Nul).drew (fun x=>x)) rfl rfl rfl j7 (I1 _ _ _ _) ?_;intro Y hY kY;have kY':=((Kp.refl W4 (fun i=>i=w.heap.size+1+1)).drew).trans kY;have HY5:=h_ (HR5.o.kp kY' (by show ¬_=_;omega));refine hK.o _ _ ⟨HAf.o.kp kY' (by show ¬_=_;omega),HBf.o.kp kY' (by show ¬_=_;omega)⟩ (fun hHeld=>?_);clear hK K
   (try simp only[Act.put])
   refine ts 3 fun K hK=>?_
   refine J2 45 (.tmp 5) (.tmp 53) rfl (w.heap.size+1+1+1) _ [O I c,O I b,E u,E q] _ HY5.o rfl rfl rfl j7 (I1 _ _ _ _) ?_;intro Y2 hY2 kY2;have hYY:=hY.kp kY2 (by show ¬_=_;omega);refine hK.o _ _ ⟨(HAf.o.kp kY' (by show ¬_=_;omega)).kp kY2 (by show ¬_=_;omega),(HBf.o.kp kY' (by show ¬_=_;omega)).kp kY2 (by show ¬_=_;omega)⟩ (fun _=>?_);clear hK K hHeld
   (try simp only[Act.put])
   refine wpAnyH_done (by kernel_rfl) ?_ _;refine NoPanic.normal ?_;go_wp2_with fail;refine bodyPost_ret (j0H rfl _ _ (w.heap.size+1+1) 45 _ (0,0) _ (w.heap.size+1+1+1) 45 _ (0,0) _ rfl hYY underlying45 rfl j7 rfl hY2 underlying45 rfl j7) rfl ?_;refine⟨?_,((K0.o.trans' KF.o (fun i hi e=>by have e':i=w.heap.size∨i=w.heap.size+1:=e;omega)).trans' kY' (fun i hi e=>by have e':i=w.heap.size+1+1:=e;omega)).trans' kY2 (fun i hi e=>by have e':i=w.heap.size+1+1+1:=e;omega)⟩
   rfl
  ·skip
   have la0:W0.cell? ⟨w.heap.size,0,G⟩=H (O I a):=HA0.o.cell rfl;have lb0:=HB0.o.c_ 0 rfl;have la1:=HA0.o.c_ 1 rfl;have lb1:=HB0.o.c_ 1 rfl;go_wp2_with (first
    | (rw[HW0.o])
    | fail)
   have HAf:=h_ HA0;have HBf:=h_ HB0;have KF:=h_ KX0;have HR4:=h_ (HZ4.o _ KF.o);have HR5:=h_ (HZ5.o _ KF.o);refine wp_region_noPanic ?_;refine I0 (fun w':World=>Blk w' w.heap.size [O I a,O I b,E p,E q] 45/\Blk w' (w.heap.size+1) [O I c,O I d,E u,E v] 45) (by kernel_rfl) ⟨HAf.o.kp (Kp.refl _ Nul).drew (fun x=>x),HBf.o.kp (Kp.refl _ Nul).drew (fun x=>x)⟩ (fun hHeld=>?_);refine tk 0 52 hHeld ?_ (v:=T #[O I a,O I b,E p,E q]) (hy:=by exact fun w' hSw=>q9 _ _ rfl _ _ rfl _ _ (j5 hSw.1) underlying45 rfl j7);refine tk 1 53 hHeld ?_ (v:=T #[O I c,O I d,E u,E v]) (hy:=by exact fun w' hSw=>q9 _ _ rfl _ _ rfl _ _ (j5 hSw.2) underlying45 rfl j7);refine ts 2 fun K hK=>?_
   refine J2 45 (.tmp 4) (.tmp 52) rfl (w.heap.size+1+1) _ [O I a,O I b,E p,E q] _ (HR4.o.kp (Kp.refl _ Nul).drew (fun x=>x)) rfl rfl rfl j7 (I1 _ _ _ _) ?_;intro Y hY kY;have kY':=((Kp.refl W0 (fun i=>i=w.heap.size+1+1)).drew).trans kY;have HY5:=h_ (HR5.o.kp kY' (by show ¬_=_;omega));refine hK.o _ _ ⟨HAf.o.kp kY' (by show ¬_=_;omega),HBf.o.kp kY' (by show ¬_=_;omega)⟩ (fun hHeld=>?_);clear hK K
   (try simp only[Act.put])
   refine ts 3 fun K hK=>?_
   refine J2 45 (.tmp 5) (.tmp 53) rfl (w.heap.size+1+1+1) _ [O I c,O I d,E u,E v] _ HY5.o rfl rfl rfl j7 (I1 _ _ _ _) ?_;intro Y2 hY2 kY2;have hYY:=hY.kp kY2 (by show ¬_=_;omega);refine hK.o _ _ ⟨(HAf.o.kp kY' (by show ¬_=_;omega)).kp kY2 (by show ¬_=_;omega),(HBf.o.kp kY' (by show ¬_=_;omega)).kp kY2 (by show ¬_=_;omega)⟩ (fun _=>?_);clear hK K hHeld
   (try simp only[Act.put])
   refine wpAnyH_done (by kernel_rfl) ?_ _;refine NoPanic.normal ?_;go_wp2_with fail;refine bodyPost_ret (j0H rfl _ _ (w.heap.size+1+1) 45 _ (0,0) _ (w.heap.size+1+1+1) 45 _ (0,0) _ rfl hYY underlying45 rfl j7 rfl hY2 underlying45 rfl j7) rfl ?_;refine⟨?_,((K0.o.trans' KF.o (fun i hi e=>by have e':i=w.heap.size∨i=w.heap.size+1:=e;omega)).trans' kY' (fun i hi e=>by have e':i=w.heap.size+1+1:=e;omega)).trans' kY2 (fun i hi e=>by have e':i=w.heap.size+1+1+1:=e;omega)⟩
   rfl
theorem jDy (k o':Int)(x:Nat)(s:ByteArray)(bb:Bool)(ff c1 r1:Int)(p1 q1:Bool)(c2 r2:Int)(p2 q2:Bool)(sl:Value)(X Y A B:Int)(P am aa:Bool)(A' B':Int)(P' Q' O':Bool)(E1 F1 E2 F2:Int)(G1 H1 G2 H2:Bool)(w:World)(hs:sl.oneCell'=J)
 (HSh:Hid (∀wq,Calls prog 172 #[T #[O I c1,O I r1,E p1,E q1],O I X,O I Y] wq fun e w'=>e=Q (au #[T #[O I A,O I B,E P,E am],E aa])/\Kp wq w' Nul))
 (HSh':Hid (∀wq,Calls prog 172 #[T #[O I c2,O I r2,E p2,E q2],O I X,O I Y] wq fun e w'=>e=Q (au #[T #[O I A',O I B',E P',E Q'],E O'])/\Kp wq w' Nul))
 (HSe:Hid (∀wq,Calls prog 174 #[T #[O I A,O I B,E P,E am],T #[O I A',O I B',E P',E Q']] wq fun e w'=>e=Q (au #[T #[O I E1,O I F1,E G1,E H1],T #[O I E2,O I F2,E G2,E H2]])/\Kp wq w' Nul)) :
 Calls prog 156 #[T #[O I k,O I o',ap ao x,aq s,E bb,O I ff,O I c1,O I r1,E p1,E q1,O I c2,O I r2,E p2,E q2,sl],O I X,O I Y] w fun e w'=>e=Q (if aa=J then (if O'=J then T #[O I k,O I o',ap ao x,aq s,E bb,O I ff,O I E1,O I F1,E G1,E H1,O I E2,O I F2,E G2,E H2,sl] else ndF.hd.val (U G 0 0)) else ndF.hd.val (U G 0 0))/\Kp w w' Nul:=by
 have O1:=h_ hs;have HNo:=h_ j62;clear hs;obtain⟨W0,hW0⟩:=e_ ((w.alloc (.cells #[O I k,O I o',ap ao x,aq s,E bb,O I ff,O I c1,O I r1,E p1,E q1,O I c2,O I r2,E p2,E q2,sl] 48)).alloc (.cells #[O I 0,O I 0,ap ao 0,aq ⟨#[]⟩,E R,O I 0,O I 0,O I 0,E R,E R,O I 0,O I 0,E R,E R,U G 0 0] 48));have HW0:=h_ hW0;have K0:Hid (Kp w W0 Nul):=by show Kp _ _ _;rw[<- hW0];exact Kp.new2 _ _ _ _
 have S0:Hid (W0.heap.size=w.heap.size+2):=by show _=_;rw[<- hW0];simp
 have HN0:Hid (∀X,Kp W0 X Nul->Blk X w.heap.size [O I k,O I o',ap ao x,aq s,E bb,O I ff,O I c1,O I r1,E p1,E q1,O I c2,O I r2,E p2,E q2,sl] 48):=fun aj hq=>by
  have:Blk W0 w.heap.size [O I k,O I o',ap ao x,aq s,E bb,O I ff,O I c1,O I r1,E p1,E q1,O I c2,O I r2,E p2,E q2,sl] 48:=by rw[<- hW0];exact(Blk.new w [O I k,O I o',ap ao x,aq s,E bb,O I ff,O I c1,O I r1,E p1,E q1,O I c2,O I r2,E p2,E q2,sl] 48).alloc _
  exact this.kp hq (fun x=>x)
 have HZ0:Hid (∀X,Kp W0 X Nul->Blk X (w.heap.size+1) [O I 0,O I 0,ap ao 0,aq ⟨#[]⟩,E R,O I 0,O I 0,O I 0,E R,E R,O I 0,O I 0,E R,E R,U G 0 0] 48):=fun aj hq=>by
  have:Blk W0 (w.heap.size+1) [O I 0,O I 0,ap ao 0,aq ⟨#[]⟩,E R,O I 0,O I 0,O I 0,E R,E R,O I 0,O I 0,E R,E R,U G 0 0] 48:=by
   rw[<- hW0];have:=Blk.new (w.alloc (.cells #[O I k,O I o',ap ao x,aq s,E bb,O I ff,O I c1,O I r1,E p1,E q1,O I c2,O I r2,E p2,E q2,sl] 48)) [O I 0,O I 0,ap ao 0,aq ⟨#[]⟩,E R,O I 0,O I 0,O I 0,E R,E R,O I 0,O I 0,E R,E R,U G 0 0] 48;rw[World.size_alloc] at this;exact this
  exact this.kp hq (fun x=>x)
 have HR0:Hid (W0.rangeAt w.heap.size 6 [O I c1,O I r1,E p1,E q1]):=J4 (pre:=[O I k,O I o',ap ao x,aq s,E bb,O I ff]) (post:=[O I c2,O I r2,E p2,E q2,sl]) (HN0.o W0 (Kp.refl _ _));clear hW0;go_enter func156,ntmps156;go_wp2_with (first
  | (refine wpList_load_mid rfl 45 (.tmp 11) rfl w.heap.size 6 rfl [O I c1,O I r1,E p1,E q1] _ HR0.o underlying45 rfl j7 ?_)
  | fail)
 rw[HW0.o];refine(HSh.o _).mono ?_;rintro e w1 ⟨rfl,hk1⟩;obtain⟨W2,hW2⟩:=e_ (w1.alloc (.cells #[O I A,O I B,E P,E am] 45));have HW2:=h_ hW2;have K2:Hid (Kp W0 W2 Nul):=by show Kp _ _ _;rw[<- hW2];exact hk1.alloc _
 have S1:Hid (w.heap.size+2<=w1.heap.size):=by have:=hk1.size;rw[S0.o] at this;exact this
 have HB2:Hid (Blk W2 w1.heap.size [O I A,O I B,E P,E am] 45):=by show Blk _ _ _ _;rw[<- hW2];exact Blk.new w1 _ _
 clear hk1 hW2 HW0 HR0 HSh;cases aa with
 | false=>
  go_wp2_with fail;rw[HW2.o];go_wp2_with fail;refine(HNo.o _).mono ?_;rintro e w5 ⟨rfl,hk5⟩;have K5:=h_ (K2.o.trans hk5);have HZ5:=h_ (HZ0.o w5 K5.o);clear hk5;go_wp2_with (first
   | (refine D5 rfl 48 (.tmp 6) (.tmp 20) rfl (w.heap.size+1) _ [O I 4,O I 0,ap ao 0,aq ⟨#[]⟩,E R,O I 4,O I 0,O I 0,E R,E R,O I 0,O I 0,E R,E R,U G 0 0] _ HZ5.o rfl rfl rfl j3 (Hd.one ⟨4,0,0,⟨#[]⟩,R,4,0,0,R,R,0,0,R,R⟩ rfl) ?_;intro W6 hb6 hk6)
   | fail)
  refine bodyPost_ret (results_cell_row rfl _ _ (w.heap.size+1) 48 _ (0,0) _ rfl hb6 underlying48 rfl j3) rfl ?_;exact⟨rfl,(K0.o.trans K5.o).trans' hk6 (fun i hi e=>by have e':i=w.heap.size+1:=e;omega)⟩
 | true=>
  have HR2:Hid (W2.rangeAt w.heap.size 10 [O I c2,O I r2,E p2,E q2]):=J4 (pre:=[O I k,O I o',ap ao x,aq s,E bb,O I ff,O I c1,O I r1,E p1,E q1]) (post:=[sl]) (HN0.o W2 K2.o);go_wp2_with (first
   | (rw[HW2.o])
   | (refine wpList_load_mid rfl 45 (.tmp 22) rfl w.heap.size 10 rfl [O I c2,O I r2,E p2,E q2] _ HR2.o underlying45 rfl j7 ?_)
   | fail)
  refine(HSh'.o _).mono ?_;rintro e w3 ⟨rfl,hk3⟩;obtain⟨W4,hW4⟩:=e_ (w3.alloc (.cells #[O I A',O I B',E P',E Q'] 45));have HW4:=h_ hW4;have k4:Kp W2 W4 Nul:=by rw[<- hW4];exact hk3.alloc _
  have K4:=h_ (K2.o.trans k4);have S3:=h_ (Nat.lt_of_lt_of_le HB2.o.lt hk3.size);have HB4:Hid (Blk W4 w3.heap.size [O I A',O I B',E P',E Q'] 45):=by show Blk _ _ _ _;rw[<- hW4];exact Blk.new w3 _ _
  have HC4:=h_ (HB2.o.kp k4 (fun x=>x));clear hk3 hW4 k4 HW2 HR2 HSh';cases O' with
  | false=>
   go_wp2_with fail;rw[HW4.o];go_wp2_with fail;refine(HNo.o _).mono ?_;rintro e w5 ⟨rfl,hk5⟩;have K5:=h_ (K4.o.trans hk5);have HZ5:=h_ (HZ0.o w5 K5.o);clear hk5;go_wp2_with (first
    | (refine D5 rfl 48 (.tmp 6) (.tmp 31) rfl (w.heap.size+1) _ [O I 4,O I 0,ap ao 0,aq ⟨#[]⟩,E R,O I 4,O I 0,O I 0,E R,E R,O I 0,O I 0,E R,E R,U G 0 0] _ HZ5.o rfl rfl rfl j3 (Hd.one ⟨4,0,0,⟨#[]⟩,R,4,0,0,R,R,0,0,R,R⟩ rfl) ?_;intro W6 hb6 hk6)
    | fail)
   refine bodyPost_ret (results_cell_row rfl _ _ (w.heap.size+1) 48 _ (0,0) _ rfl hb6 underlying48 rfl j3) rfl ?_;exact⟨rfl,(K0.o.trans K5.o).trans' hk6 (fun i hi e=>by have e':i=w.heap.size+1:=e;omega)⟩
  | true=>
   have HN4:=h_ (HN0.o W4 K4.o);have HZ4:=h_ (HZ0.o W4 K4.o);go_wp2_with (first
    | (rw[HW4.o])
    | (refine wpList_load_mid rfl 45 (.tmp 7) rfl w1.heap.size 0 rfl [O I A,O I B,E P,E am] _ (j5 HC4.o) underlying45 rfl j7 ?_)
    | (refine wpList_load_mid rfl 45 (.tmp 9) rfl w3.heap.size 0 rfl [O I A',O I B',E P',E Q'] _ (j5 HB4.o) underlying45 rfl j7 ?_)
    | fail)
   refine(HSe.o _).mono ?_;rintro e w5 ⟨rfl,hk5⟩;have HN5:=h_ (HN4.o.kp hk5 (fun x=>x));have HZ5:=h_ (HZ4.o.kp hk5 (fun x=>x));have K5:=h_ (K4.o.trans hk5);clear hk5 HN4 HZ4 HC4 HB4 HW4 HSe;go_wp2_with (first
    | (refine L8 rfl 45 (.tmp 38) (.tmp 36) rfl w.heap.size 6 [O I k,O I o',ap ao x,aq s,E bb,O I ff] [O I c1,O I r1,E p1,E q1] [O I c2,O I r2,E p2,E q2,sl] [O I E1,O I F1,E G1,E H1] _ HN5.o rfl rfl rfl rfl j7 (I1 _ _ _ _) ?_;intro W6 hb6 hk6;have HG1:Hid (Blk W6 w.heap.size [O I k,O I o',ap ao x,aq s,E bb,O I ff,O I E1,O I F1,E G1,E H1,O I c2,O I r2,E p2,E q2,sl] 48):=hb6;have HG2:Hid (Blk W6 (w.heap.size+1) [O I 0,O I 0,ap ao 0,aq ⟨#[]⟩,E R,O I 0,O I 0,O I 0,E R,E R,O I 0,O I 0,E R,E R,U G 0 0] 48):=HZ5.o.kp hk6 (by show ¬(w.heap.size+1)=w.heap.size;omega);have KG:Hid (Kp w W6 Nul):=(K0.o.trans K5.o).trans' hk6 (fun i hi e=>by have e':i=w.heap.size:=e;omega);clear hb6 hk6)
    | (refine L8 rfl 45 (.tmp 39) (.tmp 37) rfl w.heap.size 10 [O I k,O I o',ap ao x,aq s,E bb,O I ff,O I E1,O I F1,E G1,E H1] [O I c2,O I r2,E p2,E q2] [sl] [O I E2,O I F2,E G2,E H2] _ HG1.o rfl rfl rfl rfl j7 (I1 _ _ _ _) ?_;intro W7 hb7 hk7;have HH1:Hid (Blk W7 w.heap.size [O I k,O I o',ap ao x,aq s,E bb,O I ff,O I E1,O I F1,E G1,E H1,O I E2,O I F2,E G2,E H2,sl] 48):=hb7;have HH2:Hid (Blk W7 (w.heap.size+1) [O I 0,O I 0,ap ao 0,aq ⟨#[]⟩,E R,O I 0,O I 0,O I 0,E R,E R,O I 0,O I 0,E R,E R,U G 0 0] 48):=HG2.o.kp hk7 (by show ¬(w.heap.size+1)=w.heap.size;omega);have KH:Hid (Kp w W7 Nul):=KG.o.trans' hk7 (fun i hi e=>by have e':i=w.heap.size:=e;omega);clear hb7 hk7)
    | (refine wpList_load_mid rfl 48 (.tmp 3) rfl w.heap.size 0 rfl [O I k,O I o',ap ao x,aq s,E bb,O I ff,O I E1,O I F1,E G1,E H1,O I E2,O I F2,E G2,E H2,sl] _ (j5 HH1.o) underlying48 rfl j3 ?_)
    | (refine D5 rfl 48 (.tmp 6) (.tmp 40) rfl (w.heap.size+1) _ [O I k,O I o',ap ao x,aq s,E bb,O I ff,O I E1,O I F1,E G1,E H1,O I E2,O I F2,E G2,E H2,sl] _ HH2.o rfl rfl rfl j3 (Hd.one ⟨k,o',x,s,bb,ff,E1,F1,G1,H1,E2,F2,G2,H2⟩ O1.o) ?_;intro W9 hb9 hk9)
    | fail)
   refine bodyPost_ret (results_cell_row rfl _ _ (w.heap.size+1) 48 _ (0,0) _ rfl hb9 underlying48 rfl j3) rfl ?_;exact⟨rfl,KH.o.trans' hk9 (fun i hi e=>by have e':i=w.heap.size+1:=e;omega)⟩
theorem j3u (c r X Y:Int)(p q:Bool)(hX:I64 X)(hY:I64 Y)(w:World):
 Calls prog 172 #[T #[O I c,O I r,E p,E q],O I X,O I Y] w fun e w'=>e=Q (au #[T #[O I (if shOk c r p q X Y=J then (shN c X 256 p).1 else 0),O I (if shOk c r p q X Y=J then (shN r Y 4096 q).1 else 0),E (if shOk c r p q X Y=J then p else R),E (if shOk c r p q X Y=J then q else R)],E (shOk c r p q X Y)])/\Kp w w' Nul:=by
 refine(jCK c r X Y p q hX.1 hX.2 hY.1 hY.2 w).mono ?_;rintro e w' ⟨rfl,h⟩;refine⟨?_,Kp.of_gr h⟩;unfold shV refV;split <;> rfl
theorem jDz (X Y:Int)(hX:I64 X)(hY:I64 Y)(hd:Hd)(hk:hd.k=5)(ts:List Nd)(sl:Value)(hs:sl.oneCell'=J)(w:World):
 Calls prog 155 #[hd.val sl,O I X,O I Y] w fun e w'=>e=Q ((tmN (shH X Y) (.mk hd ts)).hd.val (tmS (shH X Y) hd sl))/\Kp w w' Nul:=by
 obtain⟨k,o',x,s,bb,ff,c1,r1,p1,q1,c2,r2,p2,q2⟩:=hd;have hk':=hk;subst hk';refine(jE0 5 o' x s bb ff c1 r1 p1 q1 c2 r2 p2 q2 sl X Y _ _ _ _ _ w hs (fun wq=>j3u c1 r1 X Y p1 q1 hX hY wq)).mono ?_;rintro e w' ⟨rfl,h⟩;refine⟨?_,h⟩;have e:=j6v X Y ⟨5,o',x,s,bb,ff,c1,r1,p1,q1,c2,r2,p2,q2⟩ (show ¬(5:Int)=6 by decide);unfold tmN tmS;simp only[Nd.hd];rw[e];by_cases hO:shOk c1 r1 p1 q1 X Y=J
 ·simp only[if_pos hO]
 ·simp only[if_neg hO]
theorem jDx (X Y:Int)(hX:I64 X)(hY:I64 Y)(hd:Hd)(hk:hd.k=6)(ts:List Nd)(sl:Value)(hs:sl.oneCell'=J)(w:World):
 Calls prog 156 #[hd.val sl,O I X,O I Y] w fun e w'=>e=Q ((tmN (shH X Y) (.mk hd ts)).hd.val (tmS (shH X Y) hd sl))/\Kp w w' Nul:=by
 obtain⟨k,o',x,s,bb,ff,c1,r1,p1,q1,c2,r2,p2,q2⟩:=hd;have hk':=hk;subst hk';refine(jDy 6 o' x s bb ff c1 r1 p1 q1 c2 r2 p2 q2 sl X Y _ _ _ _ _ _ _ _ _ _ _ _ _ _ _ _ _ _ w hs (fun wq=>j3u c1 r1 X Y p1 q1 hX hY wq) (fun wq=>j3u c2 r2 X Y p2 q2 hX hY wq) (fun wq=>jDs _ _ _ _ _ _ _ _ wq)).mono ?_;rintro e w' ⟨rfl,h⟩;refine⟨?_,h⟩;have e:=j6w X Y ⟨6,o',x,s,bb,ff,c1,r1,p1,q1,c2,r2,p2,q2⟩ rfl;unfold tmN tmS;simp only[Nd.hd];rw[e];by_cases hO:shOk c1 r1 p1 q1 X Y=J
 ·by_cases hO':shOk c2 r2 p2 q2 X Y=J
  ·simp only[if_pos hO,if_pos hO',if_pos (And.intro hO hO')]
  ·simp only[if_pos hO,if_neg hO',if_neg (fun e:_/\_=>hO' e.2)]
 ·simp only[if_neg hO,if_neg (fun e:_/\_=>hO e.1)]
theorem jE1 (X Y:Int)(hX:I64 X)(hY:I64 Y)(N:Nat):∀(t:Nd) (sl:Value) (fp:List Nat) (w:World),t.size<=N->D2 w sl t fp->fp.Nodup ->
 Calls prog 135 #[t.hd.val sl,O I X,O I Y] w fun e w'=>∃sl' fp',e=Q ((hmN (shH X Y) t).hd.val sl')/\HmR (shH X Y) t fp w w' sl' fp':=by
 induction N with
 | zero=>intro t sl fp w h;have:=L7 t;omega
 | succ N ih=>
  intro t sl fp w hN hown hnd;have IH:Hid (∀(t:Nd) (sl:Value) (fp:List Nat) (w:World),t.size<=N->D2 w sl t fp->fp.Nodup ->
   Calls prog 135 #[t.hd.val sl,O I X,O I Y] w fun e w'=>∃sl' fp',e=Q ((hmN (shH X Y) t).hd.val sl')/\HmR (shH X Y) t fp w w' sl' fp'):=ih
  have H5:=h_ fun (hd:Hd) (hk:hd.k=5) (ts:List Nd) (sl:Value) (hs:sl.oneCell'=J) w=>jDz X Y hX hY hd hk ts sl hs w
  have H6:=h_ fun (hd:Hd) (hk:hd.k=6) (ts:List Nd) (sl:Value) (hs:sl.oneCell'=J) w=>jDx X Y hX hY hd hk ts sl hs w
  generalize shH X Y=f at *;have O1:=h_ hown.one;have HOwn:=h_ hown;have HNd:=h_ hnd;have HN:=h_ hN;clear ih hown hnd hN hX hY;obtain⟨hd,ts⟩:=t;change Calls prog 135 #[hd.val sl,O I X,O I Y] w _
  obtain⟨W0,hW0⟩:=e_ ((w.alloc (.cells (hd.cells sl).toArray 48)).alloc (.cells #[O I 0,O I 0,ap ao 0,aq ⟨#[]⟩,E R,O I 0,O I 0,O I 0,E R,E R,O I 0,O I 0,E R,E R,U G 0 0] 48));have k0:Hid (Kp w W0 Nul):=by show Kp _ _ _;rw[<- hW0];exact((Kp.refl w Nul).alloc _).alloc _
  have b1:Hid (Blk W0 w.heap.size (hd.cells sl) 48):=by show Blk _ _ _ _;rw[<- hW0];exact(Blk.new w _ _).alloc _
  have b2:Hid (Blk W0 (w.heap.size+1) [O I 0,O I 0,ap ao 0,aq ⟨#[]⟩,E R,O I 0,O I 0,O I 0,E R,E R,O I 0,O I 0,E R,E R,U G 0 0] 48):=by
   show Blk _ _ _ _;rw[<- hW0];have:=Blk.new (w.alloc (.cells (hd.cells sl).toArray 48)) [O I 0,O I 0,ap ao 0,aq ⟨#[]⟩,E R,O I 0,O I 0,O I 0,E R,E R,O I 0,O I 0,E R,E R,U G 0 0] 48;rw[World.size_alloc] at this;exact this
  obtain⟨k,o',x,s,bb,ff,c1,r1,p1,q1,c2,r2,p2,q2⟩:=hd;by_cases hk:k=5∨k=6
  ·rcases hk with hk|hk
   ·subst hk;have y0:=b1.o.c_ 0 rfl;have hal:hmN f (.mk ⟨5,o',x,s,bb,ff,c1,r1,p1,q1,c2,r2,p2,q2⟩ ts)=tmN f (.mk ⟨5,o',x,s,bb,ff,c1,r1,p1,q1,c2,r2,p2,q2⟩ ts):=(by rw[hmN,if_pos (by simp)]);have HR:=(h_ fun w' (kw:Kp w w' Nul)=>j7D f ⟨5,o',x,s,bb,ff,c1,r1,p1,q1,c2,r2,p2,q2⟩ ts sl fp w w' HOwn.o kw (by simp));have HCl:=h_ (H5.o ⟨5,o',x,s,bb,ff,c1,r1,p1,q1,c2,r2,p2,q2⟩ rfl ts sl O1.o W0);have OS:Hid ((tmS f ⟨5,o',x,s,bb,ff,c1,r1,p1,q1,c2,r2,p2,q2⟩ sl).oneCell'=J):=by
     show _=_;unfold tmS;split
     ·rfl
     ·exact O1.o
    rw[hal];clear H5 H6 HOwn HNd HN IH hal;generalize (tmN f (.mk ⟨5,o',x,s,bb,ff,c1,r1,p1,q1,c2,r2,p2,q2⟩ ts)).hd=hh at *;generalize tmS f ⟨5,o',x,s,bb,ff,c1,r1,p1,q1,c2,r2,p2,q2⟩ sl=sl2 at *;generalize tmFp f ⟨5,o',x,s,bb,ff,c1,r1,p1,q1,c2,r2,p2,q2⟩ fp=fp2 at *;go_enter func135,ntmps135;go_wp2_with (first|(refine wpList_load_mid rfl 48 (.tmp 3) rfl w.heap.size 0 rfl (Hd.cells ⟨5,o',x,s,bb,ff,c1,r1,p1,q1,c2,r2,p2,q2⟩ sl) _ (j5 b1.o) underlying48 rfl j3 ?_)|fail);refine HCl.o.mono ?_;rintro e w1 ⟨rfl,hk1⟩;have b2':=b2.o.kp hk1 (fun x=>x);have HB2:=h_ b2';clear b2';go_wp2_with (first|(refine D5 rfl 48 (.tmp 6) (.tmp 16) rfl (w.heap.size+1) _ (hh.cells sl2) _ HB2.o rfl rfl rfl j3 (hh.one OS.o) ?_;intro w2 hb2 hk2)|fail);refine bodyPost_ret (results_cell_row rfl _ _ (w.heap.size+1) 48 _ (0,0) _ rfl hb2 underlying48 rfl j3) rfl ?_
    exact⟨sl2,fp2,rfl,HR.o w2 ((k0.o.trans hk1).trans' hk2 (fun i hi e=>by have:i=w.heap.size+1:=e;omega))⟩
   ·subst hk;have y0:=b1.o.c_ 0 rfl;have hal:hmN f (.mk ⟨6,o',x,s,bb,ff,c1,r1,p1,q1,c2,r2,p2,q2⟩ ts)=tmN f (.mk ⟨6,o',x,s,bb,ff,c1,r1,p1,q1,c2,r2,p2,q2⟩ ts):=(by rw[hmN,if_pos (by simp)]);have HR:=(h_ fun w' (kw:Kp w w' Nul)=>j7D f ⟨6,o',x,s,bb,ff,c1,r1,p1,q1,c2,r2,p2,q2⟩ ts sl fp w w' HOwn.o kw (by simp));have HCl:=h_ (H6.o ⟨6,o',x,s,bb,ff,c1,r1,p1,q1,c2,r2,p2,q2⟩ rfl ts sl O1.o W0);have OS:Hid ((tmS f ⟨6,o',x,s,bb,ff,c1,r1,p1,q1,c2,r2,p2,q2⟩ sl).oneCell'=J):=by
     show _=_;unfold tmS;split
     ·rfl
     ·exact O1.o
    rw[hal];clear H5 H6 HOwn HNd HN IH hal;generalize (tmN f (.mk ⟨6,o',x,s,bb,ff,c1,r1,p1,q1,c2,r2,p2,q2⟩ ts)).hd=hh at *;generalize tmS f ⟨6,o',x,s,bb,ff,c1,r1,p1,q1,c2,r2,p2,q2⟩ sl=sl2 at *;generalize tmFp f ⟨6,o',x,s,bb,ff,c1,r1,p1,q1,c2,r2,p2,q2⟩ fp=fp2 at *;go_enter func135,ntmps135;go_wp2_with (first|(refine wpList_load_mid rfl 48 (.tmp 3) rfl w.heap.size 0 rfl (Hd.cells ⟨6,o',x,s,bb,ff,c1,r1,p1,q1,c2,r2,p2,q2⟩ sl) _ (j5 b1.o) underlying48 rfl j3 ?_)|fail);refine HCl.o.mono ?_;rintro e w1 ⟨rfl,hk1⟩;have b2':=b2.o.kp hk1 (fun x=>x);have HB2:=h_ b2';clear b2';go_wp2_with (first|(refine D5 rfl 48 (.tmp 6) (.tmp 22) rfl (w.heap.size+1) _ (hh.cells sl2) _ HB2.o rfl rfl rfl j3 (hh.one OS.o) ?_;intro w2 hb2 hk2)|fail);refine bodyPost_ret (results_cell_row rfl _ _ (w.heap.size+1) 48 _ (0,0) _ rfl hb2 underlying48 rfl j3) rfl ?_
    exact⟨sl2,fp2,rfl,HR.o w2 ((k0.o.trans hk1).trans' hk2 (fun i hi e=>by have:i=w.heap.size+1:=e;omega))⟩
  ·have HK5:Hid (¬k=5):=(fun e=>hk (.inl e));have HK6:Hid (¬k=6):=(fun e=>hk (.inr e));have e5:(k==5)=R:=(by simpa using HK5.o);have e6:(k==6)=R:=(by simpa using HK6.o);have y0:=b1.o.c_ 0 rfl;have hal:hmN f (.mk ⟨k,o',x,s,bb,ff,c1,r1,p1,q1,c2,r2,p2,q2⟩ ts)=.mk ⟨k,o',x,s,bb,ff,c1,r1,p1,q1,c2,r2,p2,q2⟩ (hmL f ts):=(by rw[hmN,if_neg hk]);rw[hal];have hown:=HOwn.o;rw[D2] at hown;rcases hown with ⟨rfl,rfl,rfl⟩|⟨b,c,fps,cs,rfl,h2,h3,h4,h5,h6,rfl,h8⟩
   ·have y14:=b1.o.c_ 14 rfl;have HR:Hid (∀w',Kp w w' Nul->HmR f (.mk ⟨k,o',x,s,bb,ff,c1,r1,p1,q1,c2,r2,p2,q2⟩ []) [] w w' (U G 0 0) []):=(fun w' kw=>⟨by rw[hal,hmL,D2];exact .inl ⟨rfl,rfl,rfl⟩,List.Sublist.refl _,kw.mono (fun _ _ q=>q.elim)⟩);clear H5 H6 IH HOwn HNd HN hal hk;go_enter func135,ntmps135;go_wp2_with fail;go_loopw[26] (fun i wr=>i=O I 0/\wr=W0) (fun _ _=>0)
    case atStart=>exact⟨rfl,rfl⟩
    case round=>
     obtain⟨rfl,rfl⟩:=hrel;go_wp2_with (first
      | (refine wpList_load_mid rfl 48 (.tmp 3) rfl w.heap.size 0 rfl (Hd.cells ⟨k,o',x,s,bb,ff,c1,r1,p1,q1,c2,r2,p2,q2⟩ (U G 0 0)) _ (j5 b1.o) underlying48 rfl j3 ?_)
      | (refine D5 rfl 48 (.tmp 6) (.tmp 40) rfl (w.heap.size+1) _ (Hd.cells ⟨k,o',x,s,bb,ff,c1,r1,p1,q1,c2,r2,p2,q2⟩ (U G 0 0)) _ b2.o rfl rfl rfl j3 (Hd.one ⟨k,o',x,s,bb,ff,c1,r1,p1,q1,c2,r2,p2,q2⟩ rfl) ?_;intro w2 hb2 hk2)
      | fail)
     refine bodyPost_ret (results_cell_row rfl _ _ (w.heap.size+1) 48 _ (0,0) _ rfl hb2 underlying48 rfl j3) rfl ?_;first
     | exact⟨_,HR.o w2 (k0.o.trans' hk2 (fun i hi e=>by have:i=w.heap.size+1:=e;omega))⟩
     | exact⟨_,_,rfl,HR.o w2 (k0.o.trans' hk2 (fun i hi e=>by have:i=w.heap.size+1:=e;omega))⟩
   ·have HAt0:Hid (HmAt f w W0 b c 0 ts fps [] fps):=(HmAt.start h5 h6 h8).nul k0.o;have HCL:=h_ h3;have HCm:=h_ h4;have HNb:=h_ HNd.o;have HTs:=h_ h2;have HSz:Hid (D3 ts<=N):=(by show _<=_;have:=HN.o;rw[Nd.size] at this;omega);have HLt:Hid (∀i∈b::fps,i<w.heap.size):=(fun i hi=>F4 (HOwn.o.node i hi));have y14:=b1.o.c_ 14 rfl;have hlen:ts.length<=9223372036854775807:=(by unfold maxLen at h4;omega);generalize hn:ts.length=n at *;have HL:=h_ hn;have HLen:=h_ hlen;clear H5 H6 HOwn HNd HN hal hk h2 h3 h4 h5 h6 h8 hn hlen;go_enter func135,ntmps135;go_wp2_with fail;go_loopw[26] (fun i wr=>∃(q:Nat) (fa fb:List Nat),q<=n/\i=O I q/\HmAt f w wr b c q ts fps fa fb/\Kp W0 wr (fun i=>i∈b::fps)) (fun i _=>n-(RowKit.intOf i).toNat)
    case atStart=>exact⟨0,[],fps,Nat.zero_le _,rfl,HAt0.o,Kp.refl _ _⟩
    case round=>
     clear HAt0 y0 y14;obtain⟨q,fa,fb,hq,rfl,hat,hkw⟩:=hrel;have HAt:=h_ hat;have HKW:=h_ hkw;have HN1:=h_ (b1.o.kp hkw (fun e=>by have:=HLt.o _ e;omega));have HN2:=h_ (b2.o.kp hkw (fun e=>by have:=HLt.o _ e;omega));clear hat hkw;by_cases hlt:q<n
     ·have hqt:q<ts.length:=(by rw[HL.o];exact hlt);obtain⟨slq,f1,f2,hrg,hno,hfb,hrs⟩:=HAt.o.next hqt;have HRG:=h_ hrg;have O3:=h_ hno.one;have HFb:=h_ hfb;have HRs:=h_ hrs;have HF1:Hid (∀i∈f1,i∈fps):=fun i hi=>by
       obtain⟨fA,e1,_⟩:=HAt.o.sub;rw[e1,hfb];exact List.mem_append_right _ (List.mem_append_left _ hi)
      have HBf:Hid (b∉f1):=(fun e=>(List.nodup_cons.1 HNb.o).1 (HF1.o b e));have hnf:f1.Nodup:=by
       obtain⟨fA,e1,_⟩:=HAt.o.sub;have:=(List.nodup_cons.1 HNb.o).2;rw[e1,hfb,List.nodup_append] at this;exact(List.nodup_append.1 this.2.1).1
      have HCall:Hid (∀wq,Kp (wr.alloc (.cells ((ts[q]).hd.cells slq).toArray 48)) wq Nul->Calls prog 135 #[(ts[q]).hd.val slq,O I X,O I Y] wq fun e w'=>∃sl' fp',e=Q ((hmN f ts[q]).hd.val sl')/\HmR f ts[q] f1 wq w' sl' fp'):=fun wq kq=>by
       have kk:Kp wr wq Nul:=((Kp.refl wr Nul).alloc _).trans kq;exact IH.o ts[q] slq f1 wq (by have:=HSz.o;have:=Q4 ts q hqt;omega) (hno.mono (fun i hi=>kk.block i (F4 (hno.node i hi)) (fun x=>x))) hnf
      have hw1:=HN2.o.lt;have HNot:Hid ((¬w.heap.size∈f1)/\(¬wr.heap.size∈f1)):=⟨fun e=>by have:=HLt.o _ (List.mem_cons_of_mem _ (HF1.o _ e));omega,fun e=>by have:=F4 (hno.node _ e);omega⟩;have HNb2:Hid (b≠w.heap.size/\b≠wr.heap.size):=⟨by have:=HLt.o b List.mem_cons_self;omega,by have:=HLt.o b List.mem_cons_self;omega⟩;have HC:Hid (q<c):=(by show _<_;have:=HCL.o;omega);have hq0:(0:Int)<=(q:Int):=(by omega);have hqn:(q:Int)<(n:Int):=(by omega);have hkb:(q:Int)+1<=9223372036854775807:=(by have:=HLen.o;omega);have HSA:Hid (Blk (wr.alloc (.cells ((ts[q]).hd.cells slq).toArray 48)) w.heap.size (Hd.cells ⟨k,o',x,s,bb,ff,c1,r1,p1,q1,c2,r2,p2,q2⟩ (U (H ⟨b,0,G⟩) n c)) 48/\Blk (wr.alloc (.cells ((ts[q]).hd.cells slq).toArray 48)) wr.heap.size ((ts[q]).hd.cells slq) 48):=⟨HN1.o.alloc _,Blk.new _ _ _⟩
      clear hrg hno hfb hrs hnf hw1;obtain⟨hh,hhe⟩:=e_ ((ts[q]).hd);rw[hhe] at HRG HCall HSA;clear hhe;go_wp2_with (first
       | (refine wpList_load_mid rfl 48 (.tmp 29) rfl b (q*15) rfl (hh.cells slq) _ HRG.o underlying48 rfl j3 ?_)
       | (refine F9 rfl 48 (.tmp 8) (.tmp 30) rfl _ _ _ _ _ (by first|rfl|simp) rfl rfl rfl j3 (hh.one O3.o) ?_)
       | fail)
      refine wp_region_noPanic ?_;refine I0 (fun w':World=>Blk w' w.heap.size (Hd.cells ⟨k,o',x,s,bb,ff,c1,r1,p1,q1,c2,r2,p2,q2⟩ (U (H ⟨b,0,G⟩) n c)) 48/\Blk w' wr.heap.size (hh.cells slq) 48) (by kernel_rfl) ⟨HSA.o.1.kp (Kp.refl _ Nul).drew (fun x=>x),HSA.o.2.kp (Kp.refl _ Nul).drew (fun x=>x)⟩ (fun hHeld=>?_);refine tk 0 31 hHeld ?_;refine tk 1 32 hHeld ?_ (hy:=by intro w' hSw;have s0:=hSw.1.cell (i:=14) rfl;clear hSw;go_simp;try with_reducible rfl);refine tk 2 33 hHeld ?_;refine tk 3 34 hHeld ?_ (v:=T (hh.cells slq).toArray) (hy:=by exact fun w' hSw=>q9 48 (.tmp 8) rfl wr.heap.size 0 rfl (hh.cells slq) _ (j5 hSw.2) underlying48 rfl j3);refine tk 4 35 hHeld ?_;refine tk 5 36 hHeld ?_;refine D6 (i:=6) (by kernel_rfl) rfl rfl (fun K hK=>?_);go_simp;refine(HCall.o _ ((Kp.refl _ _).drew)).mono ?_
      rintro e w1 ⟨sl',f1',rfl,hR⟩;have kA:Kp wr w1 (fun i=>i∈f1):=(((Kp.refl wr _).alloc _).drew).trans hR.kp;have HR1:Hid (D2 w1 sl' (hmN f ts[q]) f1'/\f1'.Sublist f1/\Kp wr w1 (fun i=>i∈f1)):=⟨hR.own,hR.sub,kA⟩;have HSB:Hid ((fun w':World=>Blk w' w.heap.size (Hd.cells ⟨k,o',x,s,bb,ff,c1,r1,p1,q1,c2,r2,p2,q2⟩ (U (H ⟨b,0,G⟩) n c)) 48/\Blk w' wr.heap.size (hh.cells slq) 48) w1):=⟨(HSA.o.1.kp (Kp.refl _ Nul).drew (fun x=>x)).kp hR.kp HNot.o.1,(HSA.o.2.kp (Kp.refl _ Nul).drew (fun x=>x)).kp hR.kp HNot.o.2⟩;have O5:=h_ hR.own.one;refine hK.o _ _ HSB.o (fun hHeld=>?_);clear hK K hR kA HCall HSA;have TH:Hid (w1.there b (q*15) 15):=by
       obtain⟨cs,r1,r2⟩:=HAt.o.row;have hbn:=HBf.o;exact J5 ((HR1.o.2.2.block b (Array.getElem?_eq_some_iff.1 r1).1 hbn).trans r1) _ _ (by have:=HC.o;omega)
      refine tk 7 38 hHeld ?_;refine D6 (i:=8) (by kernel_rfl) rfl rfl (fun K hK=>?_);have HST:=h_ (HAt.o.step hqt (by rw[HL.o];exact HCL.o) HNb.o HFb.o HRs.o HR1.o.2.2 HR1.o.1 HR1.o.2.1);have HKX:Hid (Kp wr (w1.setCells b (q*15) ((hmN f ts[q]).hd.cells sl')) (fun i=>i∈b::fps)):=(HR1.o.2.2.mono (fun i _ q=>List.mem_cons_of_mem _ (HF1.o i q))).trans (O6 _ (by show b∈b::fps;exact List.mem_cons_self) _ _ _);have HSX:Hid ((fun w':World=>Blk w' w.heap.size (Hd.cells ⟨k,o',x,s,bb,ff,c1,r1,p1,q1,c2,r2,p2,q2⟩ (U (H ⟨b,0,G⟩) n c)) 48/\Blk w' wr.heap.size (hh.cells slq) 48) (w1.setCells b (q*15) ((hmN f ts[q]).hd.cells sl'))):=⟨HSB.o.1.kp (O6 (fun i=>i=b) rfl _ _ _) (fun e=>HNb2.o.1 e.symm),HSB.o.2.kp (O6 (fun i=>i=b) rfl _ _ _) (fun e=>HNb2.o.2 e.symm)⟩;generalize (hmN f ts[q]).hd=hu at *;refine wp_store_mid 48 (.tmp 38) (.tmp 37) rfl b (q*15) (hu.cells sl').toArray rfl rfl TH.o j3 (hu.one O5.o) ?_
      obtain⟨X',hX⟩:=e_ (w1.setCells b (q*15) (hu.cells sl'));show K _ (w1.setCells b (q*15) (hu.cells sl'));rw[hX] at HST HKX HSX ⊢;refine hK.o _ _ HSX.o (fun _=>?_);clear hK K hX HSB TH HR1 HSX hHeld;refine wpAnyH_done (by kernel_rfl) ?_ _;refine NoPanic.normal ?_;go_wp2_with fail;go_roundw
      case rel=>exact⟨q+1,fa++f1',f2,by omega,by go_num,HST.o,HKW.o.trans HKX.o⟩
      case measure=>simp only[RowKit.intOf];omega
     ·have hqe:q=n:=(by omega);subst hqe;have hqn:¬((q:Int)<(q:Int)):=(by omega);have HFin:Hid (∀w',Kp wr w' (fun i=>i=w.heap.size+1)->HmR f (.mk ⟨k,o',x,s,bb,ff,c1,r1,p1,q1,c2,r2,p2,q2⟩ ts) (b::fps) w w' (U (H ⟨b,0,G⟩) q c) (b::fa)):=fun w' kw=>by
       have hA:=HAt.o;rw[<- HL.o] at hA;obtain⟨f1,f2⟩:=hA.fin HTs.o (by rw[HL.o];exact HCL.o) HCm.o ⟨k,o',x,s,bb,ff,c1,r1,p1,q1,c2,r2,p2,q2⟩;rw[HL.o] at f1;refine⟨?_,f2,?_⟩
       ·rw[hmN,if_neg (by intro e;rcases e with e|e;exact HK5.o e;exact HK6.o e)];exact f1.mono (fun i hi=>kw.block i (F4 (f1.node i hi)) (fun e=>by have:i=w.heap.size+1:=e;have:=HLt.o i (f2.subset hi);omega))
       ·exact(HAt.o.kp.of_size kw (fun i hi e=>by have:i=w.heap.size+1:=e;omega))
      clear HAt IH HCL HCm HNb HTs HSz HL HLen hlt hq;go_wp2_with (first
       | (refine wpList_load_mid rfl _ (.tmp 3) rfl _ 0 rfl _ _ (j5 HN1.o) underlying48 rfl j3 ?_)
       | (refine D5 rfl _ (.tmp 6) (.tmp 40) rfl _ _ (Hd.cells ⟨k,o',x,s,bb,ff,c1,r1,p1,q1,c2,r2,p2,q2⟩ (U (H ⟨b,0,G⟩) q c)) _ HN2.o rfl rfl rfl j3 (Hd.one ⟨k,o',x,s,bb,ff,c1,r1,p1,q1,c2,r2,p2,q2⟩ rfl) ?_;intro w2 hb2 hk2)
       | fail)
      refine bodyPost_ret (results_cell_row rfl _ _ (w.heap.size+1) 48 _ (0,0) _ rfl hb2 underlying48 rfl j3) rfl ?_;first
      | exact⟨_,_,rfl,HFin.o w2 hk2⟩
      | exact⟨_,rfl,_,HFin.o w2 hk2⟩
theorem jDw (X Y:Int)(f:Turn)(hd:Hd)(sl:Value)(t':Nd)(w:World)(hs:sl.oneCell'=J)
 (HCk:Hid (∀wq,Kp w wq Nul->Calls prog 86 #[hd.val sl] wq fun e w'=>e=Q (O I 0)/\Kp wq w' Nul))
 (HCp:Hid (∀wq,Kp w wq Nul->Calls prog 66 #[hd.val sl] wq fun e w'=>∃sl' fp,e=Q (t'.hd.val sl')/\Own w' wq.heap.size sl' t' fp/\Kp wq w' Nul))
 (HSh:Hid (∀sl fp wq,D2 wq sl t' fp->fp.Nodup->Calls prog 135 #[t'.hd.val sl,O I X,O I Y] wq fun e w'=>∃sl' fp',e=Q ((hmN f t').hd.val sl')/\HmR f t' fp wq w' sl' fp')) :
 Calls prog 99 #[hd.val sl,O I X,O I Y] w fun e w'=>∃sl' fp,e=Q (au #[(hmN f t').hd.val sl',O I 0])/\Own w' w.heap.size sl' (hmN f t') fp/\Kp w w' Nul:=by
 have O1:=h_ hs;generalize (hmN f t').hd=hu at *;obtain⟨k,o',x,s,bb,ff,c1,r1,p1,q1,c2,r2,p2,q2⟩:=hd;obtain⟨W1,hW1⟩:=e_ ((w.alloc (.cells (Hd.cells ⟨k,o',x,s,bb,ff,c1,r1,p1,q1,c2,r2,p2,q2⟩ sl).toArray 48)).alloc (.cells #[O I 0,O I 0,ap ao 0,aq ⟨#[]⟩,E R,O I 0,O I 0,O I 0,E R,E R,O I 0,O I 0,E R,E R,U G 0 0] 48));have HW1:=h_ hW1;have K1:Hid (Kp w W1 Nul):=by show Kp _ _ _;rw[<- hW1];exact((Kp.refl w Nul).alloc _).alloc _
 have B1:Hid (∀X,Kp W1 X Nul->Blk X w.heap.size (Hd.cells ⟨k,o',x,s,bb,ff,c1,r1,p1,q1,c2,r2,p2,q2⟩ sl) 48):=fun aj hq=>by
  have:Blk W1 w.heap.size (Hd.cells ⟨k,o',x,s,bb,ff,c1,r1,p1,q1,c2,r2,p2,q2⟩ sl) 48:=by rw[<- hW1];exact(Blk.new w _ _).alloc _
  exact this.kp hq (fun x=>x)
 have B2:Hid (Blk W1 (w.heap.size+1) [O I 0,O I 0,ap ao 0,aq ⟨#[]⟩,E R,O I 0,O I 0,O I 0,E R,E R,O I 0,O I 0,E R,E R,U G 0 0] 48):=by
  show Blk _ _ _ _;rw[<- hW1];have:=Blk.new (w.alloc (.cells (Hd.cells ⟨k,o',x,s,bb,ff,c1,r1,p1,q1,c2,r2,p2,q2⟩ sl).toArray 48)) [O I 0,O I 0,ap ao 0,aq ⟨#[]⟩,E R,O I 0,O I 0,O I 0,E R,E R,O I 0,O I 0,E R,E R,U G 0 0] 48;rw[World.size_alloc] at this;exact this
 clear hW1 hs;go_enter func99,ntmps99;go_wp2_with (first|(rw[HW1.o];refine wpList_load_mid rfl _ (.tmp 3) rfl _ 0 rfl _ _ (j5 (B1.o _ (Kp.refl _ _))) underlying48 rfl j3 ?_)|fail);refine(HCk.o _ K1.o).mono ?_;rintro e w2 ⟨rfl,hk2⟩;have K2:=h_ hk2;clear hk2 HCk HW1;go_wp2_with (first|(refine wpList_load_mid rfl _ (.tmp 3) rfl _ 0 rfl _ _ (j5 (B1.o _ K2.o)) underlying48 rfl j3 ?_)|fail);refine(HCp.o _ (K1.o.trans K2.o)).mono ?_;rintro e w3 ⟨sl',fp,rfl,hown,hk3⟩;have K3:=h_ (K2.o.trans hk3);have HOw:=h_ hown;have HSz:=h_ (Nat.lt_of_lt_of_le B2.o.lt K2.o.size);clear hk3 hown HCp B1;go_wp2_with fail;refine(HSh.o sl' fp w3 HOw.o.own HOw.o.nodup).mono ?_;rintro e w4 ⟨sl2,fp2,rfl,hR⟩;have HR:=h_ hR;have HNf:Hid (∀i∈fp,w.heap.size+1<i):=fun i hi=>Nat.lt_of_lt_of_le HSz.o (HOw.o.new i hi).1
 have HB4:=h_ ((B2.o.kp K3.o (fun x=>x)).kp hR.kp (fun e=>Nat.lt_irrefl _ (HNf.o _ e)));have KA:=h_ fun X (k:Kp w4 X (fun i=>i=w.heap.size+1))=>((K1.o.trans K3.o).trans' HR.o.kp (fun i hi e=>by have:=HNf.o i e;omega)).trans' k (fun i hi e=>by have e':i=w.heap.size+1:=e;omega)
 have HF:Hid (∀X,Kp w4 X (fun i=>i=w.heap.size+1)->Own X w.heap.size sl2 (hmN f t') fp2):=fun X k=>⟨HR.o.own.mono (fun i hi=>k.block i (F4 (HR.o.own.node i hi)) (fun e=>by have e':i=w.heap.size+1:=e;have:=HNf.o i (HR.o.sub.subset hi);omega)),HR.o.sub.nodup HOw.o.nodup,fun i hi=>⟨by have:=HNf.o i (HR.o.sub.subset hi);omega,Nat.lt_of_lt_of_le (F4 (HR.o.own.node i hi)) k.size⟩⟩
 have O5:=h_ hR.own.one;clear hR HSh B2;go_wp2_with (first|(refine D5 rfl _ (.tmp 6) (.tmp 19) rfl _ _ (hu.cells sl2) _ HB4.o rfl rfl rfl j3 (hu.one O5.o) ?_;intro X hX kX)|fail);refine bodyPost_ret (R9 rfl _ _ (w.heap.size+1) 48 _ (0,0) _ rfl hX underlying48 rfl j3) rfl ?_;exact⟨sl2,fp2,rfl,HF.o X kX,KA.o X kX⟩
theorem jDv (X Y:Int)(hX:I64 X)(hY:I64 Y)(t:Nd)(sl:Value)(F:Nat->Prop)(w:World)(hok:t.ok)(hin:NdIn w F sl t)(hv:VS w)(hc:chk t=0):
 Calls prog 99 #[t.hd.val sl,O I X,O I Y] w fun e w'=>∃sl' fp,e=Q (au #[(hmN (shH X Y) (cpy t)).hd.val sl',O I 0])/\Own w' w.heap.size sl' (hmN (shH X Y) (cpy t)) fp/\Kp w w' Nul:=
 jDw X Y (shH X Y) t.hd sl (cpy t) w (hin.one)
  (fun wq k=>by have:=j4d t sl F wq hok (hin.kp k (fun _ _ x=>x)) (hv.kp k);rw[hc] at this;exact this)
  (fun wq k=>(j2x t sl F wq (by have:=j9A hc;omega) hok (hin.kp k (fun _ _ x=>x))).mono (by
   rintro e w' ⟨sl',fp,h1,h2,h3⟩;exact⟨sl',fp,h1,h2,Kp.of_below h3⟩))
  (fun sl fp wq h1 h2=>jE1 X Y hX hY _ (cpy t) sl fp wq (Nat.le_refl _) h1 h2)
end Go.Proofs.YtecjfnkakodebaaGreatDoor
