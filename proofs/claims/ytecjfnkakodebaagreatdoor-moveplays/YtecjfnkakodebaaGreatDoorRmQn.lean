/-formula's wellMade, all kinds but texts. -/
import Derived.Test.YtecjfnkakodebaaGreatDoorRmQf
import Derived.Test.YtecjfnkakodebaaGreatDoorRmQg
import Derived.Test.YtecjfnkakodebaaGreatDoorRmQh
import Derived.Test.YtecjfnkakodebaaGreatDoorRmQi
import Derived.Test.YtecjfnkakodebaaGreatDoorRmQj
import Derived.Test.YtecjfnkakodebaaGreatDoorRmQk
open Go.Proofs.Tryz
open Go.Value renaming int->O,bool->E,slice->U,float->ap,string->aq
open Go.IntKind renaming i64->I
open Bool renaming false->R,true->J
open Option renaming some->H,none->G
open Go.Ending renaming returned->Q
open Go.FloatKind renaming f64->ao
set_option maxRecDepth 20000
set_option maxHeartbeats 8000000
namespace Go.Proofs.YtecjfnkakodebaaGreatDoor
open Go.RowKit
theorem jEg (h:Hd)(n:Nat)(a:Option Addr)(c:Nat)(w:World)(h0:h.k<1∨9<h.k):
 Calls prog 164 #[h.val (U a n c)] w fun e w'=>e=Q (E (wm h n))/\Kp w w' Nul:=by
 have hV:Hid (wm h n=R):=by
  show _=_;unfold wm;rw[if_neg (by omega),if_neg (by omega),if_neg (by omega),if_neg (by omega),if_neg (by omega),if_neg (by omega),if_neg (by omega),if_neg (by omega),if_neg (by omega)]
 rw[hV.o];obtain⟨k,o,x,s,b,f,c1,r1,p1,q1,c2,r2,p2,q2⟩:=h;simp only at *;have e1:(k==1)=R:=by simp;omega
 have e2:(k==2)=R:=by simp;omega
 have e3:(k==3)=R:=by simp;omega
 have e4:(k==4)=R:=by simp;omega
 have e5:(k==5)=R:=by simp;omega
 have e6:(k==6)=R:=by simp;omega
 have e7:(k==7)=R:=by simp;omega
 have e8:(k==8)=R:=by simp;omega
 have e9:(k==9)=R:=by simp;omega
 clear hV h0;go_enter func164,ntmps164;go_wp2_with fail;go_ret;exact⟨rfl,by repeat (first|exact Kp.refl _ _|refine Kp.alloc ?_ _|refine Kp.drew ?_)⟩
theorem j7W {P:Program}{ops:Array Oper}{am:Exit->Act->World->Prop}{md:Region.Mode}{S:World->Prop}{i:Nat}{o:Oper}{n:Nat}{on:Array Bool}{a:Act}{w:World}(hr:Region.ready md ops on=[i])(ho:ops[i]? = H o)(hg:Region.wanted o (yielded ops a.tmps)=J)
 (h:∀K':Act->World->Prop,Hid (∀a w,S w->(S w->wpAnyH P md ops am S n (on.setIfInBounds i J) a w)->K' a w)->o.wp P a w K' am):wpAnyH P md ops am S (n+1) on a w:=by
 refine wpAnyH_all hr (by simp) (fun j hj=>?_);obtain rfl:=List.mem_singleton.1 hj;unfold wpOp;rw[ho];simp only[hg,if_true];exact .inl (h _ (fun a w hS hW=>⟨hS,hW hS⟩))
def j1a (w:World) (N:Nat) (h:Hd) (sl:Value) (s:ByteArray):Prop:=Blk w N (h.cells sl) 48/\(Blk w (N+1) (Hd.cells ⟨2,0,0,⟨#[]⟩,R,0,0,0,R,R,0,0,R,R⟩ (U G 0 0)) 48∨Blk w (N+1) (Hd.cells ⟨2,0,0,s,R,0,0,0,R,R,0,0,R,R⟩ (U G 0 0)) 48)
theorem jEi (o:Int)(x:Nat)(s:ByteArray)(b:Bool)(f c1 r1:Int)(p1 q1:Bool)(c2 r2:Int)(p2 q2:Bool)(n:Nat)(a:Option Addr)(c:Nat)(hx:x<18446744073709551616)(w:World)
 (aj:s.size<=1024->∀wq,Kp w wq Nul->Calls prog 117 #[aq s] wq fun e w'=>e=Q (E (Lib.validD s.data.toList))/\Kp wq w' Nul) :
 Calls prog 164 #[Hd.val ⟨2,o,x,s,b,f,c1,r1,p1,q1,c2,r2,p2,q2⟩ (U a n c)] w fun e w'=>e=Q (E (wm ⟨2,o,x,s,b,f,c1,r1,p1,q1,c2,r2,p2,q2⟩ n))/\Kp w w' Nul:=by
 have HS:Hid (∀w,Calls prog 101 #[Hd.val ⟨2,o,x,s,b,f,c1,r1,p1,q1,c2,r2,p2,q2⟩ (U a n c),Hd.val (⟨2,0,0,s,R,0,0,0,R,R,0,0,R,R⟩:Hd) (U G 0 0)] w fun e w'=>e=Q (E (j9 ⟨2,o,x,s,b,f,c1,r1,p1,q1,c2,r2,p2,q2⟩ (⟨2,0,0,s,R,0,0,0,R,R,0,0,R,R⟩:Hd)))/\Gr w w'):=fun w=>Y0 _ _ hx (show (0:Nat)<18446744073709551616 by decide) _ _ w
 have hV:Hid (wm ⟨2,o,x,s,b,f,c1,r1,p1,q1,c2,r2,p2,q2⟩ n=(decide (s.size<=1024)&&Lib.validD s.data.toList&&(n==0)&&j9 ⟨2,o,x,s,b,f,c1,r1,p1,q1,c2,r2,p2,q2⟩ (⟨2,0,0,s,R,0,0,0,R,R,0,0,R,R⟩:Hd))):=rfl;have HU0:=h_ aj;generalize wm ⟨2,o,x,s,b,f,c1,r1,p1,q1,c2,r2,p2,q2⟩ n=V at *;generalize j9 ⟨2,o,x,s,b,f,c1,r1,p1,q1,c2,r2,p2,q2⟩ (⟨2,0,0,s,R,0,0,0,R,R,0,0,R,R⟩:Hd)=Z at *;generalize Lib.validD s.data.toList=VD at *;clear hx aj;by_cases hl:s.size<=1024
 ·have HL:Hid (decide (s.size<=1024)=J):=by show _=_;simp[hl]
  have HU:=h_ (HU0.o hl);clear HU0;have hl':(s.size:Int)<=1024:=by omega
  obtain⟨W1,hW1⟩:=e_ ((w.alloc (.cells #[O I 2,O I o,ap ao x,aq s,E b,O I f,O I c1,O I r1,E p1,E q1,O I c2,O I r2,E p2,E q2,U a n c] 48)).alloc (.cells #[O I 2,O I 0,ap ao 0,aq ⟨#[]⟩,E R,O I 0,O I 0,O I 0,E R,E R,O I 0,O I 0,E R,E R,U G 0 0] 48));have k1:Kp w W1 Nul:=by rw[<- hW1];exact((Kp.refl w Nul).alloc _).alloc _
  have t1:j1a W1 w.heap.size ⟨2,o,x,s,b,f,c1,r1,p1,q1,c2,r2,p2,q2⟩ (U a n c) s:=by
   rw[<- hW1];refine⟨(Blk.new w (Hd.cells ⟨2,o,x,s,b,f,c1,r1,p1,q1,c2,r2,p2,q2⟩ (U a n c)) _).alloc _,.inl ?_⟩;have:=Blk.new (w.alloc (.cells #[O I 2,O I o,ap ao x,aq s,E b,O I f,O I c1,O I r1,E p1,E q1,O I c2,O I r2,E p2,E q2,U a n c] 48)) (Hd.cells ⟨2,0,0,⟨#[]⟩,R,0,0,0,R,R,0,0,R,R⟩ (U G 0 0)) 48;rw[World.size_alloc] at this;exact this
  have HW1:=h_ hW1;have HJ1:Hid (Blk W1 (w.heap.size+1) (Hd.cells ⟨2,0,0,⟨#[]⟩,R,0,0,0,R,R,0,0,R,R⟩ (U G 0 0)) 48):=by
   have:=Blk.new (w.alloc (.cells #[O I 2,O I o,ap ao x,aq s,E b,O I f,O I c1,O I r1,E p1,E q1,O I c2,O I r2,E p2,E q2,U a n c] 48)) (Hd.cells ⟨2,0,0,⟨#[]⟩,R,0,0,0,R,R,0,0,R,R⟩ (U G 0 0)) 48;rw[World.size_alloc] at this;rw[<- hW1];exact this
  have HT1:=h_ t1;have HK1:=h_ k1;clear t1 k1 hW1;go_enter func164,ntmps164;go_wp2_with fail;rw[HW1.o];refine wp_region_noPanic ?_;refine I0 (fun w':World=>j1a w' w.heap.size ⟨2,o,x,s,b,f,c1,r1,p1,q1,c2,r2,p2,q2⟩ (U a n c) s/\Kp w w' Nul) (by kernel_rfl) ⟨HT1.o,HK1.o.drew⟩ (fun hHeld=>?_);refine tk 0 21 hHeld ?_ (hy:=by intro w' hSw;have s0:=hSw.1.1.c_ 3 rfl;clear hSw;go_simp;try with_reducible rfl);refine tk 1 22 hHeld ?_ (hy:=by intro w' hSw;have s0:=hSw.1.1.c_ 3 rfl;clear hSw;go_simp;try with_reducible rfl);refine tk 2 23 hHeld ?_ (hy:=by intro w' hSw;have s0:=hSw.1.1.c_ 3 rfl;clear hSw;go_simp;try with_reducible rfl);refine tk 3 24 hHeld ?_ (hy:=by intro w' hSw;have s0:=hSw.1.1.c_ 3 rfl;clear hSw;go_simp;try with_reducible rfl);refine tk 4 25 hHeld ?_ (hy:=by intro w' hSw;have s0:=hSw.1.1.c_ 3 rfl;clear hSw;go_simp;try with_reducible rfl)
  refine tk 5 26 hHeld ?_ (hy:=by intro w' hSw;have s0:=hSw.1.1.c_ 3 rfl;clear hSw;go_simp;try with_reducible rfl);refine tk 6 27 hHeld ?_ (hy:=by intro w' hSw;have s0:=hSw.1.1.c_ 3 rfl;clear hSw;go_simp;try with_reducible rfl);refine tk 7 28 hHeld ?_ (hy:=by intro w' hSw;have s0:=hSw.1.1.c_ 3 rfl;clear hSw;go_simp;try with_reducible rfl);refine tk 8 29 hHeld ?_ (hy:=by intro w' hSw;have s0:=hSw.1.1.c_ 3 rfl;clear hSw;go_simp;try with_reducible rfl);refine tk 11 32 hHeld ?_ (hy:=by intro w' hSw;have s0:=hSw.1.1.c_ 3 rfl;clear hSw;go_simp;try with_reducible rfl);refine j7W (i:=9) (by kernel_rfl) rfl (by rfl) (fun K hK=>?_);go_simp;refine(HU.o _ hHeld.2).mono ?_;rintro e w2 ⟨rfl,hk2⟩;have hk12:Kp W1 w2 Nul:=((Kp.refl W1 Nul).drew).trans hk2;have B1:=HT1.o.1.kp hk12 (fun x=>x);have B2:=HJ1.o.kp hk12 (fun x=>x);have hS2:j1a w2 w.heap.size ⟨2,o,x,s,b,f,c1,r1,p1,q1,c2,r2,p2,q2⟩ (U a n c) s/\Kp w w2 Nul:=⟨⟨B1,.inl B2⟩,HK1.o.trans hk12⟩
  refine hK.o _ _ hS2 (fun hHeld2=>?_);have B3:Blk (w2.setCell ⟨w.heap.size+1,3,G⟩ (aq s)) w.heap.size (Hd.cells ⟨2,o,x,s,b,f,c1,r1,p1,q1,c2,r2,p2,q2⟩ (U a n c)) 48:=B1.other _ _ (by show w.heap.size≠w.heap.size+1;omega);have B4:=B2.set 3 (aq s);have K4:Kp w (w2.setCell ⟨w.heap.size+1,3,G⟩ (aq s)) Nul:=hS2.2.setCell _ _ (.inl (by show w.heap.size<=w.heap.size+1;omega));have HB3:Hid (j1a (w2.setCell ⟨w.heap.size+1,3,G⟩ (aq s)) w.heap.size ⟨2,o,x,s,b,f,c1,r1,p1,q1,c2,r2,p2,q2⟩ (U a n c) s/\Kp w (w2.setCell ⟨w.heap.size+1,3,G⟩ (aq s)) Nul):=⟨⟨B3,.inr B4⟩,K4⟩;have HB4:=h_ B4;have y1:=B2.c_ 3 rfl;have y2:=B2.froz 3;clear hK K hHeld hk2 hk12 B1 B2 B3 B4 K4 hS2 HU HT1 HK1 HJ1 HW1;refine tk 10 31 hHeld2 ?_;first
   | (refine D6 (i:=12) (by kernel_rfl) rfl rfl (fun K hK=>?_))
   | skip
  go_simp;refine hK.o _ _ HB3.o (fun hHeld3=>?_);clear hK K hHeld2 y1 y2;refine tk 13 4 hHeld3 ?_;refine wpAnyH_done (by kernel_rfl) ?_ _;refine NoPanic.normal ?_;clear hHeld3;have cn:(w2.setCell ⟨w.heap.size+1,3,G⟩ (aq s)).cell? ⟨w.heap.size,14,G⟩=H (U a n c):=HB3.o.1.1.cell rfl;have GK:=h_ fun w' (h:Gr (w2.setCell ⟨w.heap.size+1,3,G⟩ (aq s)) w')=>HB3.o.2.trans (Kp.of_gr h)
  generalize w2.setCell ⟨w.heap.size+1,3,G⟩ (aq s)=W3 at *;cases VD
  ·go_wp2_with fail;go_ret;exact⟨j4 (by rw[hV.o] <;> simp),HB3.o.2⟩
  ·by_cases hn:n=0
   ·subst hn;go_wp2_with (first|(refine U0 rfl (.tmp 1) rfl w.heap.size rfl (Hd.cells ⟨2,o,x,s,b,f,c1,r1,p1,q1,c2,r2,p2,q2⟩ (U a 0 c)).toArray HB3.o.1.1 rfl ?_)|(refine U0 rfl (.tmp 3) rfl (w.heap.size+1) rfl (Hd.cells ⟨2,0,0,s,R,0,0,0,R,R,0,0,R,R⟩ (U G 0 0)).toArray HB4.o rfl ?_)|(go_at_call 101;refine(HS.o _).mono ?_;rintro e w' ⟨rfl,hg⟩;have HG:=h_ (GK.o _ hg);clear hg));go_ret;exact⟨j4 (by rw[hV.o,HL.o] <;> simp),HG.o⟩
   ·have HN:Hid ((n==0)=R):=(by show _=_;simp[hn]);go_wp2_with fail;go_ret;exact⟨j4 (by rw[hV.o,HN.o] <;> simp),HB3.o.2⟩
 ·have HL:Hid (decide (s.size<=1024)=R):=by show _=_;simp[hl]
  have hl':¬(s.size:Int)<=1024:=by omega
  have hl2:decide ((s.size:Int)<=1024)=R:=by simp;omega
  have hl3:((s.size:Int)<=1024)=False:=by simp;omega
  clear HU0;go_enter func164,ntmps164;go_wp2_with fail
  go_region
  all_goals
   go_wp2_with fail;go_ret;exact⟨j4 (by rw[hV.o,HL.o] <;> simp),by repeat (first|exact Kp.refl _ _|refine Kp.alloc ?_ _|refine Kp.drew ?_)⟩
def VS (w:World):Prop:=∀(s:ByteArray) wq,s.size<=1024->Kp w wq Nul->Calls prog 117 #[aq s] wq fun e w'=>e=Q (E (Lib.validD s.data.toList))/\Kp wq w' Nul
theorem VS.kp {w w':World}(h:VS w)(hk:Kp w w' Nul):VS w':=fun s wq hs hq=>h s wq hs (hk.trans hq)
theorem jEb (h:Hd)(n:Nat)(a:Option Addr)(c:Nat)(hx:h.x<18446744073709551616)(w:World)(aj:VS w):
 Calls prog 164 #[h.val (U a n c)] w fun e w'=>e=Q (E (wm h n))/\Kp w w' Nul:=by
 by_cases h0:h.k<1∨9<h.k
 ·exact jEg h n a c w h0
 ·obtain⟨k,o,x,s,b,f,c1,r1,p1,q1,c2,r2,p2,q2⟩:=h;simp only at h0 hx;have hk:k=1∨k=2∨k=3∨k=4∨k=5∨k=6∨k=7∨k=8∨k=9:=by omega
  rcases hk with rfl|rfl|rfl|rfl|rfl|rfl|rfl|rfl|rfl
  ·exact jEh o x s b f c1 r1 p1 q1 c2 r2 p2 q2 n a c hx w
  ·exact jEi o x s b f c1 r1 p1 q1 c2 r2 p2 q2 n a c hx w (fun hs wq hq=>aj s wq hs hq)
  ·exact jEj o x s b f c1 r1 p1 q1 c2 r2 p2 q2 n a c hx w
  ·exact jEk o x s b f c1 r1 p1 q1 c2 r2 p2 q2 n a c hx w
  ·exact jEl o x s b f c1 r1 p1 q1 c2 r2 p2 q2 n a c hx w
  ·exact jEm o x s b f c1 r1 p1 q1 c2 r2 p2 q2 n a c hx w
  ·exact jEn o x s b f c1 r1 p1 q1 c2 r2 p2 q2 n a c hx w
  ·exact jEo o x s b f c1 r1 p1 q1 c2 r2 p2 q2 n a c hx w
  ·exact jEp o x s b f c1 r1 p1 q1 c2 r2 p2 q2 n a c hx w
theorem jCC (h:Hd)(n:Nat)(a:Option Addr)(c:Nat)(called:Bool)(hx:h.x<18446744073709551616)(w:World)(aj:VS w):
 Calls prog 149 #[h.val (U a n c),E called] w fun e w'=>e=Q (O I (ownE h n called))/\Kp w w' Nul:=by
 obtain⟨W1,hW1⟩:=e_ (w.alloc (.cells (h.cells (U a n c)).toArray 48));have k1:Kp w W1 Nul:=by rw[<- hW1];exact(Kp.refl w Nul).alloc _
 have b1:Blk W1 w.heap.size (h.cells (U a n c)) 48:=by rw[<- hW1];exact Blk.new w _ _
 have HW1:=h_ hW1;have HM:=h_ (jEb h n a c hx W1 (aj.kp k1));have HN:=h_ (jBU h (U a n c));have HV:=h_ Y8;have HC:=h_ fun w=>j91 h.s n w (jAh h.s)
 have hE:Hid (ownE h n called=if wm h n=R then 1 else if h.k=5 then (if vA h.c1 h.r1 h.c1 h.r1=J then 0 else 20) else if h.k=6 then (if vA h.c1 h.r1 h.c2 h.r2=J then (if called=J then 0 else 31) else 20) else if h.k=9 then j06 h.s n else 0):=rfl;have hnm:Hid (nmd h=if h.k=5 then (h.c1,h.r1,h.c1,h.r1) else if h.k=6 then (h.c1,h.r1,h.c2,h.r2) else (0,0,0,0)):=rfl;have HB:=k_ b1;have HK1:=h_ k1;generalize ownE h n called=ae at *;generalize wm h n=M at *;generalize j06 h.s n=CE at *;generalize nmd h=nm at *;clear hW1 k1 b1 aj hx;go_enter func149,ntmps149;go_wp2_with fail;rw[HW1.o];refine HM.o.mono ?_;rintro e w1 ⟨rfl,hk1⟩;have HK2:=h_ hk1;have hb:=HB.o w1 hk1;have x0:=hb.c_ 0 rfl;clear hk1 HM HW1;cases M
 ·clear hb;go_wp2_with fail;go_ret;exact⟨rInt (by rw[hE.o];rfl),HK1.o.trans HK2.o⟩
 ·have x3:=hb.c_ 3 rfl;have x14:=hb.c_ 14 rfl;have HBb:=h_ hb;clear hb;generalize hkk:h.k=kk at *;by_cases k5:kk=5
  ·subst k5;have hn5:nm=(h.c1,h.r1,h.c1,h.r1):=(by rw[hnm.o];rfl);go_wp2_with (first|(refine U0 rfl (.tmp 2) rfl w.heap.size rfl (h.cells (U a n c)).toArray HBb.o rfl ?_)|fail);refine(HN.o _).mono ?_;rintro e w2 ⟨rfl,hg2⟩;have x0':=hg2.cell (J7 x0) x0;have HG2:=h_ hg2;rw[hn5];clear hg2 x0 x3 x14 HBb HC;go_wp2_with fail;refine(HV.o _ _ _ _ _).mono ?_;rintro e w3 ⟨rfl,hg3⟩;have x0:=hg3.cell (J7 x0') x0';have HG3:=h_ (((HK1.o.trans HK2.o).trans (Kp.of_gr HG2.o)).trans (Kp.of_gr hg3));clear hg3 x0' HG2 HV HN;cases hvv:vA h.c1 h.r1 h.c1 h.r1
   ·have HVV:=h_ hvv;clear hvv;go_wp2_with fail;go_ret;exact⟨rInt (by rw[hE.o,HVV.o];rfl),HG3.o⟩
   ·have HVV:=h_ hvv;clear hvv;go_wp2_with fail;go_ret;exact⟨rInt (by rw[hE.o,HVV.o];rfl),HG3.o⟩
  ·by_cases k6:kk=6
   ·subst k6;have hn6:nm=(h.c1,h.r1,h.c2,h.r2):=(by rw[hnm.o];rfl);go_wp2_with (first|(refine U0 rfl (.tmp 2) rfl w.heap.size rfl (h.cells (U a n c)).toArray HBb.o rfl ?_)|fail);refine(HN.o _).mono ?_;rintro e w2 ⟨rfl,hg2⟩;have x0':=hg2.cell (J7 x0) x0;have HG2:=h_ hg2;rw[hn6];clear hg2 x0 x3 x14 HBb HC;go_wp2_with fail;refine(HV.o _ _ _ _ _).mono ?_;rintro e w3 ⟨rfl,hg3⟩;have x0:=hg3.cell (J7 x0') x0';have HG3:=h_ (((HK1.o.trans HK2.o).trans (Kp.of_gr HG2.o)).trans (Kp.of_gr hg3));clear hg3 x0' HG2 HV HN;cases hvv:vA h.c1 h.r1 h.c2 h.r2
    ·have HVV:=h_ hvv;clear hvv;go_wp2_with fail;go_ret;exact⟨rInt (by rw[hE.o,HVV.o];rfl),HG3.o⟩
    ·have HVV:=h_ hvv;clear hvv;cases called
     ·go_wp2_with fail;go_ret;exact⟨rInt (by rw[hE.o,HVV.o];rfl),HG3.o⟩
     ·go_wp2_with fail;go_ret;exact⟨rInt (by rw[hE.o,HVV.o];rfl),HG3.o⟩
   ·have e5:(kk==5)=R:=(by simpa using k5);have e6:(kk==6)=R:=(by simpa using k6);by_cases k9:kk=9
    ·subst k9;go_wp2_with (go_at_call 166;refine(HC.o _).mono ?_;rintro e w2 ⟨rfl,rfl⟩);go_ret;exact⟨rInt (by rw[hE.o];rfl),HK1.o.trans HK2.o⟩
    ·have e9:(kk==9)=R:=(by simpa using k9);have hE0:Hid (ae=0):=(by show _=_;rw[hE.o];simp[k5,k6,k9]);go_wp2_with fail;go_ret;exact⟨rInt hE0.o.symm,HK1.o.trans HK2.o⟩
end Go.Proofs.YtecjfnkakodebaaGreatDoor
