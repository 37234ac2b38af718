/-Move: ofMove's closure. -/
import Derived.Test.YtecjfnkakodebaaGreatDoorRmNvc
open Go.Proofs.Tryz
open Go.Value renaming int->O,bool->E,agg->T,pointer->an,tuple->au
open Go.IntKind renaming i64->I
open Bool renaming false->R,true->J
open Option renaming some->H,none->G
open Go.Ending renaming returned->Q
set_option maxRecDepth 20000
set_option maxHeartbeats 8000000
namespace Go.Proofs.YtecjfnkakodebaaGreatDoor
section
open Go.RowKit
theorem j0v {w:World}{b:Nat}{x y z u:Value}{t:TypeId}(h:Blk w b [x,y,z,u] t):w.rangeAt b 0 [x,y]:=J4 (pre:=[]) (l:=[x,y]) (post:=[z,u]) (by unfold Blk at h;rw[h];rfl)
theorem j6l {w:World}{b:Nat}{x y z u:Value}{t:TypeId}(h:Blk w b [x,y,z,u] t):w.rangeAt b 2 [z,u]:=J4 (pre:=[x,y]) (l:=[z,u]) (post:=[]) (by unfold Blk at h;rw[h];rfl)
theorem jBu (xf xt:Nat)(a1 a2 a3 a4 A1 A2 A3 A4 B1 B2 B3 B4 X1 X2 X3 X4:Int)(p q:Bool)(w:World)(hk:MvIn w xf xt ((A1,A2),(A3,A4)) ((B1,B2),(B3,B4)))
 (HP:Hid (∀w,Calls prog 104 #[T #[O I a1,O I a2,O I a3,O I a4],T #[O I A1,O I A2,O I A3,O I A4]] w fun e w'=>e=Q (E p)/\Kp w w' Nul))
 (HQ:Hid (∀w,Calls prog 104 #[T #[O I a1,O I a2,O I a3,O I a4],T #[O I B1,O I B2,O I B3,O I B4]] w fun e w'=>e=Q (E q)/\Kp w w' Nul))
 (HX:Hid (p=J->∀w,Calls prog 56 #[T #[O I a1,O I a2],T #[O I A1,O I A2],T #[O I B1,O I B2]] w fun e w'=>e=Q (T #[O I X1,O I X2])/\Kp w w' Nul))
 (HY:Hid (p=J->∀w,Calls prog 56 #[T #[O I a3,O I a4],T #[O I A1,O I A2],T #[O I B1,O I B2]] w fun e w'=>e=Q (T #[O I X3,O I X4])/\Kp w w' Nul)) :
 Calls prog 103 #[T #[O I a1,O I a2,O I a3,O I a4],an (H ⟨xf,0,G⟩),an (H ⟨xt,0,G⟩)] w fun e w'=>e=Q (if p then au #[T #[O I X1,O I X2,O I X3,O I X4],E J] else if q then au #[T #[O I 0,O I 0,O I 0,O I 0],E R] else au #[T #[O I a1,O I a2,O I a3,O I a4],E J])/\Kp w w' Nul:=by
 obtain⟨W,hW⟩:=e_ ((w.alloc (.cells #[O I a1,O I a2,O I a3,O I a4] 34)).alloc (.cells #[O I 0,O I 0,O I 0,O I 0] 34));have HW:=h_ hW;have kW:Hid (Kp w W Nul):=by show Kp _ _ _;rw[<- hW];exact((Kp.refl w Nul).alloc _).alloc _
 have HB0:Hid (∀wq,Kp W wq Nul->Blk wq w.heap.size [O I a1,O I a2,O I a3,O I a4] 34):=fun wq k=>by
  have:Blk W w.heap.size [O I a1,O I a2,O I a3,O I a4] 34:=by rw[<- hW];exact(Blk.new w _ _).alloc _
  exact this.kp k (fun x=>x)
 have HB1:Hid (∀wq,Kp W wq Nul->Blk wq (w.heap.size+1) [O I 0,O I 0,O I 0,O I 0] 34):=fun wq k=>by
  have:Blk W (w.heap.size+1) [O I 0,O I 0,O I 0,O I 0] 34:=by rw[<- hW];exact blk2
  exact this.kp k (fun x=>x)
 have HXf:=h_ fun wq (k:Kp W wq Nul)=>hk.c.kp (kW.o.trans k) (fun x=>x)
 have HXt:=h_ fun wq (k:Kp W wq Nul)=>hk.r.kp (kW.o.trans k) (fun x=>x)
 have g0:((w.alloc (.cells #[O I a1,O I a2,O I a3,O I a4] 34)).alloc (.cells #[O I 0,O I 0,O I 0,O I 0] 34)).cell? ⟨xf,0,G⟩=H (O I A1):=by rw[hW];exact(HXf.o W (Kp.refl _ _)).cell rfl
 have g1:((w.alloc (.cells #[O I a1,O I a2,O I a3,O I a4] 34)).alloc (.cells #[O I 0,O I 0,O I 0,O I 0] 34)).cell? ⟨xf,1,G⟩=H (O I A2):=by rw[hW];exact(HXf.o W (Kp.refl _ _)).cell rfl
 have g2:((w.alloc (.cells #[O I a1,O I a2,O I a3,O I a4] 34)).alloc (.cells #[O I 0,O I 0,O I 0,O I 0] 34)).cell? ⟨xf,2,G⟩=H (O I A3):=by rw[hW];exact(HXf.o W (Kp.refl _ _)).cell rfl
 have g3:((w.alloc (.cells #[O I a1,O I a2,O I a3,O I a4] 34)).alloc (.cells #[O I 0,O I 0,O I 0,O I 0] 34)).cell? ⟨xf,3,G⟩=H (O I A4):=by rw[hW];exact(HXf.o W (Kp.refl _ _)).cell rfl
 have HL:Hid (¬xf=w.heap.size+1/\¬xt=w.heap.size+1):=⟨by have:=hk.c.lt;omega,by have:=hk.r.lt;omega⟩;clear hW hk;go_enter func103,ntmps103;go_wp2_with fail;rw[HW.o] at g0 g1 g2 g3 ⊢;clear HW g0 g1 g2 g3;refine(HP.o W).mono ?_;rintro e w1 ⟨rfl,hk1⟩;have K1:=h_ hk1;have f0:=(HXt.o w1 hk1).c_ 0 rfl;have f1:=(HXt.o w1 hk1).c_ 1 rfl;have f2:=(HXt.o w1 hk1).c_ 2 rfl;have f3:=(HXt.o w1 hk1).c_ 3 rfl;have d0:=(HB0.o w1 hk1).c_ 0 rfl;have d1:=(HB0.o w1 hk1).c_ 1 rfl;have d2:=(HB0.o w1 hk1).c_ 2 rfl;have d3:=(HB0.o w1 hk1).c_ 3 rfl;clear hk1;cases p
 ·clear HX HY;go_wp2_with fail;refine(HQ.o w1).mono ?_;rintro e w2 ⟨rfl,hk2⟩;have K2:=h_ (K1.o.trans hk2);clear f0 f1 f2 f3 d0 d1 d2 d3;have f0:=(HXt.o w2 K2.o).c_ 0 rfl;have f1:=(HXt.o w2 K2.o).c_ 1 rfl;have f2:=(HXt.o w2 K2.o).c_ 2 rfl;have f3:=(HXt.o w2 K2.o).c_ 3 rfl;have d0:=(HB0.o w2 K2.o).c_ 0 rfl;have d1:=(HB0.o w2 K2.o).c_ 1 rfl;have d2:=(HB0.o w2 K2.o).c_ 2 rfl;have d3:=(HB0.o w2 K2.o).c_ 3 rfl;clear hk2;cases q
  ·go_wp2_with (first|(refine D5 rfl _ (.tmp 4) (.tmp 30) rfl _ _ [O I a1,O I a2,O I a3,O I a4] _ (HB1.o _ K2.o) rfl rfl rfl D7 (O8 _ _ _ _) ?_;intro Y hbY hkY)|fail);refine bodyPost_ret (R9 rfl _ _ (w.heap.size+1) 34 _ (0,0) _ rfl hbY underlying34 rfl D7) rfl ?_;exact⟨rfl,(kW.o.trans K2.o).trans' hkY (fun i hi e=>by have e':i=w.heap.size+1:=e;omega)⟩
  ·go_wp2_with (first|(refine D5 rfl _ (.tmp 4) (.tmp 29) rfl _ _ [O I 0,O I 0,O I 0,O I 0] _ (HB1.o _ K2.o) rfl rfl rfl D7 (O8 _ _ _ _) ?_;intro Y hbY hkY)|fail);refine bodyPost_ret (R9 rfl _ _ (w.heap.size+1) 34 _ (0,0) _ rfl hbY underlying34 rfl D7) rfl ?_;exact⟨rfl,(kW.o.trans K2.o).trans' hkY (fun i hi e=>by have e':i=w.heap.size+1:=e;omega)⟩
 ·go_wp2_with fail;have HX':=h_ fun w=>HX.o (by trivial) w
  have HY':=h_ fun w=>HY.o (by trivial) w
  clear HX HY f0 f1 f2 f3 d0 d1 d2 d3 HP HQ;have HS0:=h_ fun wq (k:Kp W wq (fun i=>i=(w.heap.size+1)))=>(HB0.o W (Kp.refl _ _)).kp k (fun e=>by have e':w.heap.size=w.heap.size+1:=e;omega)
  have HSf:=h_ fun wq (k:Kp W wq (fun i=>i=(w.heap.size+1)))=>(HXf.o W (Kp.refl _ _)).kp k (fun e=>HL.o.1 e)
  have HSt:=h_ fun wq (k:Kp W wq (fun i=>i=(w.heap.size+1)))=>(HXt.o W (Kp.refl _ _)).kp k (fun e=>HL.o.2 e)
  refine I0 (fun w':World=>Kp W w' (fun i=>i=(w.heap.size+1))) (by kernel_rfl) (K1.o.of_nul.drew) (fun hHeld=>?_);refine tk 0 10 hHeld ?_ (v:=an (H ⟨w.heap.size,0,G⟩));refine tk 1 11 hHeld ?_ (v:=T #[O I a1,O I a2]) (hy:=by exact fun w' hSw=>q9 32 (.tmp 10) rfl w.heap.size 0 rfl [O I a1,O I a2] _ (j0v (HS0.o w' hSw)) underlying32 rfl F5);refine tk 2 12 hHeld ?_ (v:=an (H ⟨xf,0,G⟩));refine tk 3 13 hHeld ?_ (v:=T #[O I A1,O I A2]) (hy:=by exact fun w' hSw=>q9 32 (.tmp 12) rfl xf 0 rfl [O I A1,O I A2] _ (j0v (HSf.o w' hSw)) underlying32 rfl F5);refine tk 4 14 hHeld ?_ (v:=an (H ⟨xt,0,G⟩));refine tk 5 15 hHeld ?_ (v:=T #[O I B1,O I B2]) (hy:=by exact fun w' hSw=>q9 _ _ rfl _ _ rfl _ _ (j0v (HSt.o w' hSw)) underlying32 rfl F5)
  refine tk 7 17 hHeld ?_ (v:=an (H ⟨w.heap.size,2,G⟩));refine tk 8 18 hHeld ?_ (v:=T #[O I a3,O I a4]) (hy:=by exact fun w' hSw=>q9 _ _ rfl _ _ rfl _ _ (j6l (HS0.o w' hSw)) underlying32 rfl F5);refine tk 9 19 hHeld ?_ (v:=an (H ⟨xf,0,G⟩));refine tk 10 20 hHeld ?_ (v:=T #[O I A1,O I A2]) (hy:=by exact fun w' hSw=>q9 _ _ rfl _ _ rfl _ _ (j0v (HSf.o w' hSw)) underlying32 rfl F5);refine tk 11 21 hHeld ?_ (v:=an (H ⟨xt,0,G⟩));refine tk 12 22 hHeld ?_ (v:=T #[O I B1,O I B2]) (hy:=by exact fun w' hSw=>q9 _ _ rfl _ _ rfl _ _ (j0v (HSt.o w' hSw)) underlying32 rfl F5);refine ts 6 fun K hK=>?_
  go_simp;refine(HX'.o _).mono ?_;rintro e v1 ⟨rfl,hk2⟩;have L1:=h_ (K1.o.drew.trans hk2);refine hK.o _ _ L1.o.of_nul (fun hHeld=>?_);clear hK K hk2
  (try simp only[Act.put,Sz0,Sz1,Sz2])
  refine ts 13 fun K hK=>?_
  go_simp;refine(HY'.o _).mono ?_;rintro e v2 ⟨rfl,hk2⟩;have L2:=h_ (L1.o.trans hk2);refine hK.o _ _ L2.o.of_nul (fun hHeld=>?_);clear hK K hk2
  (try simp only[Act.put,Sz0,Sz1,Sz2])
  refine ts 14 fun K hK=>?_
  go_simp;refine hK.o _ _ L2.o.of_nul (fun hHeld=>?_);clear hK K
  (try simp only[Act.put,Sz0,Sz1,Sz2])
  refine ts 15 fun K hK=>?_
  refine J2 34 (.tmp 4) (.tmp 24) rfl (w.heap.size+1) _ [O I X1,O I X2,O I X3,O I X4] _ (HB1.o _ L2.o) rfl rfl rfl D7 (O8 _ _ _ _) ?_;intro Y hbY hkY;have LY:=h_ (L2.o.of_nul.trans hkY);refine hK.o _ _ LY.o (fun hHeld=>?_);clear hK K
  (try simp only[Act.put])
  refine ts 16 fun K hK=>?_
  go_simp;refine hK.o _ _ LY.o (fun hHeld=>?_);clear hK K
  (try simp only[Act.put,Sz0,Sz1,Sz2])
  refine wpAnyH_done (by kernel_rfl) ?_ _;go_wp2_with fail;refine bodyPost_ret (R9 rfl _ _ (w.heap.size+1) 34 _ (0,0) _ rfl hbY underlying34 rfl D7) rfl ?_;exact⟨rfl,kW.o.trans' LY.o (fun i hi e=>by have e':i=w.heap.size+1:=e;omega)⟩
theorem jBt (xf xt:Nat)(A B:Ar4)(h:mvOk A B)(a:Ar4)(w:World)(hk:MvIn w xf xt A B):
 Calls prog 103 #[T #[O I a.1.1,O I a.1.2,O I a.2.1,O I a.2.2],an (H ⟨xf,0,G⟩),an (H ⟨xt,0,G⟩)] w fun e w'=>e=Q (R7 (mvF A B a))/\Kp w w' Nul:=by
 obtain⟨⟨a1,a2⟩,a3,a4⟩:=a;have hA:=(I2 A).1 h.a;have hB:=(I2 B).1 h.b;have key:(inB A (a1,a2)&&inB A (a3,a4))=J->(A.1.1<=a1/\a1<=A.2.1/\A.1.2<=a2/\a2<=A.2.2)/\(A.1.1<=a3/\a3<=A.2.1/\A.1.2<=a4/\a4<=A.2.2):=fun q=>by
  rw[Bool.and_eq_true,j0A h.a,j0A h.a] at q;exact q
 obtain⟨⟨A1,A2⟩,A3,A4⟩:=A;obtain⟨⟨B1,B2⟩,B3,B4⟩:=B;simp only at hA hB key;have hc:=jBu xf xt a1 a2 a3 a4 A1 A2 A3 A4 B1 B2 B3 B4 (a1+B1-A1) (a2+B2-A2) (a3+B1-A1) (a4+B2-A2) _ _ w hk (fun w=>j7R a1 a2 a3 a4 A1 A2 A3 A4 w) (fun w=>j7R a1 a2 a3 a4 B1 B2 B3 B4 w)
  (fun q w=>by
   have k:=key q;have:=j23 a1 a2 A1 A2 B1 B2 w;rw[X5 (by unfold I64;omega),X5 (by unfold I64;omega)] at this;exact this)
  (fun q w=>by
   have k:=key q;have:=j23 a3 a4 A1 A2 B1 B2 w;rw[X5 (by unfold I64;omega),X5 (by unfold I64;omega)] at this;exact this)
 refine hc.mono (fun e w' q=>⟨q.1.trans ?_,q.2⟩);unfold mvF inB mvP;simp only;cases (inA A1 A2 A3 A4 a1 a2&&inA A1 A2 A3 A4 a3 a4) <;> cases (inA B1 B2 B3 B4 a1 a2&&inA B1 B2 B3 B4 a3 a4) <;> rfl
end
section
open Go.RowKit Go.Maps
def mvK (xf xt:Nat) (A B:Ar4):FK:=⟨mvF A B,103,#[],#[an (H ⟨xf,0,G⟩),an (H ⟨xt,0,G⟩)],xf,xt,[O I A.1.1,O I A.1.2,O I A.2.1,O I A.2.2],[O I B.1.1,O I B.1.2,O I B.2.1,O I B.2.2],34⟩
theorem jDm (va:Array Value)(w:World):(callFunc 103 va).run prog w=.ok (.enter 103 va) w:=by simp[go_sem]
theorem jBT {xf xt:Nat}{A B:Ar4}(h:mvOk A B):(mvK xf xt A B).Ok:=⟨j24 h,j1P h,fun a w hk=>jBt xf xt A B h a w ⟨hk.c,hk.r⟩,jDm⟩
theorem OfM.brought_at (xf xt:Nat)(ArA ArB:Ar4)(hl:mvOk ArA ArB)(g:Nat)(L:List Cc)(w:World)(hg:GI 0 w g L)(hL:Ok17 L)(hk:MvIn w xf xt ArA ArB)(hv:VS w):
 Calls prog 64 #[T #[j1o xf xt],an (H ⟨g,0,G⟩)] w fun e w'=>∃g2 M,e=Q (au #[an (H ⟨g2,0,G⟩),E (F8 (mvF ArA ArB) L)])/\BrR (mvF ArA ArB) L w w' g2 M:=
 j4Q (mvK xf xt ArA ArB) (jBT hl) g L w hg hL ⟨hk.c,hk.r,.inr rfl⟩ hv
end
section
open Go.RowKit
section
variable {P:Program} {ops:Array Oper} {am:Exit->Act->World->Prop} {md:Region.Mode} {S:World->Prop}
end
theorem j0H {P:Program}{fn:Func}{p q:Tmp}{ty tz:TypeId}(h:fn.results=#[.cell p ty,.cell q tz])(tmps:Array Value)(w:World)(g:Nat)(t:TypeId)(cs:Array Value)(fr:Nat×Nat)(d:TypeDesc)(g':Nat)(t':TypeId)(cs':Array Value)(fr':Nat×Nat)(d':TypeDesc)
 (hp:tmps.getD p undef=an (H ⟨g,0,G⟩)) (hg:w.heap[g]? = H (.cells cs t fr)) (hu:P.underlying ty=H d) (hd:(match d with | .struct _ | .array _ _=>J|_=>R)=J) (hi:(P.info? ty).map (·.size)=H cs.size)
 (hq:tmps.getD q undef=an (H ⟨g',0,G⟩)) (hg':w.heap[g']? = H (.cells cs' t' fr')) (hu':P.underlying tz=H d') (hd':(match d' with | .struct _ | .array _ _=>J|_=>R)=J) (hi':(P.info? tz).map (·.size)=H cs'.size) :
 (results fn tmps).run P w=.ok (au #[T cs,T cs']) w:=by
 have hp':tmps[p]?.getD undef=an (H ⟨g,0,G⟩):=by simpa using hp
 have hq':tmps[q]?.getD undef=an (H ⟨g',0,G⟩):=by simpa using hq
 simp[results,h,hp',hq',asAddr,run_loadVar_row w g t ty cs fr d hg hu hd hi,run_loadVar_row w g' t' tz cs' fr' d' hg' hu' hd' hi']
end
end Go.Proofs.YtecjfnkakodebaaGreatDoor
