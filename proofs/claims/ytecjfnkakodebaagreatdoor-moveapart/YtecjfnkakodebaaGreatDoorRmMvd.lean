/-Move: ofLines. -/
import Derived.Test.YtecjfnkakodebaaGreatDoorRmMvc
import Derived.Test.YtecjfnkakodebaaGreatDoorRmIr
import Derived.Laws.AppendOwnNone
import Derived.Deep.CutBlock
import Derived.Deep.DeepCutAuto
open Go.Proofs.Tryz
open Go.Value renaming int->O,bool->E,slice->U,agg->T,pointer->an,float->ap,string->aq,tuple->au
open Go.IntKind renaming i64->I
open Bool renaming false->R,true->J
open Option renaming some->H,none->G
open Go.Ending renaming returned->Q
open Go.FloatKind renaming f64->ao
set_option maxRecDepth 20000
set_option maxHeartbeats 16000000
namespace Go.Proofs.YtecjfnkakodebaaGreatDoor
section
open Go.RowKit
def j1C (r:Option Ar4):Value:=match r with
 | none=>T #[O I 0,O I 0,O I 0,O I 0]
 | some b=>T #[O I b.1.1,O I b.1.2,O I b.2.1,O I b.2.2]
def R7 (r:Option Ar4):Value:=au #[j1C r,E r.isSome]
structure R4 (w:World) (xc xr:Nat) (cols:Bool) (at' n:Int):Prop where
 c:Blk w xc (spC (if cols then at' else 1) (if cols then n else 0) 256) 183
 r:Blk w xr (spC (if cols then 1 else at') (if cols then 0 else n) 4096) 183
theorem R4.kp {w w':World}{xc xr:Nat}{cols:Bool}{at' n:Int}(h:R4 w xc xr cols at' n)(k:Kp w w' Nul):R4 w' xc xr cols at' n:=⟨h.c.kp k (fun x=>x),h.r.kp k (fun x=>x)⟩
theorem j9p (cols:Bool)(at' n:Int)(a:Ar4)(X Y:Int×Int×Bool)(hX:X=thrV (thr (if cols then at' else 1) (if cols then n else 0) 256 a.1.1 a.2.1))(hY:Y=thrV (thr (if cols then 1 else at') (if cols then 0 else n) 4096 a.1.2 a.2.2)):
 R7 (lnF cols at' n a)=au #[if X.2.2&&Y.2.2 then T #[O I X.1,O I Y.1,O I X.2.1,O I Y.2.1] else T #[O I 0,O I 0,O I 0,O I 0],E (X.2.2&&Y.2.2)]:=by
 subst hX hY;unfold lnF;cases h1:thr (if cols then at' else 1) (if cols then n else 0) 256 a.1.1 a.2.1 with
 | none=>rfl
 | some x=>
  cases h2:thr (if cols then 1 else at') (if cols then 0 else n) 4096 a.1.2 a.2.2 with
  | none=>rfl
  | some y=>rfl
theorem j8s (xc xr:Nat)(cols:Bool)(at' n:Int)(h:lnOk cols at' n)(a:Ar4)(w:World)(hk:R4 w xc xr cols at' n):
 Calls prog 144 #[T #[U (H ⟨xc,0,G⟩) 2 2,U (H ⟨xr,0,G⟩) 2 2],T #[O I a.1.1,O I a.1.2,O I a.2.1,O I a.2.2]] w fun e w'=>e=Q (R7 (lnF cols at' n a))/\Kp w w' Nul:=by
 obtain⟨h1,h2⟩:=j5n h;rw[j9p cols at' n a _ _ rfl rfl];exact j8t xc xr _ _ _ _ _ _ w (fun wq k=>j7C _ _ _ _ _ xc wq h1 (by decide) (hk.kp k).c) (fun wq k=>j7C _ _ _ _ _ xr wq h2 (by decide) (hk.kp k).r)
abbrev Y6 (xc xr:Nat):Value:=.func (.func 144) #[T #[U (H ⟨xc,0,G⟩) 2 2,U (H ⟨xr,0,G⟩) 2 2]] #[]
theorem j54 (xc xr:Nat):([Y6 xc xr]:List Value).toArray.all (·.oneCell')=J:=by simp[Value.oneCell']
theorem j3K:(prog.info? 115).map (·.size)=H 1:=by kernel_rfl
theorem jBs (cols:Bool)(at' n:Int)(h:lnOk cols at' n)(w:World):Calls prog 107 #[E cols,O I at',O I n] w fun e w'=>∃xc xr,e=Q (au #[T #[Y6 xc xr],O I 0])/\R4 w' xc xr cols at' n/\Kp w w' Nul:=by
 have HS:=h_ fun (a:Int) (b:Int) (c:Int) (h1:LnOk a b c) (h2:c<=4096) w=>jE6 a b c h1 h2 w
 obtain⟨h1,h2,h3,h4⟩:=h;cases cols
 ·simp only[Bool.false_eq_true,if_false] at *;have n1:¬at'<1:=by omega
  have HL:Hid (LnOk at' n 4096):=⟨h1,h2,h3,h4⟩;go_enter func107,ntmps107;go_wp2_with fail;refine(HS.o 1 0 256 ⟨by decide,by decide,by decide,by decide⟩ (by decide) _).mono ?_;rintro e w1 ⟨x1,rfl,hb1,hx1,hk1⟩;have HB1:=h_ hb1;have HK1:Hid (Kp w w1 Nul):=((Kp.refl _ _).alloc _).trans hk1;have R1:=h_ ((Blk.new w _ _).kp hk1 (fun x=>x));clear hb1 hk1 hx1;go_wp2_with fail;refine(HS.o 1 0 4096 ⟨by decide,by decide,by decide,by decide⟩ (by decide) _).mono ?_;rintro e w2 ⟨x2,rfl,hb2,hx2,hk2⟩;have HB2:=h_ (HB1.o.kp hk2 (fun x=>x));have HC2:=h_ hb2;have R2:=h_ (R1.o.kp hk2 (fun x=>x));have HK2:=h_ (HK1.o.trans hk2);clear hb2 hk2 hx2 HB1 HK1 R1;go_wp2_with fail;refine(HS.o at' n 4096 HL.o (by decide) _).mono ?_;rintro e w3 ⟨x3,rfl,hb3,hx3,hk3⟩;have ka:Kp w2 w3 Nul:=((Kp.refl _ _).alloc _).trans hk3;have HB3:=h_ (HB2.o.kp ka (fun x=>x));have HC3:=h_ (HC2.o.kp ka (fun x=>x))
  have HD3:=h_ hb3;have R3:=h_ (R2.o.kp ka (fun x=>x));have HK3:=h_ (HK2.o.trans ka);have HLe:=h_ HK2.o.size;have bk:=(Blk.new w2 _ _).kp hk3 (fun x=>x);have k1:=bk.c_ 1 rfl;have k0:=bk.c_ 0 rfl;have z1:=bk.froz 1;have hWn:Hid (∀X,w3.setCell ⟨w2.heap.size,1,G⟩ (U (H ⟨x3,0,G⟩) 2 2)=X->Kp w3 X (fun i=>i=w2.heap.size)/\Blk X w2.heap.size [U (H ⟨x1,0,G⟩) 2 2,U (H ⟨x3,0,G⟩) 2 2] 169):=fun X e=>by
   subst e;exact⟨(Kp.refl w3 _).setCell _ _ (.inr rfl),bk.set 1 _⟩
  clear hb3 hx3 hk3 ka HB2 HC2 R2 HK2;obtain⟨X,hX⟩:=e_ (w3.setCell ⟨w2.heap.size,1,G⟩ (U (H ⟨x3,0,G⟩) 2 2));obtain⟨hkX,hbX⟩:=hWn.o X hX;have ne1:∀ {b:Nat} {cs:List Value},Blk w3 b cs 183->Blk X b cs 183:=fun h=>h.kp hkX (Blk.ne h bk (by decide))
  have RX:=h_ (R3.o.kp hkX (Blk.ne R3.o bk (by decide)));have BX:Hid (R4 X x1 x3 R at' n):=⟨ne1 HB3.o,ne1 HD3.o⟩;have KX:=h_ (HK3.o.trans' hkX (fun i hi e=>by have:i=w2.heap.size:=e;have:=HLe.o;omega));have q0:X.cell? ⟨w2.heap.size,0,G⟩=H ([U (H ⟨x1,0,G⟩) 2 2,U (H ⟨x3,0,G⟩) 2 2][0]):=hbX.cell rfl;have q1:X.cell? ⟨w2.heap.size,1,G⟩=H ([U (H ⟨x1,0,G⟩) 2 2,U (H ⟨x3,0,G⟩) 2 2][1]):=hbX.cell rfl;simp only[List.getElem_cons_zero,List.getElem_cons_succ] at q0 q1;clear ne1 hkX hbX bk HB3 HC3 HD3 R3 HK3 hWn;go_wp2_with (first|(refine D5 rfl _ (.tmp 6) (.tmp 46) rfl _ _ [Y6 x1 x3] _ RX.o rfl rfl rfl j3K (j54 _ _) ?_;intro w4 hb4 hk4)|fail);have y0:=hb4.c_ 0 rfl;have hKw:=KX.o.trans' hk4 (fun i hi e=>by have:i=w.heap.size:=e;omega);have hBw:R4 w4 x1 x3 R at' n:=⟨BX.o.c.kp hk4 (Blk.ne BX.o.c RX.o (by decide)),BX.o.r.kp hk4 (Blk.ne BX.o.r RX.o (by decide))⟩
  refine bodyPost_ret (v:=au #[T #[Y6 x1 x3],O I 0]) (by simp[results,results107,go_sem,y0]) rfl ?_;exact⟨_,_,rfl,hBw,hKw⟩
 ·simp only[if_true] at *;have n1:¬at'<1:=by omega
  have HL:Hid (LnOk at' n 256):=⟨h1,h2,h3,h4⟩;go_enter func107,ntmps107;go_wp2_with fail;refine(HS.o 1 0 256 ⟨by decide,by decide,by decide,by decide⟩ (by decide) _).mono ?_;rintro e w1 ⟨x1,rfl,hb1,hx1,hk1⟩;have HB1:=h_ hb1;have HK1:Hid (Kp w w1 Nul):=((Kp.refl _ _).alloc _).trans hk1;have R1:=h_ ((Blk.new w _ _).kp hk1 (fun x=>x));clear hb1 hk1 hx1;go_wp2_with fail;refine(HS.o 1 0 4096 ⟨by decide,by decide,by decide,by decide⟩ (by decide) _).mono ?_;rintro e w2 ⟨x2,rfl,hb2,hx2,hk2⟩;have HB2:=h_ (HB1.o.kp hk2 (fun x=>x));have HC2:=h_ hb2;have R2:=h_ (R1.o.kp hk2 (fun x=>x));have HK2:=h_ (HK1.o.trans hk2);clear hb2 hk2 hx2 HB1 HK1 R1;go_wp2_with fail;refine(HS.o at' n 256 HL.o (by decide) _).mono ?_;rintro e w3 ⟨x3,rfl,hb3,hx3,hk3⟩;have ka:Kp w2 w3 Nul:=((Kp.refl _ _).alloc _).trans hk3;have HB3:=h_ (HB2.o.kp ka (fun x=>x));have HC3:=h_ (HC2.o.kp ka (fun x=>x))
  have HD3:=h_ hb3;have R3:=h_ (R2.o.kp ka (fun x=>x));have HK3:=h_ (HK2.o.trans ka);have HLe:=h_ HK2.o.size;have bk:=(Blk.new w2 _ _).kp hk3 (fun x=>x);have k1:=bk.c_ 1 rfl;have k0:=bk.c_ 0 rfl;have z1:=bk.froz 0;have hWn:Hid (∀X,w3.setCell ⟨w2.heap.size,0,G⟩ (U (H ⟨x3,0,G⟩) 2 2)=X->Kp w3 X (fun i=>i=w2.heap.size)/\Blk X w2.heap.size [U (H ⟨x3,0,G⟩) 2 2,U (H ⟨x2,0,G⟩) 2 2] 169):=fun X e=>by
   subst e;exact⟨(Kp.refl w3 _).setCell _ _ (.inr rfl),bk.set 0 _⟩
  clear hb3 hx3 hk3 ka HB2 HC2 R2 HK2;obtain⟨X,hX⟩:=e_ (w3.setCell ⟨w2.heap.size,0,G⟩ (U (H ⟨x3,0,G⟩) 2 2));obtain⟨hkX,hbX⟩:=hWn.o X hX;have ne1:∀ {b:Nat} {cs:List Value},Blk w3 b cs 183->Blk X b cs 183:=fun h=>h.kp hkX (Blk.ne h bk (by decide))
  have RX:=h_ (R3.o.kp hkX (Blk.ne R3.o bk (by decide)));have BX:Hid (R4 X x3 x2 J at' n):=⟨ne1 HD3.o,ne1 HC3.o⟩;have KX:=h_ (HK3.o.trans' hkX (fun i hi e=>by have:i=w2.heap.size:=e;have:=HLe.o;omega));have q0:X.cell? ⟨w2.heap.size,0,G⟩=H ([U (H ⟨x3,0,G⟩) 2 2,U (H ⟨x2,0,G⟩) 2 2][0]):=hbX.cell rfl;have q1:X.cell? ⟨w2.heap.size,1,G⟩=H ([U (H ⟨x3,0,G⟩) 2 2,U (H ⟨x2,0,G⟩) 2 2][1]):=hbX.cell rfl;simp only[List.getElem_cons_zero,List.getElem_cons_succ] at q0 q1;clear ne1 hkX hbX bk HB3 HC3 HD3 R3 HK3 hWn;go_wp2_with (first|(refine D5 rfl _ (.tmp 6) (.tmp 46) rfl _ _ [Y6 x3 x2] _ RX.o rfl rfl rfl j3K (j54 _ _) ?_;intro w4 hb4 hk4)|fail);have y0:=hb4.c_ 0 rfl;have hKw:=KX.o.trans' hk4 (fun i hi e=>by have:i=w.heap.size:=e;omega);have hBw:R4 w4 x3 x2 J at' n:=⟨BX.o.c.kp hk4 (Blk.ne BX.o.c RX.o (by decide)),BX.o.r.kp hk4 (Blk.ne BX.o.r RX.o (by decide))⟩
  refine bodyPost_ret (v:=au #[T #[Y6 x3 x2],O I 0]) (by simp[results,results107,go_sem,y0]) rfl ?_;exact⟨_,_,rfl,hBw,hKw⟩
theorem jBr (cols:Bool)(at' n:Int)(h:¬lnOk cols at' n)(w:World):Calls prog 107 #[E cols,O I at',O I n] w fun e w'=>e=Q (au #[T #[.nilFunc],O I 1])/\Kp w w' Nul:=by
 have hb:at'<1∨(if cols then 256 else 4096)<at'∨n < -(if cols then 256 else 4096)∨(if cols then 256 else 4096)<n:=by
  refine Classical.byContradiction fun q=>h ?_
  cases cols
  ·simp only[Bool.false_eq_true,if_false] at q;exact⟨by omega,by simp;omega,by simp;omega,by simp;omega⟩
  ·simp only[if_true] at q;exact⟨by omega,by simp;omega,by simp;omega,by simp;omega⟩
 clear h;cases cols
 ·simp only[Bool.false_eq_true,if_false] at hb;go_enter func107,ntmps107;go_wp2_with fail;all_goals first
   | (exfalso;omega)
   | (
    refine bodyPost_ret (v:=au #[T #[.nilFunc],O I 1]) (by simp[results,results107,go_sem]) rfl ?_;exact⟨rfl,(Kp.refl _ _).alloc _⟩)
 ·simp only[if_true] at hb;go_enter func107,ntmps107;go_wp2_with fail;all_goals first
   | (exfalso;omega)
   | (
    refine bodyPost_ret (v:=au #[T #[.nilFunc],O I 1]) (by simp[results,results107,go_sem]) rfl ?_;exact⟨rfl,(Kp.refl _ _).alloc _⟩)
def nmS (f:Fate) (h:Hd) (sl:Value):Value:=match f (nmA h) with
 | none=>U G 0 0
 | some _=>sl
theorem j5 {w:World}{b:Nat}{cs:List Value}{t:TypeId}(h:Blk w b cs t):w.rangeAt b 0 cs:=fun j v hj=>by
 rw[Nat.zero_add];exact h.cell hj
theorem j1v (a b:Int):(([O I a,O I b]:List Value).toArray.all (·.oneCell'))=J:=by simp[Value.oneCell']
theorem F5:(prog.info? 32).map (·.size)=H 2:=by kernel_rfl
structure FK where
 f:Fate
 fid:FuncId
 pre:Array Value
 post:Array Value
 x:Nat
 y:Nat
 cx:List Value
 cy:List Value
 ty:TypeId
abbrev FK.val (FZ:FK):Value:=.func (.func FZ.fid) FZ.pre FZ.post
structure FK.In (FZ:FK) (w:World):Prop where
 c:Blk w FZ.x FZ.cx FZ.ty
 r:Blk w FZ.y FZ.cy FZ.ty
 ty:FZ.ty=183∨FZ.ty=34
theorem FK.In.kp {FZ:FK}{w w':World}(h:FZ.In w)(k:Kp w w' Nul):FZ.In w':=⟨h.c.kp k (fun x=>x),h.r.kp k (fun x=>x),h.ty⟩
structure FK.Ok (FZ:FK):Prop where
 ok:U3 FZ.f
 inj:j15 FZ.f
 at':∀(a:Ar4) (w:World),FZ.In w->Calls prog FZ.fid (FZ.pre.push (T #[O I a.1.1,O I a.1.2,O I a.2.1,O I a.2.2])++FZ.post) w fun e w'=>e=Q (R7 (FZ.f a))/\Kp w w' Nul
 run:∀(va:Array Value) (w:World),(callFunc FZ.fid va).run prog w=.ok (.enter FZ.fid va) w
theorem jBV (FZ:FK)(h:FZ.Ok)(hd:Hd)(ts:List Nd)(sl:Value)(hs:sl.oneCell'=J)(w:World)(hk:FZ.In w):
 Calls prog 142 #[T #[FZ.val],hd.val sl] w fun e w'=>e=Q ((nmN (FZ.f) (.mk hd ts)).hd.val (nmS (FZ.f) hd sl))/\Kp w w' Nul:=by
 have HF:=h_ fun (a:Ar4) wq (k:Kp w wq Nul)=>h.at' a wq (hk.kp k)
 have HA:=h_ fun (c:Int) (r:Int) w=>j4H c r w
 have HRun:=h_ h.run;generalize FZ.f=f at *;clear hk h;have HO:=h_ hs;obtain⟨k,o',x,s,bb,ff,c1,r1,p1,q1,c2,r2,p2,q2⟩:=hd;clear hs;by_cases hk6:k=6
 ·subst hk6;have hAr:nmA (Hd.mk 6 o' x s bb ff c1 r1 p1 q1 c2 r2 p2 q2)=((c1,r1),(c2,r2)):=by unfold nmA;rw[if_pos rfl]
  have hFr:=HF.o ((c1,r1),(c2,r2));have HV:Hid (R7 (f ((c1,r1),(c2,r2)))=R7 (f ((c1,r1),(c2,r2)))):=rfl;rw[show nmN f (Nd.mk (Hd.mk 6 o' x s bb ff c1 r1 p1 q1 c2 r2 p2 q2) ts)=(match f ((c1,r1),(c2,r2)) with|none=>ndF|some a=>.mk (toH (Hd.mk 6 o' x s bb ff c1 r1 p1 q1 c2 r2 p2 q2) a) ts) by unfold nmN;rw[<- hAr];rfl];rw[show nmS f (Hd.mk 6 o' x s bb ff c1 r1 p1 q1 c2 r2 p2 q2) sl=(match f ((c1,r1),(c2,r2)) with|none=>U G 0 0|some _=>sl) by unfold nmS;rw[<- hAr];try rfl];have HFr:=h_ hFr;clear hAr hFr HF HV;generalize f ((c1,r1),(c2,r2))=af at *;go_enter func142,ntmps142;go_wp2_with fail;obtain⟨W0,hW0⟩:=e_ (((w.alloc (.cells #[FZ.val] 115)).alloc (.cells #[O I 6,O I o',ap ao x,aq s,E bb,O I ff,O I c1,O I r1,E p1,E q1,O I c2,O I r2,E p2,E q2,sl] 48)).alloc (.cells #[O I 0,O I 0,ap ao 0,aq ⟨#[]⟩,E R,O I 0,O I 0,O I 0,E R,E R,O I 0,O I 0,E R,E R,U G 0 0] 48))
  rw[hW0];have k0:Kp w W0 Nul:=by rw[<- hW0];exact(((Kp.refl w Nul).alloc _).alloc _).alloc _
  have b0:Blk W0 w.heap.size [FZ.val] 115:=by rw[<- hW0];exact((Blk.new w _ _).alloc _).alloc _
  have b1:Blk W0 (w.heap.size+1) [O I 6,O I o',ap ao x,aq s,E bb,O I ff,O I c1,O I r1,E p1,E q1,O I c2,O I r2,E p2,E q2,sl] 48:=by
   rw[<- hW0];have:=Blk.new (w.alloc (.cells #[FZ.val] 115)) [O I 6,O I o',ap ao x,aq s,E bb,O I ff,O I c1,O I r1,E p1,E q1,O I c2,O I r2,E p2,E q2,sl] 48;rw[World.size_alloc] at this;exact this.alloc _
  have b2:Blk W0 (w.heap.size+1+1) [O I 0,O I 0,ap ao 0,aq ⟨#[]⟩,E R,O I 0,O I 0,O I 0,E R,E R,O I 0,O I 0,E R,E R,U G 0 0] 48:=by
   rw[<- hW0];have:=Blk.new ((w.alloc (.cells #[FZ.val] 115)).alloc (.cells #[O I 6,O I o',ap ao x,aq s,E bb,O I ff,O I c1,O I r1,E p1,E q1,O I c2,O I r2,E p2,E q2,sl] 48)) [O I 0,O I 0,ap ao 0,aq ⟨#[]⟩,E R,O I 0,O I 0,O I 0,E R,E R,O I 0,O I 0,E R,E R,U G 0 0] 48;rw[World.size_alloc,World.size_alloc] at this;exact this
  clear hW0;refine(HA.o c1 r1 _).mono ?_;rintro e w1 ⟨rfl,hk1⟩;have K1:=h_ (k0.trans hk1);have hsz:w.heap.size+3<=w1.heap.size:=by have:=(b2.kp hk1 (fun x=>x)).lt;omega
  obtain⟨W1,hW1⟩:=e_ (w1.alloc (.cells #[O I c1,O I r1,O I c1,O I r1] 34));have k1a:Kp w1 W1 Nul:=by rw[<- hW1];exact(Kp.refl _ _).alloc _
  have bA:Blk W1 w1.heap.size [O I c1,O I r1,O I c1,O I r1] 34:=by rw[<- hW1];exact Blk.new _ _ _
  have k01:=hk1.trans k1a;have HB0:=h_ (b0.kp k01 (fun x=>x));have HB1:=h_ (b1.kp k01 (fun x=>x));have HB2:=h_ (b2.kp k01 (fun x=>x));have HBA:=h_ bA;have KW1:=h_ (K1.o.trans k1a);have HSZ:=h_ hsz;have d0:W1.cell? ⟨(w.heap.size+1),0,G⟩=H (O I 6):=HB1.o.cell rfl;have d10:W1.cell? ⟨(w.heap.size+1),10,G⟩=H (O I c2):=HB1.o.cell rfl;have d11:W1.cell? ⟨(w.heap.size+1),11,G⟩=H (O I r2):=HB1.o.cell rfl;clear k0 b0 b1 b2 hk1 hsz k1a bA k01;go_wp2_with (first|(refine L8 rfl 32 (.tmp 17) (.tmp 16) rfl w1.heap.size 2 [O I c1,O I r1] [O I c1,O I r1] [] [O I c2,O I r2] _ HBA.o rfl rfl rfl rfl F5 (j1v _ _) ?_;intro W2 hbA2 hk2;have e0:W2.cell? ⟨w1.heap.size,0,G⟩=H (O I c1):=hbA2.cell rfl;have e1:W2.cell? ⟨w1.heap.size,1,G⟩=H (O I r1):=hbA2.cell rfl;have e2:W2.cell? ⟨w1.heap.size,2,G⟩=H (O I c2):=hbA2.cell rfl;have e3:W2.cell? ⟨w1.heap.size,3,G⟩=H (O I r2):=hbA2.cell rfl;have f0:W2.cell? ⟨w.heap.size,0,G⟩=H (FZ.val):=(HB0.o.kp hk2 (Blk.ne HB0.o HBA.o (by decide))).cell rfl)|fail)
  have HC0:=h_ (HB0.o.kp hk2 (Blk.ne HB0.o HBA.o (by decide)));have HC1:=h_ (HB1.o.kp hk2 (Blk.ne HB1.o HBA.o (by decide)));have HC2:=h_ (HB2.o.kp hk2 (Blk.ne HB2.o HBA.o (by decide)));have HCA:=h_ hbA2;have KW2:=h_ (KW1.o.trans' hk2 (fun i hi e=>by have:i=w1.heap.size:=e;have:=HSZ.o;omega));clear hk2 hbA2 HB0 HB1 HB2 HBA KW1 d0 d10 d11 e0 e1 e2 e3 f0;rw[HRun.o];refine(HFr.o _ KW2.o).mono ?_;rintro e W3 ⟨rfl,hk3⟩;have HD1:=h_ (HC1.o.kp hk3 (fun x=>x));have HD2:=h_ (HC2.o.kp hk3 (fun x=>x));have HDA:=h_ (HCA.o.kp hk3 (fun x=>x));have KW3:=h_ (KW2.o.trans hk3);clear hk3 HC0 HC1 HC2 HCA KW2 HFr HA;have LE:Hid (∀i,i=(w.heap.size+1)∨i=(w.heap.size+1+1)∨i=w1.heap.size->¬i<w.heap.size):=fun i hi=>by have:=HSZ.o;omega
  cases af with
  | none=>
   simp only[R7,j1C,Option.isSome];go_wp2_with (first
    | (refine D5 rfl 34 (.tmp 5) (.tmp 23) rfl w1.heap.size _ [O I 0,O I 0,O I 0,O I 0] _ HDA.o rfl rfl rfl D7 (O8 _ _ _ _) ?_;intro W4 hbA4 hk4;have HE2:Hid (Blk W4 (w.heap.size+1+1) [O I 0,O I 0,ap ao 0,aq ⟨#[]⟩,E R,O I 0,O I 0,O I 0,E R,E R,O I 0,O I 0,E R,E R,U G 0 0] 48):=HD2.o.kp hk4 (Blk.ne HD2.o HDA.o (by decide)))
    | (refine D5 rfl 48 (.tmp 4) (.tmp 27) rfl (w.heap.size+1+1) _ [O I 4,O I 0,ap ao 0,aq ⟨#[]⟩,E R,O I 4,O I 0,O I 0,E R,E R,O I 0,O I 0,E R,E R,U G 0 0] _ HE2.o rfl rfl rfl j3 (Hd.one ⟨4,0,0,⟨#[]⟩,R,4,0,0,R,R,0,0,R,R⟩ rfl) ?_;intro W5 hb5 hk5)
    | fail)
   refine bodyPost_ret (results_cell_row rfl _ _ (w.heap.size+1+1) 48 _ (0,0) _ rfl hb5 underlying48 rfl j3) rfl ?_;refine⟨rfl,(KW3.o.trans' hk4 (fun i hi e=>LE.o i (.inr (.inr e)) hi)).trans' hk5 (fun i hi e=>LE.o i (.inr (.inl e)) hi)⟩
  | some b=>
   obtain⟨⟨b1,s1⟩,⟨b2,s2⟩⟩:=b;simp only[R7,j1C,Option.isSome];go_wp2_with (first
    | (refine D5 rfl 34 (.tmp 5) (.tmp 23) rfl w1.heap.size _ [O I b1,O I s1,O I b2,O I s2] _ HDA.o rfl rfl rfl D7 (O8 _ _ _ _) ?_;intro W4 hbA4 hk4;have HE1:Hid (Blk W4 (w.heap.size+1) [O I 6,O I o',ap ao x,aq s,E bb,O I ff,O I c1,O I r1,E p1,E q1,O I c2,O I r2,E p2,E q2,sl] 48):=HD1.o.kp hk4 (Blk.ne HD1.o HDA.o (by decide));have HE2:Hid (Blk W4 (w.heap.size+1+1) [O I 0,O I 0,ap ao 0,aq ⟨#[]⟩,E R,O I 0,O I 0,O I 0,E R,E R,O I 0,O I 0,E R,E R,U G 0 0] 48):=HD2.o.kp hk4 (Blk.ne HD2.o HDA.o (by decide));have e0:W4.cell? ⟨w1.heap.size,0,G⟩=H (O I b1):=hbA4.cell rfl;have e1:W4.cell? ⟨w1.heap.size,1,G⟩=H (O I s1):=hbA4.cell rfl)
    | (refine L8 rfl 32 (.tmp 31) (.tmp 29) rfl (w.heap.size+1) 6 [O I 6,O I o',ap ao x,aq s,E bb,O I ff] [O I c1,O I r1] [E p1,E q1,O I c2,O I r2,E p2,E q2,sl] [O I b1,O I s1] _ HE1.o rfl rfl rfl rfl F5 (j1v _ _) ?_;intro W5 hb5 hk5;have g0:W5.cell? ⟨(w.heap.size+1),0,G⟩=H (O I 6):=hb5.cell rfl;have HF2:Hid (Blk W5 (w.heap.size+1+1) [O I 0,O I 0,ap ao 0,aq ⟨#[]⟩,E R,O I 0,O I 0,O I 0,E R,E R,O I 0,O I 0,E R,E R,U G 0 0] 48):=HE2.o.kp hk5 (by show ¬(w.heap.size+1+1)=(w.heap.size+1);omega);have hbA5:=hbA4.kp hk5 (Blk.ne hbA4 HE1.o (by decide));have e2:W5.cell? ⟨w1.heap.size,2,G⟩=H (O I b2):=hbA5.cell rfl;have e3:W5.cell? ⟨w1.heap.size,3,G⟩=H (O I s2):=hbA5.cell rfl)
    | (refine L8 rfl 32 (.tmp 38) (.tmp 36) rfl (w.heap.size+1) 10 [O I 6,O I o',ap ao x,aq s,E bb,O I ff,O I b1,O I s1,E p1,E q1] [O I c2,O I r2] [E p2,E q2,sl] [O I b2,O I s2] _ hb5 rfl rfl rfl rfl F5 (j1v _ _) ?_;intro W6 hb6 hk6;have HG1:Hid (Blk W6 (w.heap.size+1) [O I 6,O I o',ap ao x,aq s,E bb,O I ff,O I b1,O I s1,E p1,E q1,O I b2,O I s2,E p2,E q2,sl] 48):=hb6;have HG2:Hid (Blk W6 (w.heap.size+1+1) [O I 0,O I 0,ap ao 0,aq ⟨#[]⟩,E R,O I 0,O I 0,O I 0,E R,E R,O I 0,O I 0,E R,E R,U G 0 0] 48):=HF2.o.kp hk6 (by show ¬(w.heap.size+1+1)=(w.heap.size+1);omega))
    | (refine wpList_load_mid rfl 48 (.tmp 3) rfl (w.heap.size+1) 0 rfl [O I 6,O I o',ap ao x,aq s,E bb,O I ff,O I b1,O I s1,E p1,E q1,O I b2,O I s2,E p2,E q2,sl] _ (j5 HG1.o) underlying48 rfl j3 ?_)
    | (refine D5 rfl 48 (.tmp 4) (.tmp 39) rfl (w.heap.size+1+1) _ [O I 6,O I o',ap ao x,aq s,E bb,O I ff,O I b1,O I s1,E p1,E q1,O I b2,O I s2,E p2,E q2,sl] _ HG2.o rfl rfl rfl j3 (Hd.one ⟨6,o',x,s,bb,ff,b1,s1,p1,q1,b2,s2,p2,q2⟩ HO.o) ?_;intro W7 hb7 hk7)
    | fail)
   refine bodyPost_ret (results_cell_row rfl _ _ (w.heap.size+1+1) 48 _ (0,0) _ rfl hb7 underlying48 rfl j3) rfl ?_;exact⟨rfl,(((KW3.o.trans' hk4 (fun i hi e=>LE.o i (.inr (.inr e)) hi)).trans' hk5 (fun i hi e=>LE.o i (.inl e) hi)).trans' hk6 (fun i hi e=>LE.o i (.inl e) hi)).trans' hk7 (fun i hi e=>LE.o i (.inr (.inl e)) hi)⟩
 ·have hAr:nmA (Hd.mk k o' x s bb ff c1 r1 p1 q1 c2 r2 p2 q2)=((c1,r1),(c1,r1)):=by unfold nmA;rw[if_neg (show ¬k=6 from hk6)]
  have hFr:=HF.o ((c1,r1),(c1,r1));have HV:Hid (R7 (f ((c1,r1),(c1,r1)))=R7 (f ((c1,r1),(c1,r1)))):=rfl;rw[show nmN f (Nd.mk (Hd.mk k o' x s bb ff c1 r1 p1 q1 c2 r2 p2 q2) ts)=(match f ((c1,r1),(c1,r1)) with|none=>ndF|some a=>.mk (toH (Hd.mk k o' x s bb ff c1 r1 p1 q1 c2 r2 p2 q2) a) ts) by unfold nmN;rw[<- hAr];rfl];rw[show nmS f (Hd.mk k o' x s bb ff c1 r1 p1 q1 c2 r2 p2 q2) sl=(match f ((c1,r1),(c1,r1)) with|none=>U G 0 0|some _=>sl) by unfold nmS;rw[<- hAr];try rfl];have HFr:=h_ hFr;clear hAr hFr HF HV;generalize f ((c1,r1),(c1,r1))=af at *;go_enter func142,ntmps142;go_wp2_with fail;obtain⟨W0,hW0⟩:=e_ (((w.alloc (.cells #[FZ.val] 115)).alloc (.cells #[O I k,O I o',ap ao x,aq s,E bb,O I ff,O I c1,O I r1,E p1,E q1,O I c2,O I r2,E p2,E q2,sl] 48)).alloc (.cells #[O I 0,O I 0,ap ao 0,aq ⟨#[]⟩,E R,O I 0,O I 0,O I 0,E R,E R,O I 0,O I 0,E R,E R,U G 0 0] 48))
  rw[hW0];have k0:Kp w W0 Nul:=by rw[<- hW0];exact(((Kp.refl w Nul).alloc _).alloc _).alloc _
  have b0:Blk W0 w.heap.size [FZ.val] 115:=by rw[<- hW0];exact((Blk.new w _ _).alloc _).alloc _
  have b1:Blk W0 (w.heap.size+1) [O I k,O I o',ap ao x,aq s,E bb,O I ff,O I c1,O I r1,E p1,E q1,O I c2,O I r2,E p2,E q2,sl] 48:=by
   rw[<- hW0];have:=Blk.new (w.alloc (.cells #[FZ.val] 115)) [O I k,O I o',ap ao x,aq s,E bb,O I ff,O I c1,O I r1,E p1,E q1,O I c2,O I r2,E p2,E q2,sl] 48;rw[World.size_alloc] at this;exact this.alloc _
  have b2:Blk W0 (w.heap.size+1+1) [O I 0,O I 0,ap ao 0,aq ⟨#[]⟩,E R,O I 0,O I 0,O I 0,E R,E R,O I 0,O I 0,E R,E R,U G 0 0] 48:=by
   rw[<- hW0];have:=Blk.new ((w.alloc (.cells #[FZ.val] 115)).alloc (.cells #[O I k,O I o',ap ao x,aq s,E bb,O I ff,O I c1,O I r1,E p1,E q1,O I c2,O I r2,E p2,E q2,sl] 48)) [O I 0,O I 0,ap ao 0,aq ⟨#[]⟩,E R,O I 0,O I 0,O I 0,E R,E R,O I 0,O I 0,E R,E R,U G 0 0] 48;rw[World.size_alloc,World.size_alloc] at this;exact this
  clear hW0;refine(HA.o c1 r1 _).mono ?_;rintro e w1 ⟨rfl,hk1⟩;have K1:=h_ (k0.trans hk1);have hsz:w.heap.size+3<=w1.heap.size:=by have:=(b2.kp hk1 (fun x=>x)).lt;omega
  obtain⟨W1,hW1⟩:=e_ (w1.alloc (.cells #[O I c1,O I r1,O I c1,O I r1] 34));have k1a:Kp w1 W1 Nul:=by rw[<- hW1];exact(Kp.refl _ _).alloc _
  have bA:Blk W1 w1.heap.size [O I c1,O I r1,O I c1,O I r1] 34:=by rw[<- hW1];exact Blk.new _ _ _
  have k01:=hk1.trans k1a;have HB0:=h_ (b0.kp k01 (fun x=>x));have HB1:=h_ (b1.kp k01 (fun x=>x));have HB2:=h_ (b2.kp k01 (fun x=>x));have HBA:=h_ bA;have KW1:=h_ (K1.o.trans k1a);have HSZ:=h_ hsz;have d0:W1.cell? ⟨(w.heap.size+1),0,G⟩=H (O I k):=HB1.o.cell rfl;have d10:W1.cell? ⟨(w.heap.size+1),10,G⟩=H (O I c2):=HB1.o.cell rfl;have d11:W1.cell? ⟨(w.heap.size+1),11,G⟩=H (O I r2):=HB1.o.cell rfl;clear k0 b0 b1 b2 hk1 hsz k1a bA k01;have e0:W1.cell? ⟨w1.heap.size,0,G⟩=H (O I c1):=HBA.o.cell rfl;have e1:W1.cell? ⟨w1.heap.size,1,G⟩=H (O I r1):=HBA.o.cell rfl;have e2:W1.cell? ⟨w1.heap.size,2,G⟩=H (O I c1):=HBA.o.cell rfl;have e3:W1.cell? ⟨w1.heap.size,3,G⟩=H (O I r1):=HBA.o.cell rfl;have f0:W1.cell? ⟨w.heap.size,0,G⟩=H (FZ.val):=HB0.o.cell rfl;go_wp2_with fail;have HC0:=HB0;have HC1:=HB1
  have HC2:=HB2;have HCA:=HBA;have KW2:=KW1;clear HB0 HB1 HB2 HBA KW1 d0 d10 d11 e0 e1 e2 e3 f0;rw[HRun.o];refine(HFr.o _ KW2.o).mono ?_;rintro e W3 ⟨rfl,hk3⟩;have HD1:=h_ (HC1.o.kp hk3 (fun x=>x));have HD2:=h_ (HC2.o.kp hk3 (fun x=>x));have HDA:=h_ (HCA.o.kp hk3 (fun x=>x));have KW3:=h_ (KW2.o.trans hk3);clear hk3 HC0 HC1 HC2 HCA KW2 HFr HA;have LE:Hid (∀i,i=(w.heap.size+1)∨i=(w.heap.size+1+1)∨i=w1.heap.size->¬i<w.heap.size):=fun i hi=>by have:=HSZ.o;omega
  cases af with
  | none=>
   simp only[R7,j1C,Option.isSome];go_wp2_with (first
    | (refine D5 rfl 34 (.tmp 5) (.tmp 23) rfl w1.heap.size _ [O I 0,O I 0,O I 0,O I 0] _ HDA.o rfl rfl rfl D7 (O8 _ _ _ _) ?_;intro W4 hbA4 hk4;have HE2:Hid (Blk W4 (w.heap.size+1+1) [O I 0,O I 0,ap ao 0,aq ⟨#[]⟩,E R,O I 0,O I 0,O I 0,E R,E R,O I 0,O I 0,E R,E R,U G 0 0] 48):=HD2.o.kp hk4 (Blk.ne HD2.o HDA.o (by decide)))
    | (refine D5 rfl 48 (.tmp 4) (.tmp 27) rfl (w.heap.size+1+1) _ [O I 4,O I 0,ap ao 0,aq ⟨#[]⟩,E R,O I 4,O I 0,O I 0,E R,E R,O I 0,O I 0,E R,E R,U G 0 0] _ HE2.o rfl rfl rfl j3 (Hd.one ⟨4,0,0,⟨#[]⟩,R,4,0,0,R,R,0,0,R,R⟩ rfl) ?_;intro W5 hb5 hk5)
    | fail)
   refine bodyPost_ret (results_cell_row rfl _ _ (w.heap.size+1+1) 48 _ (0,0) _ rfl hb5 underlying48 rfl j3) rfl ?_;refine⟨rfl,(KW3.o.trans' hk4 (fun i hi e=>LE.o i (.inr (.inr e)) hi)).trans' hk5 (fun i hi e=>LE.o i (.inr (.inl e)) hi)⟩
  | some b=>
   obtain⟨⟨b1,s1⟩,⟨b2,s2⟩⟩:=b;simp only[R7,j1C,Option.isSome];go_wp2_with (first
    | (refine D5 rfl 34 (.tmp 5) (.tmp 23) rfl w1.heap.size _ [O I b1,O I s1,O I b2,O I s2] _ HDA.o rfl rfl rfl D7 (O8 _ _ _ _) ?_;intro W4 hbA4 hk4;have HE1:Hid (Blk W4 (w.heap.size+1) [O I k,O I o',ap ao x,aq s,E bb,O I ff,O I c1,O I r1,E p1,E q1,O I c2,O I r2,E p2,E q2,sl] 48):=HD1.o.kp hk4 (Blk.ne HD1.o HDA.o (by decide));have HE2:Hid (Blk W4 (w.heap.size+1+1) [O I 0,O I 0,ap ao 0,aq ⟨#[]⟩,E R,O I 0,O I 0,O I 0,E R,E R,O I 0,O I 0,E R,E R,U G 0 0] 48):=HD2.o.kp hk4 (Blk.ne HD2.o HDA.o (by decide));have e0:W4.cell? ⟨w1.heap.size,0,G⟩=H (O I b1):=hbA4.cell rfl;have e1:W4.cell? ⟨w1.heap.size,1,G⟩=H (O I s1):=hbA4.cell rfl)
    | (refine L8 rfl 32 (.tmp 31) (.tmp 29) rfl (w.heap.size+1) 6 [O I k,O I o',ap ao x,aq s,E bb,O I ff] [O I c1,O I r1] [E p1,E q1,O I c2,O I r2,E p2,E q2,sl] [O I b1,O I s1] _ HE1.o rfl rfl rfl rfl F5 (j1v _ _) ?_;intro W5 hb5 hk5;have g0:W5.cell? ⟨(w.heap.size+1),0,G⟩=H (O I k):=hb5.cell rfl;have HF2:Hid (Blk W5 (w.heap.size+1+1) [O I 0,O I 0,ap ao 0,aq ⟨#[]⟩,E R,O I 0,O I 0,O I 0,E R,E R,O I 0,O I 0,E R,E R,U G 0 0] 48):=HE2.o.kp hk5 (by show ¬(w.heap.size+1+1)=(w.heap.size+1);omega);have hbA5:=hbA4.kp hk5 (Blk.ne hbA4 HE1.o (by decide));have e2:W5.cell? ⟨w1.heap.size,2,G⟩=H (O I b2):=hbA5.cell rfl;have e3:W5.cell? ⟨w1.heap.size,3,G⟩=H (O I s2):=hbA5.cell rfl;have HG1:Hid (Blk W5 (w.heap.size+1) [O I k,O I o',ap ao x,aq s,E bb,O I ff,O I b1,O I s1,E p1,E q1,O I c2,O I r2,E p2,E q2,sl] 48):=hb5;have HG2:Hid (Blk W5 (w.heap.size+1+1) [O I 0,O I 0,ap ao 0,aq ⟨#[]⟩,E R,O I 0,O I 0,O I 0,E R,E R,O I 0,O I 0,E R,E R,U G 0 0] 48):=HF2.o)
    | (refine wpList_load_mid rfl 48 (.tmp 3) rfl (w.heap.size+1) 0 rfl [O I k,O I o',ap ao x,aq s,E bb,O I ff,O I b1,O I s1,E p1,E q1,O I c2,O I r2,E p2,E q2,sl] _ (j5 HG1.o) underlying48 rfl j3 ?_)
    | (refine D5 rfl 48 (.tmp 4) (.tmp 39) rfl (w.heap.size+1+1) _ [O I k,O I o',ap ao x,aq s,E bb,O I ff,O I b1,O I s1,E p1,E q1,O I c2,O I r2,E p2,E q2,sl] _ HG2.o rfl rfl rfl j3 (Hd.one ⟨k,o',x,s,bb,ff,b1,s1,p1,q1,c2,r2,p2,q2⟩ HO.o) ?_;intro W7 hb7 hk7)
    | fail)
   refine bodyPost_ret (results_cell_row rfl _ _ (w.heap.size+1+1) 48 _ (0,0) _ rfl hb7 underlying48 rfl j3) rfl ?_;refine⟨?_,((KW3.o.trans' hk4 (fun i hi e=>LE.o i (.inr (.inr e)) hi)).trans' hk5 (fun i hi e=>LE.o i (.inl e) hi)).trans' hk7 (fun i hi e=>LE.o i (.inr (.inl e)) hi)⟩;show Q _=Q ((toH (Hd.mk k o' x s bb ff c1 r1 p1 q1 c2 r2 p2 q2) ((b1,s1),(b2,s2))).val sl);unfold toH;rw[if_neg (show ¬k=6 from hk6)]
def inB (A:Ar4) (p:Int×Int):Bool:=inA A.1.1 A.1.2 A.2.1 A.2.2 p.1 p.2
def mvP (A B:Ar4) (p:Int×Int):Int×Int:=(p.1+B.1.1-A.1.1,p.2+B.1.2-A.1.2)
def mvF (A B:Ar4):Fate:=fun a=>if (inB A a.1&&inB A a.2)=J then H (mvP A B a.1,mvP A B a.2) else if (inB B a.1&&inB B a.2)=J then G else H a
structure mvOk (A B:Ar4):Prop where
 a:Ar4.ok A=J
 b:Ar4.ok B=J
 c:B.2.1-B.1.1=A.2.1-A.1.1
 r:B.2.2-B.1.2=A.2.2-A.1.2
theorem j0A {A:Ar4}(h:Ar4.ok A=J)(p:Int×Int):inB A p=J↔A.1.1<=p.1/\p.1<=A.2.1/\A.1.2<=p.2/\p.2<=A.2.2:=by
 have h':vA A.1.1 A.1.2 A.2.1 A.2.2=J:=h;unfold inB inA;rw[h'];simp only[Bool.and_eq_true,decide_eq_true_eq,true_and];omega
theorem j24 {A B:Ar4}(h:mvOk A B):U3 (mvF A B):=by
 have ha:=(I2 A).1 h.a;have hb:=(I2 B).1 h.b;have hc:=h.c;have hr:=h.r;refine⟨fun a b hok e=>?_,fun p b e=>?_⟩
 ·unfold mvF at e;by_cases q:(inB A a.1&&inB A a.2)=J
  ·rw[if_pos q] at e;injection e with e;subst e;rw[Bool.and_eq_true,j0A h.a,j0A h.a] at q;rw[I2] at hok ⊢;unfold mvP;simp only;omega
  ·rw[if_neg q] at e;by_cases q2:(inB B a.1&&inB B a.2)=J
   ·rw[if_pos q2] at e;cases e
   ·rw[if_neg q2] at e;injection e with e;rw[<- e];exact hok
 ·unfold mvF at e;by_cases q:(inB A p&&inB A p)=J
  ·rw[if_pos q] at e;injection e with e;rw[<- e]
  ·rw[if_neg q] at e;by_cases q2:(inB B p&&inB B p)=J
   ·rw[if_pos q2] at e;cases e
   ·rw[if_neg q2] at e;injection e with e;rw[<- e]
theorem j1P {A B:Ar4}(h:mvOk A B):j15 (mvF A B):=by
 have hc:=h.c;have hr:=h.r;intro p q b b' hp hq hne e e' heq;have key:∀(x:Int×Int) (d:Ar4),mvF A B (x,x)=H d->(inB A x=J/\d.1=mvP A B x)∨(¬inB A x=J/\¬inB B x=J/\d.1=x):=fun x d ed=>by
  unfold mvF at ed;simp only[Bool.and_self] at ed;by_cases q:inB A x=J
  ·rw[if_pos q] at ed;injection ed with ed;exact .inl ⟨q,by rw[<- ed]⟩
  ·rw[if_neg q] at ed;by_cases q2:inB B x=J
   ·rw[if_pos q2] at ed;cases ed
   ·rw[if_neg q2] at ed;injection ed with ed;exact .inr ⟨q,q2,by rw[<- ed]⟩
 have hneq:p.1≠q.1∨p.2≠q.2:=by
  by_cases h1:p.1=q.1
  ·exact .inr (fun h2=>hne (Prod.ext h1 h2))
  ·exact .inl h1
 rcases key p b e with ⟨u,v⟩|⟨u,u2,v⟩ <;> rcases key q b' e' with ⟨x,y⟩|⟨x,x2,y⟩
 ·rw[v,y] at heq;unfold mvP at heq;have:=Prod.mk.inj heq;omega
 ·refine x2 ?_;rw[j0A h.b];rw[j0A h.a] at u;rw[<- y,<- heq,v];unfold mvP;simp only;omega
 ·refine u2 ?_;rw[j0A h.b];rw[j0A h.a] at x;rw[<- v,heq,y];unfold mvP;simp only;omega
 ·exact hne (v.symm.trans (heq.trans y))
structure MvIn (w:World) (xf xt:Nat) (A B:Ar4):Prop where
 c:Blk w xf [O I A.1.1,O I A.1.2,O I A.2.1,O I A.2.2] 34
 r:Blk w xt [O I B.1.1,O I B.1.2,O I B.2.1,O I B.2.2] 34
theorem MvIn.kp {w w':World}{xf xt:Nat}{A B:Ar4}(h:MvIn w xf xt A B)(k:Kp w w' Nul):MvIn w' xf xt A B:=⟨h.c.kp k (fun x=>x),h.r.kp k (fun x=>x)⟩
abbrev j1o (xf xt:Nat):Value:=.func (.func 103) #[] #[an (H ⟨xf,0,G⟩),an (H ⟨xt,0,G⟩)]
theorem j7R (a1 a2 a3 a4 c1 c2 c3 c4:Int)(w:World):
 Calls prog 104 #[T #[O I a1,O I a2,O I a3,O I a4],T #[O I c1,O I c2,O I c3,O I c4]] w fun e w'=>e=Q (E (inA c1 c2 c3 c4 a1 a2&&inA c1 c2 c3 c4 a3 a4))/\Kp w w' Nul:=by
 have HI:Hid (∀x y w,Calls prog 20 #[T #[O I c1,O I c2,O I c3,O I c4],T #[O I x,O I y]] w fun e w'=>e=Q (E (inA c1 c2 c3 c4 x y))/\Kp w w' Nul):=fun x y w=>(j6D c1 c2 c3 c4 x y w).mono fun e w' h=>⟨h.1,Kp.of_gr h.2⟩
 have HI1:=HI.o a1 a2;have HI2:=HI.o a3 a4;generalize inA c1 c2 c3 c4 a1 a2=p at *;generalize inA c1 c2 c3 c4 a3 a4=q at *;have HI1:=h_ HI1;have HI2:=h_ HI2;clear HI;obtain⟨W,hW⟩:=e_ ((w.alloc (.cells #[O I a1,O I a2,O I a3,O I a4] 34)).alloc (.cells #[O I c1,O I c2,O I c3,O I c4] 34));have HW:=h_ hW;have kW:Hid (Kp w W Nul):=by show Kp _ _ _;rw[<- hW];exact((Kp.refl w Nul).alloc _).alloc _
 have B0:Hid (∀wq,Kp W wq Nul->Blk wq w.heap.size [O I a1,O I a2,O I a3,O I a4] 34):=fun wq k=>by
  have:Blk W w.heap.size [O I a1,O I a2,O I a3,O I a4] 34:=by rw[<- hW];exact(Blk.new w _ _).alloc _
  exact this.kp k (fun x=>x)
 have B1:Hid (∀wq,Kp W wq Nul->Blk wq (w.heap.size+1) [O I c1,O I c2,O I c3,O I c4] 34):=fun wq k=>by
  have:Blk W (w.heap.size+1) [O I c1,O I c2,O I c3,O I c4] 34:=by
   rw[<- hW];have:=Blk.new (w.alloc (.cells #[O I a1,O I a2,O I a3,O I a4] 34)) [O I c1,O I c2,O I c3,O I c4] 34;rw[World.size_alloc] at this;exact this
  exact this.kp k (fun x=>x)
 clear hW;cases p
 ·go_enter func104,ntmps104;go_wp2_with fail;rw[HW.o];clear HW;refine(HI1.o W).mono ?_;rintro e w1 ⟨rfl,hk1⟩;have K1:=h_ (kW.o.trans hk1);clear hk1;go_wp2_with fail;go_ret;first
  | exact⟨rfl,K1.o⟩
  | exact K1.o
 ·cases q <;>
  ·go_enter func104,ntmps104;go_wp2_with fail;rw[HW.o];clear HW;refine(HI1.o W).mono ?_;rintro e w1 ⟨rfl,hk1⟩;have K1:=h_ hk1;have d2:=(B0.o w1 hk1).c_ 2 rfl;have d3:=(B0.o w1 hk1).c_ 3 rfl;have e0:=(B1.o w1 hk1).c_ 0 rfl;have e1:=(B1.o w1 hk1).c_ 1 rfl;have e2:=(B1.o w1 hk1).c_ 2 rfl;have e3:=(B1.o w1 hk1).c_ 3 rfl;clear hk1;go_wp2_with fail;refine(HI2.o w1).mono ?_;rintro e w2 ⟨rfl,hk2⟩;have K2:=h_ ((kW.o.trans K1.o).trans hk2);clear hk2 d2 d3 e0 e1 e2 e3;go_wp2_with fail;go_ret;first
   | exact⟨rfl,K2.o⟩
   | exact K2.o
theorem blk4 {w:World}{a b c:Obj}{cs:List Value}{t:TypeId}:Blk ((((w.alloc a).alloc b).alloc c).alloc (.cells cs.toArray t)) (w.heap.size+1+1+1) cs t:=by
 have:=Blk.new (((w.alloc a).alloc b).alloc c) cs t;rw[World.size_alloc,World.size_alloc,World.size_alloc] at this;exact this
theorem blk3 {w:World}{a b:Obj}{cs:List Value}{t:TypeId}:Blk (((w.alloc a).alloc b).alloc (.cells cs.toArray t)) (w.heap.size+1+1) cs t:=by
 have:=Blk.new ((w.alloc a).alloc b) cs t;rw[World.size_alloc,World.size_alloc] at this;exact this
theorem blk2 {w:World}{a:Obj}{cs:List Value}{t:TypeId}:Blk ((w.alloc a).alloc (.cells cs.toArray t)) (w.heap.size+1) cs t:=by
 have:=Blk.new (w.alloc a) cs t;rw[World.size_alloc] at this;exact this
def mvd (p t f:Int):Int:=wrap64 (wrap64 (p+t)-f)
theorem X5 {p t f:Int}(h2:I64 (p+t-f)):mvd p t f=p+t-f:=by
 unfold I64 at h2;unfold mvd;unfold wrap64;omega
theorem j23 (p1 p2 f1 f2 t1 t2:Int)(w:World):
 Calls prog 56 #[T #[O I p1,O I p2],T #[O I f1,O I f2],T #[O I t1,O I t2]] w fun e w'=>e=Q (T #[O I (mvd p1 t1 f1),O I (mvd p2 t2 f2)])/\Kp w w' Nul:=by
 have H1:Hid (wrap64 (wrap64 (p1+t1)-f1)=mvd p1 t1 f1):=rfl;have H2:Hid (wrap64 (wrap64 (p2+t2)-f2)=mvd p2 t2 f2):=rfl;generalize mvd p1 t1 f1=X at *;generalize mvd p2 t2 f2=Y at *;go_enter func56,ntmps56;go_wp2_with fail;rw[H1.o,H2.o];refine bodyPost_ret (results_cell_row rfl _ _ (w.heap.size+1+1+1) 32 _ (0,0) _ rfl (blk4 (cs:=[O I X,O I Y])) underlying32 rfl F5) rfl ?_;exact⟨rfl,((((Kp.refl w Nul).alloc _).alloc _).alloc _).alloc _⟩
theorem jBv (a1 a2 a3 a4 c1 c2 c3 c4:Int)(w:World):
 Calls prog 63 #[T #[O I a1,O I a2,O I a3,O I a4],T #[O I c1,O I c2,O I c3,O I c4]] w fun e w'=>∃xf xt,e=Q (T #[j1o xf xt])/\MvIn w' xf xt ((a1,a2),(a3,a4)) ((c1,c2),(c3,c4))/\Kp w w' Nul:=by
 go_enter func63,ntmps63;go_wp2_with fail;refine bodyPost_ret (results_cell_row rfl _ _ (w.heap.size+1+1) 115 _ (0,0) _ rfl (blk3 (cs:=[j1o w.heap.size (w.heap.size+1)])) underlying115 rfl j3K) rfl ?_;exact⟨_,_,rfl,⟨((Blk.new w [O I a1,O I a2,O I a3,O I a4] _).alloc _).alloc _,(blk2 (cs:=[O I c1,O I c2,O I c3,O I c4])).alloc _⟩,(((Kp.refl w Nul).alloc _).alloc _).alloc _⟩
end
section
open Go.RowKit Go.Maps Go.Sort Go.Lib Go.Shelf
theorem j8x {K:List Cc}(hs:E9 (K.map (·.1))){q:Int×Int}{k:Nat}{x:Cc}(hx:K[k]? = H x)(h:ltOf cfA x.1 q=J):∀j y,K[j]? = H y->j<k+1->ltOf cfA y.1 q=J:=fun j y hy hj=>by
 rcases Nat.lt_or_ge j k with h1|h1
 ·exact j18 (j2a hs hy hx h1) h
 ·have e:j=k:=by omega
  subst e;rw[hx] at hy;injection hy with hy;rw[<- hy];exact h
theorem j8w {K:List Cc}(hs:E9 (K.map (·.1))){q:Int×Int}{k:Nat}{x:Cc}(hx:K[k]? = H x)(h:ltOf cfA x.1 q=R):∀j y,K[j]? = H y->k<=j->ltOf cfA y.1 q=R:=fun j y hy hj=>by
 rcases Nat.lt_or_ge k j with h1|h1
 ·cases hc:ltOf cfA y.1 q with
  | false=>rfl
  | true=>rw[j18 (j2a hs hx hy h1) hc] at h;cases h
 ·have e:j=k:=by omega
  subst e;rw[hx] at hy;injection hy with hy;rw[<- hy];exact h
theorem jBH {lo hi n:Nat}(h:lo<hi/\hi<=n/\n<=4096):wrap64 ((wrap64 ((lo:Int)+(hi:Int))).tdiv 2)=(((lo+hi)/2:Nat):Int):=by
 have e:wrap64 ((lo:Int)+(hi:Int))=((lo+hi:Nat):Int):=by unfold wrap64;omega
 rw[e,Int.tdiv_eq_ediv_of_nonneg (by omega)];unfold wrap64;omega
theorem j6F {k h n:Nat}(h1:k<h)(h2:h<=n):(k:Int)<(n:Int):=by omega
theorem jCY {k n:Nat}(h:k<n/\n<=4096):wrap64 ((k:Int)+1)=((k+1:Nat):Int):=by unfold wrap64;omega
theorem jCW {k lo hi:Nat}(h:lo<=k/\k<hi):((hi:Int)-((k+1:Nat):Int)).toNat<((hi:Int)-(lo:Int)).toNat:=by omega
theorem jCX {k lo hi:Nat}(h:lo<=k/\k<hi):((k:Int)-(lo:Int)).toNat<((hi:Int)-(lo:Int)).toNat:=by omega
theorem j9k (a b c d:Int)(w:World):(binOp .eql 32 (T #[O I a,O I b]) (T #[O I c,O I d])).run prog w=.ok (E (decide ((a,b)=(c,d)))) w:=by
 by_cases h1:a=c
 ·by_cases h2:b=d
  ·subst h1 h2;simp[go_sem]
  ·subst h1;simp[go_sem,h2]
 ·simp[go_sem,h1]
theorem j6H (r n cp:Nat)(p:Option Addr)(K:List Cc)(c s:Int)(w:World)(hn:K.length=n)(hn4:n<=4096)(hs:E9 (K.map (·.1)))
 (hA:∀wq,Kp w wq Nul->wq.cell? ⟨r,0,G⟩=H (U p n cp))
 (hR:∀i x,K[i]? = H x->∃b,p=H ⟨b,0,G⟩/\∀wq,Kp w wq Nul->wq.rangeAt b (i*23) [O I x.1.1,O I x.1.2]) :
 Calls prog 50 #[an (H ⟨r,0,G⟩),T #[O I c,O I s]] w fun e w'=>(∃lo,e=Q (au #[O I (lo:Nat),E (isK K lo (c,s))])/\I8 K (c,s) lo)/\Kp w w' Nul:=by
 obtain⟨W,hW⟩:=e_ (w.alloc (.cells #[O I c,O I s] 32));have kW:Kp w W Nul:=by rw[<- hW];exact(Kp.refl _ _).alloc _
 have HW:=h_ hW;have HK0:=h_ kW;have HC:Hid (∀wq,Kp W wq Nul->Blk wq w.heap.size [O I c,O I s] 32):=fun wq k=>by
  have:Blk W w.heap.size [O I c,O I s] 32:=by rw[<- hW];exact Blk.new w _ _
  exact this.kp k (fun x=>x)
 have HA:=h_ fun wq (k:Kp W wq Nul)=>hA wq (kW.trans k)
 have HR:Hid (∀i x,K[i]? = H x->∃b,p=H ⟨b,0,G⟩/\∀wq,Kp W wq Nul->wq.rangeAt b (i*23) [O I x.1.1,O I x.1.2]):=fun i x hx=>by
  obtain⟨b,e1,e2⟩:=hR i x hx;exact⟨b,e1,fun wq k=>e2 wq (kW.trans k)⟩
 have HOr:Hid (∀a b c d w,Calls prog 92 #[T #[O I a,O I b],T #[O I c,O I d]] w fun e w'=>e=Q (O I (ordC a b c d))/\Kp w w' Nul):=fun a b c d w=>(jCl a b c d w).mono fun e w' h=>⟨h.1,Kp.of_gr h.2⟩
 have HS:=h_ hs;have HN:Hid (K.length=n/\n<=4096):=⟨hn,hn4⟩;have a0:=HA.o W (Kp.refl _ _);clear hA hR hs hn hn4 hW kW;go_enter func50,ntmps50;go_wp2_with (first|(rw[HW.o])|fail);clear a0;go_loopw[6,7] (fun sl sh wr=>∃lo hi:Nat,sl=O I lo/\sh=O I hi/\lo<=hi/\hi<=n/\(∀j y,K[j]? = H y->j<lo->ltOf cfA y.1 (c,s)=J)/\(∀j y,K[j]? = H y->hi<=j->ltOf cfA y.1 (c,s)=R)/\Kp W wr Nul) (fun sl sh _=>((RowKit.intOf sh)-(RowKit.intOf sl)).toNat)
 case atStart=>exact⟨0,n,by simp,rfl,Nat.zero_le _,Nat.le_refl _,fun j y _ h=>absurd h (Nat.not_lt_zero _),fun j y hy h=>by have:=(List.getElem?_eq_some_iff.1 hy).1;have:=HN.o.1;omega,Kp.refl _ _⟩
 case round=>
  obtain⟨lo,hi,rfl,rfl,hle,hhi,hlo,hge,hkr⟩:=hrel;have HKr:=h_ hkr;have HLO:=h_ hlo;have HGE:=h_ hge;clear hlo hge hkr;by_cases hlt:lo<hi
  ·have hlt':(lo:Int)<(hi:Int):=(by omega);have HB:Hid (lo<hi/\hi<=n/\n<=4096):=⟨hlt,hhi,HN.o.2⟩;obtain⟨k,hk⟩:=e_ ((lo+hi)/2);have HKB:Hid (lo<=k/\k<hi):=(by show _/\_;omega);obtain⟨x,hx⟩:∃x,K[k]? = H x:=⟨_,List.getElem?_eq_getElem (by have:=HN.o.1;omega)⟩;obtain⟨b,rfl,hrx⟩:=HR.o k x hx;have HRx:=h_ hrx;have HX:=h_ hx;clear hrx hx hle hhi hlt;go_wp2_with fail;rw[jBH HB.o,hk];have hkn:=j6F HKB.o.2 HB.o.2.1;have hk0:=Int.natCast_nonneg k;obtain⟨od,hod⟩:=e_ (ordC x.1.1 x.1.2 c s);have HOD:Hid (ltOf cfA x.1 (c,s)=decide (od<0)):=(by show _=_;rw[<- hod];rfl);have HOx:Hid (∀w,Calls prog 92 #[T #[O I x.1.1,O I x.1.2],T #[O I c,O I s]] w fun e w'=>e=Q (O I od)/\Kp w w' Nul):=(fun w=>by have h:=HOr.o x.1.1 x.1.2 c s w;rw[hod] at h;exact h);clear hk hod;refine wp_region_noPanic ?_;refine I0 (fun w':World=>Kp W w' Nul) (by kernel_rfl) (HKr.o.drew) (fun hHeld=>?_)
   refine tk 0 21 hHeld ?_ (v:=an (H ⟨r,0,G⟩));refine tk 1 22 hHeld ?_ (v:=an (H ⟨r,0,G⟩));refine tk 2 23 hHeld ?_ (v:=an (H ⟨r,0,G⟩));refine tk 3 24 hHeld ?_ (v:=U (H ⟨b,0,G⟩) n cp) (hy:=by intro w' hSw;have s0:=HA.o w' hSw;clear hSw;go_simp);refine tk 4 25 hHeld ?_ (v:=O I (k:Nat));refine tk 5 26 hHeld ?_ (v:=an (H ⟨b,k*23,G⟩));refine tk 6 27 hHeld ?_ (v:=an (H ⟨b,k*23,G⟩));refine tk 7 28 hHeld ?_ (v:=T #[O I x.1.1,O I x.1.2]) (hy:=by exact fun w' hSw=>q9 _ _ rfl _ _ rfl _ _ (HRx.o w' hSw) underlying32 rfl O0);refine tk 8 29 hHeld ?_ (v:=T #[O I c,O I s]) (hy:=by exact fun w' hSw=>q9 _ _ rfl _ _ rfl _ _ (j5 (HC.o w' hSw)) underlying32 rfl O0);refine ts 9 fun K hK=>?_
   go_simp;refine(HOx.o _).mono ?_;rintro e s1 ⟨rfl,hk2⟩;have S1:=h_ ((HKr.o.drew).trans hk2);refine hK.o _ _ S1.o (fun hHeld=>?_);clear hK K hk2
   (try simp only[Act.put,Sz0,Sz1,Sz2])
   refine tk 10 31 hHeld ?_ (v:=E (decide (od<0)));refine wpAnyH_done (by kernel_rfl) ?_ _;refine NoPanic.normal ?_;clear hHeld;cases hB:decide (od<0) with
   | true=>
    have HN1:=h_ (j8x HS.o HX.o (by rw[HOD.o,hB]));clear hB;go_wp2_with fail;rw[jCY ⟨Nat.lt_of_lt_of_le HKB.o.2 HB.o.2.1,HB.o.2.2⟩];go_roundw
    case rel=>exact⟨k+1,hi,rfl,rfl,HKB.o.2,HB.o.2.1,HN1.o,HGE.o,S1.o⟩
    case measure=>exact jCW HKB.o
   | false=>
    have HN1:=h_ (j8w HS.o HX.o (by rw[HOD.o,hB]));clear hB;go_wp2_with fail;go_roundw
    case rel=>exact⟨lo,k,rfl,rfl,HKB.o.1,Nat.le_of_lt (Nat.lt_of_lt_of_le HKB.o.2 HB.o.2.1),HLO.o,HN1.o,S1.o⟩
    case measure=>exact jCX HKB.o
  ·have hee:lo=hi:=(by omega);subst hee;have HPl:Hid (I8 K (c,s) lo):=⟨by have:=HN.o.1;omega,HLO.o,HGE.o⟩;have hqn:¬((lo:Int)<(lo:Int)):=Int.lt_irrefl _;have HHI:=h_ hhi;clear hle hlt HLO HGE hhi;by_cases hl:lo<n
   ·have hl':=j6F hl (Nat.le_refl _);have hl0:=Int.natCast_nonneg lo;obtain⟨x,hx⟩:∃x,K[lo]? = H x:=⟨_,List.getElem?_eq_getElem (by have:=HN.o.1;omega)⟩;obtain⟨b,rfl,hrx⟩:=HR.o lo x hx;have HRx:=h_ hrx;obtain⟨ae,hE⟩:=e_ (decide ((x.1.1,x.1.2)=(c,s)));have HEq:Hid (∀w,(binOp .eql 32 (T #[O I x.1.1,O I x.1.2]) (T #[O I c,O I s])).run prog w=.ok (E ae) w):=(fun w=>by rw[j9k,hE]);have HIs:Hid (isK K lo (c,s)=ae):=(by show _=_;unfold isK;rw[hx,<- hE]);clear hrx hx hE hl;go_wp2_with fail;refine wp_region_noPanic ?_;refine I0 (fun w':World=>Kp W w' Nul) (by kernel_rfl) (HKr.o.drew) (fun hHeld=>?_);refine tk 0 35 hHeld ?_ (v:=O I (lo:Nat));refine tk 1 36 hHeld ?_ (v:=O I (lo:Nat));refine tk 2 37 hHeld ?_ (v:=an (H ⟨r,0,G⟩));refine tk 3 38 hHeld ?_ (v:=an (H ⟨r,0,G⟩));refine tk 4 39 hHeld ?_ (v:=an (H ⟨r,0,G⟩))
    refine tk 5 40 hHeld ?_ (v:=U (H ⟨b,0,G⟩) n cp) (hy:=by intro w' hSw;have s0:=HA.o w' hSw;clear hSw;go_simp);refine tk 6 41 hHeld ?_ (v:=O I (n:Nat));refine tk 7 42 hHeld ?_ (v:=E J);refine tk 8 43 hHeld ?_ (v:=E J);refine tk 9 44 hHeld ?_ (v:=an (H ⟨r,0,G⟩));refine tk 10 45 hHeld ?_ (v:=an (H ⟨r,0,G⟩));refine tk 11 46 hHeld ?_ (v:=an (H ⟨r,0,G⟩));refine tk 12 47 hHeld ?_ (v:=U (H ⟨b,0,G⟩) n cp) (hy:=by intro w' hSw;have s0:=HA.o w' hSw;clear hSw;go_simp);refine tk 13 48 hHeld ?_ (v:=O I (lo:Nat));refine tk 14 49 hHeld ?_ (v:=an (H ⟨b,lo*23,G⟩));refine tk 15 50 hHeld ?_ (v:=an (H ⟨b,lo*23,G⟩));refine tk 16 51 hHeld ?_ (v:=T #[O I x.1.1,O I x.1.2]) (hy:=by exact fun w' hSw=>q9 _ _ rfl _ _ rfl _ _ (HRx.o w' hSw) underlying32 rfl O0)
    refine tk 17 52 hHeld ?_ (v:=T #[O I c,O I s]) (hy:=by exact fun w' hSw=>q9 _ _ rfl _ _ rfl _ _ (j5 (HC.o w' hSw)) underlying32 rfl O0);refine tk 18 53 hHeld ?_ (v:=E ae) (hy:=by intro w' hSw;have s0:=HEq.o;clear hSw;go_simp);refine tk 19 54 hHeld ?_ (v:=E ae);refine tk 20 4 hHeld ?_ (v:=O I (lo:Nat));refine tk 21 5 hHeld ?_ (v:=E ae);refine wpAnyH_done (by kernel_rfl) ?_ _;refine NoPanic.normal ?_;go_wp2_with fail;refine bodyPost_ret (results_tmp2 rfl _ _ _) rfl ?_;exact⟨⟨lo,by rw[HIs.o];rfl,HPl.o⟩,HK0.o.trans HKr.o.drew⟩
   ·have hln:=Nat.le_antisymm HHI.o (Nat.not_lt.1 hl);subst hln;have HIs:Hid (isK K lo (c,s)=R):=by
     show _=_;unfold isK;rw[List.getElem?_eq_none (by have:=HN.o.1;omega)]
    clear hl;go_wp2_with fail;refine wp_region_noPanic ?_;refine I0 (fun w':World=>Kp W w' Nul) (by kernel_rfl) (HKr.o.drew) (fun hHeld=>?_);refine tk 0 35 hHeld ?_ (v:=O I (lo:Nat));refine tk 1 36 hHeld ?_ (v:=O I (lo:Nat));refine tk 2 37 hHeld ?_ (v:=an (H ⟨r,0,G⟩));refine tk 3 38 hHeld ?_ (v:=an (H ⟨r,0,G⟩));refine tk 4 39 hHeld ?_ (v:=an (H ⟨r,0,G⟩));refine tk 5 40 hHeld ?_ (v:=U p lo cp) (hy:=by intro w' hSw;have s0:=HA.o w' hSw;clear hSw;go_simp);refine tk 6 41 hHeld ?_ (v:=O I (lo:Nat));refine tk 7 42 hHeld ?_ (v:=E R);refine tk 8 43 hHeld ?_ (v:=E R);refine G7 (i:=9) (v:=undef) (H 44) rfl rfl (by kernel_rfl) (fun _ _ _ h=>h) (Or.inr ⟨by rfl,rfl⟩) hHeld ?_;simp only[Act.put,Sz0,Sz1,Sz2];refine G7 (i:=10) (v:=undef) (H 45) rfl rfl (by kernel_rfl) (fun _ _ _ h=>h) (Or.inr ⟨by rfl,rfl⟩) hHeld ?_;simp only[Act.put,Sz0,Sz1,Sz2]
    refine G7 (i:=11) (v:=undef) (H 46) rfl rfl (by kernel_rfl) (fun _ _ _ h=>h) (Or.inr ⟨by rfl,rfl⟩) hHeld ?_;simp only[Act.put,Sz0,Sz1,Sz2];refine G7 (i:=12) (v:=undef) (H 47) rfl rfl (by kernel_rfl) (fun _ _ _ h=>h) (Or.inr ⟨by rfl,rfl⟩) hHeld ?_;simp only[Act.put,Sz0,Sz1,Sz2];refine G7 (i:=13) (v:=undef) (H 48) rfl rfl (by kernel_rfl) (fun _ _ _ h=>h) (Or.inr ⟨by rfl,rfl⟩) hHeld ?_;simp only[Act.put,Sz0,Sz1,Sz2];refine G7 (i:=14) (v:=undef) (H 49) rfl rfl (by kernel_rfl) (fun _ _ _ h=>h) (Or.inr ⟨by rfl,rfl⟩) hHeld ?_;simp only[Act.put,Sz0,Sz1,Sz2];refine G7 (i:=15) (v:=undef) (H 50) rfl rfl (by kernel_rfl) (fun _ _ _ h=>h) (Or.inr ⟨by rfl,rfl⟩) hHeld ?_;simp only[Act.put,Sz0,Sz1,Sz2];refine G7 (i:=16) (v:=undef) (H 51) rfl rfl (by kernel_rfl) (fun _ _ _ h=>h) (Or.inr ⟨by rfl,rfl⟩) hHeld ?_;simp only[Act.put,Sz0,Sz1,Sz2];refine G7 (i:=17) (v:=undef) (H 52) rfl rfl (by kernel_rfl) (fun _ _ _ h=>h) (Or.inr ⟨by rfl,rfl⟩) hHeld ?_
    simp only[Act.put,Sz0,Sz1,Sz2];refine G7 (i:=18) (v:=undef) (H 53) rfl rfl (by kernel_rfl) (fun _ _ _ h=>h) (Or.inr ⟨by rfl,rfl⟩) hHeld ?_;simp only[Act.put,Sz0,Sz1,Sz2];refine tk 19 54 hHeld ?_ (v:=E R);refine tk 20 4 hHeld ?_ (v:=O I (lo:Nat));refine tk 21 5 hHeld ?_ (v:=E R);refine wpAnyH_done (by kernel_rfl) ?_ _;refine NoPanic.normal ?_;go_wp2_with fail;refine bodyPost_ret (results_tmp2 rfl _ _ _) rfl ?_;exact⟨⟨lo,by rw[HIs.o];rfl,HPl.o⟩,HK0.o.trans HKr.o.drew⟩
structure DG (w:World) (B r:Nat) (v:Value) (ys:List (Cc×Value)):Prop where
 box:Blk w r [v] 81
 pts:Pts w B (fun _=>True) v ys
theorem DG.kp {w w':World}{B r:Nat}{v:Value}{ys:List (Cc×Value)}(h:DG w B r v ys)(k:Kp w w' Nul):DG w' B r v ys:=⟨h.box.kp k (fun x=>x),h.pts.kp k⟩
def rpE (V:Bool) (K:List Cc) (lo:Nat) (c s:Int) (ct:Ct):Nat:=if V=R then 1 else if vC c s=R then 20 else if ct.k≠0/\isK K lo (c,s)=R/\4096<=K.length then 41 else 0
def midC (c s:Int) (ct:Ct):List Cc:=if ct.k=0 then [] else [((c,s),cpC ct)]
theorem j3n {K:List Cc}{lo:Nat}{c s:Int}{ct:Ct}:rpE R K lo c s ct=1:=if_pos rfl
theorem j3o {K:List Cc}{lo:Nat}{c s:Int}{ct:Ct}(h:vC c s=R):rpE J K lo c s ct=20:=by unfold rpE;rw[if_neg (by decide),if_pos h]
theorem j2S {K:List Cc}{lo:Nat}{c s:Int}{ct:Ct}(h:vC c s=J)(h1:ct.k≠0)(h2:isK K lo (c,s)=R)(h3:4096<=K.length):rpE J K lo c s ct=41:=by unfold rpE;rw[if_neg (by decide),if_neg (by rw[h];decide),if_pos ⟨h1,h2,h3⟩]
theorem j1W {K:List Cc}{lo:Nat}{c s:Int}{ct:Ct}(h:vC c s=J)(h1:¬(ct.k≠0/\isK K lo (c,s)=R/\4096<=K.length)):rpE J K lo c s ct=0:=by unfold rpE;rw[if_neg (by decide),if_neg (by rw[h];decide),if_neg h1]
theorem j6j {w:World}{F:Nat->Prop}:∀ {ys:List (Cc×Value)},(∀y∈ys,NdIn w F y.2 y.1.2.t)->∀u∈rowP ys,u.oneCell'=J
 | [],_,u,hu=>by simp[rowP] at hu
 | y::ys,h,u,hu=>by
  rw[rowP] at hu;rcases List.mem_append.1 hu with hu|hu
  ·exact j0r y.1 (h y (by simp)).one u hu
  ·exact j6j (fun z hz=>h z (by simp[hz])) u hu
theorem j3m {w w':World}{B B' k n r:Nat}{t:TypeId}{v:Value}{xs:List Value}(h:w.ownsRow B' t k v n xs)(hB:B<=B')(hk:Kp w w' (fun i=>i=r))(hr:r<B'):w'.ownsRow B t k v n xs:=by
 refine⟨h.1,?_⟩;rcases h.2 with q|⟨g,c,cur,e,hb,hh,rest⟩
 ·exact .inl q
 ·exact .inr ⟨g,c,cur,e,Nat.le_trans hB hb,(hk.block g (Array.getElem?_eq_some_iff.1 hh).1 (fun e=>by have e':g=r:=e;omega)).trans hh,rest⟩
theorem j2A {w:World}{r n cp o:Nat}{p:Option Addr}{t:TypeId}{k:IntKind}{x:Int}(h:Blk w r [U p n cp] t)(hc:w.cell? ⟨r,o,G⟩=H (.int k x)):False:=by
 have e:=cell_of_row w r o _ _ _ h;rw[hc] at e;rcases o with _|o
 ·simp at e
 ·simp at e
theorem j2Q (ys:List (Cc×Value))(k:Nat):rowP ys=rowP (ys.take k)++rowP (ys.drop k):=by rw[<- j1V,List.take_append_drop]
theorem j3p (B r:Nat)(v:Value)(ys:List (Cc×Value))(K:List Cc)(c s:Int)(ct:Ct)(sl:Value)(V:Bool)(w:World)(hd:DG w B r v ys)(hK:ys.map (·.1)=K)(hB:B<=w.heap.size)(hn4:K.length<=4096)(hs:E9 (K.map (·.1)))
 (hV:∀wq,Kp w wq Nul->Calls prog 48 #[ct.val sl] wq fun e w'=>e=Q (E V)/\Kp wq w' Nul)
 (hC:V=J->∀wq,Kp w wq Nul->Calls prog 51 #[ct.val sl] wq fun e w'=>∃sl' fp,e=Q ((cpC ct).val sl')/\Own w' wq.heap.size sl' (cpC ct).t fp/\Kp wq w' Nul) (hone:sl.oneCell'=J) :
 Calls prog 12 #[an (H ⟨r,0,G⟩),T #[O I c,O I s],ct.val sl] w fun e w'=>∃lo v' ys',I8 K (c,s) lo/\e=Q (O I (rpE V K lo c s ct:Nat))/\DG w' B r v' ys'/\ys'.map (·.1)=(if rpE V K lo c s ct=0 then insK K (c,s) lo (midC c s ct) else K)/\Kp w w' (fun i=>i=r):=by
 obtain⟨p,cp,rfl,hp⟩:=hd.pts.slice;obtain⟨n,hn⟩:=e_ ys.length;have hKn:K.length=n:=by rw[<- hK,List.length_map,hn]
 obtain⟨W,hW⟩:=e_ ((w.alloc (.cells #[O I c,O I s] 32)).alloc (.cells (ct.cells sl).toArray 50));have HW:=h_ hW;have kW:Kp w W Nul:=by rw[<- hW];exact((Kp.refl _ _).alloc _).alloc _
 have HCS:Hid (∀wq,Kp W wq Nul->Blk wq w.heap.size [O I c,O I s] 32):=fun wq k=>by
  have:Blk W w.heap.size [O I c,O I s] 32:=by rw[<- hW];exact(Blk.new w _ _).alloc _
  exact this.kp k (fun x=>x)
 have HCT:Hid (∀wq,Kp W wq Nul->Blk wq (w.heap.size+1) (ct.cells sl) 50):=fun wq k=>by
  have:Blk W (w.heap.size+1) (ct.cells sl) 50:=by
   have h:=Blk.new (w.alloc (.cells #[O I c,O I s] 32)) (ct.cells sl) 50;rw[World.size_alloc] at h;rw[<- hW];exact h
  exact this.kp k (fun x=>x)
 have HDG:=h_ fun wq (k:Kp W wq Nul)=>hd.kp (kW.trans k)
 have HV:=h_ fun wq (k:Kp W wq Nul)=>hV wq (kW.trans k)
 have HVA:Hid (∀wq,Calls prog 49 #[T #[O I c,O I s]] wq fun e w'=>e=Q (E (vC c s))/\Kp wq w' Nul):=fun wq=>(j0t c s wq).mono fun e w' h=>⟨h.1,Kp.of_gr h.2⟩
 have HPl:Hid (∀wq,Kp W wq Nul->Calls prog 50 #[an (H ⟨r,0,G⟩),T #[O I c,O I s]] wq fun e w'=>(∃lo,e=Q (au #[O I (lo:Nat),E (isK K lo (c,s))])/\I8 K (c,s) lo)/\Kp wq w' Nul):=fun wq k0=>by
  refine j6H r n cp p K c s wq hKn (by omega) hs (fun wz k=>?_) (fun i x hx=>?_)
  ·have h:=(HDG.o wz (k0.trans k)).box.cell (i:=0) rfl;rw[hn] at h;exact h
  ·obtain⟨y,hy,e⟩:∃y,ys[i]? = H y/\y.1=x:=by
    rw[<- hK,List.getElem?_map] at hx;cases hy:ys[i]? with
    | none=>rw[hy] at hx;cases hx
    | some y=>rw[hy] at hx;injection hx with hx;exact⟨y,rfl,hx⟩
   obtain⟨b,e1,_,_⟩:=hp (by have:=(List.getElem?_eq_some_iff.1 hy).1;omega);refine⟨b,e1,fun wz k=>?_⟩;obtain⟨p',c',e2,hp'⟩:=(HDG.o wz (k0.trans k)).pts.slice;injection e2 with e3 _ e4;obtain⟨b',e5,_,hr⟩:=hp' (by have:=(List.getElem?_eq_some_iff.1 hy).1;omega);have hbb:b'=b:=(by rw[<- e3,e1] at e5;injection e5 with e5;injection e5 with e5;exact e5.symm);subst hbb;subst e;exact(I9 (hr i y hy)).1
 have HNul:Hid (∀wq,Kp W wq Nul->Kp w wq (fun i=>i=r)):=fun wq k=>(kW.trans k).of_nul
 have HO:=h_ hone;have HN:Hid (ys.length=n/\K.length=n/\n<=4096/\ys.map (·.1)=K):=⟨hn,hKn,by omega,hK⟩;have HCp:=h_ fun (h:V=J) wq (k:Kp W wq Nul)=>hC h wq (kW.trans k)
 have HBW:Hid (B<=W.heap.size/\w.heap.size<=W.heap.size):=⟨Nat.le_trans hB kW.size,kW.size⟩;have HSt:=h_ hs;clear hd hK hB hn4 hs hV hC hone hW kW hp hn hKn;go_enter func12,ntmps12;go_wp2_with (first
  | (rw[HW.o])
  | (refine j1O rfl (.tmp 5) rfl (w.heap.size+1) rfl (ct.cells sl).toArray (HCT.o _ (Kp.refl W Nul)) rfl ?_)
  | fail)
 refine(HV.o W (Kp.refl _ _)).mono ?_;rintro e w1 ⟨rfl,k1⟩;have K1:=h_ k1;clear k1 HV HW;have zc:=HCS.o w1 K1.o;have y0:=zc.cell (i:=0) rfl;have y1:=zc.cell (i:=1) rfl;clear zc;go_wp2_with fail;refine(HVA.o w1).mono ?_;rintro e w2 ⟨rfl,k2⟩;have K2:=h_ (K1.o.trans k2);clear k2 y0 y1 K1 HVA;have zc:=HCS.o w2 K2.o;have y0:=zc.cell (i:=0) rfl;have y1:=zc.cell (i:=1) rfl;clear zc;go_wp2_with fail;refine(HPl.o w2 K2.o).mono ?_;rintro e w3 ⟨⟨lo,rfl,hpl⟩,k3⟩;have K3:=h_ (K2.o.trans k3);have HP:=h_ hpl;obtain⟨ab,hI⟩:∃ab,isK K lo (c,s)=ab:=⟨_,rfl⟩;have HI:=h_ hI;obtain⟨VA,hVA⟩:∃VA,vC c s=VA:=⟨_,rfl⟩;have HVA:=h_ hVA;rw[hI,hVA];clear k3 y0 y1 K2 HPl hpl hI hVA;cases V with
 | false=>
  go_wp2_with fail;go_ret;refine⟨lo,_,_,HP.o,?_,HDG.o w3 K3.o,?_,HNul.o _ K3.o⟩
  ·rw[j3n];rfl
  ·rw[j3n,if_neg (by decide)];exact HN.o.2.2.2
 | true=>
 cases VA with
 | false=>
  go_wp2_with fail;go_ret;refine⟨lo,_,_,HP.o,?_,HDG.o w3 K3.o,?_,HNul.o _ K3.o⟩
  ·rw[j3o HVA.o];rfl
  ·rw[j3o HVA.o,if_neg (by decide)];exact HN.o.2.2.2
 | true=>
 obtain⟨kk,hkk⟩:∃kk,ct.k=kk:=⟨_,rfl⟩;have HKK:=h_ hkk;have c0:w3.cell? ⟨w.heap.size+1,0,G⟩=H (O I kk):=by rw[<- hkk];exact(HCT.o w3 K3.o).cell rfl
 have r0:w3.cell? ⟨r,0,G⟩=H (U p n cp):=by have h:=(HDG.o w3 K3.o).box.cell (i:=0) rfl;rw[HN.o.1] at h;exact h
 clear hkk;by_cases hfull:kk≠0/\ab=R/\4096<=n
 ·obtain⟨q1,q2,q3⟩:=hfull;have q1':(kk != 0)=J:=by simpa using q1
  have q3':(4096:Int)<=(n:Int):=by omega
  have HE:=h_ (j2S HVA.o (by rw[HKK.o];exact q1) (by rw[HI.o];exact q2) (by rw[HN.o.2.1];exact q3));subst q2;clear q1 q3;go_wp2_with fail;go_ret;refine⟨lo,_,_,HP.o,?_,HDG.o w3 K3.o,?_,HNul.o _ K3.o⟩
  ·rw[HE.o];rfl
  ·rw[HE.o,if_neg (by decide)];exact HN.o.2.2.2
 ·have HE:=h_ (j1W HVA.o (by rw[HKK.o,HI.o,HN.o.2.1];exact hfull));have HF:=h_ hfull;clear hfull;go_upto_block 0 with fail;go_cut[22] (fun _ wx=>wx=w3)
  case first=>
   by_cases q1:kk=0
   ·subst q1;go_wp2_with fail;go_meet
    case rel=>rfl
   ·have q1':(kk != 0)=J:=(by simpa using q1);cases ab with
    | true=>
     go_wp2_with fail;go_meet
     case rel=>rfl
    | false=>
     have q3:¬(4096:Int)<=(n:Int):=by
      have:=HF.o;intro h;exact this ⟨q1,rfl,by omega⟩
     go_wp2_with fail;go_meet
     case rel=>rfl
  case rest=>
   replace hcut:=hcut.symm;subst hcut;have HLo:Hid (lo<=n):=(by have:=HP.o.le;have:=HN.o.2.1;show _<=_;omega);obtain⟨i0,hi,hz0,hz1,hz2⟩:=j5f;rcases(HDG.o W (Kp.refl _ _)).pts.row.2 with ⟨e,h0⟩|⟨b,cq,cur,e,hbB,hbb,hcq,_⟩
   ·injection e with e1 e2 e3;subst e1;subst e3;have hys:ys=[]:=List.length_eq_zero_iff.1 e2;subst hys;have hK0:K=[]:=HN.o.2.2.2.symm;have hn0:n=0:=HN.o.1.symm;have hlo0:lo=0:=(by have:=HLo.o;omega);have hI0:ab=R:=(by rw[<- HI.o,hK0];unfold isK;simp);clear e2 h0;subst hn0;subst hlo0;subst hI0;have HK0:=h_ hK0;have HSN:Hid (∀wq,Src prog i0.size 22 (U G 0 0) 0 [] wq):=(fun wq=>Src.ofNil wq underlying22 0);have HAP1:=h_ (run_append_nothing w3 22 22 22 52 i0 underlying22 hi G 0 0 (Nat.le_refl _) _ (HSN.o w3));have HOWn:Hid (w3.ownsRow W.heap.size 52 23 (U G 0 0) 0 (rowP (([]:List (Cc×Value)).take 0))):=World.ownsRow_nil w3 W.heap.size _ _;clear hK0
    go_upto_if 54 with (first
     | (at_builtin;refine j7X rfl (.tmp 44) (.tmp 50) 22 22 rfl (U G 0 0) (U G 0 0) (U G 0 0) w3 rfl rfl (by with_reducible exact HAP1.o) ?_)
     | fail)
    clear c0;go_cut[11] (fun v5 wx=>∃z:List (Cc×Value),wx.ownsRow W.heap.size 52 23 v5 z.length (rowP z)/\z.map (·.1)=midC c s ct/\(∀y∈z,NdIn wx (fun i=>¬v5.ownBlock=H i) y.2 y.1.2.t)/\Kp W wx Nul)
    case first=>
     by_cases q1:kk=0
     ·subst q1;have HM:Hid (midC c s ct=[]):=if_pos HKK.o;go_wp2_with fail;go_meet
      case rel=>exact⟨[],HOWn.o,HM.o.symm,fun y hy=>by simp at hy,K3.o⟩
     ·have q1':(kk != 0)=J:=(by simpa using q1);have HM:Hid (midC c s ct=[((c,s),cpC ct)]):=if_neg (by rw[HKK.o];exact q1);go_wp2_with fail;refine wp_region_noPanic ?_;refine I0 (fun w':World=>Kp W w' Nul) (by kernel_rfl) (K3.o.drew) (fun hHeld=>?_);refine tk 0 55 hHeld ?_ (v:=(U G 0 0));refine tk 1 56 hHeld ?_ (v:=T #[O I c,O I s]) (hy:=by exact fun w' hSw=>q9 32 (.tmp 4) rfl w.heap.size 0 rfl [O I c,O I s] _ (j5 (HCS.o w' hSw)) underlying32 rfl O0);refine tk 2 57 hHeld ?_ (v:=T (ct.cells sl).toArray) (hy:=by exact fun w' hSw=>Y5 _ rfl rfl (HCT.o w' hSw) rfl);refine D6 (i:=3) (by kernel_rfl) rfl rfl (fun K hK=>?_);go_simp;refine(HCp.o (by trivial) _ K3.o.drew).mono ?_;rintro e w5 ⟨sl5,fp5,rfl,ho5,hk2⟩;have KD:=h_ (((Kp.refl w3 Nul).drew).trans hk2);have K5:=h_ (K3.o.trans KD.o);have HO5:=h_ ho5
      have O5:=h_ ho5.own.one;refine hK.o _ _ K5.o (fun hHeld=>?_);clear hK K hk2 ho5
      (try simp only[Act.put,Sz0,Sz1,Sz2])
      refine G7 (i:=4) (v:=T (j8 ((c,s),cpC ct) sl5).toArray) (H 59) rfl rfl (by kernel_rfl) (fun _ _ _ h=>h) (Or.inl ⟨by rfl,?_⟩) hHeld ?_
      ·intro w' hSw;clear hSw;go_simp;try rfl
      simp only[Act.put,Sz0,Sz1,Sz2];have HB5:Hid (Blk (w5.alloc (.cells (j8 ((c,s),cpC ct) sl5).toArray 52)) w5.heap.size (j8 ((c,s),cpC ct) sl5) 52):=Blk.new w5 _ _;have HRw:=h_ ((j0F HOWn.o (KD.o.alloc (.cells (j8 ((c,s),cpC ct) sl5).toArray 52)).below));refine D6 (i:=5) (by kernel_rfl) rfl rfl (fun K hK=>?_);go_simp;refine hK.o _ _ (K5.o.alloc _) (fun hHeld=>?_);clear hK K
      (try simp only[Act.put,Sz0,Sz1,Sz2])
      refine D6 (i:=6) (by kernel_rfl) rfl rfl (fun K hK=>?_);refine j0W _ (.tmp 55) (.tmp 60) 22 rfl W.heap.size 52 i0 _ 23 200 underlying22 hi hz0 hz1 hz2 rfl (by decide) (U G 0 0) 0 (rowP (([]:List (Cc×Value)).take 0)) rfl HRw.o ⟨w5.heap.size,0,G⟩ 1 1 (j8 ((c,s),cpC ct) sl5) rfl rfl ?d1 ?d2 (by decide) ?d3 ?d4 ?d5 ?_
      case d1=>
       intro j u hj;rw[R5,Nat.zero_add];exact HB5.o.cell hj
      case d2=>exact j0r _ O5.o
      case d3=>have:=HLo.o;have:=HN.o.2.2.1;unfold maxLen;omega
      case d4=>have:=HLo.o;have:=HN.o.2.2.1;omega
      case d5=>exact(K5.o.alloc (.cells (j8 ((c,s),cpC ct) sl5).toArray 52)).size
      intro g6 c6 w6 hown6 hgrow6 ht6;have K6:Hid (Kp W w6 Nul):=Kp.of_below ((K5.o.alloc (.cells (j8 ((c,s),cpC ct) sl5).toArray 52)).below.grown hgrow6 (K5.o.alloc (.cells (j8 ((c,s),cpC ct) sl5).toArray 52)).size (fun q hq=>(HRw.o.lt q hq).1));have hkg:Kp (w5.alloc (.cells (j8 ((c,s),cpC ct) sl5).toArray 52)) w6 (fun i=>(U G 0 0).ownBlock=H i):=⟨hgrow6.os,hgrow6.tape,hgrow6.output,hgrow6.size,fun k hk hn=>hgrow6.block k hk (fun e=>hn e.symm)⟩;have HNd:Hid (NdIn w6 (fun i=>¬(U (H ⟨g6,0,G⟩) (0+1) c6).ownBlock=H i) sl5 (cpC ct).t):=((HO5.o.isIn.kp ((Kp.refl w5 Nul).alloc (.cells (j8 ((c,s),cpC ct) sl5).toArray 52)) (fun _ _ x=>x)).kp hkg (fun i hi e=>by have h1:=(HOWn.o.lt i e).2;have h2:w3.heap.size<=i:=hi.1;omega)).mono (fun b hb hl=>⟨rfl,fun e=>by
       have e':g6=b:=(by simpa [Value.ownBlock] using e);have hb1:w3.heap.size<=b:=hb.1;have hb2:=hb.2;rcases ht6 with q|q
       ·have:=(HOWn.o.lt g6 q).2;omega
       ·rw[World.size_alloc] at q;omega⟩)
      have HOW6:Hid (w6.ownsRow W.heap.size 52 23 (U (H ⟨g6,0,G⟩) (0+1) c6) (0+1) (rowP ([(((c,s),cpC ct),sl5)]))):=(by have h:=hown6;simp only[List.take_nil,rowP,List.nil_append] at h;show World.ownsRow _ _ _ _ _ _ _;simp only[rowP,List.append_nil];exact h);refine hK.o _ _ K6.o (fun hHeld=>?_);clear hK K hown6 hgrow6 hkg;show wpAnyH _ _ _ _ _ _ _ (Act.put _ (H 61) _) _;simp only[Act.put,Sz0,Sz1,Sz2];refine tk 7 11 hHeld ?_ (v:=U (H ⟨g6,0,G⟩) (0+1) c6);refine wpAnyH_done (by kernel_rfl) ?_ _;refine NoPanic.normal ?_;go_wp2_with fail;go_meet
      case rel=>exact⟨[(((c,s),cpC ct),sl5)],HOW6.o,HM.o.symm,fun y hy=>by obtain rfl:=List.mem_singleton.1 hy;exact HNd.o,K6.o⟩
    case rest=>
     obtain⟨z,hz1',hz2',hz3',hz4'⟩:=hcut
     rename World=>w6
     have K6:=h_ hz4';have HOW:=h_ hz1';have HZK:=h_ hz2';have HZT:=h_ hz3';obtain⟨pu,cu,hu11,hcu⟩:∃pu cu,u11=U pu z.length cu/\z.length<=cu:=by
      rcases hz1'.2 with ⟨q,q2⟩|⟨g7,c7,_,q,_,_,q2,_⟩
      ·rw[q2] at *;exact⟨_,_,q,Nat.le_refl _⟩
      ·exact⟨_,_,q,q2⟩
     have HAP2:=h_ (run_append_nothing w6 22 22 22 52 i0 underlying22 hi pu z.length cu hcu _ (HSN.o w6));have r6:w6.cell? ⟨r,0,G⟩=H (U G 0 0):=(HDG.o w6 K6.o).box.cell (i:=0) rfl;have HRW:=h_ ((HDG.o W (Kp.refl _ _)).box.lt);have HB6:=h_ ((HDG.o w6 K6.o).box);clear hz1' hz2' hz3' hz4' hcu r0;subst hu11;have f6:w6.frozen? ⟨r,0,G⟩=R:=HB6.o.froz 0;have HbY:Hid (Blk (w6.setCell ⟨r,0,G⟩ (U pu z.length cu)) r [U pu z.length cu] 81):=HB6.o.set 0 _;have HkY:Hid (Kp w6 (w6.setCell ⟨r,0,G⟩ (U pu z.length cu)) (fun i=>i=r)):=(Kp.refl w6 (fun i=>i=r)).setCell ⟨r,0,G⟩ _ (.inr rfl)
     go_upto_if 62 with fail
     go_wp2_with (first
      | (at_builtin;refine j7X rfl (.tmp 66) (.tmp 72) 22 22 rfl (U pu z.length cu) (U G 0 0) (U pu z.length cu) w6 rfl rfl (by with_reducible exact HAP2.o) ?_)
      | fail)
     have hbY:=HbY.o;have hkY:=HkY.o;go_ret;refine⟨0,HP.o,?_,_,z,⟨hbY,⟨j3m HOW.o HBW.o.1 hkY HRW.o,fun y hy=>((HZT.o y hy).mono (fun b hb hl=>⟨rfl,trivial⟩)).monoC fun b' hb' hc=>?_⟩⟩,?_,(HNul.o w6 K6.o).trans hkY⟩
     ·rw[HE.o];rfl
     ·obtain⟨o,q,x,hc⟩:=hc;refine⟨hkY.block b' (J7 hc) (fun e=>?_),trivial⟩;have e':b'=r:=e;subst e';exact j2A HB6.o hc
     ·rw[HE.o,if_pos rfl,HK0.o];unfold insK;rw[HZK.o];simp
   ·injection e with e1 e2 e3;subst e1;have hcn:n<=cp:=(by rw[<- HN.o.1,e3];exact hcq);have HCells:Hid (∀wq,Kp W wq Nul->∀j u,(rowP ys)[j]? = H u->wq.cell? ⟨b,j,G⟩=H u):=fun wq k j u hj=>by
     have h:=(HDG.o wq k).pts.row.cells (g:=b) rfl j u hj;rw[R5,Nat.zero_add] at h;exact h
    have HOne:=h_ (j6j (HDG.o W (Kp.refl _ _)).pts.tree);have hlc:(lo:Int)<=(cp:Int):=(by have:=HLo.o;omega);have HCN:=h_ hcn;clear e2 e3 hbB hbb hcq hcn;go_wp2_with (at_builtin;refine wpList_append_own _ rfl (.tmp 44) (.tmp 50) 22 rfl W.heap.size 52 i0 _ 23 200 underlying22 hi hz0 hz1 hz2 rfl (by decide) _ _ _ rfl (World.ownsRow_nil w3 W.heap.size _ _) ⟨b,0,G⟩ lo cp (rowP (ys.take lo)) rfl ?n1 ?n2 ?n3 ?n4 ?n5 ?n6 ?_)
    case n1=>rw[j2R,List.length_take];have:=HLo.o;have:=HN.o.1;omega
    case n2=>
     intro j u hj;rw[R5,Nat.zero_add];exact HCells.o _ K3.o j u (by rw[j2Q ys lo,List.getElem?_append_left (List.getElem?_eq_some_iff.1 hj).1];exact hj)
    case n3=>intro u hu;exact HOne.o u (by rw[j2Q ys lo];exact List.mem_append_left _ hu)
    case n4=>have:=HLo.o;have:=HN.o.2.2.1;unfold maxLen;omega
    case n5=>have:=HLo.o;have:=HN.o.2.2.1;omega
    case n6=>exact K3.o.size
    ·intro v4 w4 hown4 hgrow4 _;have K4:Hid (Kp W w4 Nul):=Kp.of_below (K3.o.below.grown hgrow4 K3.o.size (fun q hq=>by cases hq));have HOW4:Hid (w4.ownsRow W.heap.size 52 23 v4 lo (rowP (ys.take lo))):=hown4;clear hown4 hgrow4 c0 r0;have c0:w4.cell? ⟨w.heap.size+1,0,G⟩=H (O I kk):=by rw[<- HKK.o];exact(HCT.o w4 K4.o).cell rfl
     go_upto_if 54 with fail
     clear c0;go_cut[11] (fun v5 wx=>∃z:List (Cc×Value),wx.ownsRow W.heap.size 52 23 v5 (ys.take lo++z).length (rowP (ys.take lo++z))/\z.map (·.1)=midC c s ct/\(∀y∈z,NdIn wx (fun i=>¬v5.ownBlock=H i) y.2 y.1.2.t)/\Kp W wx Nul)
     case first=>
      have hlt:(ys.take lo).length=lo:=(by rw[List.length_take];have:=HLo.o;have:=HN.o.1;omega);by_cases q1:kk=0
      ·subst q1;have HM:Hid (midC c s ct=[]):=if_pos HKK.o;go_wp2_with fail;go_meet
       case rel=>exact⟨[],by rw[List.append_nil,hlt];exact HOW4.o,HM.o.symm,fun y hy=>by simp at hy,K4.o⟩
      ·have q1':(kk != 0)=J:=(by simpa using q1);have HM:Hid (midC c s ct=[((c,s),cpC ct)]):=if_neg (by rw[HKK.o];exact q1);go_wp2_with fail;refine wp_region_noPanic ?_;refine I0 (fun w':World=>Kp W w' Nul) (by kernel_rfl) (K4.o.drew) (fun hHeld=>?_);refine tk 0 55 hHeld ?_ (v:=v4);refine tk 1 56 hHeld ?_ (v:=T #[O I c,O I s]) (hy:=by exact fun w' hSw=>q9 32 (.tmp 4) rfl w.heap.size 0 rfl [O I c,O I s] _ (j5 (HCS.o w' hSw)) underlying32 rfl O0);refine tk 2 57 hHeld ?_ (v:=T (ct.cells sl).toArray) (hy:=by exact fun w' hSw=>Y5 _ rfl rfl (HCT.o w' hSw) rfl);refine D6 (i:=3) (by kernel_rfl) rfl rfl (fun K hK=>?_);go_simp;refine(HCp.o (by trivial) _ K4.o.drew).mono ?_;rintro e w5 ⟨sl5,fp5,rfl,ho5,hk2⟩;have KD:=h_ (((Kp.refl w4 Nul).drew).trans hk2);have K5:=h_ (K4.o.trans KD.o);have HO5:=h_ ho5;have O5:=h_ ho5.own.one
       refine hK.o _ _ K5.o (fun hHeld=>?_);clear hK K hk2 ho5
       (try simp only[Act.put,Sz0,Sz1,Sz2])
       refine G7 (i:=4) (v:=T (j8 ((c,s),cpC ct) sl5).toArray) (H 59) rfl rfl (by kernel_rfl) (fun _ _ _ h=>h) (Or.inl ⟨by rfl,?_⟩) hHeld ?_
       ·intro w' hSw;clear hSw;go_simp;try rfl
       simp only[Act.put,Sz0,Sz1,Sz2];have HB5:Hid (Blk (w5.alloc (.cells (j8 ((c,s),cpC ct) sl5).toArray 52)) w5.heap.size (j8 ((c,s),cpC ct) sl5) 52):=Blk.new w5 _ _;have HRw:=h_ ((j0F HOW4.o (KD.o.alloc (.cells (j8 ((c,s),cpC ct) sl5).toArray 52)).below));refine D6 (i:=5) (by kernel_rfl) rfl rfl (fun K hK=>?_);go_simp;refine hK.o _ _ (K5.o.alloc _) (fun hHeld=>?_);clear hK K
       (try simp only[Act.put,Sz0,Sz1,Sz2])
       refine D6 (i:=6) (by kernel_rfl) rfl rfl (fun K hK=>?_);refine j0W _ (.tmp 55) (.tmp 60) 22 rfl W.heap.size 52 i0 _ 23 200 underlying22 hi hz0 hz1 hz2 rfl (by decide) v4 lo (rowP (ys.take lo)) rfl HRw.o ⟨w5.heap.size,0,G⟩ 1 1 (j8 ((c,s),cpC ct) sl5) rfl rfl ?d1 ?d2 (by decide) ?d3 ?d4 ?d5 ?_
       case d1=>
        intro j u hj;rw[R5,Nat.zero_add];exact HB5.o.cell hj
       case d2=>exact j0r _ O5.o
       case d3=>have:=HLo.o;have:=HN.o.2.2.1;unfold maxLen;omega
       case d4=>have:=HLo.o;have:=HN.o.2.2.1;omega
       case d5=>exact(K5.o.alloc (.cells (j8 ((c,s),cpC ct) sl5).toArray 52)).size
       intro g6 c6 w6 hown6 hgrow6 ht6;have K6:Hid (Kp W w6 Nul):=Kp.of_below ((K5.o.alloc (.cells (j8 ((c,s),cpC ct) sl5).toArray 52)).below.grown hgrow6 (K5.o.alloc (.cells (j8 ((c,s),cpC ct) sl5).toArray 52)).size (fun q hq=>(HRw.o.lt q hq).1));have hkg:Kp (w5.alloc (.cells (j8 ((c,s),cpC ct) sl5).toArray 52)) w6 (fun i=>v4.ownBlock=H i):=⟨hgrow6.os,hgrow6.tape,hgrow6.output,hgrow6.size,fun k hk hn=>hgrow6.block k hk (fun e=>hn e.symm)⟩;have HNd:Hid (NdIn w6 (fun i=>¬(U (H ⟨g6,0,G⟩) (lo+1) c6).ownBlock=H i) sl5 (cpC ct).t):=((HO5.o.isIn.kp ((Kp.refl w5 Nul).alloc (.cells (j8 ((c,s),cpC ct) sl5).toArray 52)) (fun _ _ x=>x)).kp hkg (fun i hi e=>by have h1:=(HOW4.o.lt i e).2;have h2:w4.heap.size<=i:=hi.1;omega)).mono (fun b hb hl=>⟨rfl,fun e=>by
        have e':g6=b:=(by simpa [Value.ownBlock] using e);have hb1:w4.heap.size<=b:=hb.1;have hb2:=hb.2;rcases ht6 with q|q
        ·have:=(HOW4.o.lt g6 q).2;omega
        ·rw[World.size_alloc] at q;omega⟩)
       have HOW6:Hid (w6.ownsRow W.heap.size 52 23 (U (H ⟨g6,0,G⟩) (lo+1) c6) (lo+1) (rowP (ys.take lo++[(((c,s),cpC ct),sl5)]))):=(by show World.ownsRow _ _ _ _ _ _ _;rw[jDX];exact hown6);refine hK.o _ _ K6.o (fun hHeld=>?_);clear hK K hown6 hgrow6 hkg;show wpAnyH _ _ _ _ _ _ _ (Act.put _ (H 61) _) _;simp only[Act.put,Sz0,Sz1,Sz2];refine tk 7 11 hHeld ?_ (v:=U (H ⟨g6,0,G⟩) (lo+1) c6);refine wpAnyH_done (by kernel_rfl) ?_ _;refine NoPanic.normal ?_;go_wp2_with fail;go_meet
       case rel=>exact⟨[(((c,s),cpC ct),sl5)],by rw[List.length_append,hlt];exact HOW6.o,HM.o.symm,fun y hy=>by obtain rfl:=List.mem_singleton.1 hy;exact HNd.o,K6.o⟩
     case rest=>
      obtain⟨z,hz1',hz2',hz3',hz4'⟩:=hcut
      rename World=>w6
      have K6:=h_ hz4';have HOW:=h_ hz1';have HZK:=h_ hz2';have HZT:=h_ hz3';obtain⟨lz,hlz⟩:=e_ ((ys.take lo++z).length);have HLZ:=h_ hlz;rw[hlz] at HOW;clear hlz;have HZL:Hid (z.length<=1):=by
       have h:=congrArg List.length hz2';rw[List.length_map] at h;show _<=_;rw[h];unfold midC;split <;> simp
      obtain⟨le,hle⟩:=e_ (lo+(isK K lo (c,s)).toNat);have HLE:=h_ hle;have HLN:Hid (le<=n):=by
       show _<=_;rw[<- hle];have h:=HLo.o;have h2:=HN.o.2.1;unfold isK;cases hq:K[lo]? with
       | none=>simp;exact h
       | some x=>
        have:=(List.getElem?_eq_some_iff.1 hq).1;simp only;cases decide (x.1=(c,s)) <;> simp <;> omega
      have hwl:wrap64 ((lo:Int)+1)=((lo+1:Nat):Int):=(by have:=HLo.o;have:=HN.o.2.2.1;unfold wrap64;omega);have HWL:=h_ hwl;have r6:w6.cell? ⟨r,0,G⟩=H (U (H ⟨b,0,G⟩) n cp):=(by have h:=(HDG.o w6 K6.o).box.cell (i:=0) rfl;rw[HN.o.1] at h;exact h);have hlen:(le:Int)<=(n:Int):=(by have:=HLN.o;omega);have hlec:(le:Int)<=(cp:Int):=(by have:=HLN.o;have:=HCN.o;omega);clear hz1' hz2' hz3' hz4' hle hwl
      go_upto_if 62 with fail
      go_cut[9] (fun x wx=>x=O I (le:Nat)/\wx=w6)
      case first=>
       cases ab with
       | true=>
        have hl1:lo+1=le:=(by rw[<- HLE.o,HI.o];rfl);subst hl1;go_wp2_with fail;go_meet
        case rel=>exact⟨by rw[HWL.o],rfl⟩
       | false=>
        have hl1:lo=le:=(by rw[<- HLE.o,HI.o];rfl);subst hl1;go_wp2_with fail;go_meet
        case rel=>exact⟨rfl,rfl⟩
      case rest=>
       obtain⟨rfl,hwx⟩:=hcut;replace hwx:=hwx.symm;subst hwx;have hnews:(rowP (ys.drop le)).length=(n-le)*23:=(by rw[j2R,List.length_drop,HN.o.1]);have htk:(rowP (ys.take le)).length=le*23:=(by rw[j2R,List.length_take,HN.o.1,Nat.min_eq_left HLN.o]);have HDC:Hid (∀j u,(rowP (ys.drop le))[j]? = H u->w6.cell? ⟨b,le*23+j,G⟩=H u):=(fun j u hj=>HCells.o _ K6.o _ u (by rw[j2Q ys le,List.getElem?_append_right (by omega),htk,Nat.add_sub_cancel_left];exact hj));have HD1:Hid (∀u∈rowP (ys.drop le),u.oneCell'=J):=(fun u hu=>HOne.o u (by rw[j2Q ys le];exact List.mem_append_right _ hu));have HLL:Hid (lz+(n-le)<=8193):=by
        show _<=_;rw[<- HLZ.o,List.length_append,List.length_take];have:=HN.o.2.2.1;have:=HZL.o;have:=HLo.o;omega
       have HNW:=h_ hnews;have hrW:=(HDG.o W (Kp.refl _ _)).box.lt;have HRW:=h_ hrW;have HB6:=h_ ((HDG.o w6 K6.o).box);have HT6:Hid (∀y∈ys,NdIn w6 (fun i=>i<W.heap.size) y.2 y.1.2.t):=fun y hy=>(((HDG.o W (Kp.refl _ _)).pts.tree y hy).monoC fun b hb hc=>by
        obtain⟨o,q,x,hc⟩:=hc;exact⟨rfl,J7 hc⟩).kp K6.o (fun _ _ x=>x)
       clear hnews htk hrW HCells HOne;by_cases hce:cp=le
       ·have HDE:Hid (ys.drop le=[]):=List.drop_eq_nil_of_le (by have:=HN.o.1;have:=HCN.o;have:=HLN.o;omega);go_wp2_with (first
         | (at_builtin;refine wpList_append_own _ rfl (.tmp 66) (.tmp 72) 22 rfl W.heap.size 52 i0 _ 23 200 underlying22 hi hz0 hz1 hz2 rfl (by decide) _ _ _ rfl HOW.o ⟨b,0,G⟩ (n-le) 0 (rowP (ys.drop le)) rfl HNW.o ?n1 HD1.o ?n4 ?n5 ?n6 ?_)
         | fail)
        case n1=>intro j u hj;rw[HDE.o] at hj;simp[rowP] at hj
        case n4=>have:=HLL.o;unfold maxLen;omega
        case n5=>have:=HLL.o;omega
        case n6=>exact K6.o.size
        ·intro v7 w7 hown7 hgrow7 _;have K7:Hid (Kp W w7 Nul):=Kp.of_below (K6.o.below.grown hgrow7 K6.o.size (fun q hq=>(HOW.o.lt q hq).1));have k67:Kp w6 w7 (fun i=>u11.ownBlock=H i):=⟨hgrow7.os,hgrow7.tape,hgrow7.output,hgrow7.size,fun k hk hn=>hgrow7.block k hk (fun e=>hn e.symm)⟩;have HB7:=h_ (HB6.o.kp k67 (fun e=>by have h1:=(HOW.o.lt r e).1;have:=HRW.o;omega));have HO7:Hid (v7.oneCell'=J):=by rcases hown7.2 with ⟨rfl,_⟩|⟨_,_,_,rfl,_⟩ <;> rfl
         have HOW7:Hid (w7.ownsRow W.heap.size 52 23 v7 (ys.take lo++z++ys.drop le).length (rowP (ys.take lo++z++ys.drop le))):=by
          have h:=hown7;rw[<- j1V] at h;show World.ownsRow _ _ _ _ _ _ _;rw[show (ys.take lo++z++ys.drop le).length=lz+(n-le) by rw[List.length_append,List.length_drop,HN.o.1,HLZ.o]];exact h
         have HT7:Hid (∀y∈ys.take lo++z++ys.drop le,NdIn w7 (fun _=>True) y.2 y.1.2.t):=fun y hy=>by
          rcases List.mem_append.1 hy with hy|hy
          ·rcases List.mem_append.1 hy with hy|hy
           ·exact((HT6.o y (List.mem_of_mem_take hy)).kp k67 (fun i hi e=>by have h1:=(HOW.o.lt i e).1;omega)).mono (fun b hb hl=>⟨rfl,trivial⟩)
           ·exact((HZT.o y hy).kp k67 (fun i hi e=>hi e)).mono (fun b hb hl=>⟨rfl,trivial⟩)
          ·exact((HT6.o y (List.mem_of_mem_drop hy)).kp k67 (fun i hi e=>by have h1:=(HOW.o.lt i e).1;omega)).mono (fun b hb hl=>⟨rfl,trivial⟩)
         clear hown7 hgrow7 k67 r6;go_wp2_with (first
          | (refine L9 rfl 22 (.tmp 75) (.tmp 73) rfl r rfl v7 rfl HO7.o 81 _ HB7.o (by kernel_rfl) ?_;intro Y hbY hkY)
          | fail)
         go_ret;refine⟨lo,v7,ys.take lo++z++ys.drop le,HP.o,?_,⟨hbY,⟨j3m HOW7.o HBW.o.1 hkY HRW.o,fun y hy=>(HT7.o y hy).monoC fun b' hb' hc=>?_⟩⟩,?_,(HNul.o w7 K7.o).trans hkY⟩
         ·rw[HE.o];rfl
         ·obtain⟨o,q,x,hc⟩:=hc;refine⟨hkY.block b' (J7 hc) (fun e=>?_),trivial⟩;have e':=e;subst e';exact j2A HB7.o hc
         ·rw[HE.o,if_pos rfl];unfold insK;rw[List.map_append,List.map_append,List.map_take,List.map_drop,HN.o.2.2.2,HZK.o,HLE.o,List.append_assoc]
       ·go_wp2_with (first
         | (at_builtin;refine wpList_append_own _ rfl (.tmp 66) (.tmp 72) 22 rfl W.heap.size 52 i0 _ 23 200 underlying22 hi hz0 hz1 hz2 rfl (by decide) _ _ _ rfl HOW.o ⟨b,le*23,G⟩ (n-le) (cp-le) (rowP (ys.drop le)) rfl HNW.o ?n1 HD1.o ?n4 ?n5 ?n6 ?_)
         | fail)
        case n1=>intro j u hj;rw[R5];exact HDC.o j u hj
        case n4=>have:=HLL.o;unfold maxLen;omega
        case n5=>have:=HLL.o;omega
        case n6=>exact K6.o.size
        ·intro v7 w7 hown7 hgrow7 _;have K7:Hid (Kp W w7 Nul):=Kp.of_below (K6.o.below.grown hgrow7 K6.o.size (fun q hq=>(HOW.o.lt q hq).1));have k67:Kp w6 w7 (fun i=>u11.ownBlock=H i):=⟨hgrow7.os,hgrow7.tape,hgrow7.output,hgrow7.size,fun k hk hn=>hgrow7.block k hk (fun e=>hn e.symm)⟩;have HB7:=h_ (HB6.o.kp k67 (fun e=>by have h1:=(HOW.o.lt r e).1;have:=HRW.o;omega));have HO7:Hid (v7.oneCell'=J):=by rcases hown7.2 with ⟨rfl,_⟩|⟨_,_,_,rfl,_⟩ <;> rfl
         have HOW7:Hid (w7.ownsRow W.heap.size 52 23 v7 (ys.take lo++z++ys.drop le).length (rowP (ys.take lo++z++ys.drop le))):=by
          have h:=hown7;rw[<- j1V] at h;show World.ownsRow _ _ _ _ _ _ _;rw[show (ys.take lo++z++ys.drop le).length=lz+(n-le) by rw[List.length_append,List.length_drop,HN.o.1,HLZ.o]];exact h
         have HT7:Hid (∀y∈ys.take lo++z++ys.drop le,NdIn w7 (fun _=>True) y.2 y.1.2.t):=fun y hy=>by
          rcases List.mem_append.1 hy with hy|hy
          ·rcases List.mem_append.1 hy with hy|hy
           ·exact((HT6.o y (List.mem_of_mem_take hy)).kp k67 (fun i hi e=>by have h1:=(HOW.o.lt i e).1;omega)).mono (fun b hb hl=>⟨rfl,trivial⟩)
           ·exact((HZT.o y hy).kp k67 (fun i hi e=>hi e)).mono (fun b hb hl=>⟨rfl,trivial⟩)
          ·exact((HT6.o y (List.mem_of_mem_drop hy)).kp k67 (fun i hi e=>by have h1:=(HOW.o.lt i e).1;omega)).mono (fun b hb hl=>⟨rfl,trivial⟩)
         clear hown7 hgrow7 k67 r6;go_wp2_with (first
          | (refine L9 rfl 22 (.tmp 75) (.tmp 73) rfl r rfl v7 rfl HO7.o 81 _ HB7.o (by kernel_rfl) ?_;intro Y hbY hkY)
          | fail)
         go_ret;refine⟨lo,v7,ys.take lo++z++ys.drop le,HP.o,?_,⟨hbY,⟨j3m HOW7.o HBW.o.1 hkY HRW.o,fun y hy=>(HT7.o y hy).monoC fun b' hb' hc=>?_⟩⟩,?_,(HNul.o w7 K7.o).trans hkY⟩
         ·rw[HE.o];rfl
         ·obtain⟨o,q,x,hc⟩:=hc;refine⟨hkY.block b' (J7 hc) (fun e=>?_),trivial⟩;have e':=e;subst e';exact j2A HB7.o hc
         ·rw[HE.o,if_pos rfl];unfold insK;rw[List.map_append,List.map_append,List.map_take,List.map_drop,HN.o.2.2.2,HZK.o,HLE.o,List.append_assoc]
end
end Go.Proofs.YtecjfnkakodebaaGreatDoor
