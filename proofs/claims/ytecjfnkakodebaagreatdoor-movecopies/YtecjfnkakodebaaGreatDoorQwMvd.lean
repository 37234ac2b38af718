/-Move: ofLines. -/
import Derived.Test.YtecjfnkakodebaaGreatDoorQwIh
import Derived.Test.YtecjfnkakodebaaGreatDoorQwMvc
set_option maxRecDepth 20000
set_option maxHeartbeats 16000000
namespace Go.Proofs.YtecjfnkakodebaaGreatDoor
open Go.RowKit
def fateA (r:Option Ar4):Value:=match r with
 | none=>.agg #[.int .i64 0,.int .i64 0,.int .i64 0,.int .i64 0]
 | some b=>.agg #[.int .i64 b.1.1,.int .i64 b.1.2,.int .i64 b.2.1,.int .i64 b.2.2]
def fateV (r:Option Ar4):Value:=.tuple #[fateA r,.bool r.isSome]
structure KeptIn (w:World) (xc xr:Nat) (cols:Bool) (at' n:Int):Prop where
 c:Blk w xc (spC (if cols then at' else 1) (if cols then n else 0) 256) 183
 r:Blk w xr (spC (if cols then 1 else at') (if cols then 0 else n) 4096) 183
theorem KeptIn.kp {w w':World} {xc xr:Nat} {cols:Bool} {at' n:Int} (h:KeptIn w xc xr cols at' n) (k:Kp w w' Nul):KeptIn w' xc xr cols at' n:=⟨h.c.kp k (fun x=>x),h.r.kp k (fun x=>x)⟩
theorem fateV_ln (cols:Bool) (at' n:Int) (a:Ar4) (X Y:Int×Int×Bool) (hX:X=thrV (thr (if cols then at' else 1) (if cols then n else 0) 256 a.1.1 a.2.1)) (hY:Y=thrV (thr (if cols then 1 else at') (if cols then 0 else n) 4096 a.1.2 a.2.2)) :
  fateV (lnF cols at' n a)=.tuple #[if X.2.2&&Y.2.2 then .agg #[.int .i64 X.1,.int .i64 Y.1,.int .i64 X.2.1,.int .i64 Y.2.1] else .agg #[.int .i64 0,.int .i64 0,.int .i64 0,.int .i64 0],.bool (X.2.2&&Y.2.2)]:=by
 subst hX hY
 unfold lnF
 cases h1:thr (if cols then at' else 1) (if cols then n else 0) 256 a.1.1 a.2.1 with
 | none=>rfl
 | some x=>
  cases h2:thr (if cols then 1 else at') (if cols then 0 else n) 4096 a.1.2 a.2.2 with
  | none=>rfl
  | some y=>rfl
theorem area_at (xc xr:Nat) (cols:Bool) (at' n:Int) (h:lnOk cols at' n) (a:Ar4) (w:World) (hk:KeptIn w xc xr cols at' n) :
  Calls Tryz.prog 144 #[.agg #[.slice (some ⟨xc,0,none⟩) 2 2,.slice (some ⟨xr,0,none⟩) 2 2],.agg #[.int .i64 a.1.1,.int .i64 a.1.2,.int .i64 a.2.1,.int .i64 a.2.2]] w fun e w'=>e=.returned (fateV (lnF cols at' n a))/\Kp w w' Nul:=by
 obtain⟨h1,h2⟩:=lnOk_two h
 rw[fateV_ln cols at' n a _ _ rfl rfl]
 exact area_core xc xr _ _ _ _ _ _ w (fun wq k=>through_at _ _ _ _ _ xc wq h1 (by decide) (hk.kp k).c) (fun wq k=>through_at _ _ _ _ _ xr wq h2 (by decide) (hk.kp k).r)
abbrev fateF (xc xr:Nat):Value:=.func (.func 144) #[.agg #[.slice (some ⟨xc,0,none⟩) 2 2,.slice (some ⟨xr,0,none⟩) 2 2]] #[]
theorem fate_one (xc xr:Nat):([fateF xc xr]:List Value).toArray.all (·.oneCell')=true:=by simp[Value.oneCell']
theorem infoFate:(Tryz.prog.info? 115).map (·.size)=some 1:=by kernel_rfl
theorem ofLines_ok (cols:Bool) (at' n:Int) (h:lnOk cols at' n) (w:World):Calls Tryz.prog 107 #[.bool cols,.int .i64 at',.int .i64 n] w fun e w'=>∃xc xr,e=.returned (.tuple #[.agg #[fateF xc xr],.int .i64 0])/\KeptIn w' xc xr cols at' n/\Kp w w' Nul:=by
 have HS:Hid (∀(a b c:Int),LnOk a b c->c<=4096->∀w,Calls Tryz.prog 143 #[.int .i64 a,.int .i64 b,.int .i64 c] w fun e w'=>∃x,e=.returned (.slice (some ⟨x,0,none⟩) 2 2)/\Blk w' x (spC a b c) 183/\w.heap.size<=x/\Kp w w' Nul):=fun a b c h1 h2 w=>spans_at a b c h1 h2 w
 obtain⟨h1,h2,h3,h4⟩:=h
 cases cols
 ·simp only[Bool.false_eq_true,if_false] at *
  have n1:¬at'<1:=by omega
  have HL:Hid (LnOk at' n 4096):=⟨h1,h2,h3,h4⟩
  go_enter Tryz.func107,Tryz.ntmps107
  go_wp2_with fail
  refine(HS.out 1 0 256 ⟨by decide,by decide,by decide,by decide⟩ (by decide) _).mono ?_
  rintro e w1 ⟨x1,rfl,hb1,hx1,hk1⟩
  have HB1:Hid (Blk w1 x1 (spC 1 0 256) 183):=hb1
  have HK1:Hid (Kp w w1 Nul):=((Kp.refl _ _).alloc _).trans hk1
  have R1:Hid (Blk w1 w.heap.size [.nilFunc] 115):=(Blk.new w _ _).kp hk1 (fun x=>x)
  clear hb1 hk1 hx1
  go_wp2_with fail
  refine(HS.out 1 0 4096 ⟨by decide,by decide,by decide,by decide⟩ (by decide) _).mono ?_
  rintro e w2 ⟨x2,rfl,hb2,hx2,hk2⟩
  have HB2:Hid (Blk w2 x1 (spC 1 0 256) 183):=HB1.out.kp hk2 (fun x=>x)
  have HC2:Hid (Blk w2 x2 (spC 1 0 4096) 183):=hb2
  have R2:Hid (Blk w2 w.heap.size [.nilFunc] 115):=R1.out.kp hk2 (fun x=>x)
  have HK2:Hid (Kp w w2 Nul):=HK1.out.trans hk2
  clear hb2 hk2 hx2 HB1 HK1 R1
  go_wp2_with fail
  refine(HS.out at' n 4096 HL.out (by decide) _).mono ?_
  rintro e w3 ⟨x3,rfl,hb3,hx3,hk3⟩
  have ka:Kp w2 w3 Nul:=((Kp.refl _ _).alloc _).trans hk3
  have HB3:Hid (Blk w3 x1 (spC 1 0 256) 183):=HB2.out.kp ka (fun x=>x)
  have HC3:Hid (Blk w3 x2 (spC 1 0 4096) 183):=HC2.out.kp ka (fun x=>x)
  have HD3:Hid (Blk w3 x3 (spC at' n 4096) 183):=hb3
  have R3:Hid (Blk w3 w.heap.size [.nilFunc] 115):=R2.out.kp ka (fun x=>x)
  have HK3:Hid (Kp w w3 Nul):=HK2.out.trans ka
  have HLe:Hid (w.heap.size<=w2.heap.size):=HK2.out.size
  have bk:Blk w3 w2.heap.size [.slice (some ⟨x1,0,none⟩) 2 2,.slice (some ⟨x2,0,none⟩) 2 2] 169:=(Blk.new w2 _ _).kp hk3 (fun x=>x)
  have k1:w3.cell? ⟨w2.heap.size,1,none⟩=some (.slice (some ⟨x2,0,none⟩) 2 2):=bk.cell rfl
  have k0:w3.cell? ⟨w2.heap.size,0,none⟩=some (.slice (some ⟨x1,0,none⟩) 2 2):=bk.cell rfl
  have z1:=bk.froz 1
  have hWn:Hid (∀X,w3.setCell ⟨w2.heap.size,1,none⟩ (.slice (some ⟨x3,0,none⟩) 2 2)=X->Kp w3 X (fun i=>i=w2.heap.size)/\Blk X w2.heap.size [.slice (some ⟨x1,0,none⟩) 2 2,.slice (some ⟨x3,0,none⟩) 2 2] 169):=fun X e=>by
   subst e
   exact⟨(Kp.refl w3 _).setCell _ _ (.inr rfl),bk.set 1 _⟩
  clear hb3 hx3 hk3 ka HB2 HC2 R2 HK2
  obtain⟨X,hX⟩:∃X,w3.setCell ⟨w2.heap.size,1,none⟩ (.slice (some ⟨x3,0,none⟩) 2 2)=X:=⟨_,rfl⟩
  obtain⟨hkX,hbX⟩:=hWn.out X hX
  have ne1:∀ {b:Nat} {cs:List Value},Blk w3 b cs 183->Blk X b cs 183:=fun h=>h.kp hkX (Blk.ne h bk (by decide))
  have RX:Hid (Blk X w.heap.size [.nilFunc] 115):=R3.out.kp hkX (Blk.ne R3.out bk (by decide))
  have BX:Hid (KeptIn X x1 x3 false at' n):=⟨ne1 HB3.out,ne1 HD3.out⟩
  have KX:Hid (Kp w X Nul):=HK3.out.trans' hkX (fun i hi e=>by have:i=w2.heap.size:=e;have:=HLe.out;omega)
  have q0:X.cell? ⟨w2.heap.size,0,none⟩=some ([.slice (some ⟨x1,0,none⟩) 2 2,.slice (some ⟨x3,0,none⟩) 2 2][0]):=hbX.cell rfl
  have q1:X.cell? ⟨w2.heap.size,1,none⟩=some ([.slice (some ⟨x1,0,none⟩) 2 2,.slice (some ⟨x3,0,none⟩) 2 2][1]):=hbX.cell rfl
  simp only[List.getElem_cons_zero,List.getElem_cons_succ] at q0 q1
  clear ne1 hkX hbX bk HB3 HC3 HD3 R3 HK3 hWn
  go_wp2_with (first|(refine wpList_store_blk rfl 115 (.tmp 6) (.tmp 46) rfl w.heap.size _ [fateF x1 x3] _ RX.out rfl rfl rfl infoFate (fate_one _ _) ?_;intro w4 hb4 hk4)|fail)
  have y0:w4.cell? ⟨w.heap.size,0,none⟩=some (fateF x1 x3):=hb4.cell rfl
  have hKw:Kp w w4 Nul:=KX.out.trans' hk4 (fun i hi e=>by have:i=w.heap.size:=e;omega)
  have hBw:KeptIn w4 x1 x3 false at' n:=⟨BX.out.c.kp hk4 (Blk.ne BX.out.c RX.out (by decide)),BX.out.r.kp hk4 (Blk.ne BX.out.r RX.out (by decide))⟩
  refine bodyPost_ret (v:=.tuple #[.agg #[fateF x1 x3],.int .i64 0]) (by simp[results,Tryz.results107,go_sem,y0]) rfl ?_
  exact⟨_,_,rfl,hBw,hKw⟩
 ·simp only[if_true] at *
  have n1:¬at'<1:=by omega
  have HL:Hid (LnOk at' n 256):=⟨h1,h2,h3,h4⟩
  go_enter Tryz.func107,Tryz.ntmps107
  go_wp2_with fail
  refine(HS.out 1 0 256 ⟨by decide,by decide,by decide,by decide⟩ (by decide) _).mono ?_
  rintro e w1 ⟨x1,rfl,hb1,hx1,hk1⟩
  have HB1:Hid (Blk w1 x1 (spC 1 0 256) 183):=hb1
  have HK1:Hid (Kp w w1 Nul):=((Kp.refl _ _).alloc _).trans hk1
  have R1:Hid (Blk w1 w.heap.size [.nilFunc] 115):=(Blk.new w _ _).kp hk1 (fun x=>x)
  clear hb1 hk1 hx1
  go_wp2_with fail
  refine(HS.out 1 0 4096 ⟨by decide,by decide,by decide,by decide⟩ (by decide) _).mono ?_
  rintro e w2 ⟨x2,rfl,hb2,hx2,hk2⟩
  have HB2:Hid (Blk w2 x1 (spC 1 0 256) 183):=HB1.out.kp hk2 (fun x=>x)
  have HC2:Hid (Blk w2 x2 (spC 1 0 4096) 183):=hb2
  have R2:Hid (Blk w2 w.heap.size [.nilFunc] 115):=R1.out.kp hk2 (fun x=>x)
  have HK2:Hid (Kp w w2 Nul):=HK1.out.trans hk2
  clear hb2 hk2 hx2 HB1 HK1 R1
  go_wp2_with fail
  refine(HS.out at' n 256 HL.out (by decide) _).mono ?_
  rintro e w3 ⟨x3,rfl,hb3,hx3,hk3⟩
  have ka:Kp w2 w3 Nul:=((Kp.refl _ _).alloc _).trans hk3
  have HB3:Hid (Blk w3 x1 (spC 1 0 256) 183):=HB2.out.kp ka (fun x=>x)
  have HC3:Hid (Blk w3 x2 (spC 1 0 4096) 183):=HC2.out.kp ka (fun x=>x)
  have HD3:Hid (Blk w3 x3 (spC at' n 256) 183):=hb3
  have R3:Hid (Blk w3 w.heap.size [.nilFunc] 115):=R2.out.kp ka (fun x=>x)
  have HK3:Hid (Kp w w3 Nul):=HK2.out.trans ka
  have HLe:Hid (w.heap.size<=w2.heap.size):=HK2.out.size
  have bk:Blk w3 w2.heap.size [.slice (some ⟨x1,0,none⟩) 2 2,.slice (some ⟨x2,0,none⟩) 2 2] 169:=(Blk.new w2 _ _).kp hk3 (fun x=>x)
  have k1:w3.cell? ⟨w2.heap.size,1,none⟩=some (.slice (some ⟨x2,0,none⟩) 2 2):=bk.cell rfl
  have k0:w3.cell? ⟨w2.heap.size,0,none⟩=some (.slice (some ⟨x1,0,none⟩) 2 2):=bk.cell rfl
  have z1:=bk.froz 0
  have hWn:Hid (∀X,w3.setCell ⟨w2.heap.size,0,none⟩ (.slice (some ⟨x3,0,none⟩) 2 2)=X->Kp w3 X (fun i=>i=w2.heap.size)/\Blk X w2.heap.size [.slice (some ⟨x3,0,none⟩) 2 2,.slice (some ⟨x2,0,none⟩) 2 2] 169):=fun X e=>by
   subst e
   exact⟨(Kp.refl w3 _).setCell _ _ (.inr rfl),bk.set 0 _⟩
  clear hb3 hx3 hk3 ka HB2 HC2 R2 HK2
  obtain⟨X,hX⟩:∃X,w3.setCell ⟨w2.heap.size,0,none⟩ (.slice (some ⟨x3,0,none⟩) 2 2)=X:=⟨_,rfl⟩
  obtain⟨hkX,hbX⟩:=hWn.out X hX
  have ne1:∀ {b:Nat} {cs:List Value},Blk w3 b cs 183->Blk X b cs 183:=fun h=>h.kp hkX (Blk.ne h bk (by decide))
  have RX:Hid (Blk X w.heap.size [.nilFunc] 115):=R3.out.kp hkX (Blk.ne R3.out bk (by decide))
  have BX:Hid (KeptIn X x3 x2 true at' n):=⟨ne1 HD3.out,ne1 HC3.out⟩
  have KX:Hid (Kp w X Nul):=HK3.out.trans' hkX (fun i hi e=>by have:i=w2.heap.size:=e;have:=HLe.out;omega)
  have q0:X.cell? ⟨w2.heap.size,0,none⟩=some ([.slice (some ⟨x3,0,none⟩) 2 2,.slice (some ⟨x2,0,none⟩) 2 2][0]):=hbX.cell rfl
  have q1:X.cell? ⟨w2.heap.size,1,none⟩=some ([.slice (some ⟨x3,0,none⟩) 2 2,.slice (some ⟨x2,0,none⟩) 2 2][1]):=hbX.cell rfl
  simp only[List.getElem_cons_zero,List.getElem_cons_succ] at q0 q1
  clear ne1 hkX hbX bk HB3 HC3 HD3 R3 HK3 hWn
  go_wp2_with (first|(refine wpList_store_blk rfl 115 (.tmp 6) (.tmp 46) rfl w.heap.size _ [fateF x3 x2] _ RX.out rfl rfl rfl infoFate (fate_one _ _) ?_;intro w4 hb4 hk4)|fail)
  have y0:w4.cell? ⟨w.heap.size,0,none⟩=some (fateF x3 x2):=hb4.cell rfl
  have hKw:Kp w w4 Nul:=KX.out.trans' hk4 (fun i hi e=>by have:i=w.heap.size:=e;omega)
  have hBw:KeptIn w4 x3 x2 true at' n:=⟨BX.out.c.kp hk4 (Blk.ne BX.out.c RX.out (by decide)),BX.out.r.kp hk4 (Blk.ne BX.out.r RX.out (by decide))⟩
  refine bodyPost_ret (v:=.tuple #[.agg #[fateF x3 x2],.int .i64 0]) (by simp[results,Tryz.results107,go_sem,y0]) rfl ?_
  exact⟨_,_,rfl,hBw,hKw⟩
theorem ofLines_no (cols:Bool) (at' n:Int) (h:¬lnOk cols at' n) (w:World):Calls Tryz.prog 107 #[.bool cols,.int .i64 at',.int .i64 n] w fun e w'=>e=.returned (.tuple #[.agg #[.nilFunc],.int .i64 1])/\Kp w w' Nul:=by
 have hb:at'<1∨(if cols then 256 else 4096)<at'∨n < -(if cols then 256 else 4096)∨(if cols then 256 else 4096)<n:=by
  refine Classical.byContradiction fun q=>h ?_
  cases cols
  ·simp only[Bool.false_eq_true,if_false] at q
   exact⟨by omega,by simp;omega,by simp;omega,by simp;omega⟩
  ·simp only[if_true] at q
   exact⟨by omega,by simp;omega,by simp;omega,by simp;omega⟩
 clear h
 cases cols
 ·simp only[Bool.false_eq_true,if_false] at hb
  go_enter Tryz.func107,Tryz.ntmps107
  go_wp2_with fail
  all_goals first
   | (exfalso;omega)
   | (
    refine bodyPost_ret (v:=.tuple #[.agg #[.nilFunc],.int .i64 1]) (by simp[results,Tryz.results107,go_sem]) rfl ?_
    exact⟨rfl,(Kp.refl _ _).alloc _⟩)
 ·simp only[if_true] at hb
  go_enter Tryz.func107,Tryz.ntmps107
  go_wp2_with fail
  all_goals first
   | (exfalso;omega)
   | (
    refine bodyPost_ret (v:=.tuple #[.agg #[.nilFunc],.int .i64 1]) (by simp[results,Tryz.results107,go_sem]) rfl ?_
    exact⟨rfl,(Kp.refl _ _).alloc _⟩)
def nmS (f:Fate) (h:Hd) (sl:Value):Value:=match f (nmA h) with
 | none=>.slice none 0 0
 | some _=>sl
theorem blk_range {w:World} {b:Nat} {cs:List Value} {t:TypeId} (h:Blk w b cs t):w.rangeAt b 0 cs:=fun j v hj=>by
 rw[Nat.zero_add];exact h.cell hj
theorem ints2 (a b:Int):(([.int .i64 a,.int .i64 b]:List Value).toArray.all (·.oneCell'))=true:=by simp[Value.oneCell']
theorem infoAddr2':(Tryz.prog.info? 32).map (·.size)=some 2:=by kernel_rfl
theorem named_ln (xc xr:Nat) (cols:Bool) (at' n:Int) (h:lnOk cols at' n) (hd:Hd) (ts:List Nd) (sl:Value) (hs:sl.oneCell'=true) (w:World) (hk:KeptIn w xc xr cols at' n) :
  Calls Tryz.prog 142 #[.agg #[fateF xc xr],hd.val sl] w fun e w'=>e=.returned ((nmN (lnF cols at' n) (.mk hd ts)).hd.val (nmS (lnF cols at' n) hd sl))/\Kp w w' Nul:=by
 have HF:Hid (∀(a:Ar4) wq,Kp w wq Nul->Calls Tryz.prog 144 #[.agg #[.slice (some ⟨xc,0,none⟩) 2 2,.slice (some ⟨xr,0,none⟩) 2 2],.agg #[.int .i64 a.1.1,.int .i64 a.1.2,.int .i64 a.2.1,.int .i64 a.2.2]] wq fun e w'=>e=.returned (fateV (lnF cols at' n a))/\Kp wq w' Nul):=fun a wq k=>area_at xc xr cols at' n h a wq (hk.kp k)
 have HA:Hid (∀(c r:Int) w,Calls Tryz.prog 105 #[.agg #[.int .i64 c,.int .i64 r]] w fun e w'=>e=.returned (.agg #[.int .i64 c,.int .i64 r,.int .i64 c,.int .i64 r])/\Kp w w' Nul):=fun c r w=>alone_at c r w
 generalize lnF cols at' n=f at *
 clear hk h
 have HO:Hid (sl.oneCell'=true):=hs
 obtain⟨k,o',x,s,bb,ff,c1,r1,p1,q1,c2,r2,p2,q2⟩:=hd
 clear hs
 by_cases hk6:k=6
 ·subst hk6
  have hAr:nmA (Hd.mk 6 o' x s bb ff c1 r1 p1 q1 c2 r2 p2 q2)=((c1,r1),(c2,r2)):=by unfold nmA;rw[if_pos rfl]
  have hFr:=HF.out ((c1,r1),(c2,r2))
  have HV:Hid (fateV (f ((c1,r1),(c2,r2)))=fateV (f ((c1,r1),(c2,r2)))):=rfl
  rw[show nmN f (Nd.mk (Hd.mk 6 o' x s bb ff c1 r1 p1 q1 c2 r2 p2 q2) ts)=(match f ((c1,r1),(c2,r2)) with|none=>ndF|some a=>.mk (toH (Hd.mk 6 o' x s bb ff c1 r1 p1 q1 c2 r2 p2 q2) a) ts) by unfold nmN;rw[<- hAr];rfl]
  rw[show nmS f (Hd.mk 6 o' x s bb ff c1 r1 p1 q1 c2 r2 p2 q2) sl=(match f ((c1,r1),(c2,r2)) with|none=>.slice none 0 0|some _=>sl) by unfold nmS;rw[<- hAr]]
  have HFr:Hid (∀wq,Kp w wq Nul->Calls Tryz.prog 144 #[.agg #[.slice (some ⟨xc,0,none⟩) 2 2,.slice (some ⟨xr,0,none⟩) 2 2],.agg #[.int .i64 c1,.int .i64 r1,.int .i64 c2,.int .i64 r2]] wq fun e w'=>e=.returned (fateV (f ((c1,r1),(c2,r2))))/\Kp wq w' Nul):=hFr
  clear hAr hFr HF HV
  generalize f ((c1,r1),(c2,r2))=R at *
  go_enter Tryz.func142,Tryz.ntmps142
  go_wp2_with fail
  obtain⟨W0,hW0⟩:∃W0,((w.alloc (.cells #[fateF xc xr] 115)).alloc (.cells #[.int .i64 6,.int .i64 o',.float .f64 x,.string s,.bool bb,.int .i64 ff,.int .i64 c1,.int .i64 r1,.bool p1,.bool q1,.int .i64 c2,.int .i64 r2,.bool p2,.bool q2,sl] 48)).alloc (.cells #[.int .i64 0,.int .i64 0,.float .f64 0,.string ⟨#[]⟩,.bool false,.int .i64 0,.int .i64 0,.int .i64 0,.bool false,.bool false,.int .i64 0,.int .i64 0,.bool false,.bool false,.slice none 0 0] 48)=W0:=⟨_,rfl⟩
  rw[hW0]
  have k0:Kp w W0 Nul:=by rw[<- hW0];exact(((Kp.refl w Nul).alloc _).alloc _).alloc _
  have b0:Blk W0 w.heap.size [fateF xc xr] 115:=by rw[<- hW0];exact((Blk.new w _ _).alloc _).alloc _
  have b1:Blk W0 (w.heap.size+1) [.int .i64 6,.int .i64 o',.float .f64 x,.string s,.bool bb,.int .i64 ff,.int .i64 c1,.int .i64 r1,.bool p1,.bool q1,.int .i64 c2,.int .i64 r2,.bool p2,.bool q2,sl] 48:=by
   rw[<- hW0]
   have:=Blk.new (w.alloc (.cells #[fateF xc xr] 115)) [.int .i64 6,.int .i64 o',.float .f64 x,.string s,.bool bb,.int .i64 ff,.int .i64 c1,.int .i64 r1,.bool p1,.bool q1,.int .i64 c2,.int .i64 r2,.bool p2,.bool q2,sl] 48
   rw[World.size_alloc] at this
   exact this.alloc _
  have b2:Blk W0 (w.heap.size+1+1) [.int .i64 0,.int .i64 0,.float .f64 0,.string ⟨#[]⟩,.bool false,.int .i64 0,.int .i64 0,.int .i64 0,.bool false,.bool false,.int .i64 0,.int .i64 0,.bool false,.bool false,.slice none 0 0] 48:=by
   rw[<- hW0]
   have:=Blk.new ((w.alloc (.cells #[fateF xc xr] 115)).alloc (.cells #[.int .i64 6,.int .i64 o',.float .f64 x,.string s,.bool bb,.int .i64 ff,.int .i64 c1,.int .i64 r1,.bool p1,.bool q1,.int .i64 c2,.int .i64 r2,.bool p2,.bool q2,sl] 48)) [.int .i64 0,.int .i64 0,.float .f64 0,.string ⟨#[]⟩,.bool false,.int .i64 0,.int .i64 0,.int .i64 0,.bool false,.bool false,.int .i64 0,.int .i64 0,.bool false,.bool false,.slice none 0 0] 48
   rw[World.size_alloc,World.size_alloc] at this
   exact this
  clear hW0
  refine(HA.out c1 r1 _).mono ?_
  rintro e w1 ⟨rfl,hk1⟩
  have K1:Hid (Kp w w1 Nul):=k0.trans hk1
  have hsz:w.heap.size+3<=w1.heap.size:=by have:=(b2.kp hk1 (fun x=>x)).lt;omega
  obtain⟨W1,hW1⟩:∃W1,w1.alloc (.cells #[.int .i64 c1,.int .i64 r1,.int .i64 c1,.int .i64 r1] 34)=W1:=⟨_,rfl⟩
  have k1a:Kp w1 W1 Nul:=by rw[<- hW1];exact(Kp.refl _ _).alloc _
  have bA:Blk W1 w1.heap.size [.int .i64 c1,.int .i64 r1,.int .i64 c1,.int .i64 r1] 34:=by rw[<- hW1];exact Blk.new _ _ _
  have k01:=hk1.trans k1a
  have HB0:Hid (Blk W1 w.heap.size [fateF xc xr] 115):=b0.kp k01 (fun x=>x)
  have HB1:Hid (Blk W1 (w.heap.size+1) [.int .i64 6,.int .i64 o',.float .f64 x,.string s,.bool bb,.int .i64 ff,.int .i64 c1,.int .i64 r1,.bool p1,.bool q1,.int .i64 c2,.int .i64 r2,.bool p2,.bool q2,sl] 48):=b1.kp k01 (fun x=>x)
  have HB2:Hid (Blk W1 (w.heap.size+1+1) [.int .i64 0,.int .i64 0,.float .f64 0,.string ⟨#[]⟩,.bool false,.int .i64 0,.int .i64 0,.int .i64 0,.bool false,.bool false,.int .i64 0,.int .i64 0,.bool false,.bool false,.slice none 0 0] 48):=b2.kp k01 (fun x=>x)
  have HBA:Hid (Blk W1 w1.heap.size [.int .i64 c1,.int .i64 r1,.int .i64 c1,.int .i64 r1] 34):=bA
  have KW1:Hid (Kp w W1 Nul):=K1.out.trans k1a
  have HSZ:Hid (w.heap.size+3<=w1.heap.size):=hsz
  have d0:W1.cell? ⟨(w.heap.size+1),0,none⟩=some (.int .i64 6):=HB1.out.cell rfl
  have d10:W1.cell? ⟨(w.heap.size+1),10,none⟩=some (.int .i64 c2):=HB1.out.cell rfl
  have d11:W1.cell? ⟨(w.heap.size+1),11,none⟩=some (.int .i64 r2):=HB1.out.cell rfl
  clear k0 b0 b1 b2 hk1 hsz k1a bA k01
  go_wp2_with (first|(refine wpList_store_part rfl 32 (.tmp 17) (.tmp 16) rfl w1.heap.size 2 [.int .i64 c1,.int .i64 r1] [.int .i64 c1,.int .i64 r1] [] [.int .i64 c2,.int .i64 r2] _ HBA.out rfl rfl rfl rfl infoAddr2' (ints2 _ _) ?_;intro W2 hbA2 hk2;have e0:W2.cell? ⟨w1.heap.size,0,none⟩=some (.int .i64 c1):=hbA2.cell rfl;have e1:W2.cell? ⟨w1.heap.size,1,none⟩=some (.int .i64 r1):=hbA2.cell rfl;have e2:W2.cell? ⟨w1.heap.size,2,none⟩=some (.int .i64 c2):=hbA2.cell rfl;have e3:W2.cell? ⟨w1.heap.size,3,none⟩=some (.int .i64 r2):=hbA2.cell rfl;have f0:W2.cell? ⟨w.heap.size,0,none⟩=some (fateF xc xr):=(HB0.out.kp hk2 (Blk.ne HB0.out HBA.out (by decide))).cell rfl)|fail)
  have HC0:Hid (Blk W2 w.heap.size [fateF xc xr] 115):=HB0.out.kp hk2 (Blk.ne HB0.out HBA.out (by decide))
  have HC1:Hid (Blk W2 (w.heap.size+1) [.int .i64 6,.int .i64 o',.float .f64 x,.string s,.bool bb,.int .i64 ff,.int .i64 c1,.int .i64 r1,.bool p1,.bool q1,.int .i64 c2,.int .i64 r2,.bool p2,.bool q2,sl] 48):=HB1.out.kp hk2 (Blk.ne HB1.out HBA.out (by decide))
  have HC2:Hid (Blk W2 (w.heap.size+1+1) [.int .i64 0,.int .i64 0,.float .f64 0,.string ⟨#[]⟩,.bool false,.int .i64 0,.int .i64 0,.int .i64 0,.bool false,.bool false,.int .i64 0,.int .i64 0,.bool false,.bool false,.slice none 0 0] 48):=HB2.out.kp hk2 (Blk.ne HB2.out HBA.out (by decide))
  have HCA:Hid (Blk W2 w1.heap.size [.int .i64 c1,.int .i64 r1,.int .i64 c2,.int .i64 r2] 34):=hbA2
  have KW2:Hid (Kp w W2 Nul):=KW1.out.trans' hk2 (fun i hi e=>by have:i=w1.heap.size:=e;have:=HSZ.out;omega)
  clear hk2 hbA2 HB0 HB1 HB2 HBA KW1 d0 d10 d11 e0 e1 e2 e3 f0
  refine(HFr.out _ KW2.out).mono ?_
  rintro e W3 ⟨rfl,hk3⟩
  have HD1:Hid (Blk W3 (w.heap.size+1) [.int .i64 6,.int .i64 o',.float .f64 x,.string s,.bool bb,.int .i64 ff,.int .i64 c1,.int .i64 r1,.bool p1,.bool q1,.int .i64 c2,.int .i64 r2,.bool p2,.bool q2,sl] 48):=HC1.out.kp hk3 (fun x=>x)
  have HD2:Hid (Blk W3 (w.heap.size+1+1) [.int .i64 0,.int .i64 0,.float .f64 0,.string ⟨#[]⟩,.bool false,.int .i64 0,.int .i64 0,.int .i64 0,.bool false,.bool false,.int .i64 0,.int .i64 0,.bool false,.bool false,.slice none 0 0] 48):=HC2.out.kp hk3 (fun x=>x)
  have HDA:Hid (Blk W3 w1.heap.size [.int .i64 c1,.int .i64 r1,.int .i64 c2,.int .i64 r2] 34):=HCA.out.kp hk3 (fun x=>x)
  have KW3:Hid (Kp w W3 Nul):=KW2.out.trans hk3
  clear hk3 HC0 HC1 HC2 HCA KW2 HFr HA
  have LE:Hid (∀i,i=(w.heap.size+1)∨i=(w.heap.size+1+1)∨i=w1.heap.size->¬i<w.heap.size):=fun i hi=>by have:=HSZ.out;omega
  cases R with
  | none=>
   simp only[fateV,fateA,Option.isSome]
   go_wp2_with (first
    | (refine wpList_store_blk rfl 34 (.tmp 5) (.tmp 23) rfl w1.heap.size _ [.int .i64 0,.int .i64 0,.int .i64 0,.int .i64 0] _ HDA.out rfl rfl rfl infoArea (ints4 _ _ _ _) ?_;intro W4 hbA4 hk4;have HE2:Hid (Blk W4 (w.heap.size+1+1) [.int .i64 0,.int .i64 0,.float .f64 0,.string ⟨#[]⟩,.bool false,.int .i64 0,.int .i64 0,.int .i64 0,.bool false,.bool false,.int .i64 0,.int .i64 0,.bool false,.bool false,.slice none 0 0] 48):=HD2.out.kp hk4 (Blk.ne HD2.out HDA.out (by decide)))
    | (refine wpList_store_blk rfl 48 (.tmp 4) (.tmp 27) rfl (w.heap.size+1+1) _ [.int .i64 4,.int .i64 0,.float .f64 0,.string ⟨#[]⟩,.bool false,.int .i64 4,.int .i64 0,.int .i64 0,.bool false,.bool false,.int .i64 0,.int .i64 0,.bool false,.bool false,.slice none 0 0] _ HE2.out rfl rfl rfl infoNode (Hd.one ⟨4,0,0,⟨#[]⟩,false,4,0,0,false,false,0,0,false,false⟩ rfl) ?_;intro W5 hb5 hk5)
    | fail)
   refine bodyPost_ret (results_cell_row rfl _ _ (w.heap.size+1+1) 48 _ (0,0) _ rfl hb5 Tryz.underlying48 rfl infoNode) rfl ?_
   refine⟨rfl,(KW3.out.trans' hk4 (fun i hi e=>LE.out i (.inr (.inr e)) hi)).trans' hk5 (fun i hi e=>LE.out i (.inr (.inl e)) hi)⟩
  | some b=>
   obtain⟨⟨b1,s1⟩,⟨b2,s2⟩⟩:=b
   simp only[fateV,fateA,Option.isSome]
   go_wp2_with (first
    | (refine wpList_store_blk rfl 34 (.tmp 5) (.tmp 23) rfl w1.heap.size _ [.int .i64 b1,.int .i64 s1,.int .i64 b2,.int .i64 s2] _ HDA.out rfl rfl rfl infoArea (ints4 _ _ _ _) ?_;intro W4 hbA4 hk4;have HE1:Hid (Blk W4 (w.heap.size+1) [.int .i64 6,.int .i64 o',.float .f64 x,.string s,.bool bb,.int .i64 ff,.int .i64 c1,.int .i64 r1,.bool p1,.bool q1,.int .i64 c2,.int .i64 r2,.bool p2,.bool q2,sl] 48):=HD1.out.kp hk4 (Blk.ne HD1.out HDA.out (by decide));have HE2:Hid (Blk W4 (w.heap.size+1+1) [.int .i64 0,.int .i64 0,.float .f64 0,.string ⟨#[]⟩,.bool false,.int .i64 0,.int .i64 0,.int .i64 0,.bool false,.bool false,.int .i64 0,.int .i64 0,.bool false,.bool false,.slice none 0 0] 48):=HD2.out.kp hk4 (Blk.ne HD2.out HDA.out (by decide));have e0:W4.cell? ⟨w1.heap.size,0,none⟩=some (.int .i64 b1):=hbA4.cell rfl;have e1:W4.cell? ⟨w1.heap.size,1,none⟩=some (.int .i64 s1):=hbA4.cell rfl)
    | (refine wpList_store_part rfl 32 (.tmp 31) (.tmp 29) rfl (w.heap.size+1) 6 [.int .i64 6,.int .i64 o',.float .f64 x,.string s,.bool bb,.int .i64 ff] [.int .i64 c1,.int .i64 r1] [.bool p1,.bool q1,.int .i64 c2,.int .i64 r2,.bool p2,.bool q2,sl] [.int .i64 b1,.int .i64 s1] _ HE1.out rfl rfl rfl rfl infoAddr2' (ints2 _ _) ?_;intro W5 hb5 hk5;have g0:W5.cell? ⟨(w.heap.size+1),0,none⟩=some (.int .i64 6):=hb5.cell rfl;have HF2:Hid (Blk W5 (w.heap.size+1+1) [.int .i64 0,.int .i64 0,.float .f64 0,.string ⟨#[]⟩,.bool false,.int .i64 0,.int .i64 0,.int .i64 0,.bool false,.bool false,.int .i64 0,.int .i64 0,.bool false,.bool false,.slice none 0 0] 48):=HE2.out.kp hk5 (by show ¬(w.heap.size+1+1)=(w.heap.size+1);omega);have hbA5:=hbA4.kp hk5 (Blk.ne hbA4 HE1.out (by decide));have e2:W5.cell? ⟨w1.heap.size,2,none⟩=some (.int .i64 b2):=hbA5.cell rfl;have e3:W5.cell? ⟨w1.heap.size,3,none⟩=some (.int .i64 s2):=hbA5.cell rfl)
    | (refine wpList_store_part rfl 32 (.tmp 38) (.tmp 36) rfl (w.heap.size+1) 10 [.int .i64 6,.int .i64 o',.float .f64 x,.string s,.bool bb,.int .i64 ff,.int .i64 b1,.int .i64 s1,.bool p1,.bool q1] [.int .i64 c2,.int .i64 r2] [.bool p2,.bool q2,sl] [.int .i64 b2,.int .i64 s2] _ hb5 rfl rfl rfl rfl infoAddr2' (ints2 _ _) ?_;intro W6 hb6 hk6;have HG1:Hid (Blk W6 (w.heap.size+1) [.int .i64 6,.int .i64 o',.float .f64 x,.string s,.bool bb,.int .i64 ff,.int .i64 b1,.int .i64 s1,.bool p1,.bool q1,.int .i64 b2,.int .i64 s2,.bool p2,.bool q2,sl] 48):=hb6;have HG2:Hid (Blk W6 (w.heap.size+1+1) [.int .i64 0,.int .i64 0,.float .f64 0,.string ⟨#[]⟩,.bool false,.int .i64 0,.int .i64 0,.int .i64 0,.bool false,.bool false,.int .i64 0,.int .i64 0,.bool false,.bool false,.slice none 0 0] 48):=HF2.out.kp hk6 (by show ¬(w.heap.size+1+1)=(w.heap.size+1);omega))
    | (refine wpList_load_mid rfl 48 (.tmp 3) rfl (w.heap.size+1) 0 rfl [.int .i64 6,.int .i64 o',.float .f64 x,.string s,.bool bb,.int .i64 ff,.int .i64 b1,.int .i64 s1,.bool p1,.bool q1,.int .i64 b2,.int .i64 s2,.bool p2,.bool q2,sl] _ (blk_range HG1.out) Tryz.underlying48 rfl infoNode ?_)
    | (refine wpList_store_blk rfl 48 (.tmp 4) (.tmp 39) rfl (w.heap.size+1+1) _ [.int .i64 6,.int .i64 o',.float .f64 x,.string s,.bool bb,.int .i64 ff,.int .i64 b1,.int .i64 s1,.bool p1,.bool q1,.int .i64 b2,.int .i64 s2,.bool p2,.bool q2,sl] _ HG2.out rfl rfl rfl infoNode (Hd.one ⟨6,o',x,s,bb,ff,b1,s1,p1,q1,b2,s2,p2,q2⟩ HO.out) ?_;intro W7 hb7 hk7)
    | fail)
   refine bodyPost_ret (results_cell_row rfl _ _ (w.heap.size+1+1) 48 _ (0,0) _ rfl hb7 Tryz.underlying48 rfl infoNode) rfl ?_
   exact⟨rfl,(((KW3.out.trans' hk4 (fun i hi e=>LE.out i (.inr (.inr e)) hi)).trans' hk5 (fun i hi e=>LE.out i (.inl e) hi)).trans' hk6 (fun i hi e=>LE.out i (.inl e) hi)).trans' hk7 (fun i hi e=>LE.out i (.inr (.inl e)) hi)⟩
 ·have hAr:nmA (Hd.mk k o' x s bb ff c1 r1 p1 q1 c2 r2 p2 q2)=((c1,r1),(c1,r1)):=by unfold nmA;rw[if_neg (show ¬k=6 from hk6)]
  have hFr:=HF.out ((c1,r1),(c1,r1))
  have HV:Hid (fateV (f ((c1,r1),(c1,r1)))=fateV (f ((c1,r1),(c1,r1)))):=rfl
  rw[show nmN f (Nd.mk (Hd.mk k o' x s bb ff c1 r1 p1 q1 c2 r2 p2 q2) ts)=(match f ((c1,r1),(c1,r1)) with|none=>ndF|some a=>.mk (toH (Hd.mk k o' x s bb ff c1 r1 p1 q1 c2 r2 p2 q2) a) ts) by unfold nmN;rw[<- hAr];rfl]
  rw[show nmS f (Hd.mk k o' x s bb ff c1 r1 p1 q1 c2 r2 p2 q2) sl=(match f ((c1,r1),(c1,r1)) with|none=>.slice none 0 0|some _=>sl) by unfold nmS;rw[<- hAr]]
  have HFr:Hid (∀wq,Kp w wq Nul->Calls Tryz.prog 144 #[.agg #[.slice (some ⟨xc,0,none⟩) 2 2,.slice (some ⟨xr,0,none⟩) 2 2],.agg #[.int .i64 c1,.int .i64 r1,.int .i64 c1,.int .i64 r1]] wq fun e w'=>e=.returned (fateV (f ((c1,r1),(c1,r1))))/\Kp wq w' Nul):=hFr
  clear hAr hFr HF HV
  generalize f ((c1,r1),(c1,r1))=R at *
  go_enter Tryz.func142,Tryz.ntmps142
  go_wp2_with fail
  obtain⟨W0,hW0⟩:∃W0,((w.alloc (.cells #[fateF xc xr] 115)).alloc (.cells #[.int .i64 k,.int .i64 o',.float .f64 x,.string s,.bool bb,.int .i64 ff,.int .i64 c1,.int .i64 r1,.bool p1,.bool q1,.int .i64 c2,.int .i64 r2,.bool p2,.bool q2,sl] 48)).alloc (.cells #[.int .i64 0,.int .i64 0,.float .f64 0,.string ⟨#[]⟩,.bool false,.int .i64 0,.int .i64 0,.int .i64 0,.bool false,.bool false,.int .i64 0,.int .i64 0,.bool false,.bool false,.slice none 0 0] 48)=W0:=⟨_,rfl⟩
  rw[hW0]
  have k0:Kp w W0 Nul:=by rw[<- hW0];exact(((Kp.refl w Nul).alloc _).alloc _).alloc _
  have b0:Blk W0 w.heap.size [fateF xc xr] 115:=by rw[<- hW0];exact((Blk.new w _ _).alloc _).alloc _
  have b1:Blk W0 (w.heap.size+1) [.int .i64 k,.int .i64 o',.float .f64 x,.string s,.bool bb,.int .i64 ff,.int .i64 c1,.int .i64 r1,.bool p1,.bool q1,.int .i64 c2,.int .i64 r2,.bool p2,.bool q2,sl] 48:=by
   rw[<- hW0]
   have:=Blk.new (w.alloc (.cells #[fateF xc xr] 115)) [.int .i64 k,.int .i64 o',.float .f64 x,.string s,.bool bb,.int .i64 ff,.int .i64 c1,.int .i64 r1,.bool p1,.bool q1,.int .i64 c2,.int .i64 r2,.bool p2,.bool q2,sl] 48
   rw[World.size_alloc] at this
   exact this.alloc _
  have b2:Blk W0 (w.heap.size+1+1) [.int .i64 0,.int .i64 0,.float .f64 0,.string ⟨#[]⟩,.bool false,.int .i64 0,.int .i64 0,.int .i64 0,.bool false,.bool false,.int .i64 0,.int .i64 0,.bool false,.bool false,.slice none 0 0] 48:=by
   rw[<- hW0]
   have:=Blk.new ((w.alloc (.cells #[fateF xc xr] 115)).alloc (.cells #[.int .i64 k,.int .i64 o',.float .f64 x,.string s,.bool bb,.int .i64 ff,.int .i64 c1,.int .i64 r1,.bool p1,.bool q1,.int .i64 c2,.int .i64 r2,.bool p2,.bool q2,sl] 48)) [.int .i64 0,.int .i64 0,.float .f64 0,.string ⟨#[]⟩,.bool false,.int .i64 0,.int .i64 0,.int .i64 0,.bool false,.bool false,.int .i64 0,.int .i64 0,.bool false,.bool false,.slice none 0 0] 48
   rw[World.size_alloc,World.size_alloc] at this
   exact this
  clear hW0
  refine(HA.out c1 r1 _).mono ?_
  rintro e w1 ⟨rfl,hk1⟩
  have K1:Hid (Kp w w1 Nul):=k0.trans hk1
  have hsz:w.heap.size+3<=w1.heap.size:=by have:=(b2.kp hk1 (fun x=>x)).lt;omega
  obtain⟨W1,hW1⟩:∃W1,w1.alloc (.cells #[.int .i64 c1,.int .i64 r1,.int .i64 c1,.int .i64 r1] 34)=W1:=⟨_,rfl⟩
  have k1a:Kp w1 W1 Nul:=by rw[<- hW1];exact(Kp.refl _ _).alloc _
  have bA:Blk W1 w1.heap.size [.int .i64 c1,.int .i64 r1,.int .i64 c1,.int .i64 r1] 34:=by rw[<- hW1];exact Blk.new _ _ _
  have k01:=hk1.trans k1a
  have HB0:Hid (Blk W1 w.heap.size [fateF xc xr] 115):=b0.kp k01 (fun x=>x)
  have HB1:Hid (Blk W1 (w.heap.size+1) [.int .i64 k,.int .i64 o',.float .f64 x,.string s,.bool bb,.int .i64 ff,.int .i64 c1,.int .i64 r1,.bool p1,.bool q1,.int .i64 c2,.int .i64 r2,.bool p2,.bool q2,sl] 48):=b1.kp k01 (fun x=>x)
  have HB2:Hid (Blk W1 (w.heap.size+1+1) [.int .i64 0,.int .i64 0,.float .f64 0,.string ⟨#[]⟩,.bool false,.int .i64 0,.int .i64 0,.int .i64 0,.bool false,.bool false,.int .i64 0,.int .i64 0,.bool false,.bool false,.slice none 0 0] 48):=b2.kp k01 (fun x=>x)
  have HBA:Hid (Blk W1 w1.heap.size [.int .i64 c1,.int .i64 r1,.int .i64 c1,.int .i64 r1] 34):=bA
  have KW1:Hid (Kp w W1 Nul):=K1.out.trans k1a
  have HSZ:Hid (w.heap.size+3<=w1.heap.size):=hsz
  have d0:W1.cell? ⟨(w.heap.size+1),0,none⟩=some (.int .i64 k):=HB1.out.cell rfl
  have d10:W1.cell? ⟨(w.heap.size+1),10,none⟩=some (.int .i64 c2):=HB1.out.cell rfl
  have d11:W1.cell? ⟨(w.heap.size+1),11,none⟩=some (.int .i64 r2):=HB1.out.cell rfl
  clear k0 b0 b1 b2 hk1 hsz k1a bA k01
  have e0:W1.cell? ⟨w1.heap.size,0,none⟩=some (.int .i64 c1):=HBA.out.cell rfl
  have e1:W1.cell? ⟨w1.heap.size,1,none⟩=some (.int .i64 r1):=HBA.out.cell rfl
  have e2:W1.cell? ⟨w1.heap.size,2,none⟩=some (.int .i64 c1):=HBA.out.cell rfl
  have e3:W1.cell? ⟨w1.heap.size,3,none⟩=some (.int .i64 r1):=HBA.out.cell rfl
  have f0:W1.cell? ⟨w.heap.size,0,none⟩=some (fateF xc xr):=HB0.out.cell rfl
  go_wp2_with fail
  have HC0:=HB0
  have HC1:=HB1
  have HC2:=HB2
  have HCA:=HBA
  have KW2:=KW1
  clear HB0 HB1 HB2 HBA KW1 d0 d10 d11 e0 e1 e2 e3 f0
  refine(HFr.out _ KW2.out).mono ?_
  rintro e W3 ⟨rfl,hk3⟩
  have HD1:Hid (Blk W3 (w.heap.size+1) [.int .i64 k,.int .i64 o',.float .f64 x,.string s,.bool bb,.int .i64 ff,.int .i64 c1,.int .i64 r1,.bool p1,.bool q1,.int .i64 c2,.int .i64 r2,.bool p2,.bool q2,sl] 48):=HC1.out.kp hk3 (fun x=>x)
  have HD2:Hid (Blk W3 (w.heap.size+1+1) [.int .i64 0,.int .i64 0,.float .f64 0,.string ⟨#[]⟩,.bool false,.int .i64 0,.int .i64 0,.int .i64 0,.bool false,.bool false,.int .i64 0,.int .i64 0,.bool false,.bool false,.slice none 0 0] 48):=HC2.out.kp hk3 (fun x=>x)
  have HDA:Hid (Blk W3 w1.heap.size [.int .i64 c1,.int .i64 r1,.int .i64 c1,.int .i64 r1] 34):=HCA.out.kp hk3 (fun x=>x)
  have KW3:Hid (Kp w W3 Nul):=KW2.out.trans hk3
  clear hk3 HC0 HC1 HC2 HCA KW2 HFr HA
  have LE:Hid (∀i,i=(w.heap.size+1)∨i=(w.heap.size+1+1)∨i=w1.heap.size->¬i<w.heap.size):=fun i hi=>by have:=HSZ.out;omega
  cases R with
  | none=>
   simp only[fateV,fateA,Option.isSome]
   go_wp2_with (first
    | (refine wpList_store_blk rfl 34 (.tmp 5) (.tmp 23) rfl w1.heap.size _ [.int .i64 0,.int .i64 0,.int .i64 0,.int .i64 0] _ HDA.out rfl rfl rfl infoArea (ints4 _ _ _ _) ?_;intro W4 hbA4 hk4;have HE2:Hid (Blk W4 (w.heap.size+1+1) [.int .i64 0,.int .i64 0,.float .f64 0,.string ⟨#[]⟩,.bool false,.int .i64 0,.int .i64 0,.int .i64 0,.bool false,.bool false,.int .i64 0,.int .i64 0,.bool false,.bool false,.slice none 0 0] 48):=HD2.out.kp hk4 (Blk.ne HD2.out HDA.out (by decide)))
    | (refine wpList_store_blk rfl 48 (.tmp 4) (.tmp 27) rfl (w.heap.size+1+1) _ [.int .i64 4,.int .i64 0,.float .f64 0,.string ⟨#[]⟩,.bool false,.int .i64 4,.int .i64 0,.int .i64 0,.bool false,.bool false,.int .i64 0,.int .i64 0,.bool false,.bool false,.slice none 0 0] _ HE2.out rfl rfl rfl infoNode (Hd.one ⟨4,0,0,⟨#[]⟩,false,4,0,0,false,false,0,0,false,false⟩ rfl) ?_;intro W5 hb5 hk5)
    | fail)
   refine bodyPost_ret (results_cell_row rfl _ _ (w.heap.size+1+1) 48 _ (0,0) _ rfl hb5 Tryz.underlying48 rfl infoNode) rfl ?_
   refine⟨rfl,(KW3.out.trans' hk4 (fun i hi e=>LE.out i (.inr (.inr e)) hi)).trans' hk5 (fun i hi e=>LE.out i (.inr (.inl e)) hi)⟩
  | some b=>
   obtain⟨⟨b1,s1⟩,⟨b2,s2⟩⟩:=b
   simp only[fateV,fateA,Option.isSome]
   go_wp2_with (first
    | (refine wpList_store_blk rfl 34 (.tmp 5) (.tmp 23) rfl w1.heap.size _ [.int .i64 b1,.int .i64 s1,.int .i64 b2,.int .i64 s2] _ HDA.out rfl rfl rfl infoArea (ints4 _ _ _ _) ?_;intro W4 hbA4 hk4;have HE1:Hid (Blk W4 (w.heap.size+1) [.int .i64 k,.int .i64 o',.float .f64 x,.string s,.bool bb,.int .i64 ff,.int .i64 c1,.int .i64 r1,.bool p1,.bool q1,.int .i64 c2,.int .i64 r2,.bool p2,.bool q2,sl] 48):=HD1.out.kp hk4 (Blk.ne HD1.out HDA.out (by decide));have HE2:Hid (Blk W4 (w.heap.size+1+1) [.int .i64 0,.int .i64 0,.float .f64 0,.string ⟨#[]⟩,.bool false,.int .i64 0,.int .i64 0,.int .i64 0,.bool false,.bool false,.int .i64 0,.int .i64 0,.bool false,.bool false,.slice none 0 0] 48):=HD2.out.kp hk4 (Blk.ne HD2.out HDA.out (by decide));have e0:W4.cell? ⟨w1.heap.size,0,none⟩=some (.int .i64 b1):=hbA4.cell rfl;have e1:W4.cell? ⟨w1.heap.size,1,none⟩=some (.int .i64 s1):=hbA4.cell rfl)
    | (refine wpList_store_part rfl 32 (.tmp 31) (.tmp 29) rfl (w.heap.size+1) 6 [.int .i64 k,.int .i64 o',.float .f64 x,.string s,.bool bb,.int .i64 ff] [.int .i64 c1,.int .i64 r1] [.bool p1,.bool q1,.int .i64 c2,.int .i64 r2,.bool p2,.bool q2,sl] [.int .i64 b1,.int .i64 s1] _ HE1.out rfl rfl rfl rfl infoAddr2' (ints2 _ _) ?_;intro W5 hb5 hk5;have g0:W5.cell? ⟨(w.heap.size+1),0,none⟩=some (.int .i64 k):=hb5.cell rfl;have HF2:Hid (Blk W5 (w.heap.size+1+1) [.int .i64 0,.int .i64 0,.float .f64 0,.string ⟨#[]⟩,.bool false,.int .i64 0,.int .i64 0,.int .i64 0,.bool false,.bool false,.int .i64 0,.int .i64 0,.bool false,.bool false,.slice none 0 0] 48):=HE2.out.kp hk5 (by show ¬(w.heap.size+1+1)=(w.heap.size+1);omega);have hbA5:=hbA4.kp hk5 (Blk.ne hbA4 HE1.out (by decide));have e2:W5.cell? ⟨w1.heap.size,2,none⟩=some (.int .i64 b2):=hbA5.cell rfl;have e3:W5.cell? ⟨w1.heap.size,3,none⟩=some (.int .i64 s2):=hbA5.cell rfl;have HG1:Hid (Blk W5 (w.heap.size+1) [.int .i64 k,.int .i64 o',.float .f64 x,.string s,.bool bb,.int .i64 ff,.int .i64 b1,.int .i64 s1,.bool p1,.bool q1,.int .i64 c2,.int .i64 r2,.bool p2,.bool q2,sl] 48):=hb5;have HG2:Hid (Blk W5 (w.heap.size+1+1) [.int .i64 0,.int .i64 0,.float .f64 0,.string ⟨#[]⟩,.bool false,.int .i64 0,.int .i64 0,.int .i64 0,.bool false,.bool false,.int .i64 0,.int .i64 0,.bool false,.bool false,.slice none 0 0] 48):=HF2.out)
    | (refine wpList_load_mid rfl 48 (.tmp 3) rfl (w.heap.size+1) 0 rfl [.int .i64 k,.int .i64 o',.float .f64 x,.string s,.bool bb,.int .i64 ff,.int .i64 b1,.int .i64 s1,.bool p1,.bool q1,.int .i64 c2,.int .i64 r2,.bool p2,.bool q2,sl] _ (blk_range HG1.out) Tryz.underlying48 rfl infoNode ?_)
    | (refine wpList_store_blk rfl 48 (.tmp 4) (.tmp 39) rfl (w.heap.size+1+1) _ [.int .i64 k,.int .i64 o',.float .f64 x,.string s,.bool bb,.int .i64 ff,.int .i64 b1,.int .i64 s1,.bool p1,.bool q1,.int .i64 c2,.int .i64 r2,.bool p2,.bool q2,sl] _ HG2.out rfl rfl rfl infoNode (Hd.one ⟨k,o',x,s,bb,ff,b1,s1,p1,q1,c2,r2,p2,q2⟩ HO.out) ?_;intro W7 hb7 hk7)
    | fail)
   refine bodyPost_ret (results_cell_row rfl _ _ (w.heap.size+1+1) 48 _ (0,0) _ rfl hb7 Tryz.underlying48 rfl infoNode) rfl ?_
   refine⟨?_,((KW3.out.trans' hk4 (fun i hi e=>LE.out i (.inr (.inr e)) hi)).trans' hk5 (fun i hi e=>LE.out i (.inl e) hi)).trans' hk7 (fun i hi e=>LE.out i (.inr (.inl e)) hi)⟩
   show Ending.returned _=Ending.returned ((toH (Hd.mk k o' x s bb ff c1 r1 p1 q1 c2 r2 p2 q2) ((b1,s1),(b2,s2))).val sl)
   unfold toH
   rw[if_neg (show ¬k=6 from hk6)]
def inB (A:Ar4) (p:Int×Int):Bool:=inA A.1.1 A.1.2 A.2.1 A.2.2 p.1 p.2
def mvP (A B:Ar4) (p:Int×Int):Int×Int:=(p.1+B.1.1-A.1.1,p.2+B.1.2-A.1.2)
def mvF (A B:Ar4):Fate:=fun a=>if (inB A a.1&&inB A a.2)=true then some (mvP A B a.1,mvP A B a.2) else if (inB B a.1&&inB B a.2)=true then none else some a
structure mvOk (A B:Ar4):Prop where
 a:Ar4.ok A=true
 b:Ar4.ok B=true
 c:B.2.1-B.1.1=A.2.1-A.1.1
 r:B.2.2-B.1.2=A.2.2-A.1.2
theorem inB_iff {A:Ar4} (h:Ar4.ok A=true) (p:Int×Int):inB A p=true↔A.1.1<=p.1/\p.1<=A.2.1/\A.1.2<=p.2/\p.2<=A.2.2:=by
 have h':vA A.1.1 A.1.2 A.2.1 A.2.2=true:=h
 unfold inB inA
 rw[h']
 simp only[Bool.and_eq_true,decide_eq_true_eq,true_and]
 omega
theorem mvF_ok {A B:Ar4} (h:mvOk A B):FateOk (mvF A B):=by
 have ha:=(ar_ok A).1 h.a
 have hb:=(ar_ok B).1 h.b
 have hc:=h.c
 have hr:=h.r
 refine⟨fun a b hok e=>?_,fun p b e=>?_⟩
 ·unfold mvF at e
  by_cases q:(inB A a.1&&inB A a.2)=true
  ·rw[if_pos q] at e
   injection e with e
   subst e
   rw[Bool.and_eq_true,inB_iff h.a,inB_iff h.a] at q
   rw[ar_ok] at hok ⊢
   unfold mvP
   simp only
   omega
  ·rw[if_neg q] at e
   by_cases q2:(inB B a.1&&inB B a.2)=true
   ·rw[if_pos q2] at e;cases e
   ·rw[if_neg q2] at e
    injection e with e
    rw[<- e];exact hok
 ·unfold mvF at e
  by_cases q:(inB A p&&inB A p)=true
  ·rw[if_pos q] at e
   injection e with e
   rw[<- e]
  ·rw[if_neg q] at e
   by_cases q2:(inB B p&&inB B p)=true
   ·rw[if_pos q2] at e;cases e
   ·rw[if_neg q2] at e
    injection e with e
    rw[<- e]
theorem mvF_inj {A B:Ar4} (h:mvOk A B):FateInj (mvF A B):=by
 have hc:=h.c
 have hr:=h.r
 intro p q b b' hp hq hne e e' heq
 have key:∀(x:Int×Int) (d:Ar4),mvF A B (x,x)=some d->(inB A x=true/\d.1=mvP A B x)∨(¬inB A x=true/\¬inB B x=true/\d.1=x):=fun x d ed=>by
  unfold mvF at ed
  simp only[Bool.and_self] at ed
  by_cases q:inB A x=true
  ·rw[if_pos q] at ed;injection ed with ed;exact .inl ⟨q,by rw[<- ed]⟩
  ·rw[if_neg q] at ed
   by_cases q2:inB B x=true
   ·rw[if_pos q2] at ed;cases ed
   ·rw[if_neg q2] at ed;injection ed with ed;exact .inr ⟨q,q2,by rw[<- ed]⟩
 have hneq:p.1≠q.1∨p.2≠q.2:=by
  by_cases h1:p.1=q.1
  ·exact .inr (fun h2=>hne (Prod.ext h1 h2))
  ·exact .inl h1
 rcases key p b e with ⟨u,v⟩|⟨u,u2,v⟩ <;> rcases key q b' e' with ⟨x,y⟩|⟨x,x2,y⟩
 ·rw[v,y] at heq
  unfold mvP at heq
  have:=Prod.mk.inj heq
  omega
 ·refine x2 ?_
  rw[inB_iff h.b]
  rw[inB_iff h.a] at u
  rw[<- y,<- heq,v]
  unfold mvP
  simp only
  omega
 ·refine u2 ?_
  rw[inB_iff h.b]
  rw[inB_iff h.a] at x
  rw[<- v,heq,y]
  unfold mvP
  simp only
  omega
 ·exact hne (v.symm.trans (heq.trans y))
structure MvIn (w:World) (xf xt:Nat) (A B:Ar4):Prop where
 c:Blk w xf [.int .i64 A.1.1,.int .i64 A.1.2,.int .i64 A.2.1,.int .i64 A.2.2] 34
 r:Blk w xt [.int .i64 B.1.1,.int .i64 B.1.2,.int .i64 B.2.1,.int .i64 B.2.2] 34
theorem MvIn.kp {w w':World} {xf xt:Nat} {A B:Ar4} (h:MvIn w xf xt A B) (k:Kp w w' Nul):MvIn w' xf xt A B:=⟨h.c.kp k (fun x=>x),h.r.kp k (fun x=>x)⟩
abbrev fateM (xf xt:Nat):Value:=.func (.func 103) #[] #[.pointer (some ⟨xf,0,none⟩),.pointer (some ⟨xt,0,none⟩)]
theorem within_at' (a1 a2 a3 a4 c1 c2 c3 c4:Int) (w:World) :
  Calls Tryz.prog 104 #[.agg #[.int .i64 a1,.int .i64 a2,.int .i64 a3,.int .i64 a4],.agg #[.int .i64 c1,.int .i64 c2,.int .i64 c3,.int .i64 c4]] w fun e w'=>e=.returned (.bool (inA c1 c2 c3 c4 a1 a2&&inA c1 c2 c3 c4 a3 a4))/\Kp w w' Nul:=by
 have HI:Hid (∀x y w,Calls Tryz.prog 20 #[.agg #[.int .i64 c1,.int .i64 c2,.int .i64 c3,.int .i64 c4],.agg #[.int .i64 x,.int .i64 y]] w fun e w'=>e=.returned (.bool (inA c1 c2 c3 c4 x y))/\Kp w w' Nul):=fun x y w=>(pIn_any c1 c2 c3 c4 x y w).mono fun e w' h=>⟨h.1,Kp.of_gr h.2⟩
 have HI1:=HI.out a1 a2
 have HI2:=HI.out a3 a4
 generalize inA c1 c2 c3 c4 a1 a2=p at *
 generalize inA c1 c2 c3 c4 a3 a4=q at *
 have HI1:Hid (∀w,Calls Tryz.prog 20 #[.agg #[.int .i64 c1,.int .i64 c2,.int .i64 c3,.int .i64 c4],.agg #[.int .i64 a1,.int .i64 a2]] w fun e w'=>e=.returned (.bool p)/\Kp w w' Nul):=HI1
 have HI2:Hid (∀w,Calls Tryz.prog 20 #[.agg #[.int .i64 c1,.int .i64 c2,.int .i64 c3,.int .i64 c4],.agg #[.int .i64 a3,.int .i64 a4]] w fun e w'=>e=.returned (.bool q)/\Kp w w' Nul):=HI2
 clear HI
 obtain⟨W,hW⟩:∃W,(w.alloc (.cells #[.int .i64 a1,.int .i64 a2,.int .i64 a3,.int .i64 a4] 34)).alloc (.cells #[.int .i64 c1,.int .i64 c2,.int .i64 c3,.int .i64 c4] 34)=W:=⟨_,rfl⟩
 have HW:Hid ((w.alloc (.cells #[.int .i64 a1,.int .i64 a2,.int .i64 a3,.int .i64 a4] 34)).alloc (.cells #[.int .i64 c1,.int .i64 c2,.int .i64 c3,.int .i64 c4] 34)=W):=hW
 have kW:Hid (Kp w W Nul):=by show Kp _ _ _;rw[<- hW];exact((Kp.refl w Nul).alloc _).alloc _
 have B0:Hid (∀wq,Kp W wq Nul->Blk wq w.heap.size [.int .i64 a1,.int .i64 a2,.int .i64 a3,.int .i64 a4] 34):=fun wq k=>by
  have:Blk W w.heap.size [.int .i64 a1,.int .i64 a2,.int .i64 a3,.int .i64 a4] 34:=by rw[<- hW];exact(Blk.new w _ _).alloc _
  exact this.kp k (fun x=>x)
 have B1:Hid (∀wq,Kp W wq Nul->Blk wq (w.heap.size+1) [.int .i64 c1,.int .i64 c2,.int .i64 c3,.int .i64 c4] 34):=fun wq k=>by
  have:Blk W (w.heap.size+1) [.int .i64 c1,.int .i64 c2,.int .i64 c3,.int .i64 c4] 34:=by
   rw[<- hW]
   have:=Blk.new (w.alloc (.cells #[.int .i64 a1,.int .i64 a2,.int .i64 a3,.int .i64 a4] 34)) [.int .i64 c1,.int .i64 c2,.int .i64 c3,.int .i64 c4] 34
   rw[World.size_alloc] at this
   exact this
  exact this.kp k (fun x=>x)
 clear hW
 cases p
 ·go_enter Tryz.func104,Tryz.ntmps104
  go_wp2_with fail
  rw[HW.out]
  clear HW
  refine(HI1.out W).mono ?_
  rintro e w1 ⟨rfl,hk1⟩
  have K1:Hid (Kp w w1 Nul):=kW.out.trans hk1
  clear hk1
  go_wp2_with fail
  go_ret
  first
  | exact⟨rfl,K1.out⟩
  | exact K1.out
 ·cases q <;>
  ·go_enter Tryz.func104,Tryz.ntmps104
   go_wp2_with fail
   rw[HW.out]
   clear HW
   refine(HI1.out W).mono ?_
   rintro e w1 ⟨rfl,hk1⟩
   have K1:Hid (Kp W w1 Nul):=hk1
   have d2:w1.cell? ⟨w.heap.size,2,none⟩=some (.int .i64 a3):=(B0.out w1 hk1).cell rfl
   have d3:w1.cell? ⟨w.heap.size,3,none⟩=some (.int .i64 a4):=(B0.out w1 hk1).cell rfl
   have e0:w1.cell? ⟨w.heap.size+1,0,none⟩=some (.int .i64 c1):=(B1.out w1 hk1).cell rfl
   have e1:w1.cell? ⟨w.heap.size+1,1,none⟩=some (.int .i64 c2):=(B1.out w1 hk1).cell rfl
   have e2:w1.cell? ⟨w.heap.size+1,2,none⟩=some (.int .i64 c3):=(B1.out w1 hk1).cell rfl
   have e3:w1.cell? ⟨w.heap.size+1,3,none⟩=some (.int .i64 c4):=(B1.out w1 hk1).cell rfl
   clear hk1
   go_wp2_with fail
   refine(HI2.out w1).mono ?_
   rintro e w2 ⟨rfl,hk2⟩
   have K2:Hid (Kp w w2 Nul):=(kW.out.trans K1.out).trans hk2
   clear hk2 d2 d3 e0 e1 e2 e3
   go_wp2_with fail
   go_ret
   first
   | exact⟨rfl,K2.out⟩
   | exact K2.out
theorem blk4 {w:World} {a b c:Obj} {cs:List Value} {t:TypeId}:Blk ((((w.alloc a).alloc b).alloc c).alloc (.cells cs.toArray t)) (w.heap.size+1+1+1) cs t:=by
 have:=Blk.new (((w.alloc a).alloc b).alloc c) cs t
 rw[World.size_alloc,World.size_alloc,World.size_alloc] at this
 exact this
theorem blk3 {w:World} {a b:Obj} {cs:List Value} {t:TypeId}:Blk (((w.alloc a).alloc b).alloc (.cells cs.toArray t)) (w.heap.size+1+1) cs t:=by
 have:=Blk.new ((w.alloc a).alloc b) cs t
 rw[World.size_alloc,World.size_alloc] at this
 exact this
theorem blk2 {w:World} {a:Obj} {cs:List Value} {t:TypeId}:Blk ((w.alloc a).alloc (.cells cs.toArray t)) (w.heap.size+1) cs t:=by
 have:=Blk.new (w.alloc a) cs t
 rw[World.size_alloc] at this
 exact this
def mvd (p t f:Int):Int:=wrap64 (wrap64 (p+t)-f)
theorem mvd_val {p t f:Int} (h2:I64 (p+t-f)):mvd p t f=p+t-f:=by
 unfold I64 at h2
 unfold mvd
 unfold wrap64
 omega
theorem moved_at (p1 p2 f1 f2 t1 t2:Int) (w:World) :
  Calls Tryz.prog 56 #[.agg #[.int .i64 p1,.int .i64 p2],.agg #[.int .i64 f1,.int .i64 f2],.agg #[.int .i64 t1,.int .i64 t2]] w fun e w'=>e=.returned (.agg #[.int .i64 (mvd p1 t1 f1),.int .i64 (mvd p2 t2 f2)])/\Kp w w' Nul:=by
 have H1:Hid (wrap64 (wrap64 (p1+t1)-f1)=mvd p1 t1 f1):=rfl
 have H2:Hid (wrap64 (wrap64 (p2+t2)-f2)=mvd p2 t2 f2):=rfl
 generalize mvd p1 t1 f1=X at *
 generalize mvd p2 t2 f2=Y at *
 go_enter Tryz.func56,Tryz.ntmps56
 go_wp2_with fail
 rw[H1.out,H2.out]
 refine bodyPost_ret (results_cell_row rfl _ _ (w.heap.size+1+1+1) 32 _ (0,0) _ rfl (blk4 (cs:=[.int .i64 X,.int .i64 Y])) Tryz.underlying32 rfl infoAddr2') rfl ?_
 exact⟨rfl,((((Kp.refl w Nul).alloc _).alloc _).alloc _).alloc _⟩
end Go.Proofs.YtecjfnkakodebaaGreatDoor
