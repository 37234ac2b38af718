/-Move: spans, through, alone. -/
import Derived.Test.YtecjfnkakodebaaGreatDoorRmQa
import Derived.Deep.QuietTactic
open Go.Proofs.Tryz
open Go.Value renaming int->O,bool->E,slice->U,agg->T,tuple->au
open Go.IntKind renaming i64->I
open Bool renaming false->R,true->J
open Option renaming some->H,none->G
open Go.Ending renaming returned->Q
set_option maxHeartbeats 8000000
set_option maxRecDepth 20000
namespace Go.Proofs.YtecjfnkakodebaaGreatDoor
open Go.RowKit
theorem j4H (c r:Int)(w:World):Calls prog 105 #[T #[O I c,O I r]] w fun e w'=>e=Q (T #[O I c,O I r,O I c,O I r])/\Kp w w' Nul:=by
 go_enter func105,ntmps105;go_wp2;refine bodyPost_ret (results_cell_row rfl _ _ (w.heap.size+1) 34 _ (0,0) _ rfl (heap_alloc2_new _ _ _) underlying34 rfl D7) rfl ?_;exact⟨rfl,((Kp.refl _ _).alloc _).alloc _⟩
def spC (at' n most:Int):List Value:=[O I 1,O I (at'-1),O I 0,O I (if n<0 then at'-n else at'),O I (if n<0 then most else most-n),O I n]
theorem jE6 (at' n most:Int)(h:LnOk at' n most)(hm:most<=4096)(w:World):Calls prog 143 #[O I at',O I n,O I most] w fun e w'=>∃b,e=Q (U (H ⟨b,0,G⟩) 2 2)/\Blk w' b (spC at' n most) 183/\w.heap.size<=b/\Kp w w' Nul:=by
 obtain⟨h1,h2,h3,h4⟩:=h;have w1:wrap64 (at'-1)=at'-1:=by unfold wrap64;omega
 have w2:wrap64 (at'-n)=at'-n:=by unfold wrap64;omega
 have w3:wrap64 (most-n)=most-n:=by unfold wrap64;omega
 by_cases hn:n<0
 ·have e1:spC at' n most=[O I 1,O I (at'-1),O I 0,O I (at'-n),O I most,O I n]:=by unfold spC;rw[if_pos hn,if_pos hn]
  rw[e1];go_enter func143,ntmps143;go_wp2;go_ret;refine⟨w.heap.size+1,rfl,?_,by omega,((Kp.refl _ _).alloc _).alloc _⟩;have:=Blk.new (w.alloc (.cells #[O I 1,O I (at'-1),O I 0] 183)) [O I 1,O I (at'-1),O I 0,O I (at'-n),O I most,O I n] 183;rw[World.size_alloc] at this;exact this
 ·have e1:spC at' n most=[O I 1,O I (at'-1),O I 0,O I at',O I (most-n),O I n]:=by unfold spC;rw[if_neg hn,if_neg hn]
  rw[e1];go_enter func143,ntmps143;go_wp2;go_ret;refine⟨w.heap.size+1,rfl,?_,by omega,((Kp.refl _ _).alloc _).alloc _⟩;have:=Blk.new (w.alloc (.cells #[O I 1,O I (at'-1),O I 0] 183)) [O I 1,O I (at'-1),O I 0,O I at',O I (most-n),O I n] 183;rw[World.size_alloc] at this;exact this
def stp (a b lo hi by':Int) (s:Int×Int×Bool):Int×Int×Bool:=if max a lo<=min b hi then ((if s.2.2 then s.1 else max a lo+by'),min b hi+by',J) else s
def thrV (r:Option (Int×Int)):Int×Int×Bool:=match r with
 | none=>(0,0,R)
 | some x=>(x.1,x.2,J)
theorem jED (at' n most a b:Int):stp a b (if n<0 then at'-n else at') (if n<0 then most else most-n) n (stp a b 1 (at'-1) 0 (0,0,R))=thrV (thr at' n most a b):=by
 unfold thr stp thrV;by_cases h1:max a 1<=min b (at'-1)
 ·simp only[if_pos h1];by_cases h2:max a (if n<0 then at'-n else at')<=min b (if n<0 then most else most-n)
  ·simp only[if_pos h2];simp
  ·simp only[if_neg h2];simp
 ·simp only[if_neg h1];by_cases h2:max a (if n<0 then at'-n else at')<=min b (if n<0 then most else most-n)
  ·simp only[if_pos h2];simp
  ·simp only[if_neg h2]
theorem jEE (a b f1 l1 b1 f2 l2 b2:Int)(x:Nat)(w:World)(hb:Blk w x [O I f1,O I l1,O I b1,O I f2,O I l2,O I b2] 183)
 (r1:1<=f1/\l1<=4096 /\ -4096<=b1/\b1<=4096) (r2:1<=f2/\l2<=4096 /\ -4096<=b2/\b2<=4096) :
 Calls prog 160 #[U (H ⟨x,0,G⟩) 2 2,O I a,O I b] w fun e w'=>e=Q (au #[O I (stp a b f2 l2 b2 (stp a b f1 l1 b1 (0,0,R))).1,O I (stp a b f2 l2 b2 (stp a b f1 l1 b1 (0,0,R))).2.1,E (stp a b f2 l2 b2 (stp a b f1 l1 b1 (0,0,R))).2.2])/\Kp w w' Nul:=by
 obtain⟨st,s0,s1,s2⟩:∃st:Nat->Int×Int×Bool,st 0=(0,0,R)/\st 1=stp a b f1 l1 b1 (0,0,R)/\st 2=stp a b f2 l2 b2 (stp a b f1 l1 b1 (0,0,R)):=⟨fun k=>if k=0 then (0,0,R) else if k=1 then stp a b f1 l1 b1 (0,0,R) else stp a b f2 l2 b2 (stp a b f1 l1 b1 (0,0,R)),rfl,rfl,rfl⟩;have HB:=h_ hb;have KEY:Hid (∀k:Nat,k<2->∃lo hi by',(∀wr,Kp w wr Nul->wr.cell? ⟨x,k*3,G⟩=H (O I lo)/\wr.cell? ⟨x,k*3+1,G⟩=H (O I hi)/\wr.cell? ⟨x,k*3+2,G⟩=H (O I by'))/\(1<=lo/\hi<=4096 /\ -4096<=by'/\by'<=4096)/\st (k+1)=stp a b lo hi by' (st k)):=fun k hk=>by
  rcases(by omega:k=0∨k=1) with rfl|rfl
  ·exact⟨f1,l1,b1,fun wr k=>⟨(hb.kp k (fun x=>x)).cell rfl,(hb.kp k (fun x=>x)).cell rfl,(hb.kp k (fun x=>x)).cell rfl⟩,r1,by rw[s0];exact s1⟩
  ·exact⟨f2,l2,b2,fun wr k=>⟨(hb.kp k (fun x=>x)).cell rfl,(hb.kp k (fun x=>x)).cell rfl,(hb.kp k (fun x=>x)).cell rfl⟩,r2,by rw[s1];exact s2⟩
 rw[<- s2];have S0:=h_ s0;clear hb r1 r2 s0 s1 s2 HB;go_enter func160,ntmps160;go_wp2_with fail;go_loopw[6,7,8,15] (fun f l s i wr=>∃k:Nat,k<=2/\i=O I k/\f=O I (st k).1/\l=O I (st k).2.1/\s=E (st k).2.2/\Kp w wr Nul) (fun _ _ _ i _=>2-(RowKit.intOf i).toNat)
 case atStart=>exact⟨0,by omega,rfl,by rw[S0.o],by rw[S0.o],by rw[S0.o],Kp.refl _ _⟩
 case round=>
  obtain⟨k,hk,rfl,rfl,rfl,rfl,hkp⟩:=hrel;have HK:=h_ hkp;clear hkp;by_cases hlt:k<2
  ·obtain⟨lo,hi,by',hc,hr,hs⟩:=KEY.o k hlt;obtain⟨c0,c1,c2⟩:=hc wr HK.o;have HS:=h_ hs;have HR:=h_ hr;have hk2:(k:Int)<2:=(by omega);have hk0:(0:Int)<=(k:Int):=(by omega);obtain⟨M,hM⟩:=e_ ((if a<lo then lo else a));obtain⟨m,hm⟩:=e_ ((if hi<b then hi else b));clear hc hr hs;go_wp2_with fail
   go_quiet (fail)
   go_wp2_with fail;all_goals
    have hst:=HS.o;have hr:=HR.o;have q1:lo<=M:=(by rw[<- hM];split <;> omega);have q2:m<=hi:=(by rw[<- hm];split <;> omega);have e1:max a lo=M:=(by rw[<- hM];split <;> omega);have e2:min b hi=m:=(by rw[<- hm];split <;> omega);unfold stp at hst;rw[e1,e2] at hst;go_roundw
    case rel=>
     try simp only[e1,e2]
     first
     | (
      rw[if_neg (by omega)] at hst;exact⟨k+1,by omega,by go_num,by rw[hst],by rw[hst],by rw[hst],(HK.o.alloc _).drewN _⟩)
     | (
      rw[if_pos (by omega)] at hst;have w1:wrap64 (M+by')=M+by':=(by unfold wrap64;omega);have w2:wrap64 (m+by')=m+by':=(by unfold wrap64;omega);rw[w2];refine⟨k+1,by omega,by go_num,?_,by rw[hst],?_,(HK.o.alloc _).drewN _⟩
      ·rw[hst];(try simp_all)
      ·rw[hst];(try simp_all))
    case measure=>simp only[RowKit.intOf];omega
  ·have hke:k=2:=(by omega);subst hke;go_wp2_with fail;refine bodyPost_ret (v:=au #[O I (st 2).1,O I (st 2).2.1,E (st 2).2.2]) (by simp[results,results160,go_sem]) rfl ?_;exact⟨rfl,HK.o⟩
theorem j7C (at' n most a b:Int)(x:Nat)(w:World)(h:LnOk at' n most)(hm:most<=4096)(hb:Blk w x (spC at' n most) 183):
 Calls prog 160 #[U (H ⟨x,0,G⟩) 2 2,O I a,O I b] w fun e w'=>e=Q (au #[O I (thrV (thr at' n most a b)).1,O I (thrV (thr at' n most a b)).2.1,E (thrV (thr at' n most a b)).2.2])/\Kp w w' Nul:=by
 obtain⟨h1,h2,h3,h4⟩:=h;have:=jEE a b 1 (at'-1) 0 (if n<0 then at'-n else at') (if n<0 then most else most-n) n x w hb ⟨by omega,by omega,by omega,by omega⟩ (by split <;> omega);rw[jED] at this;exact this
theorem O8 (a b c d:Int):(([O I a,O I b,O I c,O I d]:List Value).toArray.all (·.oneCell'))=J:=by simp[Value.oneCell']
theorem j8t (xc xr:Nat)(c1 r1 c2 r2:Int)(X Y:Int×Int×Bool)(w:World)
 (HX:Hid (∀wq,Kp w wq Nul->Calls prog 160 #[U (H ⟨xc,0,G⟩) 2 2,O I c1,O I c2] wq fun e w'=>e=Q (au #[O I X.1,O I X.2.1,E X.2.2])/\Kp wq w' Nul))
 (HY:Hid (∀wq,Kp w wq Nul->Calls prog 160 #[U (H ⟨xr,0,G⟩) 2 2,O I r1,O I r2] wq fun e w'=>e=Q (au #[O I Y.1,O I Y.2.1,E Y.2.2])/\Kp wq w' Nul)) :
 Calls prog 144 #[T #[U (H ⟨xc,0,G⟩) 2 2,U (H ⟨xr,0,G⟩) 2 2],T #[O I c1,O I r1,O I c2,O I r2]] w fun e w'=>e=Q (au #[if X.2.2&&Y.2.2 then T #[O I X.1,O I Y.1,O I X.2.1,O I Y.2.1] else T #[O I 0,O I 0,O I 0,O I 0],E (X.2.2&&Y.2.2)])/\Kp w w' Nul:=by
 obtain⟨x1,x2,x3⟩:=X;obtain⟨y1,y2,y3⟩:=Y;simp only at *;obtain⟨W,hW⟩:=e_ (((w.alloc (.cells #[U (H ⟨xc,0,G⟩) 2 2,U (H ⟨xr,0,G⟩) 2 2] 169)).alloc (.cells #[O I c1,O I r1,O I c2,O I r2] 34)).alloc (.cells #[O I 0,O I 0,O I 0,O I 0] 34));have HW:=h_ hW;have kW:Hid (Kp w W Nul):=by show Kp _ _ _;rw[<- hW];exact(((Kp.refl w Nul).alloc _).alloc _).alloc _
 have B0:Hid (Blk W w.heap.size [U (H ⟨xc,0,G⟩) 2 2,U (H ⟨xr,0,G⟩) 2 2] 169):=by
  show Blk _ _ _ _;rw[<- hW];exact((Blk.new w _ _).alloc _).alloc _
 have B1:Hid (Blk W (w.heap.size+1) [O I c1,O I r1,O I c2,O I r2] 34):=by
  show Blk _ _ _ _;rw[<- hW];have:=Blk.new (w.alloc (.cells #[U (H ⟨xc,0,G⟩) 2 2,U (H ⟨xr,0,G⟩) 2 2] 169)) [O I c1,O I r1,O I c2,O I r2] 34;rw[World.size_alloc] at this;exact this.alloc _
 have B2:Hid (Blk W (w.heap.size+1+1) [O I 0,O I 0,O I 0,O I 0] 34):=by
  show Blk _ _ _ _;rw[<- hW];have:=Blk.new ((w.alloc (.cells #[U (H ⟨xc,0,G⟩) 2 2,U (H ⟨xr,0,G⟩) 2 2] 169)).alloc (.cells #[O I c1,O I r1,O I c2,O I r2] 34)) [O I 0,O I 0,O I 0,O I 0] 34;rw[World.size_alloc,World.size_alloc] at this;exact this
 clear hW;go_enter func144,ntmps144;go_wp2_with fail;rw[HW.o];clear HW;refine(HX.o W kW.o).mono ?_;rintro e w1 ⟨rfl,hk1⟩;have K1:=h_ hk1;have d0:=(B0.o.kp hk1 (fun x=>x)).c_ 0 rfl;have d1:=(B0.o.kp hk1 (fun x=>x)).c_ 1 rfl;have d2:=(B1.o.kp hk1 (fun x=>x)).c_ 0 rfl;have d3:=(B1.o.kp hk1 (fun x=>x)).c_ 1 rfl;have d4:=(B1.o.kp hk1 (fun x=>x)).c_ 2 rfl;have d5:=(B1.o.kp hk1 (fun x=>x)).c_ 3 rfl;clear hk1;go_wp2_with fail;refine(HY.o w1 (kW.o.trans K1.o)).mono ?_;rintro e w2 ⟨rfl,hk2⟩;have K2:=h_ ((kW.o.trans K1.o).trans hk2);have b2:=(B2.o.kp K1.o (fun x=>x)).kp hk2 (fun x=>x);have HB2:=h_ b2;clear d0 d1 d2 d3 d4 d5 hk2 K1 B0 B1 B2 HX HY kW b2;have FIN:=h_ fun (w3:World) (hk:Kp w2 w3 (fun i=>i=w.heap.size+1+1))=>K2.o.trans' hk (fun i hi e=>by have:i=w.heap.size+1+1:=e;omega)
 cases x3 <;> cases y3
 rotate_right
 ·go_wp2_with (first|(refine D5 rfl _ (.tmp 4) (.tmp 51) rfl _ _ [O I x1,O I y1,O I x2,O I y2] _ HB2.o rfl rfl rfl D7 (O8 _ _ _ _) ?_;intro w3 hb3 hk3)|fail);have e0:=hb3.c_ 0 rfl;have e1:=hb3.c_ 1 rfl;have e2:=hb3.c_ 2 rfl;have e3:=hb3.c_ 3 rfl;refine bodyPost_ret (v:=au #[T #[O I x1,O I y1,O I x2,O I y2],E J]) (by simp[results,results144,go_sem, *]) rfl ?_;exact⟨rfl,FIN.o w3 hk3⟩
 all_goals
  go_wp2_with (first|(refine D5 rfl _ (.tmp 4) (.tmp 44) rfl _ _ [O I 0,O I 0,O I 0,O I 0] _ HB2.o rfl rfl rfl D7 (O8 _ _ _ _) ?_;intro w3 hb3 hk3)|fail);have e0:=hb3.c_ 0 rfl;have e1:=hb3.c_ 1 rfl;have e2:=hb3.c_ 2 rfl;have e3:=hb3.c_ 3 rfl;refine bodyPost_ret (v:=au #[T #[O I 0,O I 0,O I 0,O I 0],E R]) (by simp[results,results144,go_sem, *]) rfl ?_;exact⟨rfl,FIN.o w3 hk3⟩
end Go.Proofs.YtecjfnkakodebaaGreatDoor
