/-Move: spans, through, alone. -/
import Derived.Test.YtecjfnkakodebaaGreatDoorQwQa
import Derived.Deep.QuietTactic
set_option maxHeartbeats 8000000
set_option maxRecDepth 20000
namespace Go.Proofs.YtecjfnkakodebaaGreatDoor
open Go.RowKit
theorem alone_at (c r:Int) (w:World):Calls Tryz.prog 105 #[.agg #[.int .i64 c,.int .i64 r]] w fun e w'=>e=.returned (.agg #[.int .i64 c,.int .i64 r,.int .i64 c,.int .i64 r])/\Kp w w' Nul:=by
 go_enter Tryz.func105,Tryz.ntmps105
 go_wp2
 refine bodyPost_ret (results_cell_row rfl _ _ (w.heap.size+1) 34 _ (0,0) _ rfl (heap_alloc2_new _ _ _) Tryz.underlying34 rfl infoArea) rfl ?_
 exact⟨rfl,((Kp.refl _ _).alloc _).alloc _⟩
def spC (at' n most:Int):List Value:=[.int .i64 1,.int .i64 (at'-1),.int .i64 0,.int .i64 (if n<0 then at'-n else at'),.int .i64 (if n<0 then most else most-n),.int .i64 n]
theorem spans_at (at' n most:Int) (h:LnOk at' n most) (hm:most<=4096) (w:World):Calls Tryz.prog 143 #[.int .i64 at',.int .i64 n,.int .i64 most] w fun e w'=>∃b,e=.returned (.slice (some ⟨b,0,none⟩) 2 2)/\Blk w' b (spC at' n most) 183/\w.heap.size<=b/\Kp w w' Nul:=by
 obtain⟨h1,h2,h3,h4⟩:=h
 have w1:wrap64 (at'-1)=at'-1:=by unfold wrap64;omega
 have w2:wrap64 (at'-n)=at'-n:=by unfold wrap64;omega
 have w3:wrap64 (most-n)=most-n:=by unfold wrap64;omega
 by_cases hn:n<0
 ·have e1:spC at' n most=[.int .i64 1,.int .i64 (at'-1),.int .i64 0,.int .i64 (at'-n),.int .i64 most,.int .i64 n]:=by unfold spC;rw[if_pos hn,if_pos hn]
  rw[e1]
  go_enter Tryz.func143,Tryz.ntmps143
  go_wp2
  go_ret
  refine⟨w.heap.size+1,rfl,?_,by omega,((Kp.refl _ _).alloc _).alloc _⟩
  have:=Blk.new (w.alloc (.cells #[.int .i64 1,.int .i64 (at'-1),.int .i64 0] 183)) [.int .i64 1,.int .i64 (at'-1),.int .i64 0,.int .i64 (at'-n),.int .i64 most,.int .i64 n] 183
  rw[World.size_alloc] at this
  exact this
 ·have e1:spC at' n most=[.int .i64 1,.int .i64 (at'-1),.int .i64 0,.int .i64 at',.int .i64 (most-n),.int .i64 n]:=by unfold spC;rw[if_neg hn,if_neg hn]
  rw[e1]
  go_enter Tryz.func143,Tryz.ntmps143
  go_wp2
  go_ret
  refine⟨w.heap.size+1,rfl,?_,by omega,((Kp.refl _ _).alloc _).alloc _⟩
  have:=Blk.new (w.alloc (.cells #[.int .i64 1,.int .i64 (at'-1),.int .i64 0] 183)) [.int .i64 1,.int .i64 (at'-1),.int .i64 0,.int .i64 at',.int .i64 (most-n),.int .i64 n] 183
  rw[World.size_alloc] at this
  exact this
def stp (a b lo hi by':Int) (s:Int×Int×Bool):Int×Int×Bool:=if max a lo<=min b hi then ((if s.2.2 then s.1 else max a lo+by'),min b hi+by',true) else s
def thrV (r:Option (Int×Int)):Int×Int×Bool:=match r with
 | none=>(0,0,false)
 | some x=>(x.1,x.2,true)
theorem thr_stp (at' n most a b:Int):stp a b (if n<0 then at'-n else at') (if n<0 then most else most-n) n (stp a b 1 (at'-1) 0 (0,0,false))=thrV (thr at' n most a b):=by
 unfold thr stp thrV
 by_cases h1:max a 1<=min b (at'-1)
 ·simp only[if_pos h1]
  by_cases h2:max a (if n<0 then at'-n else at')<=min b (if n<0 then most else most-n)
  ·simp only[if_pos h2];simp
  ·simp only[if_neg h2];simp
 ·simp only[if_neg h1]
  by_cases h2:max a (if n<0 then at'-n else at')<=min b (if n<0 then most else most-n)
  ·simp only[if_pos h2];simp
  ·simp only[if_neg h2]
theorem through_core (a b f1 l1 b1 f2 l2 b2:Int) (x:Nat) (w:World) (hb:Blk w x [.int .i64 f1,.int .i64 l1,.int .i64 b1,.int .i64 f2,.int .i64 l2,.int .i64 b2] 183)
  (r1:1<=f1/\l1<=4096 /\ -4096<=b1/\b1<=4096) (r2:1<=f2/\l2<=4096 /\ -4096<=b2/\b2<=4096) :
  Calls Tryz.prog 160 #[.slice (some ⟨x,0,none⟩) 2 2,.int .i64 a,.int .i64 b] w fun e w'=>e=.returned (.tuple #[.int .i64 (stp a b f2 l2 b2 (stp a b f1 l1 b1 (0,0,false))).1,.int .i64 (stp a b f2 l2 b2 (stp a b f1 l1 b1 (0,0,false))).2.1,.bool (stp a b f2 l2 b2 (stp a b f1 l1 b1 (0,0,false))).2.2])/\Kp w w' Nul:=by
 obtain⟨st,s0,s1,s2⟩:∃st:Nat->Int×Int×Bool,st 0=(0,0,false)/\st 1=stp a b f1 l1 b1 (0,0,false)/\st 2=stp a b f2 l2 b2 (stp a b f1 l1 b1 (0,0,false)):=⟨fun k=>if k=0 then (0,0,false) else if k=1 then stp a b f1 l1 b1 (0,0,false) else stp a b f2 l2 b2 (stp a b f1 l1 b1 (0,0,false)),rfl,rfl,rfl⟩
 have HB:Hid (Blk w x [.int .i64 f1,.int .i64 l1,.int .i64 b1,.int .i64 f2,.int .i64 l2,.int .i64 b2] 183):=hb
 have KEY:Hid (∀k:Nat,k<2->∃lo hi by',(∀wr,Kp w wr Nul->wr.cell? ⟨x,k*3,none⟩=some (.int .i64 lo)/\wr.cell? ⟨x,k*3+1,none⟩=some (.int .i64 hi)/\wr.cell? ⟨x,k*3+2,none⟩=some (.int .i64 by'))/\(1<=lo/\hi<=4096 /\ -4096<=by'/\by'<=4096)/\st (k+1)=stp a b lo hi by' (st k)):=fun k hk=>by
  rcases(by omega:k=0∨k=1) with rfl|rfl
  ·exact⟨f1,l1,b1,fun wr k=>⟨(hb.kp k (fun x=>x)).cell rfl,(hb.kp k (fun x=>x)).cell rfl,(hb.kp k (fun x=>x)).cell rfl⟩,r1,by rw[s0];exact s1⟩
  ·exact⟨f2,l2,b2,fun wr k=>⟨(hb.kp k (fun x=>x)).cell rfl,(hb.kp k (fun x=>x)).cell rfl,(hb.kp k (fun x=>x)).cell rfl⟩,r2,by rw[s1];exact s2⟩
 rw[<- s2]
 have S0:Hid (st 0=(0,0,false)):=s0
 clear hb r1 r2 s0 s1 s2 HB
 go_enter Tryz.func160,Tryz.ntmps160
 go_wp2_with fail
 go_loopw[6,7,8,15] (fun f l s i wr=>∃k:Nat,k<=2/\i=.int .i64 k/\f=.int .i64 (st k).1/\l=.int .i64 (st k).2.1/\s=.bool (st k).2.2/\Kp w wr Nul) (fun _ _ _ i _=>2-(intOf i).toNat)
 case atStart=>exact⟨0,by omega,rfl,by rw[S0.out],by rw[S0.out],by rw[S0.out],Kp.refl _ _⟩
 case round=>
  obtain⟨k,hk,rfl,rfl,rfl,rfl,hkp⟩:=hrel
  have HK:Hid (Kp w wr Nul):=hkp
  clear hkp
  by_cases hlt:k<2
  ·obtain⟨lo,hi,by',hc,hr,hs⟩:=KEY.out k hlt
   obtain⟨c0,c1,c2⟩:=hc wr HK.out
   have HS:Hid (st (k+1)=stp a b lo hi by' (st k)):=hs
   have HR:Hid (1<=lo/\hi<=4096 /\ -4096<=by'/\by'<=4096):=hr
   have hk2:(k:Int)<2:=by omega
   have hk0:(0:Int)<=(k:Int):=by omega
   obtain⟨M,hM⟩:∃M,(if a<lo then lo else a)=M:=⟨_,rfl⟩
   obtain⟨m,hm⟩:∃m,(if hi<b then hi else b)=m:=⟨_,rfl⟩
   clear hc hr hs
   go_wp2_with fail
   go_quiet (fail)
   go_wp2_with fail
   all_goals
    have hst:=HS.out
    have hr:=HR.out
    have q1:lo<=M:=by rw[<- hM];split <;> omega
    have q2:m<=hi:=by rw[<- hm];split <;> omega
    have e1:max a lo=M:=by rw[<- hM];split <;> omega
    have e2:min b hi=m:=by rw[<- hm];split <;> omega
    unfold stp at hst
    rw[e1,e2] at hst
    go_roundw
    case rel=>
     first
     | (
      rw[if_neg (by omega)] at hst
      exact⟨k+1,by omega,by go_num,by rw[hst],by rw[hst],by rw[hst],(HK.out.alloc _).drewN _⟩)
     | (
      rw[if_pos (by omega)] at hst
      have w1:wrap64 (M+by')=M+by':=by unfold wrap64;omega
      have w2:wrap64 (m+by')=m+by':=by unfold wrap64;omega
      rw[w2]
      refine⟨k+1,by omega,by go_num,?_,by rw[hst],?_,(HK.out.alloc _).drewN _⟩
      ·rw[hst];(try simp_all)
      ·rw[hst];(try simp_all))
    case measure=>simp only[intOf];omega
  ·have hke:k=2:=by omega
   subst hke
   go_wp2_with fail
   refine bodyPost_ret (v:=.tuple #[.int .i64 (st 2).1,.int .i64 (st 2).2.1,.bool (st 2).2.2]) (by simp[results,Tryz.results160,go_sem]) rfl ?_
   exact⟨rfl,HK.out⟩
theorem through_at (at' n most a b:Int) (x:Nat) (w:World) (h:LnOk at' n most) (hm:most<=4096) (hb:Blk w x (spC at' n most) 183) :
  Calls Tryz.prog 160 #[.slice (some ⟨x,0,none⟩) 2 2,.int .i64 a,.int .i64 b] w fun e w'=>e=.returned (.tuple #[.int .i64 (thrV (thr at' n most a b)).1,.int .i64 (thrV (thr at' n most a b)).2.1,.bool (thrV (thr at' n most a b)).2.2])/\Kp w w' Nul:=by
 obtain⟨h1,h2,h3,h4⟩:=h
 have:=through_core a b 1 (at'-1) 0 (if n<0 then at'-n else at') (if n<0 then most else most-n) n x w hb ⟨by omega,by omega,by omega,by omega⟩ (by split <;> omega)
 rw[thr_stp] at this
 exact this
theorem ints4 (a b c d:Int):(([.int .i64 a,.int .i64 b,.int .i64 c,.int .i64 d]:List Value).toArray.all (·.oneCell'))=true:=by simp[Value.oneCell']
theorem area_core (xc xr:Nat) (c1 r1 c2 r2:Int) (X Y:Int×Int×Bool) (w:World)
  (HX:Hid (∀wq,Kp w wq Nul->Calls Tryz.prog 160 #[.slice (some ⟨xc,0,none⟩) 2 2,.int .i64 c1,.int .i64 c2] wq fun e w'=>e=.returned (.tuple #[.int .i64 X.1,.int .i64 X.2.1,.bool X.2.2])/\Kp wq w' Nul))
  (HY:Hid (∀wq,Kp w wq Nul->Calls Tryz.prog 160 #[.slice (some ⟨xr,0,none⟩) 2 2,.int .i64 r1,.int .i64 r2] wq fun e w'=>e=.returned (.tuple #[.int .i64 Y.1,.int .i64 Y.2.1,.bool Y.2.2])/\Kp wq w' Nul)) :
  Calls Tryz.prog 144 #[.agg #[.slice (some ⟨xc,0,none⟩) 2 2,.slice (some ⟨xr,0,none⟩) 2 2],.agg #[.int .i64 c1,.int .i64 r1,.int .i64 c2,.int .i64 r2]] w fun e w'=>e=.returned (.tuple #[if X.2.2&&Y.2.2 then .agg #[.int .i64 X.1,.int .i64 Y.1,.int .i64 X.2.1,.int .i64 Y.2.1] else .agg #[.int .i64 0,.int .i64 0,.int .i64 0,.int .i64 0],.bool (X.2.2&&Y.2.2)])/\Kp w w' Nul:=by
 obtain⟨x1,x2,x3⟩:=X
 obtain⟨y1,y2,y3⟩:=Y
 simp only at *
 obtain⟨W,hW⟩:∃W,((w.alloc (.cells #[.slice (some ⟨xc,0,none⟩) 2 2,.slice (some ⟨xr,0,none⟩) 2 2] 169)).alloc (.cells #[.int .i64 c1,.int .i64 r1,.int .i64 c2,.int .i64 r2] 34)).alloc (.cells #[.int .i64 0,.int .i64 0,.int .i64 0,.int .i64 0] 34)=W:=⟨_,rfl⟩
 have HW:Hid (((w.alloc (.cells #[.slice (some ⟨xc,0,none⟩) 2 2,.slice (some ⟨xr,0,none⟩) 2 2] 169)).alloc (.cells #[.int .i64 c1,.int .i64 r1,.int .i64 c2,.int .i64 r2] 34)).alloc (.cells #[.int .i64 0,.int .i64 0,.int .i64 0,.int .i64 0] 34)=W):=hW
 have kW:Hid (Kp w W Nul):=by show Kp _ _ _;rw[<- hW];exact(((Kp.refl w Nul).alloc _).alloc _).alloc _
 have B0:Hid (Blk W w.heap.size [.slice (some ⟨xc,0,none⟩) 2 2,.slice (some ⟨xr,0,none⟩) 2 2] 169):=by
  show Blk _ _ _ _;rw[<- hW];exact((Blk.new w _ _).alloc _).alloc _
 have B1:Hid (Blk W (w.heap.size+1) [.int .i64 c1,.int .i64 r1,.int .i64 c2,.int .i64 r2] 34):=by
  show Blk _ _ _ _;rw[<- hW]
  have:=Blk.new (w.alloc (.cells #[.slice (some ⟨xc,0,none⟩) 2 2,.slice (some ⟨xr,0,none⟩) 2 2] 169)) [.int .i64 c1,.int .i64 r1,.int .i64 c2,.int .i64 r2] 34
  rw[World.size_alloc] at this
  exact this.alloc _
 have B2:Hid (Blk W (w.heap.size+1+1) [.int .i64 0,.int .i64 0,.int .i64 0,.int .i64 0] 34):=by
  show Blk _ _ _ _;rw[<- hW]
  have:=Blk.new ((w.alloc (.cells #[.slice (some ⟨xc,0,none⟩) 2 2,.slice (some ⟨xr,0,none⟩) 2 2] 169)).alloc (.cells #[.int .i64 c1,.int .i64 r1,.int .i64 c2,.int .i64 r2] 34)) [.int .i64 0,.int .i64 0,.int .i64 0,.int .i64 0] 34
  rw[World.size_alloc,World.size_alloc] at this
  exact this
 clear hW
 go_enter Tryz.func144,Tryz.ntmps144
 go_wp2_with fail
 rw[HW.out]
 clear HW
 refine(HX.out W kW.out).mono ?_
 rintro e w1 ⟨rfl,hk1⟩
 have K1:Hid (Kp W w1 Nul):=hk1
 have d0:w1.cell? ⟨w.heap.size,0,none⟩=some (.slice (some ⟨xc,0,none⟩) 2 2):=(B0.out.kp hk1 (fun x=>x)).cell rfl
 have d1:w1.cell? ⟨w.heap.size,1,none⟩=some (.slice (some ⟨xr,0,none⟩) 2 2):=(B0.out.kp hk1 (fun x=>x)).cell rfl
 have d2:w1.cell? ⟨w.heap.size+1,0,none⟩=some (.int .i64 c1):=(B1.out.kp hk1 (fun x=>x)).cell rfl
 have d3:w1.cell? ⟨w.heap.size+1,1,none⟩=some (.int .i64 r1):=(B1.out.kp hk1 (fun x=>x)).cell rfl
 have d4:w1.cell? ⟨w.heap.size+1,2,none⟩=some (.int .i64 c2):=(B1.out.kp hk1 (fun x=>x)).cell rfl
 have d5:w1.cell? ⟨w.heap.size+1,3,none⟩=some (.int .i64 r2):=(B1.out.kp hk1 (fun x=>x)).cell rfl
 clear hk1
 go_wp2_with fail
 refine(HY.out w1 (kW.out.trans K1.out)).mono ?_
 rintro e w2 ⟨rfl,hk2⟩
 have K2:Hid (Kp w w2 Nul):=(kW.out.trans K1.out).trans hk2
 have b2:=(B2.out.kp K1.out (fun x=>x)).kp hk2 (fun x=>x)
 have HB2:Hid (Blk w2 (w.heap.size+1+1) [.int .i64 0,.int .i64 0,.int .i64 0,.int .i64 0] 34):=b2
 clear d0 d1 d2 d3 d4 d5 hk2 K1 B0 B1 B2 HX HY kW b2
 have FIN:Hid (∀(w3:World),Kp w2 w3 (fun i=>i=w.heap.size+1+1)->Kp w w3 Nul):=fun w3 hk=>K2.out.trans' hk (fun i hi e=>by have:i=w.heap.size+1+1:=e;omega)
 cases x3 <;> cases y3
 rotate_right
 ·go_wp2_with (first|(refine wpList_store_blk rfl 34 (.tmp 4) (.tmp 51) rfl (w.heap.size+1+1) _ [.int .i64 x1,.int .i64 y1,.int .i64 x2,.int .i64 y2] _ HB2.out rfl rfl rfl infoArea (ints4 _ _ _ _) ?_;intro w3 hb3 hk3)|fail)
  have e0:w3.cell? ⟨w.heap.size+1+1,0,none⟩=some (.int .i64 x1):=hb3.cell rfl
  have e1:w3.cell? ⟨w.heap.size+1+1,1,none⟩=some (.int .i64 y1):=hb3.cell rfl
  have e2:w3.cell? ⟨w.heap.size+1+1,2,none⟩=some (.int .i64 x2):=hb3.cell rfl
  have e3:w3.cell? ⟨w.heap.size+1+1,3,none⟩=some (.int .i64 y2):=hb3.cell rfl
  refine bodyPost_ret (v:=.tuple #[.agg #[.int .i64 x1,.int .i64 y1,.int .i64 x2,.int .i64 y2],.bool true]) (by simp[results,Tryz.results144,go_sem, *]) rfl ?_
  exact⟨rfl,FIN.out w3 hk3⟩
 all_goals
  go_wp2_with (first|(refine wpList_store_blk rfl 34 (.tmp 4) (.tmp 44) rfl (w.heap.size+1+1) _ [.int .i64 0,.int .i64 0,.int .i64 0,.int .i64 0] _ HB2.out rfl rfl rfl infoArea (ints4 _ _ _ _) ?_;intro w3 hb3 hk3)|fail)
  have e0:w3.cell? ⟨w.heap.size+1+1,0,none⟩=some (.int .i64 0):=hb3.cell rfl
  have e1:w3.cell? ⟨w.heap.size+1+1,1,none⟩=some (.int .i64 0):=hb3.cell rfl
  have e2:w3.cell? ⟨w.heap.size+1+1,2,none⟩=some (.int .i64 0):=hb3.cell rfl
  have e3:w3.cell? ⟨w.heap.size+1+1,3,none⟩=some (.int .i64 0):=hb3.cell rfl
  refine bodyPost_ret (v:=.tuple #[.agg #[.int .i64 0,.int .i64 0,.int .i64 0,.int .i64 0],.bool false]) (by simp[results,Tryz.results144,go_sem, *]) rfl ?_
  exact⟨rfl,FIN.out w3 hk3⟩
end Go.Proofs.YtecjfnkakodebaaGreatDoor
