/-formula's wellMade, all kinds but texts. -/
import Derived.Test.YtecjfnkakodebaaGreatDoorQwQf
import Derived.Test.YtecjfnkakodebaaGreatDoorQwQg
import Derived.Test.YtecjfnkakodebaaGreatDoorQwQi
import Derived.Test.YtecjfnkakodebaaGreatDoorQwQj
import Derived.Test.YtecjfnkakodebaaGreatDoorQwQk
set_option maxRecDepth 20000
set_option maxHeartbeats 8000000
namespace Go.Proofs.YtecjfnkakodebaaGreatDoor
open Go.RowKit
theorem wm_k0 (h:Hd) (n:Nat) (a:Option Addr) (c:Nat) (w:World) (h0:h.k<1∨9<h.k) :
  Calls Tryz.prog 164 #[h.val (.slice a n c)] w fun e w'=>e=.returned (.bool (wm h n))/\Kp w w' Nul:=by
 have hV:Hid (wm h n=false):=by
  show _=_
  unfold wm
  rw[if_neg (by omega),if_neg (by omega),if_neg (by omega),if_neg (by omega),if_neg (by omega),if_neg (by omega),if_neg (by omega),if_neg (by omega),if_neg (by omega)]
 rw[hV.out]
 obtain⟨k,o,x,s,b,f,c1,r1,p1,q1,c2,r2,p2,q2⟩:=h
 simp only at *
 have e1:(k==1)=false:=by simp;omega
 have e2:(k==2)=false:=by simp;omega
 have e3:(k==3)=false:=by simp;omega
 have e4:(k==4)=false:=by simp;omega
 have e5:(k==5)=false:=by simp;omega
 have e6:(k==6)=false:=by simp;omega
 have e7:(k==7)=false:=by simp;omega
 have e8:(k==8)=false:=by simp;omega
 have e9:(k==9)=false:=by simp;omega
 clear hV h0
 go_enter Tryz.func164,Tryz.ntmps164
 go_wp2_with fail
 go_ret
 exact⟨rfl,by repeat (first|exact Kp.refl _ _|refine Kp.alloc ?_ _|refine Kp.drew ?_)⟩
theorem wpH_stepG {P:Program} {ops:Array Oper} {Q:Exit->Act->World->Prop} {md:Region.Mode} {S:World->Prop} {i:Nat} {o:Oper} {n:Nat} {on:Array Bool} {a:Act} {w:World} (hr:Region.ready md ops on=[i]) (ho:ops[i]? = some o) (hg:Region.wanted o (yielded ops a.tmps)=true)
  (h:∀K':Act->World->Prop,Hid (∀a w,S w->(S w->wpAnyH P md ops Q S n (on.setIfInBounds i true) a w)->K' a w)->o.wp P a w K' Q):wpAnyH P md ops Q S (n+1) on a w:=by
 refine wpAnyH_all hr (by simp) (fun j hj=>?_)
 obtain rfl:=List.mem_singleton.1 hj
 unfold wpOp
 rw[ho]
 simp only[hg,if_true]
 exact .inl (h _ (fun a w hS hW=>⟨hS,hW hS⟩))
def TwoAt (w:World) (N:Nat) (h:Hd) (sl:Value) (s:ByteArray):Prop:=Blk w N (h.cells sl) 48/\(Blk w (N+1) (Hd.cells ⟨2,0,0,⟨#[]⟩,false,0,0,0,false,false,0,0,false,false⟩ (.slice none 0 0)) 48∨Blk w (N+1) (Hd.cells ⟨2,0,0,s,false,0,0,0,false,false,0,0,false,false⟩ (.slice none 0 0)) 48)
theorem wm_k2 (o:Int) (x:Nat) (s:ByteArray) (b:Bool) (f c1 r1:Int) (p1 q1:Bool) (c2 r2:Int) (p2 q2:Bool) (n:Nat) (a:Option Addr) (c:Nat) (hx:x<18446744073709551616) (w:World)
  (U:s.size<=1024->∀wq,Kp w wq Nul->Calls Tryz.prog 117 #[.string s] wq fun e w'=>e=.returned (.bool (Lib.validD s.data.toList))/\Kp wq w' Nul) :
  Calls Tryz.prog 164 #[Hd.val ⟨2,o,x,s,b,f,c1,r1,p1,q1,c2,r2,p2,q2⟩ (.slice a n c)] w fun e w'=>e=.returned (.bool (wm ⟨2,o,x,s,b,f,c1,r1,p1,q1,c2,r2,p2,q2⟩ n))/\Kp w w' Nul:=by
 have HS:Hid (∀w,Calls Tryz.prog 101 #[Hd.val ⟨2,o,x,s,b,f,c1,r1,p1,q1,c2,r2,p2,q2⟩ (.slice a n c),Hd.val (⟨2,0,0,s,false,0,0,0,false,false,0,0,false,false⟩:Hd) (.slice none 0 0)] w fun e w'=>e=.returned (.bool (hsame ⟨2,o,x,s,b,f,c1,r1,p1,q1,c2,r2,p2,q2⟩ (⟨2,0,0,s,false,0,0,0,false,false,0,0,false,false⟩:Hd)))/\Gr w w'):=fun w=>sameFields_at _ _ hx (show (0:Nat)<18446744073709551616 by decide) _ _ w
 have hV:Hid (wm ⟨2,o,x,s,b,f,c1,r1,p1,q1,c2,r2,p2,q2⟩ n=(decide (s.size<=1024)&&Lib.validD s.data.toList&&(n==0)&&hsame ⟨2,o,x,s,b,f,c1,r1,p1,q1,c2,r2,p2,q2⟩ (⟨2,0,0,s,false,0,0,0,false,false,0,0,false,false⟩:Hd))):=rfl
 have HU0:Hid (s.size<=1024->∀wq,Kp w wq Nul->Calls Tryz.prog 117 #[.string s] wq fun e w'=>e=.returned (.bool (Lib.validD s.data.toList))/\Kp wq w' Nul):=U
 generalize wm ⟨2,o,x,s,b,f,c1,r1,p1,q1,c2,r2,p2,q2⟩ n=V at *
 generalize hsame ⟨2,o,x,s,b,f,c1,r1,p1,q1,c2,r2,p2,q2⟩ (⟨2,0,0,s,false,0,0,0,false,false,0,0,false,false⟩:Hd)=Z at *
 generalize Lib.validD s.data.toList=VD at *
 clear hx U
 by_cases hl:s.size<=1024
 ·have HL:Hid (decide (s.size<=1024)=true):=by show _=_;simp[hl]
  have HU:Hid (∀wq,Kp w wq Nul->Calls Tryz.prog 117 #[.string s] wq fun e w'=>e=.returned (.bool VD)/\Kp wq w' Nul):=HU0.out hl
  clear HU0
  have hl':(s.size:Int)<=1024:=by omega
  obtain⟨W1,hW1⟩:∃W1,(w.alloc (.cells #[.int .i64 2,.int .i64 o,.float .f64 x,.string s,.bool b,.int .i64 f,.int .i64 c1,.int .i64 r1,.bool p1,.bool q1,.int .i64 c2,.int .i64 r2,.bool p2,.bool q2,.slice a n c] 48)).alloc (.cells #[.int .i64 2,.int .i64 0,.float .f64 0,.string ⟨#[]⟩,.bool false,.int .i64 0,.int .i64 0,.int .i64 0,.bool false,.bool false,.int .i64 0,.int .i64 0,.bool false,.bool false,.slice none 0 0] 48)=W1:=⟨_,rfl⟩
  have k1:Kp w W1 Nul:=by rw[<- hW1];exact((Kp.refl w Nul).alloc _).alloc _
  have t1:TwoAt W1 w.heap.size ⟨2,o,x,s,b,f,c1,r1,p1,q1,c2,r2,p2,q2⟩ (.slice a n c) s:=by
   rw[<- hW1]
   refine⟨(Blk.new w (Hd.cells ⟨2,o,x,s,b,f,c1,r1,p1,q1,c2,r2,p2,q2⟩ (.slice a n c)) _).alloc _,.inl ?_⟩
   have:=Blk.new (w.alloc (.cells #[.int .i64 2,.int .i64 o,.float .f64 x,.string s,.bool b,.int .i64 f,.int .i64 c1,.int .i64 r1,.bool p1,.bool q1,.int .i64 c2,.int .i64 r2,.bool p2,.bool q2,.slice a n c] 48)) (Hd.cells ⟨2,0,0,⟨#[]⟩,false,0,0,0,false,false,0,0,false,false⟩ (.slice none 0 0)) 48
   rw[World.size_alloc] at this
   exact this
  have HW1:Hid ((w.alloc (.cells #[.int .i64 2,.int .i64 o,.float .f64 x,.string s,.bool b,.int .i64 f,.int .i64 c1,.int .i64 r1,.bool p1,.bool q1,.int .i64 c2,.int .i64 r2,.bool p2,.bool q2,.slice a n c] 48)).alloc (.cells #[.int .i64 2,.int .i64 0,.float .f64 0,.string ⟨#[]⟩,.bool false,.int .i64 0,.int .i64 0,.int .i64 0,.bool false,.bool false,.int .i64 0,.int .i64 0,.bool false,.bool false,.slice none 0 0] 48)=W1):=hW1
  have HJ1:Hid (Blk W1 (w.heap.size+1) (Hd.cells ⟨2,0,0,⟨#[]⟩,false,0,0,0,false,false,0,0,false,false⟩ (.slice none 0 0)) 48):=by
   have:=Blk.new (w.alloc (.cells #[.int .i64 2,.int .i64 o,.float .f64 x,.string s,.bool b,.int .i64 f,.int .i64 c1,.int .i64 r1,.bool p1,.bool q1,.int .i64 c2,.int .i64 r2,.bool p2,.bool q2,.slice a n c] 48)) (Hd.cells ⟨2,0,0,⟨#[]⟩,false,0,0,0,false,false,0,0,false,false⟩ (.slice none 0 0)) 48
   rw[World.size_alloc] at this
   rw[<- hW1]
   exact this
  have HT1:Hid (TwoAt W1 w.heap.size ⟨2,o,x,s,b,f,c1,r1,p1,q1,c2,r2,p2,q2⟩ (.slice a n c) s):=t1
  have HK1:Hid (Kp w W1 Nul):=k1
  clear t1 k1 hW1
  go_enter Tryz.func164,Tryz.ntmps164
  go_wp2_with fail
  rw[HW1.out]
  refine wp_region_noPanic ?_
  refine wp_region_hel (fun w':World=>TwoAt w' w.heap.size ⟨2,o,x,s,b,f,c1,r1,p1,q1,c2,r2,p2,q2⟩ (.slice a n c) s/\Kp w w' Nul) (by kernel_rfl) ⟨HT1.out,HK1.out.drew⟩ (fun hHeld=>?_)
  refine wpH_takes (i:=0) (v:=?_) (some 21) rfl rfl (by kernel_rfl) (fun _ _ _ h=>h) (Or.inl ⟨by rfl,?_⟩) hHeld ?_
  rotate_left
  ·intro w' hSw;have s0:w'.cell? ⟨w.heap.size,3,none⟩=some (.string s):=hSw.1.1.cell rfl;clear hSw;go_simp;try with_reducible rfl
  simp only[Act.put,Sz0,Sz1,Sz2]
  refine wpH_takes (i:=1) (v:=?_) (some 22) rfl rfl (by kernel_rfl) (fun _ _ _ h=>h) (Or.inl ⟨by rfl,?_⟩) hHeld ?_
  rotate_left
  ·intro w' hSw;have s0:w'.cell? ⟨w.heap.size,3,none⟩=some (.string s):=hSw.1.1.cell rfl;clear hSw;go_simp;try with_reducible rfl
  simp only[Act.put,Sz0,Sz1,Sz2]
  refine wpH_takes (i:=2) (v:=?_) (some 23) rfl rfl (by kernel_rfl) (fun _ _ _ h=>h) (Or.inl ⟨by rfl,?_⟩) hHeld ?_
  rotate_left
  ·intro w' hSw;have s0:w'.cell? ⟨w.heap.size,3,none⟩=some (.string s):=hSw.1.1.cell rfl;clear hSw;go_simp;try with_reducible rfl
  simp only[Act.put,Sz0,Sz1,Sz2]
  refine wpH_takes (i:=3) (v:=?_) (some 24) rfl rfl (by kernel_rfl) (fun _ _ _ h=>h) (Or.inl ⟨by rfl,?_⟩) hHeld ?_
  rotate_left
  ·intro w' hSw;have s0:w'.cell? ⟨w.heap.size,3,none⟩=some (.string s):=hSw.1.1.cell rfl;clear hSw;go_simp;try with_reducible rfl
  simp only[Act.put,Sz0,Sz1,Sz2]
  refine wpH_takes (i:=4) (v:=?_) (some 25) rfl rfl (by kernel_rfl) (fun _ _ _ h=>h) (Or.inl ⟨by rfl,?_⟩) hHeld ?_
  rotate_left
  ·intro w' hSw;have s0:w'.cell? ⟨w.heap.size,3,none⟩=some (.string s):=hSw.1.1.cell rfl;clear hSw;go_simp;try with_reducible rfl
  simp only[Act.put,Sz0,Sz1,Sz2]
  refine wpH_takes (i:=5) (v:=?_) (some 26) rfl rfl (by kernel_rfl) (fun _ _ _ h=>h) (Or.inl ⟨by rfl,?_⟩) hHeld ?_
  rotate_left
  ·intro w' hSw;have s0:w'.cell? ⟨w.heap.size,3,none⟩=some (.string s):=hSw.1.1.cell rfl;clear hSw;go_simp;try with_reducible rfl
  simp only[Act.put,Sz0,Sz1,Sz2]
  refine wpH_takes (i:=6) (v:=?_) (some 27) rfl rfl (by kernel_rfl) (fun _ _ _ h=>h) (Or.inl ⟨by rfl,?_⟩) hHeld ?_
  rotate_left
  ·intro w' hSw;have s0:w'.cell? ⟨w.heap.size,3,none⟩=some (.string s):=hSw.1.1.cell rfl;clear hSw;go_simp;try with_reducible rfl
  simp only[Act.put,Sz0,Sz1,Sz2]
  refine wpH_takes (i:=7) (v:=?_) (some 28) rfl rfl (by kernel_rfl) (fun _ _ _ h=>h) (Or.inl ⟨by rfl,?_⟩) hHeld ?_
  rotate_left
  ·intro w' hSw;have s0:w'.cell? ⟨w.heap.size,3,none⟩=some (.string s):=hSw.1.1.cell rfl;clear hSw;go_simp;try with_reducible rfl
  simp only[Act.put,Sz0,Sz1,Sz2]
  refine wpH_takes (i:=8) (v:=?_) (some 29) rfl rfl (by kernel_rfl) (fun _ _ _ h=>h) (Or.inl ⟨by rfl,?_⟩) hHeld ?_
  rotate_left
  ·intro w' hSw;have s0:w'.cell? ⟨w.heap.size,3,none⟩=some (.string s):=hSw.1.1.cell rfl;clear hSw;go_simp;try with_reducible rfl
  simp only[Act.put,Sz0,Sz1,Sz2]
  refine wpH_takes (i:=11) (v:=?_) (some 32) rfl rfl (by kernel_rfl) (fun _ _ _ h=>h) (Or.inl ⟨by rfl,?_⟩) hHeld ?_
  rotate_left
  ·intro w' hSw;have s0:w'.cell? ⟨w.heap.size,3,none⟩=some (.string s):=hSw.1.1.cell rfl;clear hSw;go_simp;try with_reducible rfl
  simp only[Act.put,Sz0,Sz1,Sz2]
  refine wpH_stepG (i:=9) (by kernel_rfl) rfl (by rfl) (fun K hK=>?_)
  go_simp
  refine(HU.out _ hHeld.2).mono ?_
  rintro e w2 ⟨rfl,hk2⟩
  have hk12:Kp W1 w2 Nul:=((Kp.refl W1 Nul).drew).trans hk2
  have B1:Blk w2 w.heap.size (Hd.cells ⟨2,o,x,s,b,f,c1,r1,p1,q1,c2,r2,p2,q2⟩ (.slice a n c)) 48:=HT1.out.1.kp hk12 (fun x=>x)
  have B2:Blk w2 (w.heap.size+1) (Hd.cells ⟨2,0,0,⟨#[]⟩,false,0,0,0,false,false,0,0,false,false⟩ (.slice none 0 0)) 48:=HJ1.out.kp hk12 (fun x=>x)
  have hS2:TwoAt w2 w.heap.size ⟨2,o,x,s,b,f,c1,r1,p1,q1,c2,r2,p2,q2⟩ (.slice a n c) s/\Kp w w2 Nul:=⟨⟨B1,.inl B2⟩,HK1.out.trans hk12⟩
  refine hK.out _ _ hS2 (fun hHeld2=>?_)
  have B3:Blk (w2.setCell ⟨w.heap.size+1,3,none⟩ (.string s)) w.heap.size (Hd.cells ⟨2,o,x,s,b,f,c1,r1,p1,q1,c2,r2,p2,q2⟩ (.slice a n c)) 48:=B1.other _ _ (by show w.heap.size≠w.heap.size+1;omega)
  have B4:Blk (w2.setCell ⟨w.heap.size+1,3,none⟩ (.string s)) (w.heap.size+1) (Hd.cells ⟨2,0,0,s,false,0,0,0,false,false,0,0,false,false⟩ (.slice none 0 0)) 48:=B2.set 3 (.string s)
  have K4:Kp w (w2.setCell ⟨w.heap.size+1,3,none⟩ (.string s)) Nul:=hS2.2.setCell _ _ (.inl (by show w.heap.size<=w.heap.size+1;omega))
  have HB3:Hid (TwoAt (w2.setCell ⟨w.heap.size+1,3,none⟩ (.string s)) w.heap.size ⟨2,o,x,s,b,f,c1,r1,p1,q1,c2,r2,p2,q2⟩ (.slice a n c) s/\Kp w (w2.setCell ⟨w.heap.size+1,3,none⟩ (.string s)) Nul):=⟨⟨B3,.inr B4⟩,K4⟩
  have HB4:Hid (Blk (w2.setCell ⟨w.heap.size+1,3,none⟩ (.string s)) (w.heap.size+1) (Hd.cells ⟨2,0,0,s,false,0,0,0,false,false,0,0,false,false⟩ (.slice none 0 0)) 48):=B4
  have y1:w2.cell? ⟨w.heap.size+1,3,none⟩=some (.string ⟨#[]⟩):=B2.cell rfl
  have y2:=B2.froz 3
  clear hK K hHeld hk2 hk12 B1 B2 B3 B4 K4 hS2 HU HT1 HK1 HJ1 HW1
  refine wpH_takes (i:=10) (v:=?_) (some 31) rfl rfl (by kernel_rfl) (fun _ _ _ h=>h) (Or.inl ⟨by rfl,?_⟩) hHeld2 ?_
  rotate_left
  ·intro w' hSw;clear hSw;go_simp;try with_reducible rfl
  simp only[Act.put,Sz0,Sz1,Sz2]
  first
   | (refine wpH_step (i:=12) (by kernel_rfl) rfl rfl (fun K hK=>?_))
   | skip
  go_simp
  refine hK.out _ _ HB3.out (fun hHeld3=>?_)
  clear hK K hHeld2 y1 y2
  refine wpH_takes (i:=13) (v:=?_) (some 4) rfl rfl (by kernel_rfl) (fun _ _ _ h=>h) (Or.inl ⟨by rfl,?_⟩) hHeld3 ?_
  rotate_left
  ·intro w' hSw;clear hSw;go_simp;try with_reducible rfl
  simp only[Act.put,Sz0,Sz1,Sz2]
  refine wpAnyH_done (by kernel_rfl) ?_ _
  refine NoPanic.normal ?_
  clear hHeld3
  have cn:(w2.setCell ⟨w.heap.size+1,3,none⟩ (.string s)).cell? ⟨w.heap.size,14,none⟩=some (.slice a n c):=HB3.out.1.1.cell rfl
  have GK:Hid (∀w',Gr (w2.setCell ⟨w.heap.size+1,3,none⟩ (.string s)) w'->Kp w w' Nul):=fun w' h=>HB3.out.2.trans (Kp.of_gr h)
  generalize w2.setCell ⟨w.heap.size+1,3,none⟩ (.string s)=W3 at *
  cases VD
  ·go_wp2_with fail
   go_ret
   exact⟨rBool (by rw[hV.out] <;> simp),HB3.out.2⟩
  ·by_cases hn:n=0
   ·subst hn
    go_wp2_with (first|(refine load_node_law rfl (.tmp 1) rfl w.heap.size rfl (Hd.cells ⟨2,o,x,s,b,f,c1,r1,p1,q1,c2,r2,p2,q2⟩ (.slice a 0 c)).toArray HB3.out.1.1 rfl ?_)|(refine load_node_law rfl (.tmp 3) rfl (w.heap.size+1) rfl (Hd.cells ⟨2,0,0,s,false,0,0,0,false,false,0,0,false,false⟩ (.slice none 0 0)).toArray HB4.out rfl ?_)|(go_at_call 101;refine(HS.out _).mono ?_;rintro e w' ⟨rfl,hg⟩;have HG:Hid (Kp w w' Nul):=GK.out _ hg;clear hg))
    go_ret
    exact⟨rBool (by rw[hV.out,HL.out] <;> simp),HG.out⟩
   ·have HN:Hid ((n==0)=false):=by show _=_;simp[hn]
    go_wp2_with fail
    go_ret
    exact⟨rBool (by rw[hV.out,HN.out] <;> simp),HB3.out.2⟩
 ·have HL:Hid (decide (s.size<=1024)=false):=by show _=_;simp[hl]
  have hl':¬(s.size:Int)<=1024:=by omega
  have hl2:decide ((s.size:Int)<=1024)=false:=by simp;omega
  have hl3:((s.size:Int)<=1024)=False:=by simp;omega
  clear HU0
  go_enter Tryz.func164,Tryz.ntmps164
  go_wp2_with fail
  go_region
  all_goals
   go_wp2_with fail
   go_ret
   exact⟨rBool (by rw[hV.out,HL.out] <;> simp),by repeat (first|exact Kp.refl _ _|refine Kp.alloc ?_ _|refine Kp.drew ?_)⟩
def VS (w:World):Prop:=∀(s:ByteArray) wq,s.size<=1024->Kp w wq Nul->Calls Tryz.prog 117 #[.string s] wq fun e w'=>e=.returned (.bool (Lib.validD s.data.toList))/\Kp wq w' Nul
theorem VS.kp {w w':World} (h:VS w) (hk:Kp w w' Nul):VS w':=fun s wq hs hq=>h s wq hs (hk.trans hq)
theorem wellMade_at (h:Hd) (n:Nat) (a:Option Addr) (c:Nat) (hx:h.x<18446744073709551616) (w:World) (U:VS w) :
  Calls Tryz.prog 164 #[h.val (.slice a n c)] w fun e w'=>e=.returned (.bool (wm h n))/\Kp w w' Nul:=by
 by_cases h0:h.k<1∨9<h.k
 ·exact wm_k0 h n a c w h0
 ·obtain⟨k,o,x,s,b,f,c1,r1,p1,q1,c2,r2,p2,q2⟩:=h
  simp only at h0 hx
  have hk:k=1∨k=2∨k=3∨k=4∨k=5∨k=6∨k=7∨k=8∨k=9:=by omega
  rcases hk with rfl|rfl|rfl|rfl|rfl|rfl|rfl|rfl|rfl
  ·exact wm_k1 o x s b f c1 r1 p1 q1 c2 r2 p2 q2 n a c hx w
  ·exact wm_k2 o x s b f c1 r1 p1 q1 c2 r2 p2 q2 n a c hx w (fun hs wq hq=>U s wq hs hq)
  ·exact wm_k3 o x s b f c1 r1 p1 q1 c2 r2 p2 q2 n a c hx w
  ·exact wm_k4 o x s b f c1 r1 p1 q1 c2 r2 p2 q2 n a c hx w
  ·exact wm_k5 o x s b f c1 r1 p1 q1 c2 r2 p2 q2 n a c hx w
  ·exact wm_k6 o x s b f c1 r1 p1 q1 c2 r2 p2 q2 n a c hx w
  ·exact wm_k7 o x s b f c1 r1 p1 q1 c2 r2 p2 q2 n a c hx w
  ·exact wm_k8 o x s b f c1 r1 p1 q1 c2 r2 p2 q2 n a c hx w
  ·exact wm_k9 o x s b f c1 r1 p1 q1 c2 r2 p2 q2 n a c hx w
theorem ownError_at (h:Hd) (n:Nat) (a:Option Addr) (c:Nat) (called:Bool) (hx:h.x<18446744073709551616) (w:World) (U:VS w) :
  Calls Tryz.prog 149 #[h.val (.slice a n c),.bool called] w fun e w'=>e=.returned (.int .i64 (ownE h n called))/\Kp w w' Nul:=by
 obtain⟨W1,hW1⟩:∃W1,w.alloc (.cells (h.cells (.slice a n c)).toArray 48)=W1:=⟨_,rfl⟩
 have k1:Kp w W1 Nul:=by rw[<- hW1];exact(Kp.refl w Nul).alloc _
 have b1:Blk W1 w.heap.size (h.cells (.slice a n c)) 48:=by rw[<- hW1];exact Blk.new w _ _
 have HW1:Hid (w.alloc (.cells #[.int .i64 h.k,.int .i64 h.o,.float .f64 h.x,.string h.s,.bool h.b,.int .i64 h.f,.int .i64 h.c1,.int .i64 h.r1,.bool h.p1,.bool h.q1,.int .i64 h.c2,.int .i64 h.r2,.bool h.p2,.bool h.q2,.slice a n c] 48)=W1):=hW1
 have HM:Hid (Calls Tryz.prog 164 #[h.val (.slice a n c)] W1 fun e w'=>e=.returned (.bool (wm h n))/\Kp W1 w' Nul):=wellMade_at h n a c hx W1 (U.kp k1)
 have HN:Hid (∀w,Calls Tryz.prog 165 #[h.val (.slice a n c)] w fun e w'=>e=.returned (.agg #[.int .i64 (nmd h).1,.int .i64 (nmd h).2.1,.int .i64 (nmd h).2.2.1,.int .i64 (nmd h).2.2.2])/\Gr w w'):=named_at h (.slice a n c)
 have HV:Hid (∀c r d s w,Calls Tryz.prog 58 #[.agg #[.int .i64 c,.int .i64 r,.int .i64 d,.int .i64 s]] w fun e w'=>e=.returned (.bool (vA c r d s))/\Gr w w'):=pValidArea_any
 have HC:Hid (∀w,Calls Tryz.prog 166 #[.string h.s,.int .i64 n] w fun e w'=>e=.returned (.int .i64 (callE h.s n))/\w'=w):=fun w=>callError_at h.s n w (known_at h.s)
 have hE:Hid (ownE h n called=if wm h n=false then 1 else if h.k=5 then (if vA h.c1 h.r1 h.c1 h.r1=true then 0 else 20) else if h.k=6 then (if vA h.c1 h.r1 h.c2 h.r2=true then (if called=true then 0 else 31) else 20) else if h.k=9 then callE h.s n else 0):=rfl
 have hnm:Hid (nmd h=if h.k=5 then (h.c1,h.r1,h.c1,h.r1) else if h.k=6 then (h.c1,h.r1,h.c2,h.r2) else (0,0,0,0)):=rfl
 have HB:Hid (∀wq,Kp W1 wq Nul->Blk wq w.heap.size (h.cells (.slice a n c)) 48):=fun wq hq=>b1.kp hq (fun x=>x)
 have HK1:Hid (Kp w W1 Nul):=k1
 generalize ownE h n called=E at *
 generalize wm h n=M at *
 generalize callE h.s n=CE at *
 generalize nmd h=nm at *
 clear hW1 k1 b1 U hx
 go_enter Tryz.func149,Tryz.ntmps149
 go_wp2_with fail
 rw[HW1.out]
 refine HM.out.mono ?_
 rintro e w1 ⟨rfl,hk1⟩
 have HK2:Hid (Kp W1 w1 Nul):=hk1
 have hb:=HB.out w1 hk1
 have x0:w1.cell? ⟨w.heap.size,0,none⟩=some (.int .i64 h.k):=hb.cell rfl
 clear hk1 HM HW1
 cases M
 ·clear hb
  go_wp2_with fail
  go_ret
  exact⟨rInt (by rw[hE.out];rfl),HK1.out.trans HK2.out⟩
 ·have x3:w1.cell? ⟨w.heap.size,3,none⟩=some (.string h.s):=hb.cell rfl
  have x14:w1.cell? ⟨w.heap.size,14,none⟩=some (.slice a n c):=hb.cell rfl
  have HBb:Hid (w1.heap[w.heap.size]? = some (.cells (h.cells (.slice a n c)).toArray 48 (0,0))):=hb
  clear hb
  generalize hkk:h.k=kk at *
  by_cases k5:kk=5
  ·subst k5
   have hn5:nm=(h.c1,h.r1,h.c1,h.r1):=by rw[hnm.out];rfl
   go_wp2_with (first|(refine load_node_law rfl (.tmp 2) rfl w.heap.size rfl (h.cells (.slice a n c)).toArray HBb.out rfl ?_)|fail)
   refine(HN.out _).mono ?_
   rintro e w2 ⟨rfl,hg2⟩
   have x0':w2.cell? ⟨w.heap.size,0,none⟩=some (.int .i64 5):=hg2.cell (cell_lt x0) x0
   have HG2:Hid (Gr w1 w2):=hg2
   rw[hn5]
   clear hg2 x0 x3 x14 HBb HC
   go_wp2_with fail
   refine(HV.out _ _ _ _ _).mono ?_
   rintro e w3 ⟨rfl,hg3⟩
   have x0:w3.cell? ⟨w.heap.size,0,none⟩=some (.int .i64 5):=hg3.cell (cell_lt x0') x0'
   have HG3:Hid (Kp w w3 Nul):=((HK1.out.trans HK2.out).trans (Kp.of_gr HG2.out)).trans (Kp.of_gr hg3)
   clear hg3 x0' HG2 HV HN
   cases hvv:vA h.c1 h.r1 h.c1 h.r1
   ·have HVV:Hid (vA h.c1 h.r1 h.c1 h.r1=false):=hvv
    clear hvv
    go_wp2_with fail
    go_ret
    exact⟨rInt (by rw[hE.out,HVV.out];rfl),HG3.out⟩
   ·have HVV:Hid (vA h.c1 h.r1 h.c1 h.r1=true):=hvv
    clear hvv
    go_wp2_with fail
    go_ret
    exact⟨rInt (by rw[hE.out,HVV.out];rfl),HG3.out⟩
  ·by_cases k6:kk=6
   ·subst k6
    have hn6:nm=(h.c1,h.r1,h.c2,h.r2):=by rw[hnm.out];rfl
    go_wp2_with (first|(refine load_node_law rfl (.tmp 2) rfl w.heap.size rfl (h.cells (.slice a n c)).toArray HBb.out rfl ?_)|fail)
    refine(HN.out _).mono ?_
    rintro e w2 ⟨rfl,hg2⟩
    have x0':w2.cell? ⟨w.heap.size,0,none⟩=some (.int .i64 6):=hg2.cell (cell_lt x0) x0
    have HG2:Hid (Gr w1 w2):=hg2
    rw[hn6]
    clear hg2 x0 x3 x14 HBb HC
    go_wp2_with fail
    refine(HV.out _ _ _ _ _).mono ?_
    rintro e w3 ⟨rfl,hg3⟩
    have x0:w3.cell? ⟨w.heap.size,0,none⟩=some (.int .i64 6):=hg3.cell (cell_lt x0') x0'
    have HG3:Hid (Kp w w3 Nul):=((HK1.out.trans HK2.out).trans (Kp.of_gr HG2.out)).trans (Kp.of_gr hg3)
    clear hg3 x0' HG2 HV HN
    cases hvv:vA h.c1 h.r1 h.c2 h.r2
    ·have HVV:Hid (vA h.c1 h.r1 h.c2 h.r2=false):=hvv
     clear hvv
     go_wp2_with fail
     go_ret
     exact⟨rInt (by rw[hE.out,HVV.out];rfl),HG3.out⟩
    ·have HVV:Hid (vA h.c1 h.r1 h.c2 h.r2=true):=hvv
     clear hvv
     cases called
     ·go_wp2_with fail
      go_ret
      exact⟨rInt (by rw[hE.out,HVV.out];rfl),HG3.out⟩
     ·go_wp2_with fail
      go_ret
      exact⟨rInt (by rw[hE.out,HVV.out];rfl),HG3.out⟩
   ·have e5:(kk==5)=false:=by simpa using k5
    have e6:(kk==6)=false:=by simpa using k6
    by_cases k9:kk=9
    ·subst k9
     go_wp2_with (go_at_call 166;refine(HC.out _).mono ?_;rintro e w2 ⟨rfl,rfl⟩)
     go_ret
     exact⟨rInt (by rw[hE.out];rfl),HK1.out.trans HK2.out⟩
    ·have e9:(kk==9)=false:=by simpa using k9
     have hE0:Hid (E=0):=by show _=_;rw[hE.out];simp[k5,k6,k9]
     go_wp2_with fail
     go_ret
     exact⟨rInt hE0.out.symm,HK1.out.trans HK2.out⟩
end Go.Proofs.YtecjfnkakodebaaGreatDoor
