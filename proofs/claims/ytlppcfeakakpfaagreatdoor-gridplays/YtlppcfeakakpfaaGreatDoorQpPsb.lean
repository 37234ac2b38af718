/- GridPlays: any step. By wip/gen_psb.py. GridPlays: the law. By wip/gen_psc.py. -/
import Derived.Test.YtlppcfeakakpfaaGreatDoorQpPsa
set_option maxRecDepth 20000
set_option maxHeartbeats 16000000
namespace Go.Proofs.YtlppcfeakakpfaaGreatDoor
open Go.RowKit Go.Maps Go.Sort Go.Lib Go.Shelf
theorem infoOp:(Tryz.prog.info? 50).map (·.size)=some 30:=by kernel_rfl
theorem step_while (w0 w:World) (B xw bg br:Nat) (g r:Nat→Nat) (L K:Nat→List Cc) (v:Nat→Value) (ys:Nat→List (Cc×Value)) (on nn c s:Int) (ct:Ct) (sl:Value) (m1 m2 m3 m4:Int) (hP:PlayS w B xw bg br g r L K v ys) (hO:OpIn w0 B on nn c s ct sl) (hw:Kp w0 w Nul) :
  Calls Tryz.prog 7 #[.pointer (some ⟨xw,0,none⟩),.agg (opC on 8 nn c s ct sl m1 m2 m3 m4).toArray] w (StR w0 B xw bg br):=by
 obtain ⟨k,hk,hpk⟩:=pk2 on
 have HPick:Hid (∀ wq,Calls Tryz.prog 17 #[.int .i64 on,.int .i64 2] wq fun e w'=>e=.returned (.int .i64 (k:Int))∧w'=wq):=fun wq=>by
  rw [← hpk]
  exact pick_n on 2 hO.on (by decide) wq
 obtain ⟨xo,hxo⟩:∃ xo,w.heap.size=xo:=⟨_,rfl⟩
 obtain ⟨W1,hW1⟩:∃ W1,w.alloc (.cells (opC on 8 nn c s ct sl m1 m2 m3 m4).toArray 50)=W1:=⟨_,rfl⟩
 have HW1:Hid (w.alloc (.cells (opC on 8 nn c s ct sl m1 m2 m3 m4).toArray 50)=W1):=hW1
 have k1:Kp w W1 Nul:=by rw [← hW1];exact (Kp.refl w Nul).alloc _
 have HOp:Hid (Blk W1 xo (opC on 8 nn c s ct sl m1 m2 m3 m4) 50):=by show Blk _ _ _ _;rw [← hW1,← hxo];exact Blk.new w _ _
 have HP:Hid (PlayS W1 B xw bg br g r L K v ys):=hP.nul k1
 have HK:Hid (Kp w0 W1 Nul):=hw.trans k1
 have HO:Hid (OpIn w0 B on nn c s ct sl):=hO
 have HB1:Hid (B≤W1.heap.size):=by show _≤_;have h1:=hP.pp.lo.1;have h2:=HP.out.pp.xs.lt;omega
 have hp:=(hP.pp.nul k1).at'
 obtain ⟨p0,p1⟩:W1.cell? ⟨xw,0,none⟩=some (.slice (some ⟨bg,0,none⟩) 2 2)∧W1.cell? ⟨xw,1,none⟩=some (.slice (some ⟨br,0,none⟩) 2 2):=⟨hp.x0,hp.x1⟩
 have pg:=hp.g k hk
 have pr:=hp.r k hk
 have ho:=opC_at HOp.out
 have o0:=ho.c0
 have o1:=ho.c1
 have o2:=ho.c2
 have o3:=ho.c3
 have o4:=ho.c4
 have hk0:(0:Int)≤(k:Int):=by omega
 have hk2:(k:Int) < 2:=by omega
 have HAt:Hid (∀ wq,Kp W1 wq Nul→OpA wq xo on 8 nn c s ct sl m1 m2 m3 m4):=fun wq q=>opC_at (HOp.out.kp q (fun x=>x))
 generalize (opC on 8 nn c s ct sl m1 m2 m3 m4).toArray=oc at *
 clear hP hO hw hpk hW1 k1 hp ho
 go_enter Tryz.func7,Tryz.ntmps7
 go_upto_region 1 with fail
 rw [HW1.out]
 clear HW1 hxo
 go_wp2_with fail
 refine (HPick.out _).mono ?_
 rintro e w1 ⟨rfl,hz⟩
 replace hz:=hz.symm
 subst hz
 have HR0:Hid (W1.rangeAt xo 0 (opC on 8 nn c s ct sl m1 m2 m3 m4)):=HOp.out.all
 have HWi:Hid (Calls Tryz.prog 33 #[.pointer (some ⟨xw,0,none⟩),.int .i64 (k:Nat),.agg (opC on 8 nn c s ct sl m1 m2 m3 m4).toArray] W1 (StR w0 B xw bg br)):=within17 w0 W1 B xw bg br g r L K v ys k hk on nn c s ct sl m1 m2 m3 m4 HP.out HO.out HK.out
 go_wp2_with (first
  | (refine wpList_load_mid rfl 50 (.tmp 3) rfl xo (0) rfl ((opC on 8 nn c s ct sl m1 m2 m3 m4)) _ HR0.out Tryz.underlying50 rfl infoOp ?_)
  | fail)
 refine HWi.out.mono ?_
 rintro e w2 ⟨rfl,h1,h2⟩
 have HE:Hid (StR w0 B xw bg br (.returned (.bool true)) w2):=⟨rfl,h1,h2⟩
 clear h1 h2 HWi HR0
 go_wp2_with fail
 go_ret
 exact HE.out
theorem step_any (w0 w:World) (B xw bg br:Nat) (g r:Nat→Nat) (L K:Nat→List Cc) (v:Nat→Value) (ys:Nat→List (Cc×Value)) (on kd nn c s:Int) (ct:Ct) (sl:Value) (m1 m2 m3 m4:Int) (hP:PlayS w B xw bg br g r L K v ys) (hO:OpIn w0 B on nn c s ct sl) (hw:Kp w0 w Nul) :
  Calls Tryz.prog 7 #[.pointer (some ⟨xw,0,none⟩),.agg (opC on kd nn c s ct sl m1 m2 m3 m4).toArray] w (StR w0 B xw bg br):=by
 by_cases h:kd < 1∨8 < kd
 ·exact step_none w0 w B xw bg br g r L K v ys on kd nn c s ct sl m1 m2 m3 m4 hP hO hw h
 ·have:kd=1∨kd=2∨kd=3∨kd=4∨kd=5∨kd=6∨kd=7∨kd=8:=by omega
  rcases this with rfl|rfl|rfl|rfl|rfl|rfl|rfl|rfl
  ·exact step_put w0 w B xw bg br g r L K v ys on nn c s ct sl m1 m2 m3 m4 hP hO hw
  ·exact step_get w0 w B xw bg br g r L K v ys on nn c s ct sl m1 m2 m3 m4 hP hO hw
  ·exact step_all w0 w B xw bg br g r L K v ys on nn c s ct sl m1 m2 m3 m4 hP hO hw
  ·exact step_in w0 w B xw bg br g r L K v ys on nn c s ct sl m1 m2 m3 m4 hP hO hw
  ·exact step_clone w0 w B xw bg br g r L K v ys on nn c s ct sl m1 m2 m3 m4 hP hO hw
  ·exact step_equal w0 w B xw bg br g r L K v ys on nn c s ct sl m1 m2 m3 m4 hP hO hw
  ·exact step_there w0 w B xw bg br g r L K v ys on nn c s ct sl m1 m2 m3 m4 hP hO hw
  ·exact step_while w0 w B xw bg br g r L K v ys on nn c s ct sl m1 m2 m3 m4 hP hO hw
structure Ov where
 on:Int
 kd:Int
 nn:Int
 c:Int
 s:Int
 ct:Ct
 sl:Value
 m1:Int
 m2:Int
 m3:Int
 m4:Int
abbrev Ov.cells (o:Ov):List Value:=opC o.on o.kd o.nn o.c o.s o.ct o.sl o.m1 o.m2 o.m3 o.m4
structure OvIn (w:World) (o:Ov):Prop where
 on:I64 o.on
 nn:I64 o.nn
 c:I64 o.c
 s:I64 o.s
 cn:Cn w o.ct o.sl
 tx:Tx o.ct
structure OpsIn (w:World) (v:Value) (xs:List Ov):Prop where
 sl:∃ a c,v=.slice a xs.length c∧(0 < xs.length→∃ b o,a=some ⟨b,o,none⟩∧∀ (i:Nat) y,xs[i]? = some y→w.rangeAt b (o+i * 30) y.cells)
 len:xs.length≤maxLen
 ops:∀ y∈xs,OvIn w y
theorem nil_ptr17 (g:Nat) (w:World):(binOp .eql 25 (.pointer (some ⟨g,0,none⟩)) (.pointer none)).run Tryz.prog w=.ok (.bool false) w:=by
 simp [go_sem]
theorem plays17 (sv:Value) (xs:List Ov) (w:World) (hx:OpsIn w sv xs) (hv:VS w) :
  Calls Tryz.prog 3 #[sv] w fun e w'=>e=.returned (.bool true)∧Kp w w' Nul:=by
 obtain ⟨pa,ca,rfl,hrow⟩:=hx.sl
 obtain ⟨n,hn⟩:∃ n,xs.length=n:=⟨_,rfl⟩
 have hlen:=hx.len
 have HAw:Hid (Calls Tryz.prog 4 #[] w fun e w'=>e=.returned (.bool true)∧Kp w w' Nul):=awake17 w
 have HNew:Hid (∀ wq,Calls Tryz.prog 5 #[] wq fun e w'=>e=.returned (.pointer (some ⟨wq.heap.size,0,none⟩))∧w'=wq.alloc (.cells #[.map none] 68)):=new_at
 have HRow:Hid (0 < n→∃ b o,pa=some ⟨b,o,none⟩∧∀ (i:Nat) y,xs[i]? = some y→∀ wq,Kp w wq Nul→wq.rangeAt b (o+i * 30) y.cells):=fun h=>by
  obtain ⟨b,o,e,hr⟩:=hrow (by omega)
  exact ⟨b,o,e,fun i y hy wq q=>rangeAt_kp (hr i y hy) q (fun x=>x)⟩
 have HOps:Hid (∀ y∈xs,OvIn w y):=hx.ops
 have HV:Hid (VS w):=hv
 have HN:Hid (xs.length=n∧n≤maxLen):=⟨hn,by omega⟩
 rw [hn]
 clear hx hrow hn hlen hv
 go_enter Tryz.func3,Tryz.ntmps3
 go_wp2_with fail
 refine HAw.out.mono ?_
 rintro e w1 ⟨rfl,k1⟩
 have K1:Hid (Kp w w1 Nul):=k1
 clear k1 HAw
 go_wp2_with fail
 refine (HNew.out _).mono ?_
 rintro e w2 ⟨rfl,h2⟩
 go_wp2_with fail
 refine (HNew.out _).mono ?_
 rintro e w3 ⟨rfl,h3⟩
 clear HNew
 obtain ⟨B,hB⟩:∃ B,w1.heap.size=B:=⟨_,rfl⟩
 obtain ⟨g1,hg1⟩:∃ g1,B+1=g1:=⟨_,rfl⟩
 obtain ⟨bg,hbg⟩:∃ bg,g1+1=bg:=⟨_,rfl⟩
 obtain ⟨r0,hr0⟩:∃ r0,bg+1=r0:=⟨_,rfl⟩
 obtain ⟨r1,hr1⟩:∃ r1,r0+1=r1:=⟨_,rfl⟩
 obtain ⟨br,hbr⟩:∃ br,r1+1=br:=⟨_,rfl⟩
 obtain ⟨xw,hxw⟩:∃ xw,br+1=xw:=⟨_,rfl⟩
 obtain ⟨V1,e1⟩:∃ V,w1.alloc (.cells #[.map none] 68)=V:=⟨_,rfl⟩
 have z1:V1.heap.size=g1:=by rw [← e1,World.size_alloc,hB];exact hg1
 have d1:Kp w1 V1 Nul:=by rw [← e1];exact (Kp.refl _ _).alloc _
 have a1:Blk V1 B [.map none] 68:=by rw [← e1,← hB];exact Blk.new _ _ _
 obtain ⟨V2,e2⟩:∃ V,V1.alloc (.cells #[.map none] 68)=V:=⟨_,rfl⟩
 have z2:V2.heap.size=bg:=by rw [← e2,World.size_alloc,z1];exact hbg
 have d2:Kp V1 V2 Nul:=by rw [← e2];exact (Kp.refl _ _).alloc _
 have a2:Blk V2 g1 [.map none] 68:=by rw [← e2,← z1];exact Blk.new _ _ _
 obtain ⟨V3,e3⟩:∃ V,V2.alloc (.cells #[.pointer (some ⟨B,0,none⟩),.pointer (some ⟨g1,0,none⟩)] 25)=V:=⟨_,rfl⟩
 have z3:V3.heap.size=r0:=by rw [← e3,World.size_alloc,z2];exact hr0
 have d3:Kp V2 V3 Nul:=by rw [← e3];exact (Kp.refl _ _).alloc _
 have a3:Blk V3 bg [.pointer (some ⟨B,0,none⟩),.pointer (some ⟨g1,0,none⟩)] 25:=by rw [← e3,← z2];exact Blk.new _ _ _
 obtain ⟨V4,e4⟩:∃ V,V3.alloc (.cells #[.slice none 0 0] 31)=V:=⟨_,rfl⟩
 have z4:V4.heap.size=r1:=by rw [← e4,World.size_alloc,z3];exact hr1
 have d4:Kp V3 V4 Nul:=by rw [← e4];exact (Kp.refl _ _).alloc _
 have a4:Blk V4 r0 [.slice none 0 0] 31:=by rw [← e4,← z3];exact Blk.new _ _ _
 obtain ⟨V5,e5⟩:∃ V,V4.alloc (.cells #[.slice none 0 0] 31)=V:=⟨_,rfl⟩
 have z5:V5.heap.size=br:=by rw [← e5,World.size_alloc,z4];exact hbr
 have d5:Kp V4 V5 Nul:=by rw [← e5];exact (Kp.refl _ _).alloc _
 have a5:Blk V5 r1 [.slice none 0 0] 31:=by rw [← e5,← z4];exact Blk.new _ _ _
 obtain ⟨V6,e6⟩:∃ V,V5.alloc (.cells #[.pointer (some ⟨r0,0,none⟩),.pointer (some ⟨r1,0,none⟩)] 28)=V:=⟨_,rfl⟩
 have z6:V6.heap.size=xw:=by rw [← e6,World.size_alloc,z5];exact hxw
 have d6:Kp V5 V6 Nul:=by rw [← e6];exact (Kp.refl _ _).alloc _
 have a6:Blk V6 br [.pointer (some ⟨r0,0,none⟩),.pointer (some ⟨r1,0,none⟩)] 28:=by rw [← e6,← z5];exact Blk.new _ _ _
 obtain ⟨V7,e7⟩:∃ V,V6.alloc (.cells #[.slice (some ⟨bg,0,none⟩) 2 2,.slice (some ⟨br,0,none⟩) 2 2] 34)=V:=⟨_,rfl⟩
 have d7:Kp V6 V7 Nul:=by rw [← e7];exact (Kp.refl _ _).alloc _
 have a7:Blk V7 xw [.slice (some ⟨bg,0,none⟩) 2 2,.slice (some ⟨br,0,none⟩) 2 2] 34:=by rw [← e7,← z6];exact Blk.new _ _ _
 have b1:=a1.kp ((((((d2).trans d3).trans d4).trans d5).trans d6).trans d7) (fun x=>x)
 have b2:=a2.kp (((((d3).trans d4).trans d5).trans d6).trans d7) (fun x=>x)
 have b3:=a3.kp ((((d4).trans d5).trans d6).trans d7) (fun x=>x)
 have b4:=a4.kp (((d5).trans d6).trans d7) (fun x=>x)
 have b5:=a5.kp ((d6).trans d7) (fun x=>x)
 have b6:=a6.kp (d7) (fun x=>x)
 have b7:=a7
 have c17:Kp w1 V7 Nul:=((((((d1).trans d2).trans d3).trans d4).trans d5).trans d6).trans d7
 have HCH:Hid ((((((((w1).alloc (.cells #[.map none] 68)).alloc (.cells #[.map none] 68)).alloc (.cells #[.pointer (some ⟨B,0,none⟩),.pointer (some ⟨g1,0,none⟩)] 25)).alloc (.cells #[.slice none 0 0] 31)).alloc (.cells #[.slice none 0 0] 31)).alloc (.cells #[.pointer (some ⟨r0,0,none⟩),.pointer (some ⟨r1,0,none⟩)] 28)).alloc (.cells #[.slice (some ⟨bg,0,none⟩) 2 2,.slice (some ⟨br,0,none⟩) 2 2] 34)=V7):=by show _=_;rw [e1,e2,e3,e4,e5,e6,e7]
 have HP0:Hid (PlayS V7 B xw bg br (fun i=>if i=0 then B else g1) (fun i=>if i=0 then r0 else r1) (fun _=>[]) (fun _=>[]) (fun _=>.slice none 0 0) (fun _=>[])):=by
  have two:∀ k,k < 2→k=0∨k=1:=fun k hk=>by omega
  refine ⟨⟨fun k hk=>?_,fun _ _=>Ok17.nil,apart_new (show B≠g1 by omega) b1,fun k hk=>?_,fun k hk m hm=>?_⟩,⟨fun k hk=>?_,show r0≠r1 by omega,fun k hk=>?_⟩,⟨b7,b3,b6,by omega,by omega,by omega⟩,⟨fun _ _=>Al.nil,fun _ _=>rfl,fun _ _ x hx=>by simp at hx⟩⟩
  ·rcases two k hk with rfl|rfl
   ·exact ⟨Nat.zero_le _,.inl ⟨b1,rfl⟩⟩
   ·exact ⟨Nat.zero_le _,.inl ⟨b2,rfl⟩⟩
  ·rcases two k hk with rfl|rfl
   ·exact Nat.le_refl _
   ·show B≤g1;omega
  ·rcases two k hk with rfl|rfl
   ·have h:=b1.symm.trans hm;simp at h
   ·have h:=b2.symm.trans hm;simp at h
  ·rcases two k hk with rfl|rfl
   ·exact ⟨b4,Pts.nil _ _ _⟩
   ·exact ⟨b5,Pts.nil _ _ _⟩
  ·rcases two k hk with rfl|rfl
   ·show B≤r0;omega
   ·show B≤r1;omega
 have HK7:Hid (Kp w V7 Nul):=K1.out.trans c17
 have HLo:Hid (w.heap.size≤B):=by show _≤_;rw [← hB];exact K1.out.size
 have x0:V7.cell? ⟨xw,0,none⟩=some (.slice (some ⟨bg,0,none⟩) 2 2):=b7.cell rfl
 have y0:V7.cell? ⟨bg,0,none⟩=some (.pointer (some ⟨B,0,none⟩)):=b3.cell rfl
 have y1:V7.cell? ⟨bg,1,none⟩=some (.pointer (some ⟨g1,0,none⟩)):=b3.cell rfl
 have hnp:=fun g wq=>nil_ptr17 g wq
 subst h3 h2
 clear e1 d1 a1 z1 e2 d2 a2 z2 e3 d3 a3 z3 e4 d4 a4 z4 e5 d5 a5 z5 e6 d6 a6 z6 e7 d7 a7 b1 b2 b3 b4 b5 b6 b7 c17
 go_upto_region 3 with fail
 rw [HCH.out]
 clear HCH hB hg1 hbg hr0 hr1 hbr hxw
 go_wp2_with fail
 clear x0 y0 y1
 go_loopw [5,6] (fun gv i wr=>∃ (q:Nat) (G:Int),q≤n∧gv=.int .i64 G∧0≤G∧G≤2147483647∧i=.int .i64 q∧(∃ g r L K v ys,PlayS wr B xw bg br g r L K v ys)∧Kp w wr Nul) (fun _ i _=>n - (RowKit.intOf i).toNat)
 case atStart=>exact ⟨0,0,Nat.zero_le _,rfl,by decide,by decide,rfl,⟨_,_,_,_,_,_,HP0.out⟩,HK7.out⟩
 case round=>
  clear HP0 HK7
  obtain ⟨q,G,hq,rfl,hG0,hG1,rfl,⟨g,r,L,K,v,ys,hP⟩,hkr⟩:=hrel
  have HP:Hid (PlayS wr B xw bg br g r L K v ys):=hP
  have HKr:Hid (Kp w wr Nul):=hkr
  clear hP hkr
  by_cases hlt:q < n
  ·have hqn:(q:Int) < (n:Int):=by omega
   have hq0:(0:Int)≤(q:Int):=by omega
   have hqb:(q:Int)+1≤9223372036854775807:=by have h:=HN.out.2;unfold maxLen at h;omega
   have hqx:q < xs.length:=by rw [HN.out.1];exact hlt
   obtain ⟨b,o,rfl,hrow⟩:=HRow.out (by omega)
   obtain ⟨⟨on,kd,nn,c,s,ct,sl,m1,m2,m3,m4⟩,hy⟩:∃ y,xs[q]=y:=⟨_,rfl⟩
   have hy0:xs[q]? = some ⟨on,kd,nn,c,s,ct,sl,m1,m2,m3,m4⟩:=by rw [List.getElem?_eq_getElem hqx,hy]
   have HRq:Hid (wr.rangeAt b (o+q * 30) (opC on kd nn c s ct sl m1 m2 m3 m4)):=hrow q _ hy0 wr HKr.out
   have hov:=HOps.out _ (List.mem_of_getElem? hy0)
   have HOv:Hid (OvIn w ⟨on,kd,nn,c,s,ct,sl,m1,m2,m3,m4⟩):=hov
   have O1:Hid (sl.oneCell'=true):=hov.cn.inn.one
   obtain ⟨xo,hxo⟩:∃ xo,wr.heap.size=xo:=⟨_,rfl⟩
   obtain ⟨W1,hW1⟩:∃ W1,wr.alloc (.cells (opC on kd nn c s ct sl m1 m2 m3 m4).toArray 50)=W1:=⟨_,rfl⟩
   have HW1:Hid (wr.alloc (.cells (opC on kd nn c s ct sl m1 m2 m3 m4).toArray 50)=W1):=hW1
   have kw:Kp wr W1 Nul:=by rw [← hW1];exact (Kp.refl wr Nul).alloc _
   have HOp:Hid (Blk W1 xo (opC on kd nn c s ct sl m1 m2 m3 m4) 50):=by show Blk _ _ _ _;rw [← hW1,← hxo];exact Blk.new wr _ _
   have HP1:Hid (PlayS W1 B xw bg br g r L K v ys):=HP.out.nul kw
   have HK1:Hid (Kp w W1 Nul):=HKr.out.trans kw
   have o8:W1.cell? ⟨xo,8,none⟩=some (.string ct.v.s):=HOp.out.cell rfl
   obtain ⟨Z,hZ⟩:∃ Z:Nat,ct.v.s.size=Z:=⟨_,rfl⟩
   have hZb:Z≤140737488355328:=by rw [← hZ];exact hov.tx.2
   have hz1:G+1≤9223372036854775807:=by omega
   have hz2:G+1+(Z:Int)≤9223372036854775807:=by omega
   have hz0:(0:Int)≤G+1:=by omega
   have HXo:Hid (wr.heap.size=xo):=hxo
   have HZ:Hid (ct.v.s.size=Z):=hZ
   clear hrow hy hy0 hov hW1 kw hqx hxo o8 hZ hz0 hz1 hz2
   go_upto_region 10 with (first
    | (refine wpList_load_mid rfl 50 (.tmp 50) rfl b (o+q * 30) rfl (opC on kd nn c s ct sl m1 m2 m3 m4) _ HRq.out Tryz.underlying50 rfl infoOp ?_)
    | (refine wpList_store_new rfl 50 (.tmp 7) (.tmp 51) rfl _ _ _ _ _ (by first|rfl|simp) rfl rfl rfl infoOp (all_oneCell_toArray (opC_ones on kd nn c s ct m1 m2 m3 m4 O1.out)) ?_)
    | fail)
   rw [HW1.out]
   rw [HXo.out]
   clear HW1 HXo HRq
   have o8:W1.cell? ⟨xo,8,none⟩=some (.string ct.v.s):=HOp.out.cell rfl
   have hZ:ct.v.s.size=Z:=HZ.out
   have hz1:G+1≤9223372036854775807:=by omega
   have hz2:G+1+(Z:Int)≤9223372036854775807:=by omega
   have hz0:(0:Int)≤G+1:=by omega
   have hz3:(0:Int)≤G+1+(Z:Int):=by omega
   go_upto_region 11 with fail
   clear o8 hZ
   by_cases hbd:(2147483647:Int) < G+1+(Z:Int)
   ·go_wp2_with fail
    go_ret
    exact ⟨rfl,HK1.out⟩
   ·have HHv:Hid (Calls Tryz.prog 6 #[.agg (ct.cells sl).toArray] W1 fun e w'=>e=.returned (.bool (decide (1048576 < ct.t.size)))∧Kp W1 w' Nul):=(heavy_at ct sl (fun _=>True) W1 (HOv.out.cn.inn.kp HK1.out (fun _ _ x=>x))).mono fun e w' h=>⟨h.1,Kp.of_gr h.2⟩
    have HR5:Hid (W1.rangeAt xo 5 (ct.cells sl)):=(opC_at HOp.out).ct
    by_cases hhv:1048576 < ct.t.size
    ·rw [decide_eq_true hhv] at HHv
     go_wp2_with (first
      | (refine wpList_load_midG rfl 46 (.tmp 63) rfl xo (5) rfl (ct.cells sl) _ HR5.out Tryz.underlying46 rfl infoContent ?_)
      | fail)
     refine HHv.out.mono ?_
     rintro e W2 ⟨rfl,k2⟩
     have HE:Hid (Kp w W2 Nul):=HK1.out.trans k2
     clear k2 HHv
     go_wp2_with fail
     go_ret
     exact ⟨rfl,HE.out⟩
    ·rw [decide_eq_false hhv] at HHv
     have HSz:Hid (ct.t.size≤1048576):=by show _≤_;omega
     go_wp2_with (first
      | (refine wpList_load_midG rfl 46 (.tmp 63) rfl xo (5) rfl (ct.cells sl) _ HR5.out Tryz.underlying46 rfl infoContent ?_)
      | fail)
     refine HHv.out.mono ?_
     rintro e W2 ⟨rfl,k2⟩
     have HP2:Hid (PlayS W2 B xw bg br g r L K v ys):=HP1.out.nul k2
     have HK2:Hid (Kp w W2 Nul):=HK1.out.trans k2
     have HRo:Hid (W2.rangeAt xo 0 (opC on kd nn c s ct sl m1 m2 m3 m4)):=(HOp.out.kp k2 (fun x=>x)).all
     have HSt:Hid (Calls Tryz.prog 7 #[.pointer (some ⟨xw,0,none⟩),.agg (opC on kd nn c s ct sl m1 m2 m3 m4).toArray] W2 (StR w B xw bg br)):=step_any w W2 B xw bg br g r L K v ys on kd nn c s ct sl m1 m2 m3 m4 HP2.out ⟨HOv.out.on,HOv.out.nn,HOv.out.c,HOv.out.s,HOv.out.cn.ok,HOv.out.cn.vx,HOv.out.cn.inn,HOv.out.tx,HSz.out,HV.out,HLo.out⟩ HK2.out
     clear k2 HHv hhv HR5
     go_wp2_with (first
      | (refine wpList_load_mid rfl 50 (.tmp 7) rfl xo (0) rfl (opC on kd nn c s ct sl m1 m2 m3 m4) _ HRo.out Tryz.underlying50 rfl infoOp ?_)
      | fail)
     refine HSt.out.mono ?_
     rintro e W3 ⟨rfl,h1,h2⟩
     have HE:Hid ((∃ g r L K v ys,PlayS W3 B xw bg br g r L K v ys)∧Kp w W3 Nul):=⟨h1,h2⟩
     clear h1 h2 HSt HRo
     go_wp2_with fail
     go_roundw
     case rel=>exact ⟨q+1,G+1+(Z:Int),by omega,rfl,hz3,by omega,by go_num,HE.out⟩
     case measure=>simp only [RowKit.intOf];omega
  ·have hqe:q=n:=by omega
   subst hqe
   have hqn:¬ ((q:Int) < (q:Int)):=by omega
   go_wp2_with fail
   generalize wr=w9 at *
   go_loopw [9] (fun i wz=>∃ j:Nat,j≤2∧i=.int .i64 j∧Kp w9 wz Nul) (fun i _=>2 - (RowKit.intOf i).toNat)
   case atStart=>exact ⟨0,by omega,rfl,Kp.refl _ _⟩
   case round=>
    obtain ⟨j,hj,rfl,hk9⟩:=hrel
    have HK9:Hid (Kp w9 wr Nul):=hk9
    have HPr:Hid (PlayS wr B xw bg br g r L K v ys):=HP.out.nul hk9
    clear hk9
    by_cases hj2:j < 2
    ·have hj0:(0:Int)≤(j:Int):=by omega
     have hj3:(j:Int) < 2:=by omega
     have hjb:(j:Int)+1≤9223372036854775807:=by omega
     have HQ:Hid ((0:Int)≤(j:Int)∧(j:Int) < 2):=⟨hj0,hj3⟩
     have HPa:Hid (∀ wq,Kp wr wq Nul→PPa wq xw bg br g r):=fun wq k=>(HPr.out.pp.nul k).at'
     obtain ⟨pp,cp,hvj,_⟩:=(HPr.out.dd.dg j hj2).pts.slice
     obtain ⟨n5,hn5⟩:∃ n5,(ys j).length=n5:=⟨_,rfl⟩
     rw [hn5] at hvj
     have HDj:Hid (∀ wq,Kp wr wq Nul→DG wq B (r j) (.slice pp n5 cp) (ys j)):=fun wq k=>by
      have h:=(HPr.out.dd.dg j hj2).kp k
      rw [hvj] at h
      exact h
     have HRc:Hid (∀ wq,Kp wr wq Nul→wq.cell? ⟨r j,0,none⟩=some (.slice pp n5 cp)):=fun wq k=>(HDj.out wq k).box.cell rfl
     have HAll:Hid (∀ wq,Calls Tryz.prog 9 #[.pointer (some ⟨g j,0,none⟩)] wq fun e w'=>∃ x0 x1,e=.returned (.func (.func 47) #[] #[.pointer (some ⟨x0,0,none⟩),.pointer (some ⟨x1,0,none⟩)])∧Blk w' x0 [.pointer (some ⟨g j,0,none⟩)] 25∧Blk w' x1 [.int .i64 1,.int .i64 1,.int .i64 256,.int .i64 4096] 48∧Kp wq w' Nul):=fun wq=>all_at (g j) wq
     have HTold:Hid (∀ x0 x1 wq,Kp wr wq Nul→Blk wq x0 [.pointer (some ⟨g j,0,none⟩)] 25→Blk wq x1 [.int .i64 1,.int .i64 1,.int .i64 256,.int .i64 4096] 48→Calls Tryz.prog 8 #[.func (.func 47) #[] #[.pointer (some ⟨x0,0,none⟩),.pointer (some ⟨x1,0,none⟩)],.slice pp n5 cp,.int .i64 0] wq fun e w'=>e=.returned (.bool true)∧Kp wq w' Nul):=fun x0 x1 wq k h0 h1=>
      told_at (g j) x0 x1 1 1 256 4096 (L j) _ (K j) rfl wq ((HPr.out.gg.g0 hj2).kp k) (HPr.out.gg.ok j hj2) (HPr.out.kk.al j hj2).st (fun x=>((HPr.out.kk.al j hj2).mem x).trans (inL_all (HPr.out.gg.ok j hj2) x).symm) h0 h1 B _ _ (HDj.out wq k).pts (HPr.out.kk.ks j hj2) 0
     clear hvj hn5
     go_upto_region 19 with fail
     refine wp_region_noPanic ?_
     refine wp_region_hel (fun w':World=>Kp wr w' Nul) (by kernel_rfl) ((Kp.refl _ _).drew) (fun hHeld=>?_)
     refine wpH_takes (i:=0) (v:=.pointer (some ⟨xw,0,none⟩)) (some 76) rfl rfl (by kernel_rfl) (by kernel_rfl) (by kernel_rfl) (fun _ _ _ h=>h) (Or.inl ⟨by rfl,?_⟩) hHeld ?_
     ·intro w' hSw;clear hSw;go_simp
     simp only [Act.put,List.setIfInBounds_toArray,List.set_cons_zero,List.set_cons_succ]
     refine wpH_takes (i:=1) (v:=.pointer (some ⟨xw,0,none⟩)) (some 77) rfl rfl (by kernel_rfl) (by kernel_rfl) (by kernel_rfl) (fun _ _ _ h=>h) (Or.inl ⟨by rfl,?_⟩) hHeld ?_
     ·intro w' hSw;clear hSw;go_simp
     simp only [Act.put,List.setIfInBounds_toArray,List.set_cons_zero,List.set_cons_succ]
     refine wpH_takes (i:=2) (v:=.pointer (some ⟨xw,0,none⟩)) (some 78) rfl rfl (by kernel_rfl) (by kernel_rfl) (by kernel_rfl) (fun _ _ _ h=>h) (Or.inl ⟨by rfl,?_⟩) hHeld ?_
     ·intro w' hSw;clear hSw;go_simp
     simp only [Act.put,List.setIfInBounds_toArray,List.set_cons_zero,List.set_cons_succ]
     refine wpH_takes (i:=3) (v:=.slice (some ⟨bg,0,none⟩) 2 2) (some 79) rfl rfl (by kernel_rfl) (by kernel_rfl) (by kernel_rfl) (fun _ _ _ h=>h) (Or.inl ⟨by rfl,?_⟩) hHeld ?_
     ·intro w' hSw;have s0:=(HPa.out w' hSw).x0;clear hSw;go_simp
     simp only [Act.put,List.setIfInBounds_toArray,List.set_cons_zero,List.set_cons_succ]
     refine wpH_takes (i:=4) (v:=.int .i64 (j:Nat)) (some 80) rfl rfl (by kernel_rfl) (by kernel_rfl) (by kernel_rfl) (fun _ _ _ h=>h) (Or.inl ⟨by rfl,?_⟩) hHeld ?_
     ·intro w' hSw;clear hSw;go_simp
     simp only [Act.put,List.setIfInBounds_toArray,List.set_cons_zero,List.set_cons_succ]
     refine wpH_takes (i:=5) (v:=.pointer (some ⟨bg,j,none⟩)) (some 81) rfl rfl (by kernel_rfl) (by kernel_rfl) (by kernel_rfl) (fun _ _ _ h=>h) (Or.inl ⟨by rfl,?_⟩) hHeld ?_
     ·intro w' hSw;have s0:=HQ.out.1;have s1:=HQ.out.2;clear hSw;go_simp
     simp only [Act.put,List.setIfInBounds_toArray,List.set_cons_zero,List.set_cons_succ]
     refine wpH_takes (i:=6) (v:=.pointer (some ⟨g j,0,none⟩)) (some 82) rfl rfl (by kernel_rfl) (by kernel_rfl) (by kernel_rfl) (fun _ _ _ h=>h) (Or.inl ⟨by rfl,?_⟩) hHeld ?_
     ·intro w' hSw;have s0:=(HPa.out w' hSw).g j hj2;clear hSw;go_simp
     simp only [Act.put,List.setIfInBounds_toArray,List.set_cons_zero,List.set_cons_succ]
     refine wpH_takes (i:=8) (v:=.pointer (some ⟨xw,0,none⟩)) (some 84) rfl rfl (by kernel_rfl) (by kernel_rfl) (by kernel_rfl) (fun _ _ _ h=>h) (Or.inl ⟨by rfl,?_⟩) hHeld ?_
     ·intro w' hSw;clear hSw;go_simp
     simp only [Act.put,List.setIfInBounds_toArray,List.set_cons_zero,List.set_cons_succ]
     refine wpH_takes (i:=9) (v:=.pointer (some ⟨xw,0,none⟩)) (some 85) rfl rfl (by kernel_rfl) (by kernel_rfl) (by kernel_rfl) (fun _ _ _ h=>h) (Or.inl ⟨by rfl,?_⟩) hHeld ?_
     ·intro w' hSw;clear hSw;go_simp
     simp only [Act.put,List.setIfInBounds_toArray,List.set_cons_zero,List.set_cons_succ]
     refine wpH_takes (i:=10) (v:=.pointer (some ⟨xw,1,none⟩)) (some 86) rfl rfl (by kernel_rfl) (by kernel_rfl) (by kernel_rfl) (fun _ _ _ h=>h) (Or.inl ⟨by rfl,?_⟩) hHeld ?_
     ·intro w' hSw;clear hSw;go_simp
     simp only [Act.put,List.setIfInBounds_toArray,List.set_cons_zero,List.set_cons_succ]
     refine wpH_takes (i:=11) (v:=.slice (some ⟨br,0,none⟩) 2 2) (some 87) rfl rfl (by kernel_rfl) (by kernel_rfl) (by kernel_rfl) (fun _ _ _ h=>h) (Or.inl ⟨by rfl,?_⟩) hHeld ?_
     ·intro w' hSw;have s0:=(HPa.out w' hSw).x1;clear hSw;go_simp
     simp only [Act.put,List.setIfInBounds_toArray,List.set_cons_zero,List.set_cons_succ]
     refine wpH_takes (i:=12) (v:=.int .i64 (j:Nat)) (some 88) rfl rfl (by kernel_rfl) (by kernel_rfl) (by kernel_rfl) (fun _ _ _ h=>h) (Or.inl ⟨by rfl,?_⟩) hHeld ?_
     ·intro w' hSw;clear hSw;go_simp
     simp only [Act.put,List.setIfInBounds_toArray,List.set_cons_zero,List.set_cons_succ]
     refine wpH_takes (i:=13) (v:=.pointer (some ⟨br,j,none⟩)) (some 89) rfl rfl (by kernel_rfl) (by kernel_rfl) (by kernel_rfl) (fun _ _ _ h=>h) (Or.inl ⟨by rfl,?_⟩) hHeld ?_
     ·intro w' hSw;have s0:=HQ.out.1;have s1:=HQ.out.2;clear hSw;go_simp
     simp only [Act.put,List.setIfInBounds_toArray,List.set_cons_zero,List.set_cons_succ]
     refine wpH_takes (i:=14) (v:=.pointer (some ⟨r j,0,none⟩)) (some 90) rfl rfl (by kernel_rfl) (by kernel_rfl) (by kernel_rfl) (fun _ _ _ h=>h) (Or.inl ⟨by rfl,?_⟩) hHeld ?_
     ·intro w' hSw;have s0:=(HPa.out w' hSw).r j hj2;clear hSw;go_simp
     simp only [Act.put,List.setIfInBounds_toArray,List.set_cons_zero,List.set_cons_succ]
     refine wpH_takes (i:=15) (v:=.pointer (some ⟨r j,0,none⟩)) (some 91) rfl rfl (by kernel_rfl) (by kernel_rfl) (by kernel_rfl) (fun _ _ _ h=>h) (Or.inl ⟨by rfl,?_⟩) hHeld ?_
     ·intro w' hSw;clear hSw;go_simp
     simp only [Act.put,List.setIfInBounds_toArray,List.set_cons_zero,List.set_cons_succ]
     refine wpH_takes (i:=16) (v:=.pointer (some ⟨r j,0,none⟩)) (some 92) rfl rfl (by kernel_rfl) (by kernel_rfl) (by kernel_rfl) (fun _ _ _ h=>h) (Or.inl ⟨by rfl,?_⟩) hHeld ?_
     ·intro w' hSw;clear hSw;go_simp
     simp only [Act.put,List.setIfInBounds_toArray,List.set_cons_zero,List.set_cons_succ]
     refine wpH_takes (i:=17) (v:=.slice pp n5 cp) (some 93) rfl rfl (by kernel_rfl) (by kernel_rfl) (by kernel_rfl) (fun _ _ _ h=>h) (Or.inl ⟨by rfl,?_⟩) hHeld ?_
     ·intro w' hSw;have s0:=HRc.out w' hSw;clear hSw;go_simp
     simp only [Act.put,List.setIfInBounds_toArray,List.set_cons_zero,List.set_cons_succ]
     refine wpH_step (i:=7) (by kernel_rfl) rfl rfl (fun KK hKK=>?_)
     go_simp
     refine (HAll.out _).mono ?_
     rintro e wa ⟨x0,x1,rfl,hb0,hb1,ka⟩
     have KA:Hid (Kp wr wa Nul):=((Kp.refl wr Nul).drew).trans ka
     have HX:Hid (Blk wa x0 [.pointer (some ⟨g j,0,none⟩)] 25∧Blk wa x1 [.int .i64 1,.int .i64 1,.int .i64 256,.int .i64 4096] 48):=⟨hb0,hb1⟩
     refine hKK.out _ _ KA.out (fun hHeld=>?_)
     clear hKK KK ka hb0 hb1
     (try simp only [Act.put,List.setIfInBounds_toArray,List.set_cons_zero,List.set_cons_succ])
     refine wpH_step (i:=18) (by kernel_rfl) rfl rfl (fun KK hKK=>?_)
     go_simp
     refine (HTold.out x0 x1 wa KA.out HX.out.1 HX.out.2).mono ?_
     rintro e wb ⟨rfl,kb⟩
     have KB:Hid (Kp wr wb Nul):=KA.out.trans kb
     refine hKK.out _ _ KB.out (fun hHeld=>?_)
     clear hKK KK kb
     (try simp only [Act.put,List.setIfInBounds_toArray,List.set_cons_zero,List.set_cons_succ])
     refine wpH_takes (i:=19) (v:=.bool true) (some 10) rfl rfl (by kernel_rfl) (by kernel_rfl) (by kernel_rfl) (fun _ _ _ h=>h) (Or.inl ⟨by rfl,?_⟩) hHeld ?_
     ·intro w' hSw;clear hSw;go_simp
     simp only [Act.put,List.setIfInBounds_toArray,List.set_cons_zero,List.set_cons_succ]
     refine wpAnyH_done (by kernel_rfl) ?_ _
     refine NoPanic.normal ?_
     clear hHeld HX
     have HKb:Hid (Kp w9 wb Nul):=HK9.out.trans KB.out
     go_wp2_with fail
     go_roundw
     case rel=>exact ⟨j+1,by omega,by go_num,HKb.out⟩
     case measure=>simp only [RowKit.intOf];omega
    ·have hje:j=2:=by omega
     subst hje
     have HE:Hid (Kp w wr Nul):=HKr.out.trans HK9.out
     go_wp2_with fail
     go_ret
     exact ⟨rfl,HE.out⟩
end Go.Proofs.YtlppcfeakakpfaaGreatDoor
