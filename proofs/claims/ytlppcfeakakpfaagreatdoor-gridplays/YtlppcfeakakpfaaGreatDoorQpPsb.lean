/- GridPlays: any step. By wip/gen_psb.py. GridPlays: the law. By wip/gen_psc.py. -/
import Derived.Test.YtlppcfeakakpfaaGreatDoorQpPsa
set_option maxRecDepth 20000
set_option maxHeartbeats 16000000
namespace Go.Proofs.YtlppcfeakakpfaaGreatDoor
open Go.RowKit Go.Maps Go.Sort Go.Lib Go.Shelf
theorem infoOp:(Tryz.prog.info? 50).map (·.size)=some 30:=by kernel_rfl
theorem step_while (w0 w:World) (B xw bg br:Nat) (g r:Nat→Nat) (L K:Nat→List Cc) (v:Nat→Value) (ys:Nat→List (Cc×Value)) (on nn c s:Int) (ct:Ct) (sl:Value) (m1 m2 m3 m4:Int) (hP:PlayS w B xw bg br g r L K v ys) (hO:OpIn w0 B on nn c s ct sl) (hw:Kp w0 w Nul) :
  Calls Tryz.prog 7 #[.pointer (some ⟨xw,0,none⟩),.agg (opC on 8 nn c s ct sl m1 m2 m3 m4).toArray] w (StR w0 B xw bg br):=by
 obtain ⟨k,hk,hpk⟩:=pk2 on
 have HPick:Hid (∀ wq,Calls Tryz.prog 17 #[.int .i64 on,.int .i64 2] wq fun e w'=>e=.returned (.int .i64 (k:Int))∧w'=wq):=fun wq=>by
  rw [← hpk]
  exact pick_n on 2 hO.on (by decide) wq
 obtain ⟨xo,hxo⟩:∃ xo,w.heap.size=xo:=⟨_,rfl⟩
 obtain ⟨W1,hW1⟩:∃ W1,w.alloc (.cells (opC on 8 nn c s ct sl m1 m2 m3 m4).toArray 50)=W1:=⟨_,rfl⟩
 have HW1:Hid (w.alloc (.cells (opC on 8 nn c s ct sl m1 m2 m3 m4).toArray 50)=W1):=hW1
 have k1:Kp w W1 Nul:=by rw [← hW1];exact (Kp.refl w Nul).alloc _
 have HOp:Hid (Blk W1 xo (opC on 8 nn c s ct sl m1 m2 m3 m4) 50):=by show Blk _ _ _ _;rw [← hW1,← hxo];exact Blk.new w _ _
 have HP:Hid (PlayS W1 B xw bg br g r L K v ys):=hP.nul k1
 have HK:Hid (Kp w0 W1 Nul):=hw.trans k1
 have HO:Hid (OpIn w0 B on nn c s ct sl):=hO
 have HB1:Hid (B≤W1.heap.size):=by show _≤_;have h1:=hP.pp.lo.1;have h2:=HP.out.pp.xs.lt;omega
 have hp:=(hP.pp.nul k1).at'
 obtain ⟨p0,p1⟩:W1.cell? ⟨xw,0,none⟩=some (.slice (some ⟨bg,0,none⟩) 2 2)∧W1.cell? ⟨xw,1,none⟩=some (.slice (some ⟨br,0,none⟩) 2 2):=⟨hp.x0,hp.x1⟩
 have pg:=hp.g k hk
 have pr:=hp.r k hk
 have ho:=opC_at HOp.out
 have o0:=ho.c0
 have o1:=ho.c1
 have o2:=ho.c2
 have o3:=ho.c3
 have o4:=ho.c4
 have hk0:(0:Int)≤(k:Int):=by omega
 have hk2:(k:Int) < 2:=by omega
 have HAt:Hid (∀ wq,Kp W1 wq Nul→OpA wq xo on 8 nn c s ct sl m1 m2 m3 m4):=fun wq q=>opC_at (HOp.out.kp q (fun x=>x))
 generalize (opC on 8 nn c s ct sl m1 m2 m3 m4).toArray=oc at *
 clear hP hO hw hpk hW1 k1 hp ho
 go_enter Tryz.func7,Tryz.ntmps7
 go_upto_region 1 with fail
 rw [HW1.out]
 clear HW1 hxo
 go_wp2_with fail
 refine (HPick.out _).mono ?_
 rintro e w1 ⟨rfl,hz⟩
 replace hz:=hz.symm
 subst hz
 have HR0:Hid (W1.rangeAt xo 0 (opC on 8 nn c s ct sl m1 m2 m3 m4)):=HOp.out.all
 have HWi:Hid (Calls Tryz.prog 33 #[.pointer (some ⟨xw,0,none⟩),.int .i64 (k:Nat),.agg (opC on 8 nn c s ct sl m1 m2 m3 m4).toArray] W1 (StR w0 B xw bg br)):=within17 w0 W1 B xw bg br g r L K v ys k hk on nn c s ct sl m1 m2 m3 m4 HP.out HO.out HK.out
 go_wp2_with (first
  | (refine wpList_load_mid rfl 50 (.tmp 3) rfl xo (0) rfl ((opC on 8 nn c s ct sl m1 m2 m3 m4)) _ HR0.out Tryz.underlying50 rfl infoOp ?_)
  | fail)
 refine HWi.out.mono ?_
 rintro e w2 ⟨rfl,h1,h2⟩
 have HE:Hid (StR w0 B xw bg br (.returned (.bool true)) w2):=⟨rfl,h1,h2⟩
 clear h1 h2 HWi HR0
 go_wp2_with fail
 go_ret
 exact HE.out
structure Ov where
 on:Int
 kd:Int
 nn:Int
 c:Int
 s:Int
 ct:Ct
 sl:Value
 m1:Int
 m2:Int
 m3:Int
 m4:Int
abbrev Ov.cells (o:Ov):List Value:=opC o.on o.kd o.nn o.c o.s o.ct o.sl o.m1 o.m2 o.m3 o.m4
structure OvIn (w:World) (o:Ov):Prop where
 on:I64 o.on
 nn:I64 o.nn
 c:I64 o.c
 s:I64 o.s
 cn:Cn w o.ct o.sl
 tx:Tx o.ct
structure OpsIn (w:World) (v:Value) (xs:List Ov):Prop where
 sl:∃ a c,v=.slice a xs.length c∧(0 < xs.length→∃ b o,a=some ⟨b,o,none⟩∧∀ (i:Nat) y,xs[i]? = some y→w.rangeAt b (o+i * 30) y.cells)
 len:xs.length≤maxLen
 ops:∀ y∈xs,OvIn w y
theorem nil_ptr17 (g:Nat) (w:World):(binOp .eql 25 (.pointer (some ⟨g,0,none⟩)) (.pointer none)).run Tryz.prog w=.ok (.bool false) w:=by
 simp [go_sem]
end Go.Proofs.YtlppcfeakakpfaaGreatDoor
