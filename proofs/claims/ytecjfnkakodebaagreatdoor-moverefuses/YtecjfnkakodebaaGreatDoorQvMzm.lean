/- Copy, Fill: Put of what stood in a grid; putCopy, whatever stood there. move.Copy, all of it. By wip/gen_mzn.py. -/
import Derived.Test.YtecjfnkakodebaaGreatDoorQvMzk
import Derived.Test.YtecjfnkakodebaaGreatDoorQvMze
import Derived.Test.YtecjfnkakodebaaGreatDoorQvMyf
set_option maxRecDepth 20000
set_option maxHeartbeats 8000000
namespace Go.Proofs.YtecjfnkakodebaaGreatDoor
open Go.RowKit Go.Maps
structure PcR (M:List Cc) (p:Int×Int) (a:Ct) (er:Int) (M':List Cc):Prop where
 yes:roomB M p=true→er=0∧M'=putL M p a
 no:¬ roomB M p=true→er=41∧M'=M
theorem put_pc (G:Nat→Prop) (g:Nat) (c s:Int) (a:Ct) (sl:Value) (F:Nat→Prop) (M:List Cc) (w:World) (hG:GridIn w G g M) (hnew:∀ i,w.heap.size≤i→G i) (hM:Ok17 M) (ha:Gd a) (hv:vC c s=true) (hin:NdIn w F sl a.t) (U:VS w) :
  Calls Tryz.prog 11 #[.pointer (some ⟨g,0,none⟩),.agg #[.int .i64 c,.int .i64 s],a.val sl] w fun e w'=>∃ er,e=.returned (.int .i64 er)∧∃ M',GridIn w' G g M'∧PcR M (c,s) a er M'∧Km g w w':=by
 have h:GI 0 w g M:=GridIn.mono hG (fun _ _=>Nat.zero_le _)
 obtain ⟨mv,bg⟩:=h.blk
 have hval:∀ wq,Kp w wq Nul→Calls Tryz.prog 43 #[a.val sl] wq fun e w'=>e=.returned (.bool true)∧Kp wq w' Nul:=fun wq k=>by
  have:=gv_at a sl F wq ha.ok (hin.kp k (fun _ _ x=>x)) (U.kp k)
  rw [ha.val] at this
  exact this
 have hcp:∀ wq,Kp w wq Nul→Calls Tryz.prog 47 #[a.val sl] wq fun e w'=>∃ sl' fp,e=.returned ((cpC a).val sl')∧Own w' wq.heap.size sl' (cpC a).t fp∧Kp wq w' Nul:=fun wq k=>(gCopy_at a sl F wq ha.x ha.size ha.ok (hin.kp k (fun _ _ x=>x))).mono (by
  rintro e w' ⟨sl',fp,h1,h2,h3⟩
  exact ⟨sl',fp,h1,h2,Kp.of_below h3⟩)
 by_cases hr:roomB M (c,s)=true
 ·refine (put_m G g c s hv a ha.k sl M w h hG hnew hM.len (roomB_iff.1 hr) hval hcp).mono ?_
  rintro e w' ⟨rfl,h1,h2⟩
  rw [ha.cp] at h1
  exact ⟨_,rfl,_,h1,⟨fun _=>⟨rfl,rfl⟩,fun e=>absurd hr e⟩,h2⟩
 ·have hn:=fun q=>hr (roomB_iff.2 q)
  refine (put_full 0 g c s hv a ha.k sl M w h (by
   have:¬ M.length < 4096:=fun q=>hn (.inl q)
   omega) (fun c' hc=>hn (.inr ⟨c',hc⟩)) hval).mono ?_
  rintro e w' ⟨rfl,k⟩
  exact ⟨_,rfl,_,hG.kp k,⟨fun e=>absurd e hr,fun _=>⟨rfl,rfl⟩⟩,Km.of_nul k bg.lt⟩
theorem putCopy_form (g:Nat) (c s t1 t2 d1 d2:Int) (p1 p2 p3 p4 p5:Value) (cs:List Value) (cs':Value→List Value) (h15:cs.length=15) (h15':∀ v,(cs' v).length=15) (Q:Value→World→Prop) (R:Int→World→Prop) (w:World)
  (hd1:wrap64 (c - t1)=d1) (hd2:wrap64 (s - t2)=d2) (hone:∀ v w',Q v w'→(cs' v).toArray.all (·.oneCell')=true)
  (HS:Hid (∀ wq,Kp w wq Nul→w.heap.size+1 < wq.heap.size→Calls Tryz.prog 99 #[.agg cs.toArray,.int .i64 d1,.int .i64 d2] wq fun e w'=>∃ v,e=.returned (.tuple #[.agg (cs' v).toArray,.int .i64 0])∧Q v w'∧Kp wq w' Nul))
  (HP:Hid (∀ v wq wr,Q v wq→Kp w wq Nul→Kp wq wr (fun i=>i=w.heap.size+1)→Calls Tryz.prog 11 #[.pointer (some ⟨g,0,none⟩),.agg #[.int .i64 c,.int .i64 s],.agg (Value.int .i64 2 :: p1 :: p2 :: p3 :: p4 :: p5 :: cs' v).toArray] wr fun e w'=>∃ er,e=.returned (.int .i64 er)∧R er w')) :
  Calls Tryz.prog 55 #[.pointer (some ⟨g,0,none⟩),.agg #[.int .i64 c,.int .i64 s],.agg (Value.int .i64 2 :: p1 :: p2 :: p3 :: p4 :: p5 :: cs).toArray,.agg #[.int .i64 t1,.int .i64 t2]] w fun e w'=>∃ er,e=.returned (.int .i64 er)∧R er w':=by
 obtain ⟨W,hW⟩:∃ W,((w.alloc (.cells #[.int .i64 c,.int .i64 s] 32)).alloc (.cells (Value.int .i64 2 :: p1 :: p2 :: p3 :: p4 :: p5 :: cs).toArray 50)).alloc (.cells #[.int .i64 t1,.int .i64 t2] 32)=W:=⟨_,rfl⟩
 have HW:Hid (((w.alloc (.cells #[.int .i64 c,.int .i64 s] 32)).alloc (.cells (Value.int .i64 2 :: p1 :: p2 :: p3 :: p4 :: p5 :: cs).toArray 50)).alloc (.cells #[.int .i64 t1,.int .i64 t2] 32)=W):=hW
 have kW:Hid (Kp w W Nul):=by show Kp _ _ _;rw [← hW];exact (((Kp.refl w Nul).alloc _).alloc _).alloc _
 have b0:Hid (Blk W w.heap.size [.int .i64 c,.int .i64 s] 32):=by show Blk _ _ _ _;rw [← hW];exact ((Blk.new w [.int .i64 c,.int .i64 s] _).alloc _).alloc _
 have b1:Hid (Blk W (w.heap.size+1) (Value.int .i64 2 :: p1 :: p2 :: p3 :: p4 :: p5 :: cs) 50):=by show Blk _ _ _ _;rw [← hW];exact (blkS (by simp) (Value.int .i64 2 :: p1 :: p2 :: p3 :: p4 :: p5 :: cs) _).alloc _
 have b2:Hid (Blk W (w.heap.size+1+1) [.int .i64 t1,.int .i64 t2] 32):=by show Blk _ _ _ _;rw [← hW];exact blkS (by simp) [.int .i64 t1,.int .i64 t2] _
 have HR:Hid (W.rangeAt (w.heap.size+1) 6 cs):=rangeAt_mid (pre:=[Value.int .i64 2,p1,p2,p3,p4,p5]) (l:=cs) (post:=[]) (t:=50) (fr:=(0,0)) (by rw [List.append_nil];exact b1.out)
 have HI:Hid ((Tryz.prog.info? 48).map (·.size)=some cs.length):=by show _=_;rw [infoNode,h15]
 have HIv:Hid (∀ v,(Tryz.prog.info? 48).map (·.size)=some (cs' v).length):=fun v=>by rw [infoNode,h15']
 have HIc:Hid (∀ v,(Tryz.prog.info? 50).map (·.size)=some (Value.int .i64 2 :: p1 :: p2 :: p3 :: p4 :: p5 :: cs' v).length):=fun v=>by rw [infoContent];simp [h15' v]
 have HL:Hid (∀ v,cs.length=(cs' v).length):=fun v=>by rw [h15,h15']
 have HOne:Hid (∀ v w',Q v w'→(cs' v).toArray.all (·.oneCell')=true):=hone
 have c0:W.cell? ⟨w.heap.size+1,0,none⟩=some (.int .i64 2):=b1.out.cell rfl
 have a0:W.cell? ⟨w.heap.size,0,none⟩=some (.int .i64 c):=b0.out.cell rfl
 have a1:W.cell? ⟨w.heap.size,1,none⟩=some (.int .i64 s):=b0.out.cell rfl
 have e0:W.cell? ⟨w.heap.size+1+1,0,none⟩=some (.int .i64 t1):=b2.out.cell rfl
 have e1:W.cell? ⟨w.heap.size+1+1,1,none⟩=some (.int .i64 t2):=b2.out.cell rfl
 clear hW h15 h15' hone
 go_enter Tryz.func55,Tryz.ntmps55
 go_wp2_with (first
  | (rw [HW.out])
  | (refine wpList_load_mid rfl 48 (.tmp 13) rfl (w.heap.size+1) 6 rfl cs _ HR.out Tryz.underlying48 rfl HI.out ?_)
  | fail)
 refine (HS.out W kW.out (Nat.lt_trans (Nat.lt_succ_self _) b2.out.lt)).mono ?_
 rintro e w1 ⟨v,rfl,hq,hk⟩
 have K1:Hid (Kp W w1 Nul):=hk
 have HQ:Hid (Q v w1):=hq
 have B1:Hid (Blk w1 (w.heap.size+1) ([Value.int .i64 2,p1,p2,p3,p4,p5] ++ cs ++ []) 50):=by show Blk _ _ _ _;rw [List.append_nil];exact b1.out.kp hk (fun x=>x)
 have B0:Hid (Blk w1 w.heap.size [.int .i64 c,.int .i64 s] 32):=b0.out.kp hk (fun x=>x)
 have O1:Hid ((cs' v).toArray.all (·.oneCell')=true):=HOne.out v w1 hq
 have HIv':=HIv.out v
 have HIv2:Hid ((Tryz.prog.info? 48).map (·.size)=some (cs' v).length):=HIv'
 have HIc2:Hid ((Tryz.prog.info? 50).map (·.size)=some (Value.int .i64 2 :: p1 :: p2 :: p3 :: p4 :: p5 :: cs' v).length):=HIc.out v
 have HL2:Hid (cs.length=(cs' v).length):=HL.out v
 clear hq hk c0 a0 a1 e0 e1 HIv' HIv HIc HL HR HI HW b0 b1 b2 HOne HS
 obtain ⟨cv,hcv⟩:∃ cv,cs' v=cv:=⟨_,rfl⟩
 have HPv:Hid (∀ wr,Kp w1 wr (fun i=>i=w.heap.size+1)→Calls Tryz.prog 11 #[.pointer (some ⟨g,0,none⟩),.agg #[.int .i64 c,.int .i64 s],.agg (Value.int .i64 2 :: p1 :: p2 :: p3 :: p4 :: p5 :: cv).toArray] wr fun e w'=>∃ er,e=.returned (.int .i64 er)∧R er w'):=fun wr k=>by
  rw [← hcv]
  exact HP.out v w1 wr HQ.out (kW.out.trans K1.out) k
 rw [hcv] at O1 HIv2 HIc2 HL2
 rw [hcv]
 clear hcv HP HQ
 go_wp2_with (first
  | (refine wpList_store_part rfl 48 (.tmp 28) (.tmp 26) rfl (w.heap.size+1) 6 [Value.int .i64 2,p1,p2,p3,p4,p5] cs [] cv _ B1.out rfl HL2.out rfl rfl HIv2.out O1.out ?_;intro X hX kX;rw [List.append_nil] at hX;have HX:Hid (X.rangeAt (w.heap.size+1) 0 (Value.int .i64 2 :: p1 :: p2 :: p3 :: p4 :: p5 :: cv)):=blk_range hX;have KX:Hid (Kp w1 X (fun i=>i=w.heap.size+1)):=kX;have l0:X.cell? ⟨w.heap.size,0,none⟩=some (.int .i64 c):=(B0.out.kp kX (by show ¬ _=_;omega)).cell rfl;have l1:X.cell? ⟨w.heap.size,1,none⟩=some (.int .i64 s):=(B0.out.kp kX (by show ¬ _=_;omega)).cell rfl;clear hX kX)
  | (refine wpList_load_mid rfl 50 (.tmp 6) rfl (w.heap.size+1) 0 rfl (Value.int .i64 2 :: p1 :: p2 :: p3 :: p4 :: p5 :: cv) _ HX.out Tryz.underlying50 rfl HIc2.out ?_)
  | fail)
 refine (HPv.out X KX.out).mono ?_
 rintro e w2 ⟨er,rfl,hr⟩
 have HRr:Hid (R er w2):=hr
 clear hr l0 l1
 go_wp2_with fail
 go_ret
 first
 | exact ⟨er,rfl,HRr.out⟩
 | exact HRr.out
theorem wrap_cells {c s t1 t2:Int} (h:vC c s=true) (h':vC t1 t2=true):wrap64 (c - t1)=c - t1∧wrap64 (s - t2)=s - t2∧I64 (c - t1)∧I64 (s - t2):=by
 rw [vC_iff] at h h'
 unfold wrap64 I64
 omega
theorem cpyC_tree {a:Ct} (h:cpC a=a):cpy a.t=a.t:=congrArg Ct.t h
theorem putCopy_at (G:Nat→Prop) (g:Nat) (c s t1 t2:Int) (a:Ct) (sl:Value) (F:Nat→Prop) (M:List Cc) (w:World) (hG:GridIn w G g M) (hnew:∀ i,w.heap.size≤i→G i) (hM:Ok17 M) (ha:Gd a) (hv:vC c s=true) (ht:vC t1 t2=true) (hin:NdIn w F sl a.t) (U:VS w) :
  Calls Tryz.prog 55 #[.pointer (some ⟨g,0,none⟩),.agg #[.int .i64 c,.int .i64 s],a.val sl,.agg #[.int .i64 t1,.int .i64 t2]] w fun e w'=>∃ er,e=.returned (.int .i64 er)∧∃ M',GridIn w' G g M'∧PcR M (c,s) (hmC (shH (c - t1) (s - t2)) a) er M'∧Km g w w':=by
 obtain ⟨w1,w2,w3,w4⟩:=wrap_cells hv ht
 have hgl:g < w.heap.size:=by
  obtain ⟨mv,bg⟩:=(show GI 0 w g M from GridIn.mono hG (fun _ _=>Nat.zero_le _)).blk
  exact bg.lt
 by_cases hk:a.k=2
 ·have hchk:chk a.t=0:=by
   have h:=ha.val
   unfold gv validC at h
   simp [hk] at h
   exact h.2
  have hgd:Gd (hmC (shH (c - t1) (s - t2)) a):=hmC_gd (shH_ok _ _) ha
  have e2:cpy a.t=a.t:=cpyC_tree ha.cp
  have hS:=fun wq (k:Kp w wq Nul)=>shift_at (c - t1) (s - t2) w3 w4 a.t sl F wq ha.ok (hin.kp k (fun _ _ x=>x)) (U.kp k) hchk
  rw [e2] at hS
  have hval:a.val sl=.agg (Value.int .i64 2 :: .int .i64 a.v.k :: .float .f64 a.v.x :: .string a.v.s :: .bool a.v.b :: .int .i64 a.v.f :: a.t.hd.cells sl).toArray:=by
   rw [← hk]
  rw [hval]
  refine putCopy_form g c s t1 t2 (c - t1) (s - t2) (.int .i64 a.v.k) (.float .f64 a.v.x) (.string a.v.s) (.bool a.v.b) (.int .i64 a.v.f) (a.t.hd.cells sl) (fun v=>(hmN (shH (c - t1) (s - t2)) a.t).hd.cells v) rfl (fun _=>rfl)
   (fun v w'=>∃ (wq:World) (fp:List Nat),w.heap.size≤wq.heap.size∧Own w' wq.heap.size v (hmN (shH (c - t1) (s - t2)) a.t) fp∧w.heap.size+1 < wq.heap.size) (fun er w'=>∃ M',GridIn w' G g M'∧PcR M (c,s) (hmC (shH (c - t1) (s - t2)) a) er M'∧Km g w w') w w1 w2 (fun v w' h=>?_) (fun wq k hsz=>?_) (fun v wq wr hq k1 k2=>?_)
  ·obtain ⟨wq,fp,_,h,_⟩:=h
   exact Hd.one _ h.own.one
  ·refine (hS wq k).mono ?_
   rintro e w' ⟨sl',fp,rfl,h1,h2⟩
   exact ⟨sl',rfl,⟨wq,fp,k.size,h1,hsz⟩,h2⟩
  ·obtain ⟨w0,fp,hle,ho,hlt⟩:=hq
   have kwr:Kp w wr Nul:=k1.trans' k2 (fun i hi e=>by have e':i=w.heap.size+1:=e;omega)
   have hin':NdIn wr (fun _=>True) v (hmN (shH (c - t1) (s - t2)) a.t):=(ho.isIn.kp k2 (fun i hi e=>by have e':i=w.heap.size+1:=e;have h1:=hi.1;omega)).mono (fun b hb hl=>⟨rfl,trivial⟩)
   have e3:(hmC (shH (c - t1) (s - t2)) a).val v=.agg (Value.int .i64 2 :: .int .i64 a.v.k :: .float .f64 a.v.x :: .string a.v.s :: .bool a.v.b :: .int .i64 a.v.f :: (hmN (shH (c - t1) (s - t2)) a.t).hd.cells v).toArray:=by
    rw [← hk];rfl
   rw [← e3]
   refine (put_pc G g c s _ v (fun _=>True) M wr (hG.kp kwr) (fun i hi=>hnew i (Nat.le_trans kwr.size hi)) hM hgd hv hin' (U.kp kwr)).mono ?_
   rintro e w' ⟨er,rfl,M',h1,h2,h3⟩
   exact ⟨er,rfl,M',h1,h2,(Km.of_nul kwr hgl).trans h3⟩
 ·have e1:hmC (shH (c - t1) (s - t2)) a=a:=hmC_plain _ ha.val hk
  rw [e1]
  have hval:a.val sl=.agg (Value.int .i64 a.k :: .int .i64 a.v.k :: .float .f64 a.v.x :: .string a.v.s :: .bool a.v.b :: .int .i64 a.v.f :: a.t.hd.cells sl).toArray:=rfl
  rw [hval]
  refine putCopy_plain g c s t1 t2 a.k _ hk rfl (fun er w'=>∃ M',GridIn w' G g M'∧PcR M (c,s) a er M'∧Km g w w') w (fun wq k=>?_)
  refine (put_pc G g c s a sl F M wq (hG.kp k) (fun i hi=>hnew i (Nat.le_trans k.size hi)) hM ha hv (hin.kp k (fun _ _ x=>x)) (U.kp k)).mono ?_
  rintro e w' ⟨er,rfl,M',h1,h2,h3⟩
  exact ⟨er,rfl,M',h1,h2,(Km.of_nul k hgl).trans h3⟩
end Go.Proofs.YtecjfnkakodebaaGreatDoor
namespace Go.Proofs.YtecjfnkakodebaaGreatDoor
open Go.RowKit Go.Maps
attribute [local go_sem] Oper.semAt_some
structure CyX (w0:World) (B x6:Nat) (M0 Ys:List Cc) (W:World):Prop where
 full:pts M0 Ys=none
 r6:Blk W x6 [.pointer none] 24
 r7:Blk W (x6+1) [.int .i64 41] 39
 kp:Kp w0 W Nul
 hB:w0.heap.size≤x6∧x6+1 < B
section
variable {w W W':World} {B x6 x10 g2:Nat} {M0 Ys:List Cc} {k:Nat} {Z:Nat→Prop} {M:List Cc}
end
structure CpV (w w':World) (L M0 Ys:List Cc) (b1 b2 b3 b4:Int) (v:Value):Prop where
 mem:∀ y,y∈M0 ↔ y∈L∧y ∉ inL b1 b2 b3 b4 L
 once:M0.Pairwise (fun x y=>x.1≠y.1)
 ok:Ok17 M0
 kp:Kp w w' Nul
 full:pts M0 Ys=none→v=.tuple #[.pointer none,.int .i64 41]
 fit:∀ M',pts M0 Ys=some M'→∃ g2,v=.tuple #[.pointer (some ⟨g2,0,none⟩),.int .i64 0]∧GridIn w' (fun i=>w.heap.size≤i) g2 M'∧Ok17 M'
theorem pts_all {M0 Ys M:List Cc} (h:pts M0 (Ys.take Ys.length)=some M):pts M0 Ys=some M:=by rw [List.take_length] at h;exact h
end Go.Proofs.YtecjfnkakodebaaGreatDoor
