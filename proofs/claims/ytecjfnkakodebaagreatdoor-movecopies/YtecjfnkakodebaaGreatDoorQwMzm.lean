/-Copy, Fill: Put of what stood in a grid; putCopy, whatever stood there. -/
import Derived.Test.YtecjfnkakodebaaGreatDoorQwMzk
import Derived.Test.YtecjfnkakodebaaGreatDoorQwMze
import Derived.Test.YtecjfnkakodebaaGreatDoorQwMye
set_option maxRecDepth 40000
set_option maxHeartbeats 16000000
namespace Go.Proofs.YtecjfnkakodebaaGreatDoor
open Go.RowKit Go.Maps
structure PcR (M:List Cc) (p:Int×Int) (a:Ct) (er:Int) (M':List Cc):Prop where
 yes:roomB M p=true->er=0/\M'=putL M p a
 no:¬roomB M p=true->er=41/\M'=M
theorem put_pc (G:Nat->Prop) (g:Nat) (c s:Int) (a:Ct) (sl:Value) (F:Nat->Prop) (M:List Cc) (w:World) (hG:GridIn w G g M) (hnew:∀i,w.heap.size<=i->G i) (hM:Ok17 M) (ha:Gd a) (hv:vC c s=true) (hin:NdIn w F sl a.t) (U:VS w) :
  Calls Tryz.prog 11 #[.pointer (some ⟨g,0,none⟩),.agg #[.int .i64 c,.int .i64 s],a.val sl] w fun e w'=>∃er,e=.returned (.int .i64 er)/\∃M',GridIn w' G g M'/\PcR M (c,s) a er M'/\Km g w w':=by
 have h:GI 0 w g M:=GridIn.mono hG (fun _ _=>Nat.zero_le _)
 obtain⟨mv,bg⟩:=h.blk
 have hval:∀wq,Kp w wq Nul->Calls Tryz.prog 43 #[a.val sl] wq fun e w'=>e=.returned (.bool true)/\Kp wq w' Nul:=fun wq k=>by
  have:=gv_at a sl F wq ha.ok (hin.kp k (fun _ _ x=>x)) (U.kp k)
  rw[ha.val] at this
  exact this
 have hcp:∀wq,Kp w wq Nul->Calls Tryz.prog 47 #[a.val sl] wq fun e w'=>∃sl' fp,e=.returned ((cpC a).val sl')/\Own w' wq.heap.size sl' (cpC a).t fp/\Kp wq w' Nul:=fun wq k=>(gCopy_at a sl F wq ha.x ha.size ha.ok (hin.kp k (fun _ _ x=>x))).mono (by
  rintro e w' ⟨sl',fp,h1,h2,h3⟩
  exact⟨sl',fp,h1,h2,Kp.of_below h3⟩)
 by_cases hr:roomB M (c,s)=true
 ·refine(put_m G g c s hv a ha.k sl M w h hG hnew hM.len (roomB_iff.1 hr) hval hcp).mono ?_
  rintro e w' ⟨rfl,h1,h2⟩
  rw[ha.cp] at h1
  exact⟨_,rfl,_,h1,⟨fun _=>⟨rfl,rfl⟩,fun e=>absurd hr e⟩,h2⟩
 ·have hn:=fun q=>hr (roomB_iff.2 q)
  refine(put_full 0 g c s hv a ha.k sl M w h (by
   have:¬M.length<4096:=fun q=>hn (.inl q)
   omega) (fun c' hc=>hn (.inr ⟨c',hc⟩)) hval).mono ?_
  rintro e w' ⟨rfl,k⟩
  exact⟨_,rfl,_,hG.kp k,⟨fun e=>absurd e hr,fun _=>⟨rfl,rfl⟩⟩,Km.of_nul k bg.lt⟩
theorem putCopy_form (g:Nat) (c s t1 t2 d1 d2:Int) (p1 p2 p3 p4 p5:Value) (cs:List Value) (cs':Value->List Value) (h15:cs.length=15) (h15':∀v,(cs' v).length=15) (Q:Value->World->Prop) (R:Int->World->Prop) (w:World)
  (hd1:wrap64 (c-t1)=d1) (hd2:wrap64 (s-t2)=d2) (hone:∀v w',Q v w'->(cs' v).toArray.all (·.oneCell')=true)
  (HS:Hid (∀wq,Kp w wq Nul->w.heap.size+1<wq.heap.size->Calls Tryz.prog 99 #[.agg cs.toArray,.int .i64 d1,.int .i64 d2] wq fun e w'=>∃v,e=.returned (.tuple #[.agg (cs' v).toArray,.int .i64 0])/\Q v w'/\Kp wq w' Nul))
  (HP:Hid (∀v wq wr,Q v wq->Kp w wq Nul->Kp wq wr (fun i=>i=w.heap.size+1)->Calls Tryz.prog 11 #[.pointer (some ⟨g,0,none⟩),.agg #[.int .i64 c,.int .i64 s],.agg (Value.int .i64 2::p1::p2::p3::p4::p5::cs' v).toArray] wr fun e w'=>∃er,e=.returned (.int .i64 er)/\R er w')) :
  Calls Tryz.prog 55 #[.pointer (some ⟨g,0,none⟩),.agg #[.int .i64 c,.int .i64 s],.agg (Value.int .i64 2::p1::p2::p3::p4::p5::cs).toArray,.agg #[.int .i64 t1,.int .i64 t2]] w fun e w'=>∃er,e=.returned (.int .i64 er)/\R er w':=by
 obtain⟨W,hW⟩:∃W,((w.alloc (.cells #[.int .i64 c,.int .i64 s] 32)).alloc (.cells (Value.int .i64 2::p1::p2::p3::p4::p5::cs).toArray 50)).alloc (.cells #[.int .i64 t1,.int .i64 t2] 32)=W:=⟨_,rfl⟩
 have HW:Hid (((w.alloc (.cells #[.int .i64 c,.int .i64 s] 32)).alloc (.cells (Value.int .i64 2::p1::p2::p3::p4::p5::cs).toArray 50)).alloc (.cells #[.int .i64 t1,.int .i64 t2] 32)=W):=hW
 have kW:Hid (Kp w W Nul):=by show Kp _ _ _;rw[<- hW];exact(((Kp.refl w Nul).alloc _).alloc _).alloc _
 have b0:Hid (Blk W w.heap.size [.int .i64 c,.int .i64 s] 32):=by show Blk _ _ _ _;rw[<- hW];exact((Blk.new w [.int .i64 c,.int .i64 s] _).alloc _).alloc _
 have b1:Hid (Blk W (w.heap.size+1) (Value.int .i64 2::p1::p2::p3::p4::p5::cs) 50):=by show Blk _ _ _ _;rw[<- hW];exact(blkS (by simp) (Value.int .i64 2::p1::p2::p3::p4::p5::cs) _).alloc _
 have b2:Hid (Blk W (w.heap.size+1+1) [.int .i64 t1,.int .i64 t2] 32):=by show Blk _ _ _ _;rw[<- hW];exact blkS (by simp) [.int .i64 t1,.int .i64 t2] _
 have HR:Hid (W.rangeAt (w.heap.size+1) 6 cs):=rangeAt_mid (pre:=[Value.int .i64 2,p1,p2,p3,p4,p5]) (l:=cs) (post:=[]) (t:=50) (fr:=(0,0)) (by rw[List.append_nil];exact b1.out)
 have HI:Hid ((Tryz.prog.info? 48).map (·.size)=some cs.length):=by show _=_;rw[infoNode,h15]
 have HIv:Hid (∀v,(Tryz.prog.info? 48).map (·.size)=some (cs' v).length):=fun v=>by rw[infoNode,h15']
 have HIc:Hid (∀v,(Tryz.prog.info? 50).map (·.size)=some (Value.int .i64 2::p1::p2::p3::p4::p5::cs' v).length):=fun v=>by rw[infoContent];simp[h15' v]
 have HL:Hid (∀v,cs.length=(cs' v).length):=fun v=>by rw[h15,h15']
 have HOne:Hid (∀v w',Q v w'->(cs' v).toArray.all (·.oneCell')=true):=hone
 have c0:W.cell? ⟨w.heap.size+1,0,none⟩=some (.int .i64 2):=b1.out.cell rfl
 have a0:W.cell? ⟨w.heap.size,0,none⟩=some (.int .i64 c):=b0.out.cell rfl
 have a1:W.cell? ⟨w.heap.size,1,none⟩=some (.int .i64 s):=b0.out.cell rfl
 have e0:W.cell? ⟨w.heap.size+1+1,0,none⟩=some (.int .i64 t1):=b2.out.cell rfl
 have e1:W.cell? ⟨w.heap.size+1+1,1,none⟩=some (.int .i64 t2):=b2.out.cell rfl
 clear hW h15 h15' hone
 go_enter Tryz.func55,Tryz.ntmps55
 go_wp2_with (first
  | (rw[HW.out])
  | (refine wpList_load_mid rfl 48 (.tmp 13) rfl (w.heap.size+1) 6 rfl cs _ HR.out Tryz.underlying48 rfl HI.out ?_)
  | fail)
 refine(HS.out W kW.out (Nat.lt_trans (Nat.lt_succ_self _) b2.out.lt)).mono ?_
 rintro e w1 ⟨v,rfl,hq,hk⟩
 have K1:Hid (Kp W w1 Nul):=hk
 have HQ:Hid (Q v w1):=hq
 have B1:Hid (Blk w1 (w.heap.size+1) ([Value.int .i64 2,p1,p2,p3,p4,p5]++cs++[]) 50):=by show Blk _ _ _ _;rw[List.append_nil];exact b1.out.kp hk (fun x=>x)
 have B0:Hid (Blk w1 w.heap.size [.int .i64 c,.int .i64 s] 32):=b0.out.kp hk (fun x=>x)
 have O1:Hid ((cs' v).toArray.all (·.oneCell')=true):=HOne.out v w1 hq
 have HIv':=HIv.out v
 have HIv2:Hid ((Tryz.prog.info? 48).map (·.size)=some (cs' v).length):=HIv'
 have HIc2:Hid ((Tryz.prog.info? 50).map (·.size)=some (Value.int .i64 2::p1::p2::p3::p4::p5::cs' v).length):=HIc.out v
 have HL2:Hid (cs.length=(cs' v).length):=HL.out v
 clear hq hk c0 a0 a1 e0 e1 HIv' HIv HIc HL HR HI HW b0 b1 b2 HOne HS
 obtain⟨cv,hcv⟩:∃cv,cs' v=cv:=⟨_,rfl⟩
 have HPv:Hid (∀wr,Kp w1 wr (fun i=>i=w.heap.size+1)->Calls Tryz.prog 11 #[.pointer (some ⟨g,0,none⟩),.agg #[.int .i64 c,.int .i64 s],.agg (Value.int .i64 2::p1::p2::p3::p4::p5::cv).toArray] wr fun e w'=>∃er,e=.returned (.int .i64 er)/\R er w'):=fun wr k=>by
  rw[<- hcv]
  exact HP.out v w1 wr HQ.out (kW.out.trans K1.out) k
 rw[hcv] at O1 HIv2 HIc2 HL2
 rw[hcv]
 clear hcv HP HQ
 go_wp2_with (first
  | (refine wpList_store_part rfl 48 (.tmp 28) (.tmp 26) rfl (w.heap.size+1) 6 [Value.int .i64 2,p1,p2,p3,p4,p5] cs [] cv _ B1.out rfl HL2.out rfl rfl HIv2.out O1.out ?_;intro X hX kX;rw[List.append_nil] at hX;have HX:Hid (X.rangeAt (w.heap.size+1) 0 (Value.int .i64 2::p1::p2::p3::p4::p5::cv)):=blk_range hX;have KX:Hid (Kp w1 X (fun i=>i=w.heap.size+1)):=kX;have l0:X.cell? ⟨w.heap.size,0,none⟩=some (.int .i64 c):=(B0.out.kp kX (by show ¬_=_;omega)).cell rfl;have l1:X.cell? ⟨w.heap.size,1,none⟩=some (.int .i64 s):=(B0.out.kp kX (by show ¬_=_;omega)).cell rfl;clear hX kX)
  | (refine wpList_load_mid rfl 50 (.tmp 6) rfl (w.heap.size+1) 0 rfl (Value.int .i64 2::p1::p2::p3::p4::p5::cv) _ HX.out Tryz.underlying50 rfl HIc2.out ?_)
  | fail)
 refine(HPv.out X KX.out).mono ?_
 rintro e w2 ⟨er,rfl,hr⟩
 have HRr:Hid (R er w2):=hr
 clear hr l0 l1
 go_wp2_with fail
 go_ret
 first
 | exact⟨er,rfl,HRr.out⟩
 | exact HRr.out
theorem wrap_cells {c s t1 t2:Int} (h:vC c s=true) (h':vC t1 t2=true):wrap64 (c-t1)=c-t1/\wrap64 (s-t2)=s-t2/\I64 (c-t1)/\I64 (s-t2):=by
 rw[vC_iff] at h h'
 unfold wrap64 I64
 omega
theorem cpyC_tree {a:Ct} (h:cpC a=a):cpy a.t=a.t:=congrArg Ct.t h
theorem putCopy_at (G:Nat->Prop) (g:Nat) (c s t1 t2:Int) (a:Ct) (sl:Value) (F:Nat->Prop) (M:List Cc) (w:World) (hG:GridIn w G g M) (hnew:∀i,w.heap.size<=i->G i) (hM:Ok17 M) (ha:Gd a) (hv:vC c s=true) (ht:vC t1 t2=true) (hin:NdIn w F sl a.t) (U:VS w) :
  Calls Tryz.prog 55 #[.pointer (some ⟨g,0,none⟩),.agg #[.int .i64 c,.int .i64 s],a.val sl,.agg #[.int .i64 t1,.int .i64 t2]] w fun e w'=>∃er,e=.returned (.int .i64 er)/\∃M',GridIn w' G g M'/\PcR M (c,s) (hmC (shH (c-t1) (s-t2)) a) er M'/\Km g w w':=by
 obtain⟨w1,w2,w3,w4⟩:=wrap_cells hv ht
 have hgl:g<w.heap.size:=by
  obtain⟨mv,bg⟩:=(show GI 0 w g M from GridIn.mono hG (fun _ _=>Nat.zero_le _)).blk
  exact bg.lt
 by_cases hk:a.k=2
 ·have hchk:chk a.t=0:=by
   have h:=ha.val
   unfold gv validC at h
   simp[hk] at h
   exact h.2
  have hgd:Gd (hmC (shH (c-t1) (s-t2)) a):=hmC_gd (shH_ok _ _) ha
  have e2:cpy a.t=a.t:=cpyC_tree ha.cp
  have hS:=fun wq (k:Kp w wq Nul)=>shift_at (c-t1) (s-t2) w3 w4 a.t sl F wq ha.ok (hin.kp k (fun _ _ x=>x)) (U.kp k) hchk
  rw[e2] at hS
  have hval:a.val sl=.agg (Value.int .i64 2 :: .int .i64 a.v.k :: .float .f64 a.v.x :: .string a.v.s :: .bool a.v.b :: .int .i64 a.v.f::a.t.hd.cells sl).toArray:=by
   rw[<- hk]
  rw[hval]
  refine putCopy_form g c s t1 t2 (c-t1) (s-t2) (.int .i64 a.v.k) (.float .f64 a.v.x) (.string a.v.s) (.bool a.v.b) (.int .i64 a.v.f) (a.t.hd.cells sl) (fun v=>(hmN (shH (c-t1) (s-t2)) a.t).hd.cells v) rfl (fun _=>rfl)
   (fun v w'=>∃(wq:World) (fp:List Nat),w.heap.size<=wq.heap.size/\Own w' wq.heap.size v (hmN (shH (c-t1) (s-t2)) a.t) fp/\w.heap.size+1<wq.heap.size) (fun er w'=>∃M',GridIn w' G g M'/\PcR M (c,s) (hmC (shH (c-t1) (s-t2)) a) er M'/\Km g w w') w w1 w2 (fun v w' h=>?_) (fun wq k hsz=>?_) (fun v wq wr hq k1 k2=>?_)
  ·obtain⟨wq,fp,_,h,_⟩:=h
   exact Hd.one _ h.own.one
  ·refine(hS wq k).mono ?_
   rintro e w' ⟨sl',fp,rfl,h1,h2⟩
   exact⟨sl',rfl,⟨wq,fp,k.size,h1,hsz⟩,h2⟩
  ·obtain⟨w0,fp,hle,ho,hlt⟩:=hq
   have kwr:Kp w wr Nul:=k1.trans' k2 (fun i hi e=>by have e':i=w.heap.size+1:=e;omega)
   have hin':NdIn wr (fun _=>True) v (hmN (shH (c-t1) (s-t2)) a.t):=(ho.isIn.kp k2 (fun i hi e=>by have e':i=w.heap.size+1:=e;have h1:=hi.1;omega)).mono (fun b hb hl=>⟨rfl,trivial⟩)
   have e3:(hmC (shH (c-t1) (s-t2)) a).val v=.agg (Value.int .i64 2 :: .int .i64 a.v.k :: .float .f64 a.v.x :: .string a.v.s :: .bool a.v.b :: .int .i64 a.v.f::(hmN (shH (c-t1) (s-t2)) a.t).hd.cells v).toArray:=by
    rw[<- hk];rfl
   rw[<- e3]
   refine(put_pc G g c s _ v (fun _=>True) M wr (hG.kp kwr) (fun i hi=>hnew i (Nat.le_trans kwr.size hi)) hM hgd hv hin' (U.kp kwr)).mono ?_
   rintro e w' ⟨er,rfl,M',h1,h2,h3⟩
   exact⟨er,rfl,M',h1,h2,(Km.of_nul kwr hgl).trans h3⟩
 ·have e1:hmC (shH (c-t1) (s-t2)) a=a:=hmC_plain _ ha.val hk
  rw[e1]
  have hval:a.val sl=.agg (Value.int .i64 a.k :: .int .i64 a.v.k :: .float .f64 a.v.x :: .string a.v.s :: .bool a.v.b :: .int .i64 a.v.f::a.t.hd.cells sl).toArray:=rfl
  rw[hval]
  refine putCopy_plain g c s t1 t2 a.k _ hk rfl (fun er w'=>∃M',GridIn w' G g M'/\PcR M (c,s) a er M'/\Km g w w') w (fun wq k=>?_)
  refine(put_pc G g c s a sl F M wq (hG.kp k) (fun i hi=>hnew i (Nat.le_trans k.size hi)) hM ha hv (hin.kp k (fun _ _ x=>x)) (U.kp k)).mono ?_
  rintro e w' ⟨er,rfl,M',h1,h2,h3⟩
  exact⟨er,rfl,M',h1,h2,(Km.of_nul k hgl).trans h3⟩
end Go.Proofs.YtecjfnkakodebaaGreatDoor
namespace Go.Proofs.YtecjfnkakodebaaGreatDoor
open Go.RowKit Go.Maps
attribute [local go_sem] Oper.semAt_some
structure CyI (w:World) (B x6 x10 g2:Nat) (M0 Ys:List Cc) (k:Nat) (Z:Nat->Prop) (W:World) (M:List Cc):Prop where
 gi:GridIn W (fun i=>Z i/\w.heap.size<=i) g2 M
 ok:Ok17 M
 put:pts M0 (Ys.take k)=some M
 oth:Blk W x10 [.pointer (some ⟨g2,0,none⟩)] 24
 r6:Blk W x6 [.pointer none] 24
 r7:Blk W (x6+1) [.int .i64 0] 39
 kp:Kp w W Nul
 zl:∀i,Z i->i<W.heap.size/\((i=x6∨i=x6+1)∨(w.heap.size<=i/\i<x10)∨B+2<=i)
 z6:Z x6/\Z (x6+1)
 hB:x6+1<w.heap.size/\w.heap.size<=x10/\x10<B
structure CyX (w0:World) (B x6:Nat) (M0 Ys:List Cc) (W:World):Prop where
 full:pts M0 Ys=none
 r6:Blk W x6 [.pointer none] 24
 r7:Blk W (x6+1) [.int .i64 41] 39
 kp:Kp w0 W Nul
 hB:w0.heap.size<=x6/\x6+1<B
section
variable {w W W':World} {B x6 x10 g2:Nat} {M0 Ys:List Cc} {k:Nat} {Z:Nat->Prop} {M:List Cc}
theorem CyI.far {S:Nat->Prop} (h:CyI w B x6 x10 g2 M0 Ys k Z W M) (g:Kp W W' S) (hZ:∀i,Z i->¬S i) (hb:∀i,i<B->S i->False):CyI w B x6 x10 g2 M0 Ys k Z W' M:=by
 have hB:=h.hB
 exact⟨h.gi.far' g (fun i hi=>hZ i hi.1),h.ok,h.put,h.oth.kp g (fun e=>hb _ hB.2.2 e),h.r6.kp g (fun e=>hb _ (by omega) e),h.r7.kp g (fun e=>hb _ (by omega) e),h.kp.trans' g (fun i hi e=>hb i (by omega) e),fun i hi=>⟨Nat.lt_of_lt_of_le (h.zl i hi).1 g.size,(h.zl i hi).2⟩,h.z6,hB⟩
theorem CyI.sm (h:CyI w B x6 x10 g2 M0 Ys k Z W M) {i:Nat} (hs:Sm W g2 i):Z i/\w.heap.size<=i:=by
 obtain⟨hF,⟨hb',_⟩|⟨m,D,hb',hm',_⟩⟩:=h.gi
 ·rcases hs with rfl|⟨e,_⟩
  ·exact hF
  ·rw[hb'] at e;simp at e
 ·rcases hs with rfl|⟨e,_⟩
  ·exact hF
  ·rw[hb'] at e
   have em:m=i:=by simpa using e
   rw[<- em];exact hm'
theorem CyI.out (h:CyI w B x6 x10 g2 M0 Ys k Z W M) {i:Nat} (hi:i<w.heap.size∨(x10<=i/\i<B+2)):¬Sm W g2 i:=fun e=>by
 have hB:=h.hB
 have h1:=h.sm e
 rcases(h.zl i h1.1).2 with q|q|q <;> omega
theorem CyI.step {y:Cc} {X:World} (h:CyI w B x6 x10 g2 M0 Ys k Z W M) (hy:Ys[k]? = some y) (hgd:Gd y.2) (hv:vC y.1.1 y.1.2=true) (hr:roomB M y.1=true) (hBV:B+2<=W.heap.size)
  (hg:GridIn X (fun i=>(Z i/\w.heap.size<=i)∨W.heap.size<=i) g2 (putL M y.1 y.2)) (km:Km g2 W X) :
  ∃Z',CyI w B x6 x10 g2 M0 Ys (k+1) Z' X (putL M y.1 y.2)/\∀i,Z' i->Z i∨W.heap.size<=i:=by
 have hB:=h.hB
 have hkp:=km.kp
 have hsz:=hkp.size
 have hn:∀i,i<w.heap.size->¬Sm W g2 i:=fun i hi=>h.out (.inl hi)
 refine⟨fun i=>(Z i∨W.heap.size<=i)/\i<X.heap.size,⟨?_,Ok17.put h.ok h.gi.once' hv hgd (roomB_iff.1 hr),pts_next h.put hy hr,h.oth.kp hkp (h.out (.inr ⟨Nat.le_refl _,by omega⟩)),h.r6.kp hkp (hn _ (by omega)),h.r7.kp hkp (hn _ (by omega)),h.kp.trans' hkp (fun i hi e=>hn i hi e),fun i hi=>⟨hi.2,?_⟩,⟨⟨.inl h.z6.1,?_⟩,⟨.inl h.z6.2,?_⟩⟩,hB⟩,fun i hi=>hi.1⟩
 ·have hw:=h.kp.size
  refine hg.lows.mono (fun i hi=>?_)
  rcases hi.1 with q|q
  ·exact⟨⟨.inl q.1,hi.2⟩,q.2⟩
  ·exact⟨⟨.inr q,hi.2⟩,by omega⟩
 ·rcases hi.1 with q|q
  ·exact(h.zl i q).2
  ·exact .inr (.inr (by omega))
 ·exact Nat.lt_of_lt_of_le (h.zl _ h.z6.1).1 hsz
 ·exact Nat.lt_of_lt_of_le (h.zl _ h.z6.2).1 hsz
theorem CyI.fail {y:Cc} (h:CyI w B x6 x10 g2 M0 Ys k Z W M) (hy:Ys[k]? = some y) (hr:¬roomB M y.1=true):pts M0 Ys=none:=pts_fail h.put hy hr
end
structure CyS (w':World) (x10 xa x4 x5:Nat) (pg ad ar tt ct:List Value):Prop where
 p:Blk w' x10 pg 24
 a:Blk w' xa ad 32
 f:Blk w' x4 ar 34
 t:Blk w' x5 tt 32
 c:Blk w' (xa+1) ct 50
theorem CyS.kp {w1 w2:World} {x10 xa x4 x5:Nat} {pg ad ar tt ct:List Value} {S:Nat->Prop} (h:CyS w1 x10 xa x4 x5 pg ad ar tt ct) (k:Kp w1 w2 S) (h1:¬S x10) (h2:¬S xa) (h3:¬S x4) (h4:¬S x5) (h5:¬S (xa+1)):CyS w2 x10 xa x4 x5 pg ad ar tt ct:=⟨h.p.kp k h1,h.a.kp k h2,h.f.kp k h3,h.t.kp k h4,h.c.kp k h5⟩
theorem CyS.nul {w1 w2:World} {x10 xa x4 x5:Nat} {pg ad ar tt ct:List Value} (h:CyS w1 x10 xa x4 x5 pg ad ar tt ct) (k:Kp w1 w2 Nul):CyS w2 x10 xa x4 x5 pg ad ar tt ct:=h.kp k (fun x=>x) (fun x=>x) (fun x=>x) (fun x=>x) (fun x=>x)
structure CpV (w w':World) (L M0 Ys:List Cc) (b1 b2 b3 b4:Int) (v:Value):Prop where
 mem:∀y,y∈M0↔y∈L/\y∉inL b1 b2 b3 b4 L
 once:M0.Pairwise (fun x y=>x.1≠y.1)
 ok:Ok17 M0
 kp:Kp w w' Nul
 full:pts M0 Ys=none->v=.tuple #[.pointer none,.int .i64 41]
 fit:∀M',pts M0 Ys=some M'->∃g2,v=.tuple #[.pointer (some ⟨g2,0,none⟩),.int .i64 0]/\GridIn w' (fun i=>w.heap.size<=i) g2 M'/\Ok17 M'
def cpY (A1 A2 t1 t2:Int) (K:List Cc):List Cc:=K.map fun x=>((x.1.1+t1-A1,x.1.2+t2-A2),hmC (shH (t1-A1) (t2-A2)) x.2)
theorem cpY_get {A1 A2 t1 t2:Int} {K:List Cc} {k:Nat} {x:Cc} (h:K[k]? = some x):(cpY A1 A2 t1 t2 K)[k]? = some ((x.1.1+t1-A1,x.1.2+t2-A2),hmC (shH (t1-A1) (t2-A2)) x.2):=by
 unfold cpY
 rw[List.getElem?_map,h];rfl
theorem pts_all {M0 Ys M:List Cc} (h:pts M0 (Ys.take Ys.length)=some M):pts M0 Ys=some M:=by rw[List.take_length] at h;exact h
theorem copy_core (g:Nat) (L K Ys:List Cc) (A1 A2 A3 A4 t1 t2 B1 B2 B3 B4:Int) (w:World) (hg:GI 0 w g L) (hL:Ok17 L)
  (hKs:Strict (K.map (·.1))) (hKm:∀x,x∈K↔x∈inL A1 A2 A3 A4 L) (hY:Ys=cpY A1 A2 t1 t2 K) (hC:∀x∈K,vC (x.1.1+t1-A1) (x.1.2+t2-A2)=true)
  (HG:Hid (∀w,Calls Tryz.prog 52 #[.pointer (some ⟨g,0,none⟩),.agg #[.int .i64 A1,.int .i64 A2,.int .i64 A3,.int .i64 A4],.agg #[.int .i64 t1,.int .i64 t2]] w fun e w'=>e=.returned (.tuple #[.agg #[.int .i64 B1,.int .i64 B2,.int .i64 B3,.int .i64 B4],.int .i64 0])/\Kp w w' Nul))
  (HWo:Hid (∀wq,Kp w wq Nul->Calls Tryz.prog 53 #[.pointer (some ⟨g,0,none⟩),.agg #[.int .i64 B1,.int .i64 B2,.int .i64 B3,.int .i64 B4]] wq fun e w'=>∃g2 M,e=.returned (.pointer (some ⟨g2,0,none⟩))/\GridIn w' (fun i=>wq.heap.size<=i) g2 M/\Ok17 M/\(∀y,y∈M↔y∈L/\y∉inL B1 B2 B3 B4 L)/\wq.heap.size<=g2/\Kp wq w' Nul))
  (HIn:Hid (∀w,Calls Tryz.prog 54 #[.pointer (some ⟨g,0,none⟩),.agg #[.int .i64 A1,.int .i64 A2,.int .i64 A3,.int .i64 A4]] w fun e w'=>∃x0 x1,e=.returned (.func (.func 97) #[] #[.pointer (some ⟨x0,0,none⟩),.pointer (some ⟨x1,0,none⟩)])/\Blk w' x0 [.pointer (some ⟨g,0,none⟩)] 24/\Blk w' x1 [.int .i64 A1,.int .i64 A2,.int .i64 A3,.int .i64 A4] 34/\Kp w w' Nul))
  (HMvd:Hid (∀c s w,vC (c+t1-A1) (s+t2-A2)=true->vC c s=true->Calls Tryz.prog 56 #[.agg #[.int .i64 c,.int .i64 s],.agg #[.int .i64 A1,.int .i64 A2],.agg #[.int .i64 t1,.int .i64 t2]] w fun e w'=>e=.returned (.agg #[.int .i64 (c+t1-A1),.int .i64 (s+t2-A2)])/\Kp w w' Nul))
  (HPcd:Hid (∀(G F:Nat->Prop) (g2:Nat) (c s c' s':Int) (a:Ct) (sl:Value) (M:List Cc) (wq:World),Kp w wq Nul->GridIn wq G g2 M->(∀i,wq.heap.size<=i->G i)->Ok17 M->Gd a->vC c' s'=true->vC c s=true->NdIn wq F sl a.t->Calls Tryz.prog 55 #[.pointer (some ⟨g2,0,none⟩),.agg #[.int .i64 c',.int .i64 s'],a.val sl,.agg #[.int .i64 c,.int .i64 s]] wq fun e w'=>∃er,e=.returned (.int .i64 er)/\∃M',GridIn w' G g2 M'/\PcR M (c',s') (hmC (shH (c'-c) (s'-s)) a) er M'/\Km g2 wq w')) :
  Calls Tryz.prog 16 #[.pointer (some ⟨g,0,none⟩),.agg #[.int .i64 A1,.int .i64 A2,.int .i64 A3,.int .i64 A4],.agg #[.int .i64 t1,.int .i64 t2]] w fun e w'=>∃v M0,e=.returned v/\CpV w w' L M0 Ys B1 B2 B3 B4 v:=by
 have HG0:Hid (GI 0 w g L):=hg
 have HOk:Hid (Ok17 L):=hL
 have HKs:Hid (Strict (K.map (·.1))):=hKs
 have HKm:Hid (∀x,x∈K↔x∈inL A1 A2 A3 A4 L):=hKm
 have HY:Hid (Ys=cpY A1 A2 t1 t2 K):=hY
 have HC:Hid (∀x∈K,vC (x.1.1+t1-A1) (x.1.2+t2-A2)=true):=hC
 obtain⟨W0,hW0⟩:∃W0,(((w.alloc (.cells #[.int .i64 A1,.int .i64 A2,.int .i64 A3,.int .i64 A4] 34)).alloc (.cells #[.int .i64 t1,.int .i64 t2] 32)).alloc (.cells #[.pointer none] 24)).alloc (.cells #[.int .i64 0] 39)=W0:=⟨_,rfl⟩
 have HW0:Hid ((((w.alloc (.cells #[.int .i64 A1,.int .i64 A2,.int .i64 A3,.int .i64 A4] 34)).alloc (.cells #[.int .i64 t1,.int .i64 t2] 32)).alloc (.cells #[.pointer none] 24)).alloc (.cells #[.int .i64 0] 39)=W0):=hW0
 have k0:Hid (Kp w W0 Nul):=by show Kp _ _ _;rw[<- hW0];exact((((Kp.refl w Nul).alloc _).alloc _).alloc _).alloc _
 have HB4:Hid (∀X,Kp W0 X Nul->Blk X w.heap.size [.int .i64 A1,.int .i64 A2,.int .i64 A3,.int .i64 A4] 34):=fun X k=>by
  have:Blk W0 w.heap.size [.int .i64 A1,.int .i64 A2,.int .i64 A3,.int .i64 A4] 34:=by rw[<- hW0];exact(((Blk.new w [.int .i64 A1,.int .i64 A2,.int .i64 A3,.int .i64 A4] _).alloc _).alloc _).alloc _
  exact this.kp k (fun x=>x)
 have HB5:Hid (∀X,Kp W0 X Nul->Blk X (w.heap.size+1) [.int .i64 t1,.int .i64 t2] 32):=fun X k=>by
  have:Blk W0 (w.heap.size+1) [.int .i64 t1,.int .i64 t2] 32:=by rw[<- hW0];exact((blkS (by simp) [.int .i64 t1,.int .i64 t2] _).alloc _).alloc _
  exact this.kp k (fun x=>x)
 have HB6:Hid (∀X,Kp W0 X Nul->Blk X (w.heap.size+2) [.pointer none] 24):=fun X k=>by
  have:Blk W0 (w.heap.size+2) [.pointer none] 24:=by rw[<- hW0];exact(blkS (by simp) [.pointer none] _).alloc _
  exact this.kp k (fun x=>x)
 have HB7:Hid (∀X,Kp W0 X Nul->Blk X (w.heap.size+2+1) [.int .i64 0] 39):=fun X k=>by
  have:Blk W0 (w.heap.size+2+1) [.int .i64 0] 39:=by rw[<- hW0];exact blkS (by simp) [.int .i64 0] _
  exact this.kp k (fun x=>x)
 have S0:Hid (W0.heap.size=w.heap.size+4):=by show _=_;rw[<- hW0];simp
 clear hW0 hg hL hKs hKm hY hC
 refine(callsIn_wide (n:=12)).1 ?_
 refine callsIn_of_wp_marks Tryz.func16 rfl trivial ?_ rfl
 simp only[Tryz.ntmps16,List.size_toArray,List.length_cons,List.length_nil,Nat.reduceAdd,Nat.reduceSub,Array.replicate_succ,Array.replicate_zero,List.push_toArray,List.append_toArray,List.nil_append,List.cons_append]
 refine wpIn_wide.2 ?_
 go_wp2_with fail
 rw[HW0.out]
 clear HW0
 refine(HG.out _).mono ?_
 rintro e w1 ⟨rfl,hk1⟩
 obtain⟨V8,hV8⟩:∃V8,w1.alloc (.cells #[.int .i64 B1,.int .i64 B2,.int .i64 B3,.int .i64 B4] 34)=V8:=⟨_,rfl⟩
 have HV8:Hid (w1.alloc (.cells #[.int .i64 B1,.int .i64 B2,.int .i64 B3,.int .i64 B4] 34)=V8):=hV8
 have K8:Hid (Kp W0 V8 Nul):=by show Kp _ _ _;rw[<- hV8];exact hk1.alloc _
 have S8:Hid (w.heap.size+4<V8.heap.size):=by
  show _<_
  have:=hk1.size
  rw[S0.out] at this
  rw[<- hV8,World.size_alloc];omega
 clear hk1 hV8 HG
 go_wp2_with fail
 rw[HV8.out]
 clear HV8
 refine(HWo.out V8 (k0.out.trans K8.out)).mono ?_
 rintro e w2 ⟨g2,M0,rfl,hgi,hok,hmem,_,hk2⟩
 have HM0:Hid (∀y,y∈M0↔y∈L/\y∉inL B1 B2 B3 B4 L):=hmem
 have HOk0:Hid (Ok17 M0):=hok
 have HOn0:Hid (M0.Pairwise (fun x y=>x.1≠y.1)):=hgi.once'
 obtain⟨W3,hW3⟩:∃W3,w2.alloc (.cells #[.pointer (some ⟨g2,0,none⟩)] 24)=W3:=⟨_,rfl⟩
 have HW3:Hid (w2.alloc (.cells #[.pointer (some ⟨g2,0,none⟩)] 24)=W3):=hW3
 have k23:Kp w2 W3 Nul:=by rw[<- hW3];exact(Kp.refl _ _).alloc _
 have K3:Hid (Kp V8 W3 Nul):=hk2.trans k23
 have HO3:Hid (Blk W3 w2.heap.size [.pointer (some ⟨g2,0,none⟩)] 24):=by show Blk _ _ _ _;rw[<- hW3];exact Blk.new w2 _ _
 have HG3:Hid (GridIn W3 (fun i=>V8.heap.size<=i/\i<w2.heap.size) g2 M0):=hgi.lows.kp k23
 have HS2:Hid (V8.heap.size<=w2.heap.size):=hk2.size
 have d0:(w2.alloc (.cells #[.pointer (some ⟨g2,0,none⟩)] 24)).cell? ⟨w.heap.size,0,none⟩=some (.int .i64 A1):=by rw[hW3];exact(HB4.out _ (K8.out.trans K3.out)).cell rfl
 have d1:(w2.alloc (.cells #[.pointer (some ⟨g2,0,none⟩)] 24)).cell? ⟨w.heap.size,1,none⟩=some (.int .i64 A2):=by rw[hW3];exact(HB4.out _ (K8.out.trans K3.out)).cell rfl
 have d2:(w2.alloc (.cells #[.pointer (some ⟨g2,0,none⟩)] 24)).cell? ⟨w.heap.size,2,none⟩=some (.int .i64 A3):=by rw[hW3];exact(HB4.out _ (K8.out.trans K3.out)).cell rfl
 have d3:(w2.alloc (.cells #[.pointer (some ⟨g2,0,none⟩)] 24)).cell? ⟨w.heap.size,3,none⟩=some (.int .i64 A4):=by rw[hW3];exact(HB4.out _ (K8.out.trans K3.out)).cell rfl
 clear hgi hok hmem hk2 hW3 k23 HWo
 go_wp2_with fail
 rw[HW3.out] at d0 d1 d2 d3 ⊢
 clear HW3 d0 d1 d2 d3
 refine(HIn.out _).mono ?_
 rintro e w3 ⟨x0,x1,rfl,hb0,hb1,hk3⟩
 have HX:Hid (Blk w3 x0 [.pointer (some ⟨g,0,none⟩)] 24/\Blk w3 x1 [.int .i64 A1,.int .i64 A2,.int .i64 A3,.int .i64 A4] 34):=⟨hb0,hb1⟩
 have K4:Hid (Kp V8 w3 Nul):=K3.out.trans hk3
 have HO4:Hid (Blk w3 w2.heap.size [.pointer (some ⟨g2,0,none⟩)] 24):=HO3.out.kp hk3 (fun x=>x)
 have HG4:Hid (GridIn w3 (fun i=>V8.heap.size<=i/\i<w2.heap.size) g2 M0):=HG3.out.kp hk3
 have HL3:Hid (w2.heap.size<w3.heap.size):=HO4.out.lt
 clear hb0 hb1 hk3 HIn HO3 HG3
 go_wp2_with fail
 have hL3:=HL3.out
 have hS2:=HS2.out
 have hS8:=S8.out
 have K04:Hid (Kp w w3 Nul):=(k0.out.trans K8.out).trans K4.out
 have KW4:Hid (Kp W0 w3 Nul):=K8.out.trans K4.out
 generalize hact:Act.mk _ _=a0
 refine wp_range_ow3 (α:=(Cc×Value)×List Nat) (N:=K.length) (gf:=97) (lb:=#[.pointer (some ⟨x0,0,none⟩),.pointer (some ⟨x1,0,none⟩)]) (by rw[<- hact];rfl) (enters_of Tryz.func97 (by kernel_rfl) rfl) (encs:=encQ) wtQ (fun _=>rfl) (TellQ w3 K) ?hT (fun i=>(i=w.heap.size+2∨i=w.heap.size+2+1)∨(V8.heap.size<=i/\i<w2.heap.size)) ?hseq (fun k Z V=>∃M,CyI V8 w3.heap.size (w.heap.size+2) w2.heap.size g2 M0 Ys k Z V M) ?hZ ?hZl ?hI (CyX w w3.heap.size (w.heap.size+2) M0 Ys) ?hIx (fun i=>(i=w.heap.size+2∨i=w.heap.size+2+1)∨(V8.heap.size<=i/\i<w2.heap.size)) ?h0 ?hround ?hdone ?hstop
 case hT=>rintro k x Z V ⟨_,_,_,h⟩;exact⟨fun q=>by have:=(h _ q).1;omega,fun q=>by have:=(h _ q).1;omega⟩
 case hseq=>
  refine in1_any g x0 x1 (fun i=>i<w.heap.size) A1 A2 A3 A4 L _ K rfl w3 _ (HG0.out.kp K04.out) (HG0.out.low.kp K04.out) HOk.out.gd HOk.out.at' HOk.out.len HKs.out HKm.out (fun i e=>?_) (fun i e q=>?_) HX.out.1 HX.out.2
  ·have e':i<w.heap.size:=e
   omega
  ·have q':i<w.heap.size:=q
   rcases e with e|e <;> omega
 case hZ=>
  rintro k Z V ⟨M',h⟩
  exact⟨fun q=>by rcases(h.zl _ q).2 with e|e|e <;> omega,fun q=>by rcases(h.zl _ q).2 with e|e|e <;> omega⟩
 case hZl=>
  rintro k Z V ⟨M',h⟩
  exact⟨fun i hi=>(h.zl i hi).1,fun i hlt hi=>by rcases(h.zl i hi).2 with e|e|e;exact .inl e;exact .inr e;omega⟩
 case hI=>
  rintro k Z V V' ⟨M',h⟩ q
  exact⟨M',h.far q (fun i hi e=>by rcases(h.zl _ hi).2 with q|q|q <;> rcases e with e|e <;> omega) (fun i hi e=>by rcases e with e|e <;> omega)⟩
 case hIx=>
  intro V V' h q
  have hB:=h.hB
  exact⟨h.full,h.r6.kp q (fun e=>by rcases e with e|e <;> omega),h.r7.kp q (fun e=>by rcases e with e|e <;> omega),h.kp.trans' q (fun i hi e=>by rcases e with e|e <;> omega),hB⟩
 case h0=>
  refine⟨M0,HG4.out.mono (fun i hi=>⟨.inr hi,hi.1⟩),HOk0.out,rfl,HO4.out,HB6.out _ KW4.out,HB7.out _ KW4.out,K4.out,fun i hi=>?_,⟨.inl (.inl rfl),.inl (.inr rfl)⟩,by omega,hS2,hL3⟩
  rcases hi with e|e
  ·exact⟨by omega,.inl e⟩
  ·exact⟨by omega,.inr (.inl e)⟩
 case hround=>
  subst hact
  rintro k ⟨⟨⟨⟨c,s⟩,a⟩,sl⟩,fp⟩ Z V0 KK hkN hsW ⟨M',hI⟩ ⟨hKk,hown,hnd,hfz⟩ hcont
  have HI:Hid (CyI V8 w3.heap.size (w.heap.size+2) w2.heap.size g2 M0 Ys k Z V0 M'):=hI
  have HKk:Hid (K[k]? = some ((c,s),a)):=hKk
  have HSW:Hid (w3.heap.size+2<=V0.heap.size):=hsW
  have O1:Hid (sl.oneCell'=true):=hown.one
  have HOwn:Hid (NdOwn V0 sl a.t fp):=hown
  have HFz:Hid (∀i∈fp,w3.heap.size+2<=i/\¬Z i):=hfz
  clear hI hKk hsW hown hnd hfz HX HO4 HG4
  simp only[List.zip_toArray,List.zip_cons_cons,List.zip_nil_right,List.foldl_toArray',List.foldl_cons,List.foldl_nil]
  gi_wp2_with (first
   | (refine storeIn_new' rfl 50 (.tmp 12) (.tmp 31) rfl _ _ _ _ (by first|rfl|simp) rfl rfl rfl infoContent (a.one O1.out) ?_)
   | fail)
  refine hcont _ _ (((Kp.refl V0 Nul).alloc _).alloc _) (fun V hV _=>?_)
  have hW2:Kp V0 ((V0.alloc (.cells #[.int .i64 c,.int .i64 s] 32)).alloc (.cells (a.cells sl).toArray 50)) Nul:=((Kp.refl V0 Nul).alloc _).alloc _
  have hWV:Kp V0 V (fun i=>i=w3.heap.size+1):=(hW2.mono (fun _ _ q=>q.elim)).trans hV
  have HIV:Hid (CyI V8 w3.heap.size (w.heap.size+2) w2.heap.size g2 M0 Ys k Z V M'):=HI.out.far hWV (fun i hi e=>by have e':i=w3.heap.size+1:=e;rcases(HI.out.zl i hi).2 with q|q|q <;> omega) (fun i hi e=>by have e':i=w3.heap.size+1:=e;omega)
  have HbA:Hid (Blk V V0.heap.size [.int .i64 c,.int .i64 s] 32):=((Blk.new V0 [.int .i64 c,.int .i64 s] 32).alloc _).kp hV (fun e=>by have e':V0.heap.size=w3.heap.size+1:=e;have:=HSW.out;omega)
  have HbC:Hid (Blk V (V0.heap.size+1) (a.cells sl) 50):=by
   have h1:=Blk.new (V0.alloc (.cells #[.int .i64 c,.int .i64 s] 32)) (a.cells sl) 50
   rw[World.size_alloc] at h1
   exact h1.kp hV (fun e=>by have e':V0.heap.size+1=w3.heap.size+1:=e;have:=HSW.out;omega)
  have HVV:Hid (V0.heap.size+1<V.heap.size):=HbC.out.lt
  have KV:Hid (Kp w V Nul):=(k0.out.trans K8.out).trans HIV.out.kp
  have HSS:Hid ((fun w':World=>CyS w' w2.heap.size V0.heap.size w.heap.size (w.heap.size+1) [.pointer (some ⟨g2,0,none⟩)] [.int .i64 c,.int .i64 s] [.int .i64 A1,.int .i64 A2,.int .i64 A3,.int .i64 A4] [.int .i64 t1,.int .i64 t2] (a.cells sl)) V):=⟨HIV.out.oth,HbA.out,HB4.out _ (K8.out.trans HIV.out.kp),HB5.out _ (K8.out.trans HIV.out.kp),HbC.out⟩
  have HOwnV:Hid (NdOwn V sl a.t fp):=HOwn.out.mono (fun i hi=>hWV.block i (node_lt (HOwn.out.node i hi)) (fun e=>by have e':i=w3.heap.size+1:=e;have:=(HFz.out i hi).1;omega))
  have hxL:((c,s),a)∈L:=((inL_iff rfl).1 ((HKm.out _).1 (List.mem_of_getElem? HKk.out))).1
  have HGd:Hid (Gd a):=HOk.out.gd _ hxL
  have hvc:vC c s=true:=HOk.out.at' _ hxL
  have hvt:vC (c+t1-A1) (s+t2-A2)=true:=HC.out _ (List.mem_of_getElem? HKk.out)
  have HV2:Hid (vC (c+t1-A1) (s+t2-A2)=true):=hvt
  have HYk:Hid (Ys[k]? = some ((c+t1-A1,s+t2-A2),hmC (shH (t1-A1) (t2-A2)) a)):=by show _=_;rw[HY.out];exact cpY_get HKk.out
  have HMv:Hid (∀w,Calls Tryz.prog 56 #[.agg #[.int .i64 c,.int .i64 s],.agg #[.int .i64 A1,.int .i64 A2],.agg #[.int .i64 t1,.int .i64 t2]] w fun e w'=>e=.returned (.agg #[.int .i64 (c+t1-A1),.int .i64 (s+t2-A2)])/\Kp w w' Nul):=fun w=>HMvd.out c s w hvt hvc
  have HPc:Hid (∀wq,Kp V wq Nul->Calls Tryz.prog 55 #[.pointer (some ⟨g2,0,none⟩),.agg #[.int .i64 (c+t1-A1),.int .i64 (s+t2-A2)],a.val sl,.agg #[.int .i64 c,.int .i64 s]] wq fun e w'=>∃er,e=.returned (.int .i64 er)/\∃M2,GridIn w' (fun i=>(Z i/\V8.heap.size<=i)∨wq.heap.size<=i) g2 M2/\PcR M' (c+t1-A1,s+t2-A2) (hmC (shH (t1-A1) (t2-A2)) a) er M2/\Km g2 wq w'):=fun wq k=>by
   have h:=HPcd.out (fun i=>(Z i/\V8.heap.size<=i)∨wq.heap.size<=i) (fun _=>True) g2 c s (c+t1-A1) (s+t2-A2) a sl M' wq (KV.out.trans k) ((HIV.out.gi.mono (fun i hi=>.inl hi)).kp k) (fun i hi=>.inr hi) HIV.out.ok HGd.out hvt hvc ((HOwnV.out.isIn (fun _ _=>trivial)).kp k (fun _ _ x=>x))
   rw[show c+t1-A1-c=t1-A1 by omega,show s+t2-A2-s=t2-A2 by omega] at h
   exact h
  have HOut:Hid (∀v1,Kp V v1 Nul->∀i,i<V8.heap.size∨i=w2.heap.size∨i=V0.heap.size∨i=V0.heap.size+1->¬Sm v1 g2 i):=fun v1 k i hi=>by
   have hh:=HIV.out.far k (fun _ _ q=>q) (fun _ _ q=>q)
   intro e
   have h1:=hh.sm e
   have h2:=(HI.out.zl i h1.1)
   have hB:=HI.out.hB
   have h3:=HSW.out
   rcases h2.2 with q|q|q <;> rcases hi with p|p|p|p <;> omega
  have H45:Hid (w.heap.size+1<V8.heap.size):=by show _<_;omega
  have HRl:Hid (∀y,y=((c+t1-A1,s+t2-A2),hmC (shH (t1-A1) (t2-A2)) a)->Gd y.2):=fun y hy=>by subst hy;exact hmC_gd (shH_ok _ _) HGd.out
  clear hcont hV hW2 hWV hvc hvt hxL HbA HbC HOwn HOwnV HPcd HMvd
  gi_wp2_with (fail)
  refine regIn_noPanic ?_
  refine regIn_held (fun w':World=>CyS w' w2.heap.size V0.heap.size w.heap.size (w.heap.size+1) [.pointer (some ⟨g2,0,none⟩)] [.int .i64 c,.int .i64 s] [.int .i64 A1,.int .i64 A2,.int .i64 A3,.int .i64 A4] [.int .i64 t1,.int .i64 t2] (a.cells sl)) (by kernel_rfl) (by kernel_rfl) (noPanic_lets (fun a w h=>Or.elim h (fun q=>Exit.noConfusion (And.left q)) (fun q=>Exit.noConfusion (And.left q)))) (HSS.out.nul (Kp.refl _ _).drew) (fun hHeld=>?_)
  refine wpH_takes (i:=0) (v:=.pointer (some ⟨g2,0,none⟩)) (some 32) rfl rfl (by kernel_rfl) (fun _ _ _ h=>h) (Or.inl ⟨by rfl,?_⟩) hHeld ?_
  ·intro w' hSw;have s0:=hSw.p.cell (i:=0) rfl;clear hSw;go_simp
  simp only[Act.put,Sz0,Sz1,Sz2]
  refine wpH_takes (i:=1) (v:=.agg ([.int .i64 c,.int .i64 s]:List Value).toArray) (some 33) rfl rfl (by kernel_rfl) (fun _ _ _ h=>h) (Or.inl ⟨by rfl,fun w' hSw=>exec_load_row 32 (.tmp 11) rfl V0.heap.size 0 rfl [.int .i64 c,.int .i64 s] _ (blk_range hSw.a) Tryz.underlying32 rfl infoAddr2'⟩) hHeld ?_
  simp only[Act.put,Sz0,Sz1,Sz2]
  refine wpH_takes (i:=2) (v:=.pointer (some ⟨w.heap.size,0,none⟩)) (some 34) rfl rfl (by kernel_rfl) (fun _ _ _ h=>h) (Or.inl ⟨by rfl,?_⟩) hHeld ?_
  ·intro w' hSw;clear hSw;go_simp
  simp only[Act.put,Sz0,Sz1,Sz2]
  refine wpH_takes (i:=3) (v:=.agg ([.int .i64 A1,.int .i64 A2]:List Value).toArray) (some 35) rfl rfl (by kernel_rfl) (fun _ _ _ h=>h) (Or.inl ⟨by rfl,fun w' hSw=>exec_load_row 32 (.tmp 34) rfl w.heap.size 0 rfl [.int .i64 A1,.int .i64 A2] _ (rangeAt_mid (pre:=[]) (l:=[.int .i64 A1,.int .i64 A2]) (post:=[.int .i64 A3,.int .i64 A4]) hSw.f) Tryz.underlying32 rfl infoAddr2'⟩) hHeld ?_
  simp only[Act.put,Sz0,Sz1,Sz2]
  refine wpH_takes (i:=4) (v:=.agg ([.int .i64 t1,.int .i64 t2]:List Value).toArray) (some 36) rfl rfl (by kernel_rfl) (fun _ _ _ h=>h) (Or.inl ⟨by rfl,fun w' hSw=>exec_load_row 32 (.tmp 5) rfl (w.heap.size+1) 0 rfl [.int .i64 t1,.int .i64 t2] _ (blk_range hSw.t) Tryz.underlying32 rfl infoAddr2'⟩) hHeld ?_
  simp only[Act.put,Sz0,Sz1,Sz2]
  refine wpH_takes (i:=6) (v:=a.val sl) (some 38) rfl rfl (by kernel_rfl) (fun _ _ _ h=>h) (Or.inl ⟨by rfl,fun w' hSw=>exec_load_content _ rfl rfl hSw.c rfl⟩) hHeld ?_
  simp only[Act.put,Sz0,Sz1,Sz2]
  refine wpH_takes (i:=7) (v:=.agg ([.int .i64 c,.int .i64 s]:List Value).toArray) (some 39) rfl rfl (by kernel_rfl) (fun _ _ _ h=>h) (Or.inl ⟨by rfl,fun w' hSw=>exec_load_row 32 (.tmp 11) rfl V0.heap.size 0 rfl [.int .i64 c,.int .i64 s] _ (blk_range hSw.a) Tryz.underlying32 rfl infoAddr2'⟩) hHeld ?_
  simp only[Act.put,Sz0,Sz1,Sz2]
  refine wpH_step (i:=5) (by kernel_rfl) rfl rfl (fun K hK=>?_)
  go_simp
  refine(HMv.out _).mono ?_
  rintro e v1 ⟨rfl,hk2⟩
  have E1:Hid (Kp V v1 Nul):=((Kp.refl V Nul).drew).trans hk2
  refine hK.out _ _ (HSS.out.nul E1.out) (fun hHeld=>?_)
  clear hK K hk2
  (try simp only[Act.put,Sz0,Sz1,Sz2])
  refine wpH_step (i:=8) (by kernel_rfl) rfl rfl (fun K hK=>?_)
  go_simp
  refine(HPc.out v1 E1.out).mono ?_
  rintro e X ⟨er,rfl,M2,hgX,hp,hkm⟩
  have HSX:Hid ((fun w':World=>CyS w' w2.heap.size V0.heap.size w.heap.size (w.heap.size+1) [.pointer (some ⟨g2,0,none⟩)] [.int .i64 c,.int .i64 s] [.int .i64 A1,.int .i64 A2,.int .i64 A3,.int .i64 A4] [.int .i64 t1,.int .i64 t2] (a.cells sl)) X):=(HSS.out.nul E1.out).kp hkm.kp (HOut.out v1 E1.out _ (.inr (.inl rfl))) (HOut.out v1 E1.out _ (.inr (.inr (.inl rfl)))) (HOut.out v1 E1.out _ (.inl (by have:=H45.out;omega))) (HOut.out v1 E1.out _ (.inl (by have:=H45.out;omega))) (HOut.out v1 E1.out _ (.inr (.inr (.inr rfl))))
  by_cases hr:roomB M' (c+t1-A1,s+t2-A2)=true
  ·obtain⟨rfl,rfl⟩:=hp.yes hr
   have hVs:w3.heap.size+2<=v1.heap.size:=Nat.le_trans (Nat.le_trans HSW.out (by have:=HVV.out;omega)) E1.out.size
   have hIv1:=HIV.out.far E1.out (fun _ _ q=>q) (fun _ _ q=>q)
   obtain⟨Z',hZ1,hZ2⟩:=CyI.step hIv1 HYk.out (HRl.out _ rfl) HV2.out hr hVs hgX hkm
   have HZ:Hid (∃Z',(∃M,CyI V8 w3.heap.size (w.heap.size+2) w2.heap.size g2 M0 Ys (k+1) Z' X M)/\More Z Z' V0):=⟨Z',⟨_,hZ1⟩,fun i hi=>(hZ2 i hi).imp id (fun q=>by have:=HVV.out;have:=E1.out.size;omega)⟩
   have HKX:Hid (Kp V X (fun i=>(Z i∨wtQ ((((c,s),a),sl),fp) i)∨V0.heap.size<=i)):=(E1.out.mono (fun _ _ q=>q.elim)).trans' hkm.kp (fun i _ e=>.inl (.inl (hIv1.sm e).1))
   clear hZ1 hZ2 hIv1
   refine hK.out _ _ HSX.out (fun hHeld=>?_)
   clear hK K hkm hgX
   (try simp only[Act.put,Sz0,Sz1,Sz2])
   refine wpH_takes (i:=9) (v:=.int .i64 0) (some 13) rfl rfl (by kernel_rfl) (fun _ _ _ h=>h) (Or.inl ⟨by rfl,?_⟩) hHeld ?_
   ·intro w' hSw;clear hSw;go_simp
   simp only[Act.put,Sz0,Sz1,Sz2]
   refine wpAnyH_done (by kernel_rfl) ?_ _
   refine NoPanic.normal ?_
   gi_wp2_with (fail)
   first
   | exact⟨HKX.out,HZ.out⟩
   | exact .inl ⟨rfl,HKX.out,HZ.out⟩
  ·obtain⟨rfl,rfl⟩:=hp.no hr
   have hIv1:=HIV.out.far E1.out (fun _ _ q=>q) (fun _ _ q=>q)
   have HFu:Hid (pts M0 Ys=none):=hIv1.fail HYk.out hr
   have HKX:Hid (Kp V X (fun i=>(Z i∨wtQ ((((c,s),a),sl),fp) i)∨V0.heap.size<=i)):=(E1.out.mono (fun _ _ q=>q.elim)).trans' hkm.kp (fun i _ e=>.inl (.inl (hIv1.sm e).1))
   have H6:Hid (Blk X (w.heap.size+2) [.pointer none] 24):=hIv1.r6.kp hkm.kp (hIv1.out (.inl (by omega)))
   have H7:Hid (Blk X (w.heap.size+2+1) [.int .i64 0] 39):=hIv1.r7.kp hkm.kp (hIv1.out (.inl (by omega)))
   have KwX:Hid (Kp w X Nul):=(KV.out.trans E1.out).trans' hkm.kp (fun i hi e=>hIv1.out (.inl (by omega)) e)
   have HZ6:Hid (Z (w.heap.size+2)/\Z (w.heap.size+2+1)):=hIv1.z6
   clear hIv1
   refine hK.out _ _ HSX.out (fun hHeld=>?_)
   clear hK K hkm hgX
   (try simp only[Act.put,Sz0,Sz1,Sz2])
   refine wpH_takes (i:=9) (v:=.int .i64 41) (some 13) rfl rfl (by kernel_rfl) (fun _ _ _ h=>h) (Or.inl ⟨by rfl,?_⟩) hHeld ?_
   ·intro w' hSw;clear hSw;go_simp
   simp only[Act.put,Sz0,Sz1,Sz2]
   refine wpAnyH_done (by kernel_rfl) ?_ _
   refine NoPanic.normal ?_
   gi_wp2_with (first
    | (refine storeIn_var rfl 24 (.tmp 6) (.const (.pointer none)) rfl (w.heap.size+2) rfl (.pointer none) rfl rfl 24 _ H6.out (by kernel_rfl) ?_;intro Y hbY hkY;have HY6:Hid (Blk Y (w.heap.size+2) [.pointer none] 24):=hbY;have HY7:Hid (Blk Y (w.heap.size+2+1) [.int .i64 0] 39):=H7.out.kp hkY (by show ¬_=_;omega);have KY:Hid (Kp X Y (fun i=>i=w.heap.size+2)):=hkY;clear hbY hkY)
    | (refine storeIn_var rfl 39 (.tmp 7) (.tmp 43) rfl (w.heap.size+2+1) rfl (.int .i64 41) rfl rfl 39 _ HY7.out (by kernel_rfl) ?_;intro Y2 hb2 hk2;have HE6:Hid (Blk Y2 (w.heap.size+2) [.pointer none] 24):=HY6.out.kp hk2 (by show ¬_=_;omega);have HE7:Hid (Blk Y2 (w.heap.size+2+1) [.int .i64 41] 39):=hb2;have KE:Hid (Kp Y Y2 (fun i=>i=w.heap.size+2+1)):=hk2;clear hb2 hk2)
    | fail)
   have q1:Kp V Y2 (fun i=>(Z i∨wtQ ((((c,s),a),sl),fp) i)∨V0.heap.size<=i):=(HKX.out.trans (KY.out.mono (fun i _ e=>.inl (.inl (by have e':i=w.heap.size+2:=e;rw[e'];exact HZ6.out.1))))).trans (KE.out.mono (fun i _ e=>.inl (.inl (by have e':i=w.heap.size+2+1:=e;rw[e'];exact HZ6.out.2))))
   have q2:CyX w w3.heap.size (w.heap.size+2) M0 Ys Y2:=⟨HFu.out,HE6.out,HE7.out,(KwX.out.trans' KY.out (fun i hi e=>by have e':i=w.heap.size+2:=e;omega)).trans' KE.out (fun i hi e=>by have e':i=w.heap.size+2+1:=e;omega),by omega⟩
   first
   | exact⟨q1,q2⟩
   | exact .inr ⟨rfl,q1,q2⟩
 case hdone=>
  subst hact
  rintro D Z V hD ⟨M',h⟩ hDf
  have HI:Hid (CyI V8 w3.heap.size (w.heap.size+2) w2.heap.size g2 M0 Ys K.length Z V M'):=h
  have HPt:Hid (pts M0 Ys=some M'):=by
   have h1:=h.put
   rw[show K.length=Ys.length by rw[HY.out];simp[cpY]] at h1
   exact pts_all h1
  have HDf:Hid (V.heap[D]? = some (.deferred (some []))):=hDf
  have HD:Hid (D=w3.heap.size):=hD
  have H6:Hid (Blk V (w.heap.size+2) [.pointer none] 24):=h.r6
  have H7:Hid (Blk V (w.heap.size+2+1) [.int .i64 0] 39):=h.r7
  have c0:V.cell? ⟨w2.heap.size,0,none⟩=some (.pointer (some ⟨g2,0,none⟩)):=h.oth.cell rfl
  clear h hDf hD
  go_wp2_with (first
   | (refine wpList_store_var rfl 24 (.tmp 6) (.tmp 44) rfl (w.heap.size+2) rfl (.pointer (some ⟨g2,0,none⟩)) rfl rfl 24 _ H6.out (by kernel_rfl) ?_;intro Y hbY hkY;have HY6:Hid (Blk Y (w.heap.size+2) [.pointer (some ⟨g2,0,none⟩)] 24):=hbY;have HY7:Hid (Blk Y (w.heap.size+2+1) [.int .i64 0] 39):=H7.out.kp hkY (by show ¬_=_;omega);have KY:Hid (Kp V Y (fun i=>i=w.heap.size+2∨i=w.heap.size+2+1)):=hkY.mono (fun _ _ e=>.inl e);clear hbY hkY)
   | (refine wpList_store_var rfl 39 (.tmp 7) (.const (.int .i64 0)) rfl (w.heap.size+2+1) rfl (.int .i64 0) rfl rfl 39 _ HY7.out (by kernel_rfl) ?_;intro Y2 hb2 hk2;have HE6:Hid (Blk Y2 (w.heap.size+2) [.pointer (some ⟨g2,0,none⟩)] 24):=HY6.out.kp hk2 (by show ¬_=_;omega);have HE7:Hid (Blk Y2 (w.heap.size+2+1) [.int .i64 0] 39):=hb2;have KE:Hid (Kp V Y2 (fun i=>i=w.heap.size+2∨i=w.heap.size+2+1)):=KY.out.trans (hk2.mono (fun _ _ e=>.inr e));clear hb2 hk2)
   | fail)
  have hd:=HD.out
  have hD2:Y2.heap[D]? = some (.deferred (some [])):=(KE.out.block D (Array.getElem?_eq_some_iff.1 HDf.out).1 (fun e=>by rcases e with e|e <;> omega)).trans HDf.out
  refine⟨by simp,.inl ⟨_,_,rfl,run_takeDeferred hD2,?_⟩⟩
  have c1:(Y2.putObj D (.deferred none)).cell? ⟨w.heap.size+2,0,none⟩=some (.pointer (some ⟨g2,0,none⟩)):=(HE6.out.kp putObj_self (by show ¬_=_;omega)).cell rfl
  have c2:(Y2.putObj D (.deferred none)).cell? ⟨w.heap.size+2+1,0,none⟩=some (.int .i64 0):=(HE7.out.kp putObj_self (by show ¬_=_;omega)).cell rfl
  refine⟨_,results_vars rfl _ _ (w.heap.size+2) (w.heap.size+2+1) (.pointer (some ⟨g2,0,none⟩)) (.int .i64 0) rfl rfl ?_ ?_,_,M0,rfl,?_⟩
  ·clear c2 hd;go_simp
  ·clear c1 hd;go_simp
  ·refine⟨HM0.out,HOn0.out,HOk0.out,putObj_kp (((k0.out.trans K8.out).trans HI.out.kp).trans' KE.out (fun i hi e=>by rcases e with e|e <;> omega)) (by omega),(fun e=>by rw[HPt.out] at e;cases e),fun M1 e=>by
    rw[HPt.out] at e
    cases e
    refine⟨g2,rfl,((HI.out.gi.far' KE.out (fun i hi e=>by have:=hi.2;rcases e with e|e <;> omega)).far' putObj_self (fun i hi e=>by have e':i=D:=e;rcases(HI.out.zl i hi.1).2 with q|q|q <;> omega)).mono (fun i hi=>by have:=hi.2;show w.heap.size<=i;omega),HI.out.ok⟩⟩
 case hstop=>
  subst hact
  rintro D V hD h hDf
  have HI:Hid (CyX w w3.heap.size (w.heap.size+2) M0 Ys V):=h
  have HDf:Hid (V.heap[D]? = some (.deferred (some []))):=hDf
  have HD:Hid (D=w3.heap.size):=hD
  clear h hDf hD
  go_wp2_with fail
  have hd:=HD.out
  refine⟨by simp,.inl ⟨_,_,rfl,run_takeDeferred HDf.out,?_⟩⟩
  have c1:(V.putObj D (.deferred none)).cell? ⟨w.heap.size+2,0,none⟩=some (.pointer none):=(HI.out.r6.kp putObj_self (by show ¬_=_;omega)).cell rfl
  have c2:(V.putObj D (.deferred none)).cell? ⟨w.heap.size+2+1,0,none⟩=some (.int .i64 41):=(HI.out.r7.kp putObj_self (by show ¬_=_;omega)).cell rfl
  refine⟨_,results_vars rfl _ _ (w.heap.size+2) (w.heap.size+2+1) (.pointer none) (.int .i64 41) rfl rfl ?_ ?_,_,M0,rfl,?_⟩
  ·clear c2 hd;go_simp
  ·clear c1 hd;go_simp
  ·exact⟨HM0.out,HOn0.out,HOk0.out,putObj_kp HI.out.kp (by omega),fun _=>rfl,fun M1 e=>by rw[HI.out.full] at e;cases e⟩
end Go.Proofs.YtecjfnkakodebaaGreatDoor
