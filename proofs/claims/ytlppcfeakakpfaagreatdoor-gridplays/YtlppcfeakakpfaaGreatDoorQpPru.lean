/- GridPlays: a step of Put. By wip/gen_pru.py. GridPlays: a step of Clone. By wip/gen_prv.py. GridPlays: a step of Put of what is there. By wip/gen_prw.py. GridPlays: a step of Equal and Puts. By wip/gen_prx.py. A range over a grid while its rounds put into it. By wip/gen_pry.py, out of wip/move/Mxi and wip/grid/Pri. -/
import Derived.Test.YtlppcfeakakpfaaGreatDoorQpPrq
set_option maxRecDepth 100000
set_option maxHeartbeats 16000000
namespace Go.Proofs.YtlppcfeakakpfaaGreatDoor
open Go.RowKit Go.Maps Go.Sort Go.Lib Go.Shelf
theorem wpList_load_midG {ops:Array Oper} {rest:List Oper} {o:Oper} {a:Act} {w:World} {Q:Exit→Act→World→Prop} (hgd:Region.wanted o (yielded ops a.tmps)=true) (ty:TypeId) (x:Operand) (ho:o.op=.load ty x) (b p:Nat) (hx:a.eval x=.pointer (some ⟨b,p,none⟩)) (cs:List Value) (d:TypeDesc) (hc:w.rangeAt b p cs) (hu:Tryz.prog.underlying ty=some d) (hd:d.isRow=true) (hi:(Tryz.prog.info? ty).map (·.size)=some cs.length)
  (h:wpList Tryz.prog ops Q rest (a.put o.dst (.agg cs.toArray)) w):wpList Tryz.prog ops Q (o :: rest) a w:=
 wpList_step fun K hK=>by
  simp only [hgd,if_true]
  exact wp_load_mid ty x ho b p hx cs d hc hu hd hi (hK _ _ h)
theorem Km.new {g:Nat} {w w1 w2:World} {S:Nat→Prop} (h:Km g w w1) (k:Kp w1 w2 S) (hS:∀ i,S i→w.heap.size≤i) (hg:g < w.heap.size):Km g w w2:=by
 refine ⟨⟨k.os.trans h.kp.os,k.tape.trans h.kp.tape,k.output.trans h.kp.output,Nat.le_trans h.kp.size k.size,fun i hi hs=>(k.block i (Nat.lt_of_lt_of_le hi h.kp.size) (fun q=>by have:=hS i q;omega)).trans (h.kp.block i hi hs)⟩,fun m hm=>h.own m ?_⟩
 rw [← k.block g (Nat.lt_of_lt_of_le hg h.kp.size) (fun q=>by have:=hS g q;omega)]
 exact hm
theorem own_km {g B:Nat} {w w':World} {sl:Value} {t:Nd} {fp:List Nat} {mv:Option Nat} (h:Own w B sl t fp) (k:Km g w w') (hg:Blk w g [.map mv] 68):Own w' B sl t fp:=
 h.kp k.kp (fun b hb q=>by
  obtain ⟨cs,hc⟩:=h.own.node b hb
  rcases q with q|q
  ·have q':b=g:=q
   subst q'
   rw [hg] at hc
   injection hc with hc
   injection hc with _ h2 _
   exact absurd h2 (by decide)
  ·exact q.2 _ _ _ hc)
theorem step_put (w0 w:World) (B xw bg br:Nat) (g r:Nat→Nat) (L K:Nat→List Cc) (v:Nat→Value) (ys:Nat→List (Cc×Value)) (on nn c s:Int) (ct:Ct) (sl:Value) (m1 m2 m3 m4:Int) (hP:PlayS w B xw bg br g r L K v ys) (hO:OpIn w0 B on nn c s ct sl) (hw:Kp w0 w Nul) :
  Calls Tryz.prog 7 #[.pointer (some ⟨xw,0,none⟩),.agg (opC on 1 nn c s ct sl m1 m2 m3 m4).toArray] w (StR w0 B xw bg br):=by
 obtain ⟨k,hk,hpk⟩:=pk2 on
 have HPick:Hid (∀ wq,Calls Tryz.prog 17 #[.int .i64 on,.int .i64 2] wq fun e w'=>e=.returned (.int .i64 (k:Int))∧w'=wq):=fun wq=>by
  rw [← hpk]
  exact pick_n on 2 hO.on (by decide) wq
 obtain ⟨xo,hxo⟩:∃ xo,w.heap.size=xo:=⟨_,rfl⟩
 obtain ⟨W1,hW1⟩:∃ W1,w.alloc (.cells (opC on 1 nn c s ct sl m1 m2 m3 m4).toArray 50)=W1:=⟨_,rfl⟩
 have HW1:Hid (w.alloc (.cells (opC on 1 nn c s ct sl m1 m2 m3 m4).toArray 50)=W1):=hW1
 have k1:Kp w W1 Nul:=by rw [← hW1];exact (Kp.refl w Nul).alloc _
 have HOp:Hid (Blk W1 xo (opC on 1 nn c s ct sl m1 m2 m3 m4) 50):=by show Blk _ _ _ _;rw [← hW1,← hxo];exact Blk.new w _ _
 have HP:Hid (PlayS W1 B xw bg br g r L K v ys):=hP.nul k1
 have HK:Hid (Kp w0 W1 Nul):=hw.trans k1
 have HO:Hid (OpIn w0 B on nn c s ct sl):=hO
 have HB1:Hid (B≤W1.heap.size):=by show _≤_;have h1:=hP.pp.lo.1;have h2:=HP.out.pp.xs.lt;omega
 have hp:=(hP.pp.nul k1).at'
 obtain ⟨p0,p1⟩:W1.cell? ⟨xw,0,none⟩=some (.slice (some ⟨bg,0,none⟩) 2 2)∧W1.cell? ⟨xw,1,none⟩=some (.slice (some ⟨br,0,none⟩) 2 2):=⟨hp.x0,hp.x1⟩
 have pg:=hp.g k hk
 have pr:=hp.r k hk
 have ho:=opC_at HOp.out
 have o0:=ho.c0
 have o1:=ho.c1
 have o2:=ho.c2
 have o3:=ho.c3
 have o4:=ho.c4
 have hk0:(0:Int)≤(k:Int):=by omega
 have hk2:(k:Int) < 2:=by omega
 have HAt:Hid (∀ wq,Kp W1 wq Nul→OpA wq xo on 1 nn c s ct sl m1 m2 m3 m4):=fun wq q=>opC_at (HOp.out.kp q (fun x=>x))
 obtain ⟨lo,hlo⟩:=place_ex (c,s) (HP.out.kk.al k hk).st
 have HLo:Hid (Place (K k) (c,s) lo):=hlo
 have HIn:Hid (∀ wq,Kp w0 wq Nul→NdIn wq (fun _=>True) sl ct.t):=fun wq q=>hO.inn.kp q (fun _ _ x=>x)
 have HOwn:Hid (∀ wq,Kp w0 wq Nul→Calls Tryz.prog 18 #[.agg (ct.cells sl).toArray] wq fun e w'=>∃ sl' fp,e=.returned (.agg (ct.cells sl').toArray)∧Own w' wq.heap.size sl' ct.t fp∧Kp wq w' Nul):=fun wq q=>(rOwn_at ct sl (fun _=>True) wq hO.sz (HIn.out wq q)).mono (by
  rintro e w' ⟨sl',fp,h1,h2,h3⟩
  exact ⟨sl',fp,h1,h2,Kp.of_below h3⟩)
 have HRPut:Hid (∀ wq,Kp w0 wq Nul→B≤wq.heap.size→DG wq B (r k) (v k) (ys k)→Calls Tryz.prog 21 #[.pointer (some ⟨r k,0,none⟩),.agg #[.int .i64 c,.int .i64 s],.agg (ct.cells sl).toArray] wq fun e w'=>∃ v' ys',e=.returned (.int .i64 (rpE (gv ct) (K k) lo c s ct:Nat))∧DG w' B (r k) v' ys'∧ys'.map (·.1)=rpK (gv ct) (K k) lo c s ct∧Kp wq w' (fun i=>i=r k)):=fun wq q hb hd=>by
  refine (rput_at B (r k) (v k) (ys k) (K k) c s ct sl (gv ct) wq hd (HP.out.kk.ks k hk) hb (by have h1:=(HP.out.kk.al k hk).len;have h2:=(HP.out.gg.ok k hk).len;omega) (HP.out.kk.al k hk).st (fun wz kz=>rgv_at ct sl (fun _=>True) wz hO.sz hO.ok hO.tx.1 hO.tx.2 (HIn.out wz (q.trans kz))) (fun _ wz kz=>(rcCopy_at ct sl (fun _=>True) wz hO.vx hO.sz hO.ok (HIn.out wz (q.trans kz))).mono (by
   rintro e w' ⟨sl',fp,h1,h2,h3⟩
   exact ⟨sl',fp,h1,h2,Kp.of_below h3⟩)) hO.inn.one).mono ?_
  rintro e w' ⟨lo',v',ys',h1,h2,h3,h4,h5⟩
  have e1:=Place.uniq h1 HLo.out
  subst e1
  exact ⟨v',ys',h2,h3,h4,h5⟩
 generalize hRE:rpE (gv ct) (K k) lo c s ct=re at *
 have HRE:Hid (rpE (gv ct) (K k) lo c s ct=re):=hRE
 clear hRE hlo
 generalize (opC on 1 nn c s ct sl m1 m2 m3 m4).toArray=oc at *
 clear hP hO hw hpk hW1 k1 hp ho
 go_enter Tryz.func7,Tryz.ntmps7
 go_upto_region 1 with fail
 rw [HW1.out]
 clear HW1 hxo
 go_wp2_with fail
 refine (HPick.out _).mono ?_
 rintro e w1 ⟨rfl,hz⟩
 replace hz:=hz.symm
 subst hz
 have HR0:Hid (W1.rangeAt xo 5 (ct.cells sl)):=(HAt.out _ (Kp.refl _ _)).ct
 go_wp2_with (first
  | (refine wpList_load_mid rfl 46 (.tmp 51) rfl xo (5) rfl (ct.cells sl) _ HR0.out Tryz.underlying46 rfl infoContent ?_)
  | fail)
 refine (HOwn.out _ HK.out).mono ?_
 rintro e wa ⟨so,fa,rfl,hoa,ka⟩
 have HOa:Hid (Own wa W1.heap.size so ct.t fa):=hoa
 have O1:Hid (so.oneCell'=true):=hoa.own.one
 obtain ⟨A,hA⟩:∃ A,wa.alloc (.cells (ct.cells so).toArray 46)=A:=⟨_,rfl⟩
 have HA:Hid (wa.alloc (.cells (ct.cells so).toArray 46)=A):=hA
 have kA:Kp wa A Nul:=by rw [← hA];exact (Kp.refl _ _).alloc _
 have HBx:Hid (Blk A wa.heap.size (ct.cells so) 46):=by show Blk _ _ _ _;rw [← hA];exact Blk.new wa _ _
 have KA:Hid (Kp W1 A Nul):=ka.trans kA
 have HSz:Hid (W1.heap.size≤wa.heap.size∧wa.heap.size < A.heap.size):=⟨ka.size,HBx.out.lt⟩
 have HOA:Hid (Own A W1.heap.size so ct.t fa):=hoa.kp kA (fun _ _ x=>x)
 clear hoa ka hA kA HR0
 go_upto_region 7 with (first
  | (refine wpList_store_new rfl 46 (.tmp 8) (.tmp 53) rfl _ _ _ _ _ (by first|rfl|simp) rfl rfl rfl infoContent (ct.one O1.out) ?_)
  | fail)
 rw [HA.out]
 clear HA
 have HGG:Hid (GG (fun i=>i < W1.heap.size∨A.heap.size≤i) A B g L):=(HP.out.gg.low.nul KA.out).mono (fun i h=>.inl h)
 have HPut:Hid (Calls Tryz.prog 10 #[.pointer (some ⟨g k,0,none⟩),.agg #[.int .i64 c,.int .i64 s],.agg (ct.cells so).toArray] A fun e w'=>∃ L',e=.returned (.int .i64 (re:Nat))∧GridIn w' (fun i=>i < W1.heap.size∨A.heap.size≤i) (g k) L'∧Ok17 L'∧Al L' (rpK (gv ct) (K k) lo c s ct)∧Km (g k) A w'):=by
  have h:=put_err (fun i=>i < W1.heap.size∨A.heap.size≤i) (g k) c s ct so (fun _=>True) (L k) (K k) lo A (HGG.out.gi k hk) (fun i hi=>.inr hi) (HP.out.gg.ok k hk) (HP.out.kk.al k hk) HLo.out HO.out.ok HO.out.vx (HOA.out.own.isIn (fun _ _=>trivial)) (HO.out.vs.kp (HK.out.trans KA.out))
  rw [HRE.out] at h
  exact h
 have o3a:=(HAt.out _ KA.out).c3
 have o4a:=(HAt.out _ KA.out).c4
 have HR1:Hid (A.rangeAt wa.heap.size 0 (ct.cells so)):=HBx.out.all
 go_wp2_with (first
  | (refine wpList_load_mid rfl 46 (.tmp 8) rfl wa.heap.size (0) rfl (ct.cells so) _ HR1.out Tryz.underlying46 rfl infoContent ?_)
  | fail)
 refine HPut.out.mono ?_
 rintro e wb ⟨L',rfl,hgb,hob,hab,hkm⟩
 clear HPut HR1
 obtain ⟨mv,hbg⟩:=(HP.out.gg.g0 hk).blk
 have HBg:Hid (Blk W1 (g k) [.map mv] 68):=hbg
 have HL':Hid (Ok17 L'∧Al L' (rpK (gv ct) (K k) lo c s ct)):=⟨hob,hab⟩
 have HM1:Hid (Km (g k) W1 wb):=(Km.of_nul KA.out hbg.lt).trans hkm
 have HGb:Hid (GG (fun i=>i < W1.heap.size∨A.heap.size≤i) wb B g (upd L k L')):=HGG.out.km (Nat.le_trans HB1.out KA.out.size) hk hkm hgb hob
 have HBx2:Hid (Blk wb wa.heap.size (ct.cells so) 46):=hkm.blk HBx.out (Blk.ne HBx.out (hbg.kp KA.out (fun x=>x)) (by decide))
 have HOp2:Hid (Blk wb xo (opC on 1 nn c s ct sl m1 m2 m3 m4) 50):=HM1.out.blk HOp.out (Blk.ne HOp.out hbg (by decide))
 have HOA2:Hid (Own wb W1.heap.size so ct.t fa):=own_km HOA.out hkm (hbg.kp KA.out (fun x=>x))
 have HKb:Hid (Kp w0 wb Nul):=HK.out.trans' (HP.out.gg.old hk HM1.out) (fun i hi e=>by have e':B≤i:=e;have:=HO.out.lo;omega)
 clear hgb hob hab hkm hbg HGG
 have HR1:Hid (wb.rangeAt wa.heap.size 0 (ct.cells so)):=HBx2.out.all
 have HR2:Hid (wb.rangeAt xo 5 (ct.cells sl)):=(opC_at HOp2.out).ct
 have HJust:Hid (Calls Tryz.prog 19 #[.agg (ct.cells so).toArray,.agg (ct.cells sl).toArray] wb fun e w'=>e=.returned (.bool true)∧Kp wb w' Nul):=just_at ct so sl (fun _=>True) (fun _=>True) wb (HOA2.out.own.isIn (fun _ _=>trivial)) (HIn.out wb HKb.out)
 go_wp2_with (first
  | (refine wpList_load_mid rfl 46 (.tmp 8) rfl wa.heap.size (0) rfl (ct.cells so) _ HR1.out Tryz.underlying46 rfl infoContent ?_)
  | (refine wpList_load_mid rfl 46 (.tmp 60) rfl xo (5) rfl (ct.cells sl) _ HR2.out Tryz.underlying46 rfl infoContent ?_)
  | fail)
 refine HJust.out.mono ?_
 rintro e wc ⟨rfl,kc⟩
 have KC:Hid (Kp wb wc Nul):=kc
 have HR6:Hid (wc.rangeAt wa.heap.size 6 (ct.t.hd.cells so)):=by
  have h:=HBx2.out.kp kc (fun x=>x)
  obtain ⟨k,⟨vk,vx,vs,vb,vf⟩,t⟩:=ct
  exact rangeAt_mid (pre:=[.int .i64 k,.int .i64 vk,.float .f64 vx,.string vs,.bool vb,.int .i64 vf]) (l:=t.hd.cells so) (post:=[]) h
 have HOver:Hid (Calls Tryz.prog 20 #[.agg (ct.t.hd.cells so).toArray] wc fun e w'=>e=.returned (.tuple #[])∧Kp wc w' (fun i=>i∈fa)):=over_any ct.t.size ct.t so fa wc (Nat.le_refl _) HO.out.sz ((HOA2.out.kp kc (fun _ _ x=>x)).le (Nat.zero_le _))
 clear kc HR1 HR2 HJust
 go_wp2_with (first
  | (refine wpList_load_mid rfl 44 (.tmp 63) rfl wa.heap.size (6) rfl (ct.t.hd.cells so) _ HR6.out Tryz.underlying44 rfl infoNode ?_)
  | fail)
 refine HOver.out.mono ?_
 rintro e wd ⟨rfl,kd⟩
 have HFa:Hid (∀ i∈fa,W1.heap.size≤i∧i < wa.heap.size):=fun i hi=>⟨(HOa.out.new i hi).1,(HOa.out.new i hi).2⟩
 have HM4:Hid (Km (g k) W1 wd):=(HM1.out.trans (Km.of_nul KC.out (Nat.lt_of_lt_of_le HBg.out.lt HM1.out.kp.size))).new kd (fun i hi=>(HFa.out i hi).1) HBg.out.lt
 have HGd:Hid (GG (fun i=>i < W1.heap.size∨A.heap.size≤i) wd B g (upd L k L')):=(HGb.out.nul KC.out).far kd (fun i hi e=>by have h1:=HFa.out i e;have h2:=HSz.out;rcases hi with q|q <;> omega)
 have HDd:Hid (DD wd B r v ys):=HP.out.dd.km HM4.out HBg.out
 have HPd:Hid (PP wd B xw bg br g r):=HP.out.pp.km HM4.out HBg.out
 have HOp4:Hid (OpA wd xo on 1 nn c s ct sl m1 m2 m3 m4):=opC_at (HM4.out.blk HOp.out (Blk.ne HOp.out HBg.out (by decide)))
 have HKd:Hid (Kp w0 wd Nul):=HK.out.trans' (HP.out.gg.old hk HM4.out) (fun i hi e=>by have e':B≤i:=e;have:=HO.out.lo;omega)
 have HPut:Hid (Calls Tryz.prog 21 #[.pointer (some ⟨r k,0,none⟩),.agg #[.int .i64 c,.int .i64 s],.agg (ct.cells sl).toArray] wd fun e w'=>∃ v' ys',e=.returned (.int .i64 (re:Nat))∧DG w' B (r k) v' ys'∧ys'.map (·.1)=rpK (gv ct) (K k) lo c s ct∧Kp wd w' (fun i=>i=r k)):=HRPut.out wd HKd.out (Nat.le_trans HB1.out HM4.out.kp.size) (HDd.out.dg k hk)
 have o3d:=HOp4.out.c3
 have o4d:=HOp4.out.c4
 have HR2:Hid (wd.rangeAt xo 5 (ct.cells sl)):=HOp4.out.ct
 clear kd HR6 HOver HRPut
 go_wp2_with (first
  | (refine wpList_load_midG rfl 46 (.tmp 72) rfl xo (5) rfl (ct.cells sl) _ HR2.out Tryz.underlying46 rfl infoContent ?_)
  | fail)
 refine HPut.out.mono ?_
 rintro e we ⟨v',ys',rfl,hde,hye,ke⟩
 have HE:Hid (StR w0 B xw bg br (.returned (.bool true)) we):=by
  have hbr:=(HDd.out.dg k hk).box
  refine ⟨rfl,⟨g,r,upd L k L',upd K k (rpK (gv ct) (K k) lo c s ct),upd v k v',upd ys k ys',((HGd.out.off ke hbr (HDd.out.dg k hk).plain).mono (fun _ _=>Nat.zero_le _)),HDd.out.step hk ke hde,HPd.out.off ke hbr,HP.out.kk.step HL'.out.2 hye (rpK_tx (HP.out.kk.tx k hk) HO.out.tx)⟩,HKd.out.trans' ke (fun i hi e=>?_)⟩
  have e':i=r k:=e
  have h1:=HDd.out.lo k hk
  have h2:=HO.out.lo
  omega
 clear hde hye ke HPut HR2
 go_wp2_with fail
 go_ret
 exact HE.out
theorem al_of {L M K:List Cc} (ha:Al L K) (hL:Ok17 L) (hm:∀ y,y∈M ↔ y∈L) (ho:M.Pairwise (fun x y=>x.1≠y.1)):Al M K∧Ok17 M:=by
 have hnM:(M.map (·.1)).Nodup:=List.pairwise_map.2 ho
 have hnK:(K.map (·.1)).Nodup:=strict_nodup ha.st
 have h1:=nodup_le _ (K.map (·.1)) hnM (fun x hx=>by
  obtain ⟨y,hy,rfl⟩:=List.mem_map.1 hx
  exact List.mem_map.2 ⟨y,(ha.mem y).2 ((hm y).1 hy),rfl⟩)
 have h2:=nodup_le _ (M.map (·.1)) hnK (fun x hx=>by
  obtain ⟨y,hy,rfl⟩:=List.mem_map.1 hx
  exact List.mem_map.2 ⟨y,(hm y).2 ((ha.mem y).1 hy),rfl⟩)
 rw [List.length_map,List.length_map] at h1 h2
 have h3:=ha.len
 have h4:=hL.len
 exact ⟨⟨ha.st,fun x=>(ha.mem x).trans (hm x).symm,by omega⟩,fun x hx=>hL.gd x ((hm x).1 hx),fun x hx=>hL.at' x ((hm x).1 hx),by omega⟩
theorem GridIn.mapF {W:World} {F:Nat→Prop} {g:Nat} {L:List Cc} (h:GridIn W F g L) {m:Nat} (hm:W.heap[g]? = some (.cells #[.map (some m)] 68 (0,0))):F m:=by
 obtain ⟨_,⟨hb,_⟩|⟨m',D,hb,hF,_⟩⟩:=h
 ·rw [hb] at hm;simp at hm
 ·rw [hb] at hm
  have e:m'=m:=by simpa using hm
  subst e
  exact hF
theorem GG.clone {W Wn:World} {B:Nat} {g:Nat→Nat} {L:Nat→List Cc} (h:GG FA W B g L) (hB:B≤W.heap.size) {k j:Nat} (hk:k < 2) (hj:j < 2) (hne:j≠k) (q:Kp W Wn Nul) {gn:Nat} {M:List Cc} (hn:GridIn Wn (fun i=>W.heap.size≤i) gn M) (hM:Ok17 M):GG FA Wn B (upd g j gn) (upd L j M):=by
 have hgn:W.heap.size≤gn:=hn.1
 have hlow:=h.low
 have hkj:∀ i,i < 2→i≠j→i=k:=fun i hi e=>by omega
 have hlk:=h.lt hk
 have hap:Apart Wn (g k) gn:=⟨by omega,fun m h1 h2=>by
  have e1:=hn.mapF h2
  rw [q.block (g k) hlk (fun x=>x)] at h1
  have e2:m < W.heap.size:=(hlow.gi k hk).mapF h1
  have e1':W.heap.size≤m:=e1
  omega⟩
 refine ⟨fun i hi=>?_,fun i hi=>?_,?_,fun i hi=>?_,fun i hi m hm=>?_⟩
 ·by_cases e:i=j
  ·subst e;rw [upd_same,upd_same];exact GridIn.mono hn (fun _ _=>Nat.zero_le _)
  ·rw [upd_other _ _ e,upd_other _ _ e];exact (h.gi i hi).kp q
 ·by_cases e:i=j
  ·subst e;rw [upd_same];exact hM
  ·rw [upd_other _ _ e];exact h.ok i hi
 ·have:(k=0∧j=1)∨(k=1∧j=0):=by omega
  rcases this with ⟨rfl,rfl⟩|⟨rfl,rfl⟩
  ·rw [upd_same,upd_other _ _ (by omega)];exact hap
  ·rw [upd_same,upd_other _ _ (by omega)];exact hap.symm
 ·by_cases e:i=j
  ·subst e;rw [upd_same];omega
  ·rw [upd_other _ _ e];exact h.lo i hi
 ·by_cases e:i=j
  ·subst e
   rw [upd_same] at hm
   have e1:W.heap.size≤m:=hn.mapF hm
   omega
  ·rw [upd_other _ _ e,q.block (g i) (h.lt hi) (fun x=>x)] at hm
   exact h.mp i hi m hm
theorem DD.off {W W':World} {B b:Nat} {r:Nat→Nat} {v:Nat→Value} {ys:Nat→List (Cc×Value)} {cs:Array Value} {ty:TypeId} (h:DD W B r v ys) (k:Kp W W' (fun i=>i=b)) (hb:W.heap[b]? = some (.cells cs ty (0,0))) (hp:Plain cs) (ht:ty ≠ 84) (hr:∀ j,j < 2→r j≠b):DD W' B r v ys:=⟨fun j hj=>(h.dg j hj).off k hb hp ht (hr j hj),h.ne,h.lo⟩
theorem DD.clone {W Wn:World} {B:Nat} {r:Nat→Nat} {v:Nat→Value} {ys:Nat→List (Cc×Value)} (h:DD W B r v ys) (hB:B≤W.heap.size) {k j:Nat} (hk:k < 2) (hj:j < 2) (hne:j≠k) (q:Kp W Wn Nul) {rn:Nat} {vn:Value} {zs:List (Cc×Value)} (hr:W.heap.size≤rn) (hn:DG Wn W.heap.size rn vn zs):DD Wn B (upd r j rn) (upd v j vn) (upd ys j zs):=by
 have hlk:r k < W.heap.size:=(h.dg k hk).box.lt
 refine ⟨fun i hi=>?_,?_,fun i hi=>?_⟩
 ·by_cases e:i=j
  ·subst e;rw [upd_same,upd_same,upd_same];exact hn.down hB
  ·rw [upd_other _ _ e,upd_other _ _ e,upd_other _ _ e];exact (h.dg i hi).kp q
 ·have:(k=0∧j=1)∨(k=1∧j=0):=by omega
  rcases this with ⟨rfl,rfl⟩|⟨rfl,rfl⟩
  ·rw [upd_same,upd_other _ _ (by omega)];omega
  ·rw [upd_same,upd_other _ _ (by omega)];omega
 ·by_cases e:i=j
  ·subst e;rw [upd_same];omega
  ·rw [upd_other _ _ e];exact h.lo i hi
theorem set_two {α:Type} (f:Nat→α) (g:Nat→Nat) (x:Nat) {j:Nat} (hj:j < 2):[f (g 0),f (g 1)].set j (f x)=[f (upd g j x 0),f (upd g j x 1)]:=by
 have:j=0∨j=1:=by omega
 rcases this with rfl|rfl
 ·rfl
 ·rfl
theorem ne_ptr17 (g:Nat) (w:World):(binOp .neq 25 (.pointer (some ⟨g,0,none⟩)) (.pointer none)).run Tryz.prog w=.ok (.bool true) w:=by
 simp [go_sem]
theorem step_clone (w0 w:World) (B xw bg br:Nat) (g r:Nat→Nat) (L K:Nat→List Cc) (v:Nat→Value) (ys:Nat→List (Cc×Value)) (on nn c s:Int) (ct:Ct) (sl:Value) (m1 m2 m3 m4:Int) (hP:PlayS w B xw bg br g r L K v ys) (hO:OpIn w0 B on nn c s ct sl) (hw:Kp w0 w Nul) :
  Calls Tryz.prog 7 #[.pointer (some ⟨xw,0,none⟩),.agg (opC on 5 nn c s ct sl m1 m2 m3 m4).toArray] w (StR w0 B xw bg br):=by
 obtain ⟨k,hk,hpk⟩:=pk2 on
 have HPick:Hid (∀ wq,Calls Tryz.prog 17 #[.int .i64 on,.int .i64 2] wq fun e w'=>e=.returned (.int .i64 (k:Int))∧w'=wq):=fun wq=>by
  rw [← hpk]
  exact pick_n on 2 hO.on (by decide) wq
 obtain ⟨xo,hxo⟩:∃ xo,w.heap.size=xo:=⟨_,rfl⟩
 obtain ⟨W1,hW1⟩:∃ W1,w.alloc (.cells (opC on 5 nn c s ct sl m1 m2 m3 m4).toArray 50)=W1:=⟨_,rfl⟩
 have HW1:Hid (w.alloc (.cells (opC on 5 nn c s ct sl m1 m2 m3 m4).toArray 50)=W1):=hW1
 have k1:Kp w W1 Nul:=by rw [← hW1];exact (Kp.refl w Nul).alloc _
 have HOp:Hid (Blk W1 xo (opC on 5 nn c s ct sl m1 m2 m3 m4) 50):=by show Blk _ _ _ _;rw [← hW1,← hxo];exact Blk.new w _ _
 have HP:Hid (PlayS W1 B xw bg br g r L K v ys):=hP.nul k1
 have HK:Hid (Kp w0 W1 Nul):=hw.trans k1
 have HO:Hid (OpIn w0 B on nn c s ct sl):=hO
 have HB1:Hid (B≤W1.heap.size):=by show _≤_;have h1:=hP.pp.lo.1;have h2:=HP.out.pp.xs.lt;omega
 have hp:=(hP.pp.nul k1).at'
 obtain ⟨p0,p1⟩:W1.cell? ⟨xw,0,none⟩=some (.slice (some ⟨bg,0,none⟩) 2 2)∧W1.cell? ⟨xw,1,none⟩=some (.slice (some ⟨br,0,none⟩) 2 2):=⟨hp.x0,hp.x1⟩
 have pg:=hp.g k hk
 have pr:=hp.r k hk
 have ho:=opC_at HOp.out
 have o0:=ho.c0
 have o1:=ho.c1
 have o2:=ho.c2
 have o3:=ho.c3
 have o4:=ho.c4
 have hk0:(0:Int)≤(k:Int):=by omega
 have hk2:(k:Int) < 2:=by omega
 have HAt:Hid (∀ wq,Kp W1 wq Nul→OpA wq xo on 5 nn c s ct sl m1 m2 m3 m4):=fun wq q=>opC_at (HOp.out.kp q (fun x=>x))
 obtain ⟨j,hj⟩:∃ j:Nat,j+k=1:=⟨1 - k,by omega⟩
 have hj2:j < 2:=by omega
 have hjk:j≠k:=by omega
 have hsub:(1:Int) - (k:Int)=(j:Int):=by omega
 have hj0:(0:Int)≤(j:Int):=by omega
 have hj3:(j:Int) < 2:=by omega
 have HJ:Hid (j < 2∧j≠k∧(0:Int)≤(j:Int)∧(j:Int) < 2∧(1:Int) - (k:Int)=(j:Int)):=⟨hj2,hjk,hj0,hj3,hsub⟩
 have HWj:Hid (IntKind.i64.wrap (j:Int)=(j:Int)):=by
  show _=_
  have:j=0∨j=1:=by omega
  rcases this with rfl|rfl <;> rfl
 have HCl:Hid (∀ wq,Kp W1 wq Nul→Calls Tryz.prog 26 #[.pointer (some ⟨g k,0,none⟩)] wq fun e w'=>∃ gn M,e=.returned (.pointer (some ⟨gn,0,none⟩))∧GridIn w' (fun i=>W1.heap.size≤i) gn M∧Ok17 M∧Al M (K k)∧Kp wq w' Nul):=fun wq q=>by
  refine (clone_at (g k) (L k) wq ((HP.out.gg.g0 hk).kp q) (HP.out.gg.ok k hk)).mono ?_
  rintro e w' ⟨M,h1,h2,h3,h4⟩
  have hg:=GridIn.mono h2 (fun i hi=>Nat.le_trans q.size hi)
  obtain ⟨a1,a2⟩:=al_of (HP.out.kk.al k hk) (HP.out.gg.ok k hk) h3 (GI.once (GridIn.mono h2 (fun _ _=>Nat.zero_le _)))
  exact ⟨_,M,h1,hg,a2,a1,h4⟩
 have HRCl:Hid (∀ wq,Kp W1 wq Nul→Calls Tryz.prog 27 #[.pointer (some ⟨r k,0,none⟩)] wq fun e w'=>∃ rn vn,e=.returned (.pointer (some ⟨rn,0,none⟩))∧wq.heap.size≤rn∧DG w' wq.heap.size rn vn (ys k)∧Kp wq w' Nul):=fun wq q=>rclone_at B (r k) (v k) (ys k) wq ((HP.out.dd.dg k hk).kp q) (by have h1:=(HP.out.kk.al k hk).len;have h2:=(HP.out.gg.ok k hk).len;have h3:=congrArg List.length (HP.out.kk.ks k hk);rw [List.length_map] at h3;omega)
 generalize (opC on 5 nn c s ct sl m1 m2 m3 m4).toArray=oc at *
 clear hP hO hw hpk hW1 k1 hp ho
 go_enter Tryz.func7,Tryz.ntmps7
 go_upto_region 1 with fail
 rw [HW1.out]
 clear HW1 hxo
 go_wp2_with fail
 refine (HPick.out _).mono ?_
 rintro e w1 ⟨rfl,hz⟩
 replace hz:=hz.symm
 subst hz
 go_upto_region 31 with fail
 have HX0:Hid (∀ wq,Kp W1 wq (fun i=>i=bg)→wq.cell? ⟨xw,0,none⟩=some (.slice (some ⟨bg,0,none⟩) 2 2)):=fun wq q=>(HP.out.pp.xs.kp q (Blk.ne HP.out.pp.xs HP.out.pp.gs (by decide))).cell rfl
 refine wp_region_noPanic ?_
 refine wp_region_hel (fun w':World=>Kp W1 w' (fun i=>i=bg)) (by kernel_rfl) ((Kp.refl _ _).drew) (fun hHeld=>?_)
 refine wpH_takes (i:=0) (v:=.pointer (some ⟨xw,0,none⟩)) (some 184) rfl rfl (by kernel_rfl) (by kernel_rfl) (by kernel_rfl) (fun _ _ _ h=>h) (Or.inl ⟨by rfl,?_⟩) hHeld ?_
 ·intro w' hSw;clear hSw;go_simp
 simp only [Act.put,List.setIfInBounds_toArray,List.set_cons_zero,List.set_cons_succ]
 refine wpH_takes (i:=1) (v:=.pointer (some ⟨xw,0,none⟩)) (some 185) rfl rfl (by kernel_rfl) (by kernel_rfl) (by kernel_rfl) (fun _ _ _ h=>h) (Or.inl ⟨by rfl,?_⟩) hHeld ?_
 ·intro w' hSw;clear hSw;go_simp
 simp only [Act.put,List.setIfInBounds_toArray,List.set_cons_zero,List.set_cons_succ]
 refine wpH_takes (i:=2) (v:=.pointer (some ⟨xw,0,none⟩)) (some 186) rfl rfl (by kernel_rfl) (by kernel_rfl) (by kernel_rfl) (fun _ _ _ h=>h) (Or.inl ⟨by rfl,?_⟩) hHeld ?_
 ·intro w' hSw;clear hSw;go_simp
 simp only [Act.put,List.setIfInBounds_toArray,List.set_cons_zero,List.set_cons_succ]
 refine wpH_takes (i:=3) (v:=.slice (some ⟨bg,0,none⟩) 2 2) (some 187) rfl rfl (by kernel_rfl) (by kernel_rfl) (by kernel_rfl) (fun _ _ _ h=>h) (Or.inl ⟨by rfl,?_⟩) hHeld ?_
 ·intro w' hSw;have s0:=(HX0.out w' hSw);clear hSw;go_simp
 simp only [Act.put,List.setIfInBounds_toArray,List.set_cons_zero,List.set_cons_succ]
 refine wpH_takes (i:=4) (v:=.int .i64 (k:Nat)) (some 188) rfl rfl (by kernel_rfl) (by kernel_rfl) (by kernel_rfl) (fun _ _ _ h=>h) (Or.inl ⟨by rfl,?_⟩) hHeld ?_
 ·intro w' hSw;clear hSw;go_simp
 simp only [Act.put,List.setIfInBounds_toArray,List.set_cons_zero,List.set_cons_succ]
 refine wpH_takes (i:=5) (v:=.int .i64 (j:Nat)) (some 189) rfl rfl (by kernel_rfl) (by kernel_rfl) (by kernel_rfl) (fun _ _ _ h=>h) (Or.inl ⟨by rfl,?_⟩) hHeld ?_
 ·intro w' hSw;have s0:=HJ.out.2.2.2.2;clear hSw;go_simp;exact HWj.out
 simp only [Act.put,List.setIfInBounds_toArray,List.set_cons_zero,List.set_cons_succ]
 refine wpH_takes (i:=6) (v:=.pointer (some ⟨g k,0,none⟩)) (some 190) rfl rfl (by kernel_rfl) (by kernel_rfl) (by kernel_rfl) (fun _ _ _ h=>h) (Or.inl ⟨by rfl,?_⟩) hHeld ?_
 ·intro w' hSw;clear hSw;go_simp
 simp only [Act.put,List.setIfInBounds_toArray,List.set_cons_zero,List.set_cons_succ]
 refine wpH_step (i:=7) (by kernel_rfl) rfl rfl (fun KK hKK=>?_)
 go_simp
 refine (HCl.out _ ((Kp.refl W1 Nul).drew)).mono ?_
 rintro e wa ⟨gn,M,rfl,hgn,hMo,hMa,ka⟩
 have KA:Hid (Kp W1 wa Nul):=((Kp.refl W1 Nul).drew).trans ka
 have HM:Hid (Ok17 M∧Al M (K k)):=⟨hMo,hMa⟩
 have HGa:Hid (GG FA wa B (upd g j gn) (upd L j M)):=HP.out.gg.clone HB1.out hk hj2 hjk KA.out hgn hMo
 refine hKK.out _ _ KA.out.of_nul (fun hHeld=>?_)
 clear hKK KK ka hgn hMo hMa
 (try simp only [Act.put,List.setIfInBounds_toArray,List.set_cons_zero,List.set_cons_succ])
 refine wpH_takes (i:=8) (v:=.pointer (some ⟨bg,j,none⟩)) (some 192) rfl rfl (by kernel_rfl) (by kernel_rfl) (by kernel_rfl) (fun _ _ _ h=>h) (Or.inl ⟨by rfl,?_⟩) hHeld ?_
 ·intro w' hSw;have s0:=HJ.out.2.2.1;have s1:=HJ.out.2.2.2.1;clear hSw;go_simp
 simp only [Act.put,List.setIfInBounds_toArray,List.set_cons_zero,List.set_cons_succ]
 refine wpH_step (i:=9) (by kernel_rfl) rfl rfl (fun KK hKK=>?_)
 have hbs:=(HP.out.pp.nul KA.out).gs
 have c0:wa.cell? ⟨bg,j,none⟩=some (.pointer (some ⟨g j,0,none⟩)):=(HP.out.pp.nul KA.out).at'.g j hj2
 have f0:wa.frozen? ⟨bg,j,none⟩=false:=hbs.froz j
 obtain ⟨wb,hwb⟩:∃ wb,wa.setCell ⟨bg,j,none⟩ (.pointer (some ⟨gn,0,none⟩))=wb:=⟨_,rfl⟩
 have HWb:Hid (wa.setCell ⟨bg,j,none⟩ (.pointer (some ⟨gn,0,none⟩))=wb):=hwb
 have kb:Kp wa wb (fun i=>i=bg):=by rw [← hwb];exact (Kp.refl wa (fun i=>i=bg)).setCell _ _ (.inr rfl)
 have HKb:Hid (Kp wa wb (fun i=>i=bg)):=kb
 have HGb:Hid (GG FA wb B (upd g j gn) (upd L j M)):=HGa.out.off kb hbs plain_ptrs
 have HDb:Hid (DD wb B r v ys):=(HP.out.dd.nul KA.out).off kb hbs plain_ptrs (by decide) (fun q hq=>Blk.ne ((HP.out.dd.nul KA.out).dg q hq).box hbs (by decide))
 have HPb:Hid (PP wb B xw bg br (upd g j gn) r):=by
  have hp:=HP.out.pp.nul KA.out
  refine ⟨hp.xs.kp kb (Blk.ne hp.xs hbs (by decide)),?_,hp.rs.kp kb (Blk.ne hp.rs hbs (by decide)),hp.lo⟩
  have h:=hbs.set j (.pointer (some ⟨gn,0,none⟩))
  rw [hwb,set_two (fun x=>Value.pointer (some ⟨x,0,none⟩)) g gn hj2] at h
  exact h
 have HRb:Hid (∀ wq,Kp wb wq Nul→Calls Tryz.prog 27 #[.pointer (some ⟨r k,0,none⟩)] wq fun e w'=>∃ rn vn,e=.returned (.pointer (some ⟨rn,0,none⟩))∧wq.heap.size≤rn∧DG w' wq.heap.size rn vn (ys k)∧Kp wq w' Nul):=fun wq q=>rclone_at B (r k) (v k) (ys k) wq ((HDb.out.dg k hk).kp q) (by have h1:=(HP.out.kk.al k hk).len;have h2:=(HP.out.gg.ok k hk).len;have h3:=congrArg List.length (HP.out.kk.ks k hk);rw [List.length_map] at h3;omega)
 have HBb:Hid (B≤wb.heap.size):=Nat.le_trans HB1.out (Nat.le_trans KA.out.size kb.size)
 have HKw:Hid (Kp w0 wb Nul):=(HK.out.trans KA.out).trans' kb (fun i hi e=>by have e':i=bg:=e;have h1:=HP.out.pp.lo.2.1;have h2:=HO.out.lo;omega)
 clear hbs hwb kb
 go_simp
 rw [HWb.out]
 refine hKK.out _ _ (KA.out.of_nul.trans HKb.out) (fun hHeld=>?_)
 clear hKK KK c0 f0
 refine wpAnyH_done (by kernel_rfl) ?_ _
 refine NoPanic.normal ?_
 clear hHeld HX0
 go_upto_region 32 with fail
 have HX1:Hid (∀ wq,Kp wb wq (fun i=>i=br)→wq.cell? ⟨xw,1,none⟩=some (.slice (some ⟨br,0,none⟩) 2 2)):=fun wq q=>(HPb.out.xs.kp q (Blk.ne HPb.out.xs HPb.out.rs (by decide))).cell rfl
 refine wp_region_noPanic ?_
 refine wp_region_hel (fun w':World=>Kp wb w' (fun i=>i=br)) (by kernel_rfl) ((Kp.refl _ _).drew) (fun hHeld=>?_)
 refine wpH_takes (i:=0) (v:=.pointer (some ⟨xw,0,none⟩)) (some 193) rfl rfl (by kernel_rfl) (by kernel_rfl) (by kernel_rfl) (fun _ _ _ h=>h) (Or.inl ⟨by rfl,?_⟩) hHeld ?_
 ·intro w' hSw;clear hSw;go_simp
 simp only [Act.put,List.setIfInBounds_toArray,List.set_cons_zero,List.set_cons_succ]
 refine wpH_takes (i:=1) (v:=.pointer (some ⟨xw,0,none⟩)) (some 194) rfl rfl (by kernel_rfl) (by kernel_rfl) (by kernel_rfl) (fun _ _ _ h=>h) (Or.inl ⟨by rfl,?_⟩) hHeld ?_
 ·intro w' hSw;clear hSw;go_simp
 simp only [Act.put,List.setIfInBounds_toArray,List.set_cons_zero,List.set_cons_succ]
 refine wpH_takes (i:=2) (v:=.pointer (some ⟨xw,1,none⟩)) (some 195) rfl rfl (by kernel_rfl) (by kernel_rfl) (by kernel_rfl) (fun _ _ _ h=>h) (Or.inl ⟨by rfl,?_⟩) hHeld ?_
 ·intro w' hSw;clear hSw;go_simp
 simp only [Act.put,List.setIfInBounds_toArray,List.set_cons_zero,List.set_cons_succ]
 refine wpH_takes (i:=3) (v:=.slice (some ⟨br,0,none⟩) 2 2) (some 196) rfl rfl (by kernel_rfl) (by kernel_rfl) (by kernel_rfl) (fun _ _ _ h=>h) (Or.inl ⟨by rfl,?_⟩) hHeld ?_
 ·intro w' hSw;have s0:=(HX1.out w' hSw);clear hSw;go_simp
 simp only [Act.put,List.setIfInBounds_toArray,List.set_cons_zero,List.set_cons_succ]
 refine wpH_takes (i:=4) (v:=.int .i64 (k:Nat)) (some 197) rfl rfl (by kernel_rfl) (by kernel_rfl) (by kernel_rfl) (fun _ _ _ h=>h) (Or.inl ⟨by rfl,?_⟩) hHeld ?_
 ·intro w' hSw;clear hSw;go_simp
 simp only [Act.put,List.setIfInBounds_toArray,List.set_cons_zero,List.set_cons_succ]
 refine wpH_takes (i:=5) (v:=.int .i64 (j:Nat)) (some 198) rfl rfl (by kernel_rfl) (by kernel_rfl) (by kernel_rfl) (fun _ _ _ h=>h) (Or.inl ⟨by rfl,?_⟩) hHeld ?_
 ·intro w' hSw;have s0:=HJ.out.2.2.2.2;clear hSw;go_simp;exact HWj.out
 simp only [Act.put,List.setIfInBounds_toArray,List.set_cons_zero,List.set_cons_succ]
 refine wpH_takes (i:=6) (v:=.pointer (some ⟨r k,0,none⟩)) (some 199) rfl rfl (by kernel_rfl) (by kernel_rfl) (by kernel_rfl) (fun _ _ _ h=>h) (Or.inl ⟨by rfl,?_⟩) hHeld ?_
 ·intro w' hSw;clear hSw;go_simp
 simp only [Act.put,List.setIfInBounds_toArray,List.set_cons_zero,List.set_cons_succ]
 refine wpH_step (i:=7) (by kernel_rfl) rfl rfl (fun KK hKK=>?_)
 go_simp
 refine (HRb.out _ ((Kp.refl wb Nul).drew)).mono ?_
 rintro e wc ⟨rn,vn,rfl,hrn,hdn,kc⟩
 have KC:Hid (Kp wb wc Nul):=((Kp.refl wb Nul).drew).trans kc
 have HDc:Hid (DD wc B (upd r j rn) (upd v j vn) (upd ys j (ys k))):=HDb.out.clone HBb.out hk hj2 hjk KC.out hrn hdn
 refine hKK.out _ _ KC.out.of_nul (fun hHeld=>?_)
 clear hKK KK kc hrn hdn
 (try simp only [Act.put,List.setIfInBounds_toArray,List.set_cons_zero,List.set_cons_succ])
 refine wpH_takes (i:=8) (v:=.pointer (some ⟨br,j,none⟩)) (some 201) rfl rfl (by kernel_rfl) (by kernel_rfl) (by kernel_rfl) (fun _ _ _ h=>h) (Or.inl ⟨by rfl,?_⟩) hHeld ?_
 ·intro w' hSw;have s0:=HJ.out.2.2.1;have s1:=HJ.out.2.2.2.1;clear hSw;go_simp
 simp only [Act.put,List.setIfInBounds_toArray,List.set_cons_zero,List.set_cons_succ]
 refine wpH_step (i:=9) (by kernel_rfl) rfl rfl (fun KK hKK=>?_)
 have hbs:=(HPb.out.nul KC.out).rs
 have c0:wc.cell? ⟨br,j,none⟩=some (.pointer (some ⟨r j,0,none⟩)):=(HPb.out.nul KC.out).at'.r j hj2
 have f0:wc.frozen? ⟨br,j,none⟩=false:=hbs.froz j
 obtain ⟨wd,hwd⟩:∃ wd,wc.setCell ⟨br,j,none⟩ (.pointer (some ⟨rn,0,none⟩))=wd:=⟨_,rfl⟩
 have HWd:Hid (wc.setCell ⟨br,j,none⟩ (.pointer (some ⟨rn,0,none⟩))=wd):=hwd
 have kd:Kp wc wd (fun i=>i=br):=by rw [← hwd];exact (Kp.refl wc (fun i=>i=br)).setCell _ _ (.inr rfl)
 have HKd:Hid (Kp wc wd (fun i=>i=br)):=kd
 have HPd:Hid (PP wd B xw bg br (upd g j gn) (upd r j rn)):=by
  have hp:=HPb.out.nul KC.out
  refine ⟨hp.xs.kp kd (Blk.ne hp.xs hbs (by decide)),hp.gs.kp kd (Blk.ne hp.gs hbs (by decide)),?_,hp.lo⟩
  have h:=hbs.set j (.pointer (some ⟨rn,0,none⟩))
  rw [hwd,set_two (fun x=>Value.pointer (some ⟨x,0,none⟩)) r rn hj2] at h
  exact h
 have HE:Hid (StR w0 B xw bg br (.returned (.bool true)) wd):=by
  refine ⟨rfl,⟨upd g j gn,upd r j rn,upd L j M,upd K j (K k),upd v j vn,upd ys j (ys k),(HGb.out.nul KC.out).off kd hbs plain_ptrs,HDc.out.off kd hbs plain_ptrs (by decide) (fun q hq=>Blk.ne (HDc.out.dg q hq).box hbs (by decide)),HPd.out,HP.out.kk.step HM.out.2 (HP.out.kk.ks k hk) (HP.out.kk.tx k hk)⟩,(HKw.out.trans KC.out).trans' kd (fun i hi e=>?_)⟩
  have e':i=br:=e
  have h1:=HP.out.pp.lo.2.2
  have h2:=HO.out.lo
  omega
 clear hbs hwd kd
 go_simp
 rw [HWd.out]
 refine hKK.out _ _ (KC.out.of_nul.trans HKd.out) (fun hHeld=>?_)
 clear hKK KK c0 f0
 refine wpAnyH_done (by kernel_rfl) ?_ _
 refine NoPanic.normal ?_
 clear hHeld HX1
 have x0:=HPd.out.at'.x0
 have xj:wd.cell? ⟨bg,j,none⟩=some (.pointer (some ⟨gn,0,none⟩)):=by
  have h:=HPd.out.at'.g j hj2
  rw [upd_same] at h
  exact h
 have hne:=fun wq=>ne_ptr17 gn wq
 have hwj:=HWj.out
 go_wp2_with fail
 go_ret
 exact HE.out
theorem step_there (w0 w:World) (B xw bg br:Nat) (g r:Nat→Nat) (L K:Nat→List Cc) (v:Nat→Value) (ys:Nat→List (Cc×Value)) (on nn c s:Int) (ct:Ct) (sl:Value) (m1 m2 m3 m4:Int) (hP:PlayS w B xw bg br g r L K v ys) (hO:OpIn w0 B on nn c s ct sl) (hw:Kp w0 w Nul) :
  Calls Tryz.prog 7 #[.pointer (some ⟨xw,0,none⟩),.agg (opC on 7 nn c s ct sl m1 m2 m3 m4).toArray] w (StR w0 B xw bg br):=by
 obtain ⟨k,hk,hpk⟩:=pk2 on
 have HPick:Hid (∀ wq,Calls Tryz.prog 17 #[.int .i64 on,.int .i64 2] wq fun e w'=>e=.returned (.int .i64 (k:Int))∧w'=wq):=fun wq=>by
  rw [← hpk]
  exact pick_n on 2 hO.on (by decide) wq
 obtain ⟨xo,hxo⟩:∃ xo,w.heap.size=xo:=⟨_,rfl⟩
 obtain ⟨W1,hW1⟩:∃ W1,w.alloc (.cells (opC on 7 nn c s ct sl m1 m2 m3 m4).toArray 50)=W1:=⟨_,rfl⟩
 have HW1:Hid (w.alloc (.cells (opC on 7 nn c s ct sl m1 m2 m3 m4).toArray 50)=W1):=hW1
 have k1:Kp w W1 Nul:=by rw [← hW1];exact (Kp.refl w Nul).alloc _
 have HOp:Hid (Blk W1 xo (opC on 7 nn c s ct sl m1 m2 m3 m4) 50):=by show Blk _ _ _ _;rw [← hW1,← hxo];exact Blk.new w _ _
 have HP:Hid (PlayS W1 B xw bg br g r L K v ys):=hP.nul k1
 have HK:Hid (Kp w0 W1 Nul):=hw.trans k1
 have HO:Hid (OpIn w0 B on nn c s ct sl):=hO
 have HB1:Hid (B≤W1.heap.size):=by show _≤_;have h1:=hP.pp.lo.1;have h2:=HP.out.pp.xs.lt;omega
 have hp:=(hP.pp.nul k1).at'
 obtain ⟨p0,p1⟩:W1.cell? ⟨xw,0,none⟩=some (.slice (some ⟨bg,0,none⟩) 2 2)∧W1.cell? ⟨xw,1,none⟩=some (.slice (some ⟨br,0,none⟩) 2 2):=⟨hp.x0,hp.x1⟩
 have pg:=hp.g k hk
 have pr:=hp.r k hk
 have ho:=opC_at HOp.out
 have o0:=ho.c0
 have o1:=ho.c1
 have o2:=ho.c2
 have o3:=ho.c3
 have o4:=ho.c4
 have hk0:(0:Int)≤(k:Int):=by omega
 have hk2:(k:Int) < 2:=by omega
 have HAt:Hid (∀ wq,Kp W1 wq Nul→OpA wq xo on 7 nn c s ct sl m1 m2 m3 m4):=fun wq q=>opC_at (HOp.out.kp q (fun x=>x))
 obtain ⟨lo,hlo⟩:=place_ex (c,s) (HP.out.kk.al k hk).st
 have HLo:Hid (Place (K k) (c,s) lo):=hlo
 obtain ⟨u,hRd,hux,huo,husz,hucp,hget⟩:=get17 (g k) (L k) W1 (HP.out.gg.g0 hk) (HP.out.gg.ok k hk) c s hO.c hO.s
 have HTx:Hid (Tx u):=by
  rcases hRd with q|q
  ·exact HP.out.kk.tx k hk _ (((HP.out.kk.al k hk).mem _).2 q)
  ·rw [q.1];exact Tx.zero
 have HGet:Hid (∀ wq,Kp W1 wq Nul→Calls Tryz.prog 13 #[.pointer (some ⟨g k,0,none⟩),.agg ([.int .i64 c,.int .i64 s]).toArray] wq fun e w'=>∃ sl' fp,e=.returned (.agg (u.cells sl').toArray)∧Own w' wq.heap.size sl' u.t fp∧Kp wq w' Nul):=hget
 have HRGet:Hid (∀ wq,DG wq B (r k) (v k) (ys k)→Calls Tryz.prog 22 #[.pointer (some ⟨r k,0,none⟩),.agg ([.int .i64 c,.int .i64 s]).toArray] wq fun e w'=>∃ sl' fp,e=.returned (.agg (u.cells sl').toArray)∧Own w' wq.heap.size sl' u.t fp∧Kp wq w' Nul):=fun wq hd=>by
  refine (rget_at B (r k) (v k) (ys k) (K k) c s wq hd (HP.out.kk.ks k hk) ?_ (HP.out.kk.al k hk).st ?_).mono ?_
  ·have h1:=(HP.out.kk.al k hk).len;have h2:=(HP.out.gg.ok k hk).len;omega
  ·intro x hx
   have hg:=(HP.out.gg.ok k hk).gd x (((HP.out.kk.al k hk).mem x).1 hx)
   exact ⟨hg.x,hg.size,hg.ok⟩
  ·rintro e w' ⟨lo,sl',fp,hlo,rfl,h1,h2⟩
   rw [get_same (HP.out.kk.al k hk) (HP.out.gg.ok k hk) (HP.out.gg.g0 hk).once hRd hlo] at h1 ⊢
   exact ⟨sl',fp,rfl,h1,h2⟩
 have HRPut:Hid (∀ wq su,B≤wq.heap.size→DG wq B (r k) (v k) (ys k)→NdIn wq (fun _=>True) su u.t→Calls Tryz.prog 21 #[.pointer (some ⟨r k,0,none⟩),.agg ([.int .i64 c,.int .i64 s]).toArray,.agg (u.cells su).toArray] wq fun e w'=>∃ v' ys',e=.returned (.int .i64 (rpE (gv u) (K k) lo c s u:Nat))∧DG w' B (r k) v' ys'∧ys'.map (·.1)=rpK (gv u) (K k) lo c s u∧Kp wq w' (fun i=>i=r k)):=fun wq su hb hd hin=>by
  refine (rput_at B (r k) (v k) (ys k) (K k) c s u su (gv u) wq hd (HP.out.kk.ks k hk) hb (by have h1:=(HP.out.kk.al k hk).len;have h2:=(HP.out.gg.ok k hk).len;omega) (HP.out.kk.al k hk).st (fun wz kz=>rgv_at u su (fun _=>True) wz husz huo HTx.out.1 HTx.out.2 (hin.kp kz (fun _ _ x=>x))) (fun _ wz kz=>(rcCopy_at u su (fun _=>True) wz hux husz huo (hin.kp kz (fun _ _ x=>x))).mono (by
   rintro e w' ⟨sl',fp,h1,h2,h3⟩
   exact ⟨sl',fp,h1,h2,Kp.of_below h3⟩)) hin.one).mono ?_
  rintro e w' ⟨lo',v',ys',h1,h2,h3,h4,h5⟩
  have e1:=Place.uniq h1 HLo.out
  subst e1
  exact ⟨v',ys',h2,h3,h4,h5⟩
 have HU:Hid (u.t.ok∧u.v.x < 18446744073709551616):=⟨huo,hux⟩
 generalize hRE:rpE (gv u) (K k) lo c s u=re at *
 have HRE:Hid (rpE (gv u) (K k) lo c s u=re):=hRE
 clear hRE hlo hRd hux huo husz hucp hget
 generalize (opC on 7 nn c s ct sl m1 m2 m3 m4).toArray=oc at *
 clear hP hO hw hpk hW1 k1 hp ho
 go_enter Tryz.func7,Tryz.ntmps7
 go_upto_region 1 with fail
 rw [HW1.out]
 clear HW1 hxo
 go_wp2_with fail
 refine (HPick.out _).mono ?_
 rintro e w1 ⟨rfl,hz⟩
 replace hz:=hz.symm
 subst hz
 go_upto_region 42 with fail
 refine wp_region_noPanic ?_
 refine wp_region_hel (fun w':World=>OpA w' xo on 7 nn c s ct sl m1 m2 m3 m4) (by kernel_rfl) (HAt.out _ ((Kp.refl _ _).drew)) (fun hHeld=>?_)
 refine wpH_takes (i:=0) (v:=.pointer (some ⟨g k,0,none⟩)) (some 291) rfl rfl (by kernel_rfl) (by kernel_rfl) (by kernel_rfl) (fun _ _ _ h=>h) (Or.inl ⟨by rfl,?_⟩) hHeld ?_
 ·intro w' hSw;clear hSw;go_simp
 simp only [Act.put,List.setIfInBounds_toArray,List.set_cons_zero,List.set_cons_succ]
 refine wpH_takes (i:=1) (v:=.pointer (some ⟨xo,3,none⟩)) (some 292) rfl rfl (by kernel_rfl) (by kernel_rfl) (by kernel_rfl) (fun _ _ _ h=>h) (Or.inl ⟨by rfl,?_⟩) hHeld ?_
 ·intro w' hSw;clear hSw;go_simp
 simp only [Act.put,List.setIfInBounds_toArray,List.set_cons_zero,List.set_cons_succ]
 refine wpH_takes (i:=2) (v:=.agg ([.int .i64 c,.int .i64 s]).toArray) (some 293) rfl rfl (by kernel_rfl) (by kernel_rfl) (by kernel_rfl) (fun _ _ _ h=>h) (Or.inl ⟨by rfl,fun w' hSw=>exec_load_row 36 (.tmp 292) rfl xo 3 rfl ([.int .i64 c,.int .i64 s]) _ (hSw.at') Tryz.underlying36 rfl infoAddr2⟩) hHeld ?_
 simp only [Act.put,List.setIfInBounds_toArray,List.set_cons_zero,List.set_cons_succ]
 refine wpH_takes (i:=3) (v:=.pointer (some ⟨g k,0,none⟩)) (some 294) rfl rfl (by kernel_rfl) (by kernel_rfl) (by kernel_rfl) (fun _ _ _ h=>h) (Or.inl ⟨by rfl,?_⟩) hHeld ?_
 ·intro w' hSw;clear hSw;go_simp
 simp only [Act.put,List.setIfInBounds_toArray,List.set_cons_zero,List.set_cons_succ]
 refine wpH_takes (i:=4) (v:=.pointer (some ⟨xo,3,none⟩)) (some 295) rfl rfl (by kernel_rfl) (by kernel_rfl) (by kernel_rfl) (fun _ _ _ h=>h) (Or.inl ⟨by rfl,?_⟩) hHeld ?_
 ·intro w' hSw;clear hSw;go_simp
 simp only [Act.put,List.setIfInBounds_toArray,List.set_cons_zero,List.set_cons_succ]
 refine wpH_takes (i:=5) (v:=.agg ([.int .i64 c,.int .i64 s]).toArray) (some 296) rfl rfl (by kernel_rfl) (by kernel_rfl) (by kernel_rfl) (fun _ _ _ h=>h) (Or.inl ⟨by rfl,fun w' hSw=>exec_load_row 36 (.tmp 295) rfl xo 3 rfl ([.int .i64 c,.int .i64 s]) _ (hSw.at') Tryz.underlying36 rfl infoAddr2⟩) hHeld ?_
 simp only [Act.put,List.setIfInBounds_toArray,List.set_cons_zero,List.set_cons_succ]
 refine wpH_takes (i:=8) (v:=.pointer (some ⟨r k,0,none⟩)) (some 299) rfl rfl (by kernel_rfl) (by kernel_rfl) (by kernel_rfl) (fun _ _ _ h=>h) (Or.inl ⟨by rfl,?_⟩) hHeld ?_
 ·intro w' hSw;clear hSw;go_simp
 simp only [Act.put,List.setIfInBounds_toArray,List.set_cons_zero,List.set_cons_succ]
 refine wpH_takes (i:=9) (v:=.pointer (some ⟨xo,3,none⟩)) (some 300) rfl rfl (by kernel_rfl) (by kernel_rfl) (by kernel_rfl) (fun _ _ _ h=>h) (Or.inl ⟨by rfl,?_⟩) hHeld ?_
 ·intro w' hSw;clear hSw;go_simp
 simp only [Act.put,List.setIfInBounds_toArray,List.set_cons_zero,List.set_cons_succ]
 refine wpH_takes (i:=10) (v:=.agg ([.int .i64 c,.int .i64 s]).toArray) (some 301) rfl rfl (by kernel_rfl) (by kernel_rfl) (by kernel_rfl) (fun _ _ _ h=>h) (Or.inl ⟨by rfl,fun w' hSw=>exec_load_row 36 (.tmp 300) rfl xo 3 rfl ([.int .i64 c,.int .i64 s]) _ (hSw.at') Tryz.underlying36 rfl infoAddr2⟩) hHeld ?_
 simp only [Act.put,List.setIfInBounds_toArray,List.set_cons_zero,List.set_cons_succ]
 refine wpH_takes (i:=11) (v:=.pointer (some ⟨r k,0,none⟩)) (some 302) rfl rfl (by kernel_rfl) (by kernel_rfl) (by kernel_rfl) (fun _ _ _ h=>h) (Or.inl ⟨by rfl,?_⟩) hHeld ?_
 ·intro w' hSw;clear hSw;go_simp
 simp only [Act.put,List.setIfInBounds_toArray,List.set_cons_zero,List.set_cons_succ]
 refine wpH_takes (i:=12) (v:=.pointer (some ⟨xo,3,none⟩)) (some 303) rfl rfl (by kernel_rfl) (by kernel_rfl) (by kernel_rfl) (fun _ _ _ h=>h) (Or.inl ⟨by rfl,?_⟩) hHeld ?_
 ·intro w' hSw;clear hSw;go_simp
 simp only [Act.put,List.setIfInBounds_toArray,List.set_cons_zero,List.set_cons_succ]
 refine wpH_takes (i:=13) (v:=.agg ([.int .i64 c,.int .i64 s]).toArray) (some 304) rfl rfl (by kernel_rfl) (by kernel_rfl) (by kernel_rfl) (fun _ _ _ h=>h) (Or.inl ⟨by rfl,fun w' hSw=>exec_load_row 36 (.tmp 303) rfl xo 3 rfl ([.int .i64 c,.int .i64 s]) _ (hSw.at') Tryz.underlying36 rfl infoAddr2⟩) hHeld ?_
 simp only [Act.put,List.setIfInBounds_toArray,List.set_cons_zero,List.set_cons_succ]
 refine wpH_step (i:=6) (by kernel_rfl) rfl rfl (fun KK hKK=>?_)
 go_simp
 refine (HGet.out _ ((Kp.refl W1 Nul).drew)).mono ?_
 rintro e wa ⟨sa,fa,rfl,hoa,ka⟩
 have KA:Hid (Kp W1 wa Nul):=((Kp.refl W1 Nul).drew).trans ka
 have HOa:Hid (NdIn wa (fun _=>True) sa u.t):=hoa.own.isIn (fun _ _=>trivial)
 refine hKK.out _ _ (HAt.out wa KA.out) (fun hHeld=>?_)
 clear hKK KK ka hoa
 (try simp only [Act.put,List.setIfInBounds_toArray,List.set_cons_zero,List.set_cons_succ])
 have HPut:Hid (Calls Tryz.prog 10 #[.pointer (some ⟨g k,0,none⟩),.agg ([.int .i64 c,.int .i64 s]).toArray,.agg (u.cells sa).toArray] wa fun e w'=>∃ L',e=.returned (.int .i64 (re:Nat))∧GridIn w' FA (g k) L'∧Ok17 L'∧Al L' (rpK (gv u) (K k) lo c s u)∧Km (g k) wa w'):=by
  have h:=put_err FA (g k) c s u sa (fun _=>True) (L k) (K k) lo wa ((HP.out.gg.nul KA.out).gi k hk) (fun i _=>Nat.zero_le i) (HP.out.gg.ok k hk) (HP.out.kk.al k hk) HLo.out HU.out.1 HU.out.2 HOa.out (HO.out.vs.kp (HK.out.trans KA.out))
  rw [HRE.out] at h
  exact h
 refine wpH_step (i:=7) (by kernel_rfl) rfl rfl (fun KK hKK=>?_)
 go_simp
 refine HPut.out.mono ?_
 rintro e wb ⟨L',rfl,hgb,hob,hab,hkm⟩
 clear HPut
 obtain ⟨mv,hbg⟩:=(HP.out.gg.g0 hk).blk
 have HL':Hid (Ok17 L'∧Al L' (rpK (gv u) (K k) lo c s u)):=⟨hob,hab⟩
 have HM1:Hid (Km (g k) W1 wb):=(Km.of_nul KA.out hbg.lt).trans hkm
 have HGb:Hid (GG FA wb B g (upd L k L')):=(HP.out.gg.nul KA.out).km (Nat.le_trans HB1.out KA.out.size) hk hkm hgb hob
 have HDb:Hid (DD wb B r v ys):=HP.out.dd.km HM1.out hbg
 have HPb:Hid (PP wb B xw bg br g r):=HP.out.pp.km HM1.out hbg
 have HOpb:Hid (Blk wb xo (opC on 7 nn c s ct sl m1 m2 m3 m4) 50):=HM1.out.blk HOp.out (Blk.ne HOp.out hbg (by decide))
 have HKb:Hid (Kp w0 wb Nul):=HK.out.trans' (HP.out.gg.old hk HM1.out) (fun i hi e=>by have e':B≤i:=e;have:=HO.out.lo;omega)
 have HBb:Hid (B≤wb.heap.size):=Nat.le_trans HB1.out HM1.out.kp.size
 refine hKK.out _ _ (opC_at HOpb.out) (fun hHeld=>?_)
 clear hKK KK hgb hob hab hkm hbg
 (try simp only [Act.put,List.setIfInBounds_toArray,List.set_cons_zero,List.set_cons_succ])
 refine wpH_step (i:=14) (by kernel_rfl) rfl rfl (fun KK hKK=>?_)
 go_simp
 refine (HRGet.out _ (HDb.out.dg k hk)).mono ?_
 rintro e wc ⟨sc,fc,rfl,hoc,kc⟩
 have KC:Hid (Kp wb wc Nul):=kc
 have HOc:Hid (NdIn wc (fun _=>True) sc u.t):=hoc.own.isIn (fun _ _=>trivial)
 have HOpc:Hid (Blk wc xo (opC on 7 nn c s ct sl m1 m2 m3 m4) 50):=HOpb.out.kp kc (fun x=>x)
 refine hKK.out _ _ (opC_at HOpc.out) (fun hHeld=>?_)
 clear hKK KK kc hoc
 (try simp only [Act.put,List.setIfInBounds_toArray,List.set_cons_zero,List.set_cons_succ])
 refine wpH_step (i:=15) (by kernel_rfl) rfl rfl (fun KK hKK=>?_)
 go_simp
 refine (HRPut.out wc sc (Nat.le_trans HBb.out KC.out.size) ((HDb.out.dg k hk).kp KC.out) HOc.out).mono ?_
 rintro e wd ⟨v',ys',rfl,hdd,hyd,kd⟩
 have hbr:=((HDb.out.nul KC.out).dg k hk).box
 have HE:Hid (StR w0 B xw bg br (.returned (.bool true)) wd):=by
  refine ⟨rfl,⟨g,r,upd L k L',upd K k (rpK (gv u) (K k) lo c s u),upd v k v',upd ys k ys',(HGb.out.nul KC.out).off kd hbr ((HDb.out.nul KC.out).dg k hk).plain,(HDb.out.nul KC.out).step hk kd hdd,(HPb.out.nul KC.out).off kd hbr,HP.out.kk.step HL'.out.2 hyd (rpK_tx (HP.out.kk.tx k hk) HTx.out)⟩,(HKb.out.trans KC.out).trans' kd (fun i hi e=>?_)⟩
  have e':i=r k:=e
  have h1:=HDb.out.lo k hk
  have h2:=HO.out.lo
  omega
 refine hKK.out _ _ (opC_at (HOpc.out.kp kd (Blk.ne HOpc.out hbr (by decide)))) (fun hHeld=>?_)
 clear hKK KK hbr hdd hyd kd
 (try simp only [Act.put,List.setIfInBounds_toArray,List.set_cons_zero,List.set_cons_succ])
 refine wpH_takes (i:=16) (v:=.bool true) (some 307) rfl rfl (by kernel_rfl) (by kernel_rfl) (by kernel_rfl) (fun _ _ _ h=>h) (Or.inl ⟨by rfl,?_⟩) hHeld ?_
 ·intro w' hSw;clear hSw;go_simp
 simp only [Act.put,List.setIfInBounds_toArray,List.set_cons_zero,List.set_cons_succ]
 refine wpH_takes (i:=17) (v:=.bool true) (some 4) rfl rfl (by kernel_rfl) (by kernel_rfl) (by kernel_rfl) (fun _ _ _ h=>h) (Or.inl ⟨by rfl,?_⟩) hHeld ?_
 ·intro w' hSw;clear hSw;go_simp
 simp only [Act.put,List.setIfInBounds_toArray,List.set_cons_zero,List.set_cons_succ]
 refine wpAnyH_done (by kernel_rfl) ?_ _
 refine NoPanic.normal ?_
 clear hHeld
 go_wp2_with fail
 go_ret
 exact HE.out
theorem un_self {L:List Cc} {x:Int×Int}:¬ Un L L x:=by
 rintro (⟨b,h,hn⟩|⟨⟨a,h⟩,hn⟩)
 ·exact hn ⟨b,h,csame_refl b⟩
 ·exact hn a h
theorem eqC_self (L:List Cc):eqC L L=true:=eqC_true ⟨rfl,fun _ a h=>⟨a,h,csame_refl a⟩⟩
theorem eqC_un {L M:List Cc} (hL:L.Pairwise (fun x y=>x.1≠y.1)) (hM:M.Pairwise (fun x y=>x.1≠y.1)):EqC L M ↔ ∀ x,¬ Un L M x:=by
 have nL:(L.map (·.1)).Nodup:=List.pairwise_map.2 hL
 have nM:(M.map (·.1)).Nodup:=List.pairwise_map.2 hM
 constructor
 ·rintro ⟨hlen,hs⟩ x (⟨b,hb,hn⟩|⟨⟨a,ha⟩,hn⟩)
  ·have hx:x∈L.map (·.1):=by
    refine Classical.byContradiction fun hx=>?_
    have hxM:x∈M.map (·.1):=List.mem_map.2 ⟨_,hb,rfl⟩
    have:=nodup_le (L.map (·.1)) ((M.map (·.1)).erase x) nL (fun y hy=>(List.mem_erase_of_ne (by rintro rfl;exact hx hy)).2 (by
     obtain ⟨z,hz,rfl⟩:=List.mem_map.1 hy
     obtain ⟨b',hb',_⟩:=hs z.1 z.2 hz
     exact List.mem_map.2 ⟨_,hb',rfl⟩))
    rw [List.length_erase_of_mem hxM,List.length_map,List.length_map] at this
    have hpos:0 < M.length:=List.length_pos_of_mem hb
    omega
   obtain ⟨z,hz,e⟩:=List.mem_map.1 hx
   obtain ⟨b',hb',hc⟩:=hs z.1 z.2 hz
   rw [e] at hb'
   have e2:=once_eq hM hb' hb
   subst e2
   exact hn ⟨z.2,by rw [← e];exact hz,hc⟩
  ·obtain ⟨b,hb,_⟩:=hs x a ha
   exact hn b hb
 ·intro h
  have hs:∀ k a,(k,a)∈L→∃ b,(k,b)∈M∧csame a b=true:=fun k a ha=>by
   have h1:∃ b,(k,b)∈M:=Classical.byContradiction fun q=>h k (.inr ⟨⟨a,ha⟩,fun b hb=>q ⟨b,hb⟩⟩)
   obtain ⟨b,hb⟩:=h1
   have h2:∃ a',(k,a')∈L∧csame a' b=true:=Classical.byContradiction fun q=>h k (.inl ⟨b,hb,q⟩)
   obtain ⟨a',ha',hc⟩:=h2
   rw [once_eq hL ha ha']
   exact ⟨b,hb,hc⟩
  refine ⟨Nat.le_antisymm ?_ ?_,hs⟩
  ·have:=nodup_le _ (M.map (·.1)) nL (fun y hy=>by
    obtain ⟨z,hz,rfl⟩:=List.mem_map.1 hy
    obtain ⟨b',hb',_⟩:=hs z.1 z.2 hz
    exact List.mem_map.2 ⟨_,hb',rfl⟩)
   rwa [List.length_map,List.length_map] at this
  ·have:=nodup_le _ (L.map (·.1)) nM (fun y hy=>by
    obtain ⟨z,hz,rfl⟩:=List.mem_map.1 hy
    have h2:∃ a',(z.1,a')∈L∧csame a' z.2=true:=Classical.byContradiction fun q=>h z.1 (.inl ⟨z.2,hz,q⟩)
    obtain ⟨a',ha',_⟩:=h2
    exact List.mem_map.2 ⟨_,ha',rfl⟩)
   rwa [List.length_map,List.length_map] at this
theorem un_al {L M K K':List Cc} (ha:Al L K) (hb:Al M K') (x:Int×Int):Un K K' x ↔ Un L M x:=by
 unfold Un UnP
 simp only [ha.mem,hb.mem]
theorem mrg_al {L M K K':List Cc} {ys zs:List (Cc×Value)} (ha:Al L K) (hb:Al M K') (hy:ys.map (·.1)=K) (hz:zs.map (·.1)=K') :
  Strict ((mrg ys zs).map (·.1.1))∧(∀ x,x∈(mrg ys zs).map (·.1.1) ↔ Un L M x)∧∀ x∈mrg ys zs,PutOf M x.1:=by
 have conv:∀ l:List (Cc×Value),l.map (·.1.1)=(l.map (·.1)).map (·.1):=fun l=>by rw [List.map_map];rfl
 obtain ⟨h1,h2,h3⟩:=mrg_is _ ys zs rfl (by rw [conv,hy];exact ha.st) (by rw [conv,hz];exact hb.st)
 refine ⟨h1,fun x=>(h2 x).trans (by rw [hy,hz];exact un_al ha hb x),fun x hx=>?_⟩
 rcases h3 x hx with q|⟨q1,q2⟩
 ·rw [hz] at q
  exact .inl ((hb.mem _).1 q)
 ·exact .inr ⟨q1,fun b hb'=>q2 b (by rw [hz];exact (hb.mem _).2 hb')⟩
theorem eq_mrg {L M K K':List Cc} {ys zs:List (Cc×Value)} (ha:Al L K) (hb:Al M K') (hL:L.Pairwise (fun x y=>x.1≠y.1)) (hM:M.Pairwise (fun x y=>x.1≠y.1)) (hy:ys.map (·.1)=K) (hz:zs.map (·.1)=K'):eqC L M=decide ((mrg ys zs).length=0):=by
 obtain ⟨_,h2,_⟩:=mrg_al ha hb hy hz
 by_cases h:(mrg ys zs).length=0
 ·rw [decide_eq_true h]
  refine eqC_true ((eqC_un hL hM).2 fun x hx=>?_)
  have:=(h2 x).2 hx
  rw [List.eq_nil_of_length_eq_zero h] at this
  simp at this
 ·rw [decide_eq_false h]
  refine eqC_false fun q=>?_
  obtain ⟨x,hx⟩:=List.exists_mem_of_length_pos (Nat.pos_of_ne_zero h)
  exact (eqC_un hL hM).1 q x.1.1 ((h2 _).1 (List.mem_map.2 ⟨x,hx,rfl⟩))
def PutsLaw (g o r q:Nat) (w:World):Prop:=Calls Tryz.prog 31 #[.pointer (some ⟨g,0,none⟩),.pointer (some ⟨o,0,none⟩)] w fun e wa=>∃ p n cp,e=.returned (.slice p n cp)∧Calls Tryz.prog 32 #[.pointer (some ⟨r,0,none⟩),.pointer (some ⟨q,0,none⟩)] wa fun e wb=>∃ u,e=.returned u∧Calls Tryz.prog 30 #[.slice p n cp,u] wb fun e wc=>e=.returned (.bool true)∧Kp w wc Nul
theorem puts_law {g o r q B B':Nat} {L M K K':List Cc} {v v':Value} {ys zs:List (Cc×Value)} {w:World} (hg:GI 0 w g L) (ho:GI 0 w o M) (hL:Ok17 L) (hM:Ok17 M) (ha:Al L K) (hb:Al M K') (hd:DG w B r v ys) (he:DG w B' q v' zs) (hy:ys.map (·.1)=K) (hz:zs.map (·.1)=K'):PutsLaw g o r q w:=by
 have hyl:ys.length≤4096:=by have h1:=ha.len;have h2:=hL.len;have h3:=congrArg List.length hy;rw [List.length_map] at h3;omega
 have hzl:zs.length≤4096:=by have h1:=hb.len;have h2:=hM.len;have h3:=congrArg List.length hz;rw [List.length_map] at h3;omega
 have gy:∀ y∈ys,y.1.2.v.x < 18446744073709551616∧y.1.2.t.ok:=fun y hyy=>by
  have hg:=hL.gd _ ((ha.mem _).1 (hy ▸ List.mem_map.2 ⟨y,hyy,rfl⟩))
  exact ⟨hg.x,hg.ok⟩
 have gz:∀ y∈zs,y.1.2.v.x < 18446744073709551616∧y.1.2.t.ok:=fun y hyy=>by
  have hg:=hM.gd _ ((hb.mem _).1 (hz ▸ List.mem_map.2 ⟨y,hyy,rfl⟩))
  exact ⟨hg.x,hg.ok⟩
 obtain ⟨m1,m2,m3⟩:=mrg_al ha hb hy hz
 refine (puts_own g o L M w hg ho hL.gd hM.gd hL.len hM.len).mono ?_
 rintro e wa ⟨us,v1,rfl,hR,hO⟩
 obtain ⟨p,cp,rfl,_⟩:=hR.pts.slice
 refine ⟨p,_,cp,rfl,?_⟩
 refine (rputs_at B r v ys B' q v' zs wa (hd.kp hR.kp) (he.kp hR.kp) hyl hzl gy gz).mono ?_
 rintro e wb ⟨u,rfl,hU,kb⟩
 refine ⟨u,rfl,?_⟩
 have conv:∀ l:List (Cc×Value),l.map (·.1.1)=(l.map (·.1)).map (·.1):=fun l=>by rw [List.map_map];rfl
 have hsame:(us.map (·.1)).map (·.1)=(mrg ys zs).map (·.1):=by
  refine puts_same ho.once _ _ ?_ ?_ (fun x=>?_) (fun x hx=>?_) (fun x hx=>?_)
  ·rw [← conv];exact hR.strict
  ·rw [← conv];exact m1
  ·rw [← conv,← conv];exact (hR.mem x).trans (m2 x).symm
  ·obtain ⟨y,hy',rfl⟩:=List.mem_map.1 hx
   exact hR.put y hy'
  ·obtain ⟨y,hy',rfl⟩:=List.mem_map.1 hx
   exact m3 y hy'
 have hlow:∀ y∈mrg ys zs,NdIn wb (fun i=>i < w.heap.size) y.2 y.1.2.t:=fun y hyy=>by
  rcases mrg_from _ ys zs rfl y hyy with ⟨x,_,rfl⟩|h
  ·exact zNd_in wb _
  ·exact (he.pts.tree y h).mono (fun b _ hlt=>⟨(hR.kp.trans kb).block b hlt (fun x=>x),hlt⟩)
 have hlen:us.length≤8192:=by
  have h1:=congrArg List.length hsame
  rw [List.length_map,List.length_map,List.length_map] at h1
  have h2:=mrg_len _ ys zs rfl
  omega
 refine (puts17_at w.heap.size wa.heap.size _ us u (mrg ys zs) wb (hR.pts.kp kb) ⟨fun z hz'=>(hO.own z hz').kp kb (fun _ _ x=>x),hO.off,hO.dis⟩ (fun z hz' i hi=>((hO.own z hz').new i hi).2) (fun i hi=>(hR.pts.row.lt i hi).2) ⟨hU.row,hlow⟩ (by rw [← hsame,List.map_map];rfl) (fun z hz'=>?_) hlen).mono ?_
 ·have h:=hR.put z.1 (List.mem_map.2 ⟨z,hz',rfl⟩)
  rcases h with h|⟨h,_⟩
  ·exact (hM.gd _ h).size
  ·rw [h]
   show zNd.size≤_
   rw [zsize];decide
 ·rintro e wc ⟨rfl,kc⟩
  exact ⟨rfl,(hR.kp.trans kb).trans' kc (fun i hi e=>by have:=e.1;omega)⟩
theorem step_equal (w0 w:World) (B xw bg br:Nat) (g r:Nat→Nat) (L K:Nat→List Cc) (v:Nat→Value) (ys:Nat→List (Cc×Value)) (on nn c s:Int) (ct:Ct) (sl:Value) (m1 m2 m3 m4:Int) (hP:PlayS w B xw bg br g r L K v ys) (hO:OpIn w0 B on nn c s ct sl) (hw:Kp w0 w Nul) :
  Calls Tryz.prog 7 #[.pointer (some ⟨xw,0,none⟩),.agg (opC on 6 nn c s ct sl m1 m2 m3 m4).toArray] w (StR w0 B xw bg br):=by
 obtain ⟨k,hk,hpk⟩:=pk2 on
 have HPick:Hid (∀ wq,Calls Tryz.prog 17 #[.int .i64 on,.int .i64 2] wq fun e w'=>e=.returned (.int .i64 (k:Int))∧w'=wq):=fun wq=>by
  rw [← hpk]
  exact pick_n on 2 hO.on (by decide) wq
 obtain ⟨xo,hxo⟩:∃ xo,w.heap.size=xo:=⟨_,rfl⟩
 obtain ⟨W1,hW1⟩:∃ W1,w.alloc (.cells (opC on 6 nn c s ct sl m1 m2 m3 m4).toArray 50)=W1:=⟨_,rfl⟩
 have HW1:Hid (w.alloc (.cells (opC on 6 nn c s ct sl m1 m2 m3 m4).toArray 50)=W1):=hW1
 have k1:Kp w W1 Nul:=by rw [← hW1];exact (Kp.refl w Nul).alloc _
 have HOp:Hid (Blk W1 xo (opC on 6 nn c s ct sl m1 m2 m3 m4) 50):=by show Blk _ _ _ _;rw [← hW1,← hxo];exact Blk.new w _ _
 have HP:Hid (PlayS W1 B xw bg br g r L K v ys):=hP.nul k1
 have HK:Hid (Kp w0 W1 Nul):=hw.trans k1
 have HO:Hid (OpIn w0 B on nn c s ct sl):=hO
 have HB1:Hid (B≤W1.heap.size):=by show _≤_;have h1:=hP.pp.lo.1;have h2:=HP.out.pp.xs.lt;omega
 have hp:=(hP.pp.nul k1).at'
 obtain ⟨p0,p1⟩:W1.cell? ⟨xw,0,none⟩=some (.slice (some ⟨bg,0,none⟩) 2 2)∧W1.cell? ⟨xw,1,none⟩=some (.slice (some ⟨br,0,none⟩) 2 2):=⟨hp.x0,hp.x1⟩
 have pg:=hp.g k hk
 have pr:=hp.r k hk
 have ho:=opC_at HOp.out
 have o0:=ho.c0
 have o1:=ho.c1
 have o2:=ho.c2
 have o3:=ho.c3
 have o4:=ho.c4
 have hk0:(0:Int)≤(k:Int):=by omega
 have hk2:(k:Int) < 2:=by omega
 have HAt:Hid (∀ wq,Kp W1 wq Nul→OpA wq xo on 6 nn c s ct sl m1 m2 m3 m4):=fun wq q=>opC_at (HOp.out.kp q (fun x=>x))
 obtain ⟨j,hj⟩:∃ j:Nat,j+k=1:=⟨1 - k,by omega⟩
 have hj2:j < 2:=by omega
 have hsub:(1:Int) - (k:Int)=(j:Int):=by omega
 have hj0:(0:Int)≤(j:Int):=by omega
 have hj3:(j:Int) < 2:=by omega
 have hwj:IntKind.i64.wrap (j:Int)=(j:Int):=by
  have:j=0∨j=1:=by omega
  rcases this with rfl|rfl <;> rfl
 have pgj:=hp.g j hj2
 have prj:=hp.r j hj2
 have hlen:∀ i,i < 2→(ys i).length≤4096:=fun i hi=>by have h1:=(HP.out.kk.al i hi).len;have h2:=(HP.out.gg.ok i hi).len;have h3:=congrArg List.length (HP.out.kk.ks i hi);rw [List.length_map] at h3;omega
 have hgd:∀ i,i < 2→∀ y∈ys i,y.1.2.v.x < 18446744073709551616∧y.1.2.t.ok:=fun i hi y hy=>by
  have hm:y.1∈K i:=by rw [← HP.out.kk.ks i hi];exact List.mem_map.2 ⟨y,hy,rfl⟩
  have hg:=(HP.out.gg.ok i hi).gd _ (((HP.out.kk.al i hi).mem _).1 hm)
  exact ⟨hg.x,hg.ok⟩
 obtain ⟨e1,he1⟩:∃ e1,eqC (L k) (L j)=e1:=⟨_,rfl⟩
 obtain ⟨e2,he2⟩:∃ e2,eqC (L j) (L k)=e2:=⟨_,rfl⟩
 have HE1:Hid (∀ wq,Kp W1 wq Nul→Calls Tryz.prog 28 #[.pointer (some ⟨g k,0,none⟩),.pointer (some ⟨g j,0,none⟩)] wq fun e w'=>e=.returned (.bool e1)∧Kp wq w' Nul):=fun wq q=>by
  have h:=equal_at (g k) (g j) (L k) (L j) wq ((HP.out.gg.g0 hk).kp q) ((HP.out.gg.g0 hj2).kp q) (HP.out.gg.ok k hk).okC (HP.out.gg.ok j hj2).okC
  rw [he1] at h
  exact h
 have HE1R:Hid (∀ wq,Kp W1 wq Nul→Calls Tryz.prog 29 #[.pointer (some ⟨r k,0,none⟩),.pointer (some ⟨r j,0,none⟩)] wq fun e w'=>e=.returned (.bool e1)∧Kp wq w' Nul):=fun wq q=>by
  have h:=requal_at B (r k) (v k) (ys k) B (r j) (v j) (ys j) wq ((HP.out.dd.dg k hk).kp q) ((HP.out.dd.dg j hj2).kp q) (hlen k hk) (hlen j hj2) (hgd k hk) (hgd j hj2)
  rw [← eq_mrg (HP.out.kk.al k hk) (HP.out.kk.al j hj2) (HP.out.gg.g0 hk).once (HP.out.gg.g0 hj2).once (HP.out.kk.ks k hk) (HP.out.kk.ks j hj2),he1] at h
  exact h
 have HE2:Hid (∀ wq,Kp W1 wq Nul→Calls Tryz.prog 28 #[.pointer (some ⟨g j,0,none⟩),.pointer (some ⟨g k,0,none⟩)] wq fun e w'=>e=.returned (.bool e2)∧Kp wq w' Nul):=fun wq q=>by
  have h:=equal_at (g j) (g k) (L j) (L k) wq ((HP.out.gg.g0 hj2).kp q) ((HP.out.gg.g0 hk).kp q) (HP.out.gg.ok j hj2).okC (HP.out.gg.ok k hk).okC
  rw [he2] at h
  exact h
 have HE2R:Hid (∀ wq,Kp W1 wq Nul→Calls Tryz.prog 29 #[.pointer (some ⟨r j,0,none⟩),.pointer (some ⟨r k,0,none⟩)] wq fun e w'=>e=.returned (.bool e2)∧Kp wq w' Nul):=fun wq q=>by
  have h:=requal_at B (r j) (v j) (ys j) B (r k) (v k) (ys k) wq ((HP.out.dd.dg j hj2).kp q) ((HP.out.dd.dg k hk).kp q) (hlen j hj2) (hlen k hk) (hgd j hj2) (hgd k hk)
  rw [← eq_mrg (HP.out.kk.al j hj2) (HP.out.kk.al k hk) (HP.out.gg.g0 hj2).once (HP.out.gg.g0 hk).once (HP.out.kk.ks j hj2) (HP.out.kk.ks k hk),he2] at h
  exact h
 have HE3:Hid (∀ wq,Kp W1 wq Nul→Calls Tryz.prog 28 #[.pointer (some ⟨g k,0,none⟩),.pointer (some ⟨g k,0,none⟩)] wq fun e w'=>e=.returned (.bool true)∧Kp wq w' Nul):=fun wq q=>by
  have h:=equal_at (g k) (g k) (L k) (L k) wq ((HP.out.gg.g0 hk).kp q) ((HP.out.gg.g0 hk).kp q) (HP.out.gg.ok k hk).okC (HP.out.gg.ok k hk).okC
  rw [eqC_self] at h
  exact h
 have HE4:Hid (∀ wq,Calls Tryz.prog 28 #[.pointer (some ⟨g k,0,none⟩),.pointer none] wq fun e w'=>e=.returned (.bool false)∧Kp wq w' Nul):=fun wq=>equal_none (g k) wq
 have HP1:Hid (∀ wq,Kp W1 wq Nul→PutsLaw (g k) (g j) (r k) (r j) wq):=fun wq q=>puts_law (B:=B) (B':=B) ((HP.out.gg.g0 hk).kp q) ((HP.out.gg.g0 hj2).kp q) (HP.out.gg.ok k hk) (HP.out.gg.ok j hj2) (HP.out.kk.al k hk) (HP.out.kk.al j hj2) ((HP.out.dd.dg k hk).kp q) ((HP.out.dd.dg j hj2).kp q) (HP.out.kk.ks k hk) (HP.out.kk.ks j hj2)
 have HP2:Hid (∀ wq,Kp W1 wq Nul→PutsLaw (g j) (g k) (r j) (r k) wq):=fun wq q=>puts_law (B:=B) (B':=B) ((HP.out.gg.g0 hj2).kp q) ((HP.out.gg.g0 hk).kp q) (HP.out.gg.ok j hj2) (HP.out.gg.ok k hk) (HP.out.kk.al j hj2) (HP.out.kk.al k hk) ((HP.out.dd.dg j hj2).kp q) ((HP.out.dd.dg k hk).kp q) (HP.out.kk.ks j hj2) (HP.out.kk.ks k hk)
 have HP3:Hid (∀ wq,Kp W1 wq Nul→Calls Tryz.prog 31 #[.pointer (some ⟨g k,0,none⟩),.pointer (some ⟨g k,0,none⟩)] wq fun e w'=>∃ p cp,e=.returned (.slice p 0 cp)∧Kp wq w' Nul):=fun wq q=>by
  refine (puts_at (g k) (g k) (L k) (L k) wq ((HP.out.gg.g0 hk).kp q) ((HP.out.gg.g0 hk).kp q) (HP.out.gg.ok k hk).gd (HP.out.gg.ok k hk).gd (HP.out.gg.ok k hk).len (HP.out.gg.ok k hk).len).mono ?_
  rintro e w' ⟨zs,v',rfl,h⟩
  obtain ⟨p,cp,rfl,_⟩:=h.pts.slice
  have hz:zs=[]:=by
   cases zs with
   | nil=>rfl
   | cons z zs=>exact absurd ((h.mem z.1.1).1 List.mem_cons_self) un_self
  subst hz
  exact ⟨p,cp,rfl,h.kp⟩
 have HP4:Hid (∀ wq,Calls Tryz.prog 31 #[.pointer (some ⟨g k,0,none⟩),.pointer none] wq fun e w'=>e=.returned (.slice none 0 0)∧Kp wq w' Nul):=fun wq=>puts_none (g k) wq
 clear he1 he2 hlen hgd
 generalize (opC on 6 nn c s ct sl m1 m2 m3 m4).toArray=oc at *
 clear hP hO hw hpk hW1 k1 hp ho
 go_enter Tryz.func7,Tryz.ntmps7
 go_upto_region 1 with fail
 rw [HW1.out]
 clear HW1 hxo
 go_wp2_with fail
 refine (HPick.out _).mono ?_
 rintro e w1 ⟨rfl,hz⟩
 replace hz:=hz.symm
 subst hz
 go_wp2_with fail
 refine (HE1.out _ (Kp.refl _ _)).mono ?_
 rintro e v1 ⟨rfl,q1⟩
 have Q1:Hid (Kp W1 v1 Nul):=(Kp.refl W1 Nul).trans q1
 clear q1
 go_wp2_with fail
 refine (HE1R.out _ Q1.out).mono ?_
 rintro e v2 ⟨rfl,q2⟩
 have Q2:Hid (Kp W1 v2 Nul):=Q1.out.trans q2
 clear q2
 go_wp2_with fail
 refine (HE2.out _ Q2.out).mono ?_
 rintro e v3 ⟨rfl,q3⟩
 have Q3:Hid (Kp W1 v3 Nul):=Q2.out.trans q3
 clear q3
 go_wp2_with fail
 refine (HE2R.out _ Q3.out).mono ?_
 rintro e v4 ⟨rfl,q4⟩
 have Q4:Hid (Kp W1 v4 Nul):=Q3.out.trans q4
 clear q4
 go_wp2_with fail
 refine (HE3.out _ Q4.out).mono ?_
 rintro e v5 ⟨rfl,q5⟩
 have Q5:Hid (Kp W1 v5 Nul):=Q4.out.trans q5
 clear q5
 go_wp2_with fail
 refine (HE4.out _).mono ?_
 rintro e v6 ⟨rfl,q6⟩
 have Q6:Hid (Kp W1 v6 Nul):=Q5.out.trans q6
 clear q6
 go_wp2_with fail
 refine (HP1.out v6 Q6.out).mono ?_
 rintro e a6 ⟨p6,n6,c6,rfl,hr6⟩
 have HR6:Hid (Calls Tryz.prog 32 #[.pointer (some ⟨r k,0,none⟩),.pointer (some ⟨r j,0,none⟩)] a6 fun e wb=>∃ u,e=.returned u∧Calls Tryz.prog 30 #[.slice p6 n6 c6,u] wb fun e wc=>e=.returned (.bool true)∧Kp v6 wc Nul):=hr6
 clear hr6
 go_wp2_with fail
 refine HR6.out.mono ?_
 rintro e b6 ⟨u6,rfl,hs6⟩
 have HS6:Hid (Calls Tryz.prog 30 #[.slice p6 n6 c6,u6] b6 fun e wc=>e=.returned (.bool true)∧Kp v6 wc Nul):=hs6
 clear hs6 HR6
 go_wp2_with fail
 refine HS6.out.mono ?_
 rintro e v7 ⟨rfl,q7⟩
 have Q7:Hid (Kp W1 v7 Nul):=Q6.out.trans q7
 clear q7 HS6
 go_wp2_with fail
 refine (HP2.out v7 Q7.out).mono ?_
 rintro e a7 ⟨p7,n7,c7,rfl,hr7⟩
 have HR7:Hid (Calls Tryz.prog 32 #[.pointer (some ⟨r j,0,none⟩),.pointer (some ⟨r k,0,none⟩)] a7 fun e wb=>∃ u,e=.returned u∧Calls Tryz.prog 30 #[.slice p7 n7 c7,u] wb fun e wc=>e=.returned (.bool true)∧Kp v7 wc Nul):=hr7
 clear hr7
 go_wp2_with fail
 refine HR7.out.mono ?_
 rintro e b7 ⟨u7,rfl,hs7⟩
 have HS7:Hid (Calls Tryz.prog 30 #[.slice p7 n7 c7,u7] b7 fun e wc=>e=.returned (.bool true)∧Kp v7 wc Nul):=hs7
 clear hs7 HR7
 go_wp2_with fail
 refine HS7.out.mono ?_
 rintro e v8 ⟨rfl,q8⟩
 have Q8:Hid (Kp W1 v8 Nul):=Q7.out.trans q8
 clear q8 HS7
 go_wp2_with fail
 refine (HP3.out _ Q8.out).mono ?_
 rintro e v9 ⟨p9,c9,rfl,q9⟩
 have Q9:Hid (Kp W1 v9 Nul):=Q8.out.trans q9
 clear q9
 go_wp2_with fail
 refine (HP4.out _).mono ?_
 rintro e v10 ⟨rfl,q10⟩
 have HE:Hid (StR w0 B xw bg br (.returned (.bool true)) v10):=by
  have q:Kp W1 v10 Nul:=Q9.out.trans q10
  exact ⟨rfl,⟨_,_,_,_,_,_,HP.out.nul q⟩,HK.out.trans q⟩
 clear q10
 go_wp2_with fail
 go_ret
 exact HE.out
end Go.Proofs.YtlppcfeakakpfaaGreatDoor
namespace Go.Proofs.YtlppcfeakakpfaaGreatDoor
open Go.RowKit Go.Maps Go.Sort Go.Lib Go.Shelf
attribute [local go_sem] Oper.semAt_some
section
variable {n:Nat} {P:Program} {α:Type} {g:Operand} {ps:Array Tmp} {assign body:Code} {Q:Exit→Act→World→Prop} {a:Act} {w:World}
theorem round_ow4 {encs:α→Array Value} {Wt:α→Nat→Prop} {fn:FuncId} {N:Nat} (hfn:Fence.wide.fn fn) (hps:∀ x,(encs x).size=ps.size) (T:Nat→α→(Nat→Prop)→World→Prop) (hT:∀ k x Z W,T k x Z W → ¬ Wt x w.heap.size ∧ ¬ Wt x (w.heap.size+1))
  (I:Nat→(Nat→Prop)→World→Prop) (hZ:∀ k Z W,I k Z W → ¬ Z w.heap.size ∧ ¬ Z (w.heap.size+1)) (hI:∀ k Z W W',I k Z W→Kp W W' (fun i=>i=w.heap.size∨i=w.heap.size+1)→I k Z W') (Ix:World→Prop) (hIx:∀ W W',Ix W→Kp W W' (fun i=>i=w.heap.size∨i=w.heap.size+1)→Ix W')
  (hround:∀ (k:Nat) (x:α) (Z:Nat→Prop) (W:World) (K:Act→World→Prop),k < N→w.heap.size+2≤W.heap.size→I k Z W→T k x Z W→(∀ a' W',Kp W W' Nul→(∀ V,Kp W' V (fun i=>i=w.heap.size+1)→(∃ r,V.heap[w.heap.size+1]? = some (.loop r))→V.heap[w.heap.size]? = some (.deferred (some []))→body.wpIn (Fence.wide.inRound (w.heap.size+1)) (n - 1 - 1) P (fun e _ X=>(e=.normal∧Kp V X (fun i=>(Z i∨Wt x i)∨W.heap.size≤i)∧∃ Z',I (k+1) Z' X∧More Z Z' W)∨(e=.ret∧Kp V X (fun i=>(Z i∨Wt x i)∨W.heap.size≤i)∧Ix X)) a' V)→K a' W') →
   assign.wpIn (Fence.wide.inRound (w.heap.size+1)) (n - 1 - 1) P (Exit.then K (fun _ _ _=>False)) { tmps:=(ps.zip (encs x)).foldl (fun t (p,v)=>t.setIfInBounds p v) a.tmps,defers:=[] } W)
  (k:Nat) (x:α) (Z:Nat→Prop) (W:World) (hkN:k < N) (hi:I k Z W) (ht:T k x Z W) (hl:W.heap[w.heap.size+1]? = some (.loop (lrec fn a ps assign body w.heap.size .ready none))) (hk:W.heap[w.heap.size]? = some (.deferred (some []))) :
  YieldAt Fence.wide (n - 1 - 1) P (w.heap.size+1) (encs x) W fun e W'=>
   (e=.returned (.bool true)∧(∃ Z',(I (k+1) Z' W'∧W'.heap[w.heap.size+1]? = some (.loop (lrec fn a ps assign body w.heap.size .ready none))∧W'.heap[w.heap.size]? = some (.deferred (some [])))∧More Z Z' W)∧Kp W W' (fun i=>(Z i∨Wt x i)∨i=w.heap.size+1)) ∨
   (e=.returned (.bool false)∧(Ix W'∧W'.heap[w.heap.size+1]? = some (.loop (lrec fn a ps assign body w.heap.size .done (some .ret)))∧W'.heap[w.heap.size]? = some (.deferred (some [])))):=by
 have hy:=run_yield (P:=P) (args:=encs x) hl (hps x)
 have hWl:w.heap.size+1 < W.heap.size:=(Array.getElem?_eq_some_iff.1 hl).1
 refine ⟨fn,_,assign,body,hy,roundIn_of_wpIn hfn (hround k x Z W _ hkN hWl hi ht ?_)⟩
 clear hy
 intro a' V hkp hbody
 have vl:=(hkp.block _ hWl (fun x=>x)).trans hl
 have vk:=(hkp.block _ (by omega) (fun x=>x)).trans hk
 have hlt:w.heap.size+1 < V.heap.size:=(Array.getElem?_eq_some_iff.1 vl).1
 refine ⟨_,run_beginRound vl rfl,?_⟩
 obtain ⟨bz,hbz⟩:∃ bz:Loop,{ lrec fn a ps assign body w.heap.size .ready none with state:=.busy }=bz:=⟨_,rfl⟩
 obtain ⟨U,hU⟩:∃ U,V.putObj (w.heap.size+1) (.loop bz)=U:=⟨_,rfl⟩
 rw [hbz,hU]
 have ul:U.heap[w.heap.size+1]? = some (.loop bz):=by rw [← hU];exact World.putObj_heap_same hlt
 have uk:U.heap[w.heap.size]? = some (.deferred (some [])):=by rw [← hU];exact (World.putObj_heap_other (by omega)).trans vk
 have hVU:Kp V U (fun i=>i=w.heap.size+1):=by rw [← hU];exact putObj_self
 refine wpIn_mono (hbody U hVU ⟨_,ul⟩ uk) ?_
 have leave:∀ (jump:Option Code) (X:World),Kp U X (fun i=>(Z i∨Wt x i)∨W.heap.size≤i) →
   (Instr.endRound (w.heap.size+1) jump).run P X=.ok (.bool jump.isNone) (X.putObj (w.heap.size+1) (.loop (lrec fn a ps assign body w.heap.size (if jump.isNone then .ready else .done) jump))) ∧
   (X.putObj (w.heap.size+1) (.loop (lrec fn a ps assign body w.heap.size (if jump.isNone then .ready else .done) jump))).heap[w.heap.size+1]? = some (.loop (lrec fn a ps assign body w.heap.size (if jump.isNone then .ready else .done) jump)) ∧
   (X.putObj (w.heap.size+1) (.loop (lrec fn a ps assign body w.heap.size (if jump.isNone then .ready else .done) jump))).heap[w.heap.size]? = some (.deferred (some []))∧Kp X (X.putObj (w.heap.size+1) (.loop (lrec fn a ps assign body w.heap.size (if jump.isNone then .ready else .done) jump))) (fun i=>i=w.heap.size+1):=by
  intro jump X hX
  have hUl:w.heap.size+1 < U.heap.size:=(Array.getElem?_eq_some_iff.1 ul).1
  have xl:=(hX.block _ hUl (fun q=>q.elim (fun q=>q.elim (hZ _ _ _ hi).2 (hT _ _ _ _ ht).2) (fun q=>by omega))).trans ul
  have xk:=(hX.block _ (by omega) (fun q=>q.elim (fun q=>q.elim (hZ _ _ _ hi).1 (hT _ _ _ _ ht).1) (fun q=>by omega))).trans uk
  refine ⟨?_,World.putObj_heap_same (Array.getElem?_eq_some_iff.1 xl).1,(World.putObj_heap_other (by omega)).trans xk,putObj_self⟩
  have:=run_endRound (P:=P) jump xl
  rw [← hbz] at this
  exact this
 rintro e a3 X (⟨rfl,q1,Z',q2,q3⟩|⟨rfl,q1,q2⟩)
 ·obtain ⟨r1,r2,r3,r4⟩:=leave none X q1
  refine ⟨_,_,r1,.inl ⟨rfl,⟨Z',⟨hI _ _ _ _ q2 (r4.mono (fun i _ e=>.inr e)),r2,r3⟩,q3⟩,?_⟩⟩
  exact ((hkp.of_nul.trans (hVU.mono (fun i _ e=>.inr e))).cut q1 (fun i hi e=>e.elim .inl (fun q=>by omega))).trans (r4.mono (fun i _ e=>.inr e))
 ·obtain ⟨r1,r2,r3,r4⟩:=leave (some .ret) X q1
  exact ⟨_,_,r1,.inr ⟨rfl,hIx _ _ q2 (r4.mono (fun i _ e=>.inr e)),r2,r3⟩⟩
theorem wp_range_ow4 {gf:Nat} {lb:Array Value} (hg:a.eval g=.func (.func gf) #[] lb) (eg:∀ args w,(callFunc gf args).run P w=.ok (.enter gf args) w)
  {encs:α→Array Value} (Wt:α→Nat→Prop) (hps:∀ x,(encs x).size=ps.size) (T:Nat→α→(Nat→Prop)→World→Prop) (hT:∀ k x Z W,T k x Z W → ¬ Wt x w.heap.size ∧ ¬ Wt x (w.heap.size+1)) {N:Nat} (S:Nat→Prop)
  (hseq:SeqOw3 P gf lb encs Wt T N S w)
  (I:Nat→(Nat→Prop)→World→Prop) (hZ:∀ k Z W,I k Z W → ¬ Z w.heap.size ∧ ¬ Z (w.heap.size+1)) (hZl:∀ k Z W,I k Z W→(∀ i,Z i→i < W.heap.size)∧∀ i,i < w.heap.size→Z i→S i)
  (hI:∀ k Z W W',I k Z W→Kp W W' (fun i=>i=w.heap.size∨i=w.heap.size+1)→I k Z W') (Ix:World→Prop) (hIx:∀ W W',Ix W→Kp W W' (fun i=>i=w.heap.size∨i=w.heap.size+1)→Ix W') (Z0:Nat→Prop) (h0:I 0 Z0 w)
  (hround:∀ (k:Nat) (x:α) (Z:Nat→Prop) (W:World) (K:Act→World→Prop),k < N→w.heap.size+2≤W.heap.size→I k Z W→T k x Z W→(∀ a' W',Kp W W' Nul→(∀ V,Kp W' V (fun i=>i=w.heap.size+1)→(∃ r,V.heap[w.heap.size+1]? = some (.loop r))→V.heap[w.heap.size]? = some (.deferred (some []))→body.wpIn (Fence.wide.inRound (w.heap.size+1)) (8 - 1 - 1) P (fun e _ X=>(e=.normal∧Kp V X (fun i=>(Z i∨Wt x i)∨W.heap.size≤i)∧∃ Z',I (k+1) Z' X∧More Z Z' W)∨(e=.ret∧Kp V X (fun i=>(Z i∨Wt x i)∨W.heap.size≤i)∧Ix X)) a' V)→K a' W') →
   assign.wpIn (Fence.wide.inRound (w.heap.size+1)) (8 - 1 - 1) P (Exit.then K (fun _ _ _=>False)) { tmps:=(ps.zip (encs x)).foldl (fun t (p,v)=>t.setIfInBounds p v) a.tmps,defers:=[] } W)
  (hdone:∀ (D:Nat) (Z:Nat→Prop) (W:World),D=w.heap.size→I N Z W→W.heap[D]? = some (.deferred (some []))→Q .normal { a with defers:={ target:=.collected D,args:=#[] } :: a.defers } W)
  (hstop:∀ (D:Nat) (W:World),D=w.heap.size→Ix W→W.heap[D]? = some (.deferred (some []))→Code.ret.wp P Q { a with defers:={ target:=.collected D,args:=#[] } :: a.defers } W) :
  (Code.rangeFunc g ps assign body).wp P Q a w:=by
 refine (wpIn_wide (n:=8)).1 ?_
 refine wpIn_rangeFunc fun fn hfn=>?_
 obtain ⟨W1,hW1⟩:∃ W1,(w.alloc (.deferred (some []))).alloc (.loop (lrec fn a ps assign body w.heap.size .ready none))=W1:=⟨_,rfl⟩
 have l1:W1.heap[w.heap.size+1]? = some (.loop (lrec fn a ps assign body w.heap.size .ready none)):=by
  have:=World.alloc_heap_new (w.alloc (.deferred (some []))) (.loop (lrec fn a ps assign body w.heap.size .ready none))
  rw [World.size_alloc,hW1] at this
  exact this
 have k1:W1.heap[w.heap.size]? = some (.deferred (some [])):=by rw [← hW1];exact (Below.heap_alloc _ _ _ (by simp)).trans (World.alloc_heap_new w _)
 have s1:W1.heap.size=w.heap.size+2:=by rw [← hW1];simp
 have kW:Kp w W1 Nul:=by rw [← hW1];exact ((Kp.refl w Nul).alloc _).alloc _
 refine ⟨w.heap.size+1,[{ target:=.collected w.heap.size,args:=#[] }],W1,{ target:=.fn (.func gf) lb,args:=#[.func (.yield (w.heap.size+1)) #[] #[]] },W1,gf,#[.func (.yield (w.heap.size+1)) #[] #[]] ++ lb,W1,?_,?_,fun f' _=>trivial,?_,fun _=>by decide,?_⟩
 ·rw [← hW1];exact run_enterLoop_outer _ _ _ _ _
 ·simp only [resolve,hg]
  simp [go_sem]
 ·simp [invoke,go_sem,eg]
 ·have hkeep:∀ {A B:World} {o:Obj} {i:Nat},Kp A B Nul→A.heap[i]? = some o→B.heap[i]? = some o:=fun h e=>(h.block _ (Array.getElem?_eq_some_iff.1 e).1 (fun x=>x)).trans e
  refine callsIn_wide.2 ((hseq
   (fun k Z W=>I k Z W∧W.heap[w.heap.size+1]? = some (.loop (lrec fn a ps assign body w.heap.size .ready none))∧W.heap[w.heap.size]? = some (.deferred (some [])))
   (fun W=>Ix W∧W.heap[w.heap.size+1]? = some (.loop (lrec fn a ps assign body w.heap.size .done (some .ret)))∧W.heap[w.heap.size]? = some (.deferred (some [])))
   Z0 W1 kW (by omega)
   (fun k Z A B h hk=>⟨hI k Z A B h.1 hk.of_nul,hkeep hk h.2.1,hkeep hk h.2.2⟩)
   (fun A B h hk=>⟨hIx A B h.1 hk.of_nul,hkeep hk h.2.1,hkeep hk h.2.2⟩)
   (fun k Z A h=>hZl k Z A h.1)
   (fun m k x Z W hkN h ht=>by
    obtain ⟨fn',tms,asg,bo,y1,y2⟩:=round_ow4 (n:=8) (P:=P) (Wt:=Wt) hfn hps T hT I hZ hI Ix hIx hround k x Z W hkN h.1 ht h.2.1 h.2.2
    exact ⟨fn',tms,asg,bo,y1,roundIn_any y2⟩)
   ⟨hI 0 Z0 w W1 h0 kW.of_nul,l1,k1⟩).mono ?_)
  rintro e W2 ⟨⟨v,rfl⟩,(⟨Z,hi,hl,hk⟩|⟨hi,hl,hk⟩)⟩
  rotate_left
  ·exact ⟨some .ret,_,run_endLoop (P:=P) hl (by simp [lrec]),wpIn_wide.2 (hstop _ _ rfl (hIx _ _ hi (putObj_self.mono (fun i _ e=>.inr e))) ((World.putObj_heap_other (by omega)).trans hk))⟩
  exact ⟨none,_,run_endLoop (P:=P) hl (by simp [lrec]),hdone _ Z _ rfl (hI _ _ _ _ hi (putObj_self.mono (fun i _ e=>.inr e))) ((World.putObj_heap_other (by omega)).trans hk)⟩
end
theorem in1_put (g x0 x1:Nat) (F:Nat→Prop) (m1 m2 m3 m4:Int) (L M K:List Cc) (hM:inL m1 m2 m3 m4 L=M) (w:World) (S:Nat→Prop) (hg:GI 0 w g L) (hF:GridIn w F g L) (gL:∀ x∈L,Gd x.2) (hv:∀ x∈L,vC x.1.1 x.1.2=true) (lL:L.length≤4096)
  (hK:Strict (K.map (·.1))) (hKL:∀ x,x∈K ↔ x∈M) (hA:∀ i,F i→i < w.heap.size) (hS:∀ i,S i→F i→∀ o q x,w.cell? ⟨i,o,none⟩≠some (.int q x)) (b0:Blk w x0 [.pointer (some ⟨g,0,none⟩)] 25) (b1:Blk w x1 [.int .i64 m1,.int .i64 m2,.int .i64 m3,.int .i64 m4] 48) :
  SeqOw3 Tryz.prog 47 #[.pointer (some ⟨x0,0,none⟩),.pointer (some ⟨x1,0,none⟩)] encQ wtQ (TellQ w K) K.length S w:=by
 intro J Jx Z W hkw hsz hJ _ hJz hY hj0
 obtain ⟨G,hG⟩:∃ G:Nat→Prop,(fun i=>F i∧∃ o q x,w.cell? ⟨i,o,none⟩=some (.int q x))=G:=⟨_,rfl⟩
 have hT:∀ (X:World) (sl:Value) (t:Nd),Kp w X Nul→NdIn X F sl t→NdIn X G sl t:=fun X sl t q h=>h.monoC fun b hb hc=>by
  obtain ⟨o,k,x,hc⟩:=hc
  rw [← hG]
  refine ⟨rfl,hb,o,k,x,?_⟩
  have e:=q.block b (hA b hb) (fun x=>x)
  simp only [World.cell?] at hc ⊢
  rw [← e];exact hc
 have hA':∀ i,G i→i < w.heap.size:=fun i hi=>by rw [← hG] at hi;exact hA i hi.1
 have hS':∀ i,S i → ¬ G i:=fun i hs hi=>by
  rw [← hG] at hi
  obtain ⟨o,q,x,hc⟩:=hi.2
  exact hS i hs hi.1 o q x hc
 have c0:W.cell? ⟨x0,0,none⟩=some (.pointer (some ⟨g,0,none⟩)):=(b0.kp hkw (fun x=>x)).cell rfl
 have d0:W.cell? ⟨x1,0,none⟩=some (.int .i64 m1):=(b1.kp hkw (fun x=>x)).cell rfl
 have d1:W.cell? ⟨x1,1,none⟩=some (.int .i64 m2):=(b1.kp hkw (fun x=>x)).cell rfl
 have d2:W.cell? ⟨x1,2,none⟩=some (.int .i64 m3):=(b1.kp hkw (fun x=>x)).cell rfl
 have d3:W.cell? ⟨x1,3,none⟩=some (.int .i64 m4):=(b1.kp hkw (fun x=>x)).cell rfl
 have HWi:Hid (Calls Tryz.prog 48 #[.pointer (some ⟨g,0,none⟩),.agg #[.int .i64 m1,.int .i64 m2,.int .i64 m3,.int .i64 m4]] W fun e w'=>∃ b ys,e=.returned (.slice (some ⟨b,0,none⟩) ys.length ys.length)∧WiR W w' G M b ys):=(within_any g F m1 m2 m3 m4 L M hM W (hg.kp hkw) (hF.kp hkw) gL hv lL).mono (by
  rintro e w' ⟨b,ys,h1,h2⟩
  exact ⟨b,ys,h1,h2.low,h2.rng,h2.strict,h2.mem,fun y hy=>hT _ _ _ (hkw.trans h2.kp) (h2.tree y hy),h2.kp⟩)
 have HSZ:Hid (w.heap.size+2≤W.heap.size):=hsz
 have HJ:Hid (∀ k Z W W',J k Z W→Kp W W' Nul→J k Z W'):=hJ
 have HJZ:Hid (∀ k Z W,J k Z W→(∀ i,Z i→i < W.heap.size)∧∀ i,i < w.heap.size→Z i→S i):=hJz
 have HY:Hid (∀ m k x Z W1,k < K.length→J k Z W1→TellQ w K k x Z W1→YieldAt Fence.wide m Tryz.prog (w.heap.size+1) (encQ x) W1 fun e W'=>(e=.returned (.bool true)∧(∃ Z',J (k+1) Z' W'∧More Z Z' W1)∧Kp W1 W' (fun i=>(Z i∨wtQ x i)∨i=w.heap.size+1))∨(e=.returned (.bool false)∧Jx W')):=hY
 have HJ0:Hid (J 0 Z W):=hj0
 have HGd:Hid (∀ x∈M,Gd x.2):=fun x hx=>gL x (inL_sub hM hx)
 have HA:Hid (∀ i,G i→i < w.heap.size):=hA'
 have HS:Hid (∀ i,S i → ¬ G i):=hS'
 have HKK:Hid (∀ ys:List (Cc×Value),Strict (ys.map (·.1.1))→(∀ x,x∈ys.map (·.1) ↔ x∈M)→ys.map (·.1)=K):=fun ys h1 h2=>same_in_order (by rw [List.map_map];exact h1) hK (fun x=>(h2 x).trans (hKL x).symm)
 have HLK:Hid (K.length≤4096):=by
  have hnd:(K.map (·.1)).Nodup:=strict_nodup hK
  have:=nodup_le _ (M.map (·.1)) hnd (fun x hx=>by
   obtain ⟨y,hy,rfl⟩:=List.mem_map.1 hx
   exact List.mem_map.2 ⟨y,(hKL y).1 hy,rfl⟩)
  rw [List.length_map,List.length_map] at this
  have:=inL_len hM
  show _≤_;omega
 clear hkw hsz hJ hJz hY hj0 hg hF gL hv lL hK hKL hA hS b0 b1 hM hT hA' hS' hG
 simp only [List.append_toArray,List.cons_append,List.nil_append]
 refine (callsIn_wide (n:=8)).1 ?_
 refine callsIn_of_wp Tryz.func47 rfl trivial ?_ rfl
 simp only [Tryz.ntmps47,List.size_toArray,List.length_cons,List.length_nil,Nat.reduceAdd,Nat.reduceSub,Array.replicate_succ,Array.replicate_zero,List.push_toArray,List.append_toArray,List.nil_append,List.cons_append]
 gi_wp2_with (fail)
 refine ⟨trivial,(callsIn_wide.2 HWi.out).mono ?_⟩
 rintro e w2 ⟨b,ys,rfl,hwi⟩
 have HW2:Hid (WiR W w2 G M b ys):=hwi
 have HYK:Hid (ys.map (·.1)=K):=HKK.out ys hwi.strict hwi.mem
 have hlen:ys.length=K.length:=by rw [← HYK.out,List.length_map]
 clear hwi c0 d0 d1 d2 d3 HKK
 rw [hlen]
 generalize hn:K.length=n at *
 have HLEN:Hid (ys.length=n):=hlen
 have HN:Hid (K.length=n):=hn
 clear hn hlen
 gi_wp2_with (fail)
 gi_loopw [12] (fun i wr=>∃ (q:Nat) (Z:Nat→Prop),q≤n∧i=.int .i64 q∧J q Z wr∧InF W G b ys Z wr) (fun i _=>n - (RowKit.intOf i).toNat)
 case atStart=>
  refine ⟨0,Z,Nat.zero_le _,rfl,HJ.out _ _ _ _ HJ0.out HW2.out.kp,?_⟩
  exact ⟨fun h=>by have h1:=(HJZ.out _ _ _ HJ0.out).1 b h;have h2:=HW2.out.low;omega,HW2.out.rng,HW2.out.tree,HW2.out.kp.size⟩
 case round=>
  obtain ⟨q,Zq,hq,rfl,hjq,hin⟩:=hrel
  have HJQ:Hid (J q Zq wr):=hjq
  have HIN:Hid (InF W G b ys Zq wr):=hin
  clear hjq hin
  by_cases hlt:q < n
  ·have hqt:q < ys.length:=by rw [HLEN.out];exact hlt
   obtain ⟨⟨⟨⟨c,s⟩,a⟩,sa⟩,hys⟩:∃ y,ys[q]=y:=⟨_,rfl⟩
   have hget:ys[q]? = some (((c,s),a),sa):=by rw [List.getElem?_eq_getElem hqt,hys]
   have HR:Hid (wr.rangeAt b (q * 23) (ptCells ((c,s),a) sa)):=HIN.out.rng q _ hget
   have htree:NdIn wr G sa a.t:=HIN.out.tree _ (List.mem_of_getElem? hget)
   have O1:Hid (sa.oneCell'=true):=htree.one
   have hKq:K[q]? = some ((c,s),a):=by rw [← HYK.out,List.getElem?_map,hget];rfl
   have HKQ:Hid (K[q]? = some ((c,s),a)):=hKq
   have hgd:Gd a:=HGd.out _ ((HW2.out.mem _).1 (List.mem_map.2 ⟨_,List.mem_of_getElem? hget,rfl⟩))
   have hbl:b < wr.heap.size:=rangeAt_lt HR.out
   have HBL:Hid (b < wr.heap.size):=hbl
   have B5:Blk (wr.alloc (.cells (ptCells ((c,s),a) sa).toArray 84)) wr.heap.size (ptCells ((c,s),a) sa) 84:=Blk.new wr _ _
   have HAt:Hid (∀ wq,Kp (wr.alloc (.cells (ptCells ((c,s),a) sa).toArray 84)) wq Nul→wq.rangeAt wr.heap.size 0 [.int .i64 c,.int .i64 s]):=fun wq k j v hj=>by
    match j,hj with
    | 0,hj=>cases hj;exact (B5.kp k (fun x=>x)).cell rfl
    | 1,hj=>cases hj;exact (B5.kp k (fun x=>x)).cell rfl
   have HCo:Hid (∀ wq,Kp (wr.alloc (.cells (ptCells ((c,s),a) sa).toArray 84)) wq Nul→wq.rangeAt wr.heap.size 2 (a.cells sa)):=fun wq k j v hj=>by
    refine (B5.kp k (fun x=>x)).cell ?_
    show (ptCells ((c,s),a) sa)[2+j]? = some v
    rw [Nat.add_comm 2 j];exact hj
   have HCp:Hid (∀ wq,Kp (wr.alloc (.cells (ptCells ((c,s),a) sa).toArray 84)) wq Nul→Calls Tryz.prog 38 #[.agg (a.cells sa).toArray] wq fun e w'=>∃ sl',e=.returned (.agg (a.cells sl').toArray)∧(∃ fp,Own w' wq.heap.size sl' a.t fp)∧Kp wq w' Nul):=fun wq k=>by
    have hk:Kp wr wq Nul:=((Kp.refl wr Nul).alloc _).trans k
    refine (gCopy_at a sa G wq hgd.x hgd.size hgd.ok (htree.kp hk (fun _ _ x=>x))).mono ?_
    rintro e w' ⟨sl',fp,rfl,h1,h2⟩
    rw [hgd.cp] at h1 ⊢
    exact ⟨sl',rfl,⟨fp,h1⟩,Kp.of_below h2⟩
   have hkb:(q:Int)+1≤9223372036854775807:=by have:=HLK.out;omega
   have hq0:(0:Int)≤(q:Int):=by omega
   have hqn:(q:Int) < (n:Int):=by omega
   clear hqt hys hget htree hKq hgd hbl B5
   gi_wp2_with (first
    | (refine loadIn_put rfl (.tmp 14) rfl b (q * 23) rfl (ptCells ((c,s),a) sa) HR.out rfl ?_)
    | (refine storeIn_new' rfl 84 (.tmp 5) (.tmp 15) rfl _ _ _ _ (by first|rfl|simp) rfl rfl rfl infoPut (all_oneCell_toArray (pt_one _ O1.out)) ?_)
    | fail)
   refine regIn_noPanic ?_
   refine wpIn_region_any (by kernel_rfl) ?_
   refine any_take (i:=0) (.func (.yield (w.heap.size+1)) #[] #[]) (some 16) rfl rfl (by kernel_rfl) (by kernel_rfl) (by kernel_rfl) (fun _ _ _ h=>h) rfl (fun _=>rfl) (fun _=>by go_simp) ?_
   simp only [Act.put,List.setIfInBounds_toArray,List.set_cons_zero,List.set_cons_succ]
   refine any_take (i:=1) (.pointer (some ⟨wr.heap.size,0,none⟩)) (some 17) rfl rfl (by kernel_rfl) (by kernel_rfl) (by kernel_rfl) (fun _ _ _ h=>h) rfl (fun _=>rfl) (fun _=>by go_simp) ?_
   simp only [Act.put,List.setIfInBounds_toArray,List.set_cons_zero,List.set_cons_succ]
   refine any_take (i:=3) (.pointer (some ⟨wr.heap.size,2,none⟩)) (some 19) rfl rfl (by kernel_rfl) (by kernel_rfl) (by kernel_rfl) (fun _ _ _ h=>h) rfl (fun _=>rfl) (fun _=>by go_simp) ?_
   simp only [Act.put,List.setIfInBounds_toArray,List.set_cons_zero,List.set_cons_succ]
   refine wpAnyIn_ready (rs:=[2,4]) (by kernel_rfl) (by simp) ?_
   intro i hi
   rcases List.mem_cons.1 hi with rfl|hi
   ·clear hi
    refine any_val (v:=.agg #[.int .i64 c,.int .i64 s]) (some 18) rfl rfl rfl rfl (fun c h=>by cases h) (w':=(wr.alloc (.cells (ptCells ((c,s),a) sa).toArray 84)).drew) (exec_load_row 36 (.tmp 17) rfl wr.heap.size 0 rfl [.int .i64 c,.int .i64 s] _ (HAt.out (wr.alloc (.cells (ptCells ((c,s),a) sa).toArray 84)).drew ((Kp.refl _ _).drew)) Tryz.underlying36 rfl infoAddr2) ?_
    simp only [Act.put,List.setIfInBounds_toArray,List.set_cons_zero,List.set_cons_succ]
    refine wpAnyIn_ready (rs:=[4]) (by kernel_rfl) (by simp) ?_
    intro i hi
    obtain rfl:=List.mem_singleton.1 hi
    clear hi
    refine any_val (v:=.agg (a.cells sa).toArray) (some 20) rfl rfl rfl rfl (fun c h=>by cases h) (w':=(wr.alloc (.cells (ptCells ((c,s),a) sa).toArray 84)).drew) (exec_load_row 46 (.tmp 19) rfl wr.heap.size 2 rfl (a.cells sa) _ (HCo.out _ ((Kp.refl _ _).drew)) Tryz.underlying46 rfl infoContent) ?_
    simp only [Act.put,List.setIfInBounds_toArray,List.set_cons_zero,List.set_cons_succ]
    refine wpAnyIn_ready (rs:=[5]) (by kernel_rfl) (by simp) ?_
    intro i hi
    obtain rfl:=List.mem_singleton.1 hi
    clear hi
    refine any_call (f:=38) (args:=#[.agg (a.cells sa).toArray]) (some 21) rfl rfl rfl (by decide) (fun c h=>by cases h) (w':=(wr.alloc (.cells (ptCells ((c,s),a) sa).toArray 84)).drew) (by go_simp) ?_
    refine (HCp.out _ ((Kp.refl _ _).drew)).mono ?_
    rintro e w4 ⟨s4,rfl,⟨f4,ho4⟩,hk4⟩
    refine ⟨_,rfl,?_⟩
    simp only [Act.put,List.setIfInBounds_toArray,List.set_cons_zero,List.set_cons_succ]
    refine wpAnyIn_ready (rs:=[6]) (by kernel_rfl) (by simp) ?_
    intro i hi
    obtain rfl:=List.mem_singleton.1 hi
    clear hi
    have hK4:Kp wr w4 Nul:=((Kp.refl wr Nul).alloc _).drew.trans hk4
    have hs5:(wr.alloc (.cells (ptCells ((c,s),a) sa).toArray 84)).drew.heap.size=wr.heap.size+1:=World.size_alloc _ _
    obtain ⟨fn,tms,asg,bod,hy,hR⟩:=HY.out 7 q ((((c,s),a),s4),f4) Zq w4 hlt (HJ.out _ _ _ _ HJQ.out hK4) ⟨HKQ.out,ho4.own,ho4.nodup,fun i hi=>by
     have h1:=(ho4.new i hi).1
     have h2:=HSZ.out
     have h3:=HIN.out.size
     exact ⟨by omega,fun hz=>by have:=(HJZ.out _ _ _ HJQ.out).1 i hz;omega⟩⟩
    refine any_round (l:=w.heap.size+1) (f:=fn) (tms:=tms) (asg:=asg) (bod:=bod) (some 22) rfl rfl rfl (by decide) (fun c h=>by cases h) (w':=w4) ?_ ?_
    ·first
     | (go_simp;done)
     | (go_simp;exact hy)
    refine hR.mono ?_
    rintro e w6 (⟨rfl,⟨Z6,hj6,hm6⟩,hk6⟩|⟨rfl,hx6⟩)
    rotate_left
    ·have HX6:Hid (Jx w6):=hx6
     refine ⟨_,rfl,?_⟩
     simp only [Act.put,List.setIfInBounds_toArray,List.set_cons_zero,List.set_cons_succ]
     clear hy hR hx6 hk4 ho4 hK4 hs5
     refine wpAnyIn_ready (rs:=[7]) (by kernel_rfl) (by simp) ?_
     intro i hi
     obtain rfl:=List.mem_singleton.1 hi
     clear hi
     refine any_val (v:=.bool true) (some 23) rfl rfl rfl rfl (fun c h=>by cases h) (w':=w6) (by go_simp) ?_
     simp only [Act.put,List.setIfInBounds_toArray,List.set_cons_zero,List.set_cons_succ]
     refine wpAnyIn_done (by kernel_rfl) ?_ _
     refine NoPanic.normal ?_
     gi_wp2_with (fail)
     refine bodyPost_ret (res_noneI rfl _ _) rfl ?_
     exact ⟨⟨_,rfl⟩,.inr HX6.out⟩
    refine ⟨_,rfl,?_⟩
    simp only [Act.put,List.setIfInBounds_toArray,List.set_cons_zero,List.set_cons_succ]
    have HJ6:Hid (J (q+1) Z6 w6):=hj6
    have HIN6:Hid (InF W G b ys Z6 w6):=by
     have k6:Kp wr w6 (fun i=>(Zq i∨i∈f4)∨i=w.heap.size+1):=hK4.of_nul.trans hk6
     have hbl:=HBL.out
     have hb2:=HW2.out.low
     have hb3:=HSZ.out
     refine ⟨fun hz=>?_,fun i y hy=>rangeAt_kp (HIN.out.rng i y hy) k6 (fun e=>?_),fun y hy=>(HIN.out.tree y hy).kp k6 (fun i hi e=>?_),Nat.le_trans HIN.out.size k6.size⟩
     ·rcases hm6 b hz with h|h
      ·exact HIN.out.nz h
      ·have h1:=HBL.out
       have h2:=hK4.size
       omega
     ·rcases e with (e|e)|e
      ·exact HIN.out.nz e
      ·have:=(ho4.new _ e).1;omega
      ·omega
     ·have hi':=HA.out i hi
      rcases e with (e|e)|e
      ·exact HS.out i ((HJZ.out _ _ _ HJQ.out).2 i (by omega) e) hi
      ·have:=(ho4.new _ e).1;have:=HIN.out.size;omega
      ·omega
    clear hy hR hj6 hm6 hk6 hk4 ho4 hK4 hs5
    refine wpAnyIn_ready (rs:=[7]) (by kernel_rfl) (by simp) ?_
    intro i hi
    obtain rfl:=List.mem_singleton.1 hi
    clear hi
    refine any_val (v:=.bool false) (some 23) rfl rfl rfl rfl (fun c h=>by cases h) (w':=w6) (by go_simp) ?_
    simp only [Act.put,List.setIfInBounds_toArray,List.set_cons_zero,List.set_cons_succ]
    refine wpAnyIn_done (by kernel_rfl) ?_ _
    refine NoPanic.normal ?_
    gi_wp2_with (fail)
    exact ⟨⟨q+1,Z6,by omega,by go_num,HJ6.out,HIN6.out⟩,by simp only [RowKit.intOf];omega⟩
   ·obtain rfl:=List.mem_singleton.1 hi
    clear hi
    refine any_val (v:=.agg (a.cells sa).toArray) (some 20) rfl rfl rfl rfl (fun c h=>by cases h) (w':=(wr.alloc (.cells (ptCells ((c,s),a) sa).toArray 84)).drew) (exec_load_row 46 (.tmp 19) rfl wr.heap.size 2 rfl (a.cells sa) _ (HCo.out _ ((Kp.refl _ _).drew)) Tryz.underlying46 rfl infoContent) ?_
    simp only [Act.put,List.setIfInBounds_toArray,List.set_cons_zero,List.set_cons_succ]
    refine wpAnyIn_ready (rs:=[2,5]) (by kernel_rfl) (by simp) ?_
    intro i hi
    rcases List.mem_cons.1 hi with rfl|hi
    ·clear hi
     refine any_val (v:=.agg #[.int .i64 c,.int .i64 s]) (some 18) rfl rfl rfl rfl (fun c h=>by cases h) (w':=(wr.alloc (.cells (ptCells ((c,s),a) sa).toArray 84)).drew) (exec_load_row 36 (.tmp 17) rfl wr.heap.size 0 rfl [.int .i64 c,.int .i64 s] _ (HAt.out (wr.alloc (.cells (ptCells ((c,s),a) sa).toArray 84)).drew ((Kp.refl _ _).drew)) Tryz.underlying36 rfl infoAddr2) ?_
     simp only [Act.put,List.setIfInBounds_toArray,List.set_cons_zero,List.set_cons_succ]
     refine wpAnyIn_ready (rs:=[5]) (by kernel_rfl) (by simp) ?_
     intro i hi
     obtain rfl:=List.mem_singleton.1 hi
     clear hi
     refine any_call (f:=38) (args:=#[.agg (a.cells sa).toArray]) (some 21) rfl rfl rfl (by decide) (fun c h=>by cases h) (w':=(wr.alloc (.cells (ptCells ((c,s),a) sa).toArray 84)).drew) (by go_simp) ?_
     refine (HCp.out _ ((Kp.refl _ _).drew)).mono ?_
     rintro e w4 ⟨s4,rfl,⟨f4,ho4⟩,hk4⟩
     refine ⟨_,rfl,?_⟩
     simp only [Act.put,List.setIfInBounds_toArray,List.set_cons_zero,List.set_cons_succ]
     refine wpAnyIn_ready (rs:=[6]) (by kernel_rfl) (by simp) ?_
     intro i hi
     obtain rfl:=List.mem_singleton.1 hi
     clear hi
     have hK4:Kp wr w4 Nul:=((Kp.refl wr Nul).alloc _).drew.trans hk4
     have hs5:(wr.alloc (.cells (ptCells ((c,s),a) sa).toArray 84)).drew.heap.size=wr.heap.size+1:=World.size_alloc _ _
     obtain ⟨fn,tms,asg,bod,hy,hR⟩:=HY.out 7 q ((((c,s),a),s4),f4) Zq w4 hlt (HJ.out _ _ _ _ HJQ.out hK4) ⟨HKQ.out,ho4.own,ho4.nodup,fun i hi=>by
      have h1:=(ho4.new i hi).1
      have h2:=HSZ.out
      have h3:=HIN.out.size
      exact ⟨by omega,fun hz=>by have:=(HJZ.out _ _ _ HJQ.out).1 i hz;omega⟩⟩
     refine any_round (l:=w.heap.size+1) (f:=fn) (tms:=tms) (asg:=asg) (bod:=bod) (some 22) rfl rfl rfl (by decide) (fun c h=>by cases h) (w':=w4) ?_ ?_
     ·first
      | (go_simp;done)
      | (go_simp;exact hy)
     refine hR.mono ?_
     rintro e w6 (⟨rfl,⟨Z6,hj6,hm6⟩,hk6⟩|⟨rfl,hx6⟩)
     rotate_left
     ·have HX6:Hid (Jx w6):=hx6
      refine ⟨_,rfl,?_⟩
      simp only [Act.put,List.setIfInBounds_toArray,List.set_cons_zero,List.set_cons_succ]
      clear hy hR hx6 hk4 ho4 hK4 hs5
      refine wpAnyIn_ready (rs:=[7]) (by kernel_rfl) (by simp) ?_
      intro i hi
      obtain rfl:=List.mem_singleton.1 hi
      clear hi
      refine any_val (v:=.bool true) (some 23) rfl rfl rfl rfl (fun c h=>by cases h) (w':=w6) (by go_simp) ?_
      simp only [Act.put,List.setIfInBounds_toArray,List.set_cons_zero,List.set_cons_succ]
      refine wpAnyIn_done (by kernel_rfl) ?_ _
      refine NoPanic.normal ?_
      gi_wp2_with (fail)
      refine bodyPost_ret (res_noneI rfl _ _) rfl ?_
      exact ⟨⟨_,rfl⟩,.inr HX6.out⟩
     refine ⟨_,rfl,?_⟩
     simp only [Act.put,List.setIfInBounds_toArray,List.set_cons_zero,List.set_cons_succ]
     have HJ6:Hid (J (q+1) Z6 w6):=hj6
     have HIN6:Hid (InF W G b ys Z6 w6):=by
      have k6:Kp wr w6 (fun i=>(Zq i∨i∈f4)∨i=w.heap.size+1):=hK4.of_nul.trans hk6
      have hbl:=HBL.out
      have hb2:=HW2.out.low
      have hb3:=HSZ.out
      refine ⟨fun hz=>?_,fun i y hy=>rangeAt_kp (HIN.out.rng i y hy) k6 (fun e=>?_),fun y hy=>(HIN.out.tree y hy).kp k6 (fun i hi e=>?_),Nat.le_trans HIN.out.size k6.size⟩
      ·rcases hm6 b hz with h|h
       ·exact HIN.out.nz h
       ·have h1:=HBL.out
        have h2:=hK4.size
        omega
      ·rcases e with (e|e)|e
       ·exact HIN.out.nz e
       ·have:=(ho4.new _ e).1;omega
       ·omega
      ·have hi':=HA.out i hi
       rcases e with (e|e)|e
       ·exact HS.out i ((HJZ.out _ _ _ HJQ.out).2 i (by omega) e) hi
       ·have:=(ho4.new _ e).1;have:=HIN.out.size;omega
       ·omega
     clear hy hR hj6 hm6 hk6 hk4 ho4 hK4 hs5
     refine wpAnyIn_ready (rs:=[7]) (by kernel_rfl) (by simp) ?_
     intro i hi
     obtain rfl:=List.mem_singleton.1 hi
     clear hi
     refine any_val (v:=.bool false) (some 23) rfl rfl rfl rfl (fun c h=>by cases h) (w':=w6) (by go_simp) ?_
     simp only [Act.put,List.setIfInBounds_toArray,List.set_cons_zero,List.set_cons_succ]
     refine wpAnyIn_done (by kernel_rfl) ?_ _
     refine NoPanic.normal ?_
     gi_wp2_with (fail)
     exact ⟨⟨q+1,Z6,by omega,by go_num,HJ6.out,HIN6.out⟩,by simp only [RowKit.intOf];omega⟩
    ·obtain rfl:=List.mem_singleton.1 hi
     clear hi
     refine any_call (f:=38) (args:=#[.agg (a.cells sa).toArray]) (some 21) rfl rfl rfl (by decide) (fun c h=>by cases h) (w':=(wr.alloc (.cells (ptCells ((c,s),a) sa).toArray 84)).drew) (by go_simp) ?_
     refine (HCp.out _ ((Kp.refl _ _).drew)).mono ?_
     rintro e w4 ⟨s4,rfl,⟨f4,ho4⟩,hk4⟩
     refine ⟨_,rfl,?_⟩
     simp only [Act.put,List.setIfInBounds_toArray,List.set_cons_zero,List.set_cons_succ]
     refine wpAnyIn_ready (rs:=[2]) (by kernel_rfl) (by simp) ?_
     intro i hi
     obtain rfl:=List.mem_singleton.1 hi
     clear hi
     refine any_val (v:=.agg #[.int .i64 c,.int .i64 s]) (some 18) rfl rfl rfl rfl (fun c h=>by cases h) (w':=w4) (exec_load_row 36 (.tmp 17) rfl wr.heap.size 0 rfl [.int .i64 c,.int .i64 s] _ (HAt.out w4 (((Kp.refl _ _).drew).trans hk4)) Tryz.underlying36 rfl infoAddr2) ?_
     simp only [Act.put,List.setIfInBounds_toArray,List.set_cons_zero,List.set_cons_succ]
     refine wpAnyIn_ready (rs:=[6]) (by kernel_rfl) (by simp) ?_
     intro i hi
     obtain rfl:=List.mem_singleton.1 hi
     clear hi
     have hK4:Kp wr w4 Nul:=((Kp.refl wr Nul).alloc _).drew.trans hk4
     have hs5:(wr.alloc (.cells (ptCells ((c,s),a) sa).toArray 84)).drew.heap.size=wr.heap.size+1:=World.size_alloc _ _
     obtain ⟨fn,tms,asg,bod,hy,hR⟩:=HY.out 7 q ((((c,s),a),s4),f4) Zq w4 hlt (HJ.out _ _ _ _ HJQ.out hK4) ⟨HKQ.out,ho4.own,ho4.nodup,fun i hi=>by
      have h1:=(ho4.new i hi).1
      have h2:=HSZ.out
      have h3:=HIN.out.size
      exact ⟨by omega,fun hz=>by have:=(HJZ.out _ _ _ HJQ.out).1 i hz;omega⟩⟩
     refine any_round (l:=w.heap.size+1) (f:=fn) (tms:=tms) (asg:=asg) (bod:=bod) (some 22) rfl rfl rfl (by decide) (fun c h=>by cases h) (w':=w4) ?_ ?_
     ·first
      | (go_simp;done)
      | (go_simp;exact hy)
     refine hR.mono ?_
     rintro e w6 (⟨rfl,⟨Z6,hj6,hm6⟩,hk6⟩|⟨rfl,hx6⟩)
     rotate_left
     ·have HX6:Hid (Jx w6):=hx6
      refine ⟨_,rfl,?_⟩
      simp only [Act.put,List.setIfInBounds_toArray,List.set_cons_zero,List.set_cons_succ]
      clear hy hR hx6 hk4 ho4 hK4 hs5
      refine wpAnyIn_ready (rs:=[7]) (by kernel_rfl) (by simp) ?_
      intro i hi
      obtain rfl:=List.mem_singleton.1 hi
      clear hi
      refine any_val (v:=.bool true) (some 23) rfl rfl rfl rfl (fun c h=>by cases h) (w':=w6) (by go_simp) ?_
      simp only [Act.put,List.setIfInBounds_toArray,List.set_cons_zero,List.set_cons_succ]
      refine wpAnyIn_done (by kernel_rfl) ?_ _
      refine NoPanic.normal ?_
      gi_wp2_with (fail)
      refine bodyPost_ret (res_noneI rfl _ _) rfl ?_
      exact ⟨⟨_,rfl⟩,.inr HX6.out⟩
     refine ⟨_,rfl,?_⟩
     simp only [Act.put,List.setIfInBounds_toArray,List.set_cons_zero,List.set_cons_succ]
     have HJ6:Hid (J (q+1) Z6 w6):=hj6
     have HIN6:Hid (InF W G b ys Z6 w6):=by
      have k6:Kp wr w6 (fun i=>(Zq i∨i∈f4)∨i=w.heap.size+1):=hK4.of_nul.trans hk6
      have hbl:=HBL.out
      have hb2:=HW2.out.low
      have hb3:=HSZ.out
      refine ⟨fun hz=>?_,fun i y hy=>rangeAt_kp (HIN.out.rng i y hy) k6 (fun e=>?_),fun y hy=>(HIN.out.tree y hy).kp k6 (fun i hi e=>?_),Nat.le_trans HIN.out.size k6.size⟩
      ·rcases hm6 b hz with h|h
       ·exact HIN.out.nz h
       ·have h1:=HBL.out
        have h2:=hK4.size
        omega
      ·rcases e with (e|e)|e
       ·exact HIN.out.nz e
       ·have:=(ho4.new _ e).1;omega
       ·omega
      ·have hi':=HA.out i hi
       rcases e with (e|e)|e
       ·exact HS.out i ((HJZ.out _ _ _ HJQ.out).2 i (by omega) e) hi
       ·have:=(ho4.new _ e).1;have:=HIN.out.size;omega
       ·omega
     clear hy hR hj6 hm6 hk6 hk4 ho4 hK4 hs5
     refine wpAnyIn_ready (rs:=[7]) (by kernel_rfl) (by simp) ?_
     intro i hi
     obtain rfl:=List.mem_singleton.1 hi
     clear hi
     refine any_val (v:=.bool false) (some 23) rfl rfl rfl rfl (fun c h=>by cases h) (w':=w6) (by go_simp) ?_
     simp only [Act.put,List.setIfInBounds_toArray,List.set_cons_zero,List.set_cons_succ]
     refine wpAnyIn_done (by kernel_rfl) ?_ _
     refine NoPanic.normal ?_
     gi_wp2_with (fail)
     exact ⟨⟨q+1,Z6,by omega,by go_num,HJ6.out,HIN6.out⟩,by simp only [RowKit.intOf];omega⟩
  ·have hqe:q=n:=by omega
   subst hqe
   have hqn:¬ ((q:Int) < (q:Int)):=by omega
   have HJN:Hid (∃ Z',J q Z' wr):=⟨_,HJQ.out⟩
   gi_wp2_with (fail)
   go_end0
   exact ⟨⟨_,rfl⟩,.inl (by rw [HN.out];exact HJN.out)⟩
end Go.Proofs.YtlppcfeakakpfaaGreatDoor
