/- GridPlays: a step's op; steps that do nothing. GridPlays: a step of Get. By wip/gen_prr.py. GridPlays: a step of In. By wip/gen_prs.py. GridPlays: a step of All. By wip/gen_prt.py. -/
import Derived.Test.YtlppcfeakakpfaaGreatDoorQpPrn
set_option maxRecDepth 20000
set_option maxHeartbeats 16000000
namespace Go.Proofs.YtlppcfeakakpfaaGreatDoor
open Go.RowKit Go.Maps Go.Sort Go.Lib Go.Shelf
def opC (on kd nn c s:Int) (ct:Ct) (sl:Value) (m1 m2 m3 m4:Int):List Value:=[.int .i64 on,.int .i64 kd,.int .i64 nn,.int .i64 c,.int .i64 s] ++ ct.cells sl ++ [.int .i64 m1,.int .i64 m2,.int .i64 m3,.int .i64 m4]
structure OpIn (w0:World) (B:Nat) (on nn c s:Int) (ct:Ct) (sl:Value):Prop where
 on:I64 on
 nn:I64 nn
 c:I64 c
 s:I64 s
 ok:ct.t.ok
 vx:ct.v.x < 18446744073709551616
 inn:NdIn w0 (fun _=>True) sl ct.t
 tx:Tx ct
 sz:ct.t.size≤1048576
 vs:VS w0
 lo:w0.heap.size≤B
def StR (w0:World) (B xw bg br:Nat) (e:Ending) (W:World):Prop:=e=.returned (.bool true)∧(∃ g r L K v ys,PlayS W B xw bg br g r L K v ys)∧Kp w0 W Nul
structure OpA (wq:World) (xo:Nat) (on kd nn c s:Int) (ct:Ct) (sl:Value) (m1 m2 m3 m4:Int):Prop where
 c0:wq.cell? ⟨xo,0,none⟩=some (.int .i64 on)
 c1:wq.cell? ⟨xo,1,none⟩=some (.int .i64 kd)
 c2:wq.cell? ⟨xo,2,none⟩=some (.int .i64 nn)
 c3:wq.cell? ⟨xo,3,none⟩=some (.int .i64 c)
 c4:wq.cell? ⟨xo,4,none⟩=some (.int .i64 s)
 at':wq.rangeAt xo 3 [.int .i64 c,.int .i64 s]
 ct:wq.rangeAt xo 5 (ct.cells sl)
 ar:wq.rangeAt xo 26 [.int .i64 m1,.int .i64 m2,.int .i64 m3,.int .i64 m4]
theorem opC_at {wq:World} {xo:Nat} {on kd nn c s:Int} {ct:Ct} {sl:Value} {m1 m2 m3 m4:Int} (h:Blk wq xo (opC on kd nn c s ct sl m1 m2 m3 m4) 50):OpA wq xo on kd nn c s ct sl m1 m2 m3 m4:=by
 have hr:∀ (pre l post:List Value),opC on kd nn c s ct sl m1 m2 m3 m4=pre ++ l ++ post→wq.rangeAt xo pre.length l:=fun pre l post e=>by
  rw [e] at h
  exact rangeAt_mid h
 have h3:wq.rangeAt xo 26 [.int .i64 m1,.int .i64 m2,.int .i64 m3,.int .i64 m4]:=by
  have:=hr (([.int .i64 on,.int .i64 kd,.int .i64 nn,.int .i64 c,.int .i64 s]:List Value) ++ ct.cells sl) [.int .i64 m1,.int .i64 m2,.int .i64 m3,.int .i64 m4] [] (by rw [List.append_nil];rfl)
  exact this
 exact ⟨h.cell rfl,h.cell rfl,h.cell rfl,h.cell rfl,h.cell rfl,hr [.int .i64 on,.int .i64 kd,.int .i64 nn] [.int .i64 c,.int .i64 s] (ct.cells sl ++ [.int .i64 m1,.int .i64 m2,.int .i64 m3,.int .i64 m4]) rfl,hr [.int .i64 on,.int .i64 kd,.int .i64 nn,.int .i64 c,.int .i64 s] (ct.cells sl) [.int .i64 m1,.int .i64 m2,.int .i64 m3,.int .i64 m4] rfl,h3⟩
theorem pk2 (on:Int):∃ k:Nat,k < 2∧pkf on 2=k:=by
 have h:=(pkf_val on 2 (by decide)).2
 exact ⟨pkf on 2,by omega,rfl⟩
structure PPa (wq:World) (xw bg br:Nat) (g r:Nat→Nat):Prop where
 x0:wq.cell? ⟨xw,0,none⟩=some (.slice (some ⟨bg,0,none⟩) 2 2)
 x1:wq.cell? ⟨xw,1,none⟩=some (.slice (some ⟨br,0,none⟩) 2 2)
 g:∀ k,k < 2→wq.cell? ⟨bg,k,none⟩=some (.pointer (some ⟨g k,0,none⟩))
 r:∀ k,k < 2→wq.cell? ⟨br,k,none⟩=some (.pointer (some ⟨r k,0,none⟩))
theorem PP.at' {W:World} {B xw bg br:Nat} {g r:Nat→Nat} (h:PP W B xw bg br g r):PPa W xw bg br g r:=by
 refine ⟨h.xs.cell rfl,h.xs.cell rfl,fun k hk=>?_,fun k hk=>?_⟩
 ·have:k=0∨k=1:=by omega
  rcases this with rfl|rfl
  ·exact h.gs.cell rfl
  ·exact h.gs.cell rfl
 ·have:k=0∨k=1:=by omega
  rcases this with rfl|rfl
  ·exact h.rs.cell rfl
  ·exact h.rs.cell rfl
theorem opC_ones (on kd nn c s:Int) (ct:Ct) {sl:Value} (m1 m2 m3 m4:Int) (h:sl.oneCell'=true):∀ u∈opC on kd nn c s ct sl m1 m2 m3 m4,u.oneCell'=true:=by
 have:=ct.one h
 rw [Array.all_eq_true'] at this
 intro u hu
 unfold opC at hu
 rw [List.mem_append,List.mem_append] at hu
 rcases hu with (hu|hu)|hu
 ·simp only [List.mem_cons,List.not_mem_nil,or_false] at hu
  rcases hu with rfl|rfl|rfl|rfl|rfl <;> rfl
 ·exact this u (by simpa using hu)
 ·simp only [List.mem_cons,List.not_mem_nil,or_false] at hu
  rcases hu with rfl|rfl|rfl|rfl <;> rfl
theorem step_none (w0 w:World) (B xw bg br:Nat) (g r:Nat→Nat) (L K:Nat→List Cc) (v:Nat→Value) (ys:Nat→List (Cc×Value)) (on kd nn c s:Int) (ct:Ct) (sl:Value) (m1 m2 m3 m4:Int) (hP:PlayS w B xw bg br g r L K v ys) (hO:OpIn w0 B on nn c s ct sl) (hw:Kp w0 w Nul) (hkd:kd < 1∨8 < kd) :
  Calls Tryz.prog 7 #[.pointer (some ⟨xw,0,none⟩),.agg (opC on kd nn c s ct sl m1 m2 m3 m4).toArray] w (StR w0 B xw bg br):=by
 obtain ⟨k,hk,hpk⟩:=pk2 on
 have HPick:Hid (∀ wq,Calls Tryz.prog 17 #[.int .i64 on,.int .i64 2] wq fun e w'=>e=.returned (.int .i64 (k:Int))∧w'=wq):=fun wq=>by
  rw [← hpk]
  exact pick_n on 2 hO.on (by decide) wq
 obtain ⟨xo,hxo⟩:∃ xo,w.heap.size=xo:=⟨_,rfl⟩
 obtain ⟨W1,hW1⟩:∃ W1,w.alloc (.cells (opC on kd nn c s ct sl m1 m2 m3 m4).toArray 50)=W1:=⟨_,rfl⟩
 have HW1:Hid (w.alloc (.cells (opC on kd nn c s ct sl m1 m2 m3 m4).toArray 50)=W1):=hW1
 have k1:Kp w W1 Nul:=by rw [← hW1];exact (Kp.refl w Nul).alloc _
 have HOp:Hid (Blk W1 xo (opC on kd nn c s ct sl m1 m2 m3 m4) 50):=by show Blk _ _ _ _;rw [← hW1,← hxo];exact Blk.new w _ _
 have HP:Hid (PlayS W1 B xw bg br g r L K v ys):=hP.nul k1
 have HK:Hid (Kp w0 W1 Nul):=hw.trans k1
 have hp:=(hP.pp.nul k1).at'
 obtain ⟨p0,p1⟩:W1.cell? ⟨xw,0,none⟩=some (.slice (some ⟨bg,0,none⟩) 2 2)∧W1.cell? ⟨xw,1,none⟩=some (.slice (some ⟨br,0,none⟩) 2 2):=⟨hp.x0,hp.x1⟩
 have pg:=hp.g k hk
 have pr:=hp.r k hk
 have ho:=opC_at HOp.out
 have o0:=ho.c0
 have o1:=ho.c1
 have hk0:(0:Int)≤(k:Int):=by omega
 have hk2:(k:Int) < 2:=by omega
 have e1:(kd == 1)=false:=by rw [beq_eq_false_iff_ne];omega
 have e2:(kd == 2)=false:=by rw [beq_eq_false_iff_ne];omega
 have e3:(kd == 3)=false:=by rw [beq_eq_false_iff_ne];omega
 have e4:(kd == 4)=false:=by rw [beq_eq_false_iff_ne];omega
 have e5:(kd == 5)=false:=by rw [beq_eq_false_iff_ne];omega
 have e6:(kd == 6)=false:=by rw [beq_eq_false_iff_ne];omega
 have e7:(kd == 7)=false:=by rw [beq_eq_false_iff_ne];omega
 have e8:(kd == 8)=false:=by rw [beq_eq_false_iff_ne];omega
 have HE:Hid (StR w0 B xw bg br (.returned (.bool true)) W1):=⟨rfl,⟨_,_,_,_,_,_,HP.out⟩,HK.out⟩
 generalize (opC on kd nn c s ct sl m1 m2 m3 m4).toArray=oc at *
 clear hP hO hw hpk hkd hW1 k1 hp ho
 go_enter Tryz.func7,Tryz.ntmps7
 go_upto_region 1 with fail
 rw [HW1.out]
 clear HW1 hxo
 go_wp2_with fail
 refine (HPick.out _).mono ?_
 rintro e w1 ⟨rfl,hz⟩
 replace hz:=hz.symm
 subst hz
 go_wp2_with fail
 go_ret
 exact HE.out
theorem get_same {L K:List Cc} {k:Int×Int} {u:Ct} {lo:Nat} (ha:Al L K) (hL:Ok17 L) (ho:L.Pairwise (fun x y=>x.1≠y.1)) (hr:Rd17 L k u) (hp:Place K k lo):gtL K lo k=u:=by
 have hno:∀ {x:Cc},K[lo]? = some x→x.1≠k→∀ a,(k,a) ∉ K:=fun {x} hx hne a h=>by
  obtain ⟨j,hj,e⟩:=List.getElem_of_mem h
  have hj':K[j]? = some (k,a):=by rw [List.getElem?_eq_getElem hj,e]
  rcases Nat.lt_trichotomy j lo with q|q|q
  ·have:=hp.lt j _ hj' q
   rw [cfA_irr] at this
   cases this
  ·subst q
   rw [hx] at hj'
   exact hne (by rw [Option.some.inj hj'])
  ·have h1:=strict_get ha.st hx hj' q
   rw [hp.ge lo _ hx (Nat.le_refl _)] at h1
   cases h1
 have hz:(∀ a,(k,a) ∉ K)→u=zCt:=fun h=>by
  rcases hr with q|q
  ·exact absurd ((ha.mem _).2 q) (h u)
  ·exact q.1
 unfold gtL
 split
 ·rename_i hx
  refine (hz fun a h=>?_).symm
  obtain ⟨j,hj,e⟩:=List.getElem_of_mem h
  have hj':K[j]? = some (k,a):=by rw [List.getElem?_eq_getElem hj,e]
  have hlo:K.length≤lo:=List.getElem?_eq_none_iff.1 hx
  have:=hp.lt j _ hj' (by omega)
  rw [cfA_irr] at this
  cases this
 ·rename_i x hx
  split
  ·rename_i e
   subst e
   have hm:x∈L:=(ha.mem x).1 (List.mem_of_getElem? hx)
   rw [(hL.gd x hm).cp]
   rcases hr with q|q
   ·exact once_eq ho hm q
   ·exact absurd hm (q.2 x.2)
  ·rename_i e
   exact (hz (hno hx e)).symm
theorem step_get (w0 w:World) (B xw bg br:Nat) (g r:Nat→Nat) (L K:Nat→List Cc) (v:Nat→Value) (ys:Nat→List (Cc×Value)) (on nn c s:Int) (ct:Ct) (sl:Value) (m1 m2 m3 m4:Int) (hP:PlayS w B xw bg br g r L K v ys) (hO:OpIn w0 B on nn c s ct sl) (hw:Kp w0 w Nul) :
  Calls Tryz.prog 7 #[.pointer (some ⟨xw,0,none⟩),.agg (opC on 2 nn c s ct sl m1 m2 m3 m4).toArray] w (StR w0 B xw bg br):=by
 obtain ⟨k,hk,hpk⟩:=pk2 on
 have HPick:Hid (∀ wq,Calls Tryz.prog 17 #[.int .i64 on,.int .i64 2] wq fun e w'=>e=.returned (.int .i64 (k:Int))∧w'=wq):=fun wq=>by
  rw [← hpk]
  exact pick_n on 2 hO.on (by decide) wq
 obtain ⟨xo,hxo⟩:∃ xo,w.heap.size=xo:=⟨_,rfl⟩
 obtain ⟨W1,hW1⟩:∃ W1,w.alloc (.cells (opC on 2 nn c s ct sl m1 m2 m3 m4).toArray 50)=W1:=⟨_,rfl⟩
 have HW1:Hid (w.alloc (.cells (opC on 2 nn c s ct sl m1 m2 m3 m4).toArray 50)=W1):=hW1
 have k1:Kp w W1 Nul:=by rw [← hW1];exact (Kp.refl w Nul).alloc _
 have HOp:Hid (Blk W1 xo (opC on 2 nn c s ct sl m1 m2 m3 m4) 50):=by show Blk _ _ _ _;rw [← hW1,← hxo];exact Blk.new w _ _
 have HP:Hid (PlayS W1 B xw bg br g r L K v ys):=hP.nul k1
 have HK:Hid (Kp w0 W1 Nul):=hw.trans k1
 have HO:Hid (OpIn w0 B on nn c s ct sl):=hO
 have HB1:Hid (B≤W1.heap.size):=by show _≤_;have h1:=hP.pp.lo.1;have h2:=HP.out.pp.xs.lt;omega
 have hp:=(hP.pp.nul k1).at'
 obtain ⟨p0,p1⟩:W1.cell? ⟨xw,0,none⟩=some (.slice (some ⟨bg,0,none⟩) 2 2)∧W1.cell? ⟨xw,1,none⟩=some (.slice (some ⟨br,0,none⟩) 2 2):=⟨hp.x0,hp.x1⟩
 have pg:=hp.g k hk
 have pr:=hp.r k hk
 have ho:=opC_at HOp.out
 have o0:=ho.c0
 have o1:=ho.c1
 have o2:=ho.c2
 have o3:=ho.c3
 have o4:=ho.c4
 have hk0:(0:Int)≤(k:Int):=by omega
 have hk2:(k:Int) < 2:=by omega
 have HAt:Hid (∀ wq,Kp W1 wq Nul→OpA wq xo on 2 nn c s ct sl m1 m2 m3 m4):=fun wq q=>opC_at (HOp.out.kp q (fun x=>x))
 obtain ⟨u,hRd,hux,huo,husz,hucp,hget⟩:=get17 (g k) (L k) W1 (HP.out.gg.g0 hk) (HP.out.gg.ok k hk) c s hO.c hO.s
 have HGet:Hid (∀ wq,Kp W1 wq Nul→Calls Tryz.prog 13 #[.pointer (some ⟨g k,0,none⟩),.agg #[.int .i64 c,.int .i64 s]] wq fun e w'=>∃ sl' fp,e=.returned (.agg (u.cells sl').toArray)∧Own w' wq.heap.size sl' u.t fp∧Kp wq w' Nul):=hget
 have HRGet:Hid (∀ wq,Kp W1 wq Nul→Calls Tryz.prog 22 #[.pointer (some ⟨r k,0,none⟩),.agg #[.int .i64 c,.int .i64 s]] wq fun e w'=>∃ sl' fp,e=.returned (.agg (u.cells sl').toArray)∧Own w' wq.heap.size sl' u.t fp∧Kp wq w' Nul):=fun wq q=>by
  refine (rget_at B (r k) (v k) (ys k) (K k) c s wq ((HP.out.dd.dg k hk).kp q) (HP.out.kk.ks k hk) ?_ (HP.out.kk.al k hk).st ?_).mono ?_
  ·have h1:=(HP.out.kk.al k hk).len;have h2:=(HP.out.gg.ok k hk).len;omega
  ·intro x hx
   have hg:=(HP.out.gg.ok k hk).gd x (((HP.out.kk.al k hk).mem x).1 hx)
   exact ⟨hg.x,hg.size,hg.ok⟩
  ·rintro e w' ⟨lo,sl',fp,hlo,rfl,h1,h2⟩
   rw [get_same (HP.out.kk.al k hk) (HP.out.gg.ok k hk) (HP.out.gg.g0 hk).once hRd hlo] at h1 ⊢
   exact ⟨sl',fp,rfl,h1,h2⟩
 have HSz:Hid (u.t.size≤1048576):=husz
 clear hRd hux huo husz hucp hget
 generalize (opC on 2 nn c s ct sl m1 m2 m3 m4).toArray=oc at *
 clear hP hO hw hpk hW1 k1 hp ho
 go_enter Tryz.func7,Tryz.ntmps7
 go_upto_region 1 with fail
 rw [HW1.out]
 clear HW1 hxo
 go_wp2_with fail
 refine (HPick.out _).mono ?_
 rintro e w1 ⟨rfl,hz⟩
 replace hz:=hz.symm
 subst hz
 go_wp2_with fail
 refine (HGet.out _ (Kp.refl _ _)).mono ?_
 rintro e wa ⟨sa,fa,rfl,howa,kwa⟩
 have HOwa:Hid (Own wa W1.heap.size sa u.t fa):=howa
 have HKwa:Hid (Kp W1 wa Nul):=kwa
 obtain ⟨Awa,hAwa⟩:∃ A,wa.alloc (.cells (u.cells sa).toArray 46)=A:=⟨_,rfl⟩
 have HAwa:Hid (wa.alloc (.cells (u.cells sa).toArray 46)=Awa):=hAwa
 have HKAwa:Hid (Kp wa Awa Nul):=by show Kp _ _ _;rw [← hAwa];exact (Kp.refl _ _).alloc _
 have HBAwa:Hid (Blk Awa wa.heap.size (u.cells sa) 46):=by show Blk _ _ _ _;rw [← hAwa];exact Blk.new wa _ _
 have Owa:Hid (sa.oneCell'=true):=howa.own.one
 clear howa kwa hAwa
 go_upto_region 13 with (first
  | (refine wpList_store_new rfl 46 (.tmp 11) (.tmp 82) rfl _ _ _ _ _ (by first|rfl|simp) rfl rfl rfl infoContent (u.one Owa.out) ?_)
  | fail)
 rw [HAwa.out]
 clear HAwa
 have KA:Hid (Kp W1 Awa Nul):=HKwa.out.trans HKAwa.out
 have o3a:=(HAt.out _ KA.out).c3
 have o4a:=(HAt.out _ KA.out).c4
 go_wp2_with fail
 refine (HGet.out _ KA.out).mono ?_
 rintro e wb ⟨sb,fb,rfl,howb,kwb⟩
 have HOwb:Hid (Own wb Awa.heap.size sb u.t fb):=howb
 have HKwb:Hid (Kp Awa wb Nul):=kwb
 obtain ⟨Awb,hAwb⟩:∃ A,wb.alloc (.cells (u.cells sb).toArray 46)=A:=⟨_,rfl⟩
 have HAwb:Hid (wb.alloc (.cells (u.cells sb).toArray 46)=Awb):=hAwb
 have HKAwb:Hid (Kp wb Awb Nul):=by show Kp _ _ _;rw [← hAwb];exact (Kp.refl _ _).alloc _
 have HBAwb:Hid (Blk Awb wb.heap.size (u.cells sb) 46):=by show Blk _ _ _ _;rw [← hAwb];exact Blk.new wb _ _
 have Owb:Hid (sb.oneCell'=true):=howb.own.one
 clear howb kwb hAwb
 go_upto_region 14 with (first
  | (refine wpList_store_new rfl 46 (.tmp 12) (.tmp 86) rfl _ _ _ _ _ (by first|rfl|simp) rfl rfl rfl infoContent (u.one Owb.out) ?_)
  | fail)
 rw [HAwb.out]
 clear HAwb
 have KB:Hid (Kp W1 Awb Nul):=(KA.out.trans HKwb.out).trans HKAwb.out
 have o3b:=(HAt.out _ KB.out).c3
 have o4b:=(HAt.out _ KB.out).c4
 go_wp2_with fail
 refine (HRGet.out _ KB.out).mono ?_
 rintro e wc ⟨sc,fc,rfl,howc,kwc⟩
 have HOwc:Hid (Own wc Awb.heap.size sc u.t fc):=howc
 have HKwc:Hid (Kp Awb wc Nul):=kwc
 obtain ⟨Awc,hAwc⟩:∃ A,wc.alloc (.cells (u.cells sc).toArray 46)=A:=⟨_,rfl⟩
 have HAwc:Hid (wc.alloc (.cells (u.cells sc).toArray 46)=Awc):=hAwc
 have HKAwc:Hid (Kp wc Awc Nul):=by show Kp _ _ _;rw [← hAwc];exact (Kp.refl _ _).alloc _
 have HBAwc:Hid (Blk Awc wc.heap.size (u.cells sc) 46):=by show Blk _ _ _ _;rw [← hAwc];exact Blk.new wc _ _
 have Owc:Hid (sc.oneCell'=true):=howc.own.one
 clear howc kwc hAwc
 go_upto_region 15 with (first
  | (refine wpList_store_new rfl 46 (.tmp 13) (.tmp 90) rfl _ _ _ _ _ (by first|rfl|simp) rfl rfl rfl infoContent (u.one Owc.out) ?_)
  | fail)
 rw [HAwc.out]
 clear HAwc
 have KC:Hid (Kp W1 Awc Nul):=(KB.out.trans HKwc.out).trans HKAwc.out
 have kac:Kp wa Awc Nul:=HKAwa.out.trans ((HKwb.out.trans HKAwb.out).trans (HKwc.out.trans HKAwc.out))
 have kbc:Kp wb Awc Nul:=HKAwb.out.trans (HKwc.out.trans HKAwc.out)
 have OA:Hid (Own Awc W1.heap.size sa u.t fa):=HOwa.out.kp kac (fun _ _ x=>x)
 have OB:Hid (Own Awc Awa.heap.size sb u.t fb):=HOwb.out.kp kbc (fun _ _ x=>x)
 have OC:Hid (Own Awc Awb.heap.size sc u.t fc):=HOwc.out.kp HKAwc.out (fun _ _ x=>x)
 have BA:Hid (Blk Awc wa.heap.size (u.cells sa) 46):=HBAwa.out.kp ((HKwb.out.trans HKAwb.out).trans (HKwc.out.trans HKAwc.out)) (fun x=>x)
 have BB:Hid (Blk Awc wb.heap.size (u.cells sb) 46):=HBAwb.out.kp (HKwc.out.trans HKAwc.out) (fun x=>x)
 have HSZ:Hid (W1.heap.size≤wa.heap.size∧wa.heap.size < Awa.heap.size∧Awa.heap.size≤wb.heap.size∧wb.heap.size < Awb.heap.size∧Awb.heap.size≤wc.heap.size∧wc.heap.size < Awc.heap.size):=⟨HKwa.out.size,HBAwa.out.lt,HKwb.out.size,HBAwb.out.lt,HKwc.out.size,HBAwc.out.lt⟩
 have HR1:Hid (Awc.rangeAt wa.heap.size 0 (u.cells sa)):=BA.out.all
 have HR3:Hid (Awc.rangeAt wc.heap.size 0 (u.cells sc)):=HBAwc.out.all
 have HJust:Hid (∀ wq,Kp Awc wq Nul→Calls Tryz.prog 19 #[.agg (u.cells sa).toArray,.agg (u.cells sc).toArray] wq fun e w'=>e=.returned (.bool true)∧Kp wq w' Nul):=fun wq q=>just_at u sa sc (fun _=>True) (fun _=>True) wq ((OA.out.own.isIn (fun _ _=>trivial)).kp q (fun _ _ x=>x)) ((OC.out.own.isIn (fun _ _=>trivial)).kp q (fun _ _ x=>x))
 go_wp2_with (first
  | (refine wpList_load_mid rfl 46 (.tmp 11) rfl wa.heap.size (0) rfl (u.cells sa) _ HR1.out Tryz.underlying46 rfl infoContent ?_)
  | (refine wpList_load_mid rfl 46 (.tmp 13) rfl wc.heap.size (0) rfl (u.cells sc) _ HR3.out Tryz.underlying46 rfl infoContent ?_)
  | fail)
 refine (HJust.out _ (Kp.refl _ _)).mono ?_
 rintro e wd ⟨rfl,kd⟩
 have KD:Hid (Kp Awc wd Nul):=kd
 have HR6:Hid (wd.rangeAt wa.heap.size 6 (u.t.hd.cells sa)):=by
  have h:=BA.out.kp kd (fun x=>x)
  obtain ⟨k,⟨vk,vx,vs,vb,vf⟩,t⟩:=u
  exact rangeAt_mid (pre:=[.int .i64 k,.int .i64 vk,.float .f64 vx,.string vs,.bool vb,.int .i64 vf]) (l:=t.hd.cells sa) (post:=[]) h
 have HOver:Hid (Calls Tryz.prog 20 #[.agg (u.t.hd.cells sa).toArray] wd fun e w'=>e=.returned (.tuple #[])∧Kp wd w' (fun i=>i∈fa)):=over_any u.t.size u.t sa fa wd (Nat.le_refl _) HSz.out ((OA.out.kp kd (fun _ _ x=>x)).le (Nat.zero_le _))
 clear kd kac kbc HR1 HR3 HJust
 go_wp2_with (first
  | (refine wpList_load_mid rfl 44 (.tmp 94) rfl wa.heap.size (6) rfl (u.t.hd.cells sa) _ HR6.out Tryz.underlying44 rfl infoNode ?_)
  | fail)
 refine HOver.out.mono ?_
 rintro e we ⟨rfl,ke⟩
 have HFa:Hid (∀ i∈fa,W1.heap.size≤i∧i < wa.heap.size):=fun i hi=>⟨(HOwa.out.new i hi).1,(HOwa.out.new i hi).2⟩
 have KE:Hid (Kp Awc we (fun i=>i∈fa)):=KD.out.of_nul.trans ke
 have BB2:Hid (Blk we wb.heap.size (u.cells sb) 46):=BB.out.kp KE.out (fun e=>by have h1:=(HFa.out _ e).2;have h2:=HSZ.out;omega)
 have BC2:Hid (Blk we wc.heap.size (u.cells sc) 46):=HBAwc.out.kp KE.out (fun e=>by have h1:=(HFa.out _ e).2;have h2:=HSZ.out;omega)
 have OB2:Hid (Own we Awa.heap.size sb u.t fb):=OB.out.kp KE.out (fun i hi e=>by have h1:=(HFa.out _ e).2;have h2:=(OB.out.new i hi).1;have h3:=HSZ.out;omega)
 have OC2:Hid (Own we Awb.heap.size sc u.t fc):=OC.out.kp KE.out (fun i hi e=>by have h1:=(HFa.out _ e).2;have h2:=(OC.out.new i hi).1;have h3:=HSZ.out;omega)
 have HR1:Hid (we.rangeAt wb.heap.size 0 (u.cells sb)):=BB2.out.all
 have HR3:Hid (we.rangeAt wc.heap.size 0 (u.cells sc)):=BC2.out.all
 have HJust:Hid (Calls Tryz.prog 19 #[.agg (u.cells sb).toArray,.agg (u.cells sc).toArray] we fun e w'=>e=.returned (.bool true)∧Kp we w' Nul):=just_at u sb sc (fun _=>True) (fun _=>True) we (OB2.out.own.isIn (fun _ _=>trivial)) (OC2.out.own.isIn (fun _ _=>trivial))
 clear ke HOver HR6
 go_wp2_with (first
  | (refine wpList_load_mid rfl 46 (.tmp 12) rfl wb.heap.size (0) rfl (u.cells sb) _ HR1.out Tryz.underlying46 rfl infoContent ?_)
  | (refine wpList_load_mid rfl 46 (.tmp 13) rfl wc.heap.size (0) rfl (u.cells sc) _ HR3.out Tryz.underlying46 rfl infoContent ?_)
  | fail)
 refine HJust.out.mono ?_
 rintro e wf ⟨rfl,kf⟩
 have HE:Hid (StR w0 B xw bg br (.returned (.bool true)) wf):=by
  have q:Kp W1 wf Nul:=(KC.out.trans' KE.out (fun i hi e=>by have h1:=(HFa.out _ e).1;omega)).trans kf
  exact ⟨rfl,⟨_,_,_,_,_,_,HP.out.nul q⟩,HK.out.trans q⟩
 clear kf HJust HR1 HR3
 go_wp2_with fail
 go_ret
 exact HE.out
theorem inL_strict {m1 m2 m3 m4:Int} {K:List Cc} (h:Strict (K.map (·.1))):Strict ((inL m1 m2 m3 m4 K).map (·.1)):=by
 unfold Strict at h ⊢
 rw [List.pairwise_map] at h ⊢
 exact h.filter _
theorem inQ_map (m1 m2 m3 m4:Int) (ys:List (Cc×Value)):(inQ m1 m2 m3 m4 ys ys.length).map (·.1)=inL m1 m2 m3 m4 (ys.map (·.1)):=by
 unfold inQ inL
 rw [List.take_length,List.filter_map]
 rfl
theorem in_any (g:Nat) (m1 m2 m3 m4:Int) (w:World):Calls Tryz.prog 25 #[.pointer (some ⟨g,0,none⟩),.agg ([.int .i64 m1,.int .i64 m2,.int .i64 m3,.int .i64 m4]).toArray] w fun e w'=>∃ x0 x1,e=.returned (.func (.func 47) #[] #[.pointer (some ⟨x0,0,none⟩),.pointer (some ⟨x1,0,none⟩)])∧Blk w' x0 [.pointer (some ⟨g,0,none⟩)] 25∧Blk w' x1 [.int .i64 m1,.int .i64 m2,.int .i64 m3,.int .i64 m4] 48∧Kp w w' Nul:=by
 obtain ⟨W,hW⟩:∃ W,(w.alloc (.cells #[.pointer (some ⟨g,0,none⟩)] 25)).alloc (.cells #[.int .i64 m1,.int .i64 m2,.int .i64 m3,.int .i64 m4] 48)=W:=⟨_,rfl⟩
 have HW:Hid ((w.alloc (.cells #[.pointer (some ⟨g,0,none⟩)] 25)).alloc (.cells #[.int .i64 m1,.int .i64 m2,.int .i64 m3,.int .i64 m4] 48)=W):=hW
 have HK:Hid (Kp w W Nul):=by show Kp w W Nul;rw [← hW];exact ((Kp.refl w Nul).alloc _).alloc _
 have HB0:Hid (Blk W w.heap.size [.pointer (some ⟨g,0,none⟩)] 25):=by show Blk _ _ _ _;rw [← hW];exact (Blk.new w [.pointer (some ⟨g,0,none⟩)] _).alloc _
 have HB1:Hid (Blk W (w.heap.size+1) [.int .i64 m1,.int .i64 m2,.int .i64 m3,.int .i64 m4] 48):=by
  have:=Blk.new (w.alloc (.cells #[.pointer (some ⟨g,0,none⟩)] 25)) [.int .i64 m1,.int .i64 m2,.int .i64 m3,.int .i64 m4] 48
  rw [World.size_alloc] at this
  show Blk _ _ _ _
  rw [← hW];exact this
 clear hW
 go_enter Tryz.func25,Tryz.ntmps25
 go_wp2_with fail
 rw [HW.out]
 go_ret
 exact ⟨_,_,rfl,HB0.out,HB1.out,HK.out⟩
theorem step_in (w0 w:World) (B xw bg br:Nat) (g r:Nat→Nat) (L K:Nat→List Cc) (v:Nat→Value) (ys:Nat→List (Cc×Value)) (on nn c s:Int) (ct:Ct) (sl:Value) (m1 m2 m3 m4:Int) (hP:PlayS w B xw bg br g r L K v ys) (hO:OpIn w0 B on nn c s ct sl) (hw:Kp w0 w Nul) :
  Calls Tryz.prog 7 #[.pointer (some ⟨xw,0,none⟩),.agg (opC on 4 nn c s ct sl m1 m2 m3 m4).toArray] w (StR w0 B xw bg br):=by
 obtain ⟨k,hk,hpk⟩:=pk2 on
 have HPick:Hid (∀ wq,Calls Tryz.prog 17 #[.int .i64 on,.int .i64 2] wq fun e w'=>e=.returned (.int .i64 (k:Int))∧w'=wq):=fun wq=>by
  rw [← hpk]
  exact pick_n on 2 hO.on (by decide) wq
 obtain ⟨xo,hxo⟩:∃ xo,w.heap.size=xo:=⟨_,rfl⟩
 obtain ⟨W1,hW1⟩:∃ W1,w.alloc (.cells (opC on 4 nn c s ct sl m1 m2 m3 m4).toArray 50)=W1:=⟨_,rfl⟩
 have HW1:Hid (w.alloc (.cells (opC on 4 nn c s ct sl m1 m2 m3 m4).toArray 50)=W1):=hW1
 have k1:Kp w W1 Nul:=by rw [← hW1];exact (Kp.refl w Nul).alloc _
 have HOp:Hid (Blk W1 xo (opC on 4 nn c s ct sl m1 m2 m3 m4) 50):=by show Blk _ _ _ _;rw [← hW1,← hxo];exact Blk.new w _ _
 have HP:Hid (PlayS W1 B xw bg br g r L K v ys):=hP.nul k1
 have HK:Hid (Kp w0 W1 Nul):=hw.trans k1
 have HO:Hid (OpIn w0 B on nn c s ct sl):=hO
 have HB1:Hid (B≤W1.heap.size):=by show _≤_;have h1:=hP.pp.lo.1;have h2:=HP.out.pp.xs.lt;omega
 have hp:=(hP.pp.nul k1).at'
 obtain ⟨p0,p1⟩:W1.cell? ⟨xw,0,none⟩=some (.slice (some ⟨bg,0,none⟩) 2 2)∧W1.cell? ⟨xw,1,none⟩=some (.slice (some ⟨br,0,none⟩) 2 2):=⟨hp.x0,hp.x1⟩
 have pg:=hp.g k hk
 have pr:=hp.r k hk
 have ho:=opC_at HOp.out
 have o0:=ho.c0
 have o1:=ho.c1
 have o2:=ho.c2
 have o3:=ho.c3
 have o4:=ho.c4
 have hk0:(0:Int)≤(k:Int):=by omega
 have hk2:(k:Int) < 2:=by omega
 have HAt:Hid (∀ wq,Kp W1 wq Nul→OpA wq xo on 4 nn c s ct sl m1 m2 m3 m4):=fun wq q=>opC_at (HOp.out.kp q (fun x=>x))
 have HRIn:Hid (∀ wq,Kp W1 wq Nul→Calls Tryz.prog 24 #[.pointer (some ⟨r k,0,none⟩),.agg ([.int .i64 m1,.int .i64 m2,.int .i64 m3,.int .i64 m4]).toArray] wq fun e w'=>∃ v',e=.returned v'∧Pts w' wq.heap.size (fun _=>True) v' (inQ m1 m2 m3 m4 (ys k) (ys k).length)∧Kp wq w' Nul):=fun wq q=>rin_at B (r k) (v k) (ys k) m1 m2 m3 m4 wq ((HP.out.dd.dg k hk).kp q) (by have h1:=(HP.out.kk.al k hk).len;have h2:=(HP.out.gg.ok k hk).len;have h3:=congrArg List.length (HP.out.kk.ks k hk);rw [List.length_map] at h3;omega)
 have HIn:Hid (∀ wq,Calls Tryz.prog 25 #[.pointer (some ⟨g k,0,none⟩),.agg ([.int .i64 m1,.int .i64 m2,.int .i64 m3,.int .i64 m4]).toArray] wq fun e w'=>∃ x0 x1,e=.returned (.func (.func 47) #[] #[.pointer (some ⟨x0,0,none⟩),.pointer (some ⟨x1,0,none⟩)])∧Blk w' x0 [.pointer (some ⟨g k,0,none⟩)] 25∧Blk w' x1 [.int .i64 m1,.int .i64 m2,.int .i64 m3,.int .i64 m4] 48∧Kp wq w' Nul):=fun wq=>in_any (g k) m1 m2 m3 m4 wq
 have HPk5:Hid (∀ wq,Calls Tryz.prog 17 #[.int .i64 nn,.int .i64 5] wq fun e w'=>e=.returned (.int .i64 (pkf nn 5:Nat))∧w'=wq):=fun wq=>pick_n nn 5 hO.nn (by decide) wq
 have HTold:Hid (∀ x0 x1 (B':Nat) v' (lv:Int) wq,Kp W1 wq Nul→Blk wq x0 [.pointer (some ⟨g k,0,none⟩)] 25→Blk wq x1 [.int .i64 m1,.int .i64 m2,.int .i64 m3,.int .i64 m4] 48→Pts wq B' (fun _=>True) v' (inQ m1 m2 m3 m4 (ys k) (ys k).length)→Calls Tryz.prog 8 #[.func (.func 47) #[] #[.pointer (some ⟨x0,0,none⟩),.pointer (some ⟨x1,0,none⟩)],v',.int .i64 lv] wq fun e w'=>e=.returned (.bool true)∧Kp wq w' Nul):=fun x0 x1 B' v' lv wq q h0 h1 hp=>
  told_at (g k) x0 x1 m1 m2 m3 m4 (L k) _ (inL m1 m2 m3 m4 (K k)) rfl wq ((HP.out.gg.g0 hk).kp q) (HP.out.gg.ok k hk) (inL_strict (HP.out.kk.al k hk).st) (fun x=>(inL_iff rfl).trans ((and_congr ((HP.out.kk.al k hk).mem x) Iff.rfl).trans (inL_iff rfl).symm)) h0 h1 B' v' _ hp (by rw [inQ_map,HP.out.kk.ks k hk]) lv
 generalize hNN:pkf nn 5=n5 at *
 clear hNN
 generalize (opC on 4 nn c s ct sl m1 m2 m3 m4).toArray=oc at *
 clear hP hO hw hpk hW1 k1 hp ho
 go_enter Tryz.func7,Tryz.ntmps7
 go_upto_region 1 with fail
 rw [HW1.out]
 clear HW1 hxo
 go_wp2_with fail
 refine (HPick.out _).mono ?_
 rintro e w1 ⟨rfl,hz⟩
 replace hz:=hz.symm
 subst hz
 have HR0:Hid (W1.rangeAt xo 26 [.int .i64 m1,.int .i64 m2,.int .i64 m3,.int .i64 m4]):=(HAt.out _ (Kp.refl _ _)).ar
 go_wp2_with (first
  | (refine wpList_load_mid rfl 48 (.tmp 160) rfl xo (26) rfl ([.int .i64 m1,.int .i64 m2,.int .i64 m3,.int .i64 m4]) _ HR0.out Tryz.underlying48 rfl infoArea4 ?_)
  | fail)
 refine (HRIn.out _ (Kp.refl _ _)).mono ?_
 rintro e wa ⟨vA,rfl,hpa,ka⟩
 have KA:Hid (Kp W1 wa Nul):=ka
 have HPt:Hid (Pts wa W1.heap.size (fun _=>True) vA (inQ m1 m2 m3 m4 (ys k) (ys k).length)):=hpa
 clear hpa ka HRIn HR0
 go_upto_region 27 with fail
 refine wp_region_noPanic ?_
 refine wp_region_hel (fun w':World=>Kp wa w' Nul) (by kernel_rfl) ((Kp.refl _ _).drew) (fun hHeld=>?_)
 refine wpH_takes (i:=0) (v:=.pointer (some ⟨g k,0,none⟩)) (some 163) rfl rfl (by kernel_rfl) (by kernel_rfl) (by kernel_rfl) (fun _ _ _ h=>h) (Or.inl ⟨by rfl,?_⟩) hHeld ?_
 ·intro w' hSw;clear hSw;go_simp
 simp only [Act.put,List.setIfInBounds_toArray,List.set_cons_zero,List.set_cons_succ]
 refine wpH_takes (i:=1) (v:=.pointer (some ⟨xo,26,none⟩)) (some 164) rfl rfl (by kernel_rfl) (by kernel_rfl) (by kernel_rfl) (fun _ _ _ h=>h) (Or.inl ⟨by rfl,?_⟩) hHeld ?_
 ·intro w' hSw;clear hSw;go_simp
 simp only [Act.put,List.setIfInBounds_toArray,List.set_cons_zero,List.set_cons_succ]
 refine wpH_takes (i:=2) (v:=.agg ([.int .i64 m1,.int .i64 m2,.int .i64 m3,.int .i64 m4]).toArray) (some 165) rfl rfl (by kernel_rfl) (by kernel_rfl) (by kernel_rfl) (fun _ _ _ h=>h) (Or.inl ⟨by rfl,fun w' hSw=>exec_load_row 48 (.tmp 164) rfl xo 26 rfl ([.int .i64 m1,.int .i64 m2,.int .i64 m3,.int .i64 m4]) _ ((HAt.out w' (KA.out.trans hSw)).ar) Tryz.underlying48 rfl infoArea4⟩) hHeld ?_
 simp only [Act.put,List.setIfInBounds_toArray,List.set_cons_zero,List.set_cons_succ]
 refine wpH_takes (i:=4) (v:=vA) (some 167) rfl rfl (by kernel_rfl) (by kernel_rfl) (by kernel_rfl) (fun _ _ _ h=>h) (Or.inl ⟨by rfl,?_⟩) hHeld ?_
 ·intro w' hSw;clear hSw;go_simp
 simp only [Act.put,List.setIfInBounds_toArray,List.set_cons_zero,List.set_cons_succ]
 refine wpH_takes (i:=5) (v:=.pointer (some ⟨xo,2,none⟩)) (some 168) rfl rfl (by kernel_rfl) (by kernel_rfl) (by kernel_rfl) (fun _ _ _ h=>h) (Or.inl ⟨by rfl,?_⟩) hHeld ?_
 ·intro w' hSw;clear hSw;go_simp
 simp only [Act.put,List.setIfInBounds_toArray,List.set_cons_zero,List.set_cons_succ]
 refine wpH_takes (i:=6) (v:=.int .i64 nn) (some 169) rfl rfl (by kernel_rfl) (by kernel_rfl) (by kernel_rfl) (fun _ _ _ h=>h) (Or.inl ⟨by rfl,?_⟩) hHeld ?_
 ·intro w' hSw;have s0:=(HAt.out w' (KA.out.trans hSw)).c2;clear hSw;go_simp
 simp only [Act.put,List.setIfInBounds_toArray,List.set_cons_zero,List.set_cons_succ]
 refine wpH_step (i:=3) (by kernel_rfl) rfl rfl (fun KK hKK=>?_)
 go_simp
 refine (HIn.out _).mono ?_
 rintro e wb ⟨x0,x1,rfl,hb0,hb1,kb⟩
 have KB:Hid (Kp wa wb Nul):=((Kp.refl wa Nul).drew).trans kb
 have HX:Hid (Blk wb x0 [.pointer (some ⟨g k,0,none⟩)] 25∧Blk wb x1 [.int .i64 m1,.int .i64 m2,.int .i64 m3,.int .i64 m4] 48):=⟨hb0,hb1⟩
 refine hKK.out _ _ KB.out (fun hHeld=>?_)
 clear hKK KK kb hb0 hb1
 (try simp only [Act.put,List.setIfInBounds_toArray,List.set_cons_zero,List.set_cons_succ])
 refine wpH_step (i:=7) (by kernel_rfl) rfl rfl (fun KK hKK=>?_)
 go_simp
 refine (HPk5.out _).mono ?_
 rintro e wc ⟨rfl,hz⟩
 replace hz:=hz.symm
 subst hz
 refine hKK.out _ _ KB.out (fun hHeld=>?_)
 clear hKK KK
 (try simp only [Act.put,List.setIfInBounds_toArray,List.set_cons_zero,List.set_cons_succ])
 refine wpH_step (i:=8) (by kernel_rfl) rfl rfl (fun KK hKK=>?_)
 go_simp
 refine (HTold.out x0 x1 _ vA (n5:Nat) wb (KA.out.trans KB.out) HX.out.1 HX.out.2 (HPt.out.kp KB.out)).mono ?_
 rintro e wd ⟨rfl,kd⟩
 have KD:Hid (Kp wa wd Nul):=KB.out.trans kd
 refine hKK.out _ _ KD.out (fun hHeld=>?_)
 clear hKK KK kd
 (try simp only [Act.put,List.setIfInBounds_toArray,List.set_cons_zero,List.set_cons_succ])
 refine wpH_takes (i:=9) (v:=.bool true) (some 23) rfl rfl (by kernel_rfl) (by kernel_rfl) (by kernel_rfl) (fun _ _ _ h=>h) (Or.inl ⟨by rfl,?_⟩) hHeld ?_
 ·intro w' hSw;clear hSw;go_simp
 simp only [Act.put,List.setIfInBounds_toArray,List.set_cons_zero,List.set_cons_succ]
 refine wpAnyH_done (by kernel_rfl) ?_ _
 refine NoPanic.normal ?_
 clear hHeld HX
 have HR1:Hid (wd.rangeAt xo 26 [.int .i64 m1,.int .i64 m2,.int .i64 m3,.int .i64 m4]):=(HAt.out _ (KA.out.trans KD.out)).ar
 go_wp2_with (first
  | (refine wpList_load_mid rfl 48 (.tmp 173) rfl xo (26) rfl ([.int .i64 m1,.int .i64 m2,.int .i64 m3,.int .i64 m4]) _ HR1.out Tryz.underlying48 rfl infoArea4 ?_)
  | fail)
 refine (HIn.out _).mono ?_
 rintro e we ⟨y0,y1,rfl,hb0,hb1,ke⟩
 have KE:Hid (Kp wa we Nul):=KD.out.trans ke
 have HX:Hid (Blk we y0 [.pointer (some ⟨g k,0,none⟩)] 25∧Blk we y1 [.int .i64 m1,.int .i64 m2,.int .i64 m3,.int .i64 m4] 48):=⟨hb0,hb1⟩
 clear hb0 hb1 ke HR1
 go_wp2_with fail
 refine (HTold.out y0 y1 _ vA 0 we (KA.out.trans KE.out) HX.out.1 HX.out.2 (HPt.out.kp KE.out)).mono ?_
 rintro e wf ⟨rfl,kf⟩
 have HE:Hid (StR w0 B xw bg br (.returned (.bool true)) wf):=by
  have q:Kp W1 wf Nul:=(KA.out.trans KE.out).trans kf
  exact ⟨rfl,⟨_,_,_,_,_,_,HP.out.nul q⟩,HK.out.trans q⟩
 clear kf
 go_wp2_with fail
 go_ret
 exact HE.out
theorem inL_all {L:List Cc} (h:Ok17 L) (x:Cc):x∈inL 1 1 256 4096 L ↔ x∈L:=by
 rw [inL_iff rfl]
 refine ⟨And.left,fun hx=>⟨hx,?_⟩⟩
 have:=(vC_iff _ _).1 (h.at' x hx)
 simp [inA,vA,vC,this]
theorem step_all (w0 w:World) (B xw bg br:Nat) (g r:Nat→Nat) (L K:Nat→List Cc) (v:Nat→Value) (ys:Nat→List (Cc×Value)) (on nn c s:Int) (ct:Ct) (sl:Value) (m1 m2 m3 m4:Int) (hP:PlayS w B xw bg br g r L K v ys) (hO:OpIn w0 B on nn c s ct sl) (hw:Kp w0 w Nul) :
  Calls Tryz.prog 7 #[.pointer (some ⟨xw,0,none⟩),.agg (opC on 3 nn c s ct sl m1 m2 m3 m4).toArray] w (StR w0 B xw bg br):=by
 obtain ⟨k,hk,hpk⟩:=pk2 on
 have HPick:Hid (∀ wq,Calls Tryz.prog 17 #[.int .i64 on,.int .i64 2] wq fun e w'=>e=.returned (.int .i64 (k:Int))∧w'=wq):=fun wq=>by
  rw [← hpk]
  exact pick_n on 2 hO.on (by decide) wq
 obtain ⟨xo,hxo⟩:∃ xo,w.heap.size=xo:=⟨_,rfl⟩
 obtain ⟨W1,hW1⟩:∃ W1,w.alloc (.cells (opC on 3 nn c s ct sl m1 m2 m3 m4).toArray 50)=W1:=⟨_,rfl⟩
 have HW1:Hid (w.alloc (.cells (opC on 3 nn c s ct sl m1 m2 m3 m4).toArray 50)=W1):=hW1
 have k1:Kp w W1 Nul:=by rw [← hW1];exact (Kp.refl w Nul).alloc _
 have HOp:Hid (Blk W1 xo (opC on 3 nn c s ct sl m1 m2 m3 m4) 50):=by show Blk _ _ _ _;rw [← hW1,← hxo];exact Blk.new w _ _
 have HP:Hid (PlayS W1 B xw bg br g r L K v ys):=hP.nul k1
 have HK:Hid (Kp w0 W1 Nul):=hw.trans k1
 have HO:Hid (OpIn w0 B on nn c s ct sl):=hO
 have HB1:Hid (B≤W1.heap.size):=by show _≤_;have h1:=hP.pp.lo.1;have h2:=HP.out.pp.xs.lt;omega
 have hp:=(hP.pp.nul k1).at'
 obtain ⟨p0,p1⟩:W1.cell? ⟨xw,0,none⟩=some (.slice (some ⟨bg,0,none⟩) 2 2)∧W1.cell? ⟨xw,1,none⟩=some (.slice (some ⟨br,0,none⟩) 2 2):=⟨hp.x0,hp.x1⟩
 have pg:=hp.g k hk
 have pr:=hp.r k hk
 have ho:=opC_at HOp.out
 have o0:=ho.c0
 have o1:=ho.c1
 have o2:=ho.c2
 have o3:=ho.c3
 have o4:=ho.c4
 have hk0:(0:Int)≤(k:Int):=by omega
 have hk2:(k:Int) < 2:=by omega
 have HAt:Hid (∀ wq,Kp W1 wq Nul→OpA wq xo on 3 nn c s ct sl m1 m2 m3 m4):=fun wq q=>opC_at (HOp.out.kp q (fun x=>x))
 obtain ⟨p,cp,hvk,_⟩:=(HP.out.dd.dg k hk).pts.slice
 obtain ⟨n,hn⟩:∃ n,(ys k).length=n:=⟨_,rfl⟩
 have hKn:(K k).length=n:=by rw [← hn,← HP.out.kk.ks k hk,List.length_map]
 have hLn:(L k).length=n:=by rw [← hKn,(HP.out.kk.al k hk).len]
 have hn4:n≤4096:=by have:=(HP.out.gg.ok k hk).len;omega
 rw [hn] at hvk
 have HDk:Hid (∀ wq,Kp W1 wq Nul→DG wq B (r k) (.slice p n cp) (ys k)):=fun wq q=>by
  have h:=(HP.out.dd.dg k hk).kp q
  rw [hvk] at h
  exact h
 have HRc:Hid (∀ wq,Kp W1 wq Nul→wq.cell? ⟨r k,0,none⟩=some (.slice p n cp)):=fun wq q=>(HDk.out wq q).box.cell rfl
 obtain ⟨ba,hba⟩:∃ ba,bndN (K k) (n - 1)=ba:=⟨_,rfl⟩
 obtain ⟨bb,hbb⟩:∃ bb,decide (0 < n)=bb:=⟨_,rfl⟩
 have HBd:Hid (∀ wq,Kp W1 wq Nul→Calls Tryz.prog 14 #[.pointer (some ⟨g k,0,none⟩)] wq fun e w'=>e=.returned (.tuple #[.agg ([.int .i64 ba.1.1,.int .i64 ba.1.2,.int .i64 ba.2.1,.int .i64 ba.2.2]).toArray,.bool bb])∧Kp wq w' Nul):=fun wq q=>by
  have h:=bounds_any (g k) (L k) (K k) wq ((HP.out.gg.g0 hk).kp q) (HP.out.gg.ok k hk) (HP.out.kk.al k hk)
  rw [hKn,hba,hbb] at h
  exact h
 have HRBd:Hid (∀ wq,Kp W1 wq Nul→Calls Tryz.prog 23 #[.pointer (some ⟨r k,0,none⟩)] wq fun e w'=>e=.returned (.tuple #[.agg ([.int .i64 ba.1.1,.int .i64 ba.1.2,.int .i64 ba.2.1,.int .i64 ba.2.2]).toArray,.bool bb])∧Kp wq w' Nul):=fun wq q=>by
  have h:=rbounds_at B (r k) _ (ys k) (K k) wq (HDk.out wq q) (HP.out.kk.ks k hk) (by omega)
  rw [hKn,hba,hbb] at h
  exact h
 have HAll:Hid (∀ wq,Calls Tryz.prog 9 #[.pointer (some ⟨g k,0,none⟩)] wq fun e w'=>∃ x0 x1,e=.returned (.func (.func 47) #[] #[.pointer (some ⟨x0,0,none⟩),.pointer (some ⟨x1,0,none⟩)])∧Blk w' x0 [.pointer (some ⟨g k,0,none⟩)] 25∧Blk w' x1 [.int .i64 1,.int .i64 1,.int .i64 256,.int .i64 4096] 48∧Kp wq w' Nul):=fun wq=>all_at (g k) wq
 have HPk5:Hid (∀ wq,Calls Tryz.prog 17 #[.int .i64 nn,.int .i64 5] wq fun e w'=>e=.returned (.int .i64 (pkf nn 5:Nat))∧w'=wq):=fun wq=>pick_n nn 5 hO.nn (by decide) wq
 have HTold:Hid (∀ x0 x1 (lv:Int) wq,Kp W1 wq Nul→Blk wq x0 [.pointer (some ⟨g k,0,none⟩)] 25→Blk wq x1 [.int .i64 1,.int .i64 1,.int .i64 256,.int .i64 4096] 48→Calls Tryz.prog 8 #[.func (.func 47) #[] #[.pointer (some ⟨x0,0,none⟩),.pointer (some ⟨x1,0,none⟩)],.slice p n cp,.int .i64 lv] wq fun e w'=>e=.returned (.bool true)∧Kp wq w' Nul):=fun x0 x1 lv wq q h0 h1=>
  told_at (g k) x0 x1 1 1 256 4096 (L k) _ (K k) rfl wq ((HP.out.gg.g0 hk).kp q) (HP.out.gg.ok k hk) (HP.out.kk.al k hk).st (fun x=>((HP.out.kk.al k hk).mem x).trans (inL_all (HP.out.gg.ok k hk) x).symm) h0 h1 B _ _ (HDk.out wq q).pts (HP.out.kk.ks k hk) lv
 have HLen:Hid (∀ wq,Kp W1 wq Nul→Calls Tryz.prog 15 #[.pointer (some ⟨g k,0,none⟩)] wq fun e w'=>e=.returned (.int .i64 (n:Nat))∧w'=wq):=fun wq q=>by
  have h:=len_at wq _ (g k) (L k) ((HP.out.gg.g0 hk).kp q)
  rw [hLn] at h
  exact h
 generalize hNN:pkf nn 5=n5 at *
 clear hNN hba hbb hvk hn hKn hLn hn4
 generalize (opC on 3 nn c s ct sl m1 m2 m3 m4).toArray=oc at *
 clear hP hO hw hpk hW1 k1 hp ho
 go_enter Tryz.func7,Tryz.ntmps7
 go_upto_region 1 with fail
 rw [HW1.out]
 clear HW1 hxo
 go_wp2_with fail
 refine (HPick.out _).mono ?_
 rintro e w1 ⟨rfl,hz⟩
 replace hz:=hz.symm
 subst hz
 go_wp2_with fail
 refine (HBd.out _ (Kp.refl _ _)).mono ?_
 rintro e wa ⟨rfl,kwa⟩
 have HKwa:Hid (Kp W1 wa Nul):=kwa
 obtain ⟨Awa,hAwa⟩:∃ A,wa.alloc (.cells #[.int .i64 ba.1.1,.int .i64 ba.1.2,.int .i64 ba.2.1,.int .i64 ba.2.2] 48)=A:=⟨_,rfl⟩
 have HAwa:Hid (wa.alloc (.cells #[.int .i64 ba.1.1,.int .i64 ba.1.2,.int .i64 ba.2.1,.int .i64 ba.2.2] 48)=Awa):=hAwa
 have HKAwa:Hid (Kp wa Awa Nul):=by show Kp _ _ _;rw [← hAwa];exact (Kp.refl _ _).alloc _
 have HBAwa:Hid (Blk Awa wa.heap.size [.int .i64 ba.1.1,.int .i64 ba.1.2,.int .i64 ba.2.1,.int .i64 ba.2.2] 48):=by show Blk _ _ _ _;rw [← hAwa];exact Blk.new wa _ _
 clear kwa hAwa
 go_upto_region 21 with fail
 rw [HAwa.out]
 clear HAwa
 have KA:Hid (Kp W1 Awa Nul):=HKwa.out.trans HKAwa.out
 go_wp2_with fail
 refine (HRBd.out _ KA.out).mono ?_
 rintro e wb ⟨rfl,kwb⟩
 have HKwb:Hid (Kp Awa wb Nul):=kwb
 obtain ⟨Awb,hAwb⟩:∃ A,wb.alloc (.cells #[.int .i64 ba.1.1,.int .i64 ba.1.2,.int .i64 ba.2.1,.int .i64 ba.2.2] 48)=A:=⟨_,rfl⟩
 have HAwb:Hid (wb.alloc (.cells #[.int .i64 ba.1.1,.int .i64 ba.1.2,.int .i64 ba.2.1,.int .i64 ba.2.2] 48)=Awb):=hAwb
 have HKAwb:Hid (Kp wb Awb Nul):=by show Kp _ _ _;rw [← hAwb];exact (Kp.refl _ _).alloc _
 have HBAwb:Hid (Blk Awb wb.heap.size [.int .i64 ba.1.1,.int .i64 ba.1.2,.int .i64 ba.2.1,.int .i64 ba.2.2] 48):=by show Blk _ _ _ _;rw [← hAwb];exact Blk.new wb _ _
 clear kwb hAwb
 go_upto_region 22 with fail
 rw [HAwb.out]
 clear HAwb
 have KB:Hid (Kp W1 Awb Nul):=(KA.out.trans HKwb.out).trans HKAwb.out
 refine wp_region_noPanic ?_
 refine wp_region_hel (fun w':World=>Kp Awb w' Nul) (by kernel_rfl) ((Kp.refl _ _).drew) (fun hHeld=>?_)
 refine wpH_takes (i:=0) (v:=.pointer (some ⟨g k,0,none⟩)) (some 116) rfl rfl (by kernel_rfl) (by kernel_rfl) (by kernel_rfl) (fun _ _ _ h=>h) (Or.inl ⟨by rfl,?_⟩) hHeld ?_
 ·intro w' hSw;clear hSw;go_simp
 simp only [Act.put,List.setIfInBounds_toArray,List.set_cons_zero,List.set_cons_succ]
 refine wpH_takes (i:=2) (v:=.pointer (some ⟨r k,0,none⟩)) (some 118) rfl rfl (by kernel_rfl) (by kernel_rfl) (by kernel_rfl) (fun _ _ _ h=>h) (Or.inl ⟨by rfl,?_⟩) hHeld ?_
 ·intro w' hSw;clear hSw;go_simp
 simp only [Act.put,List.setIfInBounds_toArray,List.set_cons_zero,List.set_cons_succ]
 refine wpH_takes (i:=3) (v:=.pointer (some ⟨r k,0,none⟩)) (some 119) rfl rfl (by kernel_rfl) (by kernel_rfl) (by kernel_rfl) (fun _ _ _ h=>h) (Or.inl ⟨by rfl,?_⟩) hHeld ?_
 ·intro w' hSw;clear hSw;go_simp
 simp only [Act.put,List.setIfInBounds_toArray,List.set_cons_zero,List.set_cons_succ]
 refine wpH_takes (i:=4) (v:=.pointer (some ⟨r k,0,none⟩)) (some 120) rfl rfl (by kernel_rfl) (by kernel_rfl) (by kernel_rfl) (fun _ _ _ h=>h) (Or.inl ⟨by rfl,?_⟩) hHeld ?_
 ·intro w' hSw;clear hSw;go_simp
 simp only [Act.put,List.setIfInBounds_toArray,List.set_cons_zero,List.set_cons_succ]
 refine wpH_takes (i:=5) (v:=.slice p n cp) (some 121) rfl rfl (by kernel_rfl) (by kernel_rfl) (by kernel_rfl) (fun _ _ _ h=>h) (Or.inl ⟨by rfl,?_⟩) hHeld ?_
 ·intro w' hSw;have s0:=HRc.out w' (KB.out.trans hSw);clear hSw;go_simp
 simp only [Act.put,List.setIfInBounds_toArray,List.set_cons_zero,List.set_cons_succ]
 refine wpH_takes (i:=6) (v:=.pointer (some ⟨xo,2,none⟩)) (some 122) rfl rfl (by kernel_rfl) (by kernel_rfl) (by kernel_rfl) (fun _ _ _ h=>h) (Or.inl ⟨by rfl,?_⟩) hHeld ?_
 ·intro w' hSw;clear hSw;go_simp
 simp only [Act.put,List.setIfInBounds_toArray,List.set_cons_zero,List.set_cons_succ]
 refine wpH_takes (i:=7) (v:=.int .i64 nn) (some 123) rfl rfl (by kernel_rfl) (by kernel_rfl) (by kernel_rfl) (fun _ _ _ h=>h) (Or.inl ⟨by rfl,?_⟩) hHeld ?_
 ·intro w' hSw;have s0:=(HAt.out w' (KB.out.trans hSw)).c2;clear hSw;go_simp
 simp only [Act.put,List.setIfInBounds_toArray,List.set_cons_zero,List.set_cons_succ]
 refine wpH_step (i:=1) (by kernel_rfl) rfl rfl (fun KK hKK=>?_)
 go_simp
 refine (HAll.out _).mono ?_
 rintro e wc1 ⟨x0,x1,rfl,hb0,hb1,kb⟩
 have K31:Hid (Kp Awb wc1 Nul):=((Kp.refl Awb Nul).drew).trans kb
 have HX:Hid (Blk wc1 x0 [.pointer (some ⟨g k,0,none⟩)] 25∧Blk wc1 x1 [.int .i64 1,.int .i64 1,.int .i64 256,.int .i64 4096] 48):=⟨hb0,hb1⟩
 refine hKK.out _ _ K31.out (fun hHeld=>?_)
 clear hKK KK kb hb0 hb1
 (try simp only [Act.put,List.setIfInBounds_toArray,List.set_cons_zero,List.set_cons_succ])
 refine wpH_step (i:=8) (by kernel_rfl) rfl rfl (fun KK hKK=>?_)
 go_simp
 refine (HPk5.out _).mono ?_
 rintro e wz ⟨rfl,hz⟩
 replace hz:=hz.symm
 subst hz
 refine hKK.out _ _ K31.out (fun hHeld=>?_)
 clear hKK KK
 (try simp only [Act.put,List.setIfInBounds_toArray,List.set_cons_zero,List.set_cons_succ])
 refine wpH_step (i:=9) (by kernel_rfl) rfl rfl (fun KK hKK=>?_)
 go_simp
 refine (HTold.out x0 x1 (n5:Nat) wc1 (KB.out.trans K31.out) HX.out.1 HX.out.2).mono ?_
 rintro e wc ⟨rfl,kd⟩
 have K3:Hid (Kp Awb wc Nul):=K31.out.trans kd
 refine hKK.out _ _ K3.out (fun hHeld=>?_)
 clear hKK KK kd
 (try simp only [Act.put,List.setIfInBounds_toArray,List.set_cons_zero,List.set_cons_succ])
 refine wpH_takes (i:=10) (v:=.bool true) (some 20) rfl rfl (by kernel_rfl) (by kernel_rfl) (by kernel_rfl) (fun _ _ _ h=>h) (Or.inl ⟨by rfl,?_⟩) hHeld ?_
 ·intro w' hSw;clear hSw;go_simp
 simp only [Act.put,List.setIfInBounds_toArray,List.set_cons_zero,List.set_cons_succ]
 refine wpAnyH_done (by kernel_rfl) ?_ _
 refine NoPanic.normal ?_
 clear hHeld HX
 have KC:Hid (Kp W1 wc Nul):=KB.out.trans K3.out
 go_upto_region 23 with fail
 refine wp_region_noPanic ?_
 refine wp_region_hel (fun w':World=>Kp wc w' Nul) (by kernel_rfl) ((Kp.refl _ _).drew) (fun hHeld=>?_)
 refine wpH_takes (i:=0) (v:=.pointer (some ⟨g k,0,none⟩)) (some 126) rfl rfl (by kernel_rfl) (by kernel_rfl) (by kernel_rfl) (fun _ _ _ h=>h) (Or.inl ⟨by rfl,?_⟩) hHeld ?_
 ·intro w' hSw;clear hSw;go_simp
 simp only [Act.put,List.setIfInBounds_toArray,List.set_cons_zero,List.set_cons_succ]
 refine wpH_takes (i:=2) (v:=.pointer (some ⟨r k,0,none⟩)) (some 128) rfl rfl (by kernel_rfl) (by kernel_rfl) (by kernel_rfl) (fun _ _ _ h=>h) (Or.inl ⟨by rfl,?_⟩) hHeld ?_
 ·intro w' hSw;clear hSw;go_simp
 simp only [Act.put,List.setIfInBounds_toArray,List.set_cons_zero,List.set_cons_succ]
 refine wpH_takes (i:=3) (v:=.pointer (some ⟨r k,0,none⟩)) (some 129) rfl rfl (by kernel_rfl) (by kernel_rfl) (by kernel_rfl) (fun _ _ _ h=>h) (Or.inl ⟨by rfl,?_⟩) hHeld ?_
 ·intro w' hSw;clear hSw;go_simp
 simp only [Act.put,List.setIfInBounds_toArray,List.set_cons_zero,List.set_cons_succ]
 refine wpH_takes (i:=4) (v:=.pointer (some ⟨r k,0,none⟩)) (some 130) rfl rfl (by kernel_rfl) (by kernel_rfl) (by kernel_rfl) (fun _ _ _ h=>h) (Or.inl ⟨by rfl,?_⟩) hHeld ?_
 ·intro w' hSw;clear hSw;go_simp
 simp only [Act.put,List.setIfInBounds_toArray,List.set_cons_zero,List.set_cons_succ]
 refine wpH_takes (i:=5) (v:=.slice p n cp) (some 131) rfl rfl (by kernel_rfl) (by kernel_rfl) (by kernel_rfl) (fun _ _ _ h=>h) (Or.inl ⟨by rfl,?_⟩) hHeld ?_
 ·intro w' hSw;have s0:=HRc.out w' (KC.out.trans hSw);clear hSw;go_simp
 simp only [Act.put,List.setIfInBounds_toArray,List.set_cons_zero,List.set_cons_succ]
 refine wpH_step (i:=1) (by kernel_rfl) rfl rfl (fun KK hKK=>?_)
 go_simp
 refine (HAll.out _).mono ?_
 rintro e wd1 ⟨x0,x1,rfl,hb0,hb1,kb⟩
 have K41:Hid (Kp wc wd1 Nul):=((Kp.refl wc Nul).drew).trans kb
 have HX:Hid (Blk wd1 x0 [.pointer (some ⟨g k,0,none⟩)] 25∧Blk wd1 x1 [.int .i64 1,.int .i64 1,.int .i64 256,.int .i64 4096] 48):=⟨hb0,hb1⟩
 refine hKK.out _ _ K41.out (fun hHeld=>?_)
 clear hKK KK kb hb0 hb1
 (try simp only [Act.put,List.setIfInBounds_toArray,List.set_cons_zero,List.set_cons_succ])
 refine wpH_step (i:=6) (by kernel_rfl) rfl rfl (fun KK hKK=>?_)
 go_simp
 refine (HTold.out x0 x1 0 wd1 (KC.out.trans K41.out) HX.out.1 HX.out.2).mono ?_
 rintro e wd ⟨rfl,kd⟩
 have K4:Hid (Kp wc wd Nul):=K41.out.trans kd
 refine hKK.out _ _ K4.out (fun hHeld=>?_)
 clear hKK KK kd
 (try simp only [Act.put,List.setIfInBounds_toArray,List.set_cons_zero,List.set_cons_succ])
 refine wpH_takes (i:=7) (v:=.bool true) (some 21) rfl rfl (by kernel_rfl) (by kernel_rfl) (by kernel_rfl) (fun _ _ _ h=>h) (Or.inl ⟨by rfl,?_⟩) hHeld ?_
 ·intro w' hSw;clear hSw;go_simp
 simp only [Act.put,List.setIfInBounds_toArray,List.set_cons_zero,List.set_cons_succ]
 refine wpAnyH_done (by kernel_rfl) ?_ _
 refine NoPanic.normal ?_
 clear hHeld HX
 have KD:Hid (Kp W1 wd Nul):=KC.out.trans K4.out
 have HB16:Hid (∀ wq,Kp wd wq Nul→Blk wq wa.heap.size [.int .i64 ba.1.1,.int .i64 ba.1.2,.int .i64 ba.2.1,.int .i64 ba.2.2] 48):=fun wq q=>HBAwa.out.kp ((((HKwb.out.trans HKAwb.out).trans K3.out).trans K4.out).trans q) (fun x=>x)
 have HB18:Hid (∀ wq,Kp wd wq Nul→Blk wq wb.heap.size [.int .i64 ba.1.1,.int .i64 ba.1.2,.int .i64 ba.2.1,.int .i64 ba.2.2] 48):=fun wq q=>HBAwb.out.kp ((K3.out.trans K4.out).trans q) (fun x=>x)
 go_upto_region 24 with fail
 refine wp_region_noPanic ?_
 refine wp_region_hel (fun w':World=>Kp wd w' Nul) (by kernel_rfl) ((Kp.refl _ _).drew) (fun hHeld=>?_)
 refine wpH_takes (i:=0) (v:=.bool true) (some 133) rfl rfl (by kernel_rfl) (by kernel_rfl) (by kernel_rfl) (fun _ _ _ h=>h) (Or.inl ⟨by rfl,?_⟩) hHeld ?_
 ·intro w' hSw;clear hSw;go_simp
 simp only [Act.put,List.setIfInBounds_toArray,List.set_cons_zero,List.set_cons_succ]
 refine wpH_takes (i:=1) (v:=.bool true) (some 134) rfl rfl (by kernel_rfl) (by kernel_rfl) (by kernel_rfl) (fun _ _ _ h=>h) (Or.inl ⟨by rfl,?_⟩) hHeld ?_
 ·intro w' hSw;clear hSw;go_simp
 simp only [Act.put,List.setIfInBounds_toArray,List.set_cons_zero,List.set_cons_succ]
 refine wpH_takes (i:=2) (v:=.bool true) (some 135) rfl rfl (by kernel_rfl) (by kernel_rfl) (by kernel_rfl) (fun _ _ _ h=>h) (Or.inl ⟨by rfl,?_⟩) hHeld ?_
 ·intro w' hSw;clear hSw;go_simp
 simp only [Act.put,List.setIfInBounds_toArray,List.set_cons_zero,List.set_cons_succ]
 refine wpH_takes (i:=3) (v:=.bool true) (some 136) rfl rfl (by kernel_rfl) (by kernel_rfl) (by kernel_rfl) (fun _ _ _ h=>h) (Or.inl ⟨by rfl,?_⟩) hHeld ?_
 ·intro w' hSw;clear hSw;go_simp
 simp only [Act.put,List.setIfInBounds_toArray,List.set_cons_zero,List.set_cons_succ]
 refine wpH_takes (i:=4) (v:=.bool true) (some 137) rfl rfl (by kernel_rfl) (by kernel_rfl) (by kernel_rfl) (fun _ _ _ h=>h) (Or.inl ⟨by rfl,?_⟩) hHeld ?_
 ·intro w' hSw;clear hSw;go_simp
 simp only [Act.put,List.setIfInBounds_toArray,List.set_cons_zero,List.set_cons_succ]
 refine wpH_takes (i:=5) (v:=.agg ([.int .i64 ba.1.1,.int .i64 ba.1.2,.int .i64 ba.2.1,.int .i64 ba.2.2]).toArray) (some 138) rfl rfl (by kernel_rfl) (by kernel_rfl) (by kernel_rfl) (fun _ _ _ h=>h) (Or.inl ⟨by rfl,fun w' hSw=>exec_load_row 48 (.tmp 16) rfl wa.heap.size 0 rfl ([.int .i64 ba.1.1,.int .i64 ba.1.2,.int .i64 ba.2.1,.int .i64 ba.2.2]) _ (blk_range (HB16.out w' hSw)) Tryz.underlying48 rfl infoArea4⟩) hHeld ?_
 simp only [Act.put,List.setIfInBounds_toArray,List.set_cons_zero,List.set_cons_succ]
 refine wpH_takes (i:=6) (v:=.agg ([.int .i64 ba.1.1,.int .i64 ba.1.2,.int .i64 ba.2.1,.int .i64 ba.2.2]).toArray) (some 139) rfl rfl (by kernel_rfl) (by kernel_rfl) (by kernel_rfl) (fun _ _ _ h=>h) (Or.inl ⟨by rfl,fun w' hSw=>exec_load_row 48 (.tmp 18) rfl wb.heap.size 0 rfl ([.int .i64 ba.1.1,.int .i64 ba.1.2,.int .i64 ba.2.1,.int .i64 ba.2.2]) _ (blk_range (HB18.out w' hSw)) Tryz.underlying48 rfl infoArea4⟩) hHeld ?_
 simp only [Act.put,List.setIfInBounds_toArray,List.set_cons_zero,List.set_cons_succ]
 refine wpH_takes (i:=7) (v:=.bool true) (some 140) rfl rfl (by kernel_rfl) (by kernel_rfl) (by kernel_rfl) (fun _ _ _ h=>h) (Or.inl ⟨by rfl,?_⟩) hHeld ?_
 ·intro w' hSw;clear hSw;go_simp
 simp only [Act.put,List.setIfInBounds_toArray,List.set_cons_zero,List.set_cons_succ]
 refine wpH_takes (i:=8) (v:=.bool true) (some 141) rfl rfl (by kernel_rfl) (by kernel_rfl) (by kernel_rfl) (fun _ _ _ h=>h) (Or.inl ⟨by rfl,?_⟩) hHeld ?_
 ·intro w' hSw;clear hSw;go_simp
 simp only [Act.put,List.setIfInBounds_toArray,List.set_cons_zero,List.set_cons_succ]
 refine wpH_takes (i:=9) (v:=.bool true) (some 142) rfl rfl (by kernel_rfl) (by kernel_rfl) (by kernel_rfl) (fun _ _ _ h=>h) (Or.inl ⟨by rfl,?_⟩) hHeld ?_
 ·intro w' hSw;clear hSw;go_simp
 simp only [Act.put,List.setIfInBounds_toArray,List.set_cons_zero,List.set_cons_succ]
 refine wpH_takes (i:=10) (v:=.bool bb) (some 143) rfl rfl (by kernel_rfl) (by kernel_rfl) (by kernel_rfl) (fun _ _ _ h=>h) (Or.inl ⟨by rfl,?_⟩) hHeld ?_
 ·intro w' hSw;clear hSw;go_simp
 simp only [Act.put,List.setIfInBounds_toArray,List.set_cons_zero,List.set_cons_succ]
 refine wpH_takes (i:=11) (v:=.bool bb) (some 144) rfl rfl (by kernel_rfl) (by kernel_rfl) (by kernel_rfl) (fun _ _ _ h=>h) (Or.inl ⟨by rfl,?_⟩) hHeld ?_
 ·intro w' hSw;clear hSw;go_simp
 simp only [Act.put,List.setIfInBounds_toArray,List.set_cons_zero,List.set_cons_succ]
 refine wpH_takes (i:=12) (v:=.bool true) (some 145) rfl rfl (by kernel_rfl) (by kernel_rfl) (by kernel_rfl) (fun _ _ _ h=>h) (Or.inl ⟨by rfl,?_⟩) hHeld ?_
 ·intro w' hSw;clear hSw;go_simp
 simp only [Act.put,List.setIfInBounds_toArray,List.set_cons_zero,List.set_cons_succ]
 refine wpH_takes (i:=13) (v:=.bool true) (some 146) rfl rfl (by kernel_rfl) (by kernel_rfl) (by kernel_rfl) (fun _ _ _ h=>h) (Or.inl ⟨by rfl,?_⟩) hHeld ?_
 ·intro w' hSw;clear hSw;go_simp
 simp only [Act.put,List.setIfInBounds_toArray,List.set_cons_zero,List.set_cons_succ]
 refine wpH_takes (i:=14) (v:=.bool true) (some 147) rfl rfl (by kernel_rfl) (by kernel_rfl) (by kernel_rfl) (fun _ _ _ h=>h) (Or.inl ⟨by rfl,?_⟩) hHeld ?_
 ·intro w' hSw;clear hSw;go_simp
 simp only [Act.put,List.setIfInBounds_toArray,List.set_cons_zero,List.set_cons_succ]
 refine wpH_takes (i:=15) (v:=.pointer (some ⟨g k,0,none⟩)) (some 148) rfl rfl (by kernel_rfl) (by kernel_rfl) (by kernel_rfl) (fun _ _ _ h=>h) (Or.inl ⟨by rfl,?_⟩) hHeld ?_
 ·intro w' hSw;clear hSw;go_simp
 simp only [Act.put,List.setIfInBounds_toArray,List.set_cons_zero,List.set_cons_succ]
 refine wpH_takes (i:=17) (v:=.pointer (some ⟨r k,0,none⟩)) (some 150) rfl rfl (by kernel_rfl) (by kernel_rfl) (by kernel_rfl) (fun _ _ _ h=>h) (Or.inl ⟨by rfl,?_⟩) hHeld ?_
 ·intro w' hSw;clear hSw;go_simp
 simp only [Act.put,List.setIfInBounds_toArray,List.set_cons_zero,List.set_cons_succ]
 refine wpH_takes (i:=18) (v:=.pointer (some ⟨r k,0,none⟩)) (some 151) rfl rfl (by kernel_rfl) (by kernel_rfl) (by kernel_rfl) (fun _ _ _ h=>h) (Or.inl ⟨by rfl,?_⟩) hHeld ?_
 ·intro w' hSw;clear hSw;go_simp
 simp only [Act.put,List.setIfInBounds_toArray,List.set_cons_zero,List.set_cons_succ]
 refine wpH_takes (i:=19) (v:=.pointer (some ⟨r k,0,none⟩)) (some 152) rfl rfl (by kernel_rfl) (by kernel_rfl) (by kernel_rfl) (fun _ _ _ h=>h) (Or.inl ⟨by rfl,?_⟩) hHeld ?_
 ·intro w' hSw;clear hSw;go_simp
 simp only [Act.put,List.setIfInBounds_toArray,List.set_cons_zero,List.set_cons_succ]
 refine wpH_takes (i:=20) (v:=.slice p n cp) (some 153) rfl rfl (by kernel_rfl) (by kernel_rfl) (by kernel_rfl) (fun _ _ _ h=>h) (Or.inl ⟨by rfl,?_⟩) hHeld ?_
 ·intro w' hSw;have s0:=HRc.out w' (KD.out.trans hSw);clear hSw;go_simp
 simp only [Act.put,List.setIfInBounds_toArray,List.set_cons_zero,List.set_cons_succ]
 refine wpH_takes (i:=21) (v:=.int .i64 (n:Nat)) (some 154) rfl rfl (by kernel_rfl) (by kernel_rfl) (by kernel_rfl) (fun _ _ _ h=>h) (Or.inl ⟨by rfl,?_⟩) hHeld ?_
 ·intro w' hSw;clear hSw;go_simp
 simp only [Act.put,List.setIfInBounds_toArray,List.set_cons_zero,List.set_cons_succ]
 refine wpH_stepG (i:=16) (by kernel_rfl) rfl (by rfl) (fun KK hKK=>?_)
 go_simp
 refine (HLen.out _ KD.out.drew).mono ?_
 rintro e wz ⟨rfl,hz⟩
 replace hz:=hz.symm
 subst hz
 refine hKK.out _ _ ((Kp.refl wd Nul).drew) (fun hHeld=>?_)
 clear hKK KK
 (try simp only [Act.put,List.setIfInBounds_toArray,List.set_cons_zero,List.set_cons_succ])
 refine wpH_takes (i:=22) (v:=.bool true) (some 155) rfl rfl (by kernel_rfl) (by kernel_rfl) (by kernel_rfl) (fun _ _ _ h=>h) (Or.inl ⟨by rfl,?_⟩) hHeld ?_
 ·intro w' hSw;clear hSw;go_simp
 simp only [Act.put,List.setIfInBounds_toArray,List.set_cons_zero,List.set_cons_succ]
 refine wpH_takes (i:=23) (v:=.bool true) (some 156) rfl rfl (by kernel_rfl) (by kernel_rfl) (by kernel_rfl) (fun _ _ _ h=>h) (Or.inl ⟨by rfl,?_⟩) hHeld ?_
 ·intro w' hSw;clear hSw;go_simp
 simp only [Act.put,List.setIfInBounds_toArray,List.set_cons_zero,List.set_cons_succ]
 refine wpH_takes (i:=24) (v:=.bool true) (some 4) rfl rfl (by kernel_rfl) (by kernel_rfl) (by kernel_rfl) (fun _ _ _ h=>h) (Or.inl ⟨by rfl,?_⟩) hHeld ?_
 ·intro w' hSw;clear hSw;go_simp
 simp only [Act.put,List.setIfInBounds_toArray,List.set_cons_zero,List.set_cons_succ]
 refine wpAnyH_done (by kernel_rfl) ?_ _
 refine NoPanic.normal ?_
 clear hHeld
 have HE:Hid (StR w0 B xw bg br (.returned (.bool true)) wd.drew):=by
  have q:Kp W1 wd.drew Nul:=KD.out.drew
  exact ⟨rfl,⟨_,_,_,_,_,_,HP.out.nul q⟩,HK.out.trans q⟩
 go_wp2_with fail
 go_ret
 exact HE.out
end Go.Proofs.YtlppcfeakakpfaaGreatDoor
