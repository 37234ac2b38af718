/- The document's Puts and Equal (quadrilleref17). By wip/gen_prl.py. -/
import Derived.Test.YtlppcfeakakpfaaGreatDoorQpPnd
import Derived.Deep.CutBlock
set_option maxRecDepth 20000
set_option maxHeartbeats 16000000
namespace Go.Proofs.YtlppcfeakakpfaaGreatDoor
open Go.RowKit Go.Maps Go.Sort Go.Lib Go.Shelf
theorem rputs_at (B r:Nat) (v:Value) (ys:List (Cc×Value)) (B' o:Nat) (v':Value) (zs:List (Cc×Value)) (w:World) (hd:DG w B r v ys) (ho:DG w B' o v' zs) (hn4:ys.length≤4096) (hm4:zs.length≤4096)
  (gy:∀ y∈ys,y.1.2.v.x < 18446744073709551616∧y.1.2.t.ok) (gz:∀ y∈zs,y.1.2.v.x < 18446744073709551616∧y.1.2.t.ok) :
  Calls Tryz.prog 32 #[.pointer (some ⟨r,0,none⟩),.pointer (some ⟨o,0,none⟩)] w fun e w'=>∃ u,e=.returned u∧Pts w' w.heap.size (fun _=>True) u (mrg ys zs)∧Kp w w' Nul:=by
 obtain ⟨p,cp,rfl,hp⟩:=hd.pts.slice
 obtain ⟨p',cp',rfl,hp'⟩:=ho.pts.slice
 obtain ⟨i0,hi0,hz0,hz1,hz2⟩:=infoPutI
 obtain ⟨n,hn⟩:∃ n,ys.length=n:=⟨_,rfl⟩
 obtain ⟨m,hm⟩:∃ m,zs.length=m:=⟨_,rfl⟩
 have HS:Hid (∀ wq,Kp w wq Nul→wq.cell? ⟨r,0,none⟩=some (.slice p n cp)∧wq.cell? ⟨o,0,none⟩=some (.slice p' m cp')):=fun wq k=>by
  have h:=(hd.box.kp k (fun x=>x)).cell (i:=0) rfl
  have h':=(ho.box.kp k (fun x=>x)).cell (i:=0) rfl
  rw [hn] at h
  rw [hm] at h'
  exact ⟨h,h'⟩
 have HR:Hid (∀ (i:Nat) y,ys[i]? = some y→∃ b,p=some ⟨b,0,none⟩∧∀ wq,Kp w wq Nul→wq.rangeAt b (i * 23) [.int .i64 y.1.1.1,.int .i64 y.1.1.2]∧wq.rangeAt b (i * 23+2) (y.1.2.cells y.2)):=fun i y hy=>by
  obtain ⟨b,eb,_,hrow⟩:=hp (by have:=(List.getElem?_eq_some_iff.1 hy).1;omega)
  exact ⟨b,eb,fun wq k=>pt_parts (rangeAt_kp (hrow i y hy) k (fun x=>x))⟩
 have HZ:Hid (∀ (i:Nat) y,zs[i]? = some y→∃ b,p'=some ⟨b,0,none⟩∧∀ wq,Kp w wq Nul→wq.rangeAt b (i * 23) [.int .i64 y.1.1.1,.int .i64 y.1.1.2]∧wq.rangeAt b (i * 23+2) (y.1.2.cells y.2)∧wq.rangeAt b (i * 23) (ptCells y.1 y.2)):=fun i y hy=>by
  obtain ⟨b,eb,_,hrow⟩:=hp' (by have:=(List.getElem?_eq_some_iff.1 hy).1;omega)
  exact ⟨b,eb,fun wq k=>⟨(pt_parts (rangeAt_kp (hrow i y hy) k (fun x=>x))).1,(pt_parts (rangeAt_kp (hrow i y hy) k (fun x=>x))).2,rangeAt_kp (hrow i y hy) k (fun x=>x)⟩⟩
 have HT:Hid (∀ wq,Kp w wq Nul→∀ y∈mrg ys zs,NdIn wq (fun _=>True) y.2 y.1.2.t):=fun wq k y hy=>by
  rcases mrg_from _ ys zs rfl y hy with ⟨u,_,rfl⟩|h
  ·exact zNd_in wq _
  ·exact (ho.kp k).pts.tree y h
 have HOn:Hid (∀ z∈zs,∀ u∈ptCells z.1 z.2,u.oneCell'=true):=fun z hz=>pt_one z.1 (ho.pts.tree z hz).one
 have HOrd:Hid (∀ (c s d t:Int) wq,Kp w wq Nul→Calls Tryz.prog 52 #[.agg #[.int .i64 c,.int .i64 s],.agg #[.int .i64 d,.int .i64 t]] wq fun e w'=>e=.returned (.int .i64 (ordC c s d t))∧Kp wq w' Nul):=fun c s d t wq _=>(rOrder_any c s d t wq).mono fun e w' h=>⟨h.1,Kp.of_gr h.2⟩
 have HSame:Hid (∀ y∈ys,∀ z∈zs,∀ wq,Kp w wq Nul→Calls Tryz.prog 53 #[.agg (y.1.2.cells y.2).toArray,.agg (z.1.2.cells z.2).toArray] wq fun e w'=>e=.returned (.bool (csame y.1.2 z.1.2))∧Kp wq w' Nul):=fun y hy z hz wq k=>rcSame_at y.1.2 z.1.2 y.2 z.2 (fun _=>True) (fun _=>True) wq (gy y hy).1 (gz z hz).1 (gy y hy).2 (gz z hz).2 ((hd.kp k).pts.tree y hy) ((ho.kp k).pts.tree z hz)
 have HN:Hid (ys.length=n∧zs.length=m∧n≤4096∧m≤4096):=⟨hn,hm,by omega,by omega⟩
 have HLen:Hid (∀ acc rest:List (Cc×Value),acc ++ rest=mrg ys zs→acc.length≤8192):=fun acc rest h=>by
  have h1:=mrg_len _ ys zs rfl
  have h2:=congrArg List.length h
  rw [List.length_append] at h2
  omega
 clear hd ho hp hp' hn hm hn4 hm4 gy gz
 go_enter Tryz.func32,Tryz.ntmps32
 go_wp2_with fail
 go_loopw [5,6,7] (fun vo i k wr=>∃ (q t:Nat) (po:Option Addr) (no co:Nat) (acc:List (Cc×Value)),q≤n∧t≤m∧vo=.slice po no co∧i=.int .i64 q∧k=.int .i64 t∧wr.ownsRow w.heap.size 84 23 (.slice po no co) acc.length (rowP acc)∧acc ++ mrg (ys.drop q) (zs.drop t)=mrg ys zs∧Kp w wr Nul) (fun _ i k _=>(n - (RowKit.intOf i).toNat)+(m - (RowKit.intOf k).toNat))
 case atStart=>exact ⟨0,0,none,0,0,[],Nat.zero_le _,Nat.zero_le _,rfl,rfl,rfl,World.ownsRow_nil _ _ _ _,rfl,Kp.refl _ _⟩
 case round=>
  obtain ⟨q,t,po,no,co,acc,hq,ht,rfl,rfl,rfl,how,hacc,hkr⟩:=hrel
  have HKr:Hid (Kp w wr Nul):=hkr
  have HOw:Hid (wr.ownsRow w.heap.size 84 23 (.slice po no co) acc.length (rowP acc)):=how
  have HAcc:Hid (acc ++ mrg (ys.drop q) (zs.drop t)=mrg ys zs):=hacc
  have HAL:Hid (acc.length≤8192):=HLen.out _ _ hacc
  obtain ⟨s0,s1⟩:=HS.out wr hkr
  have hq0:(0:Int)≤(q:Int):=by omega
  have ht0:(0:Int)≤(t:Int):=by omega
  have hqb:(q:Int)+1≤9223372036854775807:=by have:=HN.out;omega
  have htb:(t:Int)+1≤9223372036854775807:=by have:=HN.out;omega
  clear how hacc hkr
  by_cases hqn:q < n
  ·have hqn':(q:Int) < (n:Int):=by omega
   have hqe:((q:Int) == (n:Int))=false:=by rw [beq_eq_false_iff_ne];omega
   have hqk:q < ys.length:=by rw [HN.out.1];exact hqn
   obtain ⟨y,hy⟩:∃ y,ys[q]=y:=⟨_,rfl⟩
   have hy0:ys[q]? = some y:=by rw [List.getElem?_eq_getElem hqk,hy]
   have hyd:ys.drop q=y :: ys.drop (q+1):=by rw [List.drop_eq_getElem_cons hqk,hy]
   obtain ⟨b,rfl,hr⟩:=HR.out q y hy0
   have HRy:Hid (∀ wq,Kp w wq Nul→wq.rangeAt b (q * 23) [.int .i64 y.1.1.1,.int .i64 y.1.1.2]∧wq.rangeAt b (q * 23+2) (y.1.2.cells y.2)):=hr
   have HYm:Hid (y∈ys):=List.mem_of_getElem? hy0
   have HYd:Hid (ys.drop q=y :: ys.drop (q+1)):=hyd
   clear hr hy hy0 hqk hyd
   by_cases htm:t < m
   ·have htm':(t:Int) < (m:Int):=by omega
    have hte:((t:Int) == (m:Int))=false:=by rw [beq_eq_false_iff_ne];omega
    have htk:t < zs.length:=by rw [HN.out.2.1];exact htm
    obtain ⟨z,hz⟩:∃ z,zs[t]=z:=⟨_,rfl⟩
    have hz0':zs[t]? = some z:=by rw [List.getElem?_eq_getElem htk,hz]
    have hzd:zs.drop t=z :: zs.drop (t+1):=by rw [List.drop_eq_getElem_cons htk,hz]
    obtain ⟨b',rfl,hr'⟩:=HZ.out t z hz0'
    have HRz:Hid (∀ wq,Kp w wq Nul→wq.rangeAt b' (t * 23) [.int .i64 z.1.1.1,.int .i64 z.1.1.2]∧wq.rangeAt b' (t * 23+2) (z.1.2.cells z.2)∧wq.rangeAt b' (t * 23) (ptCells z.1 z.2)):=hr'
    have HZm:Hid (z∈zs):=List.mem_of_getElem? hz0'
    have HZd:Hid (zs.drop t=z :: zs.drop (t+1)):=hzd
    clear hr' hz hz0' htk hzd
    have HC:Hid (ordC y.1.1.1 y.1.1.2 z.1.1.1 z.1.1.2=cIK (ys.drop q) (zs.drop t)):=by
     show _=_
     rw [HYd.out,HZd.out];rfl
    have HOrd1:Hid (∀ wq,Kp wr wq Nul→Calls Tryz.prog 52 #[.agg #[.int .i64 y.1.1.1,.int .i64 y.1.1.2],.agg #[.int .i64 z.1.1.1,.int .i64 z.1.1.2]] wq fun e w'=>e=.returned (.int .i64 (cIK (ys.drop q) (zs.drop t)))∧Kp wq w' Nul):=fun wq k=>by
     rw [← HC.out]
     exact HOrd.out _ _ _ _ wq (HKr.out.trans k)
    have HM0:Hid (∀ c,cIK (ys.drop q) (zs.drop t)=c→(c < 0→acc ++ (delP y :: mrg (ys.drop (q+1)) (zs.drop t))=mrg ys zs)∧(0 < c→acc ++ (z :: mrg (ys.drop q) (zs.drop (t+1)))=mrg ys zs)∧(c=0→acc ++ (if csame y.1.2 z.1.2=true then mrg (ys.drop (q+1)) (zs.drop (t+1)) else z :: mrg (ys.drop (q+1)) (zs.drop (t+1)))=mrg ys zs)):=fun c hc=>by
     have e:=HAcc.out
     refine ⟨fun h=>?_,fun h=>?_,fun h=>?_⟩
     ·rw [← e,HYd.out]
      rw [HYd.out] at hc
      rw [mrg_lt (by rw [hc];exact h)]
     ·rw [← e,HZd.out]
      rw [HZd.out] at hc
      rw [mrg_gt (by rw [hc];exact h)]
     ·rw [← e,HYd.out,HZd.out]
      rw [HYd.out,HZd.out] at hc
      rw [mrg_eq (by rw [hc];exact h)]
    clear HC HAcc
    obtain ⟨O,hO⟩:∃ O,cIK (ys.drop q) (zs.drop t)=O:=⟨_,rfl⟩
    have HM:=HM0.out O hO
    rw [hO] at HOrd1
    have HOrd1:Hid (∀ wq,Kp wr wq Nul→Calls Tryz.prog 52 #[.agg #[.int .i64 y.1.1.1,.int .i64 y.1.1.2],.agg #[.int .i64 z.1.1.1,.int .i64 z.1.1.2]] wq fun e w'=>e=.returned (.int .i64 O)∧Kp wq w' Nul):=HOrd1
    clear hO HM0
    go_upto_region 6 with fail
    refine wp_region_noPanic ?_
    refine wp_region_hel (fun w':World=>Kp wr w' Nul) (by kernel_rfl) ((Kp.refl _ _).drew) (fun hHeld=>?_)
    refine wpH_takes (i:=0) (v:=?_) (some 26) rfl rfl (by kernel_rfl) (by kernel_rfl) (by kernel_rfl) (fun _ _ _ h=>h) (Or.inl ⟨by rfl,?_⟩) hHeld ?_
    rotate_left
    ·intro w' hSw;obtain ⟨s0,s1⟩:=HS.out w' (HKr.out.trans hSw);clear hSw;go_simp;try with_reducible rfl
    simp only [Act.put,List.setIfInBounds_toArray,List.set_cons_zero,List.set_cons_succ]
    refine wpH_takes (i:=1) (v:=?_) (some 27) rfl rfl (by kernel_rfl) (by kernel_rfl) (by kernel_rfl) (fun _ _ _ h=>h) (Or.inl ⟨by rfl,?_⟩) hHeld ?_
    rotate_left
    ·intro w' hSw;obtain ⟨s0,s1⟩:=HS.out w' (HKr.out.trans hSw);clear hSw;go_simp;try with_reducible rfl
    simp only [Act.put,List.setIfInBounds_toArray,List.set_cons_zero,List.set_cons_succ]
    refine wpH_takes (i:=2) (v:=?_) (some 28) rfl rfl (by kernel_rfl) (by kernel_rfl) (by kernel_rfl) (fun _ _ _ h=>h) (Or.inl ⟨by rfl,?_⟩) hHeld ?_
    rotate_left
    ·intro w' hSw;obtain ⟨s0,s1⟩:=HS.out w' (HKr.out.trans hSw);clear hSw;go_simp;try with_reducible rfl
    simp only [Act.put,List.setIfInBounds_toArray,List.set_cons_zero,List.set_cons_succ]
    refine wpH_takes (i:=3) (v:=?_) (some 29) rfl rfl (by kernel_rfl) (by kernel_rfl) (by kernel_rfl) (fun _ _ _ h=>h) (Or.inl ⟨by rfl,?_⟩) hHeld ?_
    rotate_left
    ·intro w' hSw;obtain ⟨s0,s1⟩:=HS.out w' (HKr.out.trans hSw);clear hSw;go_simp;try with_reducible rfl
    simp only [Act.put,List.setIfInBounds_toArray,List.set_cons_zero,List.set_cons_succ]
    refine wpH_takes (i:=4) (v:=?_) (some 30) rfl rfl (by kernel_rfl) (by kernel_rfl) (by kernel_rfl) (fun _ _ _ h=>h) (Or.inl ⟨by rfl,?_⟩) hHeld ?_
    rotate_left
    ·intro w' hSw;obtain ⟨s0,s1⟩:=HS.out w' (HKr.out.trans hSw);clear hSw;go_simp;try with_reducible rfl
    simp only [Act.put,List.setIfInBounds_toArray,List.set_cons_zero,List.set_cons_succ]
    refine wpH_takes (i:=5) (v:=?_) (some 31) rfl rfl (by kernel_rfl) (by kernel_rfl) (by kernel_rfl) (fun _ _ _ h=>h) (Or.inl ⟨by rfl,?_⟩) hHeld ?_
    rotate_left
    ·intro w' hSw;obtain ⟨s0,s1⟩:=HS.out w' (HKr.out.trans hSw);clear hSw;go_simp;try with_reducible rfl
    simp only [Act.put,List.setIfInBounds_toArray,List.set_cons_zero,List.set_cons_succ]
    refine wpH_takes (i:=6) (v:=?_) (some 32) rfl rfl (by kernel_rfl) (by kernel_rfl) (by kernel_rfl) (fun _ _ _ h=>h) (Or.inl ⟨by rfl,?_⟩) hHeld ?_
    rotate_left
    ·intro w' hSw;obtain ⟨s0,s1⟩:=HS.out w' (HKr.out.trans hSw);clear hSw;go_simp;try with_reducible rfl
    simp only [Act.put,List.setIfInBounds_toArray,List.set_cons_zero,List.set_cons_succ]
    refine wpH_takes (i:=7) (v:=.agg ([.int .i64 y.1.1.1,.int .i64 y.1.1.2]).toArray) (some 33) rfl rfl (by kernel_rfl) (by kernel_rfl) (by kernel_rfl) (fun _ _ _ h=>h) (Or.inl ⟨by rfl,fun w' hSw=>exec_load_row 36 (.tmp 32) rfl b (q * 23) rfl ([.int .i64 y.1.1.1,.int .i64 y.1.1.2]) _ (HRy.out w' (HKr.out.trans hSw)).1 Tryz.underlying36 rfl infoAddr2⟩) hHeld ?_
    simp only [Act.put,List.setIfInBounds_toArray,List.set_cons_zero,List.set_cons_succ]
    refine wpH_takes (i:=8) (v:=?_) (some 34) rfl rfl (by kernel_rfl) (by kernel_rfl) (by kernel_rfl) (fun _ _ _ h=>h) (Or.inl ⟨by rfl,?_⟩) hHeld ?_
    rotate_left
    ·intro w' hSw;obtain ⟨s0,s1⟩:=HS.out w' (HKr.out.trans hSw);clear hSw;go_simp;try with_reducible rfl
    simp only [Act.put,List.setIfInBounds_toArray,List.set_cons_zero,List.set_cons_succ]
    refine wpH_takes (i:=9) (v:=?_) (some 35) rfl rfl (by kernel_rfl) (by kernel_rfl) (by kernel_rfl) (fun _ _ _ h=>h) (Or.inl ⟨by rfl,?_⟩) hHeld ?_
    rotate_left
    ·intro w' hSw;obtain ⟨s0,s1⟩:=HS.out w' (HKr.out.trans hSw);clear hSw;go_simp;try with_reducible rfl
    simp only [Act.put,List.setIfInBounds_toArray,List.set_cons_zero,List.set_cons_succ]
    refine wpH_takes (i:=10) (v:=?_) (some 36) rfl rfl (by kernel_rfl) (by kernel_rfl) (by kernel_rfl) (fun _ _ _ h=>h) (Or.inl ⟨by rfl,?_⟩) hHeld ?_
    rotate_left
    ·intro w' hSw;obtain ⟨s0,s1⟩:=HS.out w' (HKr.out.trans hSw);clear hSw;go_simp;try with_reducible rfl
    simp only [Act.put,List.setIfInBounds_toArray,List.set_cons_zero,List.set_cons_succ]
    refine wpH_takes (i:=11) (v:=?_) (some 37) rfl rfl (by kernel_rfl) (by kernel_rfl) (by kernel_rfl) (fun _ _ _ h=>h) (Or.inl ⟨by rfl,?_⟩) hHeld ?_
    rotate_left
    ·intro w' hSw;obtain ⟨s0,s1⟩:=HS.out w' (HKr.out.trans hSw);clear hSw;go_simp;try with_reducible rfl
    simp only [Act.put,List.setIfInBounds_toArray,List.set_cons_zero,List.set_cons_succ]
    refine wpH_takes (i:=12) (v:=?_) (some 38) rfl rfl (by kernel_rfl) (by kernel_rfl) (by kernel_rfl) (fun _ _ _ h=>h) (Or.inl ⟨by rfl,?_⟩) hHeld ?_
    rotate_left
    ·intro w' hSw;obtain ⟨s0,s1⟩:=HS.out w' (HKr.out.trans hSw);clear hSw;go_simp;try with_reducible rfl
    simp only [Act.put,List.setIfInBounds_toArray,List.set_cons_zero,List.set_cons_succ]
    refine wpH_takes (i:=13) (v:=?_) (some 39) rfl rfl (by kernel_rfl) (by kernel_rfl) (by kernel_rfl) (fun _ _ _ h=>h) (Or.inl ⟨by rfl,?_⟩) hHeld ?_
    rotate_left
    ·intro w' hSw;obtain ⟨s0,s1⟩:=HS.out w' (HKr.out.trans hSw);clear hSw;go_simp;try with_reducible rfl
    simp only [Act.put,List.setIfInBounds_toArray,List.set_cons_zero,List.set_cons_succ]
    refine wpH_takes (i:=14) (v:=?_) (some 40) rfl rfl (by kernel_rfl) (by kernel_rfl) (by kernel_rfl) (fun _ _ _ h=>h) (Or.inl ⟨by rfl,?_⟩) hHeld ?_
    rotate_left
    ·intro w' hSw;obtain ⟨s0,s1⟩:=HS.out w' (HKr.out.trans hSw);clear hSw;go_simp;try with_reducible rfl
    simp only [Act.put,List.setIfInBounds_toArray,List.set_cons_zero,List.set_cons_succ]
    refine wpH_takes (i:=15) (v:=.agg ([.int .i64 z.1.1.1,.int .i64 z.1.1.2]).toArray) (some 41) rfl rfl (by kernel_rfl) (by kernel_rfl) (by kernel_rfl) (fun _ _ _ h=>h) (Or.inl ⟨by rfl,fun w' hSw=>exec_load_row 36 (.tmp 40) rfl b' (t * 23) rfl ([.int .i64 z.1.1.1,.int .i64 z.1.1.2]) _ (HRz.out w' (HKr.out.trans hSw)).1 Tryz.underlying36 rfl infoAddr2⟩) hHeld ?_
    simp only [Act.put,List.setIfInBounds_toArray,List.set_cons_zero,List.set_cons_succ]
    refine wpH_step (i:=16) (by kernel_rfl) rfl rfl (fun KK hKK=>?_)
    go_simp
    refine (HOrd1.out _ ((Kp.refl wr Nul).drew)).mono ?_
    rintro e w5 ⟨rfl,k5⟩
    have HK5:Hid (Kp wr w5 Nul):=((Kp.refl wr Nul).drew).trans k5
    refine hKK.out _ _ HK5.out (fun hHeld=>?_)
    clear hKK KK k5
    (try simp only [Act.put,List.setIfInBounds_toArray,List.set_cons_zero,List.set_cons_succ])
    refine wpH_takes (i:=17) (v:=?_) (some 8) rfl rfl (by kernel_rfl) (by kernel_rfl) (by kernel_rfl) (fun _ _ _ h=>h) (Or.inl ⟨by rfl,?_⟩) hHeld ?_
    rotate_left
    ·intro w' hSw;clear hSw;go_simp;try with_reducible rfl
    simp only [Act.put,List.setIfInBounds_toArray,List.set_cons_zero,List.set_cons_succ]
    refine wpAnyH_done (by kernel_rfl) ?_ _
    refine NoPanic.normal ?_
    clear hHeld
    rcases Int.lt_trichotomy O 0 with hO|hO|hO
    ·have HNx:Hid (acc ++ (delP y :: mrg (ys.drop (q+1)) (zs.drop t))=mrg ys zs):=HM.1 hO
     clear HM
     have HO6:Hid ((w5.alloc (.cells (ptCells (delP y).1 (.slice none 0 0)).toArray 84)).ownsRow w.heap.size 84 23 (.slice po no co) acc.length (rowP acc)):=(ownsRow_nul HOw.out HK5.out).alloc _
     have HC6:Hid (Blk (w5.alloc (.cells (ptCells (delP y).1 (.slice none 0 0)).toArray 84)) w5.heap.size (ptCells (delP y).1 (.slice none 0 0)) 84):=Blk.new w5 (ptCells (delP y).1 (.slice none 0 0)) 84
     have HK6:Hid (Kp w (w5.alloc (.cells (ptCells (delP y).1 (.slice none 0 0)).toArray 84)) Nul):=(HKr.out.trans HK5.out).alloc _
     obtain ⟨sa,sb⟩:=HS.out w5 (HKr.out.trans HK5.out)
     have HX:=(HRy.out w5 (HKr.out.trans HK5.out)).1
     have x0:w5.cell? ⟨b,q * 23,none⟩=some (.int .i64 y.1.1.1):=HX 0 _ rfl
     have x1:w5.cell? ⟨b,q * 23+1,none⟩=some (.int .i64 y.1.1.2):=HX 1 _ rfl
     clear HX
     go_wp2_with (first
      | (refine wpList_load_mid rfl 84 (.tmp 103) rfl b' (t * 23) rfl (ptCells (delP y).1 (.slice none 0 0)) _ HR5.out Tryz.underlying84 rfl infoPut23 ?_)
      | (at_builtin;refine wpList_append_own _ rfl (.tmp 95) (.tmp 105) 29 rfl w.heap.size 84 i0 _ 23 200 Tryz.underlying29 hi0 hz0 hz1 hz2 rfl (by decide) _ _ _ rfl HO6.out ⟨w5.heap.size,0,none⟩ 1 1 (ptCells (delP y).1 (.slice none 0 0)) rfl (by rfl) (by intro j u hj;rw [addr_at,Nat.zero_add];exact HC6.out.cell hj) (by exact pt_one _ rfl) (by have:=HAL.out;unfold maxLen;omega) (by have:=HAL.out;omega) (by exact HK6.out.size) ?_;intro v7 w7 hown hgrow hun7)
      | fail)
     have hlt7:=HO6.out.lt
     have K7:Hid (Kp w w7 Nul):=HK6.out.trans' (Kp.of_grown hgrow (S:=fun i=>w.heap.size≤i) (fun i hi=>(hlt7 i hi).1)) (fun i hi e=>by have e':w.heap.size≤i:=e;omega)
     obtain ⟨p7,n7,c7,rfl⟩:∃ p n c,v7=.slice p n c:=by
      rcases hown.2 with ⟨rfl,_⟩|⟨g,c,cur,rfl,_⟩
      ·exact ⟨_,_,_,rfl⟩
      ·exact ⟨_,_,_,rfl⟩
     have HF:Hid (w7.ownsRow w.heap.size 84 23 (.slice p7 n7 c7) (acc ++ [delP y]).length (rowP (acc ++ [delP y]))∧acc ++ [delP y] ++ mrg (ys.drop (q+1)) (zs.drop t)=mrg ys zs∧Kp w w7 Nul):=by
      rw [rowP_append,List.length_append,rowP,rowP,List.append_nil]
      exact ⟨hown,by rw [List.append_assoc];exact HNx.out,K7.out⟩
     clear hown hgrow hun7 hlt7 HO6 HC6 HK6 sa sb
     go_wp2_with fail
     go_roundw
     case rel=>exact ⟨q+1,t,p7,n7,c7,_,hqn,ht,rfl,by go_num,rfl,HF.out⟩
     case measure=>simp only [RowKit.intOf];omega
    ·subst hO
     have HNq:Hid (acc ++ (if csame y.1.2 z.1.2=true then mrg (ys.drop (q+1)) (zs.drop (t+1)) else z :: mrg (ys.drop (q+1)) (zs.drop (t+1)))=mrg ys zs):=HM.2.2 rfl
     clear HM
     have HOw5:Hid (w5.ownsRow w.heap.size 84 23 (.slice po no co) acc.length (rowP acc)):=ownsRow_nul HOw.out HK5.out
     have HK5':Hid (Kp w w5 Nul):=HKr.out.trans HK5.out
     have HSame1:Hid (∀ wq,Kp w5 wq Nul→Calls Tryz.prog 53 #[.agg (y.1.2.cells y.2).toArray,.agg (z.1.2.cells z.2).toArray] wq fun e w'=>e=.returned (.bool (csame y.1.2 z.1.2))∧Kp wq w' Nul):=fun wq k=>HSame.out y HYm.out z HZm.out wq (HK5'.out.trans k)
     clear HOw HKr HK5 s0 s1 HOrd1
     clear HSame HOrd
     obtain ⟨s0,s1⟩:=HS.out w5 HK5'.out
     have HKr:Hid (Kp w w5 Nul):=HK5'.out
     have HOw:Hid (w5.ownsRow w.heap.size 84 23 (.slice po no co) acc.length (rowP acc)):=HOw5.out
     clear HOw5 HK5'
     obtain ⟨C,hC⟩:∃ C,csame y.1.2 z.1.2=C:=⟨_,rfl⟩
     rw [hC] at HSame1 HNq
     have HSame1:Hid (∀ wq,Kp w5 wq Nul→Calls Tryz.prog 53 #[.agg (y.1.2.cells y.2).toArray,.agg (z.1.2.cells z.2).toArray] wq fun e w'=>e=.returned (.bool C)∧Kp wq w' Nul):=HSame1
     clear hC
     go_upto_region 11 with fail
     refine wp_region_noPanic ?_
     refine wp_region_hel (fun w':World=>Kp w5 w' Nul) (by kernel_rfl) ((Kp.refl _ _).drew) (fun hHeld=>?_)
     refine wpH_takes (i:=0) (v:=?_) (some 59) rfl rfl (by kernel_rfl) (by kernel_rfl) (by kernel_rfl) (fun _ _ _ h=>h) (Or.inl ⟨by rfl,?_⟩) hHeld ?_
     rotate_left
     ·intro w' hSw;obtain ⟨s0,s1⟩:=HS.out w' (HKr.out.trans hSw);clear hSw;go_simp;try with_reducible rfl
     simp only [Act.put,List.setIfInBounds_toArray,List.set_cons_zero,List.set_cons_succ]
     refine wpH_takes (i:=1) (v:=?_) (some 60) rfl rfl (by kernel_rfl) (by kernel_rfl) (by kernel_rfl) (fun _ _ _ h=>h) (Or.inl ⟨by rfl,?_⟩) hHeld ?_
     rotate_left
     ·intro w' hSw;obtain ⟨s0,s1⟩:=HS.out w' (HKr.out.trans hSw);clear hSw;go_simp;try with_reducible rfl
     simp only [Act.put,List.setIfInBounds_toArray,List.set_cons_zero,List.set_cons_succ]
     refine wpH_takes (i:=2) (v:=?_) (some 61) rfl rfl (by kernel_rfl) (by kernel_rfl) (by kernel_rfl) (fun _ _ _ h=>h) (Or.inl ⟨by rfl,?_⟩) hHeld ?_
     rotate_left
     ·intro w' hSw;obtain ⟨s0,s1⟩:=HS.out w' (HKr.out.trans hSw);clear hSw;go_simp;try with_reducible rfl
     simp only [Act.put,List.setIfInBounds_toArray,List.set_cons_zero,List.set_cons_succ]
     refine wpH_takes (i:=3) (v:=?_) (some 62) rfl rfl (by kernel_rfl) (by kernel_rfl) (by kernel_rfl) (fun _ _ _ h=>h) (Or.inl ⟨by rfl,?_⟩) hHeld ?_
     rotate_left
     ·intro w' hSw;obtain ⟨s0,s1⟩:=HS.out w' (HKr.out.trans hSw);clear hSw;go_simp;try with_reducible rfl
     simp only [Act.put,List.setIfInBounds_toArray,List.set_cons_zero,List.set_cons_succ]
     refine wpH_takes (i:=4) (v:=?_) (some 63) rfl rfl (by kernel_rfl) (by kernel_rfl) (by kernel_rfl) (fun _ _ _ h=>h) (Or.inl ⟨by rfl,?_⟩) hHeld ?_
     rotate_left
     ·intro w' hSw;obtain ⟨s0,s1⟩:=HS.out w' (HKr.out.trans hSw);clear hSw;go_simp;try with_reducible rfl
     simp only [Act.put,List.setIfInBounds_toArray,List.set_cons_zero,List.set_cons_succ]
     refine wpH_takes (i:=5) (v:=?_) (some 64) rfl rfl (by kernel_rfl) (by kernel_rfl) (by kernel_rfl) (fun _ _ _ h=>h) (Or.inl ⟨by rfl,?_⟩) hHeld ?_
     rotate_left
     ·intro w' hSw;obtain ⟨s0,s1⟩:=HS.out w' (HKr.out.trans hSw);clear hSw;go_simp;try with_reducible rfl
     simp only [Act.put,List.setIfInBounds_toArray,List.set_cons_zero,List.set_cons_succ]
     refine wpH_takes (i:=6) (v:=?_) (some 65) rfl rfl (by kernel_rfl) (by kernel_rfl) (by kernel_rfl) (fun _ _ _ h=>h) (Or.inl ⟨by rfl,?_⟩) hHeld ?_
     rotate_left
     ·intro w' hSw;obtain ⟨s0,s1⟩:=HS.out w' (HKr.out.trans hSw);clear hSw;go_simp;try with_reducible rfl
     simp only [Act.put,List.setIfInBounds_toArray,List.set_cons_zero,List.set_cons_succ]
     refine wpH_takes (i:=7) (v:=.agg (y.1.2.cells y.2).toArray) (some 66) rfl rfl (by kernel_rfl) (by kernel_rfl) (by kernel_rfl) (fun _ _ _ h=>h) (Or.inl ⟨by rfl,fun w' hSw=>exec_load_row 46 (.tmp 65) rfl b (q * 23+2) rfl (y.1.2.cells y.2) _ (HRy.out w' (HKr.out.trans hSw)).2 Tryz.underlying46 rfl infoContent⟩) hHeld ?_
     simp only [Act.put,List.setIfInBounds_toArray,List.set_cons_zero,List.set_cons_succ]
     refine wpH_takes (i:=8) (v:=?_) (some 67) rfl rfl (by kernel_rfl) (by kernel_rfl) (by kernel_rfl) (fun _ _ _ h=>h) (Or.inl ⟨by rfl,?_⟩) hHeld ?_
     rotate_left
     ·intro w' hSw;obtain ⟨s0,s1⟩:=HS.out w' (HKr.out.trans hSw);clear hSw;go_simp;try with_reducible rfl
     simp only [Act.put,List.setIfInBounds_toArray,List.set_cons_zero,List.set_cons_succ]
     refine wpH_takes (i:=9) (v:=?_) (some 68) rfl rfl (by kernel_rfl) (by kernel_rfl) (by kernel_rfl) (fun _ _ _ h=>h) (Or.inl ⟨by rfl,?_⟩) hHeld ?_
     rotate_left
     ·intro w' hSw;obtain ⟨s0,s1⟩:=HS.out w' (HKr.out.trans hSw);clear hSw;go_simp;try with_reducible rfl
     simp only [Act.put,List.setIfInBounds_toArray,List.set_cons_zero,List.set_cons_succ]
     refine wpH_takes (i:=10) (v:=?_) (some 69) rfl rfl (by kernel_rfl) (by kernel_rfl) (by kernel_rfl) (fun _ _ _ h=>h) (Or.inl ⟨by rfl,?_⟩) hHeld ?_
     rotate_left
     ·intro w' hSw;obtain ⟨s0,s1⟩:=HS.out w' (HKr.out.trans hSw);clear hSw;go_simp;try with_reducible rfl
     simp only [Act.put,List.setIfInBounds_toArray,List.set_cons_zero,List.set_cons_succ]
     refine wpH_takes (i:=11) (v:=?_) (some 70) rfl rfl (by kernel_rfl) (by kernel_rfl) (by kernel_rfl) (fun _ _ _ h=>h) (Or.inl ⟨by rfl,?_⟩) hHeld ?_
     rotate_left
     ·intro w' hSw;obtain ⟨s0,s1⟩:=HS.out w' (HKr.out.trans hSw);clear hSw;go_simp;try with_reducible rfl
     simp only [Act.put,List.setIfInBounds_toArray,List.set_cons_zero,List.set_cons_succ]
     refine wpH_takes (i:=12) (v:=?_) (some 71) rfl rfl (by kernel_rfl) (by kernel_rfl) (by kernel_rfl) (fun _ _ _ h=>h) (Or.inl ⟨by rfl,?_⟩) hHeld ?_
     rotate_left
     ·intro w' hSw;obtain ⟨s0,s1⟩:=HS.out w' (HKr.out.trans hSw);clear hSw;go_simp;try with_reducible rfl
     simp only [Act.put,List.setIfInBounds_toArray,List.set_cons_zero,List.set_cons_succ]
     refine wpH_takes (i:=13) (v:=?_) (some 72) rfl rfl (by kernel_rfl) (by kernel_rfl) (by kernel_rfl) (fun _ _ _ h=>h) (Or.inl ⟨by rfl,?_⟩) hHeld ?_
     rotate_left
     ·intro w' hSw;obtain ⟨s0,s1⟩:=HS.out w' (HKr.out.trans hSw);clear hSw;go_simp;try with_reducible rfl
     simp only [Act.put,List.setIfInBounds_toArray,List.set_cons_zero,List.set_cons_succ]
     refine wpH_takes (i:=14) (v:=?_) (some 73) rfl rfl (by kernel_rfl) (by kernel_rfl) (by kernel_rfl) (fun _ _ _ h=>h) (Or.inl ⟨by rfl,?_⟩) hHeld ?_
     rotate_left
     ·intro w' hSw;obtain ⟨s0,s1⟩:=HS.out w' (HKr.out.trans hSw);clear hSw;go_simp;try with_reducible rfl
     simp only [Act.put,List.setIfInBounds_toArray,List.set_cons_zero,List.set_cons_succ]
     refine wpH_takes (i:=15) (v:=.agg (z.1.2.cells z.2).toArray) (some 74) rfl rfl (by kernel_rfl) (by kernel_rfl) (by kernel_rfl) (fun _ _ _ h=>h) (Or.inl ⟨by rfl,fun w' hSw=>exec_load_row 46 (.tmp 73) rfl b' (t * 23+2) rfl (z.1.2.cells z.2) _ (HRz.out w' (HKr.out.trans hSw)).2.1 Tryz.underlying46 rfl infoContent⟩) hHeld ?_
     simp only [Act.put,List.setIfInBounds_toArray,List.set_cons_zero,List.set_cons_succ]
     refine wpH_step (i:=16) (by kernel_rfl) rfl rfl (fun KK hKK=>?_)
     go_simp
     refine (HSame1.out _ ((Kp.refl w5 Nul).drew)).mono ?_
     rintro e w6 ⟨rfl,k5⟩
     have HK5:Hid (Kp w5 w6 Nul):=((Kp.refl w5 Nul).drew).trans k5
     refine hKK.out _ _ HK5.out (fun hHeld=>?_)
     clear hKK KK k5
     (try simp only [Act.put,List.setIfInBounds_toArray,List.set_cons_zero,List.set_cons_succ])
     refine wpH_takes (i:=17) (v:=?_) (some 9) rfl rfl (by kernel_rfl) (by kernel_rfl) (by kernel_rfl) (fun _ _ _ h=>h) (Or.inl ⟨by rfl,?_⟩) hHeld ?_
     rotate_left
     ·intro w' hSw;clear hSw;go_simp;try with_reducible rfl
     simp only [Act.put,List.setIfInBounds_toArray,List.set_cons_zero,List.set_cons_succ]
     refine wpAnyH_done (by kernel_rfl) ?_ _
     refine NoPanic.normal ?_
     clear hHeld
     cases C with
     | true=>
      have HNx:Hid (acc ++ mrg (ys.drop (q+1)) (zs.drop (t+1))=mrg ys zs):=by
       rw [if_pos rfl] at HNq
       exact HNq.out
      have HF:Hid (w6.ownsRow w.heap.size 84 23 (.slice po no co) acc.length (rowP acc)∧acc ++ mrg (ys.drop (q+1)) (zs.drop (t+1))=mrg ys zs∧Kp w w6 Nul):=⟨ownsRow_nul HOw.out HK5.out,HNx.out,HKr.out.trans HK5.out⟩
      go_wp2_with fail
      go_roundw
      case rel=>exact ⟨q+1,t+1,po,no,co,acc,hqn,htm,rfl,by go_num,by go_num,HF.out⟩
      case measure=>simp only [RowKit.intOf];omega
     | false=>
      have HNx:Hid (acc ++ (z :: mrg (ys.drop (q+1)) (zs.drop (t+1)))=mrg ys zs):=by
       rw [if_neg Bool.false_ne_true] at HNq
       exact HNq.out
      have HO6:Hid ((w6.alloc (.cells (ptCells z.1 z.2).toArray 84)).ownsRow w.heap.size 84 23 (.slice po no co) acc.length (rowP acc)):=(ownsRow_nul HOw.out HK5.out).alloc _
      have HC6:Hid (Blk (w6.alloc (.cells (ptCells z.1 z.2).toArray 84)) w6.heap.size (ptCells z.1 z.2) 84):=Blk.new w6 (ptCells z.1 z.2) 84
      have HK6:Hid (Kp w (w6.alloc (.cells (ptCells z.1 z.2).toArray 84)) Nul):=(HKr.out.trans HK5.out).alloc _
      obtain ⟨sa,sb⟩:=HS.out w6 (HKr.out.trans HK5.out)
      have HR5:Hid (w6.rangeAt b' (t * 23) (ptCells z.1 z.2)):=(HRz.out w6 (HKr.out.trans HK5.out)).2.2
      go_wp2_with (first
       | (refine wpList_load_mid rfl 84 (.tmp 84) rfl b' (t * 23) rfl (ptCells z.1 z.2) _ HR5.out Tryz.underlying84 rfl infoPut23 ?_)
       | (at_builtin;refine wpList_append_own _ rfl (.tmp 78) (.tmp 86) 29 rfl w.heap.size 84 i0 _ 23 200 Tryz.underlying29 hi0 hz0 hz1 hz2 rfl (by decide) _ _ _ rfl HO6.out ⟨w6.heap.size,0,none⟩ 1 1 (ptCells z.1 z.2) rfl (by rfl) (by intro j u hj;rw [addr_at,Nat.zero_add];exact HC6.out.cell hj) (by exact HOn.out z HZm.out) (by have:=HAL.out;unfold maxLen;omega) (by have:=HAL.out;omega) (by exact HK6.out.size) ?_;intro v7 w7 hown hgrow hun7)
       | fail)
      have hlt7:=HO6.out.lt
      have K7:Hid (Kp w w7 Nul):=HK6.out.trans' (Kp.of_grown hgrow (S:=fun i=>w.heap.size≤i) (fun i hi=>(hlt7 i hi).1)) (fun i hi e=>by have e':w.heap.size≤i:=e;omega)
      obtain ⟨p7,n7,c7,rfl⟩:∃ p n c,v7=.slice p n c:=by
       rcases hown.2 with ⟨rfl,_⟩|⟨g,c,cur,rfl,_⟩
       ·exact ⟨_,_,_,rfl⟩
       ·exact ⟨_,_,_,rfl⟩
      have HF:Hid (w7.ownsRow w.heap.size 84 23 (.slice p7 n7 c7) (acc ++ [z]).length (rowP (acc ++ [z]))∧acc ++ [z] ++ mrg (ys.drop (q+1)) (zs.drop (t+1))=mrg ys zs∧Kp w w7 Nul):=by
       rw [rowP_append,List.length_append,rowP,rowP,List.append_nil]
       exact ⟨hown,by rw [List.append_assoc];exact HNx.out,K7.out⟩
      clear hown hgrow hun7 hlt7 HO6 HC6 HK6 sa sb
      go_wp2_with fail
      go_roundw
      case rel=>exact ⟨q+1,t+1,p7,n7,c7,_,hqn,htm,rfl,by go_num,by go_num,HF.out⟩
      case measure=>simp only [RowKit.intOf];omega
    ·have hO1:¬ O < 0:=by omega
     have HNx:Hid (acc ++ (z :: mrg (ys.drop q) (zs.drop (t+1)))=mrg ys zs):=HM.2.1 hO
     clear HM
     have HO6:Hid ((w5.alloc (.cells (ptCells z.1 z.2).toArray 84)).ownsRow w.heap.size 84 23 (.slice po no co) acc.length (rowP acc)):=(ownsRow_nul HOw.out HK5.out).alloc _
     have HC6:Hid (Blk (w5.alloc (.cells (ptCells z.1 z.2).toArray 84)) w5.heap.size (ptCells z.1 z.2) 84):=Blk.new w5 (ptCells z.1 z.2) 84
     have HK6:Hid (Kp w (w5.alloc (.cells (ptCells z.1 z.2).toArray 84)) Nul):=(HKr.out.trans HK5.out).alloc _
     obtain ⟨sa,sb⟩:=HS.out w5 (HKr.out.trans HK5.out)
     have HR5:Hid (w5.rangeAt b' (t * 23) (ptCells z.1 z.2)):=(HRz.out w5 (HKr.out.trans HK5.out)).2.2
     go_wp2_with (first
      | (refine wpList_load_mid rfl 84 (.tmp 118) rfl b' (t * 23) rfl (ptCells z.1 z.2) _ HR5.out Tryz.underlying84 rfl infoPut23 ?_)
      | (at_builtin;refine wpList_append_own _ rfl (.tmp 112) (.tmp 120) 29 rfl w.heap.size 84 i0 _ 23 200 Tryz.underlying29 hi0 hz0 hz1 hz2 rfl (by decide) _ _ _ rfl HO6.out ⟨w5.heap.size,0,none⟩ 1 1 (ptCells z.1 z.2) rfl (by rfl) (by intro j u hj;rw [addr_at,Nat.zero_add];exact HC6.out.cell hj) (by exact HOn.out z HZm.out) (by have:=HAL.out;unfold maxLen;omega) (by have:=HAL.out;omega) (by exact HK6.out.size) ?_;intro v7 w7 hown hgrow hun7)
      | fail)
     have hlt7:=HO6.out.lt
     have K7:Hid (Kp w w7 Nul):=HK6.out.trans' (Kp.of_grown hgrow (S:=fun i=>w.heap.size≤i) (fun i hi=>(hlt7 i hi).1)) (fun i hi e=>by have e':w.heap.size≤i:=e;omega)
     obtain ⟨p7,n7,c7,rfl⟩:∃ p n c,v7=.slice p n c:=by
      rcases hown.2 with ⟨rfl,_⟩|⟨g,c,cur,rfl,_⟩
      ·exact ⟨_,_,_,rfl⟩
      ·exact ⟨_,_,_,rfl⟩
     have HF:Hid (w7.ownsRow w.heap.size 84 23 (.slice p7 n7 c7) (acc ++ [z]).length (rowP (acc ++ [z]))∧acc ++ [z] ++ mrg (ys.drop q) (zs.drop (t+1))=mrg ys zs∧Kp w w7 Nul):=by
      rw [rowP_append,List.length_append,rowP,rowP,List.append_nil]
      exact ⟨hown,by rw [List.append_assoc];exact HNx.out,K7.out⟩
     clear hown hgrow hun7 hlt7 HO6 HC6 HK6 sa sb
     go_wp2_with fail
     go_roundw
     case rel=>exact ⟨q,t+1,p7,n7,c7,_,hq,htm,rfl,rfl,by go_num,HF.out⟩
     case measure=>simp only [RowKit.intOf];omega
   ·have htm0:t=m:=by omega
    subst htm0
    have hlt':¬ (t:Int) < (t:Int):=by omega
    have HNx:Hid (acc ++ (delP y :: mrg (ys.drop (q+1)) (zs.drop t))=mrg ys zs):=by
     have e:=HAcc.out
     have e0:zs.drop t=[]:=List.drop_of_length_le (by rw [HN.out.2.1];exact Nat.le_refl _)
     show _=_
     rw [← e,HYd.out,mrg_lt (by rw [e0];show (-1:Int) < 0;decide)]
    have HO6:Hid ((wr.alloc (.cells (ptCells (delP y).1 (.slice none 0 0)).toArray 84)).ownsRow w.heap.size 84 23 (.slice po no co) acc.length (rowP acc)):=(ownsRow_nul HOw.out (Kp.refl _ _)).alloc _
    have HC6:Hid (Blk (wr.alloc (.cells (ptCells (delP y).1 (.slice none 0 0)).toArray 84)) wr.heap.size (ptCells (delP y).1 (.slice none 0 0)) 84):=Blk.new wr (ptCells (delP y).1 (.slice none 0 0)) 84
    have HK6:Hid (Kp w (wr.alloc (.cells (ptCells (delP y).1 (.slice none 0 0)).toArray 84)) Nul):=(HKr.out).alloc _
    obtain ⟨sa,sb⟩:=HS.out wr (HKr.out)
    have HX:=(HRy.out wr HKr.out).1
    have x0:wr.cell? ⟨b,q * 23,none⟩=some (.int .i64 y.1.1.1):=HX 0 _ rfl
    have x1:wr.cell? ⟨b,q * 23+1,none⟩=some (.int .i64 y.1.1.2):=HX 1 _ rfl
    clear HX
    go_wp2_with (first
     | (refine wpList_load_mid rfl 84 (.tmp 103) rfl b' (t * 23) rfl (ptCells (delP y).1 (.slice none 0 0)) _ HR5.out Tryz.underlying84 rfl infoPut23 ?_)
     | (at_builtin;refine wpList_append_own _ rfl (.tmp 95) (.tmp 105) 29 rfl w.heap.size 84 i0 _ 23 200 Tryz.underlying29 hi0 hz0 hz1 hz2 rfl (by decide) _ _ _ rfl HO6.out ⟨wr.heap.size,0,none⟩ 1 1 (ptCells (delP y).1 (.slice none 0 0)) rfl (by rfl) (by intro j u hj;rw [addr_at,Nat.zero_add];exact HC6.out.cell hj) (by exact pt_one _ rfl) (by have:=HAL.out;unfold maxLen;omega) (by have:=HAL.out;omega) (by exact HK6.out.size) ?_;intro v7 w7 hown hgrow hun7)
     | fail)
    have hlt7:=HO6.out.lt
    have K7:Hid (Kp w w7 Nul):=HK6.out.trans' (Kp.of_grown hgrow (S:=fun i=>w.heap.size≤i) (fun i hi=>(hlt7 i hi).1)) (fun i hi e=>by have e':w.heap.size≤i:=e;omega)
    obtain ⟨p7,n7,c7,rfl⟩:∃ p n c,v7=.slice p n c:=by
     rcases hown.2 with ⟨rfl,_⟩|⟨g,c,cur,rfl,_⟩
     ·exact ⟨_,_,_,rfl⟩
     ·exact ⟨_,_,_,rfl⟩
    have HF:Hid (w7.ownsRow w.heap.size 84 23 (.slice p7 n7 c7) (acc ++ [delP y]).length (rowP (acc ++ [delP y]))∧acc ++ [delP y] ++ mrg (ys.drop (q+1)) (zs.drop t)=mrg ys zs∧Kp w w7 Nul):=by
     rw [rowP_append,List.length_append,rowP,rowP,List.append_nil]
     exact ⟨hown,by rw [List.append_assoc];exact HNx.out,K7.out⟩
    clear hown hgrow hun7 hlt7 HO6 HC6 HK6 sa sb
    go_wp2_with fail
    go_roundw
    case rel=>exact ⟨q+1,t,p7,n7,c7,_,hqn,ht,rfl,by go_num,rfl,HF.out⟩
    case measure=>simp only [RowKit.intOf];omega
  ·have hqn0:q=n:=by omega
   subst hqn0
   have hlt':¬ (q:Int) < (q:Int):=by omega
   have e0:ys.drop q=[]:=List.drop_of_length_le (by rw [HN.out.1];exact Nat.le_refl _)
   by_cases htm:t < m
   ·have htm':(t:Int) < (m:Int):=by omega
    have hte:((t:Int) == (m:Int))=false:=by rw [beq_eq_false_iff_ne];omega
    have htk:t < zs.length:=by rw [HN.out.2.1];exact htm
    obtain ⟨z,hz⟩:∃ z,zs[t]=z:=⟨_,rfl⟩
    have hz0':zs[t]? = some z:=by rw [List.getElem?_eq_getElem htk,hz]
    have hzd:zs.drop t=z :: zs.drop (t+1):=by rw [List.drop_eq_getElem_cons htk,hz]
    obtain ⟨b',rfl,hr'⟩:=HZ.out t z hz0'
    have HRz:Hid (∀ wq,Kp w wq Nul→wq.rangeAt b' (t * 23) [.int .i64 z.1.1.1,.int .i64 z.1.1.2]∧wq.rangeAt b' (t * 23+2) (z.1.2.cells z.2)∧wq.rangeAt b' (t * 23) (ptCells z.1 z.2)):=hr'
    have HZm:Hid (z∈zs):=List.mem_of_getElem? hz0'
    have HNx:Hid (acc ++ (z :: mrg (ys.drop q) (zs.drop (t+1)))=mrg ys zs):=by
     have e:=HAcc.out
     show _=_
     rw [← e,hzd,mrg_gt (by rw [e0];show (0:Int) < 1;decide)]
    clear hr' hz hz0' htk hzd e0
    have HO6:Hid ((wr.alloc (.cells (ptCells z.1 z.2).toArray 84)).ownsRow w.heap.size 84 23 (.slice po no co) acc.length (rowP acc)):=(ownsRow_nul HOw.out (Kp.refl _ _)).alloc _
    have HC6:Hid (Blk (wr.alloc (.cells (ptCells z.1 z.2).toArray 84)) wr.heap.size (ptCells z.1 z.2) 84):=Blk.new wr (ptCells z.1 z.2) 84
    have HK6:Hid (Kp w (wr.alloc (.cells (ptCells z.1 z.2).toArray 84)) Nul):=(HKr.out).alloc _
    obtain ⟨sa,sb⟩:=HS.out wr (HKr.out)
    have HR5:Hid (wr.rangeAt b' (t * 23) (ptCells z.1 z.2)):=(HRz.out wr HKr.out).2.2
    go_wp2_with (first
     | (refine wpList_load_mid rfl 84 (.tmp 118) rfl b' (t * 23) rfl (ptCells z.1 z.2) _ HR5.out Tryz.underlying84 rfl infoPut23 ?_)
     | (at_builtin;refine wpList_append_own _ rfl (.tmp 112) (.tmp 120) 29 rfl w.heap.size 84 i0 _ 23 200 Tryz.underlying29 hi0 hz0 hz1 hz2 rfl (by decide) _ _ _ rfl HO6.out ⟨wr.heap.size,0,none⟩ 1 1 (ptCells z.1 z.2) rfl (by rfl) (by intro j u hj;rw [addr_at,Nat.zero_add];exact HC6.out.cell hj) (by exact HOn.out z HZm.out) (by have:=HAL.out;unfold maxLen;omega) (by have:=HAL.out;omega) (by exact HK6.out.size) ?_;intro v7 w7 hown hgrow hun7)
     | fail)
    have hlt7:=HO6.out.lt
    have K7:Hid (Kp w w7 Nul):=HK6.out.trans' (Kp.of_grown hgrow (S:=fun i=>w.heap.size≤i) (fun i hi=>(hlt7 i hi).1)) (fun i hi e=>by have e':w.heap.size≤i:=e;omega)
    obtain ⟨p7,n7,c7,rfl⟩:∃ p n c,v7=.slice p n c:=by
     rcases hown.2 with ⟨rfl,_⟩|⟨g,c,cur,rfl,_⟩
     ·exact ⟨_,_,_,rfl⟩
     ·exact ⟨_,_,_,rfl⟩
    have HF:Hid (w7.ownsRow w.heap.size 84 23 (.slice p7 n7 c7) (acc ++ [z]).length (rowP (acc ++ [z]))∧acc ++ [z] ++ mrg (ys.drop q) (zs.drop (t+1))=mrg ys zs∧Kp w w7 Nul):=by
     rw [rowP_append,List.length_append,rowP,rowP,List.append_nil]
     exact ⟨hown,by rw [List.append_assoc];exact HNx.out,K7.out⟩
    clear hown hgrow hun7 hlt7 HO6 HC6 HK6 sa sb
    go_wp2_with fail
    go_roundw
    case rel=>exact ⟨q,t+1,p7,n7,c7,_,hq,htm,rfl,rfl,by go_num,HF.out⟩
    case measure=>simp only [RowKit.intOf];omega
   ·have htm0:t=m:=by omega
    subst htm0
    have hlt2:¬ (t:Int) < (t:Int):=by omega
    have HF:Hid (Pts wr w.heap.size (fun _=>True) (.slice po no co) (mrg ys zs)∧Kp w wr Nul):=by
     have e:=HAcc.out
     have e1:zs.drop t=[]:=List.drop_of_length_le (by rw [HN.out.2.1];exact Nat.le_refl _)
     rw [e0,e1,mrg,List.append_nil] at e
     rw [← e]
     exact ⟨⟨HOw.out,fun z hz=>HT.out wr HKr.out z (by rw [← e];exact hz)⟩,HKr.out⟩
    clear e0
    go_wp2_with fail
    go_ret
    exact ⟨_,rfl,HF.out⟩
theorem requal_at (B r:Nat) (v:Value) (ys:List (Cc×Value)) (B' o:Nat) (v':Value) (zs:List (Cc×Value)) (w:World) (hd:DG w B r v ys) (ho:DG w B' o v' zs) (hn4:ys.length≤4096) (hm4:zs.length≤4096)
  (gy:∀ y∈ys,y.1.2.v.x < 18446744073709551616∧y.1.2.t.ok) (gz:∀ y∈zs,y.1.2.v.x < 18446744073709551616∧y.1.2.t.ok) :
  Calls Tryz.prog 29 #[.pointer (some ⟨r,0,none⟩),.pointer (some ⟨o,0,none⟩)] w fun e w'=>e=.returned (.bool (decide ((mrg ys zs).length=0)))∧Kp w w' Nul:=by
 have HP:Hid (Calls Tryz.prog 32 #[.pointer (some ⟨r,0,none⟩),.pointer (some ⟨o,0,none⟩)] w fun e w'=>∃ u,e=.returned u∧Pts w' w.heap.size (fun _=>True) u (mrg ys zs)∧Kp w w' Nul):=rputs_at B r v ys B' o v' zs w hd ho hn4 hm4 gy gz
 go_enter Tryz.func29,Tryz.ntmps29
 go_wp2_with fail
 refine HP.out.mono ?_
 rintro e w1 ⟨u,rfl,hp,hk⟩
 obtain ⟨pu,cu,rfl,_⟩:=hp.slice
 have HK:Hid (Kp w w1 Nul):=hk
 obtain ⟨k,hk'⟩:∃ k,(mrg ys zs).length=k:=⟨_,rfl⟩
 have HF:Hid (∀ c:Bool,c=decide (k=0)→Ending.returned (.bool c)=.returned (.bool (decide ((mrg ys zs).length=0)))∧Kp w w1 Nul):=fun c hc=>by
  rw [hk',hc]
  exact ⟨rfl,HK.out⟩
 rw [hk']
 clear hk hp HP hk'
 go_wp2_with fail
 go_ret
 refine HF.out _ ?_
 rw [Bool.eq_iff_iff,beq_iff_eq,decide_eq_true_eq]
 omega
end Go.Proofs.YtlppcfeakakpfaaGreatDoor
