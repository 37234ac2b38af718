/- sameNode, just (quadrillelaw17): of trees and contents that are the same they tell so. just (quadrillelaw17): of contents that are the same it tells so. -/
import Derived.Test.YtlppcfeakakpfaaGreatDoorQpEp
import Derived.Deep.QuietTactic
set_option maxHeartbeats 16000000
set_option maxRecDepth 20000
namespace Go.Proofs.YtlppcfeakakpfaaGreatDoor
open Go.RowKit
theorem lbits_at (x:Nat) (w:World):Calls Tryz.prog 41 #[.float .f64 x] w fun e w'=>e=.returned (.int .u64 (x:Int))∧w'=w:=by
 go_enter Tryz.func41,Tryz.ntmps41
 go_wp2
 go_ret
 exact ⟨rfl,rfl⟩
theorem sameNode_any (N:Nat):∀ (t:Nd) (sl sg:Value) (F G:Nat→Prop) (w:World),t.size≤N→NdIn w F sl t→NdIn w G sg t →
  Calls Tryz.prog 40 #[t.hd.val sl,t.hd.val sg] w fun e w'=>e=.returned (.bool true)∧Kp w w' Nul:=by
 induction N with
 | zero=>intro t sl sg F G w h;have:=size_pos t;omega
 | succ N ih=>
  intro t sl sg F G w hN hin gin
  obtain ⟨h,ts⟩:=t
  rw [NdIn] at hin gin
  obtain ⟨a,c,rfl,_,h3,h4⟩:=hin
  obtain ⟨a',c',rfl,_,_,h4'⟩:=gin
  have hsz:Hid ((Nd.mk h ts).size=1+sizeL ts):=by show _=_;rw [Nd.size]
  have HN:Hid ((Nd.mk h ts).size≤N+1):=hN
  have hlen:ts.length≤9223372036854775807:=by unfold maxLen at h3;omega
  simp only [Nd.hd]
  have H1:Hid (∀ w,Calls Tryz.prog 41 #[.float .f64 h.x] w fun e w'=>e=.returned (.int .u64 (h.x:Int))∧w'=w):=lbits_at h.x
  have IH:Hid (∀ (t:Nd) (sl sg:Value) (F G:Nat→Prop) (w:World),t.size≤N→NdIn w F sl t→NdIn w G sg t →
   Calls Tryz.prog 40 #[t.hd.val sl,t.hd.val sg] w fun e w'=>e=.returned (.bool true)∧Kp w w' Nul):=ih
  have H4:Hid ((ts=[]∧(c=0∨a≠none))∨∃ b o,a=some ⟨b,o,none⟩∧F b∧NdsIn w F b o ts):=h4
  have H4':Hid ((ts=[]∧(c'=0∨a'≠none))∨∃ b o,a'=some ⟨b,o,none⟩∧G b∧NdsIn w G b o ts):=h4'
  have e1:=neq_ref h.c1 h.r1 h.c1 h.r1 h.p1 h.q1 h.p1 h.q1 true (by simp)
  have e2:=neq_ref h.c2 h.r2 h.c2 h.r2 h.p2 h.q2 h.p2 h.q2 true (by simp)
  generalize hn:ts.length=n at *
  have HL:Hid (ts.length=n):=hn
  have HLEN:Hid (n≤9223372036854775807):=hlen
  obtain ⟨hk,ho,hx,hs,hb,hf,hc1,hr1,hp1,hq1,hc2,hr2,hp2,hq2⟩:=h
  try simp only at *
  generalize hX:(hx:Int)=X at *
  obtain ⟨W1,hW1⟩:∃ W1,(w.alloc (.cells ((⟨hk,ho,hx,hs,hb,hf,hc1,hr1,hp1,hq1,hc2,hr2,hp2,hq2⟩:Hd).cells (.slice a n c)).toArray 44)).alloc (.cells ((⟨hk,ho,hx,hs,hb,hf,hc1,hr1,hp1,hq1,hc2,hr2,hp2,hq2⟩:Hd).cells (.slice a' n c')).toArray 44)=W1:=⟨_,rfl⟩
  have k1:Kp w W1 Nul:=by rw [← hW1];exact ((Kp.refl w Nul).alloc _).alloc _
  have b1:Blk W1 w.heap.size ((⟨hk,ho,hx,hs,hb,hf,hc1,hr1,hp1,hq1,hc2,hr2,hp2,hq2⟩:Hd).cells (.slice a n c)) 44:=by rw [← hW1];exact (Blk.new w _ _).alloc _
  have b2:Blk W1 (w.heap.size+1) ((⟨hk,ho,hx,hs,hb,hf,hc1,hr1,hp1,hq1,hc2,hr2,hp2,hq2⟩:Hd).cells (.slice a' n c')) 44:=by
   have:=Blk.new (w.alloc (.cells ((⟨hk,ho,hx,hs,hb,hf,hc1,hr1,hp1,hq1,hc2,hr2,hp2,hq2⟩:Hd).cells (.slice a n c)).toArray 44)) ((⟨hk,ho,hx,hs,hb,hf,hc1,hr1,hp1,hq1,hc2,hr2,hp2,hq2⟩:Hd).cells (.slice a' n c')) 44
   rw [World.size_alloc] at this
   rw [← hW1];exact this
  have HB:Hid (∀ wq,Kp W1 wq Nul→wq.cell? ⟨w.heap.size,14,none⟩=some (.slice a n c)∧wq.cell? ⟨w.heap.size+1,14,none⟩=some (.slice a' n c')):=fun wq hq=>⟨(b1.kp hq (fun x=>x)).cell rfl,(b2.kp hq (fun x=>x)).cell rfl⟩
  have HK1:Hid (Kp w W1 Nul):=k1
  have HW1:Hid (∀ d,((w.alloc (.cells #[.int .i64 hk,.int .i64 ho,.float .f64 hx,.string hs,.bool hb,.int .i64 hf,.int .i64 hc1,.int .i64 hr1,.bool hp1,.bool hq1,.int .i64 hc2,.int .i64 hr2,.bool hp2,.bool hq2,.slice a n c] 44)).alloc (.cells #[.int .i64 hk,.int .i64 ho,.float .f64 hx,.string hs,.bool hb,.int .i64 hf,.int .i64 hc1,.int .i64 hr1,.bool hp1,.bool hq1,.int .i64 hc2,.int .i64 hr2,.bool hp2,.bool hq2,.slice a' n c'] 44)).drewN d=W1.drewN d):=fun d=>by rw [← hW1]
  clear ih hN h4 h4' h3 hn hlen k1 b1 b2 hW1 hX
  go_enter Tryz.func40,Tryz.ntmps40
  go_wp2_with fail
  simp only [List.append_eq,List.cons_append,List.nil_append]
  go_quiet ((go_at_call 41;exact Calls.quiet_of_same (H1.out _)))
  go_wp2_with fail
  rw [HW1.out]
  clear HW1 H1 e1 e2
  go_loopw [5] (fun i wr=>∃ q:Nat,q≤n∧i=.int .i64 q∧Kp W1 wr Nul) (fun i _=>n - (intOf i).toNat)
  case atStart=>exact ⟨0,Nat.zero_le _,rfl,(Kp.refl _ _).drewN _⟩
  case round=>
   obtain ⟨q,hq,rfl,hkq⟩:=hrel
   have KQ:Hid (Kp W1 wr Nul):=hkq
   have hkw:Kp w wr Nul:=HK1.out.trans hkq
   have HKW:Hid (Kp w wr Nul):=hkw
   obtain ⟨x14,y14⟩:=HB.out wr hkq
   by_cases hlt:q < n
   ·have hqt:q < ts.length:=by rw [HL.out];exact hlt
    obtain ⟨b,o,rfl,hFb,hns⟩:∃ b o,a=some ⟨b,o,none⟩∧F b∧NdsIn w F b o ts:=by
     rcases H4.out with h|h
     ·rw [h.1] at hqt;simp at hqt
     ·exact h
    obtain ⟨b',o',rfl,hGb,gns⟩:∃ b o,a'=some ⟨b,o,none⟩∧G b∧NdsIn w G b o ts:=by
     rcases H4'.out with h|h
     ·rw [h.1] at hqt;simp at hqt
     ·exact h
    obtain ⟨s1,hr,hni⟩:=hns.get q hqt
    obtain ⟨s2,gr,gni⟩:=gns.get q hqt
    have hr':wr.rangeAt b (o+q * 15) ((ts[q]).hd.cells s1):=rangeAt_block hr (hkw.block b (rangeAt_lt hr) (fun x=>x))
    have gr':wr.rangeAt b' (o'+q * 15) ((ts[q]).hd.cells s2):=rangeAt_block gr (hkw.block b' (rangeAt_lt gr) (fun x=>x))
    have HR:Hid (∀ wq,Kp wr wq Nul→wq.rangeAt b (o+q * 15) ((ts[q]).hd.cells s1)):=fun wq hk=>rangeAt_block hr' (hk.block b (rangeAt_lt hr') (fun x=>x))
    have HR2:Hid (∀ wq,Kp wr wq Nul→wq.rangeAt b' (o'+q * 15) ((ts[q]).hd.cells s2)):=fun wq hk=>rangeAt_block gr' (hk.block b' (rangeAt_lt gr') (fun x=>x))
    have hni':=hni.kp hkw (fun _ _ x=>x)
    have gni':=gni.kp hkw (fun _ _ x=>x)
    have hs1:=size_get ts q hqt
    have HC:Hid (∀ wq,Kp wr wq Nul→Calls Tryz.prog 40 #[(ts[q]).hd.val s1,(ts[q]).hd.val s2] wq fun e w'=>e=.returned (.bool true)∧Kp wq w' Nul):=fun wq hq=>IH.out ts[q] s1 s2 F G wq (by have:=HN.out;have:=hsz.out;omega) (hni'.kp hq (fun _ _ x=>x)) (gni'.kp hq (fun _ _ x=>x))
    have HS:Hid (∀ wq,Kp wr wq Nul→wq.cell? ⟨w.heap.size,14,none⟩=some (.slice (some ⟨b,o,none⟩) n c)∧wq.cell? ⟨w.heap.size+1,14,none⟩=some (.slice (some ⟨b',o',none⟩) n c')):=fun wq hk=>HB.out wq (KQ.out.trans hk)
    clear hs1 hni hni' hr hr' hns gni gni' gr gr' gns hkw hkq
    generalize (ts[q]).hd=hh at *
    have hkb:(q:Int)+1≤9223372036854775807:=by have:=HLEN.out;omega
    have hq0:(0:Int)≤(q:Int):=by omega
    have hqn:(q:Int) < (n:Int):=by omega
    go_wp2_with fail
    refine wp_region_noPanic ?_
    refine wp_region_hel (fun w':World=>Kp wr w' Nul) (by kernel_rfl) ((Kp.refl wr Nul).drew) (fun hHeld=>?_)
    refine wpH_takes (i:=0) (v:=?_) (some 79) rfl rfl (by kernel_rfl) (by kernel_rfl) (by kernel_rfl) (fun _ _ _ h=>h) (Or.inl ⟨by rfl,?_⟩) hHeld ?_
    rotate_left
    ·intro w' hSw;obtain ⟨s0,s1⟩:=HS.out _ hSw;clear hSw;go_simp;try with_reducible rfl
    simp only [Act.put,List.setIfInBounds_toArray,List.set_cons_zero,List.set_cons_succ]
    refine wpH_takes (i:=1) (v:=?_) (some 80) rfl rfl (by kernel_rfl) (by kernel_rfl) (by kernel_rfl) (fun _ _ _ h=>h) (Or.inl ⟨by rfl,?_⟩) hHeld ?_
    rotate_left
    ·intro w' hSw;obtain ⟨s0,s1⟩:=HS.out _ hSw;clear hSw;go_simp;try with_reducible rfl
    simp only [Act.put,List.setIfInBounds_toArray,List.set_cons_zero,List.set_cons_succ]
    refine wpH_takes (i:=2) (v:=?_) (some 81) rfl rfl (by kernel_rfl) (by kernel_rfl) (by kernel_rfl) (fun _ _ _ h=>h) (Or.inl ⟨by rfl,?_⟩) hHeld ?_
    rotate_left
    ·intro w' hSw;obtain ⟨s0,s1⟩:=HS.out _ hSw;clear hSw;go_simp;try with_reducible rfl
    simp only [Act.put,List.setIfInBounds_toArray,List.set_cons_zero,List.set_cons_succ]
    refine wpH_takes (i:=3) (v:=?_) (some 82) rfl rfl (by kernel_rfl) (by kernel_rfl) (by kernel_rfl) (fun _ _ _ h=>h) (Or.inl ⟨by rfl,?_⟩) hHeld ?_
    rotate_left
    ·intro w' hSw;obtain ⟨s0,s1⟩:=HS.out _ hSw;clear hSw;go_simp;try with_reducible rfl
    simp only [Act.put,List.setIfInBounds_toArray,List.set_cons_zero,List.set_cons_succ]
    refine wpH_takes (i:=4) (v:=hh.val s1) (some 83) rfl rfl (by kernel_rfl) (by kernel_rfl) (by kernel_rfl) (fun _ _ _ h=>h) (Or.inl ⟨by rfl,fun w' hSw=>exec_load_mid (hh.cells s1) rfl rfl (HR.out w' hSw) rfl⟩) hHeld ?_
    simp only [Act.put,List.setIfInBounds_toArray,List.set_cons_zero,List.set_cons_succ]
    refine wpH_takes (i:=5) (v:=?_) (some 84) rfl rfl (by kernel_rfl) (by kernel_rfl) (by kernel_rfl) (fun _ _ _ h=>h) (Or.inl ⟨by rfl,?_⟩) hHeld ?_
    rotate_left
    ·intro w' hSw;obtain ⟨s0,s1⟩:=HS.out _ hSw;clear hSw;go_simp;try with_reducible rfl
    simp only [Act.put,List.setIfInBounds_toArray,List.set_cons_zero,List.set_cons_succ]
    refine wpH_takes (i:=6) (v:=?_) (some 85) rfl rfl (by kernel_rfl) (by kernel_rfl) (by kernel_rfl) (fun _ _ _ h=>h) (Or.inl ⟨by rfl,?_⟩) hHeld ?_
    rotate_left
    ·intro w' hSw;obtain ⟨s0,s1⟩:=HS.out _ hSw;clear hSw;go_simp;try with_reducible rfl
    simp only [Act.put,List.setIfInBounds_toArray,List.set_cons_zero,List.set_cons_succ]
    refine wpH_takes (i:=7) (v:=?_) (some 86) rfl rfl (by kernel_rfl) (by kernel_rfl) (by kernel_rfl) (fun _ _ _ h=>h) (Or.inl ⟨by rfl,?_⟩) hHeld ?_
    rotate_left
    ·intro w' hSw;obtain ⟨s0,s1⟩:=HS.out _ hSw;clear hSw;go_simp;try with_reducible rfl
    simp only [Act.put,List.setIfInBounds_toArray,List.set_cons_zero,List.set_cons_succ]
    refine wpH_takes (i:=8) (v:=?_) (some 87) rfl rfl (by kernel_rfl) (by kernel_rfl) (by kernel_rfl) (fun _ _ _ h=>h) (Or.inl ⟨by rfl,?_⟩) hHeld ?_
    rotate_left
    ·intro w' hSw;obtain ⟨s0,s1⟩:=HS.out _ hSw;clear hSw;go_simp;try with_reducible rfl
    simp only [Act.put,List.setIfInBounds_toArray,List.set_cons_zero,List.set_cons_succ]
    refine wpH_takes (i:=9) (v:=hh.val s2) (some 88) rfl rfl (by kernel_rfl) (by kernel_rfl) (by kernel_rfl) (fun _ _ _ h=>h) (Or.inl ⟨by rfl,fun w' hSw=>exec_load_mid (hh.cells s2) rfl rfl (HR2.out w' hSw) rfl⟩) hHeld ?_
    simp only [Act.put,List.setIfInBounds_toArray,List.set_cons_zero,List.set_cons_succ]
    refine wpH_step (i:=10) (by kernel_rfl) rfl rfl (fun K hK=>?_)
    go_simp
    refine (HC.out _ ((Kp.refl wr Nul).drew)).mono ?_
    rintro e w2 ⟨rfl,hk2⟩
    have hk2':Kp wr w2 Nul:=((Kp.refl wr Nul).drew).trans hk2
    have HK3:Hid (Kp W1 w2 Nul):=KQ.out.trans hk2'
    have HK4:Hid (Kp w w2 Nul):=HKW.out.trans hk2'
    refine hK.out _ _ hk2' (fun hHeld2=>?_)
    clear hK K hHeld hk2 hk2' HC HS HR HR2 x14 y14
    refine wpH_takes (i:=11) (v:=?_) (some 6) rfl rfl (by kernel_rfl) (by kernel_rfl) (by kernel_rfl) (fun _ _ _ h=>h) (Or.inl ⟨by rfl,?_⟩) hHeld2 ?_
    rotate_left
    ·intro w' hSw;clear hSw;go_simp;try with_reducible rfl
    simp only [Act.put,List.setIfInBounds_toArray,List.set_cons_zero,List.set_cons_succ]
    refine wpAnyH_done (by kernel_rfl) ?_ _
    refine NoPanic.normal ?_
    clear hHeld2
    go_wp2_with fail
    go_roundw
    case rel=>exact ⟨q+1,by omega,by go_num,HK3.out⟩
    case measure=>simp only [intOf];omega
   ·have hqe:q=n:=by omega
    subst hqe
    have hqn:¬ ((q:Int) < (q:Int)):=by omega
    clear hkw hkq
    go_wp2_with fail
    go_ret
    exact ⟨rfl,HKW.out⟩
theorem just_at (c:Ct) (sl sg:Value) (F G:Nat→Prop) (w:World) (hin:NdIn w F sl c.t) (gin:NdIn w G sg c.t) :
  Calls Tryz.prog 19 #[c.val sl,c.val sg] w fun e w'=>e=.returned (.bool true)∧Kp w w' Nul:=by
 have HS:Hid (∀ wq,Kp w wq Nul→Calls Tryz.prog 40 #[c.t.hd.val sl,c.t.hd.val sg] wq fun e w'=>e=.returned (.bool true)∧Kp wq w' Nul):=fun wq hq=>sameNode_any c.t.size c.t sl sg F G wq (Nat.le_refl _) (hin.kp hq (fun _ _ x=>x)) (gin.kp hq (fun _ _ x=>x))
 have HB:Hid (∀ w,Calls Tryz.prog 41 #[.float .f64 c.v.x] w fun e w'=>e=.returned (.int .u64 (c.v.x:Int))∧w'=w):=lbits_at c.v.x
 obtain ⟨k,⟨vk,vx,vs,vb,vf⟩,t⟩:=c
 try simp only at *
 generalize hX:(vx:Int)=X at *
 clear hX hin gin
 obtain ⟨W,hW⟩:∃ W,(w.alloc (.cells (Ct.cells ⟨k,⟨vk,vx,vs,vb,vf⟩,t⟩ sl).toArray 46)).alloc (.cells (Ct.cells ⟨k,⟨vk,vx,vs,vb,vf⟩,t⟩ sg).toArray 46)=W:=⟨_,rfl⟩
 have hk:Kp w W Nul:=by rw [← hW];exact ((Kp.refl w Nul).alloc _).alloc _
 have b0:Blk W w.heap.size (Ct.cells ⟨k,⟨vk,vx,vs,vb,vf⟩,t⟩ sl) 46:=by rw [← hW];exact (Blk.new w _ _).alloc _
 have b1:Blk W (w.heap.size+1) (Ct.cells ⟨k,⟨vk,vx,vs,vb,vf⟩,t⟩ sg) 46:=by
  have:=Blk.new (w.alloc (.cells (Ct.cells ⟨k,⟨vk,vx,vs,vb,vf⟩,t⟩ sl).toArray 46)) (Ct.cells ⟨k,⟨vk,vx,vs,vb,vf⟩,t⟩ sg) 46
  rw [World.size_alloc] at this
  rw [← hW];exact this
 have R0:Hid (W.rangeAt w.heap.size 6 (t.hd.cells sl)):=rangeAt_mid (pre:=[.int .i64 k,.int .i64 vk,.float .f64 vx,.string vs,.bool vb,.int .i64 vf]) (l:=t.hd.cells sl) (post:=[]) b0
 have R1:Hid (W.rangeAt (w.heap.size+1) 6 (t.hd.cells sg)):=rangeAt_mid (pre:=[.int .i64 k,.int .i64 vk,.float .f64 vx,.string vs,.bool vb,.int .i64 vf]) (l:=t.hd.cells sg) (post:=[]) b1
 have HK:Hid (Kp w W Nul):=hk
 have HC:Hid (∀ wq,Kp W wq Nul→(wq.cell? ⟨w.heap.size,0,none⟩=some (.int .i64 k)∧wq.cell? ⟨w.heap.size,1,none⟩=some (.int .i64 vk)∧wq.cell? ⟨w.heap.size,2,none⟩=some (.float .f64 vx)∧wq.cell? ⟨w.heap.size,3,none⟩=some (.string vs)∧wq.cell? ⟨w.heap.size,4,none⟩=some (.bool vb)∧wq.cell? ⟨w.heap.size,5,none⟩=some (.int .i64 vf)) ∧
   (wq.cell? ⟨w.heap.size+1,0,none⟩=some (.int .i64 k)∧wq.cell? ⟨w.heap.size+1,1,none⟩=some (.int .i64 vk)∧wq.cell? ⟨w.heap.size+1,2,none⟩=some (.float .f64 vx)∧wq.cell? ⟨w.heap.size+1,3,none⟩=some (.string vs)∧wq.cell? ⟨w.heap.size+1,4,none⟩=some (.bool vb)∧wq.cell? ⟨w.heap.size+1,5,none⟩=some (.int .i64 vf))):=fun wq kq=>by
  have q0:=b0.kp kq (fun x=>x)
  have q1:=b1.kp kq (fun x=>x)
  exact ⟨⟨q0.cell rfl,q0.cell rfl,q0.cell rfl,q0.cell rfl,q0.cell rfl,q0.cell rfl⟩,⟨q1.cell rfl,q1.cell rfl,q1.cell rfl,q1.cell rfl,q1.cell rfl,q1.cell rfl⟩⟩
 have HW:Hid ((w.alloc (.cells #[.int .i64 k,.int .i64 vk,.float .f64 vx,.string vs,.bool vb,.int .i64 vf,.int .i64 t.hd.k,.int .i64 t.hd.o,.float .f64 t.hd.x,.string t.hd.s,.bool t.hd.b,.int .i64 t.hd.f,.int .i64 t.hd.c1,.int .i64 t.hd.r1,.bool t.hd.p1,.bool t.hd.q1,.int .i64 t.hd.c2,.int .i64 t.hd.r2,.bool t.hd.p2,.bool t.hd.q2,sl] 46)).alloc (.cells #[.int .i64 k,.int .i64 vk,.float .f64 vx,.string vs,.bool vb,.int .i64 vf,.int .i64 t.hd.k,.int .i64 t.hd.o,.float .f64 t.hd.x,.string t.hd.s,.bool t.hd.b,.int .i64 t.hd.f,.int .i64 t.hd.c1,.int .i64 t.hd.r1,.bool t.hd.p1,.bool t.hd.q1,.int .i64 t.hd.c2,.int .i64 t.hd.r2,.bool t.hd.p2,.bool t.hd.q2,sg] 46)=W):=hW
 clear hk b0 b1
 go_enter Tryz.func19,Tryz.ntmps19
 subst hW
 go_wp2_with (first|(refine wpList_load_mid rfl 44 (.tmp 6) rfl w.heap.size 6 rfl (t.hd.cells sl) _ R0.out Tryz.underlying44 rfl infoNode ?_)|(refine wpList_load_mid rfl 44 (.tmp 8) rfl (w.heap.size+1) 6 rfl (t.hd.cells sg) _ R1.out Tryz.underlying44 rfl infoNode ?_))
 refine (HS.out _ HK.out).mono ?_
 rintro e w1 ⟨rfl,hk1⟩
 obtain ⟨⟨p0,p1,p2,p3,p4,p5⟩,⟨q0,q1,q2,q3,q4,q5⟩⟩:=HC.out w1 hk1
 have HK1:Hid (Kp w w1 Nul):=HK.out.trans hk1
 clear hk1 HC HK HS R0 R1 HW
 go_wp2_with fail
 go_quiet ((go_at_call 41;exact Calls.quiet_of_same (HB.out _)))
 go_wp2_with fail
 go_ret
 exact ⟨rfl,HK1.out.drewN _⟩
end Go.Proofs.YtlppcfeakakpfaaGreatDoor
