/- Move: asGreat, Move. Move: Move. MoveRefuses: what Copy, Clear and Fill refuse. -/
import Derived.Test.YtecjfnkakodebaaGreatDoorQvMye
set_option maxRecDepth 20000
set_option maxHeartbeats 8000000
namespace Go.Proofs.YtecjfnkakodebaaGreatDoor
open Go.RowKit Go.Maps
theorem asGreat_core (g:Nat) (A1 A2 A3 A4 t1 t2 d1 d2 c1 c2 c3 c4 E:Int) (p:Bool) (w:World)
  (hng:∀ (b:Nat) (wq:World),(binOp .eql 24 (.pointer (some ⟨b,0,none⟩)) (.pointer none)).run Tryz.prog wq=.ok (.bool false) wq)
  (HV:Hid (∀ w,Calls Tryz.prog 58 #[.agg #[.int .i64 A1,.int .i64 A2,.int .i64 A3,.int .i64 A4]] w fun e w'=>e=.returned (.bool p)∧Kp w w' Nul))
  (HM:Hid (∀ w,Calls Tryz.prog 56 #[.agg #[.int .i64 A3,.int .i64 A4],.agg #[.int .i64 A1,.int .i64 A2],.agg #[.int .i64 t1,.int .i64 t2]] w fun e w'=>e=.returned (.agg #[.int .i64 d1,.int .i64 d2])∧Kp w w' Nul))
  (HA:Hid (∀ w,Calls Tryz.prog 96 #[.agg #[.int .i64 t1,.int .i64 t2],.agg #[.int .i64 d1,.int .i64 d2]] w fun e w'=>e=.returned (.tuple #[.agg #[.int .i64 c1,.int .i64 c2,.int .i64 c3,.int .i64 c4],.int .i64 E])∧Kp w w' Nul)) :
  Calls Tryz.prog 52 #[.pointer (some ⟨g,0,none⟩),.agg #[.int .i64 A1,.int .i64 A2,.int .i64 A3,.int .i64 A4],.agg #[.int .i64 t1,.int .i64 t2]] w fun e w'=>e=.returned (if p then .tuple #[.agg #[.int .i64 c1,.int .i64 c2,.int .i64 c3,.int .i64 c4],.int .i64 E] else .tuple #[.agg #[.int .i64 0,.int .i64 0,.int .i64 0,.int .i64 0],.int .i64 1])∧Kp w w' Nul:=by
 obtain ⟨W,hW⟩:∃ W,((w.alloc (.cells #[.int .i64 A1,.int .i64 A2,.int .i64 A3,.int .i64 A4] 34)).alloc (.cells #[.int .i64 t1,.int .i64 t2] 32)).alloc (.cells #[.int .i64 0,.int .i64 0,.int .i64 0,.int .i64 0] 34)=W:=⟨_,rfl⟩
 have HW:Hid (((w.alloc (.cells #[.int .i64 A1,.int .i64 A2,.int .i64 A3,.int .i64 A4] 34)).alloc (.cells #[.int .i64 t1,.int .i64 t2] 32)).alloc (.cells #[.int .i64 0,.int .i64 0,.int .i64 0,.int .i64 0] 34)=W):=hW
 have kW:Hid (Kp w W Nul):=by show Kp _ _ _;rw [← hW];exact (((Kp.refl w Nul).alloc _).alloc _).alloc _
 have HB0:Hid (Blk W w.heap.size [.int .i64 A1,.int .i64 A2,.int .i64 A3,.int .i64 A4] 34):=by show Blk _ _ _ _;rw [← hW];exact ((Blk.new w _ _).alloc _).alloc _
 have HB1:Hid (Blk W (w.heap.size+1) [.int .i64 t1,.int .i64 t2] 32):=by show Blk _ _ _ _;rw [← hW];exact (blk2 (cs:=[.int .i64 t1,.int .i64 t2])).alloc _
 have HB2:Hid (Blk W (w.heap.size+1+1) [.int .i64 0,.int .i64 0,.int .i64 0,.int .i64 0] 34):=by show Blk _ _ _ _;rw [← hW];exact blk3
 clear hW
 go_enter Tryz.func52,Tryz.ntmps52
 go_wp2_with fail
 rw [HW.out]
 clear HW
 refine (HV.out W).mono ?_
 rintro e w1 ⟨rfl,hk1⟩
 have K1:Hid (Kp W w1 Nul):=hk1
 clear hk1
 cases p
 ·have HB2':Hid (Blk w1 (w.heap.size+1+1) [.int .i64 0,.int .i64 0,.int .i64 0,.int .i64 0] 34):=HB2.out.kp K1.out (fun x=>x)
  go_wp2_with (first|(refine wpList_store_blk rfl 34 (.tmp 6) (.tmp 15) rfl (w.heap.size+1+1) _ [.int .i64 0,.int .i64 0,.int .i64 0,.int .i64 0] _ HB2'.out rfl rfl rfl infoArea (ints4 _ _ _ _) ?_;intro Y hbY hkY)|fail)
  refine bodyPost_ret (results_row_tmp rfl _ _ (w.heap.size+1+1) 34 _ (0,0) _ rfl hbY Tryz.underlying34 rfl infoArea) rfl ?_
  exact ⟨rfl,(kW.out.trans K1.out).trans' hkY (fun i hi e=>by have e':i=w.heap.size+1+1:=e;omega)⟩
 ·go_wp2_with fail
  have HS0:Hid (∀ wq,Kp W wq (fun i=>i=(w.heap.size+1+1))→Blk wq w.heap.size [.int .i64 A1,.int .i64 A2,.int .i64 A3,.int .i64 A4] 34):=fun wq k=>HB0.out.kp k (fun e=>by have e':w.heap.size=w.heap.size+1+1:=e;omega)
  have HS1:Hid (∀ wq,Kp W wq (fun i=>i=(w.heap.size+1+1))→Blk wq (w.heap.size+1) [.int .i64 t1,.int .i64 t2] 32):=fun wq k=>HB1.out.kp k (fun e=>by have e':w.heap.size+1=w.heap.size+1+1:=e;omega)
  clear HV
  refine wp_region_hel (fun w':World=>Kp W w' (fun i=>i=(w.heap.size+1+1))) (by kernel_rfl) (K1.out.of_nul.drew) (fun hHeld=>?_)
  refine wpH_takes (i:=0) (v:=.agg #[.int .i64 t1,.int .i64 t2]) (some 16) rfl rfl (by kernel_rfl) (by kernel_rfl) (by kernel_rfl) (fun _ _ _ h=>h) (Or.inl ⟨by rfl,fun w' hSw=>exec_load_row 32 (.tmp 5) rfl (w.heap.size+1) 0 rfl [.int .i64 t1,.int .i64 t2] _ (rangeAt_blk (HS1.out w' hSw)) Tryz.underlying32 rfl infoAddr2'⟩) hHeld ?_
  simp only [Act.put,List.setIfInBounds_toArray,List.set_cons_zero,List.set_cons_succ]
  refine wpH_takes (i:=1) (v:=.pointer (some ⟨w.heap.size,2,none⟩)) (some 17) rfl rfl (by kernel_rfl) (by kernel_rfl) (by kernel_rfl) (fun _ _ _ h=>h) (Or.inl ⟨by rfl,?_⟩) hHeld ?_
  ·intro w' hSw;clear hSw;go_simp
  simp only [Act.put,List.setIfInBounds_toArray,List.set_cons_zero,List.set_cons_succ]
  refine wpH_takes (i:=2) (v:=.agg #[.int .i64 A3,.int .i64 A4]) (some 18) rfl rfl (by kernel_rfl) (by kernel_rfl) (by kernel_rfl) (fun _ _ _ h=>h) (Or.inl ⟨by rfl,fun w' hSw=>exec_load_row 32 (.tmp 17) rfl w.heap.size 2 rfl [.int .i64 A3,.int .i64 A4] _ (row_hi (HS0.out w' hSw)) Tryz.underlying32 rfl infoAddr2'⟩) hHeld ?_
  simp only [Act.put,List.setIfInBounds_toArray,List.set_cons_zero,List.set_cons_succ]
  refine wpH_takes (i:=3) (v:=.pointer (some ⟨w.heap.size,0,none⟩)) (some 19) rfl rfl (by kernel_rfl) (by kernel_rfl) (by kernel_rfl) (fun _ _ _ h=>h) (Or.inl ⟨by rfl,?_⟩) hHeld ?_
  ·intro w' hSw;clear hSw;go_simp
  simp only [Act.put,List.setIfInBounds_toArray,List.set_cons_zero,List.set_cons_succ]
  refine wpH_takes (i:=4) (v:=.agg #[.int .i64 A1,.int .i64 A2]) (some 20) rfl rfl (by kernel_rfl) (by kernel_rfl) (by kernel_rfl) (fun _ _ _ h=>h) (Or.inl ⟨by rfl,fun w' hSw=>exec_load_row 32 (.tmp 19) rfl w.heap.size 0 rfl [.int .i64 A1,.int .i64 A2] _ (row_lo (HS0.out w' hSw)) Tryz.underlying32 rfl infoAddr2'⟩) hHeld ?_
  simp only [Act.put,List.setIfInBounds_toArray,List.set_cons_zero,List.set_cons_succ]
  refine wpH_takes (i:=5) (v:=.agg #[.int .i64 t1,.int .i64 t2]) (some 21) rfl rfl (by kernel_rfl) (by kernel_rfl) (by kernel_rfl) (fun _ _ _ h=>h) (Or.inl ⟨by rfl,fun w' hSw=>exec_load_row 32 (.tmp 5) rfl (w.heap.size+1) 0 rfl [.int .i64 t1,.int .i64 t2] _ (rangeAt_blk (HS1.out w' hSw)) Tryz.underlying32 rfl infoAddr2'⟩) hHeld ?_
  simp only [Act.put,List.setIfInBounds_toArray,List.set_cons_zero,List.set_cons_succ]
  refine wpH_step (i:=6) (by kernel_rfl) rfl rfl (fun K hK=>?_)
  go_simp
  refine (HM.out _).mono ?_
  rintro e v1 ⟨rfl,hk2⟩
  have L1:Hid (Kp W v1 Nul):=K1.out.drew.trans hk2
  refine hK.out _ _ L1.out.of_nul (fun hHeld=>?_)
  clear hK K hk2
  (try simp only [Act.put,List.setIfInBounds_toArray,List.set_cons_zero,List.set_cons_succ])
  refine wpH_step (i:=7) (by kernel_rfl) rfl rfl (fun K hK=>?_)
  go_simp
  refine (HA.out _).mono ?_
  rintro e v2 ⟨rfl,hk2⟩
  have L2:Hid (Kp W v2 Nul):=L1.out.trans hk2
  refine hK.out _ _ L2.out.of_nul (fun hHeld=>?_)
  clear hK K hk2
  (try simp only [Act.put,List.setIfInBounds_toArray,List.set_cons_zero,List.set_cons_succ])
  refine wpH_takes (i:=8) (v:=.agg #[.int .i64 c1,.int .i64 c2,.int .i64 c3,.int .i64 c4]) (some 24) rfl rfl (by kernel_rfl) (by kernel_rfl) (by kernel_rfl) (fun _ _ _ h=>h) (Or.inl ⟨by rfl,?_⟩) hHeld ?_
  ·intro w' hSw;clear hSw;go_simp
  simp only [Act.put,List.setIfInBounds_toArray,List.set_cons_zero,List.set_cons_succ]
  refine wpH_takes (i:=9) (v:=.int .i64 E) (some 25) rfl rfl (by kernel_rfl) (by kernel_rfl) (by kernel_rfl) (fun _ _ _ h=>h) (Or.inl ⟨by rfl,?_⟩) hHeld ?_
  ·intro w' hSw;clear hSw;go_simp
  simp only [Act.put,List.setIfInBounds_toArray,List.set_cons_zero,List.set_cons_succ]
  have HB2':Hid (Blk v2 (w.heap.size+1+1) [.int .i64 0,.int .i64 0,.int .i64 0,.int .i64 0] 34):=HB2.out.kp L2.out (fun x=>x)
  refine wpH_step (i:=10) (by kernel_rfl) rfl rfl (fun K hK=>?_)
  refine wp_store_blk 34 (.tmp 6) (.tmp 24) rfl (w.heap.size+1+1) _ [.int .i64 c1,.int .i64 c2,.int .i64 c3,.int .i64 c4] _ HB2'.out rfl rfl rfl infoArea (ints4 _ _ _ _) ?_
  intro Y hbY hkY
  have LY:Hid (Kp W Y (fun i=>i=(w.heap.size+1+1))):=L2.out.of_nul.trans hkY
  refine hK.out _ _ LY.out (fun hHeld=>?_)
  clear hK K
  (try simp only [Act.put])
  refine wpH_step (i:=11) (by kernel_rfl) rfl rfl (fun K hK=>?_)
  go_simp
  refine hK.out _ _ LY.out (fun hHeld=>?_)
  clear hK K
  (try simp only [Act.put,List.setIfInBounds_toArray,List.set_cons_zero,List.set_cons_succ])
  refine wpAnyH_done (by kernel_rfl) ?_ _
  go_wp2_with fail
  refine bodyPost_ret (results_row_tmp rfl _ _ (w.heap.size+1+1) 34 _ (0,0) _ rfl hbY Tryz.underlying34 rfl infoArea) rfl ?_
  exact ⟨rfl,kW.out.trans' LY.out (fun i hi e=>by have e':i=w.heap.size+1+1:=e;omega)⟩
def mvTo (A:Ar4) (t:Int×Int):Ar4:=(t,(A.2.1+t.1 - A.1.1,A.2.2+t.2 - A.1.2))
def fits (A:Ar4) (t:Int×Int):Bool:=Ar4.ok (mvTo A t)
theorem fits_ok {A:Ar4} {t:Int×Int} (h:Ar4.ok A=true) (hf:fits A t=true):mvOk A (mvTo A t):=⟨h,hf,by unfold mvTo;simp only;omega,by unfold mvTo;simp only;omega⟩
theorem fits_eq {A:Ar4} {t:Int×Int} (h:Ar4.ok A=true):(vC t.1 t.2 && vC (mvd A.2.1 t.1 A.1.1) (mvd A.2.2 t.2 A.1.2))=fits A t:=by
 have hA:=(ar_ok A).1 h
 by_cases ht:vC t.1 t.2=true
 ·have ht':=ht
  rw [vC_iff] at ht'
  rw [mvd_val (by unfold I64;omega),mvd_val (by unfold I64;omega),Bool.eq_iff_iff]
  unfold fits
  rw [ar_ok,Bool.and_eq_true,vC_iff,vC_iff]
  unfold mvTo
  simp only
  omega
 ·have:vC t.1 t.2=false:=by simpa using ht
  rw [this,Bool.false_and]
  symm
  rw [Bool.eq_false_iff]
  intro hf
  unfold fits at hf
  rw [ar_ok] at hf
  rw [vC_iff] at ht
  unfold mvTo at hf
  simp only at hf
  omega
def agV (A:Ar4) (t:Int×Int):Value:=if Ar4.ok A=true then (if fits A t=true then .tuple #[.agg #[.int .i64 (mvTo A t).1.1,.int .i64 (mvTo A t).1.2,.int .i64 (mvTo A t).2.1,.int .i64 (mvTo A t).2.2],.int .i64 0] else .tuple #[.agg #[.int .i64 0,.int .i64 0,.int .i64 0,.int .i64 0],.int .i64 20]) else .tuple #[.agg #[.int .i64 0,.int .i64 0,.int .i64 0,.int .i64 0],.int .i64 1]
theorem nil_ptr' (g:Nat) (w:World):(binOp .eql 24 (.pointer (some ⟨g,0,none⟩)) (.pointer none)).run Tryz.prog w=.ok (.bool false) w:=by
 simp [go_sem]
theorem asGreat_at (g:Nat) (A:Ar4) (t:Int×Int) (w:World) :
  Calls Tryz.prog 52 #[.pointer (some ⟨g,0,none⟩),.agg #[.int .i64 A.1.1,.int .i64 A.1.2,.int .i64 A.2.1,.int .i64 A.2.2],.agg #[.int .i64 t.1,.int .i64 t.2]] w fun e w'=>e=.returned (agV A t)∧Kp w w' Nul:=by
 have hV:∀ w,Calls Tryz.prog 58 #[.agg #[.int .i64 A.1.1,.int .i64 A.1.2,.int .i64 A.2.1,.int .i64 A.2.2]] w fun e w'=>e=.returned (.bool (Ar4.ok A))∧Kp w w' Nul:=fun w=>(pValidArea_any A.1.1 A.1.2 A.2.1 A.2.2 w).mono fun e w' h=>⟨h.1,Kp.of_gr h.2⟩
 have hM:=moved_at A.2.1 A.2.2 A.1.1 A.1.2 t.1 t.2
 have hA:∃ c1 c2 c3 c4 E:Int,(∀ w,Calls Tryz.prog 96 #[.agg #[.int .i64 t.1,.int .i64 t.2],.agg #[.int .i64 (mvd A.2.1 t.1 A.1.1),.int .i64 (mvd A.2.2 t.2 A.1.2)]] w fun e w'=>e=.returned (.tuple #[.agg #[.int .i64 c1,.int .i64 c2,.int .i64 c3,.int .i64 c4],.int .i64 E])∧Kp w w' Nul)∧(Ar4.ok A=true → .tuple #[.agg #[.int .i64 c1,.int .i64 c2,.int .i64 c3,.int .i64 c4],.int .i64 E]=agV A t):=by
  have h0:=fun w=>pArea_any t.1 t.2 (mvd A.2.1 t.1 A.1.1) (mvd A.2.2 t.2 A.1.2) w
  unfold arV arE areaV at h0
  by_cases q:(vC t.1 t.2 && vC (mvd A.2.1 t.1 A.1.1) (mvd A.2.2 t.2 A.1.2))=true
  ·simp only [q,if_true] at h0
   refine ⟨_,_,_,_,_,fun w=>(h0 w).mono fun e w' h=>⟨h.1,Kp.of_gr h.2⟩,fun hok=>?_⟩
   have hf:=q
   rw [fits_eq hok] at hf
   unfold agV
   rw [if_pos hok,if_pos hf]
   have hA:=(ar_ok A).1 hok
   have q':=q
   rw [Bool.and_eq_true,vC_iff,vC_iff] at q'
   have e1:mvd A.2.1 t.1 A.1.1=A.2.1+t.1 - A.1.1:=mvd_val (by unfold I64;omega)
   have e2:mvd A.2.2 t.2 A.1.2=A.2.2+t.2 - A.1.2:=mvd_val (by unfold I64;omega)
   rw [e1,e2]
   unfold mvTo
   simp only
   rw [show min t.1 (A.2.1+t.1 - A.1.1)=t.1 by omega,show min t.2 (A.2.2+t.2 - A.1.2)=t.2 by omega,show max t.1 (A.2.1+t.1 - A.1.1)=A.2.1+t.1 - A.1.1 by omega,show max t.2 (A.2.2+t.2 - A.1.2)=A.2.2+t.2 - A.1.2 by omega]
  ·have q0:(vC t.1 t.2 && vC (mvd A.2.1 t.1 A.1.1) (mvd A.2.2 t.2 A.1.2))=false:=by simpa using q
   simp only [q0,Bool.false_eq_true,if_false] at h0
   refine ⟨_,_,_,_,_,fun w=>(h0 w).mono fun e w' h=>⟨h.1,Kp.of_gr h.2⟩,fun hok=>?_⟩
   rw [fits_eq hok] at q0
   unfold agV
   rw [if_pos hok,if_neg (by rw [q0];decide)]
 obtain ⟨c1,c2,c3,c4,E,hA1,hA2⟩:=hA
 refine (asGreat_core g _ _ _ _ _ _ _ _ c1 c2 c3 c4 E (Ar4.ok A) w nil_ptr' hV hM hA1).mono fun e w' h=>⟨h.1.trans ?_,h.2⟩
 cases hok:Ar4.ok A with
 | true=>rw [← hA2 hok];rfl
 | false=>unfold agV;rw [hok];rfl
inductive MvR (A:Ar4) (t:Int×Int) (L:List Cc) (w w':World):Value→Prop
 | bad (h:¬ Ar4.ok A=true) (k:Kp w w' Nul):MvR A t L w w' (.tuple #[.pointer none,.int .i64 1])
 | off (h:Ar4.ok A=true) (hf:¬ fits A t=true) (k:Kp w w' Nul):MvR A t L w w' (.tuple #[.pointer none,.int .i64 20])
 | ok (h:Ar4.ok A=true) (hf:fits A t=true) (g2:Nat) (M:List Cc) (hb:BrR (mvF A (mvTo A t)) L w w' g2 M):MvR A t L w w' (.tuple #[.pointer (some ⟨g2,0,none⟩),.int .i64 0])
theorem move_no (g:Nat) (A1 A2 A3 A4 t1 t2 E:Int) (w:World) (hE:¬ E=0)
  (HG:Hid (∀ w,Calls Tryz.prog 52 #[.pointer (some ⟨g,0,none⟩),.agg #[.int .i64 A1,.int .i64 A2,.int .i64 A3,.int .i64 A4],.agg #[.int .i64 t1,.int .i64 t2]] w fun e w'=>e=.returned (.tuple #[.agg #[.int .i64 0,.int .i64 0,.int .i64 0,.int .i64 0],.int .i64 E])∧Kp w w' Nul)) :
  Calls Tryz.prog 29 #[.pointer (some ⟨g,0,none⟩),.agg #[.int .i64 A1,.int .i64 A2,.int .i64 A3,.int .i64 A4],.agg #[.int .i64 t1,.int .i64 t2]] w fun e w'=>e=.returned (.tuple #[.pointer none,.int .i64 E])∧Kp w w' Nul:=by
 have kW:Hid (∀ a b,Kp w ((w.alloc a).alloc b) Nul):=fun a b=>((Kp.refl w Nul).alloc _).alloc _
 go_enter Tryz.func29,Tryz.ntmps29
 go_wp2_with fail
 refine (HG.out _).mono ?_
 rintro e w1 ⟨rfl,hk1⟩
 have K1:Hid (Kp w w1 Nul):=(kW.out _ _).trans hk1
 clear hk1
 go_wp2_with fail
 go_ret2
 first
 | exact ⟨rfl,K1.out.alloc _⟩
 | exact K1.out.alloc _
theorem move_yes (g:Nat) (A1 A2 A3 A4 B1 B2 B3 B4 t1 t2:Int) (L:List Cc) (w:World) (lo:Bool) (f:Fate)
  (HG:Hid (∀ w,Calls Tryz.prog 52 #[.pointer (some ⟨g,0,none⟩),.agg #[.int .i64 A1,.int .i64 A2,.int .i64 A3,.int .i64 A4],.agg #[.int .i64 t1,.int .i64 t2]] w fun e w'=>e=.returned (.tuple #[.agg #[.int .i64 B1,.int .i64 B2,.int .i64 B3,.int .i64 B4],.int .i64 0])∧Kp w w' Nul))
  (HB:Hid (∀ xf xt wq,Kp w wq Nul→MvIn wq xf xt ((A1,A2),(A3,A4)) ((B1,B2),(B3,B4))→Calls Tryz.prog 64 #[.agg #[fateM xf xt],.pointer (some ⟨g,0,none⟩)] wq fun e w'=>∃ g2 M,e=.returned (.tuple #[.pointer (some ⟨g2,0,none⟩),.bool lo])∧BrR f L wq w' g2 M)) :
  Calls Tryz.prog 29 #[.pointer (some ⟨g,0,none⟩),.agg #[.int .i64 A1,.int .i64 A2,.int .i64 A3,.int .i64 A4],.agg #[.int .i64 t1,.int .i64 t2]] w fun e w'=>∃ g2 M,e=.returned (.tuple #[.pointer (some ⟨g2,0,none⟩),.int .i64 0])∧BrR f L w w' g2 M:=by
 have HO:Hid (∀ w,Calls Tryz.prog 63 #[.agg #[.int .i64 A1,.int .i64 A2,.int .i64 A3,.int .i64 A4],.agg #[.int .i64 B1,.int .i64 B2,.int .i64 B3,.int .i64 B4]] w fun e w'=>∃ xf xt,e=.returned (.agg #[fateM xf xt])∧MvIn w' xf xt ((A1,A2),(A3,A4)) ((B1,B2),(B3,B4))∧Kp w w' Nul):=fun w=>ofMove_at A1 A2 A3 A4 B1 B2 B3 B4 w
 have HBR:Hid (∀ wq w' g2 M,Kp w wq Nul→BrR f L wq w' g2 M→BrR f L w w' g2 M):=fun wq w' g2 M k h=>⟨h.gi.mono (fun i hi=>Nat.le_trans k.size hi),h.ok,h.mem,Nat.le_trans k.size h.lo,k.trans h.kp⟩
 obtain ⟨W,hW⟩:∃ W,(w.alloc (.cells #[.int .i64 A1,.int .i64 A2,.int .i64 A3,.int .i64 A4] 34)).alloc (.cells #[.int .i64 t1,.int .i64 t2] 32)=W:=⟨_,rfl⟩
 have HW:Hid ((w.alloc (.cells #[.int .i64 A1,.int .i64 A2,.int .i64 A3,.int .i64 A4] 34)).alloc (.cells #[.int .i64 t1,.int .i64 t2] 32)=W):=hW
 have kW:Hid (Kp w W Nul):=by show Kp _ _ _;rw [← hW];exact ((Kp.refl w Nul).alloc _).alloc _
 have HB0:Hid (Blk W w.heap.size [.int .i64 A1,.int .i64 A2,.int .i64 A3,.int .i64 A4] 34):=by show Blk _ _ _ _;rw [← hW];exact (Blk.new w _ _).alloc _
 clear hW
 go_enter Tryz.func29,Tryz.ntmps29
 go_wp2_with fail
 rw [HW.out]
 clear HW
 refine (HG.out _).mono ?_
 rintro e w1 ⟨rfl,hk1⟩
 have K1:Hid (Kp W w1 Nul):=hk1
 obtain ⟨W1,hW1⟩:∃ W1,w1.alloc (.cells #[.int .i64 B1,.int .i64 B2,.int .i64 B3,.int .i64 B4] 34)=W1:=⟨_,rfl⟩
 have HW1:Hid (w1.alloc (.cells #[.int .i64 B1,.int .i64 B2,.int .i64 B3,.int .i64 B4] 34)=W1):=hW1
 have KW1:Hid (Kp w W1 Nul):=by show Kp _ _ _;rw [← hW1];exact (kW.out.trans hk1).alloc _
 have d0:(w1.alloc (.cells #[.int .i64 B1,.int .i64 B2,.int .i64 B3,.int .i64 B4] 34)).cell? ⟨w.heap.size,0,none⟩=some (.int .i64 A1):=(HB0.out.kp (hk1.alloc _) (fun x=>x)).cell rfl
 have d1:(w1.alloc (.cells #[.int .i64 B1,.int .i64 B2,.int .i64 B3,.int .i64 B4] 34)).cell? ⟨w.heap.size,1,none⟩=some (.int .i64 A2):=(HB0.out.kp (hk1.alloc _) (fun x=>x)).cell rfl
 have d2:(w1.alloc (.cells #[.int .i64 B1,.int .i64 B2,.int .i64 B3,.int .i64 B4] 34)).cell? ⟨w.heap.size,2,none⟩=some (.int .i64 A3):=(HB0.out.kp (hk1.alloc _) (fun x=>x)).cell rfl
 have d3:(w1.alloc (.cells #[.int .i64 B1,.int .i64 B2,.int .i64 B3,.int .i64 B4] 34)).cell? ⟨w.heap.size,3,none⟩=some (.int .i64 A4):=(HB0.out.kp (hk1.alloc _) (fun x=>x)).cell rfl
 clear hk1 hW1
 go_wp2_with fail
 rw [HW1.out] at d0 d1 d2 d3 ⊢
 clear HW1 d0 d1 d2 d3
 refine (HO.out _).mono ?_
 rintro e w2 ⟨xf,xt,rfl,hin,hk2⟩
 have K2:Hid (Kp w w2 Nul):=KW1.out.trans hk2
 have HIn:Hid (MvIn w2 xf xt ((A1,A2),(A3,A4)) ((B1,B2),(B3,B4))):=hin
 clear hk2 hin HO
 go_wp2_with fail
 refine (HB.out xf xt _ K2.out HIn.out).mono ?_
 rintro e w3 ⟨g2,M,rfl,hbr⟩
 have HBr:Hid (BrR f L w w3 g2 M):=HBR.out _ w3 g2 M K2.out hbr
 clear hbr HB HBR
 go_wp2_with fail
 go_ret2
 first
 | exact ⟨g2,M,rfl,HBr.out⟩
 | exact ⟨M,HBr.out⟩
theorem move_at (g:Nat) (L:List Cc) (A:Ar4) (t:Int×Int) (w:World) (hg:GI 0 w g L) (hL:Ok17 L) (hv:VS w) :
  Calls Tryz.prog 29 #[.pointer (some ⟨g,0,none⟩),.agg #[.int .i64 A.1.1,.int .i64 A.1.2,.int .i64 A.2.1,.int .i64 A.2.2],.agg #[.int .i64 t.1,.int .i64 t.2]] w fun e w'=>∃ v u,e=.returned (.tuple #[v,u])∧MvR A t L w w' (.tuple #[v,u]):=by
 have hG:=fun w=>asGreat_at g A t w
 unfold agV at hG
 by_cases hA:Ar4.ok A=true
 ·simp only [if_pos hA] at hG
  by_cases hf:fits A t=true
  ·simp only [if_pos hf] at hG
   refine (move_yes g _ _ _ _ _ _ _ _ _ _ L w (lostB (mvF A (mvTo A t)) L) (mvF A (mvTo A t)) hG (fun xf xt wq k hin=>OfM.brought_at xf xt A (mvTo A t) (fits_ok hA hf) g L wq (hg.kp k) hL hin (hv.kp k))).mono ?_
   rintro e w' ⟨g2,M,rfl,hb⟩
   exact ⟨_,_,rfl,.ok hA hf g2 M hb⟩
  ·simp only [if_neg hf] at hG
   refine (move_no g _ _ _ _ _ _ 20 w (by decide) hG).mono ?_
   rintro e w' ⟨rfl,k⟩
   exact ⟨_,_,rfl,.off hA hf k⟩
 ·simp only [if_neg hA] at hG
  refine (move_no g _ _ _ _ _ _ 1 w (by decide) hG).mono ?_
  rintro e w' ⟨rfl,k⟩
  exact ⟨_,_,rfl,.bad hA k⟩
#print axioms move_at
theorem clear_no (g:Nat) (A1 A2 A3 A4:Int) (w:World)
  (hng:∀ (b:Nat) (wq:World),(binOp .eql 24 (.pointer (some ⟨b,0,none⟩)) (.pointer none)).run Tryz.prog wq=.ok (.bool false) wq)
  (HV:Hid (∀ w,Calls Tryz.prog 58 #[.agg #[.int .i64 A1,.int .i64 A2,.int .i64 A3,.int .i64 A4]] w fun e w'=>e=.returned (.bool false)∧Kp w w' Nul)) :
  Calls Tryz.prog 23 #[.pointer (some ⟨g,0,none⟩),.agg #[.int .i64 A1,.int .i64 A2,.int .i64 A3,.int .i64 A4]] w fun e w'=>e=.returned (.tuple #[.pointer none,.int .i64 1])∧Kp w w' Nul:=by
 have kW:Hid (∀ a,Kp w (w.alloc a) Nul):=fun a=>(Kp.refl w Nul).alloc _
 go_enter Tryz.func23,Tryz.ntmps23
 go_wp2_with fail
 refine (HV.out _).mono ?_
 rintro e w1 ⟨rfl,hk1⟩
 have K1:Hid (Kp w w1 Nul):=(kW.out _).trans hk1
 clear hk1
 go_wp2_with fail
 go_ret2
 first
 | exact ⟨rfl,K1.out⟩
 | exact K1.out
theorem blkN {X:World} {n:Nat} (hn:X.heap.size=n) (cs:List Value) (t:TypeId):Blk (X.alloc (.cells cs.toArray t)) n cs t:=hn ▸ Blk.new X cs t
theorem results_vars {P:Program} {fn:Func} {p q:Tmp} {ty tz:TypeId} (h:fn.results=#[.cell p ty,.cell q tz]) (tmps:Array Value) (w:World) (a b:Nat) (v u:Value)
  (hp:tmps.getD p undef=.pointer (some ⟨a,0,none⟩)) (hq:tmps.getD q undef=.pointer (some ⟨b,0,none⟩)) (hv:(loadVar ty ⟨a,0,none⟩).run P w=.ok v w) (hu:(loadVar tz ⟨b,0,none⟩).run P w=.ok u w) :
  (results fn tmps).run P w=.ok (.tuple #[v,u]) w:=by
 have hp':tmps[p]?.getD undef=.pointer (some ⟨a,0,none⟩):=by simpa using hp
 have hq':tmps[q]?.getD undef=.pointer (some ⟨b,0,none⟩):=by simpa using hq
 simp [results,h,hp',hq',asAddr,hv,hu]
theorem copy_no (g:Nat) (A1 A2 A3 A4 t1 t2 E:Int) (w:World) (hE:¬ E=0)
  (HG:Hid (∀ w,Calls Tryz.prog 52 #[.pointer (some ⟨g,0,none⟩),.agg #[.int .i64 A1,.int .i64 A2,.int .i64 A3,.int .i64 A4],.agg #[.int .i64 t1,.int .i64 t2]] w fun e w'=>e=.returned (.tuple #[.agg #[.int .i64 0,.int .i64 0,.int .i64 0,.int .i64 0],.int .i64 E])∧Kp w w' Nul)) :
  Calls Tryz.prog 16 #[.pointer (some ⟨g,0,none⟩),.agg #[.int .i64 A1,.int .i64 A2,.int .i64 A3,.int .i64 A4],.agg #[.int .i64 t1,.int .i64 t2]] w fun e w'=>e=.returned (.tuple #[.pointer none,.int .i64 E])∧Kp w w' Nul:=by
 obtain ⟨W,hW⟩:∃ W,(((w.alloc (.cells #[.int .i64 A1,.int .i64 A2,.int .i64 A3,.int .i64 A4] 34)).alloc (.cells #[.int .i64 t1,.int .i64 t2] 32)).alloc (.cells #[.pointer none] 24)).alloc (.cells #[.int .i64 0] 39)=W:=⟨_,rfl⟩
 have HW:Hid ((((w.alloc (.cells #[.int .i64 A1,.int .i64 A2,.int .i64 A3,.int .i64 A4] 34)).alloc (.cells #[.int .i64 t1,.int .i64 t2] 32)).alloc (.cells #[.pointer none] 24)).alloc (.cells #[.int .i64 0] 39)=W):=hW
 have kW:Hid (Kp w W Nul):=by show Kp _ _ _;rw [← hW];exact ((((Kp.refl w Nul).alloc _).alloc _).alloc _).alloc _
 have HB2:Hid (Blk W (w.heap.size+1+1) [.pointer none] 24):=by show Blk _ _ _ _;rw [← hW];exact (blkN (by simp) [.pointer none] _).alloc _
 have HB3:Hid (Blk W (w.heap.size+1+1+1) [.int .i64 0] 39):=by show Blk _ _ _ _;rw [← hW];exact blkN (by simp) [.int .i64 0] _
 clear hW
 go_enter Tryz.func16,Tryz.ntmps16
 go_wp2_with fail
 rw [HW.out]
 clear HW
 refine (HG.out _).mono ?_
 rintro e w1 ⟨rfl,hk1⟩
 have K1:Hid (Kp w (w1.alloc (.cells #[.int .i64 0,.int .i64 0,.int .i64 0,.int .i64 0] 34)) Nul):=kW.out.trans (hk1.alloc _)
 have HC2:Hid (Blk (w1.alloc (.cells #[.int .i64 0,.int .i64 0,.int .i64 0,.int .i64 0] 34)) (w.heap.size+1+1) [.pointer none] 24):=HB2.out.kp (hk1.alloc _) (fun x=>x)
 have HC3:Hid (∀ Y,Kp (w1.alloc (.cells #[.int .i64 0,.int .i64 0,.int .i64 0,.int .i64 0] 34)) Y (fun i=>i=w.heap.size+1+1)→Blk Y (w.heap.size+1+1+1) [.int .i64 0] 39):=fun Y k=>(HB3.out.kp (hk1.alloc _) (fun x=>x)).kp k (fun e=>by have e':w.heap.size+1+1+1=w.heap.size+1+1:=e;omega)
 clear hk1 HB2 HB3
 go_wp2_with (first
  | (refine wpList_store_var rfl 24 (.tmp 6) (.const (.pointer none)) rfl (w.heap.size+1+1) rfl (.pointer none) rfl rfl 24 _ HC2.out (by kernel_rfl) ?_;intro Y hbY hkY;have HD2:Hid (Blk Y (w.heap.size+1+1) [.pointer none] 24):=hbY;have HD3:=HC3.out Y hkY;have KY:Hid (Kp w Y Nul):=K1.out.trans' hkY (fun i hi e=>by have e':i=w.heap.size+1+1:=e;omega);clear hbY hkY HC2)
  | (refine wpList_store_var rfl 39 (.tmp 7) (.tmp 23) rfl (w.heap.size+1+1+1) rfl (.int .i64 E) rfl rfl 39 _ HD3 (by kernel_rfl) ?_;intro Y2 hb2 hk2)
  | fail)
 have c1:Y2.cell? ⟨w.heap.size+1+1,0,none⟩=some (.pointer none):=(HD2.out.kp hk2 (fun e=>by have e':w.heap.size+1+1=w.heap.size+1+1+1:=e;omega)).cell rfl
 have c2:Y2.cell? ⟨w.heap.size+1+1+1,0,none⟩=some (.int .i64 E):=hb2.cell rfl
 refine bodyPost_ret (results_vars rfl _ _ (w.heap.size+1+1) (w.heap.size+1+1+1) (.pointer none) (.int .i64 E) rfl rfl ?_ ?_) rfl ?_
 ·clear c2 hb2 hk2;go_simp
 ·clear c1 hb2 hk2;go_simp
 ·exact ⟨rfl,KY.out.trans' hk2 (fun i hi e=>by have e':i=w.heap.size+1+1+1:=e;omega)⟩
theorem fill_no (g:Nat) (A1 A2 A3 A4 t1 t2:Int) (q:Bool) (w:World)
  (hng:∀ (b:Nat) (wq:World),(binOp .eql 24 (.pointer (some ⟨b,0,none⟩)) (.pointer none)).run Tryz.prog wq=.ok (.bool false) wq)
  (HV:Hid (∀ w,Calls Tryz.prog 58 #[.agg #[.int .i64 A1,.int .i64 A2,.int .i64 A3,.int .i64 A4]] w fun e w'=>e=.returned (.bool q)∧Kp w w' Nul))
  (HU:Hid (q=true→∀ w,Calls Tryz.prog 44 #[.agg #[.int .i64 t1,.int .i64 t2]] w fun e w'=>e=.returned (.bool false)∧Kp w w' Nul)) :
  Calls Tryz.prog 22 #[.pointer (some ⟨g,0,none⟩),.agg #[.int .i64 t1,.int .i64 t2],.agg #[.int .i64 A1,.int .i64 A2,.int .i64 A3,.int .i64 A4]] w fun e w'=>e=.returned (.tuple #[.pointer none,.int .i64 (if q=true then 20 else 1)])∧Kp w w' Nul:=by
 obtain ⟨W,hW⟩:∃ W,(((w.alloc (.cells #[.int .i64 t1,.int .i64 t2] 32)).alloc (.cells #[.int .i64 A1,.int .i64 A2,.int .i64 A3,.int .i64 A4] 34)).alloc (.cells #[.pointer none] 24)).alloc (.cells #[.int .i64 0] 39)=W:=⟨_,rfl⟩
 have HW:Hid ((((w.alloc (.cells #[.int .i64 t1,.int .i64 t2] 32)).alloc (.cells #[.int .i64 A1,.int .i64 A2,.int .i64 A3,.int .i64 A4] 34)).alloc (.cells #[.pointer none] 24)).alloc (.cells #[.int .i64 0] 39)=W):=hW
 have kW:Hid (Kp w W Nul):=by show Kp _ _ _;rw [← hW];exact ((((Kp.refl w Nul).alloc _).alloc _).alloc _).alloc _
 have HB0:Hid (Blk W w.heap.size [.int .i64 t1,.int .i64 t2] 32):=by show Blk _ _ _ _;rw [← hW];exact (((Blk.new w _ _).alloc _).alloc _).alloc _
 have HB2:Hid (Blk W (w.heap.size+1+1) [.pointer none] 24):=by show Blk _ _ _ _;rw [← hW];exact (blkN (by simp) [.pointer none] _).alloc _
 have HB3:Hid (Blk W (w.heap.size+1+1+1) [.int .i64 0] 39):=by show Blk _ _ _ _;rw [← hW];exact blkN (by simp) [.int .i64 0] _
 clear hW
 go_enter Tryz.func22,Tryz.ntmps22
 go_wp2_with fail
 rw [HW.out]
 clear HW
 refine (HV.out _).mono ?_
 rintro e w1 ⟨rfl,hk1⟩
 cases q with
 | false=>
  have K1:Hid (Kp w w1 Nul):=kW.out.trans hk1
  have HC2:Hid (Blk w1 (w.heap.size+1+1) [.pointer none] 24):=HB2.out.kp hk1 (fun x=>x)
  have HC3:Hid (∀ Y,Kp w1 Y (fun i=>i=w.heap.size+1+1)→Blk Y (w.heap.size+1+1+1) [.int .i64 0] 39):=fun Y k=>(HB3.out.kp hk1 (fun x=>x)).kp k (fun e=>by have e':w.heap.size+1+1+1=w.heap.size+1+1:=e;omega)
  clear hk1 HB2 HB3
  go_wp2_with (first
   | (refine wpList_store_var rfl 24 (.tmp 6) (.const (.pointer none)) rfl (w.heap.size+1+1) rfl (.pointer none) rfl rfl 24 _ HC2.out (by kernel_rfl) ?_;intro Y hbY hkY;have HD2:Hid (Blk Y (w.heap.size+1+1) [.pointer none] 24):=hbY;have HD3:=HC3.out Y hkY;have KY:Hid (Kp w Y Nul):=K1.out.trans' hkY (fun i hi e=>by have e':i=w.heap.size+1+1:=e;omega);clear hbY hkY HC2)
   | (refine wpList_store_var rfl 39 (.tmp 7) (.const (.int .i64 1)) rfl (w.heap.size+1+1+1) rfl (.int .i64 1) rfl rfl 39 _ HD3 (by kernel_rfl) ?_;intro Y2 hb2 hk2)
   | fail)
  have c1:Y2.cell? ⟨w.heap.size+1+1,0,none⟩=some (.pointer none):=(HD2.out.kp hk2 (fun e=>by have e':w.heap.size+1+1=w.heap.size+1+1+1:=e;omega)).cell rfl
  have c2:Y2.cell? ⟨w.heap.size+1+1+1,0,none⟩=some (.int .i64 1):=hb2.cell rfl
  refine bodyPost_ret (results_vars rfl _ _ (w.heap.size+1+1) (w.heap.size+1+1+1) (.pointer none) (.int .i64 1) rfl rfl ?_ ?_) rfl ?_
  ·clear c2 hb2 hk2;go_simp
  ·clear c1 hb2 hk2;go_simp
  ·exact ⟨rfl,KY.out.trans' hk2 (fun i hi e=>by have e':i=w.heap.size+1+1+1:=e;omega)⟩
 | true=>
  have c0:w1.cell? ⟨w.heap.size,0,none⟩=some (.int .i64 t1):=(HB0.out.kp hk1 (fun x=>x)).cell rfl
  have c1:w1.cell? ⟨w.heap.size,1,none⟩=some (.int .i64 t2):=(HB0.out.kp hk1 (fun x=>x)).cell rfl
  have K0:Hid (Kp W w1 Nul):=hk1
  have HU':Hid (∀ w,Calls Tryz.prog 44 #[.agg #[.int .i64 t1,.int .i64 t2]] w fun e w'=>e=.returned (.bool false)∧Kp w w' Nul):=HU.out rfl
  clear HU
  clear hk1
  go_wp2_with fail
  clear c0 c1
  refine (HU'.out _).mono ?_
  rintro e w2 ⟨rfl,hk2⟩
  have hk1:=K0.out.trans hk2
  clear hk2
  have K1:Hid (Kp w w2 Nul):=kW.out.trans hk1
  have HC2:Hid (Blk w2 (w.heap.size+1+1) [.pointer none] 24):=HB2.out.kp hk1 (fun x=>x)
  have HC3:Hid (∀ Y,Kp w2 Y (fun i=>i=w.heap.size+1+1)→Blk Y (w.heap.size+1+1+1) [.int .i64 0] 39):=fun Y k=>(HB3.out.kp hk1 (fun x=>x)).kp k (fun e=>by have e':w.heap.size+1+1+1=w.heap.size+1+1:=e;omega)
  clear hk1 HB2 HB3
  go_wp2_with (first
   | (refine wpList_store_var rfl 24 (.tmp 6) (.const (.pointer none)) rfl (w.heap.size+1+1) rfl (.pointer none) rfl rfl 24 _ HC2.out (by kernel_rfl) ?_;intro Y hbY hkY;have HD2:Hid (Blk Y (w.heap.size+1+1) [.pointer none] 24):=hbY;have HD3:=HC3.out Y hkY;have KY:Hid (Kp w Y Nul):=K1.out.trans' hkY (fun i hi e=>by have e':i=w.heap.size+1+1:=e;omega);clear hbY hkY HC2)
   | (refine wpList_store_var rfl 39 (.tmp 7) (.const (.int .i64 20)) rfl (w.heap.size+1+1+1) rfl (.int .i64 20) rfl rfl 39 _ HD3 (by kernel_rfl) ?_;intro Y2 hb2 hk2)
   | fail)
  have c1:Y2.cell? ⟨w.heap.size+1+1,0,none⟩=some (.pointer none):=(HD2.out.kp hk2 (fun e=>by have e':w.heap.size+1+1=w.heap.size+1+1+1:=e;omega)).cell rfl
  have c2:Y2.cell? ⟨w.heap.size+1+1+1,0,none⟩=some (.int .i64 20):=hb2.cell rfl
  refine bodyPost_ret (results_vars rfl _ _ (w.heap.size+1+1) (w.heap.size+1+1+1) (.pointer none) (.int .i64 20) rfl rfl ?_ ?_) rfl ?_
  ·clear c2 hb2 hk2;go_simp
  ·clear c1 hb2 hk2;go_simp
  ·exact ⟨rfl,KY.out.trans' hk2 (fun i hi e=>by have e':i=w.heap.size+1+1+1:=e;omega)⟩
theorem clear_bad (g:Nat) (A:Ar4) (w:World) (h:¬ Ar4.ok A=true) :
  Calls Tryz.prog 23 #[.pointer (some ⟨g,0,none⟩),.agg #[.int .i64 A.1.1,.int .i64 A.1.2,.int .i64 A.2.1,.int .i64 A.2.2]] w fun e w'=>e=.returned (.tuple #[.pointer none,.int .i64 1])∧Kp w w' Nul:=
 clear_no g _ _ _ _ w nil_ptr' (fun w=>(pValidArea_any A.1.1 A.1.2 A.2.1 A.2.2 w).mono fun e w' q=>⟨by rw [q.1];exact congrArg (fun b=>Ending.returned (.bool b)) (show Ar4.ok A=false from Bool.eq_false_iff.2 h),Kp.of_gr q.2⟩)
theorem copy_bad (g:Nat) (A:Ar4) (t:Int×Int) (w:World) (h:¬ Ar4.ok A=true) :
  Calls Tryz.prog 16 #[.pointer (some ⟨g,0,none⟩),.agg #[.int .i64 A.1.1,.int .i64 A.1.2,.int .i64 A.2.1,.int .i64 A.2.2],.agg #[.int .i64 t.1,.int .i64 t.2]] w fun e w'=>e=.returned (.tuple #[.pointer none,.int .i64 1])∧Kp w w' Nul:=by
 have hG:=fun w=>asGreat_at g A t w
 unfold agV at hG
 simp only [if_neg h] at hG
 exact copy_no g _ _ _ _ _ _ 1 w (by decide) hG
theorem copy_off (g:Nat) (A:Ar4) (t:Int×Int) (w:World) (h:Ar4.ok A=true) (hf:¬ fits A t=true) :
  Calls Tryz.prog 16 #[.pointer (some ⟨g,0,none⟩),.agg #[.int .i64 A.1.1,.int .i64 A.1.2,.int .i64 A.2.1,.int .i64 A.2.2],.agg #[.int .i64 t.1,.int .i64 t.2]] w fun e w'=>e=.returned (.tuple #[.pointer none,.int .i64 20])∧Kp w w' Nul:=by
 have hG:=fun w=>asGreat_at g A t w
 unfold agV at hG
 simp only [if_pos h,if_neg hf] at hG
 exact copy_no g _ _ _ _ _ _ 20 w (by decide) hG
theorem fill_bad (g:Nat) (A:Ar4) (t:Int×Int) (w:World) (h:Ar4.ok A=true → ¬ vC t.1 t.2=true) :
  Calls Tryz.prog 22 #[.pointer (some ⟨g,0,none⟩),.agg #[.int .i64 t.1,.int .i64 t.2],.agg #[.int .i64 A.1.1,.int .i64 A.1.2,.int .i64 A.2.1,.int .i64 A.2.2]] w fun e w'=>e=.returned (.tuple #[.pointer none,.int .i64 (if Ar4.ok A=true then 20 else 1)])∧Kp w w' Nul:=
 fill_no g _ _ _ _ _ _ (Ar4.ok A) w nil_ptr' (fun w=>(pValidArea_any A.1.1 A.1.2 A.2.1 A.2.2 w).mono fun e w' q=>⟨q.1,Kp.of_gr q.2⟩)
  (fun hq w=>(pValid_at t.1 t.2 w).mono fun e w' q=>⟨by rw [q.1];exact congrArg (fun b=>Ending.returned (.bool b)) (by simpa using h hq),by rw [q.2];exact (Kp.refl w Nul).alloc _⟩)
end Go.Proofs.YtecjfnkakodebaaGreatDoor
