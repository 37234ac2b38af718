/- The document's sameX (quadrilleref12), bits, number, Same, OfNumber (quadrilleref14). The document's Copy of a node (quadrilleref12): a tree in memory of its own, the NaN in the place of every other one. The document's Own of contents (quadrilleref17), number and OfNumber (quadrilleref14). The document's Copy of contents (quadrilleref17). -/
import Derived.Test.YtlppcfeakakpfaaGreatDoorQpQa
set_option maxHeartbeats 8000000
set_option maxRecDepth 20000
namespace Go.Proofs.YtlppcfeakakpfaaGreatDoor
open Go.RowKit
theorem rone_nat (x:Nat) (hx:x < 18446744073709551616) (w:World) :
  Calls Tryz.prog 90 #[.int .u64 (x:Int)] w fun e w'=>e=.returned (.int .u64 (one x:Nat))∧w'=w:=by
 have:=rone_any (x:Int) (show (0:Int)≤x by omega) (show (x:Int) < 18446744073709551616 by omega) w
 rw [Int.toNat_natCast] at this
 exact this
theorem rsameX_at (a b:Nat) (ha:a < 18446744073709551616) (hb:b < 18446744073709551616) (w:World) :
  Calls Tryz.prog 101 #[.float .f64 a,.float .f64 b] w fun e w'=>e=.returned (.bool (fsame a b))∧w'=w:=by
 have H1:Hid (∀ w,Calls Tryz.prog 90 #[.int .u64 (a:Int)] w fun e w'=>e=.returned (.int .u64 (one a:Nat))∧w'=w):=rone_nat a ha
 have H2:Hid (∀ w,Calls Tryz.prog 90 #[.int .u64 (b:Int)] w fun e w'=>e=.returned (.int .u64 (one b:Nat))∧w'=w):=rone_nat b hb
 have hV:Hid (fsame a b=decide (one a=one b)):=rfl
 generalize fsame a b=V at *
 generalize one a=x at *
 generalize one b=y at *
 go_enter Tryz.func101,Tryz.ntmps101
 go_wp2_with fail
 refine (H1.out _).mono ?_
 rintro e w1 ⟨rfl,rfl⟩
 go_wp2_with fail
 refine (H2.out _).mono ?_
 rintro e w2 ⟨rfl,rfl⟩
 go_wp2_with fail
 go_ret
 refine ⟨rBool ?_,rfl⟩
 rw [hV.out,Bool.eq_iff_iff]
 simp only [beq_iff_eq,decide_eq_true_eq]
 omega
theorem rbits_at (a:Nat) (ha:a < 18446744073709551616) (w:World) :
  Calls Tryz.prog 88 #[.float .f64 a] w fun e w'=>e=.returned (.int .u64 (one a:Nat))∧w'=w:=by
 have H1:Hid (∀ w,Calls Tryz.prog 90 #[.int .u64 (a:Int)] w fun e w'=>e=.returned (.int .u64 (one a:Nat))∧w'=w):=rone_nat a ha
 generalize one a=x at *
 go_enter Tryz.func88,Tryz.ntmps88
 go_wp2_with (go_at_call 90;refine (H1.out _).mono ?_;rintro e w1 ⟨rfl,rfl⟩)
 go_ret
 exact ⟨rfl,rfl⟩
def vsame (v u:Vl):Bool:=v.k == u.k && (if v.k=1 then fsame v.x u.x else if v.k=2 then decide (v.s.toList=u.s.toList) else if v.k=3 then v.b == u.b else if v.k=4 then v.f == u.f else true)
theorem rvSame_at (v u:Vl) (hv:v.x < 18446744073709551616) (hu:u.x < 18446744073709551616) (w:World) :
  Calls Tryz.prog 74 #[v.val,u.val] w fun e w'=>e=.returned (.bool (vsame v u))∧Kp w w' Nul:=by
 have H1:Hid (∀ w,Calls Tryz.prog 88 #[.float .f64 v.x] w fun e w'=>e=.returned (.int .u64 (one v.x:Nat))∧w'=w):=rbits_at v.x hv
 have H2:Hid (∀ w,Calls Tryz.prog 88 #[.float .f64 u.x] w fun e w'=>e=.returned (.int .u64 (one u.x:Nat))∧w'=w):=rbits_at u.x hu
 have hV:Hid (vsame v u=(v.k == u.k && (if v.k=1 then decide (one v.x=one u.x) else if v.k=2 then decide (v.s.toList=u.s.toList) else if v.k=3 then v.b == u.b else if v.k=4 then v.f == u.f else true))):=rfl
 generalize vsame v u=V at *
 generalize one v.x=x1 at *
 generalize one u.x=x2 at *
 obtain ⟨k,x,s,b,f⟩:=v
 obtain ⟨k',x',s',b',f'⟩:=u
 simp only at *
 clear hv hu
 by_cases hk:k=k'
 ·subst hk
  by_cases k1:k=1
  ·subst k1
   have HE:Hid (V=decide (x1=x2)):=by show _=_;rw [hV.out];simp
   clear hV
   go_enter Tryz.func74,Tryz.ntmps74
   go_wp2_with fail
   go_region_with (first|(go_at_call 88;refine (H1.out _).mono ?_;rintro e w' ⟨rfl,rfl⟩)|(go_at_call 88;refine (H2.out _).mono ?_;rintro e w' ⟨rfl,rfl⟩))
   all_goals
    go_wp2_with fail
    go_ret
    refine ⟨rBool ?_,by repeat (first|exact Kp.refl _ _|refine Kp.alloc ?_ _|refine Kp.drew ?_)⟩
    rw [HE.out,Bool.eq_iff_iff]
    simp only [beq_iff_eq,decide_eq_true_eq]
    omega
  ·have e1:(k == 1)=false:=by simpa using k1
   clear H1 H2
   go_enter Tryz.func74,Tryz.ntmps74
   go_wp2_with fail
   all_goals
    go_ret
    refine ⟨rBool ?_,by repeat (first|exact Kp.refl _ _|refine Kp.alloc ?_ _|refine Kp.drew ?_)⟩
    rw [hV.out]
    clear hV
    (try simp_all) <;> (try (rw [Bool.eq_iff_iff];simp))
 ·have e1:(k == k')=false:=by simpa using hk
  have HE:Hid (V=false):=by show _=_;rw [hV.out,e1];rfl
  clear H1 H2 hV
  go_enter Tryz.func74,Tryz.ntmps74
  go_wp2_with fail
  all_goals
   go_ret
   exact ⟨rBool HE.out.symm,by repeat (first|exact Kp.refl _ _|refine Kp.alloc ?_ _|refine Kp.drew ?_)⟩
theorem rnCopy_any (N:Nat):∀ (t:Nd) (sl:Value) (F:Nat→Prop) (w:World),t.size≤N→t.size≤1048576→t.ok→NdIn w F sl t →
  Calls Tryz.prog 66 #[t.hd.val sl] w fun e w'=>∃ sl' fp,e=.returned ((cpy t).hd.val sl')∧Own w' w.heap.size sl' (cpy t) fp∧Below w.heap.size w w':=by
 induction N with
 | zero=>intro t sl F w h;have:=size_pos t;omega
 | succ N ih=>
  intro t sl F w hN hm hok hin
  obtain ⟨h,ts⟩:=t
  rw [NdIn] at hin
  obtain ⟨a,c,rfl,_,_,h4⟩:=hin
  have hsz:Hid ((Nd.mk h ts).size=1+sizeL ts):=by show _=_;rw [Nd.size]
  have HN:Hid ((Nd.mk h ts).size≤N+1):=hN
  have HM:Hid ((Nd.mk h ts).size≤1048576):=hm
  have IH:Hid (∀ (t:Nd) (sl:Value) (F:Nat→Prop) (w:World),t.size≤N→t.size≤1048576→t.ok→NdIn w F sl t →
   Calls Tryz.prog 66 #[t.hd.val sl] w fun e w'=>∃ sl' fp,e=.returned ((cpy t).hd.val sl')∧Own w' w.heap.size sl' (cpy t) fp∧Below w.heap.size w w'):=ih
  have H4:Hid ((ts=[]∧(c=0∨a≠none))∨∃ b o,a=some ⟨b,o,none⟩∧F b∧NdsIn w F b o ts):=h4
  have hln:=length_sizeL ts
  have HLM:Hid (ts.length≤1048576):=by show _≤_;have:=hsz.out;omega
  clear ih hN hm h4 hln
  rw [cpy]
  simp only [Nd.hd]
  have H1:Hid (∀ w,Calls Tryz.prog 90 #[.int .u64 (h.x:Int)] w fun e w'=>e=.returned (.int .u64 (one h.x:Nat))∧w'=w):=rone_nat h.x hok.x
  have HOK:Hid (okL ts):=hok.l
  clear hok
  generalize hy:one h.x=y at *
  clear hy
  generalize hn:ts.length=n at *
  have HL:Hid (ts.length=n):=hn
  clear hn
  obtain ⟨W0,hW0⟩:∃ W0,(((w.alloc (.cells (h.cells (.slice a n c)).toArray 44)).alloc (.cells [.int .i64 0,.int .i64 0,.float .f64 0,.string ⟨#[]⟩,.bool false,.int .i64 0,.int .i64 0,.int .i64 0,.bool false,.bool false,.int .i64 0,.int .i64 0,.bool false,.bool false,.slice none 0 0].toArray 44)).alloc (.cells (({ h with x:=y }:Hd).cells (.slice none 0 0)).toArray 44))=W0:=⟨_,rfl⟩
  have OS:=OwAt.start (w:=w) (h.cells (.slice a n c)) [.int .i64 0,.int .i64 0,.float .f64 0,.string ⟨#[]⟩,.bool false,.int .i64 0,.int .i64 0,.int .i64 0,.bool false,.bool false,.int .i64 0,.int .i64 0,.bool false,.bool false,.slice none 0 0] { h with x:=y }
  rw [hW0] at OS
  have HOS:Hid (OwAt w W0 (h.cells (.slice a n c)) [.int .i64 0,.int .i64 0,.float .f64 0,.string ⟨#[]⟩,.bool false,.int .i64 0,.int .i64 0,.int .i64 0,.bool false,.bool false,.int .i64 0,.int .i64 0,.bool false,.bool false,.slice none 0 0] { h with x:=y } [] (.slice none 0 0) []):=OS
  have RR:Hid (∀ o,((w.alloc (.cells (h.cells (.slice a n c)).toArray 44)).alloc o).rangeAt w.heap.size 0 (h.cells (.slice a n c))):=fun o=>rangeAt_alloc_two w _ _ o
  clear OS
  obtain ⟨k,o',x,s,bb,f,c1,r1,p1,q1,c2,r2,p2,q2⟩:=h
  have HW:Hid ((((w.alloc (.cells #[.int .i64 k,.int .i64 o',.float .f64 x,.string s,.bool bb,.int .i64 f,.int .i64 c1,.int .i64 r1,.bool p1,.bool q1,.int .i64 c2,.int .i64 r2,.bool p2,.bool q2,.slice a n c] 44)).alloc (.cells #[.int .i64 0,.int .i64 0,.float .f64 0,.string ⟨#[]⟩,.bool false,.int .i64 0,.int .i64 0,.int .i64 0,.bool false,.bool false,.int .i64 0,.int .i64 0,.bool false,.bool false,.slice none 0 0] 44)).alloc (.cells #[.int .i64 k,.int .i64 o',.float .f64 y,.string s,.bool bb,.int .i64 f,.int .i64 c1,.int .i64 r1,.bool p1,.bool q1,.int .i64 c2,.int .i64 r2,.bool p2,.bool q2,.slice none 0 0] 44))=W0):=hW0
  clear hW0
  obtain ⟨i0,hi,hz0,hz1,hz2⟩:=infoNodeI
  go_enter Tryz.func66,Tryz.ntmps66
  go_wp2_with (first|(go_at_call 90;refine (H1.out _).mono ?_;rintro e w' ⟨rfl,rfl⟩)|(refine wpList_load_mid rfl 44 (.tmp 1) rfl w.heap.size 0 rfl (Hd.cells ⟨k,o',x,s,bb,f,c1,r1,p1,q1,c2,r2,p2,q2⟩ (.slice a n c)) _ (RR.out _) Tryz.underlying44 rfl infoNode ?_)|(refine wpList_store_new rfl 44 (.tmp 3) (.tmp 5) rfl _ _ _ _ _ (by first|rfl|simp) rfl rfl rfl infoNode (Hd.one ⟨k,o',x,s,bb,f,c1,r1,p1,q1,c2,r2,p2,q2⟩ rfl) ?_))
  rw [HW.out]
  clear HW RR H1
  go_loopw [4] (fun i wr=>∃ (q:Nat) (v:Value) (fp:List Nat),q≤n∧i=.int .i64 q∧OwAt w wr (Hd.cells ⟨k,o',x,s,bb,f,c1,r1,p1,q1,c2,r2,p2,q2⟩ (.slice a n c)) [.int .i64 0,.int .i64 0,.float .f64 0,.string ⟨#[]⟩,.bool false,.int .i64 0,.int .i64 0,.int .i64 0,.bool false,.bool false,.int .i64 0,.int .i64 0,.bool false,.bool false,.slice none 0 0] ⟨k,o',y,s,bb,f,c1,r1,p1,q1,c2,r2,p2,q2⟩ (cpyL (ts.take q)) v fp) (fun i _=>n - (intOf i).toNat)
  case atStart=>exact ⟨0,.slice none 0 0,[],Nat.zero_le _,rfl,by rw [List.take_zero,cpyL];exact HOS.out⟩
  case round=>
   obtain ⟨q,v,fp,hq,rfl,hat⟩:=hrel
   have AT:Hid (OwAt w wr (Hd.cells ⟨k,o',x,s,bb,f,c1,r1,p1,q1,c2,r2,p2,q2⟩ (.slice a n c)) [.int .i64 0,.int .i64 0,.float .f64 0,.string ⟨#[]⟩,.bool false,.int .i64 0,.int .i64 0,.int .i64 0,.bool false,.bool false,.int .i64 0,.int .i64 0,.bool false,.bool false,.slice none 0 0] ⟨k,o',y,s,bb,f,c1,r1,p1,q1,c2,r2,p2,q2⟩ (cpyL (ts.take q)) v fp):=hat
   have hlt3:=hat.lt
   have x14:wr.cell? ⟨w.heap.size,14,none⟩=some (.slice a n c):=hat.b1.cell rfl
   by_cases hlt:q < n
   ·have hqt:q < ts.length:=by rw [HL.out];exact hlt
    obtain ⟨b,o,rfl,hFb,hns⟩:∃ b o,a=some ⟨b,o,none⟩∧F b∧NdsIn w F b o ts:=by
     rcases H4.out with h|h
     ·rw [h.1] at hqt;simp at hqt
     ·exact h
    obtain ⟨s1,hr,hni⟩:=hns.get q hqt
    obtain ⟨pv,lv,cv,rfl⟩:=ndOwn_slice hat.own.own
    obtain ⟨xs,hxs⟩:=hat.own.row
    have hul:Hid ((cpyL (ts.take q)).length=q):=by show _=_;rw [cpyL_len,List.length_take];omega
    have hbw:b < w.heap.size:=rangeAt_lt hr
    have HS:Hid (∀ wq,Below (w.heap.size+3) wr wq→wq.cell? ⟨w.heap.size,14,none⟩=some (.slice (some ⟨b,o,none⟩) n c)∧wq.cell? ⟨w.heap.size+2,14,none⟩=some (.slice pv lv cv)):=fun wq hk=>⟨(hk.cell (by simp)).trans (hat.b1.cell rfl),(hk.cell (by simp)).trans (hat.b3.cell rfl)⟩
    have HR:Hid (∀ wq,Below (w.heap.size+3) wr wq→wq.rangeAt b (o+q * 15) ((ts[q]).hd.cells s1)):=fun wq hk=>rangeAt_block hr ((hk.block b (by omega)).trans (hat.bel.block b hbw))
    have hs1:=size_get ts q hqt
    have hni':∀ wq,Below wr.heap.size wr wq→NdIn wq F s1 ts[q]:=fun wq hk=>hni.mono fun b hb hl=>⟨(hk.block b (by omega)).trans (hat.bel.block b hl),hb⟩
    have HC:Hid (∀ wq,Below wr.heap.size wr wq→Calls Tryz.prog 66 #[(ts[q]).hd.val s1] wq fun e w'=>∃ sl' fp,e=.returned ((cpy ts[q]).hd.val sl')∧Own w' wq.heap.size sl' (cpy ts[q]) fp∧Below wq.heap.size wq w'):=fun wq hq=>IH.out ts[q] s1 F wq (by have:=HN.out;have:=hsz.out;omega) (by have:=HM.out;have:=hsz.out;omega) (HOK.out.get q hqt) (hni' wq hq)
    have hu3:Hid (cpyL (ts.take (q+1))=cpyL (ts.take q) ++ [cpy ts[q]]):=cpyL_take ts q hqt
    have O1:Hid (s1.oneCell'=true):=hni.one
    clear hs1 hni hni' hr hns
    generalize cpy ts[q]=u at *
    generalize (ts[q]).hd=hh at *
    generalize cpyL (ts.take q)=us at *
    have hkb:(q:Int)+1≤9223372036854775807:=by have:=HLM.out;omega
    have hq0:(0:Int)≤(q:Int):=by omega
    have hqn:(q:Int) < (n:Int):=by omega
    have HX3:Hid (∀ w2,Below wr.heap.size wr w2→∀ o,(w2.alloc o).ownsRow (w.heap.size+3) 44 15 (.slice pv lv cv) us.length xs):=fun w2 h2 o=>(ownsRow_below hxs h2).alloc o
    clear hat hxs
    go_wp2_with fail
    refine wp_region_noPanic ?_
    refine wp_region_but (fun w':World=>Below (w.heap.size+3) wr w') 11 (by kernel_rfl) ((Below.refl _ _).drew) (fun hHeld=>?_)
    refine wpBut_takes (i:=0) (v :=?_) (some 20) rfl rfl (by kernel_rfl) (by kernel_rfl) (by kernel_rfl) (by kernel_rfl) (fun _ _ _ h=>h) (Or.inl ⟨by rfl,?_⟩) hHeld ?_
    rotate_left
    ·intro w' hSw;obtain ⟨s0,s1⟩:=HS.out _ hSw;clear hSw;go_simp;try with_reducible rfl
    simp only [Act.put,List.setIfInBounds_toArray,List.set_cons_zero,List.set_cons_succ]
    refine wpBut_takes (i:=1) (v :=?_) (some 21) rfl rfl (by kernel_rfl) (by kernel_rfl) (by kernel_rfl) (by kernel_rfl) (fun _ _ _ h=>h) (Or.inl ⟨by rfl,?_⟩) hHeld ?_
    rotate_left
    ·intro w' hSw;obtain ⟨s0,s1⟩:=HS.out _ hSw;clear hSw;go_simp;try with_reducible rfl
    simp only [Act.put,List.setIfInBounds_toArray,List.set_cons_zero,List.set_cons_succ]
    refine wpBut_takes (i:=2) (v :=?_) (some 22) rfl rfl (by kernel_rfl) (by kernel_rfl) (by kernel_rfl) (by kernel_rfl) (fun _ _ _ h=>h) (Or.inl ⟨by rfl,?_⟩) hHeld ?_
    rotate_left
    ·intro w' hSw;obtain ⟨s0,s1⟩:=HS.out _ hSw;clear hSw;go_simp;try with_reducible rfl
    simp only [Act.put,List.setIfInBounds_toArray,List.set_cons_zero,List.set_cons_succ]
    refine wpBut_takes (i:=3) (v :=?_) (some 23) rfl rfl (by kernel_rfl) (by kernel_rfl) (by kernel_rfl) (by kernel_rfl) (fun _ _ _ h=>h) (Or.inl ⟨by rfl,?_⟩) hHeld ?_
    rotate_left
    ·intro w' hSw;obtain ⟨s0,s1⟩:=HS.out _ hSw;clear hSw;go_simp;try with_reducible rfl
    simp only [Act.put,List.setIfInBounds_toArray,List.set_cons_zero,List.set_cons_succ]
    refine wpBut_takes (i:=4) (v :=?_) (some 24) rfl rfl (by kernel_rfl) (by kernel_rfl) (by kernel_rfl) (by kernel_rfl) (fun _ _ _ h=>h) (Or.inl ⟨by rfl,?_⟩) hHeld ?_
    rotate_left
    ·intro w' hSw;obtain ⟨s0,s1⟩:=HS.out _ hSw;clear hSw;go_simp;try with_reducible rfl
    simp only [Act.put,List.setIfInBounds_toArray,List.set_cons_zero,List.set_cons_succ]
    refine wpBut_takes (i:=5) (v :=?_) (some 25) rfl rfl (by kernel_rfl) (by kernel_rfl) (by kernel_rfl) (by kernel_rfl) (fun _ _ _ h=>h) (Or.inl ⟨by rfl,?_⟩) hHeld ?_
    rotate_left
    ·intro w' hSw;obtain ⟨s0,s1⟩:=HS.out _ hSw;clear hSw;go_simp;try with_reducible rfl
    simp only [Act.put,List.setIfInBounds_toArray,List.set_cons_zero,List.set_cons_succ]
    refine wpBut_takes (i:=6) (v :=hh.val s1) (some 26) rfl rfl (by kernel_rfl) (by kernel_rfl) (by kernel_rfl) (by kernel_rfl) (fun _ _ _ h=>h) (Or.inl ⟨by rfl,fun w' hSw=>exec_node_at (hh.cells s1) rfl rfl (HR.out w' hSw) rfl⟩) hHeld ?_
    simp only [Act.put,List.setIfInBounds_toArray,List.set_cons_zero,List.set_cons_succ]
    refine wpBut_step (i:=7) (by kernel_rfl) rfl rfl (fun K hK=>?_)
    go_simp
    refine (HC.out _ ((Below.refl _ _).drew)).mono ?_
    rintro e w2 ⟨su,fu,rfl,hown,hbl⟩
    have hb2:Below wr.heap.size wr w2:=((Below.refl wr.heap.size wr).drew).trans hbl
    have HB2:Hid (Below wr.heap.size wr w2):=hb2
    have HU:Hid (Own w2 wr.heap.size su u fu):=hown
    refine hK.out _ _ (fun _=>hb2.mono hlt3) (fun _=>?_)
    clear hK K hHeld hown hbl HC HS HR x14
    refine wpBut_step (i:=8) (by kernel_rfl) rfl rfl (fun K hK=>?_)
    go_simp
    refine hK.out _ _ (fun _=>(hb2.alloc hb2.size _).mono hlt3) (fun _=>?_)
    clear hK K
    refine wpBut_step (i:=9) (by kernel_rfl) rfl rfl (fun K hK=>?_)
    refine wp_append_tell _ (.tmp 21) (.tmp 28) 42 rfl (w.heap.size+3) 44 i0 _ 15 128 Tryz.underlying42 hi hz0 hz1 hz2 rfl (by decide) (.slice pv lv cv) us.length xs rfl (HX3.out w2 HB2.out _) ⟨w2.heap.size,0,none⟩ 1 1 (u.hd.cells su) rfl rfl ?c1 ?c2 (by decide) ?c3 ?c4 ?c5 ?_
    case c1=>
     intro j u' hj
     rw [addr_at,Nat.zero_add]
     exact (Blk.new w2 (u.hd.cells su) 44).cell hj
    case c2=>exact hd_ones u.hd HU.out.own.one
    case c3=>rw [hul.out];unfold maxLen;omega
    case c4=>rw [hul.out];have:=HLM.out;omega
    case c5=>have:=hb2.size;simp [World.size_alloc];omega
    intro g c' w4 ho hgr ht
    obtain ⟨fp',hat5⟩:=AT.out.step HB2.out (Nat.le_refl _) HU.out (HX3.out w2 HB2.out _) ho hgr ht
    have h4b:Below (w.heap.size+3) wr w4:=by
     refine ⟨hgr.os.trans hb2.os,hgr.tape.trans hb2.tape,hgr.output.trans hb2.output,?_,fun i hi=>?_⟩
     ·have h1:=hgr.size;have h2:=hb2.size;rw [World.size_alloc] at h1;omega
     ·rw [hgr.block i (by rw [World.size_alloc];have:=hb2.size;omega) (fun e=>by have:=((HX3.out w2 HB2.out (.cells #[] 0)).lt i e.symm).1;omega),Below.heap_alloc _ _ _ (by have:=hb2.size;omega)]
      exact hb2.block i (by omega)
    have A5:Hid (OwAt w _ _ _ _ _ _ fp'):=hat5
    refine hK.out _ _ (fun _=>h4b) (fun hHeld=>?_)
    have f3:w4.frozen? ⟨w.heap.size+2,14,none⟩=false:=by
     have:Blk w4 (w.heap.size+2) _ 44:=(h4b.block _ (by omega)).trans AT.out.b3
     exact this.froz _
    have c3:w4.cell? ⟨w.heap.size+2,14,none⟩=some (.slice pv lv cv):=by
     have:Blk w4 (w.heap.size+2) _ 44:=(h4b.block _ (by omega)).trans AT.out.b3
     exact this.cell rfl
    clear hK K hat5 ho hgr ht h4b hb2
    simp only [Act.put,List.setIfInBounds_toArray]
    refine wpBut_step (i:=10) (by kernel_rfl) rfl rfl (fun K hK=>?_)
    go_simp
    refine hK.out _ _ (fun _=>hHeld (by decide)) (fun _=>?_)
    clear hK K
    refine wpBut_step (i:=11) (by kernel_rfl) rfl rfl (fun K hK=>?_)
    go_simp
    refine hK.out _ _ (fun h=>absurd rfl h) (fun _=>?_)
    clear hK K hHeld c3 f3
    refine wpBut_done (by kernel_rfl) ?_
    refine NoPanic.normal ?_
    go_wp2_with fail
    go_roundw
    case rel=>exact ⟨q+1,_,fp',by omega,by go_num,by rw [hu3.out];exact A5.out⟩
    case measure=>simp only [intOf];omega
   ·have hqe:q=n:=by omega
    subst hqe
    have hqn:¬ ((q:Int) < (q:Int)):=by omega
    have hall:cpyL (ts.take q)=cpyL ts:=by rw [List.take_of_length_le (by rw [HL.out];exact Nat.le_refl _)]
    have R3:Hid (wr.rangeAt (w.heap.size+2) 0 (Hd.cells ⟨k,o',y,s,bb,f,c1,r1,p1,q1,c2,r2,p2,q2⟩ v)):=fun j u hj=>by rw [Nat.zero_add];exact hat.b3.cell hj
    have T1:Hid (wr.there (w.heap.size+1) 0 15):=there_of_block hat.b2 _ _ (by simp)
    obtain ⟨W5,hW5⟩:∃ W5,wr.setCells (w.heap.size+1) 0 (Hd.cells ⟨k,o',y,s,bb,f,c1,r1,p1,q1,c2,r2,p2,q2⟩ v)=W5:=⟨_,rfl⟩
    have HW5:Hid (wr.setCells (w.heap.size+1) 0 (Hd.cells ⟨k,o',y,s,bb,f,c1,r1,p1,q1,c2,r2,p2,q2⟩ v)=W5):=hW5
    have E1:Hid (W5.heap[w.heap.size+1]? = some (.cells (Hd.cells ⟨k,o',y,s,bb,f,c1,r1,p1,q1,c2,r2,p2,q2⟩ v).toArray 44 (0,0))):=by
     show _=_
     rw [← hW5]
     exact heap_setCells_whole (cs:=(Hd.cells ⟨k,o',y,s,bb,f,c1,r1,p1,q1,c2,r2,p2,q2⟩ v).toArray) hat.b2 (by simp)
    have OW:Hid (Own W5 w.heap.size v (.mk ⟨k,o',y,s,bb,f,c1,r1,p1,q1,c2,r2,p2,q2⟩ (cpyL ts)) fp):=by
     show Own _ _ _ _ _
     rw [← hall,← hW5]
     refine ⟨hat.own.own.mono (fun b hb=>heap_setCells_ne (by have:=(hat.own.new b hb).1;omega) _ _ _),hat.own.nodup,fun b hb=>?_⟩
     rw [size_setCells]
     exact ⟨by have:=(hat.own.new b hb).1;omega,(hat.own.new b hb).2⟩
    have BW:Hid (Below w.heap.size w W5):=by
     show Below _ _ _
     rw [← hW5]
     exact setCells_below hat.bel (Nat.le_succ _) _ _
    have O1:Hid (v.oneCell'=true):=hat.own.own.one
    clear hat AT IH H4 HOS HOK hW5 hall
    go_wp2_with (first|(refine wpList_load_mid rfl 44 (.tmp 3) rfl (w.heap.size+2) 0 rfl (Hd.cells ⟨k,o',y,s,bb,f,c1,r1,p1,q1,c2,r2,p2,q2⟩ v) _ R3.out Tryz.underlying44 rfl infoNode ?_)|(refine wpList_store_to rfl 44 (.tmp 2) (.tmp 31) rfl (w.heap.size+1) 0 _ rfl rfl T1.out infoNode (Hd.one ⟨k,o',y,s,bb,f,c1,r1,p1,q1,c2,r2,p2,q2⟩ O1.out) W5 HW5.out ?_))
    refine bodyPost_ret (results_cell_row rfl _ _ (w.heap.size+1) 44 _ (0,0) _ rfl E1.out Tryz.underlying44 rfl infoNode) rfl ?_
    exact ⟨_,rfl,⟨_,OW.out⟩,BW.out⟩
theorem rnumber_at (x:Nat) (w:World):Calls Tryz.prog 87 #[.int .u64 (x:Int)] w fun e w'=>e=.returned (.float .f64 x)∧w'=w:=by
 go_enter Tryz.func87,Tryz.ntmps87
 go_wp2
 go_ret
 exact ⟨rfl,rfl⟩
theorem rofNumber_at (x:Nat) (hx:x < 18446744073709551616) (w:World) :
  Calls Tryz.prog 65 #[.float .f64 x] w fun e w'=>e=.returned (.agg #[.int .i64 1,.float .f64 (one x),.string ⟨#[]⟩,.bool false,.int .i64 0])∧Kp w w' Nul:=by
 have H1:Hid (∀ w,Calls Tryz.prog 88 #[.float .f64 x] w fun e w'=>e=.returned (.int .u64 (one x:Nat))∧w'=w):=rbits_at x hx
 have H2:Hid (∀ w,Calls Tryz.prog 87 #[.int .u64 ((one x:Nat):Int)] w fun e w'=>e=.returned (.float .f64 (one x))∧w'=w):=rnumber_at (one x)
 generalize one x=y at *
 clear hx
 go_enter Tryz.func65,Tryz.ntmps65
 go_wp2_with (first|(go_at_call 88;refine (H1.out _).mono ?_;rintro e w' ⟨rfl,rfl⟩)|(go_at_call 87;refine (H2.out _).mono ?_;rintro e w' ⟨rfl,rfl⟩))
 refine bodyPost_ret (results_cell_row rfl _ _ w.heap.size 39 _ (0,0) _ rfl (heap_alloc_new _ _) Tryz.underlying39 rfl infoValue) rfl ?_
 exact ⟨rfl,(Kp.refl _ _).alloc _⟩
abbrev zC21:List Value:=[.int .i64 0,.int .i64 0,.float .f64 0,.string ⟨#[]⟩,.bool false,.int .i64 0,.int .i64 0,.int .i64 0,.float .f64 0,.string ⟨#[]⟩,.bool false,.int .i64 0,.int .i64 0,.int .i64 0,.bool false,.bool false,.int .i64 0,.int .i64 0,.bool false,.bool false,.slice none 0 0]
theorem Blk.range {w:World} {b:Nat} {pre l post:List Value} {t:TypeId} (h:Blk w b (pre ++ l ++ post) t):w.rangeAt b pre.length l:=rangeAt_mid h
theorem Blk.all {w:World} {b:Nat} {l:List Value} {t:TypeId} (h:Blk w b l t):w.rangeAt b 0 l:=fun j v hj=>by rw [Nat.zero_add];exact h.cell hj
theorem rOwn_at (c:Ct) (sl:Value) (F:Nat→Prop) (w:World) (hm:c.t.size≤1048576) (hin:NdIn w F sl c.t) :
  Calls Tryz.prog 18 #[c.val sl] w fun e w'=>∃ sl' fp,e=.returned (c.val sl')∧Own w' w.heap.size sl' c.t fp∧Below w.heap.size w w':=by
 have H2:Hid (∀ wq,Below w.heap.size w wq→Calls Tryz.prog 39 #[c.t.hd.val sl] wq fun e w'=>∃ sl' fp,e=.returned (c.t.hd.val sl')∧Own w' wq.heap.size sl' c.t fp∧Below wq.heap.size wq w'):=
  fun wq hq=>ownNode_any c.t.size c.t sl F wq (Nat.le_refl _) hm (hin.mono fun b hb hlt=>⟨hq.block b hlt,hb⟩)
 obtain ⟨k,⟨vk,vx,vs,vb,vf⟩,t⟩:=c
 try simp only at *
 clear hin hm
 have b0:Blk ((w.alloc (.cells (Ct.cells ⟨k,⟨vk,vx,vs,vb,vf⟩,t⟩ sl).toArray 46)).alloc (.cells zC21.toArray 46)) w.heap.size (Ct.cells ⟨k,⟨vk,vx,vs,vb,vf⟩,t⟩ sl) 46:=(Blk.new w _ _).alloc _
 have b1:Blk ((w.alloc (.cells (Ct.cells ⟨k,⟨vk,vx,vs,vb,vf⟩,t⟩ sl).toArray 46)).alloc (.cells zC21.toArray 46)) (w.heap.size+1) zC21 46:=by
  have:=Blk.new (w.alloc (.cells (Ct.cells ⟨k,⟨vk,vx,vs,vb,vf⟩,t⟩ sl).toArray 46)) zC21 46
  rw [World.size_alloc] at this
  exact this
 have RF:Hid (((w.alloc (.cells (Ct.cells ⟨k,⟨vk,vx,vs,vb,vf⟩,t⟩ sl).toArray 46)).alloc (.cells zC21.toArray 46)).rangeAt w.heap.size 6 (t.hd.cells sl)):=Blk.range (pre:=[.int .i64 k,.int .i64 vk,.float .f64 vx,.string vs,.bool vb,.int .i64 vf]) (l:=t.hd.cells sl) (post:=[]) b0
 have GW:Hid (Below w.heap.size w ((w.alloc (.cells (Ct.cells ⟨k,⟨vk,vx,vs,vb,vf⟩,t⟩ sl).toArray 46)).alloc (.cells zC21.toArray 46))):=((Below.refl _ _).alloc (Nat.le_refl _) _).alloc (by simp [World.size_alloc]) _
 have HB0:Hid (Blk _ _ _ _):=b0
 have HB1:Hid (Blk _ _ _ _):=b1
 clear b0 b1
 go_enter Tryz.func18,Tryz.ntmps18
 go_wp2_with (refine wpList_load_mid rfl 44 (.tmp 3) rfl w.heap.size 6 rfl (t.hd.cells sl) _ RF.out Tryz.underlying44 rfl infoNode ?_)
 refine (H2.out _ GW.out).mono ?_
 rintro e w2 ⟨sl',fp,rfl,hown,hbw⟩
 have hsz:w.heap.size+1 < w2.heap.size:=Nat.lt_of_lt_of_le HB1.out.lt hbw.size
 have e0:Blk w2 w.heap.size (Ct.cells ⟨k,⟨vk,vx,vs,vb,vf⟩,t⟩ sl) 46:=(hbw.block _ HB0.out.lt).trans HB0.out
 have e1:Blk w2 (w.heap.size+1) zC21 46:=(hbw.block _ HB1.out.lt).trans HB1.out
 have O1:Hid (sl'.oneCell'=true):=hown.own.one
 have T0:Hid (w2.there w.heap.size 6 15):=there_of_block e0 _ _ (by simp)
 obtain ⟨W3,hW3⟩:∃ W3,w2.setCells w.heap.size 6 (t.hd.cells sl')=W3:=⟨_,rfl⟩
 have HW3:Hid (w2.setCells w.heap.size 6 (t.hd.cells sl')=W3):=hW3
 have f0:Blk W3 w.heap.size (Ct.cells ⟨k,⟨vk,vx,vs,vb,vf⟩,t⟩ sl') 46:=by
  rw [← hW3]
  exact heap_setCells_mid (pre:=[.int .i64 k,.int .i64 vk,.float .f64 vx,.string vs,.bool vb,.int .i64 vf]) (old:=t.hd.cells sl) (new:=t.hd.cells sl') (post:=[]) rfl e0
 have f1:Blk W3 (w.heap.size+1) zC21 46:=by rw [← hW3];exact (heap_setCells_ne (by omega) _ _ _).trans e1
 have RC:Hid (W3.rangeAt w.heap.size 0 (Ct.cells ⟨k,⟨vk,vx,vs,vb,vf⟩,t⟩ sl')):=f0.all
 have T1:Hid (W3.there (w.heap.size+1) 0 21):=there_of_block f1 _ _ (by simp)
 obtain ⟨W4,hW4⟩:∃ W4,W3.setCells (w.heap.size+1) 0 (Ct.cells ⟨k,⟨vk,vx,vs,vb,vf⟩,t⟩ sl')=W4:=⟨_,rfl⟩
 have HW4:Hid (W3.setCells (w.heap.size+1) 0 (Ct.cells ⟨k,⟨vk,vx,vs,vb,vf⟩,t⟩ sl')=W4):=hW4
 have L1:Hid (W4.heap[w.heap.size+1]? = some (.cells (Ct.cells ⟨k,⟨vk,vx,vs,vb,vf⟩,t⟩ sl').toArray 46 (0,0))):=by
  show _=_
  rw [← hW4]
  exact heap_setCells_whole (cs:=(Ct.cells ⟨k,⟨vk,vx,vs,vb,vf⟩,t⟩ sl').toArray) f1 (by simp)
 have OW:Hid (Own W4 w.heap.size sl' t fp):=by
  refine ⟨hown.own.mono (fun b hb=>?_),hown.nodup,fun b hb=>?_⟩
  ·have:=(hown.new b hb).1
   simp only [World.size_alloc] at this
   rw [← hW4,heap_setCells_ne (by omega),← hW3,heap_setCells_ne (by omega)]
  ·have:=(hown.new b hb).1
   simp only [World.size_alloc] at this
   rw [← hW4,size_setCells,← hW3,size_setCells]
   exact ⟨by omega,(hown.new b hb).2⟩
 have BW:Hid (Below w.heap.size w W4):=by
  show Below _ _ _
  rw [← hW4]
  exact setCells_below (hW3 ▸ setCells_below (GW.out.trans (hbw.mono (by simp [World.size_alloc];omega))) (Nat.le_refl _) _ _) (Nat.le_succ _) _ _
 clear hW3 hW4 hown hbw H2 HB0 HB1 GW RF e0 e1 f0 f1 hsz
 go_wp2_with (first|(refine wpList_store_to rfl 44 (.tmp 6) (.tmp 5) rfl w.heap.size 6 _ rfl rfl T0.out infoNode (t.hd.one O1.out) W3 HW3.out ?_)|(refine wpList_load_mid rfl 46 (.tmp 1) rfl w.heap.size 0 rfl (Ct.cells ⟨k,⟨vk,vx,vs,vb,vf⟩,t⟩ sl') _ RC.out Tryz.underlying46 rfl infoContent ?_)|(refine wpList_store_to rfl 46 (.tmp 2) (.tmp 7) rfl (w.heap.size+1) 0 _ rfl rfl T1.out infoContent (Ct.one ⟨k,⟨vk,vx,vs,vb,vf⟩,t⟩ O1.out) W4 HW4.out ?_))
 refine bodyPost_ret (results_cell_row rfl _ _ (w.heap.size+1) 46 _ (0,0) _ rfl L1.out Tryz.underlying46 rfl infoContent) rfl ?_
 exact ⟨_,_,rfl,OW.out,BW.out⟩
theorem rcCopy_at (c:Ct) (sl:Value) (F:Nat→Prop) (w:World) (hx:c.v.x < 18446744073709551616) (hm:c.t.size≤1048576) (hok:c.t.ok) (hin:NdIn w F sl c.t) :
  Calls Tryz.prog 45 #[c.val sl] w fun e w'=>∃ sl' fp,e=.returned ((cpC c).val sl')∧Own w' w.heap.size sl' (cpC c).t fp∧Below w.heap.size w w':=by
 have HO:Hid (∀ wq,Below w.heap.size w wq→Calls Tryz.prog 18 #[c.val sl] wq fun e w'=>∃ sl' fp,e=.returned (c.val sl')∧Own w' wq.heap.size sl' c.t fp∧Below wq.heap.size wq w'):=
  fun wq hq=>rOwn_at c sl F wq hm (hin.mono fun b hb hlt=>⟨hq.block b hlt,hb⟩)
 have H1:Hid (∀ w,Calls Tryz.prog 65 #[.float .f64 c.v.x] w fun e w'=>e=.returned (.agg #[.int .i64 1,.float .f64 (Go.Proofs.YtlppcfeakakpfaaGreatDoor.one c.v.x),.string ⟨#[]⟩,.bool false,.int .i64 0])∧Kp w w' Nul):=rofNumber_at c.v.x hx
 have H2:Hid (∀ wq,Below w.heap.size w wq→Calls Tryz.prog 66 #[c.t.hd.val sl] wq fun e w'=>∃ sl' fp,e=.returned ((cpy c.t).hd.val sl')∧Own w' wq.heap.size sl' (cpy c.t) fp∧Below wq.heap.size wq w'):=
  fun wq hq=>rnCopy_any c.t.size c.t sl F wq (Nat.le_refl _) hm hok (hin.mono fun b hb hlt=>⟨hq.block b hlt,hb⟩)
 obtain ⟨k,⟨vk,vx,vs,vb,vf⟩,t⟩:=c
 unfold cpC
 simp only at *
 generalize Go.Proofs.YtlppcfeakakpfaaGreatDoor.one vx=y at *
 generalize cpy t=u at *
 clear hin hok hx hm
 have b0:Blk ((w.alloc (.cells (Ct.cells ⟨k,⟨vk,vx,vs,vb,vf⟩,t⟩ sl).toArray 46)).alloc (.cells zC21.toArray 46)) w.heap.size (Ct.cells ⟨k,⟨vk,vx,vs,vb,vf⟩,t⟩ sl) 46:=(Blk.new w _ _).alloc _
 have b1:Blk ((w.alloc (.cells (Ct.cells ⟨k,⟨vk,vx,vs,vb,vf⟩,t⟩ sl).toArray 46)).alloc (.cells zC21.toArray 46)) (w.heap.size+1) zC21 46:=by
  have:=Blk.new (w.alloc (.cells (Ct.cells ⟨k,⟨vk,vx,vs,vb,vf⟩,t⟩ sl).toArray 46)) zC21 46
  rw [World.size_alloc] at this
  exact this
 have RF:Hid (((w.alloc (.cells (Ct.cells ⟨k,⟨vk,vx,vs,vb,vf⟩,t⟩ sl).toArray 46)).alloc (.cells zC21.toArray 46)).rangeAt w.heap.size 0 (Ct.cells ⟨k,⟨vk,vx,vs,vb,vf⟩,t⟩ sl)):=b0.all
 have GW:Hid (Below w.heap.size w ((w.alloc (.cells (Ct.cells ⟨k,⟨vk,vx,vs,vb,vf⟩,t⟩ sl).toArray 46)).alloc (.cells zC21.toArray 46))):=((Below.refl _ _).alloc (Nat.le_refl _) _).alloc (by simp [World.size_alloc]) _
 have HB0:Hid (Blk _ _ _ _):=b0
 have HB1:Hid (Blk _ _ _ _):=b1
 clear b0 b1
 go_enter Tryz.func45,Tryz.ntmps45
 go_wp2_with (refine wpList_load_mid rfl 46 (.tmp 1) rfl w.heap.size 0 rfl (Ct.cells ⟨k,⟨vk,vx,vs,vb,vf⟩,t⟩ sl) _ RF.out Tryz.underlying46 rfl infoContent ?_)
 refine (HO.out _ GW.out).mono ?_
 rintro e w2 ⟨s2,f2,rfl,hown2,hbw2⟩
 have e0:Blk w2 w.heap.size (Ct.cells ⟨k,⟨vk,vx,vs,vb,vf⟩,t⟩ sl) 46:=(hbw2.block _ HB0.out.lt).trans HB0.out
 have e1:Blk w2 (w.heap.size+1) zC21 46:=(hbw2.block _ HB1.out.lt).trans HB1.out
 have O2:Hid (s2.oneCell'=true):=hown2.own.one
 have cx:∀ o,(w2.alloc o).cell? ⟨w.heap.size,2,none⟩=some (.float .f64 vx):=fun o=>(e0.alloc o).cell rfl
 have GW2:Hid (Below w.heap.size w w2):=GW.out.trans (hbw2.mono (by simp [World.size_alloc];omega))
 have HE0:Hid (Blk w2 w.heap.size (Ct.cells ⟨k,⟨vk,vx,vs,vb,vf⟩,t⟩ sl) 46):=e0
 have HE1:Hid (Blk w2 (w.heap.size+1) zC21 46):=e1
 have hlt2:w.heap.size+1 < w2.heap.size:=e1.lt
 clear hown2 hbw2 HO RF GW HB0 HB1 e0 e1
 go_wp2_with (refine wpList_store_new rfl 46 (.tmp 3) (.tmp 6) rfl _ _ _ _ _ (by first|rfl|simp) rfl rfl rfl infoContent (Ct.one ⟨k,⟨vk,vx,vs,vb,vf⟩,t⟩ O2.out) ?_)
 refine (H1.out _).mono ?_
 rintro e w3 ⟨rfl,hk3⟩
 have HB2:Hid (Below w.heap.size w w3):=(GW2.out.alloc (by have:=GW2.out.size;omega) _).trans ((Kp.below hk3).mono (by rw [World.size_alloc];have:=GW2.out.size;omega))
 have d0:Blk w3 w.heap.size (Ct.cells ⟨k,⟨vk,vx,vs,vb,vf⟩,t⟩ sl) 46:=(HE0.out.alloc _).kp hk3 (fun x=>x)
 have d1:Blk w3 (w.heap.size+1) zC21 46:=(HE1.out.alloc _).kp hk3 (fun x=>x)
 have d2:Blk w3 w2.heap.size (Ct.cells ⟨k,⟨vk,vx,vs,vb,vf⟩,t⟩ s2) 46:=(Blk.new w2 (Ct.cells ⟨k,⟨vk,vx,vs,vb,vf⟩,t⟩ s2) _).kp hk3 (fun x=>x)
 have c2:∀ o,(w3.alloc o).cell? ⟨w2.heap.size,2,none⟩=some (.float .f64 vx):=fun o=>(d2.alloc o).cell rfl
 have f2:∀ o,(w3.alloc o).frozen? ⟨w2.heap.size,2,none⟩=false:=fun o=>(d2.alloc o).froz _
 generalize hB3:w2.heap.size=B3 at *
 have HL3:Hid (w.heap.size+1 < B3∧B3 < w3.heap.size):=⟨by omega,d2.lt⟩
 have g0:∀ o,Blk ((w3.alloc o).setCell ⟨B3,2,none⟩ (.float .f64 y)) w.heap.size (Ct.cells ⟨k,⟨vk,vx,vs,vb,vf⟩,t⟩ sl) 46:=fun o=>(d0.alloc o).other _ _ (by show w.heap.size≠B3;omega)
 have g1:∀ o,Blk ((w3.alloc o).setCell ⟨B3,2,none⟩ (.float .f64 y)) (w.heap.size+1) zC21 46:=fun o=>(d1.alloc o).other _ _ (by show w.heap.size+1≠B3;omega)
 have g2:∀ o,Blk ((w3.alloc o).setCell ⟨B3,2,none⟩ (.float .f64 y)) B3 (Ct.cells ⟨k,⟨vk,y,vs,vb,vf⟩,t⟩ s2) 46:=fun o=>(d2.alloc o).set 2 _
 have RF4:Hid (∀ o,((w3.alloc o).setCell ⟨B3,2,none⟩ (.float .f64 y)).rangeAt w.heap.size 6 (t.hd.cells sl)):=fun o=>Blk.range (pre:=[.int .i64 k,.int .i64 vk,.float .f64 vx,.string vs,.bool vb,.int .i64 vf]) (l:=t.hd.cells sl) (post:=[]) (g0 o)
 have GW4:Hid (∀ o,Below w.heap.size w ((w3.alloc o).setCell ⟨B3,2,none⟩ (.float .f64 y))):=fun o=>(HB2.out.alloc HB2.out.size _).setCell (by show w.heap.size≤B3;omega) _
 have G1:Hid (∀ o,Blk ((w3.alloc o).setCell ⟨B3,2,none⟩ (.float .f64 y)) (w.heap.size+1) zC21 46):=g1
 have G2:Hid (∀ o,Blk ((w3.alloc o).setCell ⟨B3,2,none⟩ (.float .f64 y)) B3 (Ct.cells ⟨k,⟨vk,y,vs,vb,vf⟩,t⟩ s2) 46):=g2
 clear hk3 d0 d1 d2 g0 g1 g2 GW2 HE0 HE1 H1 HB2 cx hlt2 hB3
 go_wp2_with (refine wpList_load_mid rfl 44 (.tmp 15) rfl w.heap.size 6 rfl (t.hd.cells sl) _ (RF4.out _) Tryz.underlying44 rfl infoNode ?_)
 refine (H2.out _ (GW4.out _)).mono ?_
 rintro e w5 ⟨sl',fp,rfl,hown,hbw⟩
 have e2:Blk w5 B3 (Ct.cells ⟨k,⟨vk,y,vs,vb,vf⟩,t⟩ s2) 46:=(hbw.block _ (G2.out _).lt).trans (G2.out _)
 have e1:Blk w5 (w.heap.size+1) zC21 46:=(hbw.block _ (G1.out _).lt).trans (G1.out _)
 have hfp:∀ b∈fp,B3 < b:=fun b hb=>Nat.lt_of_lt_of_le (G2.out _).lt (hown.new b hb).1
 have hl3:=HL3.out
 have O1:Hid (sl'.oneCell'=true):=hown.own.one
 have T0:Hid (w5.there B3 6 15):=there_of_block e2 _ _ (by simp)
 have GW5:Below w.heap.size w w5:=(GW4.out _).trans (hbw.mono (GW4.out _).size)
 obtain ⟨W6,hW6⟩:∃ W6,w5.setCells B3 6 (u.hd.cells sl')=W6:=⟨_,rfl⟩
 have HW6:Hid (w5.setCells B3 6 (u.hd.cells sl')=W6):=hW6
 have f0:Blk W6 B3 (Ct.cells ⟨k,⟨vk,y,vs,vb,vf⟩,u⟩ sl') 46:=by
  rw [← hW6]
  exact heap_setCells_mid (pre:=[.int .i64 k,.int .i64 vk,.float .f64 y,.string vs,.bool vb,.int .i64 vf]) (old:=t.hd.cells s2) (new:=u.hd.cells sl') (post:=[]) rfl e2
 have f1:Blk W6 (w.heap.size+1) zC21 46:=by rw [← hW6];exact (heap_setCells_ne (by omega) _ _ _).trans e1
 have RC:Hid (W6.rangeAt B3 0 (Ct.cells ⟨k,⟨vk,y,vs,vb,vf⟩,u⟩ sl')):=f0.all
 have T1:Hid (W6.there (w.heap.size+1) 0 21):=there_of_block f1 _ _ (by simp)
 obtain ⟨W7,hW7⟩:∃ W7,W6.setCells (w.heap.size+1) 0 (Ct.cells ⟨k,⟨vk,y,vs,vb,vf⟩,u⟩ sl')=W7:=⟨_,rfl⟩
 have HW7:Hid (W6.setCells (w.heap.size+1) 0 (Ct.cells ⟨k,⟨vk,y,vs,vb,vf⟩,u⟩ sl')=W7):=hW7
 have L1:Hid (W7.heap[w.heap.size+1]? = some (.cells (Ct.cells ⟨k,⟨vk,y,vs,vb,vf⟩,u⟩ sl').toArray 46 (0,0))):=by
  show _=_
  rw [← hW7]
  exact heap_setCells_whole (cs:=(Ct.cells ⟨k,⟨vk,y,vs,vb,vf⟩,u⟩ sl').toArray) f1 (by simp)
 have OW:Hid (Own W7 w.heap.size sl' u fp):=by
  refine ⟨hown.own.mono (fun b hb=>?_),hown.nodup,fun b hb=>?_⟩
  ·have:=hfp b hb
   rw [← hW7,heap_setCells_ne (by omega),← hW6,heap_setCells_ne (by omega)]
  ·have:=hfp b hb
   rw [← hW7,size_setCells,← hW6,size_setCells]
   exact ⟨by omega,(hown.new b hb).2⟩
 have BW:Hid (Below w.heap.size w W7):=by
  show Below _ _ _
  rw [← hW7]
  exact setCells_below (hW6 ▸ setCells_below GW5 (by omega) _ _) (Nat.le_succ _) _ _
 clear hW6 hW7 hown hbw H2 G1 G2 GW4 GW5 RF4 e1 e2 f0 f1 hfp hl3 c2 f2
 go_wp2_with (first|(refine wpList_store_to rfl 44 (.tmp 18) (.tmp 17) rfl B3 6 _ rfl rfl T0.out infoNode (u.hd.one O1.out) W6 HW6.out ?_)|(refine wpList_load_mid rfl 46 (.tmp 3) rfl B3 0 rfl (Ct.cells ⟨k,⟨vk,y,vs,vb,vf⟩,u⟩ sl') _ RC.out Tryz.underlying46 rfl infoContent ?_)|(refine wpList_store_to rfl 46 (.tmp 2) (.tmp 19) rfl (w.heap.size+1) 0 _ rfl rfl T1.out infoContent (Ct.one ⟨k,⟨vk,y,vs,vb,vf⟩,u⟩ O1.out) W7 HW7.out ?_))
 refine bodyPost_ret (results_cell_row rfl _ _ (w.heap.size+1) 46 _ (0,0) _ rfl L1.out Tryz.underlying46 rfl infoContent) rfl ?_
 exact ⟨_,_,rfl,OW.out,BW.out⟩
end Go.Proofs.YtlppcfeakakpfaaGreatDoor
