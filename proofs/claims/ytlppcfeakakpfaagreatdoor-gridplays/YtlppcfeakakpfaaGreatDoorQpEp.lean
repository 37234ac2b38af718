/- The document's first and Check (quadrilleref12). The document's Check (quadrilleref12). The document's Same of nodes (quadrilleref12). The document's Same of nodes (quadrilleref12): all of it. The document's Same of contents (quadrilleref17). bare tells what it should; so the document's Valid of a content is the program's. -/
import Derived.Test.YtlppcfeakakpfaaGreatDoorQpEm
import Derived.Test.YtlppcfeakakpfaaGreatDoorQpEj
import Derived.Test.YtlppcfeakakpfaaGreatDoorQpEb8
import Derived.Test.YtlppcfeakakpfaaGreatDoorQpEb32
set_option maxRecDepth 20000
set_option maxHeartbeats 16000000
namespace Go.Proofs.YtlppcfeakakpfaaGreatDoor
open Go.RowKit Go.Lib
attribute [local irreducible] Nd.fe feL
theorem exec_load_mid {o:Oper} {a:Act} {x:Operand} {b p:Nat} {w:World} (cs:List Value) (ho:o.op=.load 44 x) (hx:a.eval x=.pointer (some ⟨b,p,none⟩)) (hc:w.rangeAt b p cs) (hcs:cs.length=15):(execOp a.eval o).run Tryz.prog w=.ok (.value (.agg cs.toArray)) w:=by
 unfold execOp
 simp only [ho,hx,Instr.loadAt,Instr.sureAddr,Sem.run_bind,Sem.run_pure,Result.andThen_ok,run_loadVar_mid w b p 44 cs _ hc Tryz.underlying44 rfl (by rw [hcs];exact infoNode)]
def Okup (ts:List Nd) (c:Bool) (q:Nat):Prop:=∀ i (h:i < ts.length),i < q→(ts[i]).fe c=0
mutual
def Nd.txt:Nd→Prop
 | .mk h ts=>h.s.size≤140737488355328∧txtL ts
def txtL:List Nd→Prop
 | []=>True
 | t :: ts=>t.txt∧txtL ts
end
theorem txtL.get:∀ {ts:List Nd},txtL ts→∀ i,(h:i < ts.length)→(ts[i]).txt
 | [],_,i,h=>absurd h (by simp)
 | t :: ts,hk,i,h=>by
  rw [txtL] at hk
  cases i with
  | zero=>exact hk.1
  | succ i=>exact hk.2.get i (by simpa using h)
theorem rfirst_any (B:BaresAll) (N:Nat):∀ (t:Nd) (sl:Value) (F:Nat→Prop) (inside:Bool) (w:World),t.size≤N→t.ok→t.txt→NdIn w F sl t →
  Calls Tryz.prog 86 #[t.hd.val sl,.bool inside] w fun e w'=>e=.returned (.int .i64 (t.fe inside))∧Kp w w' Nul:=by
 induction N with
 | zero=>intro t sl F inside w h;have:=size_pos t;omega
 | succ N ih=>
  intro t sl F inside w hN hok htx hin
  obtain ⟨hd,ts⟩:=t
  rw [NdIn] at hin
  rw [Nd.txt] at htx
  obtain ⟨a,c,rfl,h2,h3,h4⟩:=hin
  have hsz:Hid ((Nd.mk hd ts).size=1+sizeL ts):=by show _=_;rw [Nd.size]
  have hfe:Hid ((Nd.mk hd ts).fe inside=if ownE hd ts.length inside≠0 then ownE hd ts.length inside else feL ts (hd.k == 9)):=by show _=_;rw [Nd.fe]
  have HN:Hid ((Nd.mk hd ts).size≤N+1):=hN
  have HOK:Hid (okL ts):=hok.l
  have HTX:Hid (txtL ts):=htx.2
  have IH:Hid (∀ (t:Nd) (sl:Value) (F:Nat→Prop) (inside:Bool) (w:World),t.size≤N→t.ok→t.txt→NdIn w F sl t →
   Calls Tryz.prog 86 #[t.hd.val sl,.bool inside] w fun e w'=>e=.returned (.int .i64 (t.fe inside))∧Kp w w' Nul):=ih
  have hlen:ts.length≤9223372036854775807:=by unfold maxLen at h3;omega
  have H4:Hid ((ts=[]∧(c=0∨a≠none))∨∃ b o,a=some ⟨b,o,none⟩∧F b∧NdsIn w F b o ts):=h4
  have HO:Hid (∀ wq,Calls Tryz.prog 107 #[hd.val (.slice a ts.length c),.bool inside] wq fun e w'=>e=.returned (.int .i64 (ownE hd ts.length inside))∧Gr wq w'):=fun wq=>rown_at hd ts.length a c inside hok.x htx.1 wq B
  clear ih hN h4 h2 h3 hok htx
  generalize hn:ts.length=n at *
  have HL:Hid (ts.length=n):=hn
  have HLEN:Hid (n≤9223372036854775807):=hlen
  clear hn hlen
  generalize hSS:(Nd.mk hd ts).fe inside=S at *
  simp only [Nd.hd]
  obtain ⟨W1,hW1⟩:∃ W1,w.alloc (.cells (hd.cells (.slice a n c)).toArray 44)=W1:=⟨_,rfl⟩
  have k1:Kp w W1 Nul:=by rw [← hW1];exact (Kp.refl w Nul).alloc _
  have b1:Blk W1 w.heap.size (hd.cells (.slice a n c)) 44:=by rw [← hW1];exact Blk.new w _ _
  have HW1:Hid (w.alloc (.cells #[.int .i64 hd.k,.int .i64 hd.o,.float .f64 hd.x,.string hd.s,.bool hd.b,.int .i64 hd.f,.int .i64 hd.c1,.int .i64 hd.r1,.bool hd.p1,.bool hd.q1,.int .i64 hd.c2,.int .i64 hd.r2,.bool hd.p2,.bool hd.q2,.slice a n c] 44)=W1):=hW1
  have HB:Hid (∀ wq,Kp W1 wq Nul→Blk wq w.heap.size (hd.cells (.slice a n c)) 44):=fun wq hq=>b1.kp hq (fun x=>x)
  have HK1:Hid (Kp w W1 Nul):=k1
  generalize hOE:ownE hd n inside=OE at *
  clear hW1 k1 b1 hSS hOE B
  go_enter Tryz.func86,Tryz.ntmps86
  go_wp2_with fail
  rw [HW1.out]
  refine (HO.out _).mono ?_
  rintro e w1 ⟨rfl,hg1⟩
  have HK2:Hid (Kp W1 w1 Nul):=Kp.of_gr hg1
  clear hg1 HO HW1
  go_wp2_with fail
  go_loopw [5,6] (fun e i wr=>∃ (q:Nat) (z:Int),q≤n∧e=.int .i64 z∧i=.int .i64 q∧Kp w1 wr Nul∧((z=0∧OE=0∧Okup ts (hd.k == 9) q)∨(z≠0∧S=z))) (fun _ i _=>n - (intOf i).toNat)
  case atStart=>
   refine ⟨0,OE,Nat.zero_le _,rfl,rfl,Kp.refl _ _,?_⟩
   by_cases h0:OE=0
   ·exact .inl ⟨h0,h0,fun i h hi=>by omega⟩
   ·exact .inr ⟨h0,by rw [hfe.out,if_pos h0]⟩
  case round=>
   obtain ⟨q,z,hq,rfl,rfl,hkq,hz⟩:=hrel
   have KQ:Hid (Kp w1 wr Nul):=hkq
   have hkw:Kp w wr Nul:=(HK1.out.trans HK2.out).trans hkq
   have HKW:Hid (Kp w wr Nul):=hkw
   have HBk:=HB.out wr (HK2.out.trans hkq)
   have x14:wr.cell? ⟨w.heap.size,14,none⟩=some (.slice a n c):=HBk.cell rfl
   rcases hz with ⟨rfl,h0,hz⟩|⟨hz,hS⟩
   ·by_cases hlt:q < n
    ·have hqt:q < ts.length:=by rw [HL.out];exact hlt
     obtain ⟨b,o,rfl,hFb,hns⟩:∃ b o,a=some ⟨b,o,none⟩∧F b∧NdsIn w F b o ts:=by
      rcases H4.out with h|h
      ·rw [h.1] at hqt;simp at hqt
      ·exact h
     obtain ⟨s1,hr,hni⟩:=hns.get q hqt
     have hr':wr.rangeAt b (o+q * 15) ((ts[q]).hd.cells s1):=rangeAt_block hr (hkw.block b (rangeAt_lt hr) (fun x=>x))
     have HR:Hid (∀ wq,Kp wr wq Nul→wq.rangeAt b (o+q * 15) ((ts[q]).hd.cells s1)):=fun wq hk=>rangeAt_block hr' (hk.block b (rangeAt_lt hr') (fun x=>x))
     have hni':=hni.kp hkw (fun _ _ x=>x)
     have hs1:=size_get ts q hqt
     have HC:Hid (∀ wq,Kp wr wq Nul→Calls Tryz.prog 86 #[(ts[q]).hd.val s1,.bool (hd.k == 9)] wq fun e w'=>e=.returned (.int .i64 ((ts[q]).fe (hd.k == 9)))∧Kp wq w' Nul):=fun wq hq=>IH.out ts[q] s1 F _ wq (by have:=HN.out;have:=hsz.out;omega) (HOK.out.get q hqt) (HTX.out.get q hqt) (hni'.kp hq (fun _ _ x=>x))
     have HS:Hid (∀ wq,Kp wr wq Nul→wq.cell? ⟨w.heap.size,14,none⟩=some (.slice (some ⟨b,o,none⟩) n c)∧wq.cell? ⟨w.heap.size,0,none⟩=some (.int .i64 hd.k)):=fun wq hk=>⟨(HBk.kp hk (fun x=>x)).cell rfl,(HBk.kp hk (fun x=>x)).cell rfl⟩
     have hnext:Hid ((((ts[q]).fe (hd.k == 9)=0∧OE=0∧Okup ts (hd.k == 9) (q+1))∨((ts[q]).fe (hd.k == 9)≠0∧S=(ts[q]).fe (hd.k == 9)))):=by
      by_cases e:(ts[q]).fe (hd.k == 9)=0
      ·refine .inl ⟨e,h0,fun i h hi=>?_⟩
       rcases Nat.lt_or_ge i q with g|g
       ·exact hz i h g
       ·have:i=q:=by omega
        subst this;exact e
      ·refine .inr ⟨e,?_⟩
       rw [hfe.out,h0]
       simp only [ne_eq,not_true_eq_false,if_false]
       exact feL_at hqt hz e
     clear hs1 hni hni' hr hr' hns hkw hkq HBk hz h0 hfe
     generalize (ts[q]).fe (hd.k == 9)=z' at *
     generalize (ts[q]).hd=hh at *
     have hkb:(q:Int)+1≤9223372036854775807:=by have:=HLEN.out;omega
     have hq0:(0:Int)≤(q:Int):=by omega
     have hqn:(q:Int) < (n:Int):=by omega
     go_wp2_with fail
     refine wp_region_noPanic ?_
     refine wp_region_hel (fun w':World=>Kp wr w' Nul) (by kernel_rfl) ((Kp.refl wr Nul).drew) (fun hHeld=>?_)
     refine wpH_takes (i:=0) (v:=?_) (some 21) rfl rfl (by kernel_rfl) (by kernel_rfl) (by kernel_rfl) (fun _ _ _ h=>h) (Or.inl ⟨by rfl,?_⟩) hHeld ?_
     rotate_left
     ·intro w' hSw;obtain ⟨s0,s1⟩:=HS.out _ hSw;clear hSw;go_simp;try with_reducible rfl
     simp only [Act.put,List.setIfInBounds_toArray,List.set_cons_zero,List.set_cons_succ]
     refine wpH_takes (i:=1) (v:=?_) (some 22) rfl rfl (by kernel_rfl) (by kernel_rfl) (by kernel_rfl) (fun _ _ _ h=>h) (Or.inl ⟨by rfl,?_⟩) hHeld ?_
     rotate_left
     ·intro w' hSw;obtain ⟨s0,s1⟩:=HS.out _ hSw;clear hSw;go_simp;try with_reducible rfl
     simp only [Act.put,List.setIfInBounds_toArray,List.set_cons_zero,List.set_cons_succ]
     refine wpH_takes (i:=2) (v:=?_) (some 23) rfl rfl (by kernel_rfl) (by kernel_rfl) (by kernel_rfl) (fun _ _ _ h=>h) (Or.inl ⟨by rfl,?_⟩) hHeld ?_
     rotate_left
     ·intro w' hSw;obtain ⟨s0,s1⟩:=HS.out _ hSw;clear hSw;go_simp;try with_reducible rfl
     simp only [Act.put,List.setIfInBounds_toArray,List.set_cons_zero,List.set_cons_succ]
     refine wpH_takes (i:=3) (v:=?_) (some 24) rfl rfl (by kernel_rfl) (by kernel_rfl) (by kernel_rfl) (fun _ _ _ h=>h) (Or.inl ⟨by rfl,?_⟩) hHeld ?_
     rotate_left
     ·intro w' hSw;obtain ⟨s0,s1⟩:=HS.out _ hSw;clear hSw;go_simp;try with_reducible rfl
     simp only [Act.put,List.setIfInBounds_toArray,List.set_cons_zero,List.set_cons_succ]
     refine wpH_takes (i:=4) (v:=hh.val s1) (some 25) rfl rfl (by kernel_rfl) (by kernel_rfl) (by kernel_rfl) (fun _ _ _ h=>h) (Or.inl ⟨by rfl,fun w' hSw=>exec_load_mid (hh.cells s1) rfl rfl (HR.out w' hSw) rfl⟩) hHeld ?_
     simp only [Act.put,List.setIfInBounds_toArray,List.set_cons_zero,List.set_cons_succ]
     refine wpH_takes (i:=5) (v:=?_) (some 26) rfl rfl (by kernel_rfl) (by kernel_rfl) (by kernel_rfl) (fun _ _ _ h=>h) (Or.inl ⟨by rfl,?_⟩) hHeld ?_
     rotate_left
     ·intro w' hSw;obtain ⟨s0,s1⟩:=HS.out _ hSw;clear hSw;go_simp;try with_reducible rfl
     simp only [Act.put,List.setIfInBounds_toArray,List.set_cons_zero,List.set_cons_succ]
     refine wpH_takes (i:=6) (v:=?_) (some 27) rfl rfl (by kernel_rfl) (by kernel_rfl) (by kernel_rfl) (fun _ _ _ h=>h) (Or.inl ⟨by rfl,?_⟩) hHeld ?_
     rotate_left
     ·intro w' hSw;obtain ⟨s0,s1⟩:=HS.out _ hSw;clear hSw;go_simp;try with_reducible rfl
     simp only [Act.put,List.setIfInBounds_toArray,List.set_cons_zero,List.set_cons_succ]
     refine wpH_takes (i:=7) (v:=?_) (some 28) rfl rfl (by kernel_rfl) (by kernel_rfl) (by kernel_rfl) (fun _ _ _ h=>h) (Or.inl ⟨by rfl,?_⟩) hHeld ?_
     rotate_left
     ·intro w' hSw;obtain ⟨s0,s1⟩:=HS.out _ hSw;clear hSw;go_simp;try with_reducible rfl
     simp only [Act.put,List.setIfInBounds_toArray,List.set_cons_zero,List.set_cons_succ]
     refine wpH_step (i:=8) (by kernel_rfl) rfl rfl (fun K hK=>?_)
     go_simp
     refine (HC.out _ ((Kp.refl wr Nul).drew)).mono ?_
     rintro e w2 ⟨rfl,hk2⟩
     have hk2':Kp wr w2 Nul:=((Kp.refl wr Nul).drew).trans hk2
     have HK3:Hid (Kp w1 w2 Nul):=KQ.out.trans hk2'
     refine hK.out _ _ hk2' (fun hHeld2=>?_)
     clear hK K hHeld hk2 hk2' HC HS HR x14
     refine wpH_takes (i:=9) (v:=?_) (some 5) rfl rfl (by kernel_rfl) (by kernel_rfl) (by kernel_rfl) (fun _ _ _ h=>h) (Or.inl ⟨by rfl,?_⟩) hHeld2 ?_
     rotate_left
     ·intro w' hSw;clear hSw;go_simp;try with_reducible rfl
     simp only [Act.put,List.setIfInBounds_toArray,List.set_cons_zero,List.set_cons_succ]
     refine wpAnyH_done (by kernel_rfl) ?_ _
     refine NoPanic.normal ?_
     clear hHeld2
     go_wp2_with fail
     go_roundw
     case rel=>exact ⟨q+1,z',by omega,rfl,by go_num,HK3.out,hnext.out⟩
     case measure=>simp only [intOf];omega
    ·have hqe:q=n:=by omega
     subst hqe
     have hqn:¬ ((q:Int) < (q:Int)):=by omega
     have HS0:Hid (S=0):=by
      show _=_
      rw [hfe.out,h0]
      simp only [ne_eq,not_true_eq_false,if_false]
      exact feL_all fun i h hi=>hz i h (by rw [← HL.out];exact h)
     clear hz h0 hkw hkq HBk hfe
     go_wp2_with fail
     go_ret
     exact ⟨rInt HS0.out.symm,HKW.out⟩
   ·have HS0:Hid (S=z):=hS
    have hzb:(z == 0)=false:=by simpa using hz
    have jj:((q:Int) < (n:Int)) ∨ ¬ ((q:Int) < (n:Int)):=Decidable.em _
    clear hkw hkq HBk hfe hS
    rcases jj with jj|jj
    all_goals
     go_wp2_with fail
     go_ret
     exact ⟨rInt HS0.out.symm,HKW.out⟩
end Go.Proofs.YtlppcfeakakpfaaGreatDoor
namespace Go.Proofs.YtlppcfeakakpfaaGreatDoor
open Go.RowKit Go.Lib
theorem rcheck_at (B:BaresAll) (t:Nd) (sl:Value) (F:Nat→Prop) (w:World) (hsz:t.size≤1048576) (hok:t.ok) (htx:t.txt) (hin:NdIn w F sl t) :
  Calls Tryz.prog 64 #[t.hd.val sl] w fun e w'=>e=.returned (.int .i64 (chk t))∧Kp w w' Nul:=by
 obtain ⟨W1,hW1⟩:∃ W1,w.alloc (.cells (t.hd.cells sl).toArray 44)=W1:=⟨_,rfl⟩
 have k1:Kp w W1 Nul:=by rw [← hW1];exact (Kp.refl w Nul).alloc _
 have b1:Blk W1 w.heap.size (t.hd.cells sl) 44:=by rw [← hW1];exact Blk.new w _ _
 have HW1:Hid (w.alloc (.cells #[.int .i64 t.hd.k,.int .i64 t.hd.o,.float .f64 t.hd.x,.string t.hd.s,.bool t.hd.b,.int .i64 t.hd.f,.int .i64 t.hd.c1,.int .i64 t.hd.r1,.bool t.hd.p1,.bool t.hd.q1,.int .i64 t.hd.c2,.int .i64 t.hd.r2,.bool t.hd.p2,.bool t.hd.q2,sl] 44)=W1):=hW1
 have HT:Hid (∀ wq,Kp w wq Nul→Calls Tryz.prog 84 #[t.hd.val sl] wq fun e w'=>e=.returned (.int .i64 (t.size:Nat))∧Gr wq w'):=fun wq hq=>rcount_any t.size t sl F wq (Nat.le_refl _) hsz (hin.kp hq (fun _ _ x=>x))
 have HD:Hid (∀ wq,Kp w wq Nul→Calls Tryz.prog 85 #[t.hd.val sl] wq fun e w'=>e=.returned (.int .i64 (t.dep:Nat))∧Gr wq w'):=fun wq hq=>rdepth_any t.size t sl F wq (Nat.le_refl _) hsz (hin.kp hq (fun _ _ x=>x))
 have HF:Hid (∀ wq,Kp w wq Nul→Calls Tryz.prog 86 #[t.hd.val sl,.bool false] wq fun e w'=>e=.returned (.int .i64 (t.fe false))∧Kp wq w' Nul):=fun wq hq=>rfirst_any B t.size t sl F false wq (Nat.le_refl _) hok htx (hin.kp hq (fun _ _ x=>x))
 have hE:Hid (chk t=if 256 < t.size then 34 else if 32 < t.dep then 33 else t.fe false):=rfl
 have HB:Hid (∀ wq,Kp W1 wq Nul→wq.heap[w.heap.size]? = some (.cells (t.hd.cells sl).toArray 44 (0,0))):=fun wq hq=>b1.kp hq (fun x=>x)
 have HK1:Hid (Kp w W1 Nul):=k1
 clear hW1 k1 b1 hok hin hsz htx B
 generalize chk t=E at *
 generalize t.size=sz at *
 generalize t.dep=dp at *
 generalize t.fe false=fe at *
 generalize t.hd=h at *
 go_enter Tryz.func64,Tryz.ntmps64
 go_wp2_with fail
 rw [HW1.out]
 refine (HT.out _ HK1.out).mono ?_
 rintro e w1 ⟨rfl,hk1⟩
 have HK2:Hid (Kp W1 w1 Nul):=Kp.of_gr hk1
 have HB1:Hid (w1.heap[w.heap.size]? = some (.cells (h.cells sl).toArray 44 (0,0))):=HB.out w1 HK2.out
 clear hk1 HT HW1
 by_cases h1:256 < sz
 ·have j:(256:Int) < (sz:Int):=by omega
  have HE:Hid (E=34):=by show _=_;rw [hE.out,if_pos h1]
  go_wp2_with fail
  go_ret
  exact ⟨rInt HE.out.symm,HK1.out.trans HK2.out⟩
 ·have j:¬ (256:Int) < (sz:Int):=by omega
  have hE2:Hid (E=if 32 < dp then 33 else fe):=by show _=_;rw [hE.out,if_neg h1]
  clear hE h1
  go_wp2_with (first|(refine load_node_law rfl (.tmp 1) rfl w.heap.size rfl (h.cells sl).toArray HB1.out rfl ?_)|fail)
  refine (HD.out _ (HK1.out.trans HK2.out)).mono ?_
  rintro e w2 ⟨rfl,hg2⟩
  have HK3:Hid (Kp W1 w2 Nul):=HK2.out.trans (Kp.of_gr hg2)
  have HB2:Hid (w2.heap[w.heap.size]? = some (.cells (h.cells sl).toArray 44 (0,0))):=HB.out w2 HK3.out
  clear hg2 HD HK2 HB1
  by_cases h2:32 < dp
  ·have j2:(32:Int) < (dp:Int):=by omega
   have HE:Hid (E=33):=by show _=_;rw [hE2.out,if_pos h2]
   go_wp2_with fail
   go_ret
   exact ⟨rInt HE.out.symm,HK1.out.trans HK3.out⟩
  ·have j2:¬ (32:Int) < (dp:Int):=by omega
   have HE:Hid (E=fe):=by show _=_;rw [hE2.out,if_neg h2]
   go_wp2_with (first|(refine load_node_law rfl (.tmp 1) rfl w.heap.size rfl (h.cells sl).toArray HB2.out rfl ?_)|fail)
   refine (HF.out _ (HK1.out.trans HK3.out)).mono ?_
   rintro e w3 ⟨rfl,hk3⟩
   have HK4:Hid (Kp w w3 Nul):=(HK1.out.trans HK3.out).trans hk3
   clear hk3 HF
   go_wp2_with fail
   go_ret
   exact ⟨rInt HE.out.symm,HK4.out⟩
theorem neq_ref (a b c d:Int) (p q s t:Bool) (T:Bool) (hT:(a == c && b == d && p == s && q == t)=T) (w:World):(binOp .neq 41 (.agg #[.int .i64 a,.int .i64 b,.bool p,.bool q]) (.agg #[.int .i64 c,.int .i64 d,.bool s,.bool t])).run Tryz.prog w=.ok (.bool (!T)) w:=by
 subst hT
 by_cases h1:a=c
 ·subst h1
  by_cases h2:b=d
  ·subst h2
   cases p <;> cases q <;> cases s <;> cases t <;> simp [go_sem]
  ·have h2':(b == d)=false:=by simpa using h2
   simp [go_sem,h2']
 ·have h1':(a == c)=false:=by simpa using h1
  simp [go_sem,h1']
theorem rsame_no (h g:Hd) (hx:h.x < 18446744073709551616) (gx:g.x < 18446744073709551616) (n m:Nat) (a b:Option Addr) (c d:Nat) (w:World) (hno:(hsame h g && n == m)=false) :
  Calls Tryz.prog 75 #[h.val (.slice a n c),g.val (.slice b m d)] w fun e w'=>e=.returned (.bool false)∧Kp w w' Nul:=by
 have H1:Hid (∀ w,Calls Tryz.prog 101 #[.float .f64 h.x,.float .f64 g.x] w fun e w'=>e=.returned (.bool (fsame h.x g.x))∧w'=w):=rsameX_at h.x g.x hx gx
 have e1:=neq_ref h.c1 h.r1 g.c1 g.r1 h.p1 h.q1 g.p1 g.q1 _ rfl
 have e2:=neq_ref h.c2 h.r2 g.c2 g.r2 h.p2 h.q2 g.p2 g.q2 _ rfl
 have hV:Hid ((h.k == g.k && h.o == g.o && fsame h.x g.x && decide (h.s.toList=g.s.toList) && h.b == g.b && h.f == g.f &&
  (h.c1 == g.c1 && h.r1 == g.r1 && h.p1 == g.p1 && h.q1 == g.q1) && (h.c2 == g.c2 && h.r2 == g.r2 && h.p2 == g.p2 && h.q2 == g.q2) && n == m)=false):=hno
 generalize fsame h.x g.x=fs at *
 generalize (h.c1 == g.c1 && h.r1 == g.r1 && h.p1 == g.p1 && h.q1 == g.q1)=b1 at *
 generalize (h.c2 == g.c2 && h.r2 == g.r2 && h.p2 == g.p2 && h.q2 == g.q2)=b2 at *
 clear hx gx hno
 obtain ⟨k,o,x,s,b0,f,c1,r1,p1,q1,c2,r2,p2,q2⟩:=h
 obtain ⟨k',o',x',s',b',f',c1',r1',p1',q1',c2',r2',p2',q2'⟩:=g
 simp only at *
 have fin:Hid (∀ o1 o2,Kp w ((w.alloc o1).alloc o2) Nul):=fun o1 o2=>((Kp.refl w Nul).alloc _).alloc _
 by_cases hk:k=k'
 rotate_left
 ·have nk:(k == k')=false:=by simpa using hk
  clear hV
  go_enter Tryz.func75,Tryz.ntmps75
  go_wp2_with fail
  refine (H1.out _).mono ?_
  rintro e w1 ⟨rfl,rfl⟩
  go_wp21
  go_ret
  exact ⟨rfl,fin.out _ _⟩
 subst hk
 by_cases ho:o=o'
 rotate_left
 ·have no:(o == o')=false:=by simpa using ho
  clear hV
  go_enter Tryz.func75,Tryz.ntmps75
  go_wp2_with fail
  refine (H1.out _).mono ?_
  rintro e w1 ⟨rfl,rfl⟩
  go_wp21
  go_ret
  exact ⟨rfl,fin.out _ _⟩
 subst ho
 cases fs
 ·skip
  clear hV
  go_enter Tryz.func75,Tryz.ntmps75
  go_wp2_with fail
  refine (H1.out _).mono ?_
  rintro e w1 ⟨rfl,rfl⟩
  go_wp21
  go_ret
  exact ⟨rfl,fin.out _ _⟩
 by_cases hs:s.toList=s'.toList
 rotate_left
 ·have ns:(s.toList == s'.toList)=false:=by simpa using hs
  clear hV
  go_enter Tryz.func75,Tryz.ntmps75
  go_wp2_with fail
  refine (H1.out _).mono ?_
  rintro e w1 ⟨rfl,rfl⟩
  go_wp21
  go_ret
  exact ⟨rfl,fin.out _ _⟩
 have ns:(s.toList == s'.toList)=true:=by simpa using hs
 by_cases hb:b0=b'
 rotate_left
 ·have nb:(b0 == b')=false:=by simpa using hb
  clear hV
  go_enter Tryz.func75,Tryz.ntmps75
  go_wp2_with fail
  refine (H1.out _).mono ?_
  rintro e w1 ⟨rfl,rfl⟩
  go_wp21
  go_ret
  exact ⟨rfl,fin.out _ _⟩
 subst hb
 by_cases hf:f=f'
 rotate_left
 ·have nf:(f == f')=false:=by simpa using hf
  clear hV
  go_enter Tryz.func75,Tryz.ntmps75
  go_wp2_with fail
  refine (H1.out _).mono ?_
  rintro e w1 ⟨rfl,rfl⟩
  go_wp21
  go_ret
  exact ⟨rfl,fin.out _ _⟩
 subst hf
 cases b1
 ·skip
  clear hV
  go_enter Tryz.func75,Tryz.ntmps75
  go_wp2_with fail
  refine (H1.out _).mono ?_
  rintro e w1 ⟨rfl,rfl⟩
  go_wp21
  go_ret
  exact ⟨rfl,fin.out _ _⟩
 cases b2
 ·skip
  clear hV
  go_enter Tryz.func75,Tryz.ntmps75
  go_wp2_with fail
  refine (H1.out _).mono ?_
  rintro e w1 ⟨rfl,rfl⟩
  go_wp21
  go_ret
  exact ⟨rfl,fin.out _ _⟩
 by_cases hn:n=m
 rotate_left
 ·have nn:((n:Int) == (m:Int))=false:=by simp;omega
  clear hV
  go_enter Tryz.func75,Tryz.ntmps75
  go_wp2_with fail
  refine (H1.out _).mono ?_
  rintro e w1 ⟨rfl,rfl⟩
  go_wp21
  go_ret
  exact ⟨rfl,fin.out _ _⟩
 subst hn
 exact absurd hV.out (by simp [hs])
end Go.Proofs.YtlppcfeakakpfaaGreatDoor
namespace Go.Proofs.YtlppcfeakakpfaaGreatDoor
open Go.RowKit Go.Lib
attribute [local irreducible] tsame lsame
theorem hsame_all {h g:Hd} (e:hsame h g=true):h.k=g.k∧h.o=g.o∧fsame h.x g.x=true∧h.s.toList=g.s.toList∧h.b=g.b∧h.f=g.f∧(h.c1 == g.c1 && h.r1 == g.r1 && h.p1 == g.p1 && h.q1 == g.q1)=true∧(h.c2 == g.c2 && h.r2 == g.r2 && h.p2 == g.p2 && h.q2 == g.q2)=true:=by
 unfold hsame at e
 simp only [Bool.and_eq_true] at e ⊢
 obtain ⟨⟨⟨⟨⟨⟨⟨e1,e2⟩,e3⟩,e4⟩,e5⟩,e6⟩,e7⟩,e8⟩:=e
 exact ⟨by simpa using e1,by simpa using e2,e3,by simpa using e4,by simpa using e5,by simpa using e6,e7,e8⟩
theorem rsame_any (N:Nat):∀ (t u:Nd) (sl sg:Value) (F G:Nat→Prop) (w:World),t.size≤N→t.ok→u.ok→NdIn w F sl t→NdIn w G sg u →
  Calls Tryz.prog 75 #[t.hd.val sl,u.hd.val sg] w fun e w'=>e=.returned (.bool (tsame t u))∧Kp w w' Nul:=by
 induction N with
 | zero=>intro t u sl sg F G w h;have:=size_pos t;omega
 | succ N ih=>
  intro t u sl sg F G w hN hok gok hin gin
  obtain ⟨h,ts⟩:=t
  obtain ⟨g,us⟩:=u
  rw [NdIn] at hin gin
  obtain ⟨a,c,rfl,_,h3,h4⟩:=hin
  obtain ⟨a',c',rfl,_,_,h4'⟩:=gin
  have hts:tsame (.mk h ts) (.mk g us)=(hsame h g && lsame ts us):=by rw [tsame]
  have hsz:Hid ((Nd.mk h ts).size=1+sizeL ts):=by show _=_;rw [Nd.size]
  have HN:Hid ((Nd.mk h ts).size≤N+1):=hN
  have hlen:ts.length≤9223372036854775807:=by unfold maxLen at h3;omega
  simp only [Nd.hd]
  by_cases hno:(hsame h g && ts.length == us.length)=true
  rotate_left
  ·have hno':(hsame h g && ts.length == us.length)=false:=by simpa using hno
   have e:tsame (.mk h ts) (.mk g us)=false:=by
    rw [hts]
    cases hq:hsame h g with
    | false=>rfl
    | true=>
     rw [hq] at hno'
     rw [lsame_len ts us (by simpa using hno')];rfl
   rw [e]
   exact rsame_no h g hok.x gok.x ts.length us.length a a' c c' w hno'
  rw [Bool.and_eq_true] at hno
  obtain ⟨hq,hl⟩:=hno
  have hl':us.length=ts.length:=by have:=beq_iff_eq.1 hl;omega
  have HT:Hid (tsame (.mk h ts) (.mk g us)=lsame ts us):=by show _=_;rw [hts,hq];rfl
  have H1:Hid (∀ w,Calls Tryz.prog 101 #[.float .f64 h.x,.float .f64 g.x] w fun e w'=>e=.returned (.bool (fsame h.x g.x))∧w'=w):=rsameX_at h.x g.x hok.x gok.x
  have IH:Hid (∀ (t u:Nd) (sl sg:Value) (F G:Nat→Prop) (w:World),t.size≤N→t.ok→u.ok→NdIn w F sl t→NdIn w G sg u →
   Calls Tryz.prog 75 #[t.hd.val sl,u.hd.val sg] w fun e w'=>e=.returned (.bool (tsame t u))∧Kp w w' Nul):=ih
  have H4:Hid ((ts=[]∧(c=0∨a≠none))∨∃ b o,a=some ⟨b,o,none⟩∧F b∧NdsIn w F b o ts):=h4
  have H4':Hid ((us=[]∧(c'=0∨a'≠none))∨∃ b o,a'=some ⟨b,o,none⟩∧G b∧NdsIn w G b o us):=h4'
  have HOK:Hid (okL ts∧okL us):=⟨hok.l,gok.l⟩
  obtain ⟨q1,q2,q3,q4,q5,q6,q7,q8⟩:=hsame_all hq
  have e1:=neq_ref h.c1 h.r1 g.c1 g.r1 h.p1 h.q1 g.p1 g.q1 _ q7
  have e2:=neq_ref h.c2 h.r2 g.c2 g.r2 h.p2 h.q2 g.p2 g.q2 _ q8
  have ns:(h.s.toList == g.s.toList)=true:=by simpa using q4
  rw [q3] at H1
  obtain ⟨hk,ho,hx,hs,hb,hf,hc1,hr1,hp1,hq1,hc2,hr2,hp2,hq2⟩:=h
  obtain ⟨gk,go,gx,gs,gb,gf,gc1,gr1,gp1,gq1,gc2,gr2,gp2,gq2⟩:=g
  simp only at q1 q2 q4 q5 q6 q7 q8 e1 e2 ns H1
  subst q1 q2 q5 q6
  rw [hl']
  generalize hn:ts.length=n at *
  have HL:Hid (ts.length=n∧us.length=n):=⟨hn,hl'⟩
  have HLEN:Hid (n≤9223372036854775807):=hlen
  rw [HT.out]
  obtain ⟨A,hA⟩:∃ A,lsame ts us=A:=⟨_,rfl⟩
  have HA:Hid (lsame ts us=A):=hA
  rw [hA]
  obtain ⟨W1,hW1⟩:∃ W1,(w.alloc (.cells ((⟨hk,ho,hx,hs,hb,hf,hc1,hr1,hp1,hq1,hc2,hr2,hp2,hq2⟩:Hd).cells (.slice a n c)).toArray 44)).alloc (.cells ((⟨hk,ho,gx,gs,hb,hf,gc1,gr1,gp1,gq1,gc2,gr2,gp2,gq2⟩:Hd).cells (.slice a' n c')).toArray 44)=W1:=⟨_,rfl⟩
  have k1:Kp w W1 Nul:=by rw [← hW1];exact ((Kp.refl w Nul).alloc _).alloc _
  have b1:Blk W1 w.heap.size ((⟨hk,ho,hx,hs,hb,hf,hc1,hr1,hp1,hq1,hc2,hr2,hp2,hq2⟩:Hd).cells (.slice a n c)) 44:=by rw [← hW1];exact (Blk.new w _ _).alloc _
  have b2:Blk W1 (w.heap.size+1) ((⟨hk,ho,gx,gs,hb,hf,gc1,gr1,gp1,gq1,gc2,gr2,gp2,gq2⟩:Hd).cells (.slice a' n c')) 44:=by
   have:=Blk.new (w.alloc (.cells ((⟨hk,ho,hx,hs,hb,hf,hc1,hr1,hp1,hq1,hc2,hr2,hp2,hq2⟩:Hd).cells (.slice a n c)).toArray 44)) ((⟨hk,ho,gx,gs,hb,hf,gc1,gr1,gp1,gq1,gc2,gr2,gp2,gq2⟩:Hd).cells (.slice a' n c')) 44
   rw [World.size_alloc] at this
   rw [← hW1];exact this
  have HB:Hid (∀ wq,Kp W1 wq Nul→wq.cell? ⟨w.heap.size,14,none⟩=some (.slice a n c)∧wq.cell? ⟨w.heap.size+1,14,none⟩=some (.slice a' n c')):=fun wq hq=>⟨(b1.kp hq (fun x=>x)).cell rfl,(b2.kp hq (fun x=>x)).cell rfl⟩
  have HK1:Hid (Kp w W1 Nul):=k1
  have HW1:Hid ((w.alloc (.cells #[.int .i64 hk,.int .i64 ho,.float .f64 hx,.string hs,.bool hb,.int .i64 hf,.int .i64 hc1,.int .i64 hr1,.bool hp1,.bool hq1,.int .i64 hc2,.int .i64 hr2,.bool hp2,.bool hq2,.slice a n c] 44)).alloc (.cells #[.int .i64 hk,.int .i64 ho,.float .f64 gx,.string gs,.bool hb,.int .i64 hf,.int .i64 gc1,.int .i64 gr1,.bool gp1,.bool gq1,.int .i64 gc2,.int .i64 gr2,.bool gp2,.bool gq2,.slice a' n c'] 44)=W1):=hW1
  clear ih hN h4 h4' h3 hok gok hts hq hl hl' hn hlen hA k1 b1 b2 hW1 q7 q8 q3 q4
  go_enter Tryz.func75,Tryz.ntmps75
  go_wp2_with fail
  refine (H1.out _).mono ?_
  rintro e w1 ⟨rfl,rfl⟩
  go_wp2_with fail
  rw [HW1.out]
  clear HW1 H1 e1 e2 ns
  go_loopw [6] (fun i wr=>∃ q:Nat,q≤n∧i=.int .i64 q∧Kp W1 wr Nul∧lsame (ts.take q) (us.take q)=true) (fun i _=>n - (RowKit.intOf i).toNat)
  case atStart=>exact ⟨0,Nat.zero_le _,rfl,Kp.refl _ _,by rw [List.take_zero,List.take_zero,lsame]⟩
  case round=>
   obtain ⟨q,hq,rfl,hkq,hz⟩:=hrel
   have KQ:Hid (Kp W1 wr Nul):=hkq
   have hkw:Kp w wr Nul:=HK1.out.trans hkq
   have HKW:Hid (Kp w wr Nul):=hkw
   obtain ⟨x14,y14⟩:=HB.out wr hkq
   by_cases hlt:q < n
   ·have hqt:q < ts.length:=by rw [HL.out.1];exact hlt
    have hqu:q < us.length:=by rw [HL.out.2];exact hlt
    obtain ⟨b,o,rfl,hFb,hns⟩:∃ b o,a=some ⟨b,o,none⟩∧F b∧NdsIn w F b o ts:=by
     rcases H4.out with h|h
     ·rw [h.1] at hqt;simp at hqt
     ·exact h
    obtain ⟨b',o',rfl,hGb,gns⟩:∃ b o,a'=some ⟨b,o,none⟩∧G b∧NdsIn w G b o us:=by
     rcases H4'.out with h|h
     ·rw [h.1] at hqu;simp at hqu
     ·exact h
    obtain ⟨s1,hr,hni⟩:=hns.get q hqt
    obtain ⟨s2,gr,gni⟩:=gns.get q hqu
    have hr':wr.rangeAt b (o+q * 15) ((ts[q]).hd.cells s1):=rangeAt_block hr (hkw.block b (rangeAt_lt hr) (fun x=>x))
    have gr':wr.rangeAt b' (o'+q * 15) ((us[q]).hd.cells s2):=rangeAt_block gr (hkw.block b' (rangeAt_lt gr) (fun x=>x))
    have HR:Hid (∀ wq,Kp wr wq Nul→wq.rangeAt b (o+q * 15) ((ts[q]).hd.cells s1)):=fun wq hk=>rangeAt_block hr' (hk.block b (rangeAt_lt hr') (fun x=>x))
    have HR2:Hid (∀ wq,Kp wr wq Nul→wq.rangeAt b' (o'+q * 15) ((us[q]).hd.cells s2)):=fun wq hk=>rangeAt_block gr' (hk.block b' (rangeAt_lt gr') (fun x=>x))
    have hni':=hni.kp hkw (fun _ _ x=>x)
    have gni':=gni.kp hkw (fun _ _ x=>x)
    have hs1:=size_get ts q hqt
    have HC:Hid (∀ wq,Kp wr wq Nul→Calls Tryz.prog 75 #[(ts[q]).hd.val s1,(us[q]).hd.val s2] wq fun e w'=>e=.returned (.bool (tsame ts[q] us[q]))∧Kp wq w' Nul):=fun wq hq=>IH.out ts[q] us[q] s1 s2 F G wq (by have:=HN.out;have:=hsz.out;omega) (HOK.out.1.get q hqt) (HOK.out.2.get q hqu) (hni'.kp hq (fun _ _ x=>x)) (gni'.kp hq (fun _ _ x=>x))
    have HS:Hid (∀ wq,Kp wr wq Nul→wq.cell? ⟨w.heap.size,14,none⟩=some (.slice (some ⟨b,o,none⟩) n c)∧wq.cell? ⟨w.heap.size+1,14,none⟩=some (.slice (some ⟨b',o',none⟩) n c')):=fun wq hk=>HB.out wq (KQ.out.trans hk)
    have hnx:Hid (lsame (ts.take (q+1)) (us.take (q+1))=tsame ts[q] us[q]):=by show _=_;rw [lsame_take ts us q hqt hqu,hz,Bool.true_and]
    have hst:Hid (lsame (ts.take (q+1)) (us.take (q+1))=false→A=false):=fun e=>by rw [← HA.out];exact lsame_stop ts us (q+1) (by rw [HL.out.1,HL.out.2]) e
    clear hs1 hni hni' hr hr' hns gni gni' gr gr' gns hkw hkq hz
    generalize tsame ts[q] us[q]=z at *
    generalize (ts[q]).hd=hh at *
    generalize (us[q]).hd=gg at *
    have hkb:(q:Int)+1≤9223372036854775807:=by have:=HLEN.out;omega
    have hq0:(0:Int)≤(q:Int):=by omega
    have hqn:(q:Int) < (n:Int):=by omega
    go_wp2_with fail
    refine wp_region_noPanic ?_
    refine wp_region_hel (fun w':World=>Kp wr w' Nul) (by kernel_rfl) ((Kp.refl wr Nul).drew) (fun hHeld=>?_)
    refine wpH_takes (i:=0) (v:=?_) (some 80) rfl rfl (by kernel_rfl) (by kernel_rfl) (by kernel_rfl) (fun _ _ _ h=>h) (Or.inl ⟨by rfl,?_⟩) hHeld ?_
    rotate_left
    ·intro w' hSw;obtain ⟨s0,s1⟩:=HS.out _ hSw;clear hSw;go_simp;try with_reducible rfl
    simp only [Act.put,List.setIfInBounds_toArray,List.set_cons_zero,List.set_cons_succ]
    refine wpH_takes (i:=1) (v:=?_) (some 81) rfl rfl (by kernel_rfl) (by kernel_rfl) (by kernel_rfl) (fun _ _ _ h=>h) (Or.inl ⟨by rfl,?_⟩) hHeld ?_
    rotate_left
    ·intro w' hSw;obtain ⟨s0,s1⟩:=HS.out _ hSw;clear hSw;go_simp;try with_reducible rfl
    simp only [Act.put,List.setIfInBounds_toArray,List.set_cons_zero,List.set_cons_succ]
    refine wpH_takes (i:=2) (v:=?_) (some 82) rfl rfl (by kernel_rfl) (by kernel_rfl) (by kernel_rfl) (fun _ _ _ h=>h) (Or.inl ⟨by rfl,?_⟩) hHeld ?_
    rotate_left
    ·intro w' hSw;obtain ⟨s0,s1⟩:=HS.out _ hSw;clear hSw;go_simp;try with_reducible rfl
    simp only [Act.put,List.setIfInBounds_toArray,List.set_cons_zero,List.set_cons_succ]
    refine wpH_takes (i:=3) (v:=?_) (some 83) rfl rfl (by kernel_rfl) (by kernel_rfl) (by kernel_rfl) (fun _ _ _ h=>h) (Or.inl ⟨by rfl,?_⟩) hHeld ?_
    rotate_left
    ·intro w' hSw;obtain ⟨s0,s1⟩:=HS.out _ hSw;clear hSw;go_simp;try with_reducible rfl
    simp only [Act.put,List.setIfInBounds_toArray,List.set_cons_zero,List.set_cons_succ]
    refine wpH_takes (i:=4) (v:=hh.val s1) (some 84) rfl rfl (by kernel_rfl) (by kernel_rfl) (by kernel_rfl) (fun _ _ _ h=>h) (Or.inl ⟨by rfl,fun w' hSw=>exec_load_mid (hh.cells s1) rfl rfl (HR.out w' hSw) rfl⟩) hHeld ?_
    simp only [Act.put,List.setIfInBounds_toArray,List.set_cons_zero,List.set_cons_succ]
    refine wpH_takes (i:=5) (v:=?_) (some 85) rfl rfl (by kernel_rfl) (by kernel_rfl) (by kernel_rfl) (fun _ _ _ h=>h) (Or.inl ⟨by rfl,?_⟩) hHeld ?_
    rotate_left
    ·intro w' hSw;obtain ⟨s0,s1⟩:=HS.out _ hSw;clear hSw;go_simp;try with_reducible rfl
    simp only [Act.put,List.setIfInBounds_toArray,List.set_cons_zero,List.set_cons_succ]
    refine wpH_takes (i:=6) (v:=?_) (some 86) rfl rfl (by kernel_rfl) (by kernel_rfl) (by kernel_rfl) (fun _ _ _ h=>h) (Or.inl ⟨by rfl,?_⟩) hHeld ?_
    rotate_left
    ·intro w' hSw;obtain ⟨s0,s1⟩:=HS.out _ hSw;clear hSw;go_simp;try with_reducible rfl
    simp only [Act.put,List.setIfInBounds_toArray,List.set_cons_zero,List.set_cons_succ]
    refine wpH_takes (i:=7) (v:=?_) (some 87) rfl rfl (by kernel_rfl) (by kernel_rfl) (by kernel_rfl) (fun _ _ _ h=>h) (Or.inl ⟨by rfl,?_⟩) hHeld ?_
    rotate_left
    ·intro w' hSw;obtain ⟨s0,s1⟩:=HS.out _ hSw;clear hSw;go_simp;try with_reducible rfl
    simp only [Act.put,List.setIfInBounds_toArray,List.set_cons_zero,List.set_cons_succ]
    refine wpH_takes (i:=8) (v:=?_) (some 88) rfl rfl (by kernel_rfl) (by kernel_rfl) (by kernel_rfl) (fun _ _ _ h=>h) (Or.inl ⟨by rfl,?_⟩) hHeld ?_
    rotate_left
    ·intro w' hSw;obtain ⟨s0,s1⟩:=HS.out _ hSw;clear hSw;go_simp;try with_reducible rfl
    simp only [Act.put,List.setIfInBounds_toArray,List.set_cons_zero,List.set_cons_succ]
    refine wpH_takes (i:=9) (v:=gg.val s2) (some 89) rfl rfl (by kernel_rfl) (by kernel_rfl) (by kernel_rfl) (fun _ _ _ h=>h) (Or.inl ⟨by rfl,fun w' hSw=>exec_load_mid (gg.cells s2) rfl rfl (HR2.out w' hSw) rfl⟩) hHeld ?_
    simp only [Act.put,List.setIfInBounds_toArray,List.set_cons_zero,List.set_cons_succ]
    refine wpH_step (i:=10) (by kernel_rfl) rfl rfl (fun K hK=>?_)
    go_simp
    refine (HC.out _ ((Kp.refl wr Nul).drew)).mono ?_
    rintro e w2 ⟨rfl,hk2⟩
    have hk2':Kp wr w2 Nul:=((Kp.refl wr Nul).drew).trans hk2
    have HK3:Hid (Kp W1 w2 Nul):=KQ.out.trans hk2'
    have HK4:Hid (Kp w w2 Nul):=HKW.out.trans hk2'
    refine hK.out _ _ hk2' (fun hHeld2=>?_)
    clear hK K hHeld hk2 hk2' HC HS HR HR2 x14 y14
    refine wpH_takes (i:=11) (v:=?_) (some 7) rfl rfl (by kernel_rfl) (by kernel_rfl) (by kernel_rfl) (fun _ _ _ h=>h) (Or.inl ⟨by rfl,?_⟩) hHeld2 ?_
    rotate_left
    ·intro w' hSw;clear hSw;go_simp;try with_reducible rfl
    simp only [Act.put,List.setIfInBounds_toArray,List.set_cons_zero,List.set_cons_succ]
    refine wpAnyH_done (by kernel_rfl) ?_ _
    refine NoPanic.normal ?_
    clear hHeld2
    cases z with
    | true=>
     go_wp2_with fail
     go_roundw
     case rel=>exact ⟨q+1,by omega,by go_num,HK3.out,hnx.out⟩
     case measure=>simp only [RowKit.intOf];omega
    | false=>
     have HE:Hid (A=false):=hst.out hnx.out
     clear hnx hst
     go_wp21
     go_ret
     exact ⟨rBool HE.out.symm,HK4.out⟩
   ·have hqe:q=n:=by omega
    subst hqe
    have hqn:¬ ((q:Int) < (q:Int)):=by omega
    have HE:Hid (A=true):=by
     show _=_
     have h1:=HL.out.1
     have h2:=HL.out.2
     rw [← HA.out,← hz]
     congr 1
     ·rw [List.take_of_length_le (by omega)]
     ·rw [List.take_of_length_le (by omega)]
    clear hz hkw hkq
    go_wp2_with fail
    go_ret
    exact ⟨rBool HE.out.symm,HKW.out⟩
end Go.Proofs.YtlppcfeakakpfaaGreatDoor
namespace Go.Proofs.YtlppcfeakakpfaaGreatDoor
open Go.RowKit Go.Lib
attribute [local irreducible] tsame lsame
def csame (a b:Ct):Bool:=a.k == b.k && (if a.k=1 then vsame a.v b.v else if a.k=2 then tsame a.t b.t else true)
theorem rcSame_at (a b:Ct) (sl sg:Value) (F G:Nat→Prop) (w:World) (ha:a.v.x < 18446744073709551616) (hb:b.v.x < 18446744073709551616) (hok:a.t.ok) (gok:b.t.ok) (hin:NdIn w F sl a.t) (gin:NdIn w G sg b.t) :
  Calls Tryz.prog 53 #[a.val sl,b.val sg] w fun e w'=>e=.returned (.bool (csame a b))∧Kp w w' Nul:=by
 have H1:Hid (∀ w,Calls Tryz.prog 74 #[a.v.val,b.v.val] w fun e w'=>e=.returned (.bool (vsame a.v b.v))∧Kp w w' Nul):=rvSame_at a.v b.v ha hb
 have H2:Hid (∀ wq,Kp w wq Nul→Calls Tryz.prog 75 #[a.t.hd.val sl,b.t.hd.val sg] wq fun e w'=>e=.returned (.bool (tsame a.t b.t))∧Kp wq w' Nul):=fun wq hq=>rsame_any a.t.size a.t b.t sl sg F G wq (Nat.le_refl _) hok gok (hin.kp hq (fun _ _ x=>x)) (gin.kp hq (fun _ _ x=>x))
 have hV:Hid (csame a b=(a.k == b.k && (if a.k=1 then vsame a.v b.v else if a.k=2 then tsame a.t b.t else true))):=rfl
 generalize csame a b=V at *
 generalize vsame a.v b.v=VS1 at *
 generalize tsame a.t b.t=TS1 at *
 clear hin gin hok gok ha hb
 have fin:Hid (∀ o1 o2,Kp w ((w.alloc o1).alloc o2) Nul):=fun o1 o2=>((Kp.refl w Nul).alloc _).alloc _
 obtain ⟨k,⟨vk,vx,vs,vb,vf⟩,t⟩:=a
 obtain ⟨k',⟨vk',vx',vs',vb',vf'⟩,t'⟩:=b
 simp only at *
 by_cases hk:k=k'
 rotate_left
 ·have nk:(k == k')=false:=by simpa using hk
  have HE:Hid (V=false):=by show _=_;rw [hV.out,nk];rfl
  clear hV H1 H2
  go_enter Tryz.func53,Tryz.ntmps53
  go_wp2_with fail
  go_ret
  exact ⟨rBool HE.out.symm,fin.out _ _⟩
 subst hk
 by_cases k1:k=1
 ·subst k1
  have HE:Hid (V=VS1):=by show _=_;rw [hV.out];simp
  clear hV H2
  go_enter Tryz.func53,Tryz.ntmps53
  go_wp2_with fail
  refine (H1.out _).mono ?_
  rintro e w1 ⟨rfl,hk1⟩
  have G1:Hid (Kp w w1 Nul):=(fin.out _ _).trans hk1
  clear hk1
  go_wp2_with fail
  go_ret
  exact ⟨rBool HE.out.symm,G1.out⟩
 by_cases k2:k=2
 ·subst k2
  have HE:Hid (V=TS1):=by show _=_;rw [hV.out];simp
  clear hV H1
  go_enter Tryz.func53,Tryz.ntmps53
  go_wp2_with fail
  refine (H2.out _ (fin.out _ _)).mono ?_
  rintro e w1 ⟨rfl,hk1⟩
  have G1:Hid (Kp w w1 Nul):=(fin.out _ _).trans hk1
  clear hk1
  go_wp2_with fail
  go_ret
  exact ⟨rBool HE.out.symm,G1.out⟩
 ·have e1:(k == 1)=false:=by simpa using k1
  have e2:(k == 2)=false:=by simpa using k2
  have HE:Hid (V=true):=by show _=_;rw [hV.out];simp [k1,k2]
  clear hV H1 H2
  go_enter Tryz.func53,Tryz.ntmps53
  go_wp2_with fail
  go_ret
  exact ⟨rBool HE.out.symm,fin.out _ _⟩
end Go.Proofs.YtlppcfeakakpfaaGreatDoor
namespace Go.Proofs.YtlppcfeakakpfaaGreatDoor
open Go.RowKit Go.Lib
theorem bares:BaresAll:=⟨rbare_2,rbare_4,rbare_8,rbare_16,rbare_32,rbare_96,rbare_129,rbare_132⟩
theorem rgv_at (c:Ct) (sl:Value) (F:Nat→Prop) (w:World) (hsz:c.t.size≤1048576) (hok:c.t.ok) (htx:c.t.txt) (hs:c.v.s.size≤140737488355328) (hin:NdIn w F sl c.t) :
  Calls Tryz.prog 42 #[c.val sl] w fun e w'=>e=.returned (.bool (validC c (validD c.v.s.data.toList) (chk c.t)))∧Kp w w' Nul:=
 rcValid_at c sl F (chk c.t) w hin hs (fun wq hq=>rcheck_at bares c.t sl F wq hsz hok htx (hin.kp hq (fun _ _ x=>x)))
end Go.Proofs.YtlppcfeakakpfaaGreatDoor
