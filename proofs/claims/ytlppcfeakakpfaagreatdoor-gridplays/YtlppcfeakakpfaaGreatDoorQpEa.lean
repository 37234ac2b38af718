/- The document's Count, Depth and bare (quadrilleref12). The document's bare (quadrilleref12), with the mask 132. The document's bare (quadrilleref12), with the mask 129. The document's bare (quadrilleref12), with the mask 96. The document's bare (quadrilleref12), with the mask 4. The document's well made nodes are the program's. No function of the program here. The document's bare (quadrilleref12), with the mask 2. The document's bare (quadrilleref12), with the mask 16. -/
import Derived.Test.YtlppcfeakakpfaaGreatDoorQpQa
set_option maxRecDepth 20000
set_option maxHeartbeats 16000000
namespace Go.Proofs.YtlppcfeakakpfaaGreatDoor
open Go.RowKit
theorem rcount_any (N:Nat):∀ (t:Nd) (sl:Value) (F:Nat→Prop) (w:World),t.size≤N→N≤1048576→NdIn w F sl t →
  Calls Tryz.prog 84 #[t.hd.val sl] w fun e w'=>e=.returned (.int .i64 (t.size:Nat))∧Gr w w':=by
 induction N with
 | zero=>intro t sl F w h;have:=size_pos t;omega
 | succ N ih=>
  intro t sl F w hN hB hin
  have hdl:t.size≤t.size:=Nat.le_refl _
  obtain ⟨hd,ts⟩:=t
  rw [NdIn] at hin
  obtain ⟨a,c,rfl,h2,h3,h4⟩:=hin
  have hsz:Hid ((Nd.mk hd ts).size=1+sizeL ts):=by show _=_;rw [Nd.size]
  have hdp:Hid ((Nd.mk hd ts).size=1+sizeL ts):=by show _=_;rw [Nd.size]
  have HN:Hid ((Nd.mk hd ts).size≤N+1):=hN
  have HBd:Hid (N+1≤1048576):=hB
  have IH:Hid (∀ (t:Nd) (sl:Value) (F:Nat→Prop) (w:World),t.size≤N→N≤1048576→NdIn w F sl t →
   Calls Tryz.prog 84 #[t.hd.val sl] w fun e w'=>e=.returned (.int .i64 (t.size:Nat))∧Gr w w'):=ih
  clear ih hN hB
  have hlen:ts.length≤9223372036854775807:=by unfold maxLen at h3;omega
  have H4:Hid ((ts=[]∧(c=0∨a≠none))∨∃ b o,a=some ⟨b,o,none⟩∧F b∧NdsIn w F b o ts):=h4
  have HD:Hid (sizeL ts≤1048576):=by show _≤_;have:=HN.out;have:=HBd.out;have:=hdp.out;omega
  clear h4 h2 h3 hdl
  generalize hn:ts.length=n at *
  have HL:Hid (ts.length=n):=hn
  have HLEN:Hid (n≤9223372036854775807):=hlen
  clear hn hlen
  generalize hW:(Nd.mk hd ts).size=S at *
  simp only [Nd.hd]
  obtain ⟨k,o',x,s,bb,f,c1,r1,p1,q1,c2,r2,p2,q2⟩:=hd
  go_enter Tryz.func84,Tryz.ntmps84
  go_wp2_with fail
  generalize hW0:(w.alloc (.cells #[.int .i64 k,.int .i64 o',.float .f64 x,.string s,.bool bb,.int .i64 f,.int .i64 c1,.int .i64 r1,.bool p1,.bool q1,.int .i64 c2,.int .i64 r2,.bool p2,.bool q2,.slice a n c] 44))=W0 at *
  have G0:Hid (Gr w W0):=by show Gr _ _;rw [← hW0];exact (Gr.refl w).alloc _ _
  have C0:Hid (W0.cell? ⟨w.heap.size,14,none⟩=some (.slice a n c)):=by
   show _=_
   rw [← hW0,World.cell?_alloc_at _ _ _ _ rfl];rfl
  have HB:Hid (w.heap.size < W0.heap.size):=cell_lt C0.out
  clear hW0
  go_loopw [3,4] (fun s i wr=>∃ k:Nat,k≤n∧s=.int .i64 (1+sizeL (ts.take k):Nat)∧i=.int .i64 k∧Gr W0 wr) (fun _ i _=>n - (intOf i).toNat)
  case atStart=>exact ⟨0,Nat.zero_le _,by simp [sizeL],by simp,Gr.refl _⟩
  case round=>
   obtain ⟨k,hk,rfl,rfl,hg⟩:=hrel
   have GR:Hid (Gr W0 wr):=hg
   have cl:wr.cell? ⟨w.heap.size,14,none⟩=some (.slice a n c):=hg.cell HB.out C0.out
   clear hg
   by_cases hlt:k < n
   ·have hki:k < ts.length:=by rw [HL.out];exact hlt
    obtain ⟨b,o,rfl,hF,hns⟩:∃ b o,a=some ⟨b,o,none⟩∧F b∧NdsIn w F b o ts:=by
     rcases H4.out with h|h
     ·rw [h.1] at hki;simp at hki
     ·exact h
    obtain ⟨sl,hr,hni⟩:=hns.get k hki
    have G1:Gr w wr:=G0.out.trans GR.out
    have HR:Hid (wr.rangeAt b (o+k * 15) ((ts[k]).hd.cells sl)):=rangeAt_gr hr G1
    have hni':=hni.gr G1
    have hs1:=size_get ts k hki
    have HC:Hid (∀ wq,Gr wr wq→Calls Tryz.prog 84 #[(ts[k]).hd.val sl] wq fun e w'=>e=.returned (.int .i64 ((ts[k]).size:Nat))∧Gr wq w'):=fun wq hq=>IH.out ts[k] sl F wq (by have:=HN.out;have:=hsz.out;omega) (by have:=HBd.out;omega) (hni'.gr hq)
    have hA:Hid (sizeL (ts.take (k+1))=sizeL (ts.take k)+(ts[k]).size):=sizeL_take ts k hki
    have hbd:sizeL (ts.take (k+1))≤1048576:=by
     have:=HD.out
     have h9:sizeL (ts.take (k+1))≤sizeL ts:=sizeL_take_le ts (k+1)
     have:=HN.out
     have:=HBd.out
     have:=hsz.out
     omega
    rw [hA.out] at hbd
    clear hs1 hni hni' hr hns
    generalize (ts[k]).size=z at *
    generalize (ts[k]).hd=hh at *
    generalize sizeL (ts.take k)=y at *
    have hkb:(k:Int)+1≤9223372036854775807:=by have:=HLEN.out;omega
    have hz1:z≤1048576:=by omega
    have hy1:y≤1048576:=by omega
    clear hW hbd
    as_aux_lemma=>
    go_wp2_with (refine wpList_load_mid rfl 44 (.tmp 16) rfl b (o+k * 15) rfl (hh.cells sl) _ HR.out Tryz.underlying44 rfl infoNode ?_)
    refine (HC.out _ (Gr.refl _)).mono ?_
    rintro e w1 ⟨rfl,hg1⟩
    have G2:Hid (Gr W0 w1):=GR.out.trans hg1
    clear hg1 cl
    go_wp2_with fail
    go_roundw
    case rel=>exact ⟨k+1,by omega,by rw [hA.out];congr 1;omega,by go_num,G2.out⟩
    case measure=>simp only [intOf];omega
   ·have hke:k=n:=by omega
    subst hke
    have hw4:Hid (1+sizeL (ts.take k)=S):=by
     show _=_
     rw [← HL.out,List.take_length,← hdp.out]
    have hd1:sizeL (ts.take k)≤1048576:=by rw [← HL.out,List.take_length];exact HD.out
    generalize sizeL (ts.take k)=y at *
    clear hW
    as_aux_lemma=>
    go_wp2_with fail
    go_ret
    exact ⟨rInt (by have:=hw4.out;omega),G0.out.trans GR.out⟩
theorem rdepth_any (N:Nat):∀ (t:Nd) (sl:Value) (F:Nat→Prop) (w:World),t.size≤N→N≤1048576→NdIn w F sl t →
  Calls Tryz.prog 85 #[t.hd.val sl] w fun e w'=>e=.returned (.int .i64 (t.dep:Nat))∧Gr w w':=by
 induction N with
 | zero=>intro t sl F w h;have:=size_pos t;omega
 | succ N ih=>
  intro t sl F w hN hB hin
  have hdl:t.dep≤t.size:=dep_le t
  obtain ⟨hd,ts⟩:=t
  rw [NdIn] at hin
  obtain ⟨a,c,rfl,h2,h3,h4⟩:=hin
  have hsz:Hid ((Nd.mk hd ts).size=1+sizeL ts):=by show _=_;rw [Nd.size]
  have hdp:Hid ((Nd.mk hd ts).dep=1+depL ts):=by show _=_;rw [Nd.dep]
  have HN:Hid ((Nd.mk hd ts).size≤N+1):=hN
  have HBd:Hid (N+1≤1048576):=hB
  have IH:Hid (∀ (t:Nd) (sl:Value) (F:Nat→Prop) (w:World),t.size≤N→N≤1048576→NdIn w F sl t →
   Calls Tryz.prog 85 #[t.hd.val sl] w fun e w'=>e=.returned (.int .i64 (t.dep:Nat))∧Gr w w'):=ih
  clear ih hN hB
  have hlen:ts.length≤9223372036854775807:=by unfold maxLen at h3;omega
  have H4:Hid ((ts=[]∧(c=0∨a≠none))∨∃ b o,a=some ⟨b,o,none⟩∧F b∧NdsIn w F b o ts):=h4
  have HD:Hid (depL ts≤1048576):=by show _≤_;have:=HN.out;have:=HBd.out;have:=hdp.out;omega
  clear h4 h2 h3 hdl
  generalize hn:ts.length=n at *
  have HL:Hid (ts.length=n):=hn
  have HLEN:Hid (n≤9223372036854775807):=hlen
  clear hn hlen
  generalize hW:(Nd.mk hd ts).dep=S at *
  simp only [Nd.hd]
  obtain ⟨k,o',x,s,bb,f,c1,r1,p1,q1,c2,r2,p2,q2⟩:=hd
  go_enter Tryz.func85,Tryz.ntmps85
  go_wp2_with fail
  generalize hW0:(w.alloc (.cells #[.int .i64 k,.int .i64 o',.float .f64 x,.string s,.bool bb,.int .i64 f,.int .i64 c1,.int .i64 r1,.bool p1,.bool q1,.int .i64 c2,.int .i64 r2,.bool p2,.bool q2,.slice a n c] 44))=W0 at *
  have G0:Hid (Gr w W0):=by show Gr _ _;rw [← hW0];exact (Gr.refl w).alloc _ _
  have C0:Hid (W0.cell? ⟨w.heap.size,14,none⟩=some (.slice a n c)):=by
   show _=_
   rw [← hW0,World.cell?_alloc_at _ _ _ _ rfl];rfl
  have HB:Hid (w.heap.size < W0.heap.size):=cell_lt C0.out
  clear hW0
  go_loopw [3,4] (fun s i wr=>∃ k:Nat,k≤n∧s=.int .i64 (depL (ts.take k):Nat)∧i=.int .i64 k∧Gr W0 wr) (fun _ i _=>n - (intOf i).toNat)
  case atStart=>exact ⟨0,Nat.zero_le _,by simp [depL],by simp,Gr.refl _⟩
  case round=>
   obtain ⟨k,hk,rfl,rfl,hg⟩:=hrel
   have GR:Hid (Gr W0 wr):=hg
   have cl:wr.cell? ⟨w.heap.size,14,none⟩=some (.slice a n c):=hg.cell HB.out C0.out
   clear hg
   by_cases hlt:k < n
   ·have hki:k < ts.length:=by rw [HL.out];exact hlt
    obtain ⟨b,o,rfl,hF,hns⟩:∃ b o,a=some ⟨b,o,none⟩∧F b∧NdsIn w F b o ts:=by
     rcases H4.out with h|h
     ·rw [h.1] at hki;simp at hki
     ·exact h
    obtain ⟨sl,hr,hni⟩:=hns.get k hki
    have G1:Gr w wr:=G0.out.trans GR.out
    have HR:Hid (wr.rangeAt b (o+k * 15) ((ts[k]).hd.cells sl)):=rangeAt_gr hr G1
    have hni':=hni.gr G1
    have hs1:=size_get ts k hki
    have HC:Hid (∀ wq,Gr wr wq→Calls Tryz.prog 85 #[(ts[k]).hd.val sl] wq fun e w'=>e=.returned (.int .i64 ((ts[k]).dep:Nat))∧Gr wq w'):=fun wq hq=>IH.out ts[k] sl F wq (by have:=HN.out;have:=hsz.out;omega) (by have:=HBd.out;omega) (hni'.gr hq)
    have hA:Hid (depL (ts.take (k+1))=max (depL (ts.take k)) (ts[k]).dep):=depL_take ts k hki
    have hbd:depL (ts.take (k+1))≤1048576:=by
     have:=HD.out
     have h9:depL (ts.take (k+1))≤sizeL ts:=Nat.le_trans (depL_le _) (sizeL_take_le ts (k+1))
     have:=HN.out
     have:=HBd.out
     have:=hsz.out
     omega
    rw [hA.out] at hbd
    clear hs1 hni hni' hr hns
    generalize (ts[k]).dep=z at *
    generalize (ts[k]).hd=hh at *
    generalize depL (ts.take k)=y at *
    have hkb:(k:Int)+1≤9223372036854775807:=by have:=HLEN.out;omega
    skip
    clear hW hbd
    as_aux_lemma=>
    go_wp2_with (refine wpList_load_mid rfl 44 (.tmp 16) rfl b (o+k * 15) rfl (hh.cells sl) _ HR.out Tryz.underlying44 rfl infoNode ?_)
    refine (HC.out _ (Gr.refl _)).mono ?_
    rintro e w1 ⟨rfl,hg1⟩
    have G2:Hid (Gr W0 w1):=GR.out.trans hg1
    clear hg1 cl
    go_wp2_with fail
    go_roundw
    case rel=>exact ⟨k+1,by omega,by rw [hA.out];congr 1;first|(split <;> omega)|omega|(push_cast;rfl)|simp,by go_num,G2.out⟩
    case measure=>simp only [intOf];omega
   ·have hke:k=n:=by omega
    subst hke
    have hw4:Hid (1+depL (ts.take k)=S):=by
     show _=_
     rw [← HL.out,List.take_length,← hdp.out]
    have hd1:depL (ts.take k)≤1048576:=by rw [← HL.out,List.take_length];exact HD.out
    generalize depL (ts.take k)=y at *
    clear hW
    as_aux_lemma=>
    go_wp2_with fail
    go_ret
    exact ⟨rInt (by have:=hw4.out;omega),G0.out.trans GR.out⟩
def bareB (o x s b f r t a:Bool) (h:Hd) (n:Nat):Bool:=(o || h.o == 0) && (x || (h.x:Int) == 0) && (s || decide (h.s.toList=[])) && (b || !h.b) && (f || h.f == 0) && (r || (h.c1 == 0 && h.r1 == 0 && h.p1 == false && h.q1 == false)) && (t || (h.c2 == 0 && h.r2 == 0 && h.p2 == false && h.q2 == false)) && (a || n == 0)
end Go.Proofs.YtlppcfeakakpfaaGreatDoor
namespace Go.Proofs.YtlppcfeakakpfaaGreatDoor
open Go.RowKit
theorem and_132_1:bits .and .i64 132 1=0:=by kernel_rfl
theorem and_132_2:bits .and .i64 132 2=0:=by kernel_rfl
theorem and_132_4:bits .and .i64 132 4=4:=by kernel_rfl
theorem and_132_8:bits .and .i64 132 8=0:=by kernel_rfl
theorem and_132_16:bits .and .i64 132 16=0:=by kernel_rfl
theorem and_132_32:bits .and .i64 132 32=0:=by kernel_rfl
theorem and_132_64:bits .and .i64 132 64=0:=by kernel_rfl
theorem and_132_128:bits .and .i64 132 128=128:=by kernel_rfl
attribute [local go_sem] and_132_1 and_132_2 and_132_4 and_132_8 and_132_16 and_132_32 and_132_64 and_132_128
theorem rbare_132 (h:Hd) (n:Nat) (a:Option Addr) (c:Nat) (w:World) :
  Calls Tryz.prog 144 #[h.val (.slice a n c),.int .i64 132] w fun e w'=>e=.returned (.bool (bareB false false true false false false false true h n))∧Gr w w':=by
 have e1:=eql_ref h.c1 h.r1 0 0 h.p1 h.q1 false false _ rfl
 have e2:=eql_ref h.c2 h.r2 0 0 h.p2 h.q2 false false _ rfl
 have hV:Hid (bareB false false true false false false false true h n=((false || h.o == 0) && (false || (h.x:Int) == 0) && (true || decide (h.s.toList=[])) && (false || !h.b) && (false || h.f == 0) && (false || (h.c1 == 0 && h.r1 == 0 && h.p1 == false && h.q1 == false)) && (false || (h.c2 == 0 && h.r2 == 0 && h.p2 == false && h.q2 == false)) && (true || n == 0))):=rfl
 have G0:Hid (∀ a b t u,Gr w ((w.alloc (.cells a t)).alloc (.cells b u))):=fun a b t u=>((Gr.refl w).alloc _ _).alloc _ _
 generalize bareB false false true false false false false true h n=V at *
 generalize (h.c1 == 0 && h.r1 == 0 && h.p1 == false && h.q1 == false)=b1 at *
 generalize (h.c2 == 0 && h.r2 == 0 && h.p2 == false && h.q2 == false)=b2 at *
 obtain ⟨k,o,x,s,b,f,c1,r1,p1,q1,c2,r2,p2,q2⟩:=h
 simp only at *
 by_cases ho:o=0
 rotate_left
 ·have no:(o == 0)=false:=by simpa using ho
  have HE:Hid (V=false):=by show _=_;rw [hV.out];simp [no]
  clear hV
  go_enter Tryz.func144,Tryz.ntmps144
  simp only [List.append_eq,List.cons_append,List.nil_append]
  go_wp21
  go_ret
  exact ⟨rBool HE.out.symm,G0.out _ _ _ _⟩
 subst ho
 by_cases hx:x=0
 rotate_left
 ·have nx:((x:Int) == 0)=false:=by simp;exact hx
  have HE:Hid (V=false):=by show _=_;rw [hV.out];simp [hx]
  clear hV
  go_enter Tryz.func144,Tryz.ntmps144
  simp only [List.append_eq,List.cons_append,List.nil_append]
  go_wp21
  go_ret
  exact ⟨rBool HE.out.symm,G0.out _ _ _ _⟩
 subst hx
 cases b
 rotate_left
 ·skip
  have HE:Hid (V=false):=by show _=_;rw [hV.out];simp
  clear hV
  go_enter Tryz.func144,Tryz.ntmps144
  simp only [List.append_eq,List.cons_append,List.nil_append]
  go_wp21
  go_ret
  exact ⟨rBool HE.out.symm,G0.out _ _ _ _⟩
 by_cases hf:f=0
 rotate_left
 ·have nf:(f == 0)=false:=by simpa using hf
  have HE:Hid (V=false):=by show _=_;rw [hV.out];simp [nf]
  clear hV
  go_enter Tryz.func144,Tryz.ntmps144
  simp only [List.append_eq,List.cons_append,List.nil_append]
  go_wp21
  go_ret
  exact ⟨rBool HE.out.symm,G0.out _ _ _ _⟩
 subst hf
 cases b1
 ·skip
  have HE:Hid (V=false):=by show _=_;rw [hV.out];simp
  clear hV
  go_enter Tryz.func144,Tryz.ntmps144
  simp only [List.append_eq,List.cons_append,List.nil_append]
  go_wp21
  go_ret
  exact ⟨rBool HE.out.symm,G0.out _ _ _ _⟩
 cases b2
 ·skip
  have HE:Hid (V=false):=by show _=_;rw [hV.out];simp
  clear hV
  go_enter Tryz.func144,Tryz.ntmps144
  simp only [List.append_eq,List.cons_append,List.nil_append]
  go_wp21
  go_ret
  exact ⟨rBool HE.out.symm,G0.out _ _ _ _⟩
 have HE:Hid (V=true):=by show _=_;rw [hV.out];simp
 clear hV
 go_enter Tryz.func144,Tryz.ntmps144
 simp only [List.append_eq,List.cons_append,List.nil_append]
 go_wp21
 go_ret
 exact ⟨rBool HE.out.symm,G0.out _ _ _ _⟩
end Go.Proofs.YtlppcfeakakpfaaGreatDoor
namespace Go.Proofs.YtlppcfeakakpfaaGreatDoor
open Go.RowKit
theorem and_129_1:bits .and .i64 129 1=1:=by kernel_rfl
theorem and_129_2:bits .and .i64 129 2=0:=by kernel_rfl
theorem and_129_4:bits .and .i64 129 4=0:=by kernel_rfl
theorem and_129_8:bits .and .i64 129 8=0:=by kernel_rfl
theorem and_129_16:bits .and .i64 129 16=0:=by kernel_rfl
theorem and_129_32:bits .and .i64 129 32=0:=by kernel_rfl
theorem and_129_64:bits .and .i64 129 64=0:=by kernel_rfl
theorem and_129_128:bits .and .i64 129 128=128:=by kernel_rfl
attribute [local go_sem] and_129_1 and_129_2 and_129_4 and_129_8 and_129_16 and_129_32 and_129_64 and_129_128
theorem rbare_129 (h:Hd) (n:Nat) (a:Option Addr) (c:Nat) (w:World) :
  Calls Tryz.prog 144 #[h.val (.slice a n c),.int .i64 129] w fun e w'=>e=.returned (.bool (bareB true false false false false false false true h n))∧Gr w w':=by
 have e1:=eql_ref h.c1 h.r1 0 0 h.p1 h.q1 false false _ rfl
 have e2:=eql_ref h.c2 h.r2 0 0 h.p2 h.q2 false false _ rfl
 have hV:Hid (bareB true false false false false false false true h n=((true || h.o == 0) && (false || (h.x:Int) == 0) && (false || decide (h.s.toList=[])) && (false || !h.b) && (false || h.f == 0) && (false || (h.c1 == 0 && h.r1 == 0 && h.p1 == false && h.q1 == false)) && (false || (h.c2 == 0 && h.r2 == 0 && h.p2 == false && h.q2 == false)) && (true || n == 0))):=rfl
 have G0:Hid (∀ a b t u,Gr w ((w.alloc (.cells a t)).alloc (.cells b u))):=fun a b t u=>((Gr.refl w).alloc _ _).alloc _ _
 generalize bareB true false false false false false false true h n=V at *
 generalize (h.c1 == 0 && h.r1 == 0 && h.p1 == false && h.q1 == false)=b1 at *
 generalize (h.c2 == 0 && h.r2 == 0 && h.p2 == false && h.q2 == false)=b2 at *
 obtain ⟨k,o,x,s,b,f,c1,r1,p1,q1,c2,r2,p2,q2⟩:=h
 simp only at *
 by_cases hx:x=0
 rotate_left
 ·have nx:((x:Int) == 0)=false:=by simp;exact hx
  have HE:Hid (V=false):=by show _=_;rw [hV.out];simp [hx]
  clear hV
  go_enter Tryz.func144,Tryz.ntmps144
  simp only [List.append_eq,List.cons_append,List.nil_append]
  go_wp21
  go_ret
  exact ⟨rBool HE.out.symm,G0.out _ _ _ _⟩
 subst hx
 by_cases hs:s.toList=[]
 rotate_left
 ·have ns:(s.toList == [])=false:=by simpa using hs
  have HE:Hid (V=false):=by show _=_;rw [hV.out];simp [hs]
  clear hV
  go_enter Tryz.func144,Tryz.ntmps144
  simp only [List.append_eq,List.cons_append,List.nil_append]
  go_wp21
  go_ret
  exact ⟨rBool HE.out.symm,G0.out _ _ _ _⟩
 have ns:(s.toList == [])=true:=by simpa using hs
 cases b
 rotate_left
 ·skip
  have HE:Hid (V=false):=by show _=_;rw [hV.out];simp [hs]
  clear hV
  go_enter Tryz.func144,Tryz.ntmps144
  simp only [List.append_eq,List.cons_append,List.nil_append]
  go_wp21
  go_ret
  exact ⟨rBool HE.out.symm,G0.out _ _ _ _⟩
 by_cases hf:f=0
 rotate_left
 ·have nf:(f == 0)=false:=by simpa using hf
  have HE:Hid (V=false):=by show _=_;rw [hV.out];simp [hs,nf]
  clear hV
  go_enter Tryz.func144,Tryz.ntmps144
  simp only [List.append_eq,List.cons_append,List.nil_append]
  go_wp21
  go_ret
  exact ⟨rBool HE.out.symm,G0.out _ _ _ _⟩
 subst hf
 cases b1
 ·skip
  have HE:Hid (V=false):=by show _=_;rw [hV.out];simp [hs]
  clear hV
  go_enter Tryz.func144,Tryz.ntmps144
  simp only [List.append_eq,List.cons_append,List.nil_append]
  go_wp21
  go_ret
  exact ⟨rBool HE.out.symm,G0.out _ _ _ _⟩
 cases b2
 ·skip
  have HE:Hid (V=false):=by show _=_;rw [hV.out];simp [hs]
  clear hV
  go_enter Tryz.func144,Tryz.ntmps144
  simp only [List.append_eq,List.cons_append,List.nil_append]
  go_wp21
  go_ret
  exact ⟨rBool HE.out.symm,G0.out _ _ _ _⟩
 have HE:Hid (V=true):=by show _=_;rw [hV.out];simp [hs]
 clear hV
 go_enter Tryz.func144,Tryz.ntmps144
 simp only [List.append_eq,List.cons_append,List.nil_append]
 go_wp21
 go_ret
 exact ⟨rBool HE.out.symm,G0.out _ _ _ _⟩
end Go.Proofs.YtlppcfeakakpfaaGreatDoor
namespace Go.Proofs.YtlppcfeakakpfaaGreatDoor
open Go.RowKit
theorem and_96_1:bits .and .i64 96 1=0:=by kernel_rfl
theorem and_96_2:bits .and .i64 96 2=0:=by kernel_rfl
theorem and_96_4:bits .and .i64 96 4=0:=by kernel_rfl
theorem and_96_8:bits .and .i64 96 8=0:=by kernel_rfl
theorem and_96_16:bits .and .i64 96 16=0:=by kernel_rfl
theorem and_96_32:bits .and .i64 96 32=32:=by kernel_rfl
theorem and_96_64:bits .and .i64 96 64=64:=by kernel_rfl
theorem and_96_128:bits .and .i64 96 128=0:=by kernel_rfl
attribute [local go_sem] and_96_1 and_96_2 and_96_4 and_96_8 and_96_16 and_96_32 and_96_64 and_96_128
theorem rbare_96 (h:Hd) (n:Nat) (a:Option Addr) (c:Nat) (w:World) :
  Calls Tryz.prog 144 #[h.val (.slice a n c),.int .i64 96] w fun e w'=>e=.returned (.bool (bareB false false false false false true true false h n))∧Gr w w':=by
 have e1:=eql_ref h.c1 h.r1 0 0 h.p1 h.q1 false false _ rfl
 have e2:=eql_ref h.c2 h.r2 0 0 h.p2 h.q2 false false _ rfl
 have hV:Hid (bareB false false false false false true true false h n=((false || h.o == 0) && (false || (h.x:Int) == 0) && (false || decide (h.s.toList=[])) && (false || !h.b) && (false || h.f == 0) && (true || (h.c1 == 0 && h.r1 == 0 && h.p1 == false && h.q1 == false)) && (true || (h.c2 == 0 && h.r2 == 0 && h.p2 == false && h.q2 == false)) && (false || n == 0))):=rfl
 have G0:Hid (∀ a b t u,Gr w ((w.alloc (.cells a t)).alloc (.cells b u))):=fun a b t u=>((Gr.refl w).alloc _ _).alloc _ _
 generalize bareB false false false false false true true false h n=V at *
 generalize (h.c1 == 0 && h.r1 == 0 && h.p1 == false && h.q1 == false)=b1 at *
 generalize (h.c2 == 0 && h.r2 == 0 && h.p2 == false && h.q2 == false)=b2 at *
 obtain ⟨k,o,x,s,b,f,c1,r1,p1,q1,c2,r2,p2,q2⟩:=h
 simp only at *
 by_cases ho:o=0
 rotate_left
 ·have no:(o == 0)=false:=by simpa using ho
  have HE:Hid (V=false):=by show _=_;rw [hV.out];simp [no]
  clear hV
  go_enter Tryz.func144,Tryz.ntmps144
  simp only [List.append_eq,List.cons_append,List.nil_append]
  go_wp21
  go_ret
  exact ⟨rBool HE.out.symm,G0.out _ _ _ _⟩
 subst ho
 by_cases hx:x=0
 rotate_left
 ·have nx:((x:Int) == 0)=false:=by simp;exact hx
  have HE:Hid (V=false):=by show _=_;rw [hV.out];simp [hx]
  clear hV
  go_enter Tryz.func144,Tryz.ntmps144
  simp only [List.append_eq,List.cons_append,List.nil_append]
  go_wp21
  go_ret
  exact ⟨rBool HE.out.symm,G0.out _ _ _ _⟩
 subst hx
 by_cases hs:s.toList=[]
 rotate_left
 ·have ns:(s.toList == [])=false:=by simpa using hs
  have HE:Hid (V=false):=by show _=_;rw [hV.out];simp [hs]
  clear hV
  go_enter Tryz.func144,Tryz.ntmps144
  simp only [List.append_eq,List.cons_append,List.nil_append]
  go_wp21
  go_ret
  exact ⟨rBool HE.out.symm,G0.out _ _ _ _⟩
 have ns:(s.toList == [])=true:=by simpa using hs
 cases b
 rotate_left
 ·skip
  have HE:Hid (V=false):=by show _=_;rw [hV.out];simp [hs]
  clear hV
  go_enter Tryz.func144,Tryz.ntmps144
  simp only [List.append_eq,List.cons_append,List.nil_append]
  go_wp21
  go_ret
  exact ⟨rBool HE.out.symm,G0.out _ _ _ _⟩
 by_cases hf:f=0
 rotate_left
 ·have nf:(f == 0)=false:=by simpa using hf
  have HE:Hid (V=false):=by show _=_;rw [hV.out];simp [hs,nf]
  clear hV
  go_enter Tryz.func144,Tryz.ntmps144
  simp only [List.append_eq,List.cons_append,List.nil_append]
  go_wp21
  go_ret
  exact ⟨rBool HE.out.symm,G0.out _ _ _ _⟩
 subst hf
 by_cases hn:n=0
 rotate_left
 ·have nn:((n:Int) == 0)=false:=by simp;exact hn
  have HE:Hid (V=false):=by show _=_;rw [hV.out];simp [hs,hn]
  clear hV
  go_enter Tryz.func144,Tryz.ntmps144
  simp only [List.append_eq,List.cons_append,List.nil_append]
  go_wp21
  go_ret
  exact ⟨rBool HE.out.symm,G0.out _ _ _ _⟩
 subst hn
 have HE:Hid (V=true):=by show _=_;rw [hV.out];simp [hs]
 clear hV
 go_enter Tryz.func144,Tryz.ntmps144
 simp only [List.append_eq,List.cons_append,List.nil_append]
 go_wp21
 go_ret
 exact ⟨rBool HE.out.symm,G0.out _ _ _ _⟩
end Go.Proofs.YtlppcfeakakpfaaGreatDoor
namespace Go.Proofs.YtlppcfeakakpfaaGreatDoor
open Go.RowKit
theorem and_4_1:bits .and .i64 4 1=0:=by kernel_rfl
theorem and_4_2:bits .and .i64 4 2=0:=by kernel_rfl
theorem and_4_4:bits .and .i64 4 4=4:=by kernel_rfl
theorem and_4_8:bits .and .i64 4 8=0:=by kernel_rfl
theorem and_4_16:bits .and .i64 4 16=0:=by kernel_rfl
theorem and_4_32:bits .and .i64 4 32=0:=by kernel_rfl
theorem and_4_64:bits .and .i64 4 64=0:=by kernel_rfl
theorem and_4_128:bits .and .i64 4 128=0:=by kernel_rfl
attribute [local go_sem] and_4_1 and_4_2 and_4_4 and_4_8 and_4_16 and_4_32 and_4_64 and_4_128
theorem rbare_4 (h:Hd) (n:Nat) (a:Option Addr) (c:Nat) (w:World) :
  Calls Tryz.prog 144 #[h.val (.slice a n c),.int .i64 4] w fun e w'=>e=.returned (.bool (bareB false false true false false false false false h n))∧Gr w w':=by
 have e1:=eql_ref h.c1 h.r1 0 0 h.p1 h.q1 false false _ rfl
 have e2:=eql_ref h.c2 h.r2 0 0 h.p2 h.q2 false false _ rfl
 have hV:Hid (bareB false false true false false false false false h n=((false || h.o == 0) && (false || (h.x:Int) == 0) && (true || decide (h.s.toList=[])) && (false || !h.b) && (false || h.f == 0) && (false || (h.c1 == 0 && h.r1 == 0 && h.p1 == false && h.q1 == false)) && (false || (h.c2 == 0 && h.r2 == 0 && h.p2 == false && h.q2 == false)) && (false || n == 0))):=rfl
 have G0:Hid (∀ a b t u,Gr w ((w.alloc (.cells a t)).alloc (.cells b u))):=fun a b t u=>((Gr.refl w).alloc _ _).alloc _ _
 generalize bareB false false true false false false false false h n=V at *
 generalize (h.c1 == 0 && h.r1 == 0 && h.p1 == false && h.q1 == false)=b1 at *
 generalize (h.c2 == 0 && h.r2 == 0 && h.p2 == false && h.q2 == false)=b2 at *
 obtain ⟨k,o,x,s,b,f,c1,r1,p1,q1,c2,r2,p2,q2⟩:=h
 simp only at *
 by_cases ho:o=0
 rotate_left
 ·have no:(o == 0)=false:=by simpa using ho
  have HE:Hid (V=false):=by show _=_;rw [hV.out];simp [no]
  clear hV
  go_enter Tryz.func144,Tryz.ntmps144
  simp only [List.append_eq,List.cons_append,List.nil_append]
  go_wp21
  go_ret
  exact ⟨rBool HE.out.symm,G0.out _ _ _ _⟩
 subst ho
 by_cases hx:x=0
 rotate_left
 ·have nx:((x:Int) == 0)=false:=by simp;exact hx
  have HE:Hid (V=false):=by show _=_;rw [hV.out];simp [hx]
  clear hV
  go_enter Tryz.func144,Tryz.ntmps144
  simp only [List.append_eq,List.cons_append,List.nil_append]
  go_wp21
  go_ret
  exact ⟨rBool HE.out.symm,G0.out _ _ _ _⟩
 subst hx
 cases b
 rotate_left
 ·skip
  have HE:Hid (V=false):=by show _=_;rw [hV.out];simp
  clear hV
  go_enter Tryz.func144,Tryz.ntmps144
  simp only [List.append_eq,List.cons_append,List.nil_append]
  go_wp21
  go_ret
  exact ⟨rBool HE.out.symm,G0.out _ _ _ _⟩
 by_cases hf:f=0
 rotate_left
 ·have nf:(f == 0)=false:=by simpa using hf
  have HE:Hid (V=false):=by show _=_;rw [hV.out];simp [nf]
  clear hV
  go_enter Tryz.func144,Tryz.ntmps144
  simp only [List.append_eq,List.cons_append,List.nil_append]
  go_wp21
  go_ret
  exact ⟨rBool HE.out.symm,G0.out _ _ _ _⟩
 subst hf
 cases b1
 ·skip
  have HE:Hid (V=false):=by show _=_;rw [hV.out];simp
  clear hV
  go_enter Tryz.func144,Tryz.ntmps144
  simp only [List.append_eq,List.cons_append,List.nil_append]
  go_wp21
  go_ret
  exact ⟨rBool HE.out.symm,G0.out _ _ _ _⟩
 cases b2
 ·skip
  have HE:Hid (V=false):=by show _=_;rw [hV.out];simp
  clear hV
  go_enter Tryz.func144,Tryz.ntmps144
  simp only [List.append_eq,List.cons_append,List.nil_append]
  go_wp21
  go_ret
  exact ⟨rBool HE.out.symm,G0.out _ _ _ _⟩
 by_cases hn:n=0
 rotate_left
 ·have nn:((n:Int) == 0)=false:=by simp;exact hn
  have HE:Hid (V=false):=by show _=_;rw [hV.out];simp [hn]
  clear hV
  go_enter Tryz.func144,Tryz.ntmps144
  simp only [List.append_eq,List.cons_append,List.nil_append]
  go_wp21
  go_ret
  exact ⟨rBool HE.out.symm,G0.out _ _ _ _⟩
 subst hn
 have HE:Hid (V=true):=by show _=_;rw [hV.out];simp
 clear hV
 go_enter Tryz.func144,Tryz.ntmps144
 simp only [List.append_eq,List.cons_append,List.nil_append]
 go_wp21
 go_ret
 exact ⟨rBool HE.out.symm,G0.out _ _ _ _⟩
end Go.Proofs.YtlppcfeakakpfaaGreatDoor
namespace Go.Proofs.YtlppcfeakakpfaaGreatDoor
open Go.RowKit
def madeB (h:Hd) (n:Nat) (f u:Bool):Bool:=
 if h.k=1 then bareB false true false false false false false false h n && f else
 if h.k=2 then bareB false false true false false false false false h n && u && decide (h.s.size≤1024) else
 if h.k=3 then bareB false false false true false false false false h n else
 if h.k=4 then bareB false false false false true false false false h n && decide (1≤h.f) && decide (h.f≤5) else
 if h.k=5 then bareB false false false false false true false false h n else
 if h.k=6 then bareB false false false false false true true false h n else
 if h.k=7 then bareB true false false false false false false true h n && decide (1≤h.o) && decide (h.o≤3) && n == 1 else
 if h.k=8 then bareB true false false false false false false true h n && decide (4≤h.o) && decide (h.o≤15) && n == 2 else
 if h.k=9 then bareB false false true false false false false true h n else false
theorem fsame_self (x:Nat):fsame x x=true:=by unfold fsame;simp
theorem made_wm (h:Hd) (n:Nat):madeB h n (plainX h.x) (Lib.validD h.s.data.toList)=wm h n:=by
 have e0:(ByteArray.mk #[]).toList=[]:=ByteArray.toList_mk []
 obtain ⟨k,o,x,s,b,f,c1,r1,p1,q1,c2,r2,p2,q2⟩:=h
 unfold madeB wm wmJ
 simp only
 generalize plainX x=P
 generalize Lib.validD s.data.toList=U
 by_cases k1:k=1
 ·subst k1
  simp [bareB,hsame,zHd,fsame_self,e0]
  try (rw [Bool.eq_iff_iff];simp;constructor <;> (intro h;simp_all))
 by_cases k2:k=2
 ·subst k2
  simp [bareB,hsame,zHd,fsame_zero]
  try (rw [Bool.eq_iff_iff];simp;constructor <;> (intro h;simp_all))
 by_cases k3:k=3
 ·subst k3
  simp [bareB,hsame,zHd,fsame_zero,e0]
  try (rw [Bool.eq_iff_iff];simp;constructor <;> (intro h;simp_all))
 by_cases k4:k=4
 ·subst k4
  simp [bareB,hsame,zHd,fsame_zero,e0]
  try (rw [Bool.eq_iff_iff];simp;constructor <;> (intro h;simp_all))
 by_cases k5:k=5
 ·subst k5
  simp [bareB,hsame,zHd,fsame_zero,e0]
  try (rw [Bool.eq_iff_iff];simp;constructor <;> (intro h;simp_all))
 by_cases k6:k=6
 ·subst k6
  simp [bareB,hsame,zHd,fsame_zero,e0]
  try (rw [Bool.eq_iff_iff];simp;constructor <;> (intro h;simp_all))
 by_cases k7:k=7
 ·subst k7
  simp [bareB,hsame,zHd,fsame_zero,e0]
  try (rw [Bool.eq_iff_iff];simp;constructor <;> (intro h;simp_all))
 by_cases k8:k=8
 ·subst k8
  simp [bareB,hsame,zHd,fsame_zero,e0]
  try (rw [Bool.eq_iff_iff];simp;constructor <;> (intro h;simp_all))
 by_cases k9:k=9
 ·subst k9
  simp [bareB,hsame,zHd,fsame_zero]
  try (rw [Bool.eq_iff_iff];simp;constructor <;> (intro h;simp_all [fsame_self,fsame_zero]))
 simp [k1,k2,k3,k4,k5,k6,k7,k8,k9]
end Go.Proofs.YtlppcfeakakpfaaGreatDoor
namespace Go.Proofs.YtlppcfeakakpfaaGreatDoor
open Go.RowKit
theorem and_2_1:bits .and .i64 2 1=0:=by kernel_rfl
theorem and_2_2:bits .and .i64 2 2=2:=by kernel_rfl
theorem and_2_4:bits .and .i64 2 4=0:=by kernel_rfl
theorem and_2_8:bits .and .i64 2 8=0:=by kernel_rfl
theorem and_2_16:bits .and .i64 2 16=0:=by kernel_rfl
theorem and_2_32:bits .and .i64 2 32=0:=by kernel_rfl
theorem and_2_64:bits .and .i64 2 64=0:=by kernel_rfl
theorem and_2_128:bits .and .i64 2 128=0:=by kernel_rfl
attribute [local go_sem] and_2_1 and_2_2 and_2_4 and_2_8 and_2_16 and_2_32 and_2_64 and_2_128
theorem rbare_2 (h:Hd) (n:Nat) (a:Option Addr) (c:Nat) (w:World) :
  Calls Tryz.prog 144 #[h.val (.slice a n c),.int .i64 2] w fun e w'=>e=.returned (.bool (bareB false true false false false false false false h n))∧Gr w w':=by
 have e1:=eql_ref h.c1 h.r1 0 0 h.p1 h.q1 false false _ rfl
 have e2:=eql_ref h.c2 h.r2 0 0 h.p2 h.q2 false false _ rfl
 have hV:Hid (bareB false true false false false false false false h n=((false || h.o == 0) && (true || (h.x:Int) == 0) && (false || decide (h.s.toList=[])) && (false || !h.b) && (false || h.f == 0) && (false || (h.c1 == 0 && h.r1 == 0 && h.p1 == false && h.q1 == false)) && (false || (h.c2 == 0 && h.r2 == 0 && h.p2 == false && h.q2 == false)) && (false || n == 0))):=rfl
 have G0:Hid (∀ a b t u,Gr w ((w.alloc (.cells a t)).alloc (.cells b u))):=fun a b t u=>((Gr.refl w).alloc _ _).alloc _ _
 generalize bareB false true false false false false false false h n=V at *
 generalize (h.c1 == 0 && h.r1 == 0 && h.p1 == false && h.q1 == false)=b1 at *
 generalize (h.c2 == 0 && h.r2 == 0 && h.p2 == false && h.q2 == false)=b2 at *
 obtain ⟨k,o,x,s,b,f,c1,r1,p1,q1,c2,r2,p2,q2⟩:=h
 simp only at *
 by_cases ho:o=0
 rotate_left
 ·have no:(o == 0)=false:=by simpa using ho
  have HE:Hid (V=false):=by show _=_;rw [hV.out];simp [no]
  clear hV
  go_enter Tryz.func144,Tryz.ntmps144
  simp only [List.append_eq,List.cons_append,List.nil_append]
  go_wp21
  go_ret
  exact ⟨rBool HE.out.symm,G0.out _ _ _ _⟩
 subst ho
 by_cases hs:s.toList=[]
 rotate_left
 ·have ns:(s.toList == [])=false:=by simpa using hs
  have HE:Hid (V=false):=by show _=_;rw [hV.out];simp [hs]
  clear hV
  go_enter Tryz.func144,Tryz.ntmps144
  simp only [List.append_eq,List.cons_append,List.nil_append]
  go_wp21
  go_ret
  exact ⟨rBool HE.out.symm,G0.out _ _ _ _⟩
 have ns:(s.toList == [])=true:=by simpa using hs
 cases b
 rotate_left
 ·skip
  have HE:Hid (V=false):=by show _=_;rw [hV.out];simp [hs]
  clear hV
  go_enter Tryz.func144,Tryz.ntmps144
  simp only [List.append_eq,List.cons_append,List.nil_append]
  go_wp21
  go_ret
  exact ⟨rBool HE.out.symm,G0.out _ _ _ _⟩
 by_cases hf:f=0
 rotate_left
 ·have nf:(f == 0)=false:=by simpa using hf
  have HE:Hid (V=false):=by show _=_;rw [hV.out];simp [hs,nf]
  clear hV
  go_enter Tryz.func144,Tryz.ntmps144
  simp only [List.append_eq,List.cons_append,List.nil_append]
  go_wp21
  go_ret
  exact ⟨rBool HE.out.symm,G0.out _ _ _ _⟩
 subst hf
 cases b1
 ·skip
  have HE:Hid (V=false):=by show _=_;rw [hV.out];simp [hs]
  clear hV
  go_enter Tryz.func144,Tryz.ntmps144
  simp only [List.append_eq,List.cons_append,List.nil_append]
  go_wp21
  go_ret
  exact ⟨rBool HE.out.symm,G0.out _ _ _ _⟩
 cases b2
 ·skip
  have HE:Hid (V=false):=by show _=_;rw [hV.out];simp [hs]
  clear hV
  go_enter Tryz.func144,Tryz.ntmps144
  simp only [List.append_eq,List.cons_append,List.nil_append]
  go_wp21
  go_ret
  exact ⟨rBool HE.out.symm,G0.out _ _ _ _⟩
 by_cases hn:n=0
 rotate_left
 ·have nn:((n:Int) == 0)=false:=by simp;exact hn
  have HE:Hid (V=false):=by show _=_;rw [hV.out];simp [hs,hn]
  clear hV
  go_enter Tryz.func144,Tryz.ntmps144
  simp only [List.append_eq,List.cons_append,List.nil_append]
  go_wp21
  go_ret
  exact ⟨rBool HE.out.symm,G0.out _ _ _ _⟩
 subst hn
 have HE:Hid (V=true):=by show _=_;rw [hV.out];simp [hs]
 clear hV
 go_enter Tryz.func144,Tryz.ntmps144
 simp only [List.append_eq,List.cons_append,List.nil_append]
 go_wp21
 go_ret
 exact ⟨rBool HE.out.symm,G0.out _ _ _ _⟩
end Go.Proofs.YtlppcfeakakpfaaGreatDoor
namespace Go.Proofs.YtlppcfeakakpfaaGreatDoor
open Go.RowKit
theorem and_16_1:bits .and .i64 16 1=0:=by kernel_rfl
theorem and_16_2:bits .and .i64 16 2=0:=by kernel_rfl
theorem and_16_4:bits .and .i64 16 4=0:=by kernel_rfl
theorem and_16_8:bits .and .i64 16 8=0:=by kernel_rfl
theorem and_16_16:bits .and .i64 16 16=16:=by kernel_rfl
theorem and_16_32:bits .and .i64 16 32=0:=by kernel_rfl
theorem and_16_64:bits .and .i64 16 64=0:=by kernel_rfl
theorem and_16_128:bits .and .i64 16 128=0:=by kernel_rfl
attribute [local go_sem] and_16_1 and_16_2 and_16_4 and_16_8 and_16_16 and_16_32 and_16_64 and_16_128
theorem rbare_16 (h:Hd) (n:Nat) (a:Option Addr) (c:Nat) (w:World) :
  Calls Tryz.prog 144 #[h.val (.slice a n c),.int .i64 16] w fun e w'=>e=.returned (.bool (bareB false false false false true false false false h n))∧Gr w w':=by
 have e1:=eql_ref h.c1 h.r1 0 0 h.p1 h.q1 false false _ rfl
 have e2:=eql_ref h.c2 h.r2 0 0 h.p2 h.q2 false false _ rfl
 have hV:Hid (bareB false false false false true false false false h n=((false || h.o == 0) && (false || (h.x:Int) == 0) && (false || decide (h.s.toList=[])) && (false || !h.b) && (true || h.f == 0) && (false || (h.c1 == 0 && h.r1 == 0 && h.p1 == false && h.q1 == false)) && (false || (h.c2 == 0 && h.r2 == 0 && h.p2 == false && h.q2 == false)) && (false || n == 0))):=rfl
 have G0:Hid (∀ a b t u,Gr w ((w.alloc (.cells a t)).alloc (.cells b u))):=fun a b t u=>((Gr.refl w).alloc _ _).alloc _ _
 generalize bareB false false false false true false false false h n=V at *
 generalize (h.c1 == 0 && h.r1 == 0 && h.p1 == false && h.q1 == false)=b1 at *
 generalize (h.c2 == 0 && h.r2 == 0 && h.p2 == false && h.q2 == false)=b2 at *
 obtain ⟨k,o,x,s,b,f,c1,r1,p1,q1,c2,r2,p2,q2⟩:=h
 simp only at *
 by_cases ho:o=0
 rotate_left
 ·have no:(o == 0)=false:=by simpa using ho
  have HE:Hid (V=false):=by show _=_;rw [hV.out];simp [no]
  clear hV
  go_enter Tryz.func144,Tryz.ntmps144
  simp only [List.append_eq,List.cons_append,List.nil_append]
  go_wp21
  go_ret
  exact ⟨rBool HE.out.symm,G0.out _ _ _ _⟩
 subst ho
 by_cases hx:x=0
 rotate_left
 ·have nx:((x:Int) == 0)=false:=by simp;exact hx
  have HE:Hid (V=false):=by show _=_;rw [hV.out];simp [hx]
  clear hV
  go_enter Tryz.func144,Tryz.ntmps144
  simp only [List.append_eq,List.cons_append,List.nil_append]
  go_wp21
  go_ret
  exact ⟨rBool HE.out.symm,G0.out _ _ _ _⟩
 subst hx
 by_cases hs:s.toList=[]
 rotate_left
 ·have ns:(s.toList == [])=false:=by simpa using hs
  have HE:Hid (V=false):=by show _=_;rw [hV.out];simp [hs]
  clear hV
  go_enter Tryz.func144,Tryz.ntmps144
  simp only [List.append_eq,List.cons_append,List.nil_append]
  go_wp21
  go_ret
  exact ⟨rBool HE.out.symm,G0.out _ _ _ _⟩
 have ns:(s.toList == [])=true:=by simpa using hs
 cases b
 rotate_left
 ·skip
  have HE:Hid (V=false):=by show _=_;rw [hV.out];simp [hs]
  clear hV
  go_enter Tryz.func144,Tryz.ntmps144
  simp only [List.append_eq,List.cons_append,List.nil_append]
  go_wp21
  go_ret
  exact ⟨rBool HE.out.symm,G0.out _ _ _ _⟩
 cases b1
 ·skip
  have HE:Hid (V=false):=by show _=_;rw [hV.out];simp [hs]
  clear hV
  go_enter Tryz.func144,Tryz.ntmps144
  simp only [List.append_eq,List.cons_append,List.nil_append]
  go_wp21
  go_ret
  exact ⟨rBool HE.out.symm,G0.out _ _ _ _⟩
 cases b2
 ·skip
  have HE:Hid (V=false):=by show _=_;rw [hV.out];simp [hs]
  clear hV
  go_enter Tryz.func144,Tryz.ntmps144
  simp only [List.append_eq,List.cons_append,List.nil_append]
  go_wp21
  go_ret
  exact ⟨rBool HE.out.symm,G0.out _ _ _ _⟩
 by_cases hn:n=0
 rotate_left
 ·have nn:((n:Int) == 0)=false:=by simp;exact hn
  have HE:Hid (V=false):=by show _=_;rw [hV.out];simp [hs,hn]
  clear hV
  go_enter Tryz.func144,Tryz.ntmps144
  simp only [List.append_eq,List.cons_append,List.nil_append]
  go_wp21
  go_ret
  exact ⟨rBool HE.out.symm,G0.out _ _ _ _⟩
 subst hn
 have HE:Hid (V=true):=by show _=_;rw [hV.out];simp [hs]
 clear hV
 go_enter Tryz.func144,Tryz.ntmps144
 simp only [List.append_eq,List.cons_append,List.nil_append]
 go_wp21
 go_ret
 exact ⟨rBool HE.out.symm,G0.out _ _ _ _⟩
end Go.Proofs.YtlppcfeakakpfaaGreatDoor
