/-bare tells what it should; so the document's Valid of a content is the. -/
import Derived.Test.YtnceajanlnnfoaaGreatDoorQrEo
import Derived.Test.YtnceajanlnnfoaaGreatDoorQrEb8
import Derived.Test.YtnceajanlnnfoaaGreatDoorQrEb32
set_option maxRecDepth 20000
set_option maxHeartbeats 4000000
namespace Go.Proofs.YtnceajanlnnfoaaGreatDoor
section
open Go.RowKit Go.Lib
theorem j8K:j0O:=⟨jCS,jCU,jCV,jCR,jCT,jCW,jCP,jCQ⟩
end
section
open Go.RowKit
open Go.RowKit Go.Lib
theorem jCd (N:Nat):∀(t:Nd) (sl:Value) (F:Nat->Prop) (w:World),t.size<=N->N<=4194304->NdIn w F sl t ->
 Calls Tryz.prog 164 #[t.hd.val sl] w fun e w'=>e=.returned (.int .i64 (t.size:Nat))/\Gr w w':=by
 induction N with
 | zero=>intro t sl F w h;have:=J3 t;omega
 | succ N ih=>
  intro t sl F w hN hB hin;have hdl:t.size<=t.size:=Nat.le_refl _;obtain⟨hd,ts⟩:=t;rw[NdIn] at hin;obtain⟨a,c,rfl,h2,h3,h4⟩:=hin;have hsz:Hid ((Nd.mk hd ts).size=1+j5 ts):=by show _=_;rw[Nd.size]
  have hdp:Hid ((Nd.mk hd ts).size=1+j5 ts):=by show _=_;rw[Nd.size]
  have HN:Hid ((Nd.mk hd ts).size<=N+1):=hN;have HBd:Hid (N+1<=4194304):=hB;have IH:Hid (∀(t:Nd) (sl:Value) (F:Nat->Prop) (w:World),t.size<=N->N<=4194304->NdIn w F sl t ->
   Calls Tryz.prog 164 #[t.hd.val sl] w fun e w'=>e=.returned (.int .i64 (t.size:Nat))/\Gr w w'):=ih
  clear ih hN hB;have hlen:ts.length<=9223372036854775807:=by unfold maxLen at h3;omega
  have H4:Hid ((ts=[]/\(c=0∨a≠none))∨∃b o,a=some ⟨b,o,none⟩/\F b/\z8 w F b o ts):=h4;have HD:Hid (j5 ts<=4194304):=by show _<=_;have:=HN.out;have:=HBd.out;have:=hdp.out;omega
  clear h4 h2 h3 hdl;generalize hn:ts.length=n at *;have HL:Hid (ts.length=n):=hn;have HLEN:Hid (n<=9223372036854775807):=hlen;clear hn hlen;generalize hW:(Nd.mk hd ts).size=S at *;simp only[Nd.hd];obtain⟨k,o',x,s,bb,f,c1,r1,p1,q1,c2,r2,p2,q2⟩:=hd;go_enter Tryz.func164,Tryz.ntmps164;go_wp2_with fail;generalize hW0:(w.alloc (.cells #[.int .i64 k,.int .i64 o',.float .f64 x,.string s,.bool bb,.int .i64 f,.int .i64 c1,.int .i64 r1,.bool p1,.bool q1,.int .i64 c2,.int .i64 r2,.bool p2,.bool q2,.slice a n c] 64))=W0 at *;have G0:Hid (Gr w W0):=by show Gr _ _;rw[<- hW0];exact(Gr.refl w).alloc _ _
  have C0:Hid (W0.cell? ⟨w.heap.size,14,none⟩=some (.slice a n c)):=by
   show _=_;rw[<- hW0,World.cell?_alloc_at _ _ _ _ rfl];rfl
  have HB:Hid (w.heap.size<W0.heap.size):=G7 C0.out;clear hW0;go_loopw[3,4] (fun s i wr=>∃k:Nat,k<=n/\s=.int .i64 (1+j5 (ts.take k):Nat)/\i=.int .i64 k/\Gr W0 wr) (fun _ i _=>n-(RowKit.intOf i).toNat)
  case atStart=>exact⟨0,Nat.zero_le _,by simp[j5],by simp,Gr.refl _⟩
  case round=>
   obtain⟨k,hk,rfl,rfl,hg⟩:=hrel;have GR:Hid (Gr W0 wr):=hg;have cl:wr.cell? ⟨w.heap.size,14,none⟩=some (.slice a n c):=hg.cell HB.out C0.out;clear hg;by_cases hlt:k<n
   ·have hki:k<ts.length:=(by rw[HL.out];exact hlt);obtain⟨b,o,rfl,hF,hns⟩:∃b o,a=some ⟨b,o,none⟩/\F b/\z8 w F b o ts:=by
     rcases H4.out with h|h
     ·rw[h.1] at hki;simp at hki
     ·exact h
    obtain⟨sl,hr,hni⟩:=hns.get k hki;have G1:Gr w wr:=G0.out.trans GR.out;have HR:Hid (wr.rangeAt b (o+k*15) ((ts[k]).hd.cells sl)):=j0k hr G1;have hni':=hni.gr G1;have hs1:=O9 ts k hki;have HC:Hid (∀wq,Gr wr wq->Calls Tryz.prog 164 #[(ts[k]).hd.val sl] wq fun e w'=>e=.returned (.int .i64 ((ts[k]).size:Nat))/\Gr wq w'):=(fun wq hq=>IH.out ts[k] sl F wq (by have:=HN.out;have:=hsz.out;omega) (by have:=HBd.out;omega) (hni'.gr hq));have hA:Hid (j5 (ts.take (k+1))=j5 (ts.take k)+(ts[k]).size):=j0K ts k hki;have hbd:j5 (ts.take (k+1))<=4194304:=by
     have:=HD.out;have h9:j5 (ts.take (k+1))<=j5 ts:=j0L ts (k+1);have:=HN.out;have:=HBd.out;have:=hsz.out;omega
    rw[hA.out] at hbd;clear hs1 hni hni' hr hns;generalize (ts[k]).size=z at *;generalize (ts[k]).hd=hh at *;generalize j5 (ts.take k)=y at *;have hkb:(k:Int)+1<=9223372036854775807:=(by have:=HLEN.out;omega);have hz1:z<=4194304:=(by omega);have hy1:y<=4194304:=(by omega);clear hW hbd
    as_aux_lemma=>
    go_wp2_with (refine wpList_load_mid rfl 64 (.tmp 16) rfl b (o+k*15) rfl (hh.cells sl) _ HR.out Tryz.underlying64 rfl z6 ?_);refine(HC.out _ (Gr.refl _)).mono ?_;rintro e w1 ⟨rfl,hg1⟩;have G2:Hid (Gr W0 w1):=GR.out.trans hg1;clear hg1 cl;go_wp2_with fail;go_roundw
    case rel=>exact⟨k+1,by omega,by rw[hA.out];congr 1;omega,by go_num,G2.out⟩
    case measure=>simp only[RowKit.intOf];omega
   ·have hke:k=n:=(by omega);subst hke;have hw4:Hid (1+j5 (ts.take k)=S):=by
     show _=_;rw[<- HL.out,List.take_length,<- hdp.out]
    have hd1:j5 (ts.take k)<=4194304:=(by rw[<- HL.out,List.take_length];exact HD.out);generalize j5 (ts.take k)=y at *;clear hW
    as_aux_lemma=>
    go_wp2_with fail;go_ret;exact⟨rInt (by have:=hw4.out;omega),G0.out.trans GR.out⟩
theorem jCe (N:Nat):∀(t:Nd) (sl:Value) (F:Nat->Prop) (w:World),t.size<=N->N<=4194304->NdIn w F sl t ->
 Calls Tryz.prog 165 #[t.hd.val sl] w fun e w'=>e=.returned (.int .i64 (t.dep:Nat))/\Gr w w':=by
 induction N with
 | zero=>intro t sl F w h;have:=J3 t;omega
 | succ N ih=>
  intro t sl F w hN hB hin;have hdl:t.dep<=t.size:=j2A t;obtain⟨hd,ts⟩:=t;rw[NdIn] at hin;obtain⟨a,c,rfl,h2,h3,h4⟩:=hin;have hsz:Hid ((Nd.mk hd ts).size=1+j5 ts):=by show _=_;rw[Nd.size]
  have hdp:Hid ((Nd.mk hd ts).dep=1+depL ts):=by show _=_;rw[Nd.dep]
  have HN:Hid ((Nd.mk hd ts).size<=N+1):=hN;have HBd:Hid (N+1<=4194304):=hB;have IH:Hid (∀(t:Nd) (sl:Value) (F:Nat->Prop) (w:World),t.size<=N->N<=4194304->NdIn w F sl t ->
   Calls Tryz.prog 165 #[t.hd.val sl] w fun e w'=>e=.returned (.int .i64 (t.dep:Nat))/\Gr w w'):=ih
  clear ih hN hB;have hlen:ts.length<=9223372036854775807:=by unfold maxLen at h3;omega
  have H4:Hid ((ts=[]/\(c=0∨a≠none))∨∃b o,a=some ⟨b,o,none⟩/\F b/\z8 w F b o ts):=h4;have HD:Hid (depL ts<=4194304):=by show _<=_;have:=HN.out;have:=HBd.out;have:=hdp.out;omega
  clear h4 h2 h3 hdl;generalize hn:ts.length=n at *;have HL:Hid (ts.length=n):=hn;have HLEN:Hid (n<=9223372036854775807):=hlen;clear hn hlen;generalize hW:(Nd.mk hd ts).dep=S at *;simp only[Nd.hd];obtain⟨k,o',x,s,bb,f,c1,r1,p1,q1,c2,r2,p2,q2⟩:=hd;go_enter Tryz.func165,Tryz.ntmps165;go_wp2_with fail;generalize hW0:(w.alloc (.cells #[.int .i64 k,.int .i64 o',.float .f64 x,.string s,.bool bb,.int .i64 f,.int .i64 c1,.int .i64 r1,.bool p1,.bool q1,.int .i64 c2,.int .i64 r2,.bool p2,.bool q2,.slice a n c] 64))=W0 at *;have G0:Hid (Gr w W0):=by show Gr _ _;rw[<- hW0];exact(Gr.refl w).alloc _ _
  have C0:Hid (W0.cell? ⟨w.heap.size,14,none⟩=some (.slice a n c)):=by
   show _=_;rw[<- hW0,World.cell?_alloc_at _ _ _ _ rfl];rfl
  have HB:Hid (w.heap.size<W0.heap.size):=G7 C0.out;clear hW0;go_loopw[3,4] (fun s i wr=>∃k:Nat,k<=n/\s=.int .i64 (depL (ts.take k):Nat)/\i=.int .i64 k/\Gr W0 wr) (fun _ i _=>n-(RowKit.intOf i).toNat)
  case atStart=>exact⟨0,Nat.zero_le _,by simp[depL],by simp,Gr.refl _⟩
  case round=>
   obtain⟨k,hk,rfl,rfl,hg⟩:=hrel;have GR:Hid (Gr W0 wr):=hg;have cl:wr.cell? ⟨w.heap.size,14,none⟩=some (.slice a n c):=hg.cell HB.out C0.out;clear hg;by_cases hlt:k<n
   ·have hki:k<ts.length:=(by rw[HL.out];exact hlt);obtain⟨b,o,rfl,hF,hns⟩:∃b o,a=some ⟨b,o,none⟩/\F b/\z8 w F b o ts:=by
     rcases H4.out with h|h
     ·rw[h.1] at hki;simp at hki
     ·exact h
    obtain⟨sl,hr,hni⟩:=hns.get k hki;have G1:Gr w wr:=G0.out.trans GR.out;have HR:Hid (wr.rangeAt b (o+k*15) ((ts[k]).hd.cells sl)):=j0k hr G1;have hni':=hni.gr G1;have hs1:=O9 ts k hki;have HC:Hid (∀wq,Gr wr wq->Calls Tryz.prog 165 #[(ts[k]).hd.val sl] wq fun e w'=>e=.returned (.int .i64 ((ts[k]).dep:Nat))/\Gr wq w'):=(fun wq hq=>IH.out ts[k] sl F wq (by have:=HN.out;have:=hsz.out;omega) (by have:=HBd.out;omega) (hni'.gr hq));have hA:Hid (depL (ts.take (k+1))=max (depL (ts.take k)) (ts[k]).dep):=j49 ts k hki;have hbd:depL (ts.take (k+1))<=4194304:=by
     have:=HD.out;have h9:depL (ts.take (k+1))<=j5 ts:=Nat.le_trans (j29 _) (j0L ts (k+1));have:=HN.out;have:=HBd.out;have:=hsz.out;omega
    rw[hA.out] at hbd;clear hs1 hni hni' hr hns;generalize (ts[k]).dep=z at *;generalize (ts[k]).hd=hh at *;generalize depL (ts.take k)=y at *;have hkb:(k:Int)+1<=9223372036854775807:=by have:=HLEN.out;omega
    skip
    clear hW hbd
    as_aux_lemma=>
    go_wp2_with (refine wpList_load_mid rfl 64 (.tmp 16) rfl b (o+k*15) rfl (hh.cells sl) _ HR.out Tryz.underlying64 rfl z6 ?_);refine(HC.out _ (Gr.refl _)).mono ?_;rintro e w1 ⟨rfl,hg1⟩;have G2:Hid (Gr W0 w1):=GR.out.trans hg1;clear hg1 cl;go_wp2_with fail;go_roundw
    case rel=>exact⟨k+1,by omega,by rw[hA.out];congr 1;first|(split <;> omega)|omega|(push_cast;rfl)|simp,by go_num,G2.out⟩
    case measure=>simp only[RowKit.intOf];omega
   ·have hke:k=n:=(by omega);subst hke;have hw4:Hid (1+depL (ts.take k)=S):=by
     show _=_;rw[<- HL.out,List.take_length,<- hdp.out]
    have hd1:depL (ts.take k)<=4194304:=(by rw[<- HL.out,List.take_length];exact HD.out);generalize depL (ts.take k)=y at *;clear hW
    as_aux_lemma=>
    go_wp2_with fail;go_ret;exact⟨rInt (by have:=hw4.out;omega),G0.out.trans GR.out⟩
theorem jCa (B:j0O)(t:Nd)(sl:Value)(F:Nat->Prop)(w:World)(hsz:t.size<=4194304)(hok:t.ok)(htx:t.txt)(hin:NdIn w F sl t):
 Calls Tryz.prog 118 #[t.hd.val sl] w fun e w'=>e=.returned (.int .i64 (chk t))/\Kp w w' Nul:=by
 obtain⟨W1,hW1⟩:∃W1,w.alloc (.cells (t.hd.cells sl).toArray 64)=W1:=⟨_,rfl⟩;have k1:Kp w W1 Nul:=by rw[<- hW1];exact(Kp.refl w Nul).alloc _
 have b1:Blk W1 w.heap.size (t.hd.cells sl) 64:=by rw[<- hW1];exact Blk.new w _ _
 have HW1:Hid (w.alloc (.cells #[.int .i64 t.hd.k,.int .i64 t.hd.o,.float .f64 t.hd.x,.string t.hd.s,.bool t.hd.b,.int .i64 t.hd.f,.int .i64 t.hd.c1,.int .i64 t.hd.r1,.bool t.hd.p1,.bool t.hd.q1,.int .i64 t.hd.c2,.int .i64 t.hd.r2,.bool t.hd.p2,.bool t.hd.q2,sl] 64)=W1):=hW1;have HT:Hid (∀wq,Kp w wq Nul->Calls Tryz.prog 164 #[t.hd.val sl] wq fun e w'=>e=.returned (.int .i64 (t.size:Nat))/\Gr wq w'):=fun wq hq=>jCd t.size t sl F wq (Nat.le_refl _) hsz (hin.kp hq (fun _ _ x=>x))
 have HD:Hid (∀wq,Kp w wq Nul->Calls Tryz.prog 165 #[t.hd.val sl] wq fun e w'=>e=.returned (.int .i64 (t.dep:Nat))/\Gr wq w'):=fun wq hq=>jCe t.size t sl F wq (Nat.le_refl _) hsz (hin.kp hq (fun _ _ x=>x))
 have HF:Hid (∀wq,Kp w wq Nul->Calls Tryz.prog 166 #[t.hd.val sl,.bool false] wq fun e w'=>e=.returned (.int .i64 (t.fe false))/\Kp wq w' Nul):=fun wq hq=>jCo B t.size t sl F false wq (Nat.le_refl _) hok htx (hin.kp hq (fun _ _ x=>x))
 have hE:Hid (chk t=if 256<t.size then 34 else if 32<t.dep then 33 else t.fe false):=rfl;have HB:Hid (∀wq,Kp W1 wq Nul->wq.heap[w.heap.size]? = some (.cells (t.hd.cells sl).toArray 64 (0,0))):=fun wq hq=>b1.kp hq (fun x=>x)
 have HK1:Hid (Kp w W1 Nul):=k1;clear hW1 k1 b1 hok hin hsz htx B;generalize chk t=E at *;generalize t.size=sz at *;generalize t.dep=dp at *;generalize t.fe false=fe at *;generalize t.hd=h at *;go_enter Tryz.func118,Tryz.ntmps118;go_wp2_with fail;rw[HW1.out];refine(HT.out _ HK1.out).mono ?_;rintro e w1 ⟨rfl,hk1⟩;have HK2:Hid (Kp W1 w1 Nul):=Kp.of_gr hk1;have HB1:Hid (w1.heap[w.heap.size]? = some (.cells (h.cells sl).toArray 64 (0,0))):=HB.out w1 HK2.out;clear hk1 HT HW1;by_cases h1:256<sz
 ·have j:(256:Int)<(sz:Int):=by omega
  have HE:Hid (E=34):=by show _=_;rw[hE.out,if_pos h1]
  go_wp2_with fail;go_ret;exact⟨rInt HE.out.symm,HK1.out.trans HK2.out⟩
 ·have j:¬(256:Int)<(sz:Int):=by omega
  have hE2:Hid (E=if 32<dp then 33 else fe):=by show _=_;rw[hE.out,if_neg h1]
  clear hE h1;go_wp2_with (first|(refine L4 rfl (.tmp 1) rfl w.heap.size rfl (h.cells sl).toArray HB1.out rfl ?_)|fail);refine(HD.out _ (HK1.out.trans HK2.out)).mono ?_;rintro e w2 ⟨rfl,hg2⟩;have HK3:Hid (Kp W1 w2 Nul):=HK2.out.trans (Kp.of_gr hg2);have HB2:Hid (w2.heap[w.heap.size]? = some (.cells (h.cells sl).toArray 64 (0,0))):=HB.out w2 HK3.out;clear hg2 HD HK2 HB1;by_cases h2:32<dp
  ·have j2:(32:Int)<(dp:Int):=(by omega);have HE:Hid (E=33):=(by show _=_;rw[hE2.out,if_pos h2]);go_wp2_with fail;go_ret;exact⟨rInt HE.out.symm,HK1.out.trans HK3.out⟩
  ·have j2:¬(32:Int)<(dp:Int):=(by omega);have HE:Hid (E=fe):=(by show _=_;rw[hE2.out,if_neg h2]);go_wp2_with (first|(refine L4 rfl (.tmp 1) rfl w.heap.size rfl (h.cells sl).toArray HB2.out rfl ?_)|fail);refine(HF.out _ (HK1.out.trans HK3.out)).mono ?_;rintro e w3 ⟨rfl,hk3⟩;have HK4:Hid (Kp w w3 Nul):=(HK1.out.trans HK3.out).trans hk3;clear hk3 HF;go_wp2_with fail;go_ret;exact⟨rInt HE.out.symm,HK4.out⟩
theorem jCp (c:Ct)(sl:Value)(F:Nat->Prop)(w:World)(hsz:c.t.size<=4194304)(hok:c.t.ok)(htx:c.t.txt)(hs:c.v.s.size<=140737488355328)(hin:NdIn w F sl c.t):
 Calls Tryz.prog 62 #[c.val sl] w fun e w'=>e=.returned (.bool (Q7 c (validD c.v.s.data.toList) (chk c.t)))/\Kp w w' Nul:=
 jCZ c sl F (chk c.t) w hin hs (fun wq hq=>jCa j8K c.t sl F wq hsz hok htx (hin.kp hq (fun _ _ x=>x)))
end
end Go.Proofs.YtnceajanlnnfoaaGreatDoor
