/-The document's shifted (quadrilleref13): a formula so much farther on. -/
import Derived.Test.YtecjfnkakodebaaGreatDoorRmMoa
open Go.Proofs.Tryz
open Go.Value renaming int->O,bool->E,slice->U,agg->T,float->ap,string->aq,tuple->au
open Go.IntKind renaming i64->I
open Bool renaming false->R,true->J
open Option renaming some->H,none->G
open Go.Ending renaming returned->Q
open Go.FloatKind renaming f64->ao
set_option maxRecDepth 20000
set_option maxHeartbeats 8000000
namespace Go.Proofs.YtecjfnkakodebaaGreatDoor
open Go.RowKit
def goS (X Y:Int) (h:Hd):Option Hd:=if h.k=5∨h.k=6 then shH X Y h else H h
theorem jAB (X Y:Int){h:Hd}{ts:List Nd}(hts:h.k=5∨h.k=6->ts=[]):hmN (shH X Y) (.mk h ts)=(match goS X Y h with|some g=>.mk g (hmL (shH X Y) ts)|none=>ndF):=by
 rw[hmN];unfold goS;by_cases hk:h.k=5∨h.k=6
 ·rw[if_pos hk,if_pos hk];obtain rfl:=hts hk;unfold tmN;simp only[Nd.hd,Nd.ts,hmL];cases shH X Y h <;> rfl
 ·rw[if_neg hk,if_neg hk]
theorem jAK (f:Turn):∀(ts:List Nd) (q:Nat) (h:q<ts.length),hmL f (ts.take (q+1))=hmL f (ts.take q)++[hmN f ts[q]]:=fun ts q h=>by
 rw[j0h,j0h,List.take_add_one,List.getElem?_eq_getElem h,List.map_append]
 rfl
theorem jDj (X Y:Int)(N:Nat):∀(t:Nd) (sl:Value) (F:Nat->Prop) (cc:Bool) (w:World),t.size<=N->t.size<=1048576->t.fe cc=0->NdIn w F sl t ->
 Calls prog 147 #[t.hd.val sl,O I X,O I Y] w fun e w'=>∃sl' fp,e=Q ((hmN (shH X Y) t).hd.val sl')/\Own w' w.heap.size sl' (hmN (shH X Y) t) fp/\Below w.heap.size w w':=by
 induction N with
 | zero=>intro t sl F cc w h;have:=L7 t;omega
 | succ N ih=>
  intro t sl F cc w hN hm hok hin;obtain⟨h,ts⟩:=t;rw[NdIn] at hin;obtain⟨a,c,rfl,_,_,h4⟩:=hin;have hsz:Hid ((Nd.mk h ts).size=1+D3 ts):=by show _=_;rw[Nd.size]
  have HN:=h_ hN;have HM:=h_ hm;have IH:Hid (∀(t:Nd) (sl:Value) (F:Nat->Prop) (cc:Bool) (w:World),t.size<=N->t.size<=1048576->t.fe cc=0->NdIn w F sl t ->
   Calls prog 147 #[t.hd.val sl,O I X,O I Y] w fun e w'=>∃sl' fp,e=Q ((hmN (shH X Y) t).hd.val sl')/\Own w' w.heap.size sl' (hmN (shH X Y) t) fp/\Below w.heap.size w w'):=ih
  have H4:=h_ h4;have hln:=j0k ts;have HLM:Hid (ts.length<=1048576):=by show _<=_;have:=hsz.o;omega
  clear ih hN hm h4 hln;obtain⟨hlin,hts0⟩:=j35 hok;obtain⟨_,cd,hfl⟩:=j1p hok;obtain⟨A,hA⟩:=e_ (hmN (shH X Y) (.mk h ts));have HA:Hid (A=(match goS X Y h with|some g=>.mk g (hmL (shH X Y) ts)|none=>ndF)):=by show A=_;rw[<- hA];exact jAB X Y hts0
  rw[hA];clear hA;obtain⟨AH,hAH⟩:=e_ A.hd;have HAH:=h_ hAH;rw[hAH];clear hAH;simp only[Nd.hd];have HLI:=h_ hlin;have HTS:=h_ hts0;have HOK:=h_ hfl;clear hok hlin hts0 hfl;generalize hn:ts.length=n at *;have HL:=h_ hn;clear hn;obtain⟨W0,hW0⟩:=e_ ((((w.alloc (.cells (h.cells (U a n c)).toArray 48)).alloc (.cells [O I 0,O I 0,ap ao 0,aq ⟨#[]⟩,E R,O I 0,O I 0,O I 0,E R,E R,O I 0,O I 0,E R,E R,U G 0 0].toArray 48)).alloc (.cells (h.cells (U G 0 0)).toArray 48)));have OS:=OwAt.start (w:=w) (h.cells (U a n c)) [O I 0,O I 0,ap ao 0,aq ⟨#[]⟩,E R,O I 0,O I 0,O I 0,E R,E R,O I 0,O I 0,E R,E R,U G 0 0] h;rw[hW0] at OS;have HOS:=h_ OS
  have RR:Hid (∀o,((w.alloc (.cells (h.cells (U a n c)).toArray 48)).alloc o).rangeAt w.heap.size 0 (h.cells (U a n c))):=fun o=>j2K w _ _ o
  clear OS;obtain⟨k,o',x,s,bb,f,c1,r1,p1,q1,c2,r2,p2,q2⟩:=h;have HW:=h_ hW0;clear hW0;obtain⟨i0,hi,hz0,hz1,hz2⟩:=j1K;go_enter func147,ntmps147;go_wp2_with (first|(refine wpList_load_mid rfl 48 (.tmp 3) rfl w.heap.size 0 rfl (Hd.cells ⟨k,o',x,s,bb,f,c1,r1,p1,q1,c2,r2,p2,q2⟩ (U a n c)) _ (RR.o _) underlying48 rfl j3 ?_)|(refine F9 rfl 48 (.tmp 7) (.tmp 16) rfl _ _ _ _ _ (by first|rfl|simp) rfl rfl rfl j3 (Hd.one ⟨k,o',x,s,bb,f,c1,r1,p1,q1,c2,r2,p2,q2⟩ rfl) ?_));rw[HW.o];clear HW RR;go_loopw[8] (fun i wr=>∃(q:Nat) (v:Value) (fp:List Nat),q<=n/\i=O I q/\OwAt w wr (Hd.cells ⟨k,o',x,s,bb,f,c1,r1,p1,q1,c2,r2,p2,q2⟩ (U a n c)) [O I 0,O I 0,ap ao 0,aq ⟨#[]⟩,E R,O I 0,O I 0,O I 0,E R,E R,O I 0,O I 0,E R,E R,U G 0 0] ⟨k,o',x,s,bb,f,c1,r1,p1,q1,c2,r2,p2,q2⟩ (hmL (shH X Y) (ts.take q)) v fp) (fun i _=>n-(RowKit.intOf i).toNat)
  case atStart=>exact⟨0,U G 0 0,[],Nat.zero_le _,rfl,by rw[List.take_zero,hmL];exact HOS.o⟩
  case round=>
   obtain⟨q,v,fp,hq,rfl,hat⟩:=hrel;have AT:=h_ hat;have hlt3:=hat.lt;have hbel:=hat.bel;have x14:=hat.b1.c_ 14 rfl;by_cases hlt:q<n
   ·have hqt:q<ts.length:=(by rw[HL.o];exact hlt);obtain⟨b,o,rfl,hFb,hns⟩:∃b o,a=H ⟨b,o,G⟩/\F b/\F6 w F b o ts:=by
     rcases H4.o with h|h
     ·rw[h.1] at hqt;simp at hqt
     ·exact h
    obtain⟨s1,hr,hni⟩:=hns.get q hqt;obtain⟨pv,lv,cv,rfl⟩:=j0l hat.own.own;obtain⟨xs,hxs⟩:=hat.own.row;have hul:Hid ((hmL (shH X Y) (ts.take q)).length=q):=(by show _=_;rw[j0g,List.length_take];omega);have hbw:=Q0 hr;have HS:Hid (∀wq,Below (w.heap.size+3) wr wq->wq.cell? ⟨w.heap.size,14,G⟩=H (U (H ⟨b,o,G⟩) n c)/\wq.cell? ⟨w.heap.size+2,14,G⟩=H (U pv lv cv)):=(fun wq hk=>⟨(hk.cell (by simp)).trans (hat.b1.cell rfl),(hk.cell (by simp)).trans (hat.b3.cell rfl)⟩);have HR:=(h_ fun wq (hk:Below (w.heap.size+3) wr wq)=>I7 hr ((hk.block b (by omega)).trans (hat.bel.block b hbw)));have hs1:=Q4 ts q hqt;have hni':=(fun wq (hk:Below wr.heap.size wr wq)=>hni.mono fun b hb hl=>⟨(hk.block b (by omega)).trans (hat.bel.block b hl),hb⟩);have HC:=h_ fun wq (hq:Below wr.heap.size wr wq)=>IH.o ts[q] s1 F cd wq (by have:=HN.o;have:=hsz.o;omega) (by have:=HM.o;have:=hsz.o;omega) (j34 HOK.o q hqt) (hni' wq hq)
    have hu3:Hid (hmL (shH X Y) (ts.take (q+1))=hmL (shH X Y) (ts.take q)++[hmN (shH X Y) ts[q]]):=jAK _ ts q hqt;have O1:=h_ hni.one;clear hs1 hni hni' hr hns;generalize hmN (shH X Y) ts[q]=u at *;generalize (ts[q]).hd=hh at *;generalize hmL (shH X Y) (ts.take q)=us at *;have hkb:(q:Int)+1<=9223372036854775807:=(by have:=HLM.o;omega);have hq0:(0:Int)<=(q:Int):=(by omega);have hqn:(q:Int)<(n:Int):=(by omega);have HX3:=(h_ fun w2 (h2:Below wr.heap.size wr w2) o=>(j0F hxs h2).alloc o);clear hat hxs;go_wp2_with fail;refine wp_region_noPanic ?_;refine j12 (fun w':World=>Below (w.heap.size+3) wr w') 13 (by kernel_rfl) ((Below.refl _ _).drew) (fun hHeld=>?_);refine tb 0 25 hHeld ?_ (hy:=by intro w' hSw;obtain⟨s0,s1⟩:=HS.o _ hSw;clear hSw;go_simp;try with_reducible rfl);refine tb 1 26 hHeld ?_ (hy:=by intro w' hSw;obtain⟨s0,s1⟩:=HS.o _ hSw;clear hSw;go_simp;try with_reducible rfl);refine tb 2 27 hHeld ?_ (hy:=by intro w' hSw;obtain⟨s0,s1⟩:=HS.o _ hSw;clear hSw;go_simp;try with_reducible rfl)
    refine tb 3 28 hHeld ?_ (hy:=by intro w' hSw;obtain⟨s0,s1⟩:=HS.o _ hSw;clear hSw;go_simp;try with_reducible rfl);refine tb 4 29 hHeld ?_ (hy:=by intro w' hSw;obtain⟨s0,s1⟩:=HS.o _ hSw;clear hSw;go_simp;try with_reducible rfl);refine tb 5 30 hHeld ?_ (hy:=by intro w' hSw;obtain⟨s0,s1⟩:=HS.o _ hSw;clear hSw;go_simp;try with_reducible rfl);refine tb 6 31 hHeld ?_ (v:=hh.val s1) (hy:=by exact fun w' hSw=>j1B (hh.cells s1) rfl rfl (HR.o w' hSw) rfl);refine tb 7 32 hHeld ?_;refine tb 8 33 hHeld ?_;refine I5 (i:=9) (by kernel_rfl) rfl rfl (fun K hK=>?_);go_simp;refine(HC.o _ ((Below.refl _ _).drew)).mono ?_;rintro e w2 ⟨su,fu,rfl,hown,hbl⟩;have hb2:=((Below.refl wr.heap.size wr).drew).trans hbl;have HB2:=h_ hb2;have HU:=h_ hown;refine hK.o _ _ (fun _=>hb2.mono hlt3) (fun _=>?_);clear hK K hHeld hown hbl HC HS HR x14;refine I5 (i:=10) (by kernel_rfl) rfl rfl (fun K hK=>?_);go_simp
    refine hK.o _ _ (fun _=>(hb2.alloc hb2.size _).mono hlt3) (fun _=>?_);clear hK K;refine I5 (i:=11) (by kernel_rfl) rfl rfl (fun K hK=>?_);refine j0W _ (.tmp 26) (.tmp 35) 46 rfl (w.heap.size+3) 48 i0 _ 15 128 underlying46 hi hz0 hz1 hz2 rfl (by decide) (U pv lv cv) us.length xs rfl (HX3.o w2 HB2.o _) ⟨w2.heap.size,0,G⟩ 1 1 (u.hd.cells su) rfl rfl ?c1 ?c2 (by decide) ?c3 ?c4 ?c5 ?_
    case c1=>
     intro j u' hj;rw[R5,Nat.zero_add];exact(Blk.new w2 (u.hd.cells su) 48).cell hj
    case c2=>exact j1J u.hd HU.o.own.one
    case c3=>rw[hul.o];unfold maxLen;omega
    case c4=>rw[hul.o];have:=HLM.o;omega
    case c5=>have:=hb2.size;simp[World.size_alloc];omega
    intro g c' w4 ho hgr ht;obtain⟨fp',hat5⟩:=AT.o.step HB2.o (Nat.le_refl _) HU.o (HX3.o w2 HB2.o _) ho hgr ht;have h4b:Below (w.heap.size+3) wr w4:=by
     refine⟨hgr.os.trans hb2.os,hgr.tape.trans hb2.tape,hgr.output.trans hb2.output,?_,fun i hi=>?_⟩
     ·have h1:=hgr.size;have h2:=hb2.size;rw[World.size_alloc] at h1;omega
     ·rw[hgr.block i (by rw[World.size_alloc];have:=hb2.size;omega) (fun e=>by have:=((HX3.o w2 HB2.o (.cells #[] 0)).lt i e.symm).1;omega),Below.heap_alloc _ _ _ (by have:=hb2.size;omega)];exact hb2.block i (by omega)
    have A5:=h_ hat5;refine hK.o _ _ (fun _=>h4b) (fun hHeld=>?_);have f3:w4.frozen? ⟨w.heap.size+2,14,G⟩=R:=by
     have:Blk w4 (w.heap.size+2) _ 48:=(h4b.block _ (by omega)).trans AT.o.b3;exact this.froz _
    have c3:w4.cell? ⟨w.heap.size+2,14,G⟩=H (U pv lv cv):=by
     have:Blk w4 (w.heap.size+2) _ 48:=(h4b.block _ (by omega)).trans AT.o.b3;exact this.cell rfl
    clear hK K hat5 ho hgr ht h4b hb2;simp only[Act.put,List.setIfInBounds_toArray];refine I5 (i:=12) (by kernel_rfl) rfl rfl (fun K hK=>?_);go_simp;refine hK.o _ _ (fun _=>hHeld (by decide)) (fun _=>?_);clear hK K;refine I5 (i:=13) (by kernel_rfl) rfl rfl (fun K hK=>?_);go_simp;refine hK.o _ _ (fun h=>absurd rfl h) (fun _=>?_);clear hK K hHeld c3 f3;refine j10 (by kernel_rfl) ?_;refine NoPanic.normal ?_;go_wp2_with fail;go_roundw
    case rel=>exact⟨q+1,_,fp',by omega,by go_num,by rw[hu3.o];exact A5.o⟩
    case measure=>simp only[RowKit.intOf];omega
   ·have hqe:q=n:=(by omega);subst hqe;have hqn:¬((q:Int)<(q:Int)):=(by omega);have hall:hmL (shH X Y) (ts.take q)=hmL (shH X Y) ts:=(by rw[List.take_of_length_le (by rw[HL.o];exact Nat.le_refl _)]);rw[hall] at AT hat;have B1:=h_ hat.b1;have B2:=h_ hat.b2;have B3:=h_ hat.b3;have OWN:=h_ hat.own;have BEL:=h_ hat.bel;have O1:=h_ hat.own.own.one;have x0:=hat.b1.c_ 0 rfl;have FIN:Hid (∀(g:Hd) (W5:World),goS X Y ⟨k,o',x,s,bb,f,c1,r1,p1,q1,c2,r2,p2,q2⟩=H g->Kp wr W5 (fun i=>i=w.heap.size+1∨i=w.heap.size+2)->∃sl' fp',Q (g.val v)=Q (AH.val sl')/\Own W5 w.heap.size sl' A fp'/\Below w.heap.size w W5):=fun g W5 hg hk=>by
     have e:=HA.o;rw[hg] at e;simp only at e;rw[<- HAH.o,e];refine⟨v,fp,rfl,⟨D2.hd_any (OWN.o.own.mono (fun b hb=>hk.block b (OWN.o.new b hb).2 (fun z=>by have:=(OWN.o.new b hb).1;rcases z with z|z <;> omega))),OWN.o.nodup,fun b hb=>⟨by have:=(OWN.o.new b hb).1;omega,Nat.lt_of_lt_of_le (OWN.o.new b hb).2 hk.size⟩⟩,?_⟩;exact((Kp.of_below BEL.o:Kp w wr Nul).trans' hk (fun i hi z=>by rcases z with z|z <;> omega)).below
    have LOST:Hid (∀(W5:World),goS X Y ⟨k,o',x,s,bb,f,c1,r1,p1,q1,c2,r2,p2,q2⟩=G->Kp wr W5 (fun i=>i=w.heap.size+1∨i=w.heap.size+2)->∃sl' fp',Q (ndF.hd.val (U G 0 0))=Q (AH.val sl')/\Own W5 w.heap.size sl' A fp'/\Below w.heap.size w W5):=fun W5 hg hk=>by
     have e:=HA.o;rw[hg] at e;simp only at e;rw[<- HAH.o,e];refine⟨U G 0 0,[],rfl,⟨by unfold ndF;rw[D2];exact .inl ⟨rfl,rfl,rfl⟩,List.nodup_nil,fun b hb=>by simp at hb⟩,?_⟩;exact((Kp.of_below BEL.o:Kp w wr Nul).trans' hk (fun i hi z=>by rcases z with z|z <;> omega)).below
    clear hat AT IH H4 HOS HOK hall HA;obtain⟨W6,hW6⟩:=e_ (wr.alloc (.cells #[O I 4,O I 0,ap ao 0,aq ⟨#[]⟩,E R,O I 4,O I 0,O I 0,E R,E R,O I 0,O I 0,E R,E R,U G 0 0] 48));have HW6:=h_ hW6;have K6:Hid (Kp wr W6 Nul):=(by show Kp _ _ _;rw[<- hW6];exact(Kp.refl _ _).alloc _);have S6:=h_ hlt3;have HF6:Hid (∀X,Kp W6 X (fun i=>i=w.heap.size+1∨i=w.heap.size+2)->Blk X wr.heap.size [O I 4,O I 0,ap ao 0,aq ⟨#[]⟩,E R,O I 4,O I 0,O I 0,E R,E R,O I 0,O I 0,E R,E R,U G 0 0] 48):=fun X k=>by
     have:Blk W6 wr.heap.size [O I 4,O I 0,ap ao 0,aq ⟨#[]⟩,E R,O I 4,O I 0,O I 0,E R,E R,O I 0,O I 0,E R,E R,U G 0 0] 48:=(by rw[<- hW6];exact Blk.new wr _ _);exact this.kp k (fun e=>by have e':wr.heap.size=w.heap.size+1∨wr.heap.size=w.heap.size+2:=e;omega)
    have B16:=(h_ fun X (k:Kp W6 X Nul)=>(B1.o.kp K6.o (fun x=>x)).kp k (fun x=>x));have B26:=(h_ fun X (k:Kp W6 X Nul)=>(B2.o.kp K6.o (fun x=>x)).kp k (fun x=>x));have B36:=(h_ fun X (k:Kp W6 X Nul)=>(B3.o.kp K6.o (fun x=>x)).kp k (fun x=>x));have y0:=(B16.o W6 (Kp.refl _ _)).c_ 0 rfl;clear hW6;go_upto_region 8 with (first
     | (rw[HW6.o])
     | (refine F9 rfl 48 (.tmp 9) (.tmp 38) rfl _ _ _ _ [O I 4,O I 0,ap ao 0,aq ⟨#[]⟩,E R,O I 4,O I 0,O I 0,E R,E R,O I 0,O I 0,E R,E R,U G 0 0] (by first|rfl|simp) rfl rfl rfl j3 (Hd.one ⟨4,0,0,⟨#[]⟩,R,4,0,0,R,R,0,0,R,R⟩ rfl) ?_)
     | fail)
    (try simp only[Act.put])
    (try rw[HW6.o])
    clear x0;by_cases k5:k=5
    ·skip
     subst k5;obtain⟨i1,i2,i3,i4⟩:=HLI.o.1 rfl;simp only at i1 i2 i3 i4;have hv1:vC c1 r1=J:=(by rw[G6];omega);have hgo:goS X Y ⟨5,o',x,s,bb,f,c1,r1,p1,q1,c2,r2,p2,q2⟩=if shOk c1 r1 p1 q1 X Y=J then H ⟨5,o',x,s,bb,f,(shN c1 X 256 p1).1,(shN r1 Y 4096 q1).1,p1,q1,c2,r2,p2,q2⟩ else G:=by
      unfold goS;rw[if_pos (Or.inl rfl),j6v _ _ _ (by simp)]
     obtain⟨A1,hA1⟩:=e_ ((shN c1 X 256 p1).1);obtain⟨B1',hB1⟩:=e_ ((shN r1 Y 4096 q1).1);obtain⟨OO,hO1⟩:=e_ (shOk c1 r1 p1 q1 X Y);have HS1:Hid (∀wq,Calls prog 162 #[T #[O I c1,O I r1,E p1,E q1],O I X,O I Y] wq fun e w'=>e=Q (if OO=J then au #[T #[O I A1,O I B1',E p1,E q1],E J] else au #[T #[O I 0,O I 0,E R,E R],E R])/\Kp wq w' Nul):=fun wq=>by
      have h:=j3q c1 r1 X Y p1 q1 wq hv1;rw[hA1,hB1,hO1] at h;exact h
     rw[hA1,hB1,hO1] at hgo;clear hA1 hB1 hO1 hv1 i1 i2 i3 i4;have HR1:Hid (∀X,Kp W6 X Nul->X.rangeAt w.heap.size 6 [O I c1,O I r1,E p1,E q1]):=(fun X kX=>J4 (pre:=[O I 5,O I o',ap ao x,aq s,E bb,O I f]) (post:=[O I c2,O I r2,E p2,E q2,U a q c]) (B16.o X kX));go_wp2_with (first
      | (refine wpList_load_mid rfl 45 (.tmp 43) rfl w.heap.size 6 rfl [O I c1,O I r1,E p1,E q1] _ (HR1.o W6 (Kp.refl _ _)) underlying45 rfl j7 ?_)
      | fail)
     clear y0;refine(HS1.o _).mono ?_;rintro e w1 ⟨rfl,hk1⟩;have K1:=h_ hk1;clear hk1 HS1;cases OO with
     | false=>
      have HGO:=h_ hgo;clear hgo;obtain⟨W2,hW2⟩:=e_ (w1.alloc (.cells #[O I 0,O I 0,E R,E R] 45));have HW2:=h_ hW2;have K2:Hid (Kp W6 W2 Nul):=(by show Kp _ _ _;rw[<- hW2];exact K1.o.alloc _);clear hW2
      (try simp only[Bool.false_eq_true,if_false])
      go_upto_region 10 with (first|(refine F9 rfl 45 (.tmp 10) (.tmp 48) rfl _ _ _ _ [O I 0,O I 0,E R,E R] (by first|rfl|simp) rfl rfl rfl j7 (I1 _ _ _ _) ?_)|fail)
      (try simp only[Act.put])
      rw[HW2.o];go_wp2_with (first
       | (refine wpList_load_mid rfl 48 (.tmp 9) rfl wr.heap.size 0 rfl [O I 4,O I 0,ap ao 0,aq ⟨#[]⟩,E R,O I 4,O I 0,O I 0,E R,E R,O I 0,O I 0,E R,E R,U G 0 0] _ (j5 (HF6.o W2 (K2.o).of_nul)) underlying48 rfl j3 ?_)
       | (refine D5 rfl 48 (.tmp 6) (.tmp 52) rfl (w.heap.size+1) [O I 0,O I 0,ap ao 0,aq ⟨#[]⟩,E R,O I 0,O I 0,O I 0,E R,E R,O I 0,O I 0,E R,E R,U G 0 0] [O I 4,O I 0,ap ao 0,aq ⟨#[]⟩,E R,O I 4,O I 0,O I 0,E R,E R,O I 0,O I 0,E R,E R,U G 0 0] _ (B26.o W2 (K2.o)) rfl rfl rfl j3 (Hd.one ⟨4,0,0,⟨#[]⟩,R,4,0,0,R,R,0,0,R,R⟩ rfl) ?_;intro W5 hb5 hk5)
       | fail)
      refine bodyPost_ret (results_cell_row rfl _ _ (w.heap.size+1) 48 _ (0,0) _ rfl hb5 underlying48 rfl j3) rfl ?_;obtain⟨sl',fp',e1,e2,e3⟩:=LOST.o W5 HGO.o ((K6.o.of_nul.trans (K2.o).of_nul).trans (hk5.mono (fun i _ z=>.inl z)));first|exact⟨sl',e1,⟨fp',e2⟩,e3⟩|exact⟨sl',fp',e1,e2,e3⟩
     | true=>
      have HGO:=h_ hgo;clear hgo;obtain⟨W2,hW2⟩:=e_ (w1.alloc (.cells #[O I A1,O I B1',E p1,E q1] 45));have HW2:=h_ hW2;have K2:Hid (Kp W6 W2 Nul):=(by show Kp _ _ _;rw[<- hW2];exact K1.o.alloc _);have HRf:Hid (Blk W2 w1.heap.size [O I A1,O I B1',E p1,E q1] 45):=(by show Blk _ _ _ _;rw[<- hW2];exact Blk.new w1 _ _);have HN3:=h_ (B36.o W2 K2.o);clear hW2
      (try simp only[if_true])
      go_wp2_with (first
       | (rw[HW2.o])
       | (refine wpList_load_mid rfl 45 (.tmp 10) rfl w1.heap.size 0 rfl [O I A1,O I B1',E p1,E q1] _ (j5 HRf.o) underlying45 rfl j7 ?_)
       | (refine L8 rfl 45 (.tmp 54) (.tmp 53) rfl (w.heap.size+2) 6 [O I 5,O I o',ap ao x,aq s,E bb,O I f] [O I c1,O I r1,E p1,E q1] [O I c2,O I r2,E p2,E q2,v] [O I A1,O I B1',E p1,E q1] _ HN3.o rfl rfl rfl rfl j7 (I1 _ _ _ _) ?_;intro W3 hb3 hk3;have HG3:Hid (Blk W3 (w.heap.size+2) [O I 5,O I o',ap ao x,aq s,E bb,O I f,O I A1,O I B1',E p1,E q1,O I c2,O I r2,E p2,E q2,v] 48):=hb3;have KK3:Hid (Kp W6 W3 (fun i=>i=w.heap.size+1∨i=w.heap.size+2)):=K2.o.of_nul.trans (hk3.mono (fun i _ e=>.inr e));have HZ:Hid (Blk W3 (w.heap.size+1) [O I 0,O I 0,ap ao 0,aq ⟨#[]⟩,E R,O I 0,O I 0,O I 0,E R,E R,O I 0,O I 0,E R,E R,U G 0 0] 48):=(B26.o W2 K2.o).kp hk3 (by show ¬_=_;omega);have y0:W3.cell? ⟨w.heap.size,0,G⟩=H (O I 5):=((B16.o W2 K2.o).kp hk3 (by show ¬_=_;omega)).cell rfl;clear hb3 hk3)
       | (refine wpList_load_mid rfl 48 (.tmp 7) rfl (w.heap.size+2) 0 rfl [O I 5,O I o',ap ao x,aq s,E bb,O I f,O I A1,O I B1',E p1,E q1,O I c2,O I r2,E p2,E q2,v] _ (j5 HG3.o) underlying48 rfl j3 ?_)
       | (refine D5 rfl 48 (.tmp 6) (.tmp 89) rfl (w.heap.size+1) [O I 0,O I 0,ap ao 0,aq ⟨#[]⟩,E R,O I 0,O I 0,O I 0,E R,E R,O I 0,O I 0,E R,E R,U G 0 0] [O I 5,O I o',ap ao x,aq s,E bb,O I f,O I A1,O I B1',E p1,E q1,O I c2,O I r2,E p2,E q2,v] _ HZ.o rfl rfl rfl j3 (Hd.one ⟨5,o',x,s,bb,f,A1,B1',p1,q1,c2,r2,p2,q2⟩ O1.o) ?_;intro W5 hb5 hk5)
       | fail)
      refine bodyPost_ret (results_cell_row rfl _ _ (w.heap.size+1) 48 _ (0,0) _ rfl hb5 underlying48 rfl j3) rfl ?_;obtain⟨sl',fp',e1,e2,e3⟩:=FIN.o _ W5 HGO.o ((K6.o.of_nul.trans KK3.o).trans (hk5.mono (fun i _ z=>.inl z)));first|exact⟨sl',e1,⟨fp',e2⟩,e3⟩|exact⟨sl',fp',e1,e2,e3⟩
    ·by_cases k6:k=6
     ·skip
      subst k6;clear k5;obtain⟨i1,i2,i3,i4,i5,i6⟩:=HLI.o.2 rfl;simp only at i1 i2 i3 i4 i5 i6;have hv1:vC c1 r1=J:=(by rw[G6];omega);have hv2:vC c2 r2=J:=(by rw[G6];omega);obtain⟨A1,hA1⟩:=e_ ((shN c1 X 256 p1).1);obtain⟨B1',hB1⟩:=e_ ((shN r1 Y 4096 q1).1);obtain⟨O1',hO1⟩:=e_ (shOk c1 r1 p1 q1 X Y);obtain⟨A2,hA2⟩:=e_ ((shN c2 X 256 p2).1);obtain⟨B2',hB2⟩:=e_ ((shN r2 Y 4096 q2).1);obtain⟨O2',hO2⟩:=e_ (shOk c2 r2 p2 q2 X Y);have HS1:Hid (∀wq,Calls prog 162 #[T #[O I c1,O I r1,E p1,E q1],O I X,O I Y] wq fun e w'=>e=Q (if O1'=J then au #[T #[O I A1,O I B1',E p1,E q1],E J] else au #[T #[O I 0,O I 0,E R,E R],E R])/\Kp wq w' Nul):=fun wq=>by
       have h:=j3q c1 r1 X Y p1 q1 wq hv1;rw[hA1,hB1,hO1] at h;exact h
      have HS2:Hid (∀wq,Calls prog 162 #[T #[O I c2,O I r2,E p2,E q2],O I X,O I Y] wq fun e w'=>e=Q (if O2'=J then au #[T #[O I A2,O I B2',E p2,E q2],E J] else au #[T #[O I 0,O I 0,E R,E R],E R])/\Kp wq w' Nul):=fun wq=>by
       have h:=j3q c2 r2 X Y p2 q2 wq hv2;rw[hA2,hB2,hO2] at h;exact h
      have hgo:goS X Y ⟨6,o',x,s,bb,f,c1,r1,p1,q1,c2,r2,p2,q2⟩=if O1'=J/\O2'=J then H ⟨6,o',x,s,bb,f,(if A2<A1 then A2 else A1),(if B2'<B1' then B2' else B1'),(if A2<A1 then p2 else p1),(if B2'<B1' then q2 else q1),(if A2<A1 then A1 else A2),(if B2'<B1' then B1' else B2'),(if A2<A1 then p1 else p2),(if B2'<B1' then q1 else q2)⟩ else G:=by
       unfold goS;rw[if_pos (Or.inr rfl),j6w _ _ _ rfl];simp only;rw[hA1,hB1,hO1,hA2,hB2,hO2]
      clear hA1 hB1 hO1 hA2 hB2 hO2 hv1 hv2 i1 i2 i3 i4 i5 i6;have HST:=jDh A1 B1' A2 B2' p1 q1 p2 q2;obtain⟨E1,hE1⟩:=e_ ((if A2<A1 then A2 else A1));obtain⟨E2,hE2⟩:=e_ ((if B2'<B1' then B2' else B1'));obtain⟨E3,hE3⟩:=e_ ((if A2<A1 then p2 else p1));obtain⟨E4,hE4⟩:=e_ ((if B2'<B1' then q2 else q1));obtain⟨E5,hE5⟩:=e_ ((if A2<A1 then A1 else A2));obtain⟨E6,hE6⟩:=e_ ((if B2'<B1' then B1' else B2'));obtain⟨E7,hE7⟩:=e_ ((if A2<A1 then p1 else p2));obtain⟨E8,hE8⟩:=e_ ((if B2'<B1' then q1 else q2));rw[hE1,hE2,hE3,hE4,hE5,hE6,hE7,hE8] at HST hgo;have HSt:=h_ HST;clear HST hE1 hE2 hE3 hE4 hE5 hE6 hE7 hE8;have HR1:Hid (∀X,Kp W6 X Nul->X.rangeAt w.heap.size 6 [O I c1,O I r1,E p1,E q1]):=fun X kX=>J4 (pre:=[O I 6,O I o',ap ao x,aq s,E bb,O I f]) (post:=[O I c2,O I r2,E p2,E q2,U a q c]) (B16.o X kX)
      have HR2:Hid (∀X,Kp W6 X Nul->X.rangeAt w.heap.size 10 [O I c2,O I r2,E p2,E q2]):=(fun X kX=>J4 (pre:=[O I 6,O I o',ap ao x,aq s,E bb,O I f,O I c1,O I r1,E p1,E q1]) (post:=[U a q c]) (B16.o X kX));cases O1' with
      | false=>
       cases O2' with
       | false=>
        have HGO:Hid (goS X Y ⟨6,o',x,s,bb,f,c1,r1,p1,q1,c2,r2,p2,q2⟩=G):=(by show _=_;rw[hgo];rw[if_neg (by simp)]);clear hgo;go_wp2_with (first
         | (refine wpList_load_mid rfl 45 (.tmp 59) rfl w.heap.size 6 rfl [O I c1,O I r1,E p1,E q1] _ (HR1.o W6 (Kp.refl _ _)) underlying45 rfl j7 ?_)
         | fail)
        clear y0;refine(HS1.o _).mono ?_;rintro e w1 ⟨rfl,hk1⟩;have K1:=h_ hk1;clear hk1 HS1;obtain⟨W2,hW2⟩:=e_ (w1.alloc (.cells #[O I 0,O I 0,E R,E R] 45));have HW2:=h_ hW2;have K2:Hid (Kp W6 W2 Nul):=(by show Kp _ _ _;rw[<- hW2];exact K1.o.alloc _);have HF1:Hid (∀X,Kp W2 X Nul->Blk X w1.heap.size [O I 0,O I 0,E R,E R] 45):=fun X kX=>by
         have:Blk W2 w1.heap.size [O I 0,O I 0,E R,E R] 45:=(by rw[<- hW2];exact Blk.new w1 _ _);exact this.kp kX (fun x=>x)
        clear hW2
        (try simp only[Bool.false_eq_true,if_false])
        go_upto_region 15 with (first|(refine F9 rfl 45 (.tmp 12) (.tmp 64) rfl _ _ _ _ [O I 0,O I 0,E R,E R] (by first|rfl|simp) rfl rfl rfl j7 (I1 _ _ _ _) ?_)|fail)
        (try simp only[Act.put])
        rw[HW2.o];go_wp2_with (first
         | (refine wpList_load_mid rfl 45 (.tmp 67) rfl w.heap.size 10 rfl [O I c2,O I r2,E p2,E q2] _ (HR2.o W2 K2.o) underlying45 rfl j7 ?_)
         | fail)
        refine(HS2.o _).mono ?_;rintro e w3 ⟨rfl,hk3⟩;have K23:=h_ hk3;clear hk3 HS2 HW2;obtain⟨W4,hW4⟩:=e_ (w3.alloc (.cells #[O I 0,O I 0,E R,E R] 45));have HW4:=h_ hW4;have K24:Hid (Kp W2 W4 Nul):=(by show Kp _ _ _;rw[<- hW4];exact K23.o.alloc _);have K4:=h_ (K2.o.trans K24.o);have HF2:Hid (Blk W4 w3.heap.size [O I 0,O I 0,E R,E R] 45):=(by show Blk _ _ _ _;rw[<- hW4];exact Blk.new w3 _ _);clear hW4
        (try simp only[Bool.false_eq_true,if_false])
        go_upto_region 16 with (first|(refine F9 rfl 45 (.tmp 14) (.tmp 72) rfl _ _ _ _ [O I 0,O I 0,E R,E R] (by first|rfl|simp) rfl rfl rfl j7 (I1 _ _ _ _) ?_)|fail)
        (try simp only[Act.put])
        rw[HW4.o];go_wp2_with (first
         | (refine wpList_load_mid rfl 48 (.tmp 9) rfl wr.heap.size 0 rfl [O I 4,O I 0,ap ao 0,aq ⟨#[]⟩,E R,O I 4,O I 0,O I 0,E R,E R,O I 0,O I 0,E R,E R,U G 0 0] _ (j5 (HF6.o W4 (K4.o).of_nul)) underlying48 rfl j3 ?_)
         | (refine D5 rfl 48 (.tmp 6) (.tmp 80) rfl (w.heap.size+1) [O I 0,O I 0,ap ao 0,aq ⟨#[]⟩,E R,O I 0,O I 0,O I 0,E R,E R,O I 0,O I 0,E R,E R,U G 0 0] [O I 4,O I 0,ap ao 0,aq ⟨#[]⟩,E R,O I 4,O I 0,O I 0,E R,E R,O I 0,O I 0,E R,E R,U G 0 0] _ (B26.o W4 (K4.o)) rfl rfl rfl j3 (Hd.one ⟨4,0,0,⟨#[]⟩,R,4,0,0,R,R,0,0,R,R⟩ rfl) ?_;intro W5 hb5 hk5)
         | fail)
        refine bodyPost_ret (results_cell_row rfl _ _ (w.heap.size+1) 48 _ (0,0) _ rfl hb5 underlying48 rfl j3) rfl ?_;obtain⟨sl',fp',e1,e2,e3⟩:=LOST.o W5 HGO.o ((K6.o.of_nul.trans (K4.o).of_nul).trans (hk5.mono (fun i _ z=>.inl z)));first|exact⟨sl',e1,⟨fp',e2⟩,e3⟩|exact⟨sl',fp',e1,e2,e3⟩
       | true=>
        have HGO:Hid (goS X Y ⟨6,o',x,s,bb,f,c1,r1,p1,q1,c2,r2,p2,q2⟩=G):=(by show _=_;rw[hgo];rw[if_neg (by simp)]);clear hgo;go_wp2_with (first
         | (refine wpList_load_mid rfl 45 (.tmp 59) rfl w.heap.size 6 rfl [O I c1,O I r1,E p1,E q1] _ (HR1.o W6 (Kp.refl _ _)) underlying45 rfl j7 ?_)
         | fail)
        clear y0;refine(HS1.o _).mono ?_;rintro e w1 ⟨rfl,hk1⟩;have K1:=h_ hk1;clear hk1 HS1;obtain⟨W2,hW2⟩:=e_ (w1.alloc (.cells #[O I 0,O I 0,E R,E R] 45));have HW2:=h_ hW2;have K2:Hid (Kp W6 W2 Nul):=(by show Kp _ _ _;rw[<- hW2];exact K1.o.alloc _);have HF1:Hid (∀X,Kp W2 X Nul->Blk X w1.heap.size [O I 0,O I 0,E R,E R] 45):=fun X kX=>by
         have:Blk W2 w1.heap.size [O I 0,O I 0,E R,E R] 45:=(by rw[<- hW2];exact Blk.new w1 _ _);exact this.kp kX (fun x=>x)
        clear hW2
        (try simp only[Bool.false_eq_true,if_false])
        go_upto_region 15 with (first|(refine F9 rfl 45 (.tmp 12) (.tmp 64) rfl _ _ _ _ [O I 0,O I 0,E R,E R] (by first|rfl|simp) rfl rfl rfl j7 (I1 _ _ _ _) ?_)|fail)
        (try simp only[Act.put])
        rw[HW2.o];go_wp2_with (first
         | (refine wpList_load_mid rfl 45 (.tmp 67) rfl w.heap.size 10 rfl [O I c2,O I r2,E p2,E q2] _ (HR2.o W2 K2.o) underlying45 rfl j7 ?_)
         | fail)
        refine(HS2.o _).mono ?_;rintro e w3 ⟨rfl,hk3⟩;have K23:=h_ hk3;clear hk3 HS2 HW2;obtain⟨W4,hW4⟩:=e_ (w3.alloc (.cells #[O I A2,O I B2',E p2,E q2] 45));have HW4:=h_ hW4;have K24:Hid (Kp W2 W4 Nul):=(by show Kp _ _ _;rw[<- hW4];exact K23.o.alloc _);have K4:=h_ (K2.o.trans K24.o);have HF2:Hid (Blk W4 w3.heap.size [O I A2,O I B2',E p2,E q2] 45):=(by show Blk _ _ _ _;rw[<- hW4];exact Blk.new w3 _ _);clear hW4
        (try simp only[if_true])
        go_upto_region 16 with (first|(refine F9 rfl 45 (.tmp 14) (.tmp 72) rfl _ _ _ _ [O I A2,O I B2',E p2,E q2] (by first|rfl|simp) rfl rfl rfl j7 (I1 _ _ _ _) ?_)|fail)
        (try simp only[Act.put])
        rw[HW4.o];go_wp2_with (first
         | (refine wpList_load_mid rfl 48 (.tmp 9) rfl wr.heap.size 0 rfl [O I 4,O I 0,ap ao 0,aq ⟨#[]⟩,E R,O I 4,O I 0,O I 0,E R,E R,O I 0,O I 0,E R,E R,U G 0 0] _ (j5 (HF6.o W4 (K4.o).of_nul)) underlying48 rfl j3 ?_)
         | (refine D5 rfl 48 (.tmp 6) (.tmp 80) rfl (w.heap.size+1) [O I 0,O I 0,ap ao 0,aq ⟨#[]⟩,E R,O I 0,O I 0,O I 0,E R,E R,O I 0,O I 0,E R,E R,U G 0 0] [O I 4,O I 0,ap ao 0,aq ⟨#[]⟩,E R,O I 4,O I 0,O I 0,E R,E R,O I 0,O I 0,E R,E R,U G 0 0] _ (B26.o W4 (K4.o)) rfl rfl rfl j3 (Hd.one ⟨4,0,0,⟨#[]⟩,R,4,0,0,R,R,0,0,R,R⟩ rfl) ?_;intro W5 hb5 hk5)
         | fail)
        refine bodyPost_ret (results_cell_row rfl _ _ (w.heap.size+1) 48 _ (0,0) _ rfl hb5 underlying48 rfl j3) rfl ?_;obtain⟨sl',fp',e1,e2,e3⟩:=LOST.o W5 HGO.o ((K6.o.of_nul.trans (K4.o).of_nul).trans (hk5.mono (fun i _ z=>.inl z)));first|exact⟨sl',e1,⟨fp',e2⟩,e3⟩|exact⟨sl',fp',e1,e2,e3⟩
      | true=>
       cases O2' with
       | false=>
        have HGO:Hid (goS X Y ⟨6,o',x,s,bb,f,c1,r1,p1,q1,c2,r2,p2,q2⟩=G):=(by show _=_;rw[hgo];rw[if_neg (by simp)]);clear hgo;go_wp2_with (first
         | (refine wpList_load_mid rfl 45 (.tmp 59) rfl w.heap.size 6 rfl [O I c1,O I r1,E p1,E q1] _ (HR1.o W6 (Kp.refl _ _)) underlying45 rfl j7 ?_)
         | fail)
        clear y0;refine(HS1.o _).mono ?_;rintro e w1 ⟨rfl,hk1⟩;have K1:=h_ hk1;clear hk1 HS1;obtain⟨W2,hW2⟩:=e_ (w1.alloc (.cells #[O I A1,O I B1',E p1,E q1] 45));have HW2:=h_ hW2;have K2:Hid (Kp W6 W2 Nul):=(by show Kp _ _ _;rw[<- hW2];exact K1.o.alloc _);have HF1:Hid (∀X,Kp W2 X Nul->Blk X w1.heap.size [O I A1,O I B1',E p1,E q1] 45):=fun X kX=>by
         have:Blk W2 w1.heap.size [O I A1,O I B1',E p1,E q1] 45:=(by rw[<- hW2];exact Blk.new w1 _ _);exact this.kp kX (fun x=>x)
        clear hW2
        (try simp only[if_true])
        go_upto_region 15 with (first|(refine F9 rfl 45 (.tmp 12) (.tmp 64) rfl _ _ _ _ [O I A1,O I B1',E p1,E q1] (by first|rfl|simp) rfl rfl rfl j7 (I1 _ _ _ _) ?_)|fail)
        (try simp only[Act.put])
        rw[HW2.o];go_wp2_with (first
         | (refine wpList_load_mid rfl 45 (.tmp 67) rfl w.heap.size 10 rfl [O I c2,O I r2,E p2,E q2] _ (HR2.o W2 K2.o) underlying45 rfl j7 ?_)
         | fail)
        refine(HS2.o _).mono ?_;rintro e w3 ⟨rfl,hk3⟩;have K23:=h_ hk3;clear hk3 HS2 HW2;obtain⟨W4,hW4⟩:=e_ (w3.alloc (.cells #[O I 0,O I 0,E R,E R] 45));have HW4:=h_ hW4;have K24:Hid (Kp W2 W4 Nul):=(by show Kp _ _ _;rw[<- hW4];exact K23.o.alloc _);have K4:=h_ (K2.o.trans K24.o);have HF2:Hid (Blk W4 w3.heap.size [O I 0,O I 0,E R,E R] 45):=(by show Blk _ _ _ _;rw[<- hW4];exact Blk.new w3 _ _);clear hW4
        (try simp only[Bool.false_eq_true,if_false])
        go_upto_region 16 with (first|(refine F9 rfl 45 (.tmp 14) (.tmp 72) rfl _ _ _ _ [O I 0,O I 0,E R,E R] (by first|rfl|simp) rfl rfl rfl j7 (I1 _ _ _ _) ?_)|fail)
        (try simp only[Act.put])
        rw[HW4.o];go_wp2_with (first
         | (refine wpList_load_mid rfl 48 (.tmp 9) rfl wr.heap.size 0 rfl [O I 4,O I 0,ap ao 0,aq ⟨#[]⟩,E R,O I 4,O I 0,O I 0,E R,E R,O I 0,O I 0,E R,E R,U G 0 0] _ (j5 (HF6.o W4 (K4.o).of_nul)) underlying48 rfl j3 ?_)
         | (refine D5 rfl 48 (.tmp 6) (.tmp 80) rfl (w.heap.size+1) [O I 0,O I 0,ap ao 0,aq ⟨#[]⟩,E R,O I 0,O I 0,O I 0,E R,E R,O I 0,O I 0,E R,E R,U G 0 0] [O I 4,O I 0,ap ao 0,aq ⟨#[]⟩,E R,O I 4,O I 0,O I 0,E R,E R,O I 0,O I 0,E R,E R,U G 0 0] _ (B26.o W4 (K4.o)) rfl rfl rfl j3 (Hd.one ⟨4,0,0,⟨#[]⟩,R,4,0,0,R,R,0,0,R,R⟩ rfl) ?_;intro W5 hb5 hk5)
         | fail)
        refine bodyPost_ret (results_cell_row rfl _ _ (w.heap.size+1) 48 _ (0,0) _ rfl hb5 underlying48 rfl j3) rfl ?_;obtain⟨sl',fp',e1,e2,e3⟩:=LOST.o W5 HGO.o ((K6.o.of_nul.trans (K4.o).of_nul).trans (hk5.mono (fun i _ z=>.inl z)));first|exact⟨sl',e1,⟨fp',e2⟩,e3⟩|exact⟨sl',fp',e1,e2,e3⟩
       | true=>
        have HGO:Hid (goS X Y ⟨6,o',x,s,bb,f,c1,r1,p1,q1,c2,r2,p2,q2⟩=H ⟨6,o',x,s,bb,f,E1,E2,E3,E4,E5,E6,E7,E8⟩):=(by show _=_;rw[hgo];rw[if_pos ⟨rfl,rfl⟩]);clear hgo;go_wp2_with (first
         | (refine wpList_load_mid rfl 45 (.tmp 59) rfl w.heap.size 6 rfl [O I c1,O I r1,E p1,E q1] _ (HR1.o W6 (Kp.refl _ _)) underlying45 rfl j7 ?_)
         | fail)
        clear y0;refine(HS1.o _).mono ?_;rintro e w1 ⟨rfl,hk1⟩;have K1:=h_ hk1;clear hk1 HS1;obtain⟨W2,hW2⟩:=e_ (w1.alloc (.cells #[O I A1,O I B1',E p1,E q1] 45));have HW2:=h_ hW2;have K2:Hid (Kp W6 W2 Nul):=(by show Kp _ _ _;rw[<- hW2];exact K1.o.alloc _);have HF1:Hid (∀X,Kp W2 X Nul->Blk X w1.heap.size [O I A1,O I B1',E p1,E q1] 45):=fun X kX=>by
         have:Blk W2 w1.heap.size [O I A1,O I B1',E p1,E q1] 45:=(by rw[<- hW2];exact Blk.new w1 _ _);exact this.kp kX (fun x=>x)
        clear hW2
        (try simp only[if_true])
        go_upto_region 15 with (first|(refine F9 rfl 45 (.tmp 12) (.tmp 64) rfl _ _ _ _ [O I A1,O I B1',E p1,E q1] (by first|rfl|simp) rfl rfl rfl j7 (I1 _ _ _ _) ?_)|fail)
        (try simp only[Act.put])
        rw[HW2.o];go_wp2_with (first
         | (refine wpList_load_mid rfl 45 (.tmp 67) rfl w.heap.size 10 rfl [O I c2,O I r2,E p2,E q2] _ (HR2.o W2 K2.o) underlying45 rfl j7 ?_)
         | fail)
        refine(HS2.o _).mono ?_;rintro e w3 ⟨rfl,hk3⟩;have K23:=h_ hk3;clear hk3 HS2 HW2;obtain⟨W4,hW4⟩:=e_ (w3.alloc (.cells #[O I A2,O I B2',E p2,E q2] 45));have HW4:=h_ hW4;have K24:Hid (Kp W2 W4 Nul):=(by show Kp _ _ _;rw[<- hW4];exact K23.o.alloc _);have K4:=h_ (K2.o.trans K24.o);have HF2:Hid (Blk W4 w3.heap.size [O I A2,O I B2',E p2,E q2] 45):=(by show Blk _ _ _ _;rw[<- hW4];exact Blk.new w3 _ _);clear hW4
        (try simp only[if_true])
        go_upto_region 16 with (first|(refine F9 rfl 45 (.tmp 14) (.tmp 72) rfl _ _ _ _ [O I A2,O I B2',E p2,E q2] (by first|rfl|simp) rfl rfl rfl j7 (I1 _ _ _ _) ?_)|fail)
        (try simp only[Act.put])
        rw[HW4.o];go_wp2_with (first
         | (refine wpList_load_mid rfl 45 (.tmp 12) rfl w1.heap.size 0 rfl [O I A1,O I B1',E p1,E q1] _ (j5 (HF1.o W4 K24.o)) underlying45 rfl j7 ?_)
         | (refine wpList_load_mid rfl 45 (.tmp 14) rfl w3.heap.size 0 rfl [O I A2,O I B2',E p2,E q2] _ (j5 HF2.o) underlying45 rfl j7 ?_)
         | fail)
        refine(HSt.o _).mono ?_;rintro e w5 ⟨rfl,hk5⟩;have K5:=h_ (K4.o.trans hk5);have HN3:=h_ (B36.o w5 K5.o);clear hk5 HF1 HF2 HW4;go_wp2_with (first
         | (refine L8 rfl 45 (.tmp 87) (.tmp 85) rfl (w.heap.size+2) 6 [O I 6,O I o',ap ao x,aq s,E bb,O I f] [O I c1,O I r1,E p1,E q1] [O I c2,O I r2,E p2,E q2,v] [O I E1,O I E2,E E3,E E4] _ HN3.o rfl rfl rfl rfl j7 (I1 _ _ _ _) ?_;intro V1 hb3 hk3;have HG2:Hid (Blk V1 (w.heap.size+2) [O I 6,O I o',ap ao x,aq s,E bb,O I f,O I E1,O I E2,E E3,E E4,O I c2,O I r2,E p2,E q2,v] 48):=hb3;have KK2:Hid (Kp W6 V1 (fun i=>i=w.heap.size+2)):=K5.o.of_nul.trans hk3;clear hb3 hk3)
         | (refine L8 rfl 45 (.tmp 88) (.tmp 86) rfl (w.heap.size+2) 10 [O I 6,O I o',ap ao x,aq s,E bb,O I f,O I E1,O I E2,E E3,E E4] [O I c2,O I r2,E p2,E q2] [v] [O I E5,O I E6,E E7,E E8] _ HG2.o rfl rfl rfl rfl j7 (I1 _ _ _ _) ?_;intro V2 hb3 hk3;have HG3:Hid (Blk V2 (w.heap.size+2) [O I 6,O I o',ap ao x,aq s,E bb,O I f,O I E1,O I E2,E E3,E E4,O I E5,O I E6,E E7,E E8,v] 48):=hb3;have KK4:Hid (Kp W6 V2 (fun i=>i=w.heap.size+2)):=KK2.o.trans hk3;have KK3:Hid (Kp W6 V2 (fun i=>i=w.heap.size+1∨i=w.heap.size+2)):=KK4.o.mono (fun i _ e=>.inr e);have HZ:Hid (Blk V2 (w.heap.size+1) [O I 0,O I 0,ap ao 0,aq ⟨#[]⟩,E R,O I 0,O I 0,O I 0,E R,E R,O I 0,O I 0,E R,E R,U G 0 0] 48):=(B26.o W6 (Kp.refl _ _)).kp KK4.o (by show ¬_=_;omega);clear hb3 hk3)
         | (refine wpList_load_mid rfl 48 (.tmp 7) rfl (w.heap.size+2) 0 rfl [O I 6,O I o',ap ao x,aq s,E bb,O I f,O I E1,O I E2,E E3,E E4,O I E5,O I E6,E E7,E E8,v] _ (j5 HG3.o) underlying48 rfl j3 ?_)
         | (refine D5 rfl 48 (.tmp 6) (.tmp 89) rfl (w.heap.size+1) [O I 0,O I 0,ap ao 0,aq ⟨#[]⟩,E R,O I 0,O I 0,O I 0,E R,E R,O I 0,O I 0,E R,E R,U G 0 0] [O I 6,O I o',ap ao x,aq s,E bb,O I f,O I E1,O I E2,E E3,E E4,O I E5,O I E6,E E7,E E8,v] _ HZ.o rfl rfl rfl j3 (Hd.one ⟨6,o',x,s,bb,f,E1,E2,E3,E4,E5,E6,E7,E8⟩ O1.o) ?_;intro W5 hb5 hk5)
         | fail)
        refine bodyPost_ret (results_cell_row rfl _ _ (w.heap.size+1) 48 _ (0,0) _ rfl hb5 underlying48 rfl j3) rfl ?_;obtain⟨sl',fp',e1,e2,e3⟩:=FIN.o _ W5 HGO.o ((K6.o.of_nul.trans KK3.o).trans (hk5.mono (fun i _ z=>.inl z)));first|exact⟨sl',e1,⟨fp',e2⟩,e3⟩|exact⟨sl',fp',e1,e2,e3⟩
     ·skip
      have HGO:Hid (goS X Y ⟨k,o',x,s,bb,f,c1,r1,p1,q1,c2,r2,p2,q2⟩=H ⟨k,o',x,s,bb,f,c1,r1,p1,q1,c2,r2,p2,q2⟩):=(by show _=_;unfold goS;rw[if_neg (by rintro(e|e);exact k5 e;exact k6 e)]);have HN3:=h_ (B36.o W6 (Kp.refl _ _));have HZ:=h_ (B26.o W6 (Kp.refl _ _));have KK3:Hid (Kp W6 W6 (fun i=>i=w.heap.size+1∨i=w.heap.size+2)):=Kp.refl _ _;go_wp2_with (first
       | (refine wpList_load_mid rfl 48 (.tmp 7) rfl (w.heap.size+2) 0 rfl [O I k,O I o',ap ao x,aq s,E bb,O I f,O I c1,O I r1,E p1,E q1,O I c2,O I r2,E p2,E q2,v] _ (j5 HN3.o) underlying48 rfl j3 ?_)
       | (refine D5 rfl 48 (.tmp 6) (.tmp 89) rfl (w.heap.size+1) [O I 0,O I 0,ap ao 0,aq ⟨#[]⟩,E R,O I 0,O I 0,O I 0,E R,E R,O I 0,O I 0,E R,E R,U G 0 0] [O I k,O I o',ap ao x,aq s,E bb,O I f,O I c1,O I r1,E p1,E q1,O I c2,O I r2,E p2,E q2,v] _ HZ.o rfl rfl rfl j3 (Hd.one ⟨k,o',x,s,bb,f,c1,r1,p1,q1,c2,r2,p2,q2⟩ O1.o) ?_;intro W5 hb5 hk5)
       | fail)
      refine bodyPost_ret (results_cell_row rfl _ _ (w.heap.size+1) 48 _ (0,0) _ rfl hb5 underlying48 rfl j3) rfl ?_;obtain⟨sl',fp',e1,e2,e3⟩:=FIN.o _ W5 HGO.o ((K6.o.of_nul.trans KK3.o).trans (hk5.mono (fun i _ z=>.inl z)));first|exact⟨sl',e1,⟨fp',e2⟩,e3⟩|exact⟨sl',fp',e1,e2,e3⟩
end Go.Proofs.YtecjfnkakodebaaGreatDoor
