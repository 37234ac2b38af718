/-The document's Copy (quadrilleref22). -/
import Derived.Test.YtecjfnkakodebaaGreatDoorRmMzp
import Derived.Test.YtecjfnkakodebaaGreatDoorRmMoq
open Go.Proofs.Tryz
open Go.Value renaming int->O,bool->E,slice->U,agg->T,pointer->an,tuple->au
open Go.IntKind renaming i64->I
open Bool renaming false->R,true->J
open Option renaming some->H,none->G
open Go.Ending renaming returned->Q
set_option maxRecDepth 20000
set_option maxHeartbeats 32000000
namespace Go.Proofs.YtecjfnkakodebaaGreatDoor
open Go.RowKit Go.Maps Go.Sort Go.Lib Go.Shelf
inductive RcP (w w':World) (M0 Ys:List Cc):Value->Prop
 | full (h:pts M0 Ys=G) (k:Kp w w' Nul):RcP w w' M0 Ys (au #[an G,O I 41])
 | ok {M:List Cc} (h:pts M0 Ys=H M) (r:Nat) (hr:w.heap.size<=r) (dm:DM w' w.heap.size r M) (k:Kp w w' Nul):RcP w w' M0 Ys (au #[an (H ⟨r,0,G⟩),O I 0])
inductive RcK (A:Ar4) (t:Int×Int) (L M0:List Cc) (w w':World):Value->Prop
 | mk {v:Value} (K:List Cc) (st:E9 (K.map (·.1))) (mem:∀x,x∈K↔x∈L) (h:RcP w w' M0 (cpY A.1.1 A.1.2 t.1 t.2 (K.filter fun x=>inA A.1.1 A.1.2 A.2.1 A.2.2 x.1.1 x.1.2)) v):RcK A t L M0 w w' v
def cpS (A:Ar4) (t:Int×Int) (x:Cc):Option Cc:=if inA A.1.1 A.1.2 A.2.1 A.2.2 x.1.1 x.1.2=J then H ((x.1.1+t.1-A.1.1,x.1.2+t.2-A.1.2),hmC (shH (t.1-A.1.1) (t.2-A.1.2)) x.2) else G
theorem j1k {A:Ar4}{t:Int×Int}:∀K:List Cc,K.filterMap (cpS A t)=cpY A.1.1 A.1.2 t.1 t.2 (K.filter fun x=>inA A.1.1 A.1.2 A.2.1 A.2.2 x.1.1 x.1.2)
 | []=>rfl
 | x::K=>by
  cases h:inA A.1.1 A.1.2 A.2.1 A.2.2 x.1.1 x.1.2 with
  | true=>
   rw[List.filterMap_cons_some (by unfold cpS;rw[if_pos h]),List.filter_cons,if_pos h,j1k K]
   rfl
  | false=>
   rw[List.filterMap_cons_none (by unfold cpS;rw[if_neg (by rw[h];decide)]),List.filter_cons,if_neg (by rw[h];decide),j1k K]
theorem DM.down {w:World}{B B' r:Nat}{M:List Cc}(h:DM w B r M)(hB:B'<=B):DM w B' r M:=by
 obtain⟨v,ys,h1,h2⟩:=h.ex;exact⟨⟨v,ys,⟨h1.box,⟨⟨h1.pts.row.1,h1.pts.row.2.imp id fun ⟨g,c,cur,e,hb,rest⟩=>⟨g,c,cur,e,Nat.le_trans hB hb,rest⟩⟩,h1.pts.tree⟩⟩,h2⟩,h.ok,h.once⟩
theorem jD3 (A:Ar4)(t:Int×Int)(B g:Nat)(L M0:List Cc)(w:World)(hA:Ar4.ok A=J)(hf:fits A t=J)(hg:DM w B g L)
 (hm:∀y,y∈M0↔y∈L/\y∉inL (mvTo A t).1.1 (mvTo A t).1.2 (mvTo A t).2.1 (mvTo A t).2.2 L) (ho:M0.Pairwise (fun x y=>x.1≠y.1)) (hk0:Ok17 M0) :
 Calls prog 38 #[an (H ⟨g,0,G⟩),T #[O I A.1.1,O I A.1.2,O I A.2.1,O I A.2.2],T #[O I t.1,O I t.2]] w fun e w'=>∃v,e=Q v/\RcK A t L M0 w w' v:=by
 have hg0:=hg;obtain⟨v0,ys,hd,hal⟩:=hg.ex;obtain⟨p,cp,rfl,hrow⟩:=j19 hd;obtain⟨n,hn⟩:=e_ ys.length;obtain⟨K,hK⟩:=e_ (ys.map (·.1));rw[hK] at hal;rw[hn] at hd;have HN:Hid (ys.length=n/\K.length=n/\n<=4096/\ys.map (·.1)=K):=⟨hn,by rw[<- hK,List.length_map,hn],by have h1:=hal.len;have h2:=hg.ok.len;rw[<- hK,List.length_map,hn] at h1;omega,hK⟩;have HSl:Hid (∀wq,Kp w wq Nul->wq.cell? ⟨g,0,G⟩=H (U p n cp)):=fun wq k=>(hd.box.kp k (fun x=>x)).cell rfl
 have HRow:=h_ hrow;have HAl:=h_ hal;have HOk:Hid (Ok17 L/\L.Pairwise (fun x y=>x.1≠y.1)):=⟨hg.ok,hg.once⟩;clear hg hd hal hrow hn hK;have HA:=h_ hA;have HFit:=h_ hf;obtain⟨ak,hT⟩:=e_ (mvTo A t);have HGo:Hid (∀wq,Calls prog 74 #[T #[O I A.1.1,O I A.1.2,O I A.2.1,O I A.2.2],T #[O I t.1,O I t.2]] wq fun e w'=>e=Q (au #[T #[O I ak.1.1,O I ak.1.2,O I ak.2.1,O I ak.2.2],E J])/\Kp wq w' Nul):=fun wq=>by rw[<- hT];exact j6a A t wq hA hf
 have HWo:Hid (∀wq,Kp w wq Nul->Calls prog 75 #[an (H ⟨g,0,G⟩),T #[O I ak.1.1,O I ak.1.2,O I ak.2.1,O I ak.2.2]] wq fun e w'=>∃r,e=Q (an (H ⟨r,0,G⟩))/\wq.heap.size<=r/\DM w' w.heap.size r M0/\Kp wq w' Nul):=fun wq q=>by
  have hTok:Ar4.ok ak=J:=by rw[<- hT];exact hf
  refine(j3r ak B g L wq hTok (hg0.kp q)).mono ?_;rintro e w' ⟨v,rfl,⟨r,M,h2,h3,h4,h5⟩⟩;refine⟨r,rfl,h2,(h3.down q.size).congr (fun x=>?_) hk0 ho,h5⟩;rw[hm x,h4 x,hT];refine and_congr_right fun hx=>?_
  rw[Q6 rfl];exact⟨fun z y=>z ⟨hx,y⟩,fun z y=>z y.2⟩
 have HVa:Hid (∀wq,Calls prog 73 #[T #[O I A.1.1,O I A.1.2,O I A.2.1,O I A.2.2]] wq fun e w'=>e=Q (E J)/\Kp wq w' Nul):=fun wq=>(Q3 _ _ _ _ wq).mono fun e w' z=>⟨by rw[z.1];exact congrArg (fun b=>Q (E b)) hA,by rw[z.2];repeat (first|exact Kp.refl _ _|refine Kp.alloc ?_ _)⟩
 obtain⟨W0,hW0,kW0,b0,b1,sW0⟩:=lay2 w ([O I A.1.1,O I A.1.2,O I A.2.1,O I A.2.2]) ([O I t.1,O I t.2]) 34 32;have HW0:=h_ hW0;have KW0:=h_ kW0;have SW0:=h_ sW0;have B0:=k_ b0;have B1:=k_ b1;clear hW0 kW0 sW0 b0 b1;have hnp:=fun wq=>Q8 g wq
 clear hA hf hg0 hm ho hk0 hT;go_enter func38,ntmps38;go_wp2_with (first
  | (rw[HW0.o])
  | (refine wpList_load_mid rfl _ _ rfl _ _ rfl _ _ (j5 (B0.o _ (Kp.refl _ _))) underlying34 rfl D7 ?_)
  | fail)
 refine(HVa.o _).mono ?_;rintro e w1 ⟨rfl,hk1⟩;have K1:=h_ hk1;clear hk1 HVa;go_wp2_with (first
  | (refine wpList_load_mid rfl _ _ rfl _ _ rfl _ _ (j5 (B0.o _ K1.o)) underlying34 rfl D7 ?_)
  | (refine wpList_load_mid rfl _ _ rfl _ _ rfl _ _ (j5 (B1.o _ K1.o)) underlying32 rfl F5 ?_)
  | fail)
 refine(HGo.o _).mono ?_;rintro e w2 ⟨rfl,hk2⟩;obtain⟨W6,hW6,kW6,bW6,sW6⟩:=lay1 w2 [O I ak.1.1,O I ak.1.2,O I ak.2.1,O I ak.2.2] 34;have HW6:=h_ hW6;have K06:=h_ ((K1.o.trans hk2).trans kW6);have HTh:=h_ bW6;have HFr:=h_ fun X (kX:Kp W6 X Nul)=>B0.o X (K06.o.trans kX)
 have HTo:=h_ fun X (kX:Kp W6 X Nul)=>B1.o X (K06.o.trans kX)
 have HKw6:=h_ (KW0.o.trans K06.o);clear hk2 hW6 kW6 bW6 sW6 HGo hnp;go_upto_region 5 with (first
  | (refine F9 rfl _ (.tmp 9) (.tmp 27) rfl _ _ _ _ _ (by first|rfl|simp) rfl rfl rfl D7 (by simp[Value.oneCell']) ?_)
  | fail)
 (try simp only[Act.put])
 rw[HW6.o];go_wp2_with (first
  | (refine wpList_load_mid rfl _ (.tmp 9) rfl _ 0 rfl _ _ (j5 HTh.o) underlying34 rfl D7 ?_)
  | fail)
 refine(HWo.o _ HKw6.o).mono ?_;rintro e w7 ⟨r,rfl,hrl,hd7,hk7⟩;have HD7:=h_ hd7;have HRl:=h_ hrl;have HK67:=h_ hk7;have q0:=HSl.o w7 (HKw6.o.trans hk7);clear hrl hd7 hk7 HWo HTh HW6;go_upto_region 8 with fail;go_wp2_with fail;go_loopw[12] (fun i wr=>∃(k:Nat) (M:List Cc),k<=n/\i=O I k/\DM wr w.heap.size r M/\pts M0 ((K.take k).filterMap (cpS A t))=H M/\Kp W6 wr Nul) (fun i _=>n-(RowKit.intOf i).toNat)
 case atStart=>exact⟨0,M0,Nat.zero_le _,rfl,HD7.o,by rw[List.take_zero,List.filterMap_nil,pts],HK67.o⟩
 case round=>
  clear q0 HD7;obtain⟨k,M,hk,rfl,hdm,hpt,hkp⟩:=hrel;have HDM:=h_ hdm;have HPt:=h_ hpt;have HK6:=h_ hkp;have HKw:=h_ (HKw6.o.trans hkp);clear hdm hpt hkp;have q0:=HSl.o wr HKw.o;by_cases hlt:k<n
  ·skip
   have hkt:k<ys.length:=(by rw[HN.o.1];exact hlt);obtain⟨⟨⟨⟨c,s⟩,a⟩,sl⟩,hys⟩:∃y,ys[k]=y:=⟨_,rfl⟩;have hget:ys[k]? = H (((c,s),a),sl):=(by rw[List.getElem?_eq_getElem hkt,hys]);have hKk:K[k]? = H ((c,s),a):=(by rw[<- HN.o.2.2.2,List.getElem?_map,hget];rfl);obtain⟨b,rfl,hb,hra⟩:=HRow.o k _ hget;have hmL:=(HAl.o.mem _).1 (List.mem_of_getElem? hKk);have HGd:=h_ (HOk.o.1.gd _ hmL);have HvC:=h_ (HOk.o.1.at' _ hmL);have HKk:=h_ hKk;have HRG:Hid (∀wq,Kp w wq Nul->wq.rangeAt b (k*23) [O I c,O I s]/\wq.rangeAt b (k*23+2) (a.cells sl)/\wq.rangeAt b (k*23) (j8 ((c,s),a) sl)/\NdIn wq (fun b=>b<w.heap.size) sl a.t):=(fun wq q=>⟨(I9 (hra wq q).1).1,(I9 (hra wq q).1).2,(hra wq q).1,(hra wq q).2⟩);have hk0:(0:Int)<=(k:Int):=(by omega);have hkn:(k:Int)<(n:Int):=(by omega);have hkb:(k:Int)+1<=9223372036854775807:=(by have:=HN.o.2.2.1;omega);clear hkt hys hget hKk hb hra hmL
   obtain⟨V,hV⟩:=e_ (inR A.1.1 A.1.2 A.2.1 A.2.2 c s);have HV:Hid (inA A.1.1 A.1.2 A.2.1 A.2.2 c s=V):=(by show _=_;rw[<- j3H HA.o];exact hV);have HH:Hid (∀wq,Calls prog 76 #[T #[O I A.1.1,O I A.1.2,O I A.2.1,O I A.2.2],T #[O I c,O I s]] wq fun e w'=>e=Q (E V)/\Kp wq w' Nul):=(fun wq=>by rw[<- hV];exact X9 _ _ _ _ _ _ wq);clear hV;obtain⟨W1,hW1,kW1,bW1,sW1⟩:=lay1 wr (j8 ((c,s),a) sl) 52;have HW1:=h_ hW1;have K1:=h_ kW1;have HP1:=k_ bW1;have HIn1:=(h_ fun X (kX:Kp wr X Nul)=>(HRG.o X (HKw.o.trans kX)).2.2.2);have O1:=h_ ((HRG.o wr HKw.o).2.2.2.one);have HRP:=h_ ((HRG.o wr HKw.o).2.2.1);have p2:=(HP1.o W1 (Kp.refl _ _)).c_ 2 rfl;have HP2:=h_ p2;clear hW1 kW1 bW1 sW1 p2;go_upto_region 12 with (first
    | (rw[HW1.o])
    | (refine wpList_load_mid rfl _ (.tmp 48) rfl _ (k*23) rfl _ _ HRP.o underlying52 rfl j0B ?_)
    | (refine F9 rfl _ (.tmp 13) (.tmp 49) rfl _ _ _ _ _ (by first|rfl|simp) rfl rfl rfl j0B (j2G _ O1.o) ?_)
    | fail)
   (try simp only[Act.put])
   (try rw[HW1.o])
   clear q0 HRP;have a0:=(HFr.o W1 (HK6.o.trans K1.o)).c_ 0 rfl;have a1:=(HFr.o W1 (HK6.o.trans K1.o)).c_ 1 rfl;have a2:=(HFr.o W1 (HK6.o.trans K1.o)).c_ 2 rfl;have a3:=(HFr.o W1 (HK6.o.trans K1.o)).c_ 3 rfl;have p0:=(HP1.o W1 (Kp.refl _ _)).c_ 0 rfl;have p1:=(HP1.o W1 (Kp.refl _ _)).c_ 1 rfl;go_wp2_with fail;refine(HH.o _).mono ?_;rintro e w4 ⟨rfl,hk4⟩;have K14:=h_ hk4;have K4:=h_ (K1.o.trans hk4);clear hk4 a0 a1 a2 a3 p0 p1 HP2 HH;cases V with
   | false=>
    go_wp2_with fail;go_roundw
    case rel=>exact⟨k+1,M,by omega,by go_num,HDM.o.kp K4.o,(by rw[U7 HKk.o,List.filterMap_append];show pts M0 (_++([((c,s),a)]:List Cc).filterMap (cpS A t))=_;rw[List.filterMap_cons_none (by unfold cpS;rw[if_neg (by simp only[];rw[HV.o];decide)]),List.filterMap_nil,List.append_nil];exact HPt.o),HK6.o.trans K4.o⟩
    case measure=>simp only[RowKit.intOf];omega
   | true=>
    obtain⟨p1',hp1'⟩:=e_ (wrap64 (wrap64 (c-A.1.1)+t.1));obtain⟨p2',hp2'⟩:=e_ (wrap64 (wrap64 (s-A.1.2)+t.2));have HPq:Hid (wrap64 (wrap64 (c-A.1.1)+t.1)=p1'/\wrap64 (wrap64 (s-A.1.2)+t.2)=p2'):=⟨hp1',hp2'⟩;obtain⟨e1,e2,hvq⟩:p1'=c+t.1-A.1.1/\p2'=s+t.2-A.1.2/\vC p1' p2'=J:=by
     have h1:=(I2 A).1 HA.o;have h2:=(I2 _).1 (show Ar4.ok (mvTo A t)=J from HFit.o);unfold mvTo at h2;simp only at h2;have h3:=HV.o;unfold inA at h3;simp only[Bool.and_eq_true,decide_eq_true_eq] at h3;rw[G6,<- hp1',<- hp2'];unfold wrap64;omega
    have HPs:Hid ((cpS A t) ((c,s),a)=H ((p1',p2'),hmC (shH (p1'-c) (p2'-s)) a)):=by
     show cpS A t _=_;unfold cpS;rw[if_pos HV.o];have d1:p1'-c=t.1-A.1.1:=(by omega);have d2:p2'-s=t.2-A.1.2:=(by omega);rw[d1,d2,e1,e2]
    have HPut:=(h_ fun wq (q:Kp W1 wq Nul)=>j6n w.heap.size r M p1' p2' c s a sl wq (HDM.o.kp (K1.o.trans q)) (Nat.le_trans HKw.o.size (Nat.le_trans K1.o.size q.size)) HGd.o hvq HvC.o ((HIn1.o wq (K1.o.trans q)).mono (fun b hb hl=>⟨rfl,hl⟩)));have HR2:Hid (w4.rangeAt wr.heap.size 2 (a.cells sl)):=by
     have h2:=(I9 (j5 (HP1.o w4 K14.o))).2;rw[Nat.zero_add] at h2;exact h2
    have a0:=(HFr.o w4 (HK6.o.trans K4.o)).c_ 0 rfl;have a1:=(HFr.o w4 (HK6.o.trans K4.o)).c_ 1 rfl;have t0:=(HTo.o w4 (HK6.o.trans K4.o)).c_ 0 rfl;have t1:=(HTo.o w4 (HK6.o.trans K4.o)).c_ 1 rfl;have p0:=(HP1.o w4 K14.o).c_ 0 rfl;have p1:=(HP1.o w4 K14.o).c_ 1 rfl;clear hp1' hp2' e1 e2 hvq;go_wp2_with (first
     | (refine wpList_load_mid rfl _ (.tmp 55) rfl _ 2 rfl _ _ HR2.o underlying50 rfl D9 ?_)
     | fail)
    (try simp only[HPq.o.1,HPq.o.2])
    refine(HPut.o _ K14.o).mono ?_;rintro e w5 ⟨rfl,hd5,hk5⟩;have HD5:=h_ hd5;have K45:=h_ hk5;have HK65:=h_ ((HK6.o.trans K4.o).trans' hk5 (fun i hi e=>by have e':i=r:=e;have:=HRl.o;omega));clear hd5 hk5 a0 a1 t0 t1 p0 p1 HPq HPut HR2;cases hr:G9 M (p1',p2') with
    | true=>
     have HRm:=h_ hr;clear hr
     (try simp only[if_true])
     go_wp2_with fail;go_roundw
     case rel=>exact⟨k+1,_,by omega,by go_num,HD5.o,(by rw[U7 HKk.o,List.filterMap_append,j0s,HPt.o];show pts M (([((c,s),a)]:List Cc).filterMap (cpS A t))=_;rw[List.filterMap_cons_some HPs.o,List.filterMap_nil,pts,if_pos HRm.o,if_pos HRm.o,pts]),HK65.o⟩
     case measure=>simp only[RowKit.intOf];omega
    | false=>
     have HEx:Hid (∀X,Kp w5 X Nul->RcP w X M0 (cpY A.1.1 A.1.2 t.1 t.2 (K.filter fun x=>inA A.1.1 A.1.2 A.2.1 A.2.2 x.1.1 x.1.2)) (au #[an G,O I 41])):=fun X kX=>.full (by
      rw[<- j1k];have e:K=K.take k++([((c,s),a)]++K.drop (k+1)):=(by rw[<- List.append_assoc,<- U7 HKk.o,List.take_append_drop]);rw[e,List.filterMap_append,j0s,HPt.o];show pts M (List.filterMap _ _)=_;rw[List.filterMap_append,List.filterMap_cons_some HPs.o,List.filterMap_nil];show pts M (_::_)=_;rw[pts,if_neg (by rw[hr];decide)]) (HKw6.o.trans (HK65.o.trans kX))
     (try simp only[Bool.false_eq_true,if_false])
     clear hr;go_wp2_with fail
     go_ret2
     exact⟨_,rfl,.mk K HAl.o.st HAl.o.mem (HEx.o _ (Kp.refl _ _))⟩
  ·have hke:k=n:=(by omega);subst hke;have hkn:¬((k:Int)<(k:Int)):=(by omega);have HEnd:Hid (∀X,Kp wr X Nul->RcP w X M0 (cpY A.1.1 A.1.2 t.1 t.2 (K.filter fun x=>inA A.1.1 A.1.2 A.2.1 A.2.2 x.1.1 x.1.2)) (au #[an (H ⟨r,0,G⟩),O I 0])):=fun X kX=>by
    have e:=List.take_of_length_le (by rw[HN.o.2.1];exact Nat.le_refl _);have h:=HPt.o;rw[e,j1k] at h;exact .ok h r (Nat.le_trans HKw6.o.size HRl.o) (HDM.o.kp kX) (HKw.o.trans kX)
   have HKs:Hid (E9 (K.map (·.1))/\∀x,x∈K↔x∈L):=⟨HAl.o.st,HAl.o.mem⟩;go_wp2_with fail
   go_ret2
   exact⟨_,rfl,.mk K HKs.o.1 HKs.o.2 (HEnd.o _ (Kp.refl _ _))⟩
inductive RD (R3:Value->Value->World->Prop) (w':World):Value->Prop
 | mk {v b:Value} (h:R3 v b w'):RD R3 w' (au #[v,b,E J])
theorem j4y (gv rv:Value)(x0 x1 x2:Int)(A:Ar4)(f:Int×Int)(R1:Value->Int->World->World->Prop)(R2 R3:Value->Value->World->Prop)(w:World)(h0:I64 x0)(hk:pkf x0 6=0)
 (hP:∀wq,Kp w wq Nul->Calls prog 30 #[gv,O I x1,O I x2] wq fun e w'=>∃v u,e=Q (au #[v,O I u])/\R1 v u wq w') (hk1:∀v u wq w',R1 v u wq w'->Kp wq w' Nul)
 (hD:∀v u wq w',Kp w wq Nul->R1 v u wq w'->Calls prog 37 #[rv,E R,O I x1,O I x2] w' fun e w''=>∃b,e=Q (au #[b,O I u])/\R2 v b w'')
 (hA:∀v b wq,R2 v b wq->Calls prog 10 #[v,b] wq fun e w'=>e=Q (E J)/\R3 v b w') :
 Calls prog 9 #[gv,rv,T #[O I x0,O I x1,O I x2,O I A.1.1,O I A.1.2,O I A.2.1,O I A.2.2,O I f.1,O I f.2]] w fun e w'=>∃v,e=Q v/\RD R3 w' v:=by
 have HPk:Hid (∀wq,Calls prog 28 #[O I x0,O I 6] wq fun e w'=>e=Q (O I 0)/\w'=wq):=fun wq=>by
  have h:=j0q x0 6 h0 (by decide) wq;rw[hk] at h;exact h
 have HP:=h_ hP;have HK:=h_ hk1;have HD:=h_ hD;have HA:=h_ hA;obtain⟨W0,hW0,kW0,b0,sW0⟩:=lay1 w ([O I x0,O I x1,O I x2,O I A.1.1,O I A.1.2,O I A.2.1,O I A.2.2,O I f.1,O I f.2]) 36;have HW0:=h_ hW0;have KW0:=h_ kW0;have SW0:=h_ sW0;have B0:=k_ b0;clear hW0 kW0 sW0 b0;have s0:=(B0.o _ (Kp.refl _ _)).c_ 0 rfl;clear hP hk1 hD hA h0 hk;go_enter func9,ntmps9;go_wp2_with fail;rw[HW0.o];go_wp2_with fail;refine(HPk.o _).mono ?_;rintro e w1 ⟨rfl,hz⟩;replace hz:=hz.symm;subst hz;clear s0 HPk;have s1:=(B0.o _ (Kp.refl _ _)).c_ 1 rfl;have s2:=(B0.o _ (Kp.refl _ _)).c_ 2 rfl;go_wp2_with fail;refine(HP.o _ KW0.o).mono ?_;rintro e w2 ⟨v,u,rfl,hr⟩;have HR1:=h_ hr;have K2:=h_ (HK.o _ _ _ _ hr);clear hr s1 s2;have s1:=(B0.o _ K2.o).c_ 1 rfl;have s2:=(B0.o _ K2.o).c_ 2 rfl
 go_wp2_with fail;refine(HD.o v u W0 w2 KW0.o HR1.o).mono ?_;rintro e w3 ⟨b,rfl,hr⟩;have HR2:=h_ hr;clear hr s1 s2 HP HD HK HR1 K2;go_wp2_with fail;refine(HA.o v b w3 HR2.o).mono ?_;rintro e w4 ⟨rfl,hr⟩;have HR3:Hid (RD R3 w4 (au #[v,b,E J])):=.mk hr;clear hr HR2 HA;go_wp2_with fail;refine bodyPost_ret (v:=au #[v,b,E J]) (by simp[results,results9,go_sem]) rfl ?_;exact⟨_,rfl,HR3.o⟩
theorem j4u (gv rv:Value)(x0 x1 x2:Int)(A:Ar4)(f:Int×Int)(R1:Value->Int->World->World->Prop)(R2 R3:Value->Value->World->Prop)(w:World)(h0:I64 x0)(hk:pkf x0 6=1)
 (hP:∀wq,Kp w wq Nul->Calls prog 31 #[gv,O I x1,O I x2] wq fun e w'=>∃v u,e=Q (au #[v,O I u])/\R1 v u wq w') (hk1:∀v u wq w',R1 v u wq w'->Kp wq w' Nul)
 (hD:∀v u wq w',Kp w wq Nul->R1 v u wq w'->Calls prog 37 #[rv,E J,O I x1,O I x2] w' fun e w''=>∃b,e=Q (au #[b,O I u])/\R2 v b w'')
 (hA:∀v b wq,R2 v b wq->Calls prog 10 #[v,b] wq fun e w'=>e=Q (E J)/\R3 v b w') :
 Calls prog 9 #[gv,rv,T #[O I x0,O I x1,O I x2,O I A.1.1,O I A.1.2,O I A.2.1,O I A.2.2,O I f.1,O I f.2]] w fun e w'=>∃v,e=Q v/\RD R3 w' v:=by
 have HPk:Hid (∀wq,Calls prog 28 #[O I x0,O I 6] wq fun e w'=>e=Q (O I 1)/\w'=wq):=fun wq=>by
  have h:=j0q x0 6 h0 (by decide) wq;rw[hk] at h;exact h
 have HP:=h_ hP;have HK:=h_ hk1;have HD:=h_ hD;have HA:=h_ hA;obtain⟨W0,hW0,kW0,b0,sW0⟩:=lay1 w ([O I x0,O I x1,O I x2,O I A.1.1,O I A.1.2,O I A.2.1,O I A.2.2,O I f.1,O I f.2]) 36;have HW0:=h_ hW0;have KW0:=h_ kW0;have SW0:=h_ sW0;have B0:=k_ b0;clear hW0 kW0 sW0 b0;have s0:=(B0.o _ (Kp.refl _ _)).c_ 0 rfl;clear hP hk1 hD hA h0 hk;go_enter func9,ntmps9;go_wp2_with fail;rw[HW0.o];go_wp2_with fail;refine(HPk.o _).mono ?_;rintro e w1 ⟨rfl,hz⟩;replace hz:=hz.symm;subst hz;clear s0 HPk;have s1:=(B0.o _ (Kp.refl _ _)).c_ 1 rfl;have s2:=(B0.o _ (Kp.refl _ _)).c_ 2 rfl;go_wp2_with fail;refine(HP.o _ KW0.o).mono ?_;rintro e w2 ⟨v,u,rfl,hr⟩;have HR1:=h_ hr;have K2:=h_ (HK.o _ _ _ _ hr);clear hr s1 s2;have s1:=(B0.o _ K2.o).c_ 1 rfl;have s2:=(B0.o _ K2.o).c_ 2 rfl
 go_wp2_with fail;refine(HD.o v u W0 w2 KW0.o HR1.o).mono ?_;rintro e w3 ⟨b,rfl,hr⟩;have HR2:=h_ hr;clear hr s1 s2 HP HD HK HR1 K2;go_wp2_with fail;refine(HA.o v b w3 HR2.o).mono ?_;rintro e w4 ⟨rfl,hr⟩;have HR3:Hid (RD R3 w4 (au #[v,b,E J])):=.mk hr;clear hr HR2 HA;go_wp2_with fail;refine bodyPost_ret (v:=au #[v,b,E J]) (by simp[results,results9,go_sem]) rfl ?_;exact⟨_,rfl,HR3.o⟩
theorem j4v (gv rv:Value)(x0 x1 x2:Int)(A:Ar4)(f:Int×Int)(R1:Value->Int->World->World->Prop)(R2 R3:Value->Value->World->Prop)(w:World)(h0:I64 x0)(hk:pkf x0 6=2)
 (hP:∀wq,Kp w wq Nul->Calls prog 16 #[gv,T #[O I A.1.1,O I A.1.2,O I A.2.1,O I A.2.2],T #[O I f.1,O I f.2]] wq fun e w'=>∃v u,e=Q (au #[v,O I u])/\R1 v u wq w') (hk1:∀v u wq w',R1 v u wq w'->Kp wq w' Nul)
 (hD:∀v u wq w',Kp w wq Nul->R1 v u wq w'->Calls prog 38 #[rv,T #[O I A.1.1,O I A.1.2,O I A.2.1,O I A.2.2],T #[O I f.1,O I f.2]] w' fun e w''=>∃b,e=Q (au #[b,O I u])/\R2 v b w'')
 (hA:∀v b wq,R2 v b wq->Calls prog 10 #[v,b] wq fun e w'=>e=Q (E J)/\R3 v b w') :
 Calls prog 9 #[gv,rv,T #[O I x0,O I x1,O I x2,O I A.1.1,O I A.1.2,O I A.2.1,O I A.2.2,O I f.1,O I f.2]] w fun e w'=>∃v,e=Q v/\RD R3 w' v:=by
 have HPk:Hid (∀wq,Calls prog 28 #[O I x0,O I 6] wq fun e w'=>e=Q (O I 2)/\w'=wq):=fun wq=>by
  have h:=j0q x0 6 h0 (by decide) wq;rw[hk] at h;exact h
 have HP:=h_ hP;have HK:=h_ hk1;have HD:=h_ hD;have HA:=h_ hA;obtain⟨W0,hW0,kW0,b0,sW0⟩:=lay1 w ([O I x0,O I x1,O I x2,O I A.1.1,O I A.1.2,O I A.2.1,O I A.2.2,O I f.1,O I f.2]) 36;have HW0:=h_ hW0;have KW0:=h_ kW0;have SW0:=h_ sW0;have B0:=k_ b0;clear hW0 kW0 sW0 b0;have s0:=(B0.o _ (Kp.refl _ _)).c_ 0 rfl;clear hP hk1 hD hA h0 hk;go_enter func9,ntmps9;go_wp2_with fail;rw[HW0.o];go_wp2_with fail;refine(HPk.o _).mono ?_;rintro e w1 ⟨rfl,hz⟩;replace hz:=hz.symm;subst hz;clear s0 HPk;have s3:=(B0.o _ (Kp.refl _ _)).c_ 3 rfl;have s4:=(B0.o _ (Kp.refl _ _)).c_ 4 rfl;have s5:=(B0.o _ (Kp.refl _ _)).c_ 5 rfl;have s6:=(B0.o _ (Kp.refl _ _)).c_ 6 rfl;have s7:=(B0.o _ (Kp.refl _ _)).c_ 7 rfl;have s8:=(B0.o _ (Kp.refl _ _)).c_ 8 rfl;go_wp2_with fail
 refine(HP.o _ KW0.o).mono ?_;rintro e w2 ⟨v,u,rfl,hr⟩;have HR1:=h_ hr;have K2:=h_ (HK.o _ _ _ _ hr);clear hr s3 s4 s5 s6 s7 s8;have s3:=(B0.o _ K2.o).c_ 3 rfl;have s4:=(B0.o _ K2.o).c_ 4 rfl;have s5:=(B0.o _ K2.o).c_ 5 rfl;have s6:=(B0.o _ K2.o).c_ 6 rfl;have s7:=(B0.o _ K2.o).c_ 7 rfl;have s8:=(B0.o _ K2.o).c_ 8 rfl;go_wp2_with fail;refine(HD.o v u W0 w2 KW0.o HR1.o).mono ?_;rintro e w3 ⟨b,rfl,hr⟩;have HR2:=h_ hr;clear hr s3 s4 s5 s6 s7 s8 HP HD HK HR1 K2;go_wp2_with fail;refine(HA.o v b w3 HR2.o).mono ?_;rintro e w4 ⟨rfl,hr⟩;have HR3:Hid (RD R3 w4 (au #[v,b,E J])):=.mk hr;clear hr HR2 HA;go_wp2_with fail;refine bodyPost_ret (v:=au #[v,b,E J]) (by simp[results,results9,go_sem]) rfl ?_;exact⟨_,rfl,HR3.o⟩
theorem j4w (gv rv:Value)(x0 x1 x2:Int)(A:Ar4)(f:Int×Int)(R1:Value->Int->World->World->Prop)(R2 R3:Value->Value->World->Prop)(w:World)(h0:I64 x0)(hk:pkf x0 6=3)
 (hP:∀wq,Kp w wq Nul->Calls prog 22 #[gv,T #[O I f.1,O I f.2],T #[O I A.1.1,O I A.1.2,O I A.2.1,O I A.2.2]] wq fun e w'=>∃v u,e=Q (au #[v,O I u])/\R1 v u wq w') (hk1:∀v u wq w',R1 v u wq w'->Kp wq w' Nul)
 (hD:∀v u wq w',Kp w wq Nul->R1 v u wq w'->Calls prog 39 #[rv,T #[O I f.1,O I f.2],T #[O I A.1.1,O I A.1.2,O I A.2.1,O I A.2.2]] w' fun e w''=>∃b,e=Q (au #[b,O I u])/\R2 v b w'')
 (hA:∀v b wq,R2 v b wq->Calls prog 10 #[v,b] wq fun e w'=>e=Q (E J)/\R3 v b w') :
 Calls prog 9 #[gv,rv,T #[O I x0,O I x1,O I x2,O I A.1.1,O I A.1.2,O I A.2.1,O I A.2.2,O I f.1,O I f.2]] w fun e w'=>∃v,e=Q v/\RD R3 w' v:=by
 have HPk:Hid (∀wq,Calls prog 28 #[O I x0,O I 6] wq fun e w'=>e=Q (O I 3)/\w'=wq):=fun wq=>by
  have h:=j0q x0 6 h0 (by decide) wq;rw[hk] at h;exact h
 have HP:=h_ hP;have HK:=h_ hk1;have HD:=h_ hD;have HA:=h_ hA;obtain⟨W0,hW0,kW0,b0,sW0⟩:=lay1 w ([O I x0,O I x1,O I x2,O I A.1.1,O I A.1.2,O I A.2.1,O I A.2.2,O I f.1,O I f.2]) 36;have HW0:=h_ hW0;have KW0:=h_ kW0;have SW0:=h_ sW0;have B0:=k_ b0;clear hW0 kW0 sW0 b0;have s0:=(B0.o _ (Kp.refl _ _)).c_ 0 rfl;clear hP hk1 hD hA h0 hk;go_enter func9,ntmps9;go_wp2_with fail;rw[HW0.o];go_wp2_with fail;refine(HPk.o _).mono ?_;rintro e w1 ⟨rfl,hz⟩;replace hz:=hz.symm;subst hz;clear s0 HPk;have s3:=(B0.o _ (Kp.refl _ _)).c_ 3 rfl;have s4:=(B0.o _ (Kp.refl _ _)).c_ 4 rfl;have s5:=(B0.o _ (Kp.refl _ _)).c_ 5 rfl;have s6:=(B0.o _ (Kp.refl _ _)).c_ 6 rfl;have s7:=(B0.o _ (Kp.refl _ _)).c_ 7 rfl;have s8:=(B0.o _ (Kp.refl _ _)).c_ 8 rfl;go_wp2_with fail
 refine(HP.o _ KW0.o).mono ?_;rintro e w2 ⟨v,u,rfl,hr⟩;have HR1:=h_ hr;have K2:=h_ (HK.o _ _ _ _ hr);clear hr s3 s4 s5 s6 s7 s8;have s3:=(B0.o _ K2.o).c_ 3 rfl;have s4:=(B0.o _ K2.o).c_ 4 rfl;have s5:=(B0.o _ K2.o).c_ 5 rfl;have s6:=(B0.o _ K2.o).c_ 6 rfl;have s7:=(B0.o _ K2.o).c_ 7 rfl;have s8:=(B0.o _ K2.o).c_ 8 rfl;go_wp2_with fail;refine(HD.o v u W0 w2 KW0.o HR1.o).mono ?_;rintro e w3 ⟨b,rfl,hr⟩;have HR2:=h_ hr;clear hr s3 s4 s5 s6 s7 s8 HP HD HK HR1 K2;go_wp2_with fail;refine(HA.o v b w3 HR2.o).mono ?_;rintro e w4 ⟨rfl,hr⟩;have HR3:Hid (RD R3 w4 (au #[v,b,E J])):=.mk hr;clear hr HR2 HA;go_wp2_with fail;refine bodyPost_ret (v:=au #[v,b,E J]) (by simp[results,results9,go_sem]) rfl ?_;exact⟨_,rfl,HR3.o⟩
theorem j4x (gv rv:Value)(x0 x1 x2:Int)(A:Ar4)(f:Int×Int)(R1:Value->Int->World->World->Prop)(R2 R3:Value->Value->World->Prop)(w:World)(h0:I64 x0)(hk:pkf x0 6=4)
 (hP:∀wq,Kp w wq Nul->Calls prog 29 #[gv,T #[O I A.1.1,O I A.1.2,O I A.2.1,O I A.2.2],T #[O I f.1,O I f.2]] wq fun e w'=>∃v u,e=Q (au #[v,O I u])/\R1 v u wq w') (hk1:∀v u wq w',R1 v u wq w'->Kp wq w' Nul)
 (hD:∀v u wq w',Kp w wq Nul->R1 v u wq w'->Calls prog 40 #[rv,T #[O I A.1.1,O I A.1.2,O I A.2.1,O I A.2.2],T #[O I f.1,O I f.2]] w' fun e w''=>∃b,e=Q (au #[b,O I u])/\R2 v b w'')
 (hA:∀v b wq,R2 v b wq->Calls prog 10 #[v,b] wq fun e w'=>e=Q (E J)/\R3 v b w') :
 Calls prog 9 #[gv,rv,T #[O I x0,O I x1,O I x2,O I A.1.1,O I A.1.2,O I A.2.1,O I A.2.2,O I f.1,O I f.2]] w fun e w'=>∃v,e=Q v/\RD R3 w' v:=by
 have HPk:Hid (∀wq,Calls prog 28 #[O I x0,O I 6] wq fun e w'=>e=Q (O I 4)/\w'=wq):=fun wq=>by
  have h:=j0q x0 6 h0 (by decide) wq;rw[hk] at h;exact h
 have HP:=h_ hP;have HK:=h_ hk1;have HD:=h_ hD;have HA:=h_ hA;obtain⟨W0,hW0,kW0,b0,sW0⟩:=lay1 w ([O I x0,O I x1,O I x2,O I A.1.1,O I A.1.2,O I A.2.1,O I A.2.2,O I f.1,O I f.2]) 36;have HW0:=h_ hW0;have KW0:=h_ kW0;have SW0:=h_ sW0;have B0:=k_ b0;clear hW0 kW0 sW0 b0;have s0:=(B0.o _ (Kp.refl _ _)).c_ 0 rfl;clear hP hk1 hD hA h0 hk;go_enter func9,ntmps9;go_wp2_with fail;rw[HW0.o];go_wp2_with fail;refine(HPk.o _).mono ?_;rintro e w1 ⟨rfl,hz⟩;replace hz:=hz.symm;subst hz;clear s0 HPk;have s3:=(B0.o _ (Kp.refl _ _)).c_ 3 rfl;have s4:=(B0.o _ (Kp.refl _ _)).c_ 4 rfl;have s5:=(B0.o _ (Kp.refl _ _)).c_ 5 rfl;have s6:=(B0.o _ (Kp.refl _ _)).c_ 6 rfl;have s7:=(B0.o _ (Kp.refl _ _)).c_ 7 rfl;have s8:=(B0.o _ (Kp.refl _ _)).c_ 8 rfl;go_wp2_with fail
 refine(HP.o _ KW0.o).mono ?_;rintro e w2 ⟨v,u,rfl,hr⟩;have HR1:=h_ hr;have K2:=h_ (HK.o _ _ _ _ hr);clear hr s3 s4 s5 s6 s7 s8;have s3:=(B0.o _ K2.o).c_ 3 rfl;have s4:=(B0.o _ K2.o).c_ 4 rfl;have s5:=(B0.o _ K2.o).c_ 5 rfl;have s6:=(B0.o _ K2.o).c_ 6 rfl;have s7:=(B0.o _ K2.o).c_ 7 rfl;have s8:=(B0.o _ K2.o).c_ 8 rfl;go_wp2_with fail;refine(HD.o v u W0 w2 KW0.o HR1.o).mono ?_;rintro e w3 ⟨b,rfl,hr⟩;have HR2:=h_ hr;clear hr s3 s4 s5 s6 s7 s8 HP HD HK HR1 K2;go_wp2_with fail;refine(HA.o v b w3 HR2.o).mono ?_;rintro e w4 ⟨rfl,hr⟩;have HR3:Hid (RD R3 w4 (au #[v,b,E J])):=.mk hr;clear hr HR2 HA;go_wp2_with fail;refine bodyPost_ret (v:=au #[v,b,E J]) (by simp[results,results9,go_sem]) rfl ?_;exact⟨_,rfl,HR3.o⟩
theorem j4t (gv rv:Value)(x0 x1 x2:Int)(A:Ar4)(f:Int×Int)(R1:Value->Int->World->World->Prop)(R2 R3:Value->Value->World->Prop)(w:World)(h0:I64 x0)(hk:pkf x0 6=5)
 (hP:∀wq,Kp w wq Nul->Calls prog 23 #[gv,T #[O I A.1.1,O I A.1.2,O I A.2.1,O I A.2.2]] wq fun e w'=>∃v u,e=Q (au #[v,O I u])/\R1 v u wq w') (hk1:∀v u wq w',R1 v u wq w'->Kp wq w' Nul)
 (hD:∀v u wq w',Kp w wq Nul->R1 v u wq w'->Calls prog 41 #[rv,T #[O I A.1.1,O I A.1.2,O I A.2.1,O I A.2.2]] w' fun e w''=>∃b,e=Q (au #[b,O I u])/\R2 v b w'')
 (hA:∀v b wq,R2 v b wq->Calls prog 10 #[v,b] wq fun e w'=>e=Q (E J)/\R3 v b w') :
 Calls prog 9 #[gv,rv,T #[O I x0,O I x1,O I x2,O I A.1.1,O I A.1.2,O I A.2.1,O I A.2.2,O I f.1,O I f.2]] w fun e w'=>∃v,e=Q v/\RD R3 w' v:=by
 have HPk:Hid (∀wq,Calls prog 28 #[O I x0,O I 6] wq fun e w'=>e=Q (O I 5)/\w'=wq):=fun wq=>by
  have h:=j0q x0 6 h0 (by decide) wq;rw[hk] at h;exact h
 have HP:=h_ hP;have HK:=h_ hk1;have HD:=h_ hD;have HA:=h_ hA;obtain⟨W0,hW0,kW0,b0,sW0⟩:=lay1 w ([O I x0,O I x1,O I x2,O I A.1.1,O I A.1.2,O I A.2.1,O I A.2.2,O I f.1,O I f.2]) 36;have HW0:=h_ hW0;have KW0:=h_ kW0;have SW0:=h_ sW0;have B0:=k_ b0;clear hW0 kW0 sW0 b0;have s0:=(B0.o _ (Kp.refl _ _)).c_ 0 rfl;clear hP hk1 hD hA h0 hk;go_enter func9,ntmps9;go_wp2_with fail;rw[HW0.o];go_wp2_with fail;refine(HPk.o _).mono ?_;rintro e w1 ⟨rfl,hz⟩;replace hz:=hz.symm;subst hz;clear s0 HPk;have s3:=(B0.o _ (Kp.refl _ _)).c_ 3 rfl;have s4:=(B0.o _ (Kp.refl _ _)).c_ 4 rfl;have s5:=(B0.o _ (Kp.refl _ _)).c_ 5 rfl;have s6:=(B0.o _ (Kp.refl _ _)).c_ 6 rfl;go_wp2_with fail;refine(HP.o _ KW0.o).mono ?_;rintro e w2 ⟨v,u,rfl,hr⟩;have HR1:=h_ hr;have K2:=h_ (HK.o _ _ _ _ hr)
 clear hr s3 s4 s5 s6;have s3:=(B0.o _ K2.o).c_ 3 rfl;have s4:=(B0.o _ K2.o).c_ 4 rfl;have s5:=(B0.o _ K2.o).c_ 5 rfl;have s6:=(B0.o _ K2.o).c_ 6 rfl;go_wp2_with fail;refine(HD.o v u W0 w2 KW0.o HR1.o).mono ?_;rintro e w3 ⟨b,rfl,hr⟩;have HR2:=h_ hr;clear hr s3 s4 s5 s6 HP HD HK HR1 K2;go_wp2_with fail;refine(HA.o v b w3 HR2.o).mono ?_;rintro e w4 ⟨rfl,hr⟩;have HR3:Hid (RD R3 w4 (au #[v,b,E J])):=.mk hr;clear hr HR2 HA;go_wp2_with fail;refine bodyPost_ret (v:=au #[v,b,E J]) (by simp[results,results9,go_sem]) rfl ?_;exact⟨_,rfl,HR3.o⟩
theorem jAF {K L:List Cc}{f:Int×Int}{u:Ct}{lo:Nat}(hp:I8 K f lo)(ha:Al L K)(hk:Ok17 L)(ho:L.Pairwise (fun x y=>x.1≠y.1))(hr:Rd L f u):gtL K lo f=u:=by
 cases h:isK K lo f with
 | false=>
  rw[j5M h];rcases hr with h1|⟨rfl,_⟩
  ·have:=(j0C hp ha.st).2 ⟨u,(ha.mem _).2 h1⟩;rw[h] at this;cases this
  ·rfl
 | true=>
  obtain⟨x,hx,e⟩:=j5N h;have hxf:x.1=f:=by
   unfold isK at h;rw[hx] at h;exact of_decide_eq_true h
  have hxL:=(ha.mem _).1 (List.mem_of_getElem? hx);rw[e];have hx2:(f,x.2)∈L:=by rw[<- hxf];exact hxL
  rw[(hk.gd _ hxL).cp];rcases hr with h1|⟨_,h1⟩
  ·exact j0E ho hx2 h1
  ·exact absurd hx2 (h1 _)
theorem jDD (A:Ar4)(f:Int×Int)(u:Ct)(B g:Nat)(L M0:List Cc)(w:World)(hA:Ar4.ok A=J)(hf:vC f.1 f.2=J)(hg:DM w B g L)(hrd:Rd L f u)
 (hm:∀y,y∈M0↔y∈L/\y∉inL A.1.1 A.1.2 A.2.1 A.2.2 L) (ho:M0.Pairwise (fun x y=>x.1≠y.1)) (hk0:Ok17 M0) :
 Calls prog 39 #[an (H ⟨g,0,G⟩),T #[O I f.1,O I f.2],T #[O I A.1.1,O I A.1.2,O I A.2.1,O I A.2.2]] w fun e w'=>∃v,e=Q v/\RcP w w' M0 (if u.k=0 then [] else (flY f.1 f.2 A.1.1 A.1.2 A.2.1 A.2.2 u)) v:=by
 have HA:=h_ hA;have HvF:=h_ hf;have HGu:=h_ fun (q:u.k≠0)=>j6V hg.ok hrd q
 have HGet:Hid (∀wq,Kp w wq Nul->Calls prog 78 #[an (H ⟨g,0,G⟩),T #[O I f.1,O I f.2]] wq fun e w'=>∃sl fp,e=Q (u.val sl)/\Own w' wq.heap.size sl u.t fp/\Kp wq w' Nul):=fun wq q=>by
  obtain⟨v0,ys,hd,hal⟩:=(hg.kp q).ex;refine(jDH B g v0 ys _ f.1 f.2 wq hd rfl (by rw[hal.len];exact hg.ok.len) hal.st (fun x hx=>by have h:=hg.ok.gd x ((hal.mem x).1 hx);exact⟨h.x,h.size,h.ok⟩)).mono ?_;rintro e w' ⟨lo,sl,fp,hp,rfl,h2,h3⟩;have e1:=jAF hp hal hg.ok hg.once hrd;rw[show (f.1,f.2)=f from rfl] at *;rw[e1] at h2 ⊢;exact⟨sl,fp,rfl,h2,h3⟩
 have HWo:Hid (∀wq,Kp w wq Nul->Calls prog 75 #[an (H ⟨g,0,G⟩),T #[O I A.1.1,O I A.1.2,O I A.2.1,O I A.2.2]] wq fun e w'=>∃r,e=Q (an (H ⟨r,0,G⟩))/\wq.heap.size<=r/\DM w' w.heap.size r M0/\Kp wq w' Nul):=fun wq q=>by
  refine(j3r A B g L wq hA (hg.kp q)).mono ?_;rintro e w' ⟨v,rfl,⟨r,M,h2,h3,h4,h5⟩⟩;refine⟨r,rfl,h2,(h3.down q.size).congr (fun x=>?_) hk0 ho,h5⟩;rw[hm x,h4 x];refine and_congr_right fun hx=>?_
  rw[Q6 rfl];exact⟨fun z y=>z ⟨hx,y⟩,fun z y=>z y.2⟩
 have HVa:Hid (∀wq,Calls prog 73 #[T #[O I A.1.1,O I A.1.2,O I A.2.1,O I A.2.2]] wq fun e w'=>e=Q (E J)/\Kp wq w' Nul):=fun wq=>(Q3 _ _ _ _ wq).mono fun e w' z=>⟨by rw[z.1];exact congrArg (fun b=>Q (E b)) hA,by rw[z.2];repeat (first|exact Kp.refl _ _|refine Kp.alloc ?_ _)⟩
 have HVc:Hid (∀wq,Calls prog 49 #[T #[O I f.1,O I f.2]] wq fun e w'=>e=Q (E J)/\Kp wq w' Nul):=fun wq=>(j0t _ _ wq).mono fun e w' z=>⟨by rw[z.1,hf],Kp.of_gr z.2⟩
 obtain⟨W0,hW0,kW0,b0,b1,sW0⟩:=lay2 w ([O I f.1,O I f.2]) ([O I A.1.1,O I A.1.2,O I A.2.1,O I A.2.2]) 32 34;have HW0:=h_ hW0;have KW0:=h_ kW0;have SW0:=h_ sW0;have B0:=k_ b0;have B1:=k_ b1;clear hW0 kW0 sW0 b0 b1;have hnp:=fun wq=>Q8 g wq
 obtain⟨wd,hwd⟩:=e_ (wdA A.1.1 A.2.1);obtain⟨ht,hht⟩:=e_ (wdA A.1.2 A.2.2);have HWd:=h_ hwd;have HWd2:Hid ((wd:Int)=A.2.1-A.1.1+1):=by have h:=(I2 A).1 hA;show _=_;rw[<- hwd];unfold wdA;omega
 have HHt:Hid ((ht:Int)=A.2.2-A.1.2+1):=by have h:=(I2 A).1 hA;show _=_;rw[<- hht];unfold wdA;omega
 have HSz:Hid (szN A.1.1 A.1.2 A.2.1 A.2.2=ht*wd):=by show _=_;unfold szN;rw[if_pos (show vA A.1.1 A.1.2 A.2.1 A.2.2=J from hA),hwd,hht]
 obtain⟨Ys,hYs⟩:=e_ ((if u.k=0 then [] else (flY f.1 f.2 A.1.1 A.1.2 A.2.1 A.2.2 u)));rw[hYs];have HYs:=h_ hYs;clear hA hf hm ho hk0 hwd hht hrd hg hYs;go_enter func39,ntmps39;go_wp2_with (first
  | (rw[HW0.o])
  | (refine wpList_load_mid rfl _ (.tmp 5) rfl _ 0 rfl _ _ (j5 (B1.o _ (Kp.refl _ _))) underlying34 rfl D7 ?_)
  | fail)
 refine(HVa.o _).mono ?_;rintro e w1 ⟨rfl,hk1⟩;have K1:=h_ hk1;clear hk1 HVa;go_wp2_with (first
  | (refine wpList_load_mid rfl _ (.tmp 4) rfl _ 0 rfl _ _ (j5 (B0.o _ K1.o)) underlying32 rfl F5 ?_)
  | fail)
 refine(HVc.o _).mono ?_;rintro e w2 ⟨rfl,hk2⟩;have K2:=h_ (K1.o.trans hk2);clear hk2 HVc K1;go_wp2_with (first
  | (refine wpList_load_mid rfl _ (.tmp 4) rfl _ 0 rfl _ _ (j5 (B0.o _ K2.o)) underlying32 rfl F5 ?_)
  | fail)
 refine(HGet.o _ (KW0.o.trans K2.o)).mono ?_;rintro e w3 ⟨su,fp,rfl,hown,hk3⟩;obtain⟨cb,hcb⟩:=e_ w3.heap.size;obtain⟨W7,hW7,kW7,bW7,sW7⟩:=lay1 w3 (u.cells su) 50;rw[hcb] at bW7;have HW7:=h_ hW7;have K07:=h_ ((K2.o.trans hk3).trans kW7);have HCb:=k_ bW7;have HSu:=h_ fun X (kX:Kp W7 X Nul)=>((hown.isIn.kp kW7 (fun _ _ x=>x)).kp kX (fun _ _ x=>x)).mono (fun b hb hl=>⟨rfl,hl⟩)
 have HO1:=h_ hown.own.one;have HFr:=h_ fun X (kX:Kp W7 X Nul)=>B0.o X (K07.o.trans kX)
 have HTo:=h_ fun X (kX:Kp W7 X Nul)=>B1.o X (K07.o.trans kX)
 have HKw7:=h_ (KW0.o.trans K07.o);have HCbe:=h_ hcb;clear hk3 hcb hW7 kW7 bW7 sW7 hown HGet hnp;go_upto_region 8 with (first
  | (refine F9 rfl _ (.tmp 10) (.tmp 29) rfl _ _ _ _ _ (by first|rfl|simp) rfl rfl rfl D9 (j4o u HO1.o) ?_)
  | fail)
 (try simp only[Act.put])
 rw[HW7.o,HCbe.o];go_wp2_with (first
  | (refine wpList_load_mid rfl _ (.tmp 5) rfl _ 0 rfl _ _ (j5 (HTo.o W7 (Kp.refl _ _))) underlying34 rfl D7 ?_)
  | fail)
 refine(HWo.o _ HKw7.o).mono ?_;rintro e w8 ⟨r,rfl,hrl,hd8,hk8⟩;have HD8:=h_ hd8;have HRl:=h_ hrl;have HK78:=h_ hk8;have c0:=(HCb.o w8 hk8).c_ 0 rfl;clear hrl hd8 hk8 HWo HW7;by_cases hk:u.k=0
 ·have HEx:Hid (∀X,Kp w8 X Nul->RcP w X M0 Ys (au #[an (H ⟨r,0,G⟩),O I 0])):=fun X kX=>.ok (M:=M0) (by rw[<- HYs.o,if_pos hk,pts]) r (Nat.le_trans HKw7.o.size HRl.o) (HD8.o.kp kX) (HKw7.o.trans (HK78.o.trans kX))
  rw[hk] at c0;go_wp2_with fail
  go_ret2
  exact⟨_,rfl,HEx.o _ (Kp.refl _ _)⟩
 ·have hy2:Ys=(flY f.1 f.2 A.1.1 A.1.2 A.2.1 A.2.2 u):=by rw[<- HYs.o,if_neg hk]
  clear HYs;subst hy2;have hkb:(u.k==0)=R:=by simpa using hk
  have HGd:=h_ (HGu.o hk);have a0:=(HTo.o w8 HK78.o).c_ 0 rfl;have a1:=(HTo.o w8 HK78.o).c_ 1 rfl;have a2:=(HTo.o w8 HK78.o).c_ 2 rfl;have a3:=(HTo.o w8 HK78.o).c_ 3 rfl;go_upto_region 12 with fail;clear c0 hk hkb HGu;go_loopw[12] (fun yy wr=>∃(j:Nat) (y:Int) (M:List Cc),j<=ht/\y=A.1.2+j/\yy=O I y/\DM wr w.heap.size r M/\pts M0 ((flY f.1 f.2 A.1.1 A.1.2 A.2.1 A.2.2 u).take (j*wd))=H M/\Kp W7 wr Nul) (fun yy _=>(A.2.2+1-RowKit.intOf yy).toNat)
  case atStart=>exact⟨0,A.1.2,M0,Nat.zero_le _,by simp,rfl,HD8.o,by rw[Nat.zero_mul,List.take_zero,pts],HK78.o⟩
  case round=>
   clear a0 a1 a2 a3 HD8;obtain⟨j,y,M,hj,hye,rfl,hdm,hpt,hkp⟩:=hrel;have HDM0:=h_ hdm;have HPt0:=h_ hpt;have HK70:=h_ hkp;have HJle:=h_ hj;have HYe:=h_ hye;clear hdm hpt hkp;have a0:=(HTo.o wr HK70.o).c_ 0 rfl;have a1:=(HTo.o wr HK70.o).c_ 1 rfl;have a2:=(HTo.o wr HK70.o).c_ 2 rfl;have a3:=(HTo.o wr HK70.o).c_ 3 rfl;by_cases hlt:j<ht
   ·have hyd:y<=A.2.2:=(by have:=HHt.o;omega);have HY:Hid (y=A.1.2+(j:Int)/\y<=A.2.2):=⟨hye,hyd⟩;have HJ:=h_ hlt;have hyb:y+1<=9223372036854775807 /\ -9223372036854775808<=y:=(by have h1:=(I2 A).1 HA.o;omega);obtain⟨hyb1,hyb2⟩:=hyb;clear hye hj;go_upto_region 15 with fail;clear a0 a1 a2 a3;go_loopw[13] (fun xx wr=>∃(i:Nat) (x:Int) (M:List Cc),i<=wd/\x=A.1.1+i/\xx=O I x/\DM wr w.heap.size r M/\pts M0 ((flY f.1 f.2 A.1.1 A.1.2 A.2.1 A.2.2 u).take (j*wd+i))=H M/\Kp W7 wr Nul) (fun xx _=>(A.2.1+1-RowKit.intOf xx).toNat)
    case atStart=>exact⟨0,A.1.1,M,Nat.zero_le _,by simp,rfl,HDM0.o,by rw[Nat.add_zero];exact HPt0.o,HK70.o⟩
    case round=>
     clear HDM0 HPt0 HK70;obtain⟨i,x,M,hi,hxe,rfl,hdm,hpt,hkp⟩:=hrel;have HDM:=h_ hdm;have HPt:=h_ hpt;have HK7:=h_ hkp;have HKw:=h_ (HKw7.o.trans hkp);clear hdm hpt hkp;by_cases hi2:i<wd
     ·skip
      have hkt:j*wd+i<szN A.1.1 A.1.2 A.2.1 A.2.2:=by
       rw[HSz.o];have h2:(j+1)*wd<=ht*wd:=Nat.mul_le_mul_right _ HJ.o;rw[Nat.add_mul,Nat.one_mul] at h2;omega
      have hxy:(x,y)=cK A.1.1 A.1.2 A.2.1 (j*wd+i):=by
       have h:=j2t A.1.1 A.1.2 A.2.1 i j (by rw[HWd.o];exact hi2);rw[HWd.o] at h;rw[h,hxe,HY.o.1]
      have hfy:=j5G (f1:=f.1) (f2:=f.2) (u:=u) hkt hxy;have HFy:=h_ hfy;have hvx:vC x y=J:=by
       have h1:=(I2 A).1 HA.o;have h2:=HY.o.1;have h3:=HHt.o;have h4:=HWd2.o;have h5:=HJ.o;rw[G6];omega
      have HPut:=(h_ fun wq (q:Kp wr wq Nul)=>j6n w.heap.size r M x y f.1 f.2 u su wq (HDM.o.kp q) (Nat.le_trans HKw.o.size q.size) HGd.o hvx HvF.o ((HSu.o wq (HK7.o.trans q))));have HRc:=h_ (j5 (HCb.o wr HK7.o));have hxd:x<=A.2.1:=(by have:=HWd2.o;omega);have a0:=(HTo.o wr HK7.o).c_ 0 rfl;have a1:=(HTo.o wr HK7.o).c_ 1 rfl;have a2:=(HTo.o wr HK7.o).c_ 2 rfl;have a3:=(HTo.o wr HK7.o).c_ 3 rfl;have t0:=(HFr.o wr HK7.o).c_ 0 rfl;have t1:=(HFr.o wr HK7.o).c_ 1 rfl;have HXe:=h_ hxe;clear hkt hxy hfy hvx hxe;go_wp2_with (first
       | (refine wpList_load_mid rfl _ (.tmp 10) rfl _ 0 rfl _ _ HRc.o underlying50 rfl D9 ?_)
       | fail)
      refine(HPut.o _ (Kp.refl _ _)).mono ?_;rintro e w5 ⟨rfl,hd5,hk5⟩;have HD5:=h_ hd5;have HK75:=h_ (HK7.o.trans' hk5 (fun i hi e=>by have e':i=r:=e;have:=HRl.o;omega));clear hd5 hk5 a0 a1 a2 a3 t0 t1 HPut HRc;cases hr:G9 M (x,y) with
      | true=>
       have HRm:=h_ hr;have hxb:x+1<=9223372036854775807 /\ -9223372036854775808<=x:=(by have h1:=(I2 A).1 HA.o;have h2:=HXe.o;omega);obtain⟨hxb1,hxb2⟩:=hxb;clear hr
       (try simp only[if_true])
       go_wp2_with fail;go_roundw
       case rel=>exact⟨i+1,x+1,_,by omega,by rw[HXe.o];push_cast;omega,by go_num,HD5.o,by rw[if_pos HRm.o,<- Nat.add_assoc];exact j3c HPt.o HFy.o HRm.o,HK75.o⟩
       case measure=>simp only[RowKit.intOf];omega
      | false=>
       have HEx:Hid (∀X,Kp w5 X Nul->RcP w X M0 (flY f.1 f.2 A.1.1 A.1.2 A.2.1 A.2.2 u) (au #[an G,O I 41])):=fun X kX=>.full (j3b HPt.o HFy.o (by rw[hr];decide)) (HKw7.o.trans (HK75.o.trans kX))
       (try simp only[Bool.false_eq_true,if_false])
       clear hr;go_wp2_with fail
       go_ret2
       exact⟨_,rfl,HEx.o _ (Kp.refl _ _)⟩
     ·have hie:i=wd:=(by omega);have hxd:¬x<=A.2.1:=(by have:=HWd2.o;omega);have HPe:Hid (pts M0 ((flY f.1 f.2 A.1.1 A.1.2 A.2.1 A.2.2 u).take ((j+1)*wd))=H M):=by
       have h:=HPt.o;rw[hie] at h;show _=_;rw[Nat.add_mul,Nat.one_mul];exact h
      have a0:=(HTo.o wr HK7.o).c_ 0 rfl;have a1:=(HTo.o wr HK7.o).c_ 1 rfl;have a2:=(HTo.o wr HK7.o).c_ 2 rfl;have a3:=(HTo.o wr HK7.o).c_ 3 rfl;clear hie hxe hi;go_wp2_with fail;go_roundw
      case rel=>exact⟨j+1,y+1,M,HJ.o,by rw[HY.o.1];push_cast;omega,by go_num,HDM.o,HPe.o,HK7.o⟩
      case measure=>have:=HY.o.2;simp only[RowKit.intOf];omega
   ·have hje:j=ht:=(by omega);have hyd:¬y<=A.2.2:=(by have:=HHt.o;omega);have HEnd:Hid (∀X,Kp wr X Nul->RcP w X M0 (flY f.1 f.2 A.1.1 A.1.2 A.2.1 A.2.2 u) (au #[an (H ⟨r,0,G⟩),O I 0])):=fun X kX=>by
     have h:=HPt0.o;rw[hje,<- HSz.o] at h;have hl:(flY f.1 f.2 A.1.1 A.1.2 A.2.1 A.2.2 u).length=szN A.1.1 A.1.2 A.2.1 A.2.2:=(by unfold flY;rw[List.length_map,List.length_range]);rw[<- hl,List.take_length] at h;exact .ok h r (Nat.le_trans HKw7.o.size HRl.o) (HDM0.o.kp kX) (HKw7.o.trans (HK70.o.trans kX))
    clear hje hye;go_wp2_with fail
    go_ret2
    exact⟨_,rfl,HEnd.o _ (Kp.refl _ _)⟩
theorem j74:∀ {K1 K2:List Cc},E9 (K1.map (·.1))->E9 (K2.map (·.1))->(∀x,x∈K1↔x∈K2)->K1=K2
 | [],[],_,_,_=>rfl
 | [],y::_,_,_,h=>absurd ((h y).2 List.mem_cons_self) (by simp)
 | x::_,[],_,_,h=>absurd ((h x).1 List.mem_cons_self) (by simp)
 | x::K1,y::K2,s1,s2,h=>by
  unfold E9 at s1 s2;rw[List.map_cons,List.pairwise_cons] at s1 s2;have e:x=y:=by
   rcases List.mem_cons.1 ((h x).1 List.mem_cons_self) with e|hx
   ·exact e
   ·rcases List.mem_cons.1 ((h y).2 List.mem_cons_self) with e|hy
    ·exact e.symm
    ·have h1:=s2.1 x.1 (List.mem_map_of_mem hx);have h2:=s1.1 y.1 (List.mem_map_of_mem hy);have:=j18 h1 h2;rw[j07] at this;cases this
  subst e;have n1:∀z∈K1,z≠x:=fun z hz e=>by
   have:=s1.1 z.1 (List.mem_map_of_mem hz);rw[e,j07] at this;cases this
  have n2:∀z∈K2,z≠x:=fun z hz e=>by
   have:=s2.1 z.1 (List.mem_map_of_mem hz);rw[e,j07] at this;cases this
  rw[j74 s1.2 s2.2 (fun z=>⟨fun hz=>(List.mem_cons.1 ((h z).1 (List.mem_cons_of_mem _ hz))).resolve_left (n1 z hz),fun hz=>(List.mem_cons.1 ((h z).2 (List.mem_cons_of_mem _ hz))).resolve_left (n2 z hz)⟩)]
structure GS (w:World) (B g r:Nat) (L:List Cc):Prop where
 gi:j6 w (fun i=>B<=i/\i≠r) g L
 ok:Ok17 L
 dm:DM w B r L
theorem GS.nul {w w':World}{B g r:Nat}{L:List Cc}(h:GS w B g r L)(k:Kp w w' Nul):GS w' B g r L:=⟨h.gi.kp k,h.ok,h.dm.kp k⟩
inductive PO (w w':World):Option (List Cc)->Value->Int->Prop
 | none (er:Int) (k:Kp w w' Nul):PO w w' G (an G) er
 | some {M:List Cc} (g2:Nat) (gi:j6 w' (fun i=>w.heap.size<=i) g2 M) (ok:Ok17 M) (k:Kp w w' Nul):PO w w' (H M) (an (H ⟨g2,0,G⟩)) 0
inductive DO (w w':World):Option (List Cc)->Value->Prop
 | none (k:Kp w w' Nul):DO w w' G (an G)
 | some {M:List Cc} (r:Nat) (hr:w.heap.size<=r) (dm:DM w' w.heap.size r M) (k:Kp w w' Nul):DO w w' (H M) (an (H ⟨r,0,G⟩))
structure PR (fd:FuncId) (da:Array Value) (a:Value) (er:Int) (w w':World):Prop where
 k:Kp w w' Nul
 ex:∃o,PO w w' o a er/\∀wq,Kp w' wq Nul->Calls prog fd da wq fun e w''=>∃b,e=Q (au #[b,O I er])/\DO wq w'' o b
theorem PR.no {fd:FuncId}{da:Array Value}{er:Int}{w w':World}(k:Kp w w' Nul)(h:∀wq,Kp w' wq Nul->Calls prog fd da wq fun e w''=>e=Q (au #[an G,O I er])/\Kp wq w'' Nul):PR fd da (an G) er w w':=
 ⟨k,_,.none er k,fun wq q=>(h wq q).mono fun _ _ z=>⟨_,z.1,.none z.2⟩⟩
theorem PR.yes {fd:FuncId}{da:Array Value}{w w':World}{g2:Nat}{M:List Cc}(gi:j6 w' (fun i=>w.heap.size<=i) g2 M)(ok:Ok17 M)(k:Kp w w' Nul)(h:∀wq,Kp w' wq Nul->Calls prog fd da wq fun e w''=>∃r,e=Q (au #[an (H ⟨r,0,G⟩),O I 0])/\wq.heap.size<=r/\DM w'' wq.heap.size r M/\Kp wq w'' Nul):PR fd da (an (H ⟨g2,0,G⟩)) 0 w w':=
 ⟨k,_,.some g2 gi ok k,fun wq q=>(h wq q).mono fun e w'' z=>by
  obtain⟨r,z1,z2,z3,z4⟩:=z;exact⟨_,z1,.some r z2 z3 z4⟩⟩
inductive NewG (w w':World):Value->Value->Prop
 | none (k:Kp w w' Nul):NewG w w' (an G) (an G)
 | some {g2 r2:Nat} {M:List Cc} (gs:GS w' w.heap.size g2 r2 M) (hr:w.heap.size<=r2) (k:Kp w w' Nul):NewG w w' (an (H ⟨g2,0,G⟩)) (an (H ⟨r2,0,G⟩))
theorem j0R {w:World}{B g r:Nat}{L:List Cc}(h:GS w B g r L):Calls prog 10 #[an (H ⟨g,0,G⟩),an (H ⟨r,0,G⟩)] w fun e w'=>e=Q (E J)/\Kp w w' Nul:=by
 obtain⟨v,ys,hd,hal⟩:=h.dm.ex;exact j7i g r B L _ v ys w ⟨h.gi,h.ok,hal,hd,rfl⟩
theorem j4G (w:World):Calls prog 10 #[an G,an G] w fun e w'=>e=Q (E J)/\Kp w w' Nul:=by
 refine(callsIn_wide (n:=12)).1 ?_;refine callsIn_of_wp_marks func10 rfl trivial ?_ rfl;simp only[ntmps10,List.size_toArray,List.length_cons,List.length_nil,Nat.reduceAdd,Nat.reduceSub,Array.replicate_succ,Array.replicate_zero,List.push_toArray,List.append_toArray,List.nil_append,List.cons_append];refine wpIn_wide.2 ?_;have k2:Hid (∀a b,Kp w ((w.alloc a).alloc b) Nul):=fun a b=>((Kp.refl w Nul).alloc _).alloc _
 go_wp2_with fail;exact⟨_,j2N rfl rfl (blkS (by simp) [E J] _),rfl,k2.o _ _⟩
theorem jCQ (x1 x2:Int)(B g r:Nat)(L:List Cc)(w:World)(hg:GI 0 w g L)(hL:Ok17 L)(hd:DM w B r L)(hv:VS w):
 Calls prog 30 #[an (H ⟨g,0,G⟩),O I x1,O I x2] w fun e w'=>∃v u,e=Q (au #[v,O I u])/\PR 37 #[an (H ⟨r,0,G⟩),E R,O I x1,O I x2] v u w w':=by
 refine(j6m x1 x2 g L w hg hL hv).mono ?_;rintro e w' ⟨v,rfl,h⟩;cases h with
 | bad h k=>exact⟨_,_,rfl,.no k fun wq q=>j6c r R x1 x2 wq h⟩
 | off h hn hl k=>
  refine⟨_,_,rfl,.no k fun wq q=>(j6e x1 x2 B r L wq h (hd.kp (k.trans q))).mono ?_⟩;rintro e w'' ⟨v,rfl,hr⟩;cases hr with
  | off _ _ k2=>exact⟨rfl,k2⟩
  | ok h2 r M hr dm mem k2=>exact absurd ⟨hn,hl⟩ h2
 | ok h hl g2 M hb=>
  refine⟨_,_,rfl,.yes hb.gi hb.ok hb.kp fun wq q=>(j6e x1 x2 B r L wq h (hd.kp (hb.kp.trans q))).mono ?_⟩;rintro e w'' ⟨v,rfl,hr⟩;cases hr with
  | off hn hl2 k2=>exact absurd ⟨hn,hl2⟩ hl
  | ok h2 r2 M2 hr dm mem k2=>exact⟨r2,rfl,hr,dm.congr (fun x=>by rw[hb.mem x,mem x]) hb.ok hb.gi.once',k2⟩
theorem jCM (x1 x2:Int)(B g r:Nat)(L:List Cc)(w:World)(hg:GI 0 w g L)(hL:Ok17 L)(hd:DM w B r L)(hv:VS w):
 Calls prog 31 #[an (H ⟨g,0,G⟩),O I x1,O I x2] w fun e w'=>∃v u,e=Q (au #[v,O I u])/\PR 37 #[an (H ⟨r,0,G⟩),E J,O I x1,O I x2] v u w w':=by
 refine(j9L x1 x2 g L w hg hL hv).mono ?_;rintro e w' ⟨v,rfl,h⟩;cases h with
 | bad h k=>exact⟨_,_,rfl,.no k fun wq q=>j6c r J x1 x2 wq h⟩
 | off h hn hl k=>
  refine⟨_,_,rfl,.no k fun wq q=>(j6f x1 x2 B r L wq h (hd.kp (k.trans q))).mono ?_⟩;rintro e w'' ⟨v,rfl,hr⟩;cases hr with
  | off _ _ k2=>exact⟨rfl,k2⟩
  | ok h2 r M hr dm mem k2=>exact absurd ⟨hn,hl⟩ h2
 | ok h hl g2 M hb=>
  refine⟨_,_,rfl,.yes hb.gi hb.ok hb.kp fun wq q=>(j6f x1 x2 B r L wq h (hd.kp (hb.kp.trans q))).mono ?_⟩;rintro e w'' ⟨v,rfl,hr⟩;cases hr with
  | off hn hl2 k2=>exact absurd ⟨hn,hl2⟩ hl
  | ok h2 r2 M2 hr dm mem k2=>exact⟨r2,rfl,hr,dm.congr (fun x=>by rw[hb.mem x,mem x]) hb.ok hb.gi.once',k2⟩
theorem jCN (A:Ar4)(f:Int×Int)(B g r:Nat)(L:List Cc)(w:World)(hg:GI 0 w g L)(hL:Ok17 L)(hd:DM w B r L)(hv:VS w):
 Calls prog 16 #[an (H ⟨g,0,G⟩),T #[O I A.1.1,O I A.1.2,O I A.2.1,O I A.2.2],T #[O I f.1,O I f.2]] w fun e w'=>∃v u,e=Q (au #[v,O I u])/\PR 38 #[an (H ⟨r,0,G⟩),T #[O I A.1.1,O I A.1.2,O I A.2.1,O I A.2.2],T #[O I f.1,O I f.2]] v u w w':=by
 refine(jBJ g A f L w hg hL hv).mono ?_;rintro e w' ⟨v,rfl,h⟩;by_cases hA:Ar4.ok A=J
 rotate_left
 ·obtain rfl:=h.bad hA;exact⟨_,_,rfl,.no h.kp fun wq q=>jD1 r A f wq (by simpa using hA)⟩
 by_cases hf:fits A f=J
 rotate_left
 ·obtain rfl:=h.off hA hf;exact⟨_,_,rfl,.no h.kp fun wq q=>jD4 r A f wq hA hf⟩
 obtain⟨K,M0,hst,hmK,hc⟩:=h.ok hA hf;have hdoc:=fun wq (q:Kp w' wq Nul)=>jD3 A f B r L M0 wq hA hf (hd.kp (h.kp.trans q)) hc.mem hc.once hc.ok
 have hKe:∀K':List Cc,E9 (K'.map (·.1))->(∀x,x∈K'↔x∈L)->K'.filter (fun x=>inA A.1.1 A.1.2 A.2.1 A.2.2 x.1.1 x.1.2)=K:=fun K' s m=>by
  refine j74 ?_ hst (fun x=>?_)
  ·unfold E9 at s ⊢;rw[List.pairwise_map] at s ⊢;exact s.filter _
  ·rw[List.mem_filter,m x,hmK x,Q6 rfl]
 cases hp:pts M0 (cpY A.1.1 A.1.2 f.1 f.2 K) with
 | none=>
  obtain rfl:=hc.full hp;refine⟨_,_,rfl,.no h.kp fun wq q=>(hdoc wq q).mono ?_⟩;rintro e w'' ⟨v,rfl,hr⟩;cases hr with
  | mk K' s m hr=>
   rw[hKe K' s m] at hr;cases hr with
   | full _ k2=>exact⟨rfl,k2⟩
   | ok h2 _ _ _ _=>rw[hp] at h2;cases h2
 | some M=>
  obtain⟨g2,rfl,hgi,hok⟩:=hc.fit M hp;refine⟨_,_,rfl,.yes hgi hok h.kp fun wq q=>(hdoc wq q).mono ?_⟩;rintro e w'' ⟨v,rfl,hr⟩;cases hr with
  | mk K' s m hr=>
   rw[hKe K' s m] at hr;cases hr with
   | full h2 _=>rw[hp] at h2;cases h2
   | ok h2 r2 hr dm k2=>
    rw[hp] at h2;injection h2 with h2;subst h2;exact⟨r2,rfl,hr,dm,k2⟩
theorem jCO (A:Ar4)(f:Int×Int)(B g r:Nat)(L:List Cc)(w:World)(hg:GI 0 w g L)(hL:Ok17 L)(hd:DM w B r L)(hv:VS w):
 Calls prog 22 #[an (H ⟨g,0,G⟩),T #[O I f.1,O I f.2],T #[O I A.1.1,O I A.1.2,O I A.2.1,O I A.2.2]] w fun e w'=>∃v u,e=Q (au #[v,O I u])/\PR 39 #[an (H ⟨r,0,G⟩),T #[O I f.1,O I f.2],T #[O I A.1.1,O I A.1.2,O I A.2.1,O I A.2.2]] v u w w':=by
 refine(jBK g A f L w hg hL hv).mono ?_;rintro e w' ⟨v,rfl,h⟩;by_cases hA:Ar4.ok A=J
 rotate_left
 ·obtain rfl:=h.bad hA;exact⟨_,_,rfl,.no h.kp fun wq q=>jDB r A f wq (by simpa using hA)⟩
 by_cases hf:vC f.1 f.2=J
 rotate_left
 ·obtain rfl:=h.off hA hf;exact⟨_,_,rfl,.no h.kp fun wq q=>jDE r A f wq hA hf⟩
 obtain⟨u,M0,hrd,hc⟩:=h.ok hA hf;have hdoc:=fun wq (q:Kp w' wq Nul)=>jDD A f u B r L M0 wq hA hf (hd.kp (h.kp.trans q)) hrd hc.mem hc.once hc.ok
 obtain⟨Ys,hYs⟩:∃Ys,(if u.k=0 then [] else flY f.1 f.2 A.1.1 A.1.2 A.2.1 A.2.2 u)=Ys:=⟨_,rfl⟩;rw[hYs] at hc hdoc;cases hp:pts M0 Ys with
 | none=>
  obtain rfl:=hc.full hp;refine⟨_,_,rfl,.no h.kp fun wq q=>(hdoc wq q).mono ?_⟩;rintro e w'' ⟨v,rfl,hr⟩;cases hr with
  | full _ k2=>exact⟨rfl,k2⟩
  | ok h2 _ _ _ _=>rw[hp] at h2;cases h2
 | some M=>
  obtain⟨g2,rfl,hgi,hok⟩:=hc.fit M hp;refine⟨_,_,rfl,.yes hgi hok h.kp fun wq q=>(hdoc wq q).mono ?_⟩;rintro e w'' ⟨v,rfl,hr⟩;cases hr with
  | full h2 _=>rw[hp] at h2;cases h2
  | ok h2 r2 hr dm k2=>
   rw[hp] at h2;injection h2 with h2;subst h2;exact⟨r2,rfl,hr,dm,k2⟩
theorem jCP (A:Ar4)(f:Int×Int)(B g r:Nat)(L:List Cc)(w:World)(hg:GI 0 w g L)(hL:Ok17 L)(hd:DM w B r L)(hv:VS w):
 Calls prog 29 #[an (H ⟨g,0,G⟩),T #[O I A.1.1,O I A.1.2,O I A.2.1,O I A.2.2],T #[O I f.1,O I f.2]] w fun e w'=>∃v u,e=Q (au #[v,O I u])/\PR 40 #[an (H ⟨r,0,G⟩),T #[O I A.1.1,O I A.1.2,O I A.2.1,O I A.2.2],T #[O I f.1,O I f.2]] v u w w':=by
 refine(j5u g L A f w hg hL hv).mono ?_;rintro e w' ⟨v,u,rfl,h⟩;cases h with
 | bad h k=>exact⟨_,_,rfl,.no k fun wq q=>jDK r A f wq (by simpa using h)⟩
 | off h hf k=>exact⟨_,_,rfl,.no k fun wq q=>jDN r A f wq h hf⟩
 | ok h hf g2 M hb=>
  refine⟨_,_,rfl,.yes hb.gi hb.ok hb.kp fun wq q=>(jDM A (mvTo A f) f B r L wq (j5F h hf) (hd.kp (hb.kp.trans q)) (fun wz=>j6a A f wz h hf)).mono ?_⟩;rintro e w'' ⟨v,rfl,hr⟩;cases hr with
  | mk r2 M2 hr dm mem k2=>exact⟨r2,rfl,hr,dm.congr (fun x=>by rw[hb.mem x,mem x]) hb.ok hb.gi.once',k2⟩
theorem jCL (A:Ar4)(B g r:Nat)(L:List Cc)(w:World)(hg:GI 0 w g L)(hL:Ok17 L)(hd:DM w B r L)(hv:VS w):
 Calls prog 23 #[an (H ⟨g,0,G⟩),T #[O I A.1.1,O I A.1.2,O I A.2.1,O I A.2.2]] w fun e w'=>∃v u,e=Q (au #[v,O I u])/\PR 41 #[an (H ⟨r,0,G⟩),T #[O I A.1.1,O I A.1.2,O I A.2.1,O I A.2.2]] v u w w':=by
 refine(jBI g A L w hg hL hv).mono ?_;rintro e w' ⟨v,rfl,h⟩;by_cases hA:Ar4.ok A=J
 rotate_left
 ·obtain rfl:=h.bad hA;exact⟨_,_,rfl,.no h.kp fun wq q=>jCy r A wq (by simpa using hA)⟩
 obtain⟨g2,M,rfl,hgi,hok,hmem⟩:=h.ok hA;refine⟨_,_,rfl,.yes hgi hok h.kp fun wq q=>(jD0 A r (fun r2 w''=>wq.heap.size<=r2/\DM w'' wq.heap.size r2 M/\Kp wq w'' Nul) wq hA (fun wz qz=>(j3r A B r L wz hA (hd.kp ((h.kp.trans q).trans qz))).mono ?_)).mono ?_⟩
 ·rintro e w'' ⟨v,rfl,⟨r2,M2,h2,h3,h4,h5⟩⟩;refine⟨r2,rfl,Nat.le_trans qz.size h2,(h3.down qz.size).congr (fun x=>?_) hok hgi.once',qz.trans h5⟩;rw[hmem x,h4 x];refine and_congr_right fun hx=>?_
  rw[Q6 rfl];exact⟨fun z y=>z ⟨hx,y⟩,fun z y=>z y.2⟩
 ·rintro e w'' ⟨v,rfl,r2,rfl,h2,h3,h4⟩;exact⟨r2,rfl,h2,h3,h4⟩
theorem GS.down {w:World}{B B' g r:Nat}{L:List Cc}(h:GS w B g r L)(hB:B'<=B):GS w B' g r L:=⟨h.gi.mono (fun _ hi=>⟨Nat.le_trans hB hi.1,hi.2⟩),h.ok,h.dm.down hB⟩
theorem NewG.nul {w w' w'':World}{a b:Value}(h:NewG w w' a b)(k:Kp w' w'' Nul):NewG w w'' a b:=by
 cases h with
 | none k0=>exact .none (k0.trans k)
 | some gs hr k0=>exact .some (gs.nul k) hr (k0.trans k)
theorem j0m {fd:FuncId}{da:Array Value}{v:Value}{u:Int}{w wq w':World}(hk:Kp w wq Nul)(h:PR fd da v u wq w'):Calls prog fd da w' fun e w''=>∃b,e=Q (au #[b,O I u])/\NewG w w'' v b:=by
 obtain⟨k,o,hp,hd⟩:=h;refine(hd w' (Kp.refl _ _)).mono ?_;rintro e w'' ⟨b,rfl,hb⟩;refine⟨b,rfl,?_⟩;cases hp with
 | none er k1=>
  cases hb with
  | none k2=>exact .none ((hk.trans k1).trans k2)
 | some g2 gi ok k1=>
  cases hb with
  | some r hr dm k2=>
   have h1:=hk.size;have h2:=k1.size;refine .some ⟨(gi.lows.kp k2).mono (fun i hi=>⟨by have:=hi.1;omega,fun e=>by have:=hi.2;omega⟩),ok,dm.down (by omega)⟩ (by omega) ((hk.trans k1).trans k2)
theorem j0b (w:World)(a b:Value)(wq:World)(h:NewG w wq a b):Calls prog 10 #[a,b] wq fun e w'=>e=Q (E J)/\NewG w w' a b:=by
 cases h with
 | none k=>exact(j4G wq).mono fun e w' z=>⟨z.1,(NewG.none k).nul z.2⟩
 | some gs hr k=>exact(j0R gs).mono fun e w' z=>⟨z.1,(NewG.some gs hr k).nul z.2⟩
theorem j4s (B g r:Nat)(L:List Cc)(x0 x1 x2:Int)(A:Ar4)(f:Int×Int)(w:World)(h0:I64 x0)(hs:GS w B g r L)(hv:VS w):
 Calls prog 9 #[an (H ⟨g,0,G⟩),an (H ⟨r,0,G⟩),T #[O I x0,O I x1,O I x2,O I A.1.1,O I A.1.2,O I A.2.1,O I A.2.2,O I f.1,O I f.2]] w fun e w'=>∃v,e=Q v/\RD (fun a b w3=>NewG w w3 a b) w' v:=by
 have hg:∀wq,Kp w wq Nul->GI 0 wq g L:=fun wq k=>j6.mono (hs.gi.kp k) (fun _ _=>Nat.zero_le _)
 have hd:∀wq,Kp w wq Nul->DM wq B r L:=fun wq k=>hs.dm.kp k
 have hp:=(j3Z x0 6 (by decide));have hp0:(0:Int)<=(pkf x0 6:Int):=by omega
 have hp6:(pkf x0 6:Int)<6:=hp.2;have hc:pkf x0 6=0∨pkf x0 6=1∨pkf x0 6=2∨pkf x0 6=3∨pkf x0 6=4∨pkf x0 6=5:=by omega
 rcases hc with hk|hk|hk|hk|hk|hk
 ·exact j4y _ _ x0 x1 x2 A f (fun v u wq w'=>PR _ _ v u wq w') (fun a b w2=>NewG w w2 a b) _ w h0 hk (fun wq k=>jCQ x1 x2 B g r L wq (hg wq k) hs.ok (hd wq k) (hv.kp k)) (fun _ _ _ _ h=>h.k) (fun _ _ wq w' k h=>j0m k h) (fun a b wq h=>j0b w a b wq h)
 ·exact j4u _ _ x0 x1 x2 A f (fun v u wq w'=>PR _ _ v u wq w') (fun a b w2=>NewG w w2 a b) _ w h0 hk (fun wq k=>jCM x1 x2 B g r L wq (hg wq k) hs.ok (hd wq k) (hv.kp k)) (fun _ _ _ _ h=>h.k) (fun _ _ wq w' k h=>j0m k h) (fun a b wq h=>j0b w a b wq h)
 ·exact j4v _ _ x0 x1 x2 A f (fun v u wq w'=>PR _ _ v u wq w') (fun a b w2=>NewG w w2 a b) _ w h0 hk (fun wq k=>jCN A f B g r L wq (hg wq k) hs.ok (hd wq k) (hv.kp k)) (fun _ _ _ _ h=>h.k) (fun _ _ wq w' k h=>j0m k h) (fun a b wq h=>j0b w a b wq h)
 ·exact j4w _ _ x0 x1 x2 A f (fun v u wq w'=>PR _ _ v u wq w') (fun a b w2=>NewG w w2 a b) _ w h0 hk (fun wq k=>jCO A f B g r L wq (hg wq k) hs.ok (hd wq k) (hv.kp k)) (fun _ _ _ _ h=>h.k) (fun _ _ wq w' k h=>j0m k h) (fun a b wq h=>j0b w a b wq h)
 ·exact j4x _ _ x0 x1 x2 A f (fun v u wq w'=>PR _ _ v u wq w') (fun a b w2=>NewG w w2 a b) _ w h0 hk (fun wq k=>jCP A f B g r L wq (hg wq k) hs.ok (hd wq k) (hv.kp k)) (fun _ _ _ _ h=>h.k) (fun _ _ wq w' k h=>j0m k h) (fun a b wq h=>j0b w a b wq h)
 ·exact j4t _ _ x0 x1 x2 A f (fun v u wq w'=>PR _ _ v u wq w') (fun a b w2=>NewG w w2 a b) _ w h0 hk (fun wq k=>jCL A B g r L wq (hg wq k) hs.ok (hd wq k) (hv.kp k)) (fun _ _ _ _ h=>h.k) (fun _ _ wq w' k h=>j0m k h) (fun a b wq h=>j0b w a b wq h)
structure NoG (w w':World) (a b:Value):Prop where
 a:a=an G
 b:b=an G
 k:Kp w w' Nul
structure PrN (fd:FuncId) (da:Array Value) (a:Value) (er:Int) (w w':World):Prop where
 a:a=an G
 k:Kp w w' Nul
 d:∀wq,Kp w' wq Nul->Calls prog fd da wq fun e w''=>e=Q (au #[an G,O I er])/\Kp wq w'' Nul
theorem j0o {fd:FuncId}{da:Array Value}{v:Value}{u:Int}{w wq w':World}(hk:Kp w wq Nul)(h:PrN fd da v u wq w'):Calls prog fd da w' fun e w''=>∃b,e=Q (au #[b,O I u])/\NoG w w'' v b:=
 (h.d w' (Kp.refl _ _)).mono fun _ _ z=>⟨_,z.1,⟨h.a,rfl,(hk.trans h.k).trans z.2⟩⟩
theorem j0c (w:World)(a b:Value)(wq:World)(h:NoG w wq a b):Calls prog 10 #[a,b] wq fun e w'=>e=Q (E J)/\NoG w w' a b:=by
 obtain⟨rfl,rfl,k⟩:=h;exact(j4G wq).mono fun e w' z=>⟨z.1,⟨rfl,rfl,k.trans z.2⟩⟩
theorem j9d (x0 x1 x2:Int)(A:Ar4)(f:Int×Int)(w:World)(h0:I64 x0):
 Calls prog 9 #[an G,an G,T #[O I x0,O I x1,O I x2,O I A.1.1,O I A.1.2,O I A.2.1,O I A.2.2,O I f.1,O I f.2]] w fun e w'=>∃v,e=Q v/\RD (fun a b w3=>NoG w w3 a b) w' v:=by
 have hp:=(j3Z x0 6 (by decide));have hp0:(0:Int)<=(pkf x0 6:Int):=by omega
 have hp6:(pkf x0 6:Int)<6:=hp.2;have hc:pkf x0 6=0∨pkf x0 6=1∨pkf x0 6=2∨pkf x0 6=3∨pkf x0 6=4∨pkf x0 6=5:=by omega
 rcases hc with hk|hk|hk|hk|hk|hk
 ·exact j4y _ _ x0 x1 x2 A f (fun v u wq w'=>PrN _ _ v u wq w') (fun a b w2=>NoG w w2 a b) _ w h0 hk (fun wq _=>(jDc x1 x2 wq).mono fun _ _ z=>⟨_,_,z.1,⟨rfl,z.2,fun wz _=>j6d R x1 x2 wz⟩⟩) (fun _ _ _ _ h=>h.k) (fun _ _ wq w' k h=>j0o k h) (fun a b wq h=>j0c w a b wq h)
 ·exact j4u _ _ x0 x1 x2 A f (fun v u wq w'=>PrN _ _ v u wq w') (fun a b w2=>NoG w w2 a b) _ w h0 hk (fun wq _=>(j9M x1 x2 wq).mono fun _ _ z=>⟨_,_,z.1,⟨rfl,z.2,fun wz _=>j6d J x1 x2 wz⟩⟩) (fun _ _ _ _ h=>h.k) (fun _ _ wq w' k h=>j0o k h) (fun a b wq h=>j0c w a b wq h)
 ·exact j4v _ _ x0 x1 x2 A f (fun v u wq w'=>PrN _ _ v u wq w') (fun a b w2=>NoG w w2 a b) _ w h0 hk (fun wq _=>(j9R A f wq).mono fun _ _ z=>⟨_,_,z.1,⟨rfl,z.2,fun wz _=>jD2 A f wz⟩⟩) (fun _ _ _ _ h=>h.k) (fun _ _ wq w' k h=>j0o k h) (fun a b wq h=>j0c w a b wq h)
 ·exact j4w _ _ x0 x1 x2 A f (fun v u wq w'=>PrN _ _ v u wq w') (fun a b w2=>NoG w w2 a b) _ w h0 hk (fun wq _=>(j9r A f wq).mono fun _ _ z=>⟨_,_,z.1,⟨rfl,z.2,fun wz _=>jDC A f wz⟩⟩) (fun _ _ _ _ h=>h.k) (fun _ _ wq w' k h=>j0o k h) (fun a b wq h=>j0c w a b wq h)
 ·exact j4x _ _ x0 x1 x2 A f (fun v u wq w'=>PrN _ _ v u wq w') (fun a b w2=>NoG w w2 a b) _ w h0 hk (fun wq _=>(jBL A f wq).mono fun _ _ z=>⟨_,_,z.1,⟨rfl,z.2,fun wz _=>jDL A f wz⟩⟩) (fun _ _ _ _ h=>h.k) (fun _ _ wq w' k h=>j0o k h) (fun a b wq h=>j0c w a b wq h)
 ·exact j4t _ _ x0 x1 x2 A f (fun v u wq w'=>PrN _ _ v u wq w') (fun a b w2=>NoG w w2 a b) _ w h0 hk (fun wq _=>(j9C A wq).mono fun _ _ z=>⟨_,_,z.1,⟨rfl,z.2,fun wz _=>jCz A wz⟩⟩) (fun _ _ _ _ h=>h.k) (fun _ _ wq w' k h=>j0o k h) (fun a b wq h=>j0c w a b wq h)
structure AP4 (w0 w:World) (F F':Nat->Prop) (x y:Nat) (M:List Cc) (g r:Nat) (L:List Cc):Prop where
 gx:j6 w F x M
 okx:Ok17 M
 dy:DM w w0.heap.size y M
 gg:j6 w F' g L
 okg:Ok17 L
 dr:DM w w0.heap.size r L
 disj:∀i,F i->¬F' i
 fy:¬F y/\¬F' y/\y≠r/\w0.heap.size<=y
 lo:∀i,F i->w0.heap.size<=i
 new:∀i,w.heap.size<=i->F i
 k:Kp w0 w Nul
theorem AP4.nul {w0 w w':World}{F F':Nat->Prop}{x y g r:Nat}{M L:List Cc}(h:AP4 w0 w F F' x y M g r L)(k:Kp w w' Nul):AP4 w0 w' F F' x y M g r L:=
 ⟨h.gx.kp k,h.okx,h.dy.kp k,h.gg.kp k,h.okg,h.dr.kp k,h.disj,h.fy,h.lo,fun i hi=>h.new i (Nat.le_trans k.size hi),h.k.trans k⟩
inductive MidP (w0 w':World) (F F':Nat->Prop) (x y g r:Nat) (L:List Cc) (c s:Int) (cv:Value):Int->Prop
 | mk {er:Int} {M':List Cc} (k:Kp w0 w' Nul) (h:∀wq,Kp w' wq Nul->Calls prog 12 #[an (H ⟨y,0,G⟩),T #[O I c,O I s],cv] wq fun e w''=>e=Q (O I er)/\AP4 w0 w'' F F' x y M' g r L):MidP w0 w' F F' x y g r L c s cv er
theorem aput (w0 w:World)(F F':Nat->Prop)(x y:Nat)(M:List Cc)(g r:Nat)(L:List Cc)(c s:Int)(ct:Ct)(sl:Value)(h:AP4 w0 w F F' x y M g r L)(hcn:Cn w0 ct sl)(hsm:Sm24 ct)(hv:VS w0):
 Calls prog 11 #[an (H ⟨x,0,G⟩),T #[O I c,O I s],ct.val sl] w fun e w'=>∃er,e=Q (O I er)/\MidP w0 w' F F' x y g r L c s (ct.val sl) er:=by
 obtain⟨v,ys,hd,hal⟩:=h.dy.ex;obtain⟨lo,hlo⟩:=j3a (c,s) hal.st;obtain⟨mv,bg⟩:=(show GI 0 w x M from j6.mono h.gx (fun _ _=>Nat.zero_le _)).blk;refine(j6O F x c s ct sl (fun _=>True) M _ lo w h.gx h.new h.okx hal hlo hcn.ok hcn.vx (hcn.inn.kp h.k (fun _ _ z=>z)) (hv.kp h.k)).mono ?_;rintro e w' ⟨M',rfl,h1,h2,h3,h4⟩;have hk:Kp w0 w' Nul:=h.k.trans' h4.kp (fun i hi hs=>by have:=h.lo i (j1s h.gx hs);omega);refine⟨_,rfl,.mk hk (M':=M') (fun wq q=>?_)⟩;have hkq:=hk.trans q;have hdq:DG wq w0.heap.size y v ys:=(hd.km h4 bg).kp q;refine(j3p w0.heap.size y v ys _ c s ct sl (gv ct) wq hdq rfl hkq.size (by rw[hal.len];exact h.okx.len) hal.st (fun wz kz=>j3k ct sl (fun _=>True) wz hsm.sz hcn.ok hsm.txt hsm.vs (hcn.inn.kp (hkq.trans kz) (fun _ _ z=>z))) (fun _ wz kz=>(j2L ct sl (fun _=>True) wz hcn.vx hsm.sz hcn.ok (hcn.inn.kp (hkq.trans kz) (fun _ _ z=>z))).mono (by
  rintro e w' ⟨sl',fp,z1,z2,z3⟩;exact⟨sl',fp,z1,z2,Kp.of_below z3⟩)) hcn.inn.one).mono ?_
 rintro e w'' ⟨lo',v',ys',p1,rfl,p3,p4,p5⟩;have e1:=I8.uniq p1 hlo;subst e1;obtain⟨f1,f2,f3,f4⟩:=h.fy;have hyb:=hdq.box;obtain⟨pp,cp,rfl,_⟩:=hdq.pts.slice;refine⟨rfl,⟨(h1.kp q).far' p5 (fun i hi e=>f1 (by have e':i=y:=e;rw[<- e'];exact hi)),h2,⟨⟨v',ys',p3,by rw[p4];exact h3⟩,h2,h1.once'⟩,((h.gg.far' h4.kp (fun i hi hs=>h.disj i (j1s h.gx hs) hi)).kp q).far' p5 (fun i hi e=>f2 (by have e':i=y:=e;rw[<- e'];exact hi)),h.okg,((h.dr.km h4 bg).kp q).off p5 hyb (Ne.symm f3),h.disj,h.fy,h.lo,fun i hi=>h.new i ?_,hkq.trans' p5 (fun i hi e=>by have e':i=y:=e;omega)⟩⟩;exact Nat.le_trans h4.kp.size (Nat.le_trans q.size (Nat.le_trans p5.size hi))
end Go.Proofs.YtecjfnkakodebaaGreatDoor
