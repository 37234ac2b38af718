/-MoveApart: the walk. -/
import Derived.Test.YtecjfnkakodebaaGreatDoorRmMox
open Go.Proofs.Tryz
open Go.Value renaming int->O,bool->E,agg->T,pointer->an
open Go.IntKind renaming i64->I
open Bool renaming false->R,true->J
open Option renaming some->H,none->G
open Go.Ending renaming returned->Q
set_option maxRecDepth 20000
set_option maxHeartbeats 32000000
namespace Go.Proofs.YtecjfnkakodebaaGreatDoor
open Go.RowKit Go.Maps Go.Sort Go.Lib Go.Shelf
theorem AP4.gs {w0 w:World}{F F':Nat->Prop}{x y g r:Nat}{M L:List Cc}(h:AP4 w0 w F F' x y M g r L):GS w w0.heap.size x y M:=⟨h.gx.mono (fun i hi=>⟨h.lo i hi,fun e=>h.fy.1 (e ▸ hi)⟩),h.okx,h.dy⟩
theorem jCk {w w':World}{v:Value}{xs:List (Cc×Value)}(h:j0O w v xs)(k:Kp w w' Nul):j0O w' v xs:=by
 refine⟨?_,h.len,fun y hy=>⟨(h.cn y hy).ok,(h.cn y hy).vx,(h.cn y hy).inn.kp k (fun _ _ x=>x)⟩⟩;obtain⟨a,c,e,hr⟩:=h.sl;refine⟨a,c,e,fun hp=>?_⟩;obtain⟨b,o,e2,hx⟩:=hr hp;exact⟨b,o,e2,fun i y hy=>U6 (hx i y hy) k (fun x=>x)⟩
theorem j52 (g:Nat)(w:World):(binOp .eql 24 (an (H ⟨g,0,G⟩)) (an G)).run prog w=.ok (E R) w:=by
 simp[go_sem]
theorem j8r (vl vm:Value)(xl ml:List (Cc×Value))(z:St9)(w:World)(hl:j0O w vl xl)(hsm:∀y∈xl,Sm24 y.1.2)(hm:j0O w vm ml)(hsm2:∀y∈ml,Sm24 y.1.2)(h0:I64 z.x0)(hv:VS w):
 Calls prog 4 #[vl,T z.cells.toArray,vm] w fun e w'=>e=Q (E J)/\Kp w w' Nul:=by
 have HV:=h_ hv;obtain⟨la,lc,rfl,hla⟩:=hl.sl;obtain⟨ma,mc,rfl,hma⟩:=hm.sl;obtain⟨nm,hnm⟩:=e_ ml.length;have HNm:Hid (ml.length=nm/\nm<=9223372036854775807):=⟨hnm,by have:=hm.len;unfold maxLen at this;omega⟩;have HMl:=h_ hma;have HMc:Hid (∀y∈ml,Cn w y.1.2 y.2/\Sm24 y.1.2):=fun y hy=>⟨hm.cn y hy,hsm2 y hy⟩
 rw[hnm];obtain⟨SC,hSC⟩:=e_ z.cells;rw[hSC];have HI:Hid ((prog.info? 36).map (·.size)=H SC.length):=by show _=_;rw[j5g,<- hSC];rfl
 obtain⟨W0,hW0,kW0,b0,s0⟩:=lay1 w SC 36;have HW0:=h_ hW0;have KW0:=h_ kW0;have B0:=k_ b0;have HB:=h_ (j4O _ xl W0 (jCk hl kW0) hsm (hv.kp kW0));have HKn:=h_ fun wq (k:Kp w wq Nul)=>j5m wq (hv.kp k)
 have HDo:Hid (∀B g r L wq,Kp w wq Nul->GS wq B g r L->Calls prog 9 #[an (H ⟨g,0,G⟩),an (H ⟨r,0,G⟩),T SC.toArray] wq fun e w'=>∃v,e=Q v/\RD (fun a b w3=>NewG wq w3 a b) w' v):=fun B g r L wq k hs=>by
  rw[<- hSC];exact j4s B g r L z.x0 z.x1 z.x2 z.A z.f wq h0 hs (hv.kp k)
 clear hl hsm hm hsm2 h0 hv hla hma hnm hSC hW0 kW0 b0 s0;go_enter func4,ntmps4;go_wp2_with fail;rw[HW0.o];refine HB.o.mono ?_;intro e w1 hb;cases hb with
 | mk two low kp=>
 rename_i g r L Kd v ys
 have HG1:=h_ ((GS.of two).down KW0.o.size);have K1:=h_ kp;have HRlo:=h_ (Nat.le_trans KW0.o.size low);clear two low kp HB;have hng:=fun wq=>j52 g wq
 go_wp2_with fail;refine(HKn.o _ (KW0.o.trans K1.o)).mono ?_;rintro e w2 ⟨rfl,hk2⟩;have K2:=h_ (K1.o.trans hk2);have K2w:=h_ (KW0.o.trans K2.o);have HG2:=h_ (HG1.o.nul hk2);clear hk2 HG1 K1 HKn hng;go_wp2_with (first
  | (refine wpList_load_mid rfl _ _ rfl _ _ rfl _ _ (j5 (B0.o w2 K2.o)) underlying36 rfl HI.o ?_)
  | fail)
 refine(HDo.o _ g r L w2 K2w.o HG2.o).mono ?_;rintro e w3 ⟨v,rfl,hd⟩;cases hd with
 | mk hn=>
 rename_i va vb
 clear HDo;cases hn with
 | none k=>
  have K3:=h_ (K2w.o.trans k);clear k;go_wp2_with fail;go_ret;first|exact⟨rfl,K3.o⟩|exact K3.o
 | some gs hr k=>
  rename_i g2 r2 M
  have hgl:=HG2.o.dm.lt;have HAP0:Hid (AP4 w w3 (fun i=>w2.heap.size<=i/\i≠r2) (fun i=>(w.heap.size<=i/\i≠r)/\i<w2.heap.size) g2 r2 M g r L):=by
   have hr2:=gs.dm.lt;have hs:=K2w.o.size;refine⟨gs.gi,gs.ok,gs.dm.down hs,HG2.o.gi.lows.kp k,HG2.o.ok,HG2.o.dm.kp k,fun i h1 h2=>?_,⟨fun h=>h.2 rfl,fun h=>?_,fun e=>?_,Nat.le_trans hs hr⟩,fun i hi=>Nat.le_trans hs hi.1,fun i hi=>⟨Nat.le_trans k.size hi,fun e=>?_⟩,K2w.o.trans k⟩
   ·have:=h1.1;have:=h2.2;omega
   ·have:=h.2;omega
   ·omega
   ·omega
  have HR2:Hid (w2.heap.size<=r2/\r<w2.heap.size):=⟨hr,hgl⟩;have hng:=fun wq=>j52 g2 wq
  clear gs hr k hgl HG2;go_wp2_with fail;clear hng;go_loopw[12] (fun s12 wr=>∃(q:Nat) (M:List Cc),q<=nm/\s12=O I q/\AP4 w wr (fun i=>w2.heap.size<=i/\i≠r2) (fun i=>(w.heap.size<=i/\i≠r)/\i<w2.heap.size) g2 r2 M g r L) (fun s12 _=>nm-(RowKit.intOf s12).toNat)
  case atStart=>exact⟨0,M,Nat.zero_le _,rfl,HAP0.o⟩
  case round=>
   clear HAP0;obtain⟨q,M,hq,rfl,hap⟩:=hrel;have HAP:=h_ hap;clear hap;by_cases hlt:q<nm
   ·obtain⟨kk,hkk⟩:=e_ q;subst hkk;have hqt:q<ml.length:=(by rw[HNm.o.1];omega);obtain⟨b,o,rfl,hra⟩:=HMl.o (by have:=HNm.o.1;omega);obtain⟨⟨⟨⟨c,s⟩,a⟩,sa⟩,hys⟩:∃y,ml[q]=y:=⟨_,rfl⟩;have hget:ml[q]? = H (((c,s),a),sa):=(by rw[List.getElem?_eq_getElem hqt,hys]);have hr:=hra q _ hget;obtain⟨hcn,hsm⟩:=HMc.o _ (List.mem_of_getElem? hget);have HRG:=(h_ fun wq (k:Kp w wq Nul)=>I9 (U6 hr k (fun x=>x)));have HPut:=(h_ fun wq (k:Kp wr wq Nul)=>aput w wq (fun i=>w2.heap.size<=i/\i≠r2) (fun i=>(w.heap.size<=i/\i≠r)/\i<w2.heap.size) g2 r2 M g r L c s a sa (HAP.o.nul k) hcn hsm HV.o);have hq0:(0:Int)<=(q:Int):=(by omega);have hqn:(q:Int)<(nm:Int):=(by omega);have hkb:(q:Int)+1<=9223372036854775807:=(by have:=HNm.o.2;omega);clear hqt hys hget hr hra hcn hsm;go_wp2_with fail;refine wp_region_noPanic ?_;refine I0 (fun w':World=>Kp w w' Nul) (by kernel_rfl) (HAP.o.k.drew) (fun hHeld=>?_)
    refine tk 0 47 hHeld ?_;refine tk 1 48 hHeld ?_;refine tk 2 49 hHeld ?_;refine tk 3 50 hHeld ?_;refine tk 4 51 hHeld ?_;refine tk 5 52 hHeld ?_ (v:=T ([O I c,O I s]).toArray) (hy:=by exact fun w' hSw=>q9 _ _ rfl _ _ rfl _ _ (HRG.o w' hSw).1 underlying32 rfl O0);refine tk 6 53 hHeld ?_;refine tk 7 54 hHeld ?_;refine tk 8 55 hHeld ?_;refine tk 9 56 hHeld ?_;refine tk 10 57 hHeld ?_ (v:=T (a.cells sa).toArray) (hy:=by exact fun w' hSw=>q9 _ _ rfl _ _ rfl _ _ (HRG.o w' hSw).2 underlying50 rfl D9);refine tk 12 59 hHeld ?_;refine tk 13 60 hHeld ?_;refine tk 14 61 hHeld ?_;refine tk 15 62 hHeld ?_;refine tk 16 63 hHeld ?_;refine tk 17 64 hHeld ?_ (v:=T ([O I c,O I s]).toArray) (hy:=by exact fun w' hSw=>q9 _ _ rfl _ _ rfl _ _ (HRG.o w' hSw).1 underlying32 rfl O0);refine tk 18 65 hHeld ?_
    refine tk 19 66 hHeld ?_;refine tk 20 67 hHeld ?_;refine tk 21 68 hHeld ?_;refine tk 22 69 hHeld ?_ (v:=T (a.cells sa).toArray) (hy:=by exact fun w' hSw=>q9 _ _ rfl _ _ rfl _ _ (HRG.o w' hSw).2 underlying50 rfl D9);refine D6 (i:=11) (by kernel_rfl) rfl rfl (fun KK hKK=>?_);go_simp;refine(HPut.o _ ((Kp.refl _ _).drew)).mono ?_;rintro e w6 ⟨er,rfl,hmid⟩;cases hmid with
    | mk k6 hdoc=>
    rename_i M6
    have HDoc:=h_ hdoc;refine hKK.o _ _ k6 (fun hHeld=>?_);clear hKK KK k6 hdoc
    (try simp only[Act.put,Sz0,Sz1,Sz2])
    refine D6 (i:=23) (by kernel_rfl) rfl rfl (fun KK hKK=>?_);go_simp;refine(HDoc.o _ (Kp.refl _ _)).mono ?_;rintro e w7 ⟨rfl,hap⟩;have HAP7:=h_ hap;refine hKK.o _ _ hap.k (fun hHeld=>?_);clear hKK KK hap HDoc
    (try simp only[Act.put,Sz0,Sz1,Sz2])
    refine tk 24 71 hHeld ?_ (v:=E R);refine wpAnyH_done (by kernel_rfl) ?_ _;refine NoPanic.normal ?_;clear hHeld HPut HRG;go_wp2_with fail;go_roundw
    case rel=>exact⟨q+1,M6,by omega,by go_num,HAP7.o⟩
    case measure=>simp only[RowKit.intOf];omega
   ·have hqe:q=nm:=(by omega);have hqn:¬((q:Int)<(nm:Int)):=(by omega);have HGr:Hid (∀wq,Kp wr wq Nul->GS wq w.heap.size g r L):=(fun wq k=>⟨(HAP.o.gg.kp k).mono (fun i hi=>hi.1),HAP.o.okg,HAP.o.dr.kp k⟩);have HGx:=(h_ fun wq (k:Kp wr wq Nul)=>HAP.o.gs.nul k);clear hqe;go_wp2_with fail;refine(j0R (HGr.o wr (Kp.refl _ _))).mono ?_;rintro e w4 ⟨rfl,hk4⟩;have K4:=h_ hk4;clear hk4;go_wp2_with fail;refine(j0R (HGx.o w4 K4.o)).mono ?_;rintro e w5 ⟨rfl,hk5⟩;have K5:=h_ (K4.o.trans hk5);clear hk5 K4 HGr HGx hqn;obtain⟨ak,hT⟩:=e_ w5.heap.size;have HAP2:Hid (AP4 w w5 (fun i=>((w.heap.size<=i/\i≠r)/\i<w2.heap.size)∨ak<=i) (fun i=>(w2.heap.size<=i/\i≠r2)/\i<ak) g r L g2 r2 M):=by
     have h:=HAP.o.nul K5.o;have hr2:=h.dy.lt;have hsz:=Nat.le_of_lt (Nat.lt_of_le_of_lt HR2.o.1 hr2);refine⟨h.gg.mono (fun i hi=>.inl hi),h.okg,h.dr,h.gx.lows.mono (fun i hi=>⟨hi.1,by rw[<- hT];exact hi.2⟩),h.okx,h.dy,fun i h1 h2=>?_,⟨fun q=>?_,fun q=>?_,Ne.symm h.fy.2.2.1,HRlo.o⟩,fun i hi=>?_,fun i hi=>.inr (by rw[<- hT];exact hi),h.k⟩
     ·rcases h1 with h1|h1
      ·have h3:=h1.2;have h4:=h2.1.1;omega
      ·have h3:=h2.2;omega
     ·rcases q with q|q
      ·exact q.1.2 rfl
      ·have:=HR2.o.2;omega
     ·have h3:=q.1.1;have:=HR2.o.2;omega
     ·rcases hi with hi|hi
      ·exact hi.1.1
      ·have:=h.k.size;omega
    clear HAP K5 hT;go_wp2_with fail;go_loopw[13] (fun s13 wr=>∃(q:Nat) (L:List Cc),q<=nm/\s13=O I q/\AP4 w wr (fun i=>((w.heap.size<=i/\i≠r)/\i<w2.heap.size)∨ak<=i) (fun i=>(w2.heap.size<=i/\i≠r2)/\i<ak) g r L g2 r2 M) (fun s13 _=>nm-(RowKit.intOf s13).toNat)
    case atStart=>exact⟨0,L,Nat.zero_le _,rfl,HAP2.o⟩
    case round=>
     clear HAP2;obtain⟨q,L,hq,rfl,hap⟩:=hrel;have HAP:=h_ hap;clear hap;by_cases hlt:q<nm
     ·obtain⟨kk,hkk⟩:∃kk:Nat,(nm:Int)-1-(q:Int)=(kk:Int):=⟨nm-1-q,by omega⟩;have HKe:=h_ hkk;have hqn0:(q:Int)<(nm:Int):=(by omega);have hnb:(nm:Int)<=9223372036854775807:=(by have:=HNm.o.2;omega);have hqt:kk<ml.length:=(by rw[HNm.o.1];omega);obtain⟨b,o,rfl,hra⟩:=HMl.o (by have:=HNm.o.1;omega);obtain⟨⟨⟨⟨c,s⟩,a⟩,sa⟩,hys⟩:∃y,ml[kk]=y:=⟨_,rfl⟩;have hget:ml[kk]? = H (((c,s),a),sa):=(by rw[List.getElem?_eq_getElem hqt,hys]);have hr:=hra kk _ hget;obtain⟨hcn,hsm⟩:=HMc.o _ (List.mem_of_getElem? hget);have HRG:=(h_ fun wq (k:Kp w wq Nul)=>I9 (U6 hr k (fun x=>x)));have HPut:=(h_ fun wq (k:Kp wr wq Nul)=>aput w wq (fun i=>((w.heap.size<=i/\i≠r)/\i<w2.heap.size)∨ak<=i) (fun i=>(w2.heap.size<=i/\i≠r2)/\i<ak) g r L g2 r2 M c s a sa (HAP.o.nul k) hcn hsm HV.o);have hq0:(0:Int)<=(kk:Int):=(by omega);have hqn:(kk:Int)<(nm:Int):=(by omega);have hkb:(q:Int)+1<=9223372036854775807:=by have:=HNm.o.2;omega
      clear hqt hys hget hr hra hcn hsm;clear hkk;go_upto_region 18 with fail;rw[HKe.o];clear hnb;refine wp_region_noPanic ?_;refine I0 (fun w':World=>Kp w w' Nul) (by kernel_rfl) (HAP.o.k.drew) (fun hHeld=>?_);refine tk 0 93 hHeld ?_;refine tk 1 94 hHeld ?_;refine tk 2 95 hHeld ?_;refine tk 3 96 hHeld ?_;refine tk 4 97 hHeld ?_;refine tk 5 98 hHeld ?_ (v:=T ([O I c,O I s]).toArray) (hy:=by exact fun w' hSw=>q9 _ _ rfl _ _ rfl _ _ (HRG.o w' hSw).1 underlying32 rfl O0);refine tk 6 99 hHeld ?_;refine tk 7 100 hHeld ?_;refine tk 8 101 hHeld ?_;refine tk 9 102 hHeld ?_;refine tk 10 103 hHeld ?_ (v:=T (a.cells sa).toArray) (hy:=by exact fun w' hSw=>q9 _ _ rfl _ _ rfl _ _ (HRG.o w' hSw).2 underlying50 rfl D9);refine tk 12 105 hHeld ?_;refine tk 13 106 hHeld ?_;refine tk 14 107 hHeld ?_;refine tk 15 108 hHeld ?_;refine tk 16 109 hHeld ?_
      refine tk 17 110 hHeld ?_ (v:=T ([O I c,O I s]).toArray) (hy:=by exact fun w' hSw=>q9 _ _ rfl _ _ rfl _ _ (HRG.o w' hSw).1 underlying32 rfl O0);refine tk 18 111 hHeld ?_;refine tk 19 112 hHeld ?_;refine tk 20 113 hHeld ?_;refine tk 21 114 hHeld ?_;refine tk 22 115 hHeld ?_ (v:=T (a.cells sa).toArray) (hy:=by exact fun w' hSw=>q9 _ _ rfl _ _ rfl _ _ (HRG.o w' hSw).2 underlying50 rfl D9);refine D6 (i:=11) (by kernel_rfl) rfl rfl (fun KK hKK=>?_);go_simp;refine(HPut.o _ ((Kp.refl _ _).drew)).mono ?_;rintro e w6 ⟨er,rfl,hmid⟩;cases hmid with
      | mk k6 hdoc=>
      rename_i M6
      have HDoc:=h_ hdoc;refine hKK.o _ _ k6 (fun hHeld=>?_);clear hKK KK k6 hdoc
      (try simp only[Act.put,Sz0,Sz1,Sz2])
      refine D6 (i:=23) (by kernel_rfl) rfl rfl (fun KK hKK=>?_);go_simp;refine(HDoc.o _ (Kp.refl _ _)).mono ?_;rintro e w7 ⟨rfl,hap⟩;have HAP7:=h_ hap;refine hKK.o _ _ hap.k (fun hHeld=>?_);clear hKK KK hap HDoc
      (try simp only[Act.put,Sz0,Sz1,Sz2])
      refine tk 24 117 hHeld ?_ (v:=E R);refine wpAnyH_done (by kernel_rfl) ?_ _;refine NoPanic.normal ?_;clear hHeld HPut HRG;go_wp2_with fail;go_roundw
      case rel=>exact⟨q+1,M6,by omega,by go_num,HAP7.o⟩
      case measure=>simp only[RowKit.intOf];omega
     ·have hqe:q=nm:=(by omega);have hqn:¬((q:Int)<(nm:Int)):=(by omega);have HGr:=(h_ fun wq (k:Kp wr wq Nul)=>HAP.o.gs.nul k);have HGx:Hid (∀wq,Kp wr wq Nul->GS wq w.heap.size g2 r2 M):=(fun wq k=>⟨(HAP.o.gg.kp k).mono (fun i hi=>⟨Nat.le_trans K2w.o.size hi.1.1,hi.1.2⟩),HAP.o.okg,HAP.o.dr.kp k⟩);have HKr:=h_ HAP.o.k;clear hqe;go_wp2_with fail;refine(j0R (HGr.o wr (Kp.refl _ _))).mono ?_;rintro e w6 ⟨rfl,hk6⟩;have K6:=h_ hk6;clear hk6;go_wp2_with fail;refine(j0R (HGx.o w6 K6.o)).mono ?_;rintro e w7 ⟨rfl,hk7⟩;have K7:=h_ (HKr.o.trans (K6.o.trans hk7));clear hk7 K6 HGr HGx HKr;go_wp2_with fail;go_ret;first|exact⟨rfl,K7.o⟩|exact K7.o
end Go.Proofs.YtecjfnkakodebaaGreatDoor
