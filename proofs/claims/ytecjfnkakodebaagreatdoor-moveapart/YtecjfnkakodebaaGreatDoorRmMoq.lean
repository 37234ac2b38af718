/-The document's Lines (quadrilleref22). -/
import Derived.Test.YtecjfnkakodebaaGreatDoorRmMom
open Go.Proofs.Tryz
open Go.Value renaming int->O,bool->E,slice->U,agg->T,pointer->an,float->ap,string->aq,tuple->au
open Go.IntKind renaming i64->I
open Bool renaming false->R,true->J
open Option renaming some->H,none->G
open Go.Ending renaming returned->Q
open Go.FloatKind renaming f64->ao
set_option maxRecDepth 20000
set_option maxHeartbeats 32000000
namespace Go.Proofs.YtecjfnkakodebaaGreatDoor
open Go.RowKit Go.Maps Go.Sort Go.Lib Go.Shelf
theorem jAs {at' n c s:Int}(hl:lnOk J at' n)(hv:vC c s=J):lnF J at' n ((c,s),(c,s))=if 0<pl at' n 256 c then H ((pl at' n 256 c,s),(pl at' n 256 c,s)) else G:=by
 obtain⟨i1,i2,i3,i4⟩:=(G6 _ _).1 hv;unfold lnF;unfold lnOk at hl;simp only[if_true] at hl ⊢;rw[j0x (by omega) (Int.le_refl _) (by omega),j2c hl (by omega) (by omega)];by_cases q:0<pl at' n 256 c
 ·simp only[if_pos q]
 ·simp only[if_neg q]
theorem jAr {at' n c s:Int}(hl:lnOk R at' n)(hv:vC c s=J):lnF R at' n ((c,s),(c,s))=if 0<pl at' n 4096 s then H ((c,pl at' n 4096 s),(c,pl at' n 4096 s)) else G:=by
 obtain⟨i1,i2,i3,i4⟩:=(G6 _ _).1 hv;unfold lnF;unfold lnOk at hl;simp only[Bool.false_eq_true,if_false] at hl ⊢;rw[j0x (by omega) (Int.le_refl _) (by omega),j2c hl (by omega) (by omega)];by_cases q:0<pl at' n 4096 s
 ·simp only[if_pos q]
 ·simp only[if_neg q]
inductive RlR (cols:Bool) (at' cnt:Int) (L:List Cc) (w w':World):Value->Prop
 | off (hn:0<cnt) (hl:F8 (lnF cols at' cnt) L=J) (k:Kp w w' Nul):RlR cols at' cnt L w w' (au #[an G,O I 20])
 | ok (h:¬(0<cnt/\F8 (lnF cols at' cnt) L=J)) (r:Nat) (M:List Cc) (hr:w.heap.size<=r) (dm:DM w' w.heap.size r M) (mem:∀y,y∈M↔y∈brL (lnF cols at' cnt) L) (k:Kp w w' Nul):RlR cols at' cnt L w w' (au #[an (H ⟨r,0,G⟩),O I 0])
theorem j6f (at' cnt:Int)(B g:Nat)(L:List Cc)(w:World)(hl:lnOk J at' cnt)(hg:DM w B g L):
 Calls prog 37 #[an (H ⟨g,0,G⟩),E J,O I at',O I cnt] w fun e w'=>∃v,e=Q v/\RlR J at' cnt L w w' v:=by
 obtain⟨v0,ys,hd,hal⟩:=hg.ex;obtain⟨p,cp,rfl,hrow⟩:=j19 hd;obtain⟨n,hn⟩:∃n,ys.length=n:=⟨_,rfl⟩;obtain⟨K,hK⟩:∃K,ys.map (·.1)=K:=⟨_,rfl⟩;rw[hK] at hal;rw[hn] at hd;have HN:Hid (ys.length=n/\K.length=n/\n<=4096/\ys.map (·.1)=K):=⟨hn,by rw[<- hK,List.length_map,hn],by have h1:=hal.len;have h2:=hg.ok.len;rw[<- hK,List.length_map,hn] at h1;omega,hK⟩;have HSl:Hid (∀wq,Kp w wq Nul->wq.cell? ⟨g,0,G⟩=H (U p n cp)):=fun wq k=>(hd.box.kp k (fun x=>x)).cell rfl
 have HRow:=h_ hrow;have HAl:=h_ hal;have HOk:Hid (Ok17 L/\L.Pairwise (fun x y=>x.1≠y.1)):=⟨hg.ok,hg.once⟩;clear hg hd hal hrow hn hK;have HOkL:=h_ hl;obtain⟨m,hm⟩:∃m:Nat,(m:Int)=256:=⟨256,rfl⟩;have HM:=h_ hm;have HMn:Hid (∀wq,Calls prog 70 #[E J,O I at',O I cnt] wq fun e w'=>e=Q (au #[O I (m:Int),E J])/\w'=wq):=fun wq=>by
  have:=j22 J at' cnt wq;have e:(if J=J then (256:Int) else 4096)=(m:Int):=by rw[hm];rfl
  rw[e,decide_eq_true (by have:=(j3N J at' cnt).2 hl;rw[e] at this;exact this)] at this;exact this
 have HPl:=h_ fun wq=>j6I m at' cnt wq (by rw[hm];exact hl) (by omega)
 have hnp:=fun wq=>Q8 g wq
 clear hl hm;go_enter func37,ntmps37;go_wp2_with fail;refine(HMn.o _).mono ?_;rintro e w1 ⟨rfl,hz⟩;replace hz:=hz.symm;subst hz;go_wp2_with fail;refine(HPl.o _).mono ?_;rintro e W3 ⟨rfl,hbl,hk3⟩;obtain⟨lb,hlb⟩:∃lb,w.heap.size=lb:=⟨_,rfl⟩;have HLB:=h_ fun X (kX:Kp W3 X Nul)=>(hlb ▸ hbl).kp kX (fun x=>x)
 have HKw3:=h_ hk3;obtain⟨W5,hW5,kW5,bW5,sW5⟩:=lay1 W3 [U G 0 0] 81;have HW5:=h_ hW5;have HD0:Hid (DM W5 w.heap.size W3.heap.size []):=DM.new bW5;have HK35:=h_ kW5;have q0:W5.cell? ⟨g,0,G⟩=H (U p n cp):=HSl.o W5 (HKw3.o.trans kW5);have HLb:=h_ hlb;rw[hlb];clear hbl hk3 hlb hW5 kW5 bW5 sW5 HMn HPl hnp;go_upto_region 6 with fail;rw[HW5.o];clear HW5;go_wp2_with fail;go_loopw[14] (fun i wr=>∃(k:Nat) (M:List Cc),k<=n/\i=O I k/\DM wr w.heap.size W3.heap.size M/\(∀z,z∈M↔z∈(K.take k).filterMap (fun x:Cc=>((lnF J at' cnt) (x.1,x.1)).map fun b=>(b.1,alC (lnF J at' cnt) x.2)))/\M.length<=k/\(0<cnt->F8 (lnF J at' cnt) (K.take k)=R)/\Kp W3 wr Nul) (fun i _=>n-(RowKit.intOf i).toNat)
 case atStart=>exact⟨0,[],Nat.zero_le _,rfl,HD0.o,by simp,Nat.zero_le _,fun _=>by rw[List.take_zero];rfl,HK35.o⟩
 case round=>
  clear q0 HD0;obtain⟨k,M,hk,rfl,hdm,hmem,hlen,hno,hkp⟩:=hrel;have HDM:=h_ hdm;have HRlt:=h_ hdm.lt;have HMem:=h_ hmem;have HLen:=h_ hlen;have HNo:=h_ hno;have HK3:Hid (Kp W3 wr Nul):=hkp;have HKw:Hid (Kp w wr Nul):=HKw3.o.trans hkp;clear hdm hmem hlen hno hkp;have q0:wr.cell? ⟨g,0,G⟩=H (U p n cp):=HSl.o wr HKw.o;by_cases hlt:k<n
  ·skip
   have hkt:k<ys.length:=(by rw[HN.o.1];exact hlt);obtain⟨⟨⟨⟨c,s⟩,a⟩,sl⟩,hys⟩:∃y,ys[k]=y:=⟨_,rfl⟩;have hget:ys[k]? = H (((c,s),a),sl):=(by rw[List.getElem?_eq_getElem hkt,hys]);have hKk:K[k]? = H ((c,s),a):=(by rw[<- HN.o.2.2.2,List.getElem?_map,hget];rfl);obtain⟨b,rfl,hb,hra⟩:=HRow.o k _ hget;have hmL:((c,s),a)∈L:=(HAl.o.mem _).1 (List.mem_of_getElem? hKk);have HGd:Hid (Gd a):=HOk.o.1.gd _ hmL;have HvC:Hid (vC c s=J):=HOk.o.1.at' _ hmL;have HKk:Hid (K[k]? = H ((c,s),a)):=hKk;have HRG:Hid (∀wq,Kp w wq Nul->wq.rangeAt b (k*23) [O I c,O I s]/\wq.rangeAt b (k*23+2) (a.cells sl)/\wq.rangeAt b (k*23) (j8 ((c,s),a) sl)/\NdIn wq (fun b=>b<w.heap.size) sl a.t):=(fun wq q=>⟨(I9 (hra wq q).1).1,(I9 (hra wq q).1).2,(hra wq q).1,(hra wq q).2⟩);have hk0:(0:Int)<=(k:Int):=(by omega);have hkn:(k:Int)<(n:Int):=(by omega);have hkb:(k:Int)+1<=9223372036854775807:=by have:=HN.o.2.2.1;omega
   have hvc:=(G6 _ _).1 HvC.o;obtain⟨z,hz⟩:∃z:Nat,c=(z:Int):=⟨c.toNat,by omega⟩;subst hz;have hz1:1<=z/\z<=256:=(by omega);clear hkt hys hget hKk hb hra hmL;obtain⟨PV,hPV⟩:=e_ (pl at' cnt 256 (z:Int));have HKv:Hid (∀y∈K,vC y.1.1 y.1.2=J):=(fun y hy=>HOk.o.1.at' y ((HAl.o.mem y).1 hy));have HFa:Hid ((lnF J at' cnt) (((z:Int),s),((z:Int),s))=if 0<PV then H ((PV,s),(PV,s)) else G):=by
    show _=_;rw[<- hPV];exact jAs HOkL.o HvC.o
   have hbd:=j2E (at':=at') (n:=cnt) (most:=256) (k:=(z:Int)) HOkL.o (by omega) (by omega);rw[hPV] at hbd;have HBd:=h_ hbd;have HLz:Hid (∀X,Kp wr X Nul->X.cell? ⟨lb,z,G⟩=H (O I PV)):=(fun X kX=>(HLB.o X (HK3.o.trans kX)).cell (j0i (by have hmM:(m:Int)=256:=HM.o;rw[Y9 (by omega),if_pos (by omega),hmM,hPV])));have HZ:Hid ((0:Int)<=(z:Int)/\(z:Int)<(m:Int)+1/\(z:Int)<((m+1:Nat):Int)):=by
    have e:=HM.o;show _/\_;omega
   clear hPV hbd;obtain⟨W1,hW1,kW1,bW1,sW1⟩:=lay1 wr (j8 (((z:Int),s),a) sl) 52;have HW1:=h_ hW1;have K1:=h_ kW1;have HP1:=k_ bW1;have HIn1:=(h_ fun X (kX:Kp wr X Nul)=>(HRG.o X (HKw.o.trans kX)).2.2.2);have O1:=h_ ((HRG.o wr HKw.o).2.2.2.one);have HRP:=h_ ((HRG.o wr HKw.o).2.2.1);have p2:=(HP1.o W1 (Kp.refl _ _)).c_ 2 rfl;have HP2:=h_ p2;clear hW1 kW1 bW1 sW1 p2;go_upto_region 10 with (first
    | (rw[HW1.o])
    | (refine wpList_load_mid rfl 52 (.tmp 50) rfl b (k*23) rfl (j8 (((z:Int),s),a) sl) _ HRP.o underlying52 rfl j0B ?_)
    | (refine F9 rfl 52 (.tmp 15) (.tmp 51) rfl _ _ _ _ _ (by first|rfl|simp) rfl rfl rfl j0B (j2G _ O1.o) ?_)
    | fail)
   (try simp only[Act.put])
   (try rw[HW1.o])
   clear q0 HRP;have p0:=(HP1.o W1 (Kp.refl _ _)).c_ 0 rfl;have p1:=(HP1.o W1 (Kp.refl _ _)).c_ 1 rfl;have lz:=HLz.o W1 K1.o;obtain⟨z0,z1,z2⟩:=HZ.o;have p2:=HP2.o;by_cases hP0:PV=0
   ·subst hP0;have HB:Hid ((lnF J at' cnt) (((z:Int),s),((z:Int),s))=G):=(by show _=_;rw[HFa.o];rfl);by_cases hc0:0<cnt
    ·have HEx:Hid (∀X,Kp W1 X Nul->RlR J at' cnt L w X (au #[an G,O I 20])):=fun X kX=>.off hc0 (by
      unfold F8;rw[List.any_eq_true];exact⟨_,(HAl.o.mem _).1 (List.mem_of_getElem? HKk.o),by rw[HB.o];rfl⟩) (HKw.o.trans (K1.o.trans kX))
     go_wp2_with fail
     go_ret2
     exact⟨_,rfl,HEx.o _ (Kp.refl _ _)⟩
    ·have HNo1:Hid (0<cnt->F8 (lnF J at' cnt) (K.take (k+1))=R):=(fun q=>absurd q hc0);go_wp2_with fail;go_roundw
     case rel=>exact⟨k+1,M,by omega,by go_num,HDM.o.kp K1.o,j1F HKk.o (by show (Option.map _ _)=_;rw[HB.o];rfl) HMem.o,Nat.le_succ_of_le HLen.o,HNo1.o,HK3.o.trans K1.o⟩
     case measure=>simp only[RowKit.intOf];omega
   ·have hPp:0<PV:=(by have:=HBd.o;omega);have HB:Hid ((lnF J at' cnt) (((z:Int),s),((z:Int),s))=H ((PV,s),(PV,s))):=(by show _=_;rw[HFa.o,if_pos hPp]);have HvP:=h_ (j1D (j1N HOkL.o) HvC.o HB.o);have HNo1:Hid (0<cnt->F8 (lnF J at' cnt) (K.take (k+1))=R):=fun q=>by
     have h:=HNo.o q;unfold F8 at h ⊢;rw[U7 HKk.o,List.any_append,h];show (([(((z:Int),s),a)]:List Cc).any fun x=>((lnF J at' cnt) (x.1,x.1)).isNone)=R;rw[List.any_cons,List.any_nil,HB.o]
     rfl
    obtain⟨X,hX⟩:=e_ (W1.setCell ⟨wr.heap.size,0,G⟩ (O I PV));have HX:=h_ hX;have kX:Kp W1 X (fun i=>i=wr.heap.size):=(by rw[<- hX];exact(Kp.refl W1 (fun i=>i=wr.heap.size)).setCell _ _ (.inr rfl));have KX:=h_ (K1.o.trans' kX (fun i hi e=>by have e':i=wr.heap.size:=e;omega));have hb:=(HP1.o W1 (Kp.refl _ _)).set 0 (O I PV);rw[hX] at hb;have HPX:=(h_ fun Y (kY:Kp X Y Nul)=>(show Blk X wr.heap.size (j8 ((PV,s),a) sl) 52 from hb).kp kY (fun x=>x));have f0:W1.frozen? ⟨wr.heap.size,0,G⟩=R:=(HP1.o W1 (Kp.refl _ _)).froz _;clear hX kX hb hPp;have hb0:(PV==0)=R:=(by simpa using hP0);go_upto_region 19 with (first|(rw[HX.o])|fail)
    (try rw[HX.o])
    clear p0 p1 lz f0 p2 z0 z1 z2 hP0 hb0;by_cases h2:a.k=2
    ·skip
     have p2:=(HPX.o X (Kp.refl _ _)).c_ 2 rfl;rw[h2] at p2;have HR8:=h_ (J4 (pre:=[O I PV,O I s,O I a.k,O I a.v.k,ap ao a.v.x,aq a.v.s,E a.v.b,O I a.v.f]) (l:=a.t.hd.cells sl) (post:=[]) (t:=52) (fr:=(0,0)) (by rw[List.append_nil];exact HPX.o X (Kp.refl _ _)));have HAlo:=(h_ fun wq (q:Kp X wq Nul)=>j6R J at' cnt HOkL.o m lb HM.o a.t.size a.t sl (fun b=>b<w.heap.size) R wq (Nat.le_refl _) HGd.o.size (j38 HGd.o h2) ((HRG.o wq (HKw.o.trans (KX.o.trans q))).2.2.2) (HLB.o wq (HK3.o.trans (KX.o.trans q))));go_wp2_with (first
      | (refine wpList_load_mid rfl 48 (.tmp 91) rfl wr.heap.size 8 rfl (a.t.hd.cells sl) _ HR8.o underlying48 rfl j3 ?_)
      | fail)
     refine(HAlo.o _ (Kp.refl _ _)).mono ?_;rintro e w2 ⟨sl',fp,rfl,ho,hbl⟩;have K12:Hid (Kp X w2 Nul):=Kp.of_below hbl;have HO2:=h_ ho;have O2:=h_ ho.own.one;have HPB:Hid (Blk w2 wr.heap.size ([O I PV,O I s,O I a.k,O I a.v.k,ap ao a.v.x,aq a.v.s,E a.v.b,O I a.v.f]++a.t.hd.cells sl++[]) 52):=(by show Blk _ _ _ _;rw[List.append_nil];exact HPX.o w2 (Kp.of_below hbl));obtain⟨H2,hH2⟩:=e_ ((alN (lnF J at' cnt) a.t).hd);have HH2':=h_ hH2;rw[hH2];clear hH2 ho hbl p2 HAlo HR8;go_upto_region 21 with (first
      | (refine L8 rfl 48 (.tmp 97) (.tmp 95) rfl wr.heap.size 8 [O I PV,O I s,O I a.k,O I a.v.k,ap ao a.v.x,aq a.v.s,E a.v.b,O I a.v.f] (a.t.hd.cells sl) [] (H2.cells sl') _ HPB.o rfl rfl rfl rfl j3 (Hd.one H2 O2.o) ?_;intro Y hY kY0;have HY0:Hid (Blk Y wr.heap.size ([O I PV,O I s,O I a.k,O I a.v.k,ap ao a.v.x,aq a.v.s,E a.v.b,O I a.v.f]++H2.cells sl'++[]) 52):=hY;have KY0:Hid (Kp w2 Y (fun i=>i=wr.heap.size)):=kY0;clear hY kY0)
      | fail)
     have HS1:=h_ ((HPX.o X (Kp.refl _ _)).lt);have KY:=h_ ((KX.o.trans K12.o).trans' KY0.o (fun i hi e=>by have e':i=wr.heap.size:=e;omega));obtain⟨a',ha'⟩:=e_ (alC (lnF J at' cnt) a);have HA':=h_ ha';have HGa:Hid (Gd a'):=(by show Gd _;rw[<- ha'];exact j0P (j1N HOkL.o) HGd.o);have HIY:Hid (NdIn Y (fun _=>True) sl' a'.t):=by
      show NdIn _ _ _ _;rw[<- ha'];exact(HO2.o.isIn.kp KY0.o (fun i hi e=>by have e':i=wr.heap.size:=e;have h1:=hi.1;have:=HS1.o;omega)).mono (fun b hb hl=>⟨rfl,trivial⟩)
     have HPY:Hid (∀X,Kp Y X Nul->Blk X wr.heap.size (j8 ((PV,s),a') sl') 52):=fun X kX=>by
      have h:=HY0.o;unfold Hid at h;rw[List.append_nil,<- HH2'.o] at h;rw[<- HA'.o];exact(show Blk Y wr.heap.size (j8 ((PV,s),alC (lnF J at' cnt) a) sl') 52 from h).kp kX (fun x=>x)
     clear ha' HY0;have HPut:Hid (∀wq,Kp Y wq Nul->Calls prog 12 #[an (H ⟨W3.heap.size,0,G⟩),T #[O I PV,O I s],T (a'.cells sl').toArray] wq fun e w'=>e=Q (O I 0)/\DM w' w.heap.size W3.heap.size (putL M (PV,s) a')/\Kp wq w' (fun i=>i=W3.heap.size)):=fun wq q=>by
      have h:=dput w.heap.size W3.heap.size M PV s a' sl' _ wq (HDM.o.kp (KY.o.trans q)) (Nat.le_trans HKw.o.size (Nat.le_trans KY.o.size q.size)) HGa.o HvP.o (HIY.o.kp q (fun _ _ x=>x));have hroom:G9 M (PV,s)=J:=O4.2 (.inl (by have h1:=HLen.o;have h2:=HN.o.2.2.1;omega));rw[if_pos hroom,if_pos hroom] at h;exact h
     have HRc:Hid (Y.rangeAt wr.heap.size 2 (a'.cells sl')):=by
      have h2:=(I9 (j5 (HPY.o Y (Kp.refl _ _)))).2;rw[Nat.zero_add] at h2;exact h2
     have p0:=(HPY.o Y (Kp.refl _ _)).c_ 0 rfl;have p1:=(HPY.o Y (Kp.refl _ _)).c_ 1 rfl;go_wp2_with (first
      | (refine wpList_load_mid rfl 50 (.tmp 101) rfl wr.heap.size 2 rfl (a'.cells sl') _ HRc.o underlying50 rfl D9 ?_)
      | fail)
     refine(HPut.o _ (Kp.refl _ _)).mono ?_;rintro e w6 ⟨rfl,hd6,hk6⟩;have HD6:=h_ hd6;have KY6:=h_ hk6;clear hd6 hk6 p0 p1;go_wp2_with fail;go_roundw
     case rel=>exact⟨k+1,_,by omega,by go_num,HD6.o,(by rw[<- HA'.o];exact Y7 (y:=((PV,s),alC (lnF J at' cnt) a)) HKk.o (by show (Option.map _ _)=_;rw[HB.o];rfl) (j04 (j1M _ _ _) HAl.o.st HKv.o HKk.o HB.o) HMem.o),j00 HLen.o,HNo1.o,((HK3.o.trans KY.o).trans' KY6.o (fun i hi e=>by have e':i=W3.heap.size:=e;omega))⟩
     case measure=>simp only[RowKit.intOf];omega
    ·skip
     have p2:=(HPX.o X (Kp.refl _ _)).c_ 2 rfl;have HGa:=h_ HGd.o;have HA':Hid (alC (lnF J at' cnt) a=a):=j16 _ HGd.o.val h2;have HIY:=h_ ((HIn1.o X KX.o).mono (fun b hb hl=>⟨rfl,trivial⟩));have hn2:(a.k==2)=R:=(by simpa using h2);go_upto_region 21 with fail;clear p2 hn2;have HPut:Hid (∀wq,Kp X wq Nul->Calls prog 12 #[an (H ⟨W3.heap.size,0,G⟩),T #[O I PV,O I s],T (a.cells sl).toArray] wq fun e w'=>e=Q (O I 0)/\DM w' w.heap.size W3.heap.size (putL M (PV,s) a)/\Kp wq w' (fun i=>i=W3.heap.size)):=fun wq q=>by
      have h:=dput w.heap.size W3.heap.size M PV s a sl _ wq (HDM.o.kp (KX.o.trans q)) (Nat.le_trans HKw.o.size (Nat.le_trans KX.o.size q.size)) HGa.o HvP.o (HIY.o.kp q (fun _ _ x=>x));have hroom:G9 M (PV,s)=J:=O4.2 (.inl (by have h1:=HLen.o;have h2:=HN.o.2.2.1;omega));rw[if_pos hroom,if_pos hroom] at h;exact h
     have HRc:Hid (X.rangeAt wr.heap.size 2 (a.cells sl)):=by
      have h2:=(I9 (j5 (HPX.o X (Kp.refl _ _)))).2;rw[Nat.zero_add] at h2;exact h2
     have p0:=(HPX.o X (Kp.refl _ _)).c_ 0 rfl;have p1:=(HPX.o X (Kp.refl _ _)).c_ 1 rfl;go_wp2_with (first
      | (refine wpList_load_mid rfl 50 (.tmp 101) rfl wr.heap.size 2 rfl (a.cells sl) _ HRc.o underlying50 rfl D9 ?_)
      | fail)
     refine(HPut.o _ (Kp.refl _ _)).mono ?_;rintro e w6 ⟨rfl,hd6,hk6⟩;have HD6:=h_ hd6;have KY6:=h_ hk6;clear hd6 hk6 p0 p1;go_wp2_with fail;go_roundw
     case rel=>exact⟨k+1,_,by omega,by go_num,HD6.o,(by rw[<- HA'.o];exact Y7 (y:=((PV,s),alC (lnF J at' cnt) a)) HKk.o (by show (Option.map _ _)=_;rw[HB.o];rfl) (j04 (j1M _ _ _) HAl.o.st HKv.o HKk.o HB.o) HMem.o),j00 HLen.o,HNo1.o,((HK3.o.trans KX.o).trans' KY6.o (fun i hi e=>by have e':i=W3.heap.size:=e;omega))⟩
     case measure=>simp only[RowKit.intOf];omega
  ·have hke:k=n:=(by omega);subst hke;have hkn:¬((k:Int)<(k:Int)):=(by omega);have HEnd:Hid (∀X,Kp wr X Nul->RlR J at' cnt L w X (au #[an (H ⟨W3.heap.size,0,G⟩),O I 0])):=fun X kX=>by
    have e:=List.take_of_length_le (by rw[HN.o.2.1];exact Nat.le_refl _);refine .ok (fun q=>?_) _ M HKw3.o.size (HDM.o.kp kX) (fun y=>?_) (HKw.o.trans kX)
    ·have h:=HNo.o q.1;have h2:=q.2;rw[e] at h;unfold F8 at h h2;rw[List.any_eq_true] at h2;obtain⟨x,hx,hx2⟩:=h2;rw[List.any_eq_false] at h;exact h x ((HAl.o.mem x).2 hx) hx2
    ·rw[HMem.o y,e];show y∈brL (lnF J at' cnt) K↔_;rw[T8,T8];exact⟨fun ⟨x,h1,h2⟩=>⟨x,(HAl.o.mem x).1 h1,h2⟩,fun ⟨x,h1,h2⟩=>⟨x,(HAl.o.mem x).2 h1,h2⟩⟩
   go_wp2_with fail
   go_ret2
   exact⟨_,rfl,HEnd.o _ (Kp.refl _ _)⟩
theorem j6e (at' cnt:Int)(B g:Nat)(L:List Cc)(w:World)(hl:lnOk R at' cnt)(hg:DM w B g L):
 Calls prog 37 #[an (H ⟨g,0,G⟩),E R,O I at',O I cnt] w fun e w'=>∃v,e=Q v/\RlR R at' cnt L w w' v:=by
 obtain⟨v0,ys,hd,hal⟩:=hg.ex;obtain⟨p,cp,rfl,hrow⟩:=j19 hd;obtain⟨n,hn⟩:∃n,ys.length=n:=⟨_,rfl⟩;obtain⟨K,hK⟩:∃K,ys.map (·.1)=K:=⟨_,rfl⟩;rw[hK] at hal;rw[hn] at hd;have HN:Hid (ys.length=n/\K.length=n/\n<=4096/\ys.map (·.1)=K):=⟨hn,by rw[<- hK,List.length_map,hn],by have h1:=hal.len;have h2:=hg.ok.len;rw[<- hK,List.length_map,hn] at h1;omega,hK⟩;have HSl:Hid (∀wq,Kp w wq Nul->wq.cell? ⟨g,0,G⟩=H (U p n cp)):=fun wq k=>(hd.box.kp k (fun x=>x)).cell rfl
 have HRow:=h_ hrow;have HAl:=h_ hal;have HOk:Hid (Ok17 L/\L.Pairwise (fun x y=>x.1≠y.1)):=⟨hg.ok,hg.once⟩;clear hg hd hal hrow hn hK;have HOkL:=h_ hl;obtain⟨m,hm⟩:∃m:Nat,(m:Int)=4096:=⟨4096,rfl⟩;have HM:=h_ hm;have HMn:Hid (∀wq,Calls prog 70 #[E R,O I at',O I cnt] wq fun e w'=>e=Q (au #[O I (m:Int),E J])/\w'=wq):=fun wq=>by
  have:=j22 R at' cnt wq;have e:(if R=J then (256:Int) else 4096)=(m:Int):=by rw[hm];rfl
  rw[e,decide_eq_true (by have:=(j3N R at' cnt).2 hl;rw[e] at this;exact this)] at this;exact this
 have HPl:=h_ fun wq=>j6I m at' cnt wq (by rw[hm];exact hl) (by omega)
 have hnp:=fun wq=>Q8 g wq
 clear hl hm;go_enter func37,ntmps37;go_wp2_with fail;refine(HMn.o _).mono ?_;rintro e w1 ⟨rfl,hz⟩;replace hz:=hz.symm;subst hz;go_wp2_with fail;refine(HPl.o _).mono ?_;rintro e W3 ⟨rfl,hbl,hk3⟩;obtain⟨lb,hlb⟩:∃lb,w.heap.size=lb:=⟨_,rfl⟩;have HLB:=h_ fun X (kX:Kp W3 X Nul)=>(hlb ▸ hbl).kp kX (fun x=>x)
 have HKw3:=h_ hk3;obtain⟨W5,hW5,kW5,bW5,sW5⟩:=lay1 W3 [U G 0 0] 81;have HW5:=h_ hW5;have HD0:Hid (DM W5 w.heap.size W3.heap.size []):=DM.new bW5;have HK35:=h_ kW5;have q0:W5.cell? ⟨g,0,G⟩=H (U p n cp):=HSl.o W5 (HKw3.o.trans kW5);have HLb:=h_ hlb;rw[hlb];clear hbl hk3 hlb hW5 kW5 bW5 sW5 HMn HPl hnp;go_upto_region 6 with fail;rw[HW5.o];clear HW5;go_wp2_with fail;go_loopw[14] (fun i wr=>∃(k:Nat) (M:List Cc),k<=n/\i=O I k/\DM wr w.heap.size W3.heap.size M/\(∀z,z∈M↔z∈(K.take k).filterMap (fun x:Cc=>((lnF R at' cnt) (x.1,x.1)).map fun b=>(b.1,alC (lnF R at' cnt) x.2)))/\M.length<=k/\(0<cnt->F8 (lnF R at' cnt) (K.take k)=R)/\Kp W3 wr Nul) (fun i _=>n-(RowKit.intOf i).toNat)
 case atStart=>exact⟨0,[],Nat.zero_le _,rfl,HD0.o,by simp,Nat.zero_le _,fun _=>by rw[List.take_zero];rfl,HK35.o⟩
 case round=>
  clear q0 HD0;obtain⟨k,M,hk,rfl,hdm,hmem,hlen,hno,hkp⟩:=hrel;have HDM:=h_ hdm;have HRlt:=h_ hdm.lt;have HMem:=h_ hmem;have HLen:=h_ hlen;have HNo:=h_ hno;have HK3:Hid (Kp W3 wr Nul):=hkp;have HKw:Hid (Kp w wr Nul):=HKw3.o.trans hkp;clear hdm hmem hlen hno hkp;have q0:wr.cell? ⟨g,0,G⟩=H (U p n cp):=HSl.o wr HKw.o;by_cases hlt:k<n
  ·skip
   have hkt:k<ys.length:=(by rw[HN.o.1];exact hlt);obtain⟨⟨⟨⟨c,s⟩,a⟩,sl⟩,hys⟩:∃y,ys[k]=y:=⟨_,rfl⟩;have hget:ys[k]? = H (((c,s),a),sl):=(by rw[List.getElem?_eq_getElem hkt,hys]);have hKk:K[k]? = H ((c,s),a):=(by rw[<- HN.o.2.2.2,List.getElem?_map,hget];rfl);obtain⟨b,rfl,hb,hra⟩:=HRow.o k _ hget;have hmL:((c,s),a)∈L:=(HAl.o.mem _).1 (List.mem_of_getElem? hKk);have HGd:Hid (Gd a):=HOk.o.1.gd _ hmL;have HvC:Hid (vC c s=J):=HOk.o.1.at' _ hmL;have HKk:Hid (K[k]? = H ((c,s),a)):=hKk;have HRG:Hid (∀wq,Kp w wq Nul->wq.rangeAt b (k*23) [O I c,O I s]/\wq.rangeAt b (k*23+2) (a.cells sl)/\wq.rangeAt b (k*23) (j8 ((c,s),a) sl)/\NdIn wq (fun b=>b<w.heap.size) sl a.t):=(fun wq q=>⟨(I9 (hra wq q).1).1,(I9 (hra wq q).1).2,(hra wq q).1,(hra wq q).2⟩);have hk0:(0:Int)<=(k:Int):=(by omega);have hkn:(k:Int)<(n:Int):=(by omega);have hkb:(k:Int)+1<=9223372036854775807:=by have:=HN.o.2.2.1;omega
   have hvc:=(G6 _ _).1 HvC.o;obtain⟨z,hz⟩:∃z:Nat,s=(z:Int):=⟨s.toNat,by omega⟩;subst hz;have hz1:1<=z/\z<=4096:=(by omega);clear hkt hys hget hKk hb hra hmL;obtain⟨PV,hPV⟩:=e_ (pl at' cnt 4096 (z:Int));have HKv:Hid (∀y∈K,vC y.1.1 y.1.2=J):=(fun y hy=>HOk.o.1.at' y ((HAl.o.mem y).1 hy));have HFa:Hid ((lnF R at' cnt) ((c,(z:Int)),(c,(z:Int)))=if 0<PV then H ((c,PV),(c,PV)) else G):=by
    show _=_;rw[<- hPV];exact jAr HOkL.o HvC.o
   have hbd:=j2E (at':=at') (n:=cnt) (most:=4096) (k:=(z:Int)) HOkL.o (by omega) (by omega);rw[hPV] at hbd;have HBd:=h_ hbd;have HLz:Hid (∀X,Kp wr X Nul->X.cell? ⟨lb,z,G⟩=H (O I PV)):=(fun X kX=>(HLB.o X (HK3.o.trans kX)).cell (j0i (by have hmM:(m:Int)=4096:=HM.o;rw[Y9 (by omega),if_pos (by omega),hmM,hPV])));have HZ:Hid ((0:Int)<=(z:Int)/\(z:Int)<(m:Int)+1/\(z:Int)<((m+1:Nat):Int)):=by
    have e:=HM.o;show _/\_;omega
   clear hPV hbd;obtain⟨W1,hW1,kW1,bW1,sW1⟩:=lay1 wr (j8 ((c,(z:Int)),a) sl) 52;have HW1:=h_ hW1;have K1:=h_ kW1;have HP1:=k_ bW1;have HIn1:=(h_ fun X (kX:Kp wr X Nul)=>(HRG.o X (HKw.o.trans kX)).2.2.2);have O1:=h_ ((HRG.o wr HKw.o).2.2.2.one);have HRP:=h_ ((HRG.o wr HKw.o).2.2.1);have p2:=(HP1.o W1 (Kp.refl _ _)).c_ 2 rfl;have HP2:=h_ p2;clear hW1 kW1 bW1 sW1 p2;go_upto_region 10 with (first
    | (rw[HW1.o])
    | (refine wpList_load_mid rfl 52 (.tmp 50) rfl b (k*23) rfl (j8 ((c,(z:Int)),a) sl) _ HRP.o underlying52 rfl j0B ?_)
    | (refine F9 rfl 52 (.tmp 15) (.tmp 51) rfl _ _ _ _ _ (by first|rfl|simp) rfl rfl rfl j0B (j2G _ O1.o) ?_)
    | fail)
   (try simp only[Act.put])
   (try rw[HW1.o])
   clear q0 HRP;have p0:=(HP1.o W1 (Kp.refl _ _)).c_ 0 rfl;have p1:=(HP1.o W1 (Kp.refl _ _)).c_ 1 rfl;have lz:=HLz.o W1 K1.o;obtain⟨z0,z1,z2⟩:=HZ.o;have p2:=HP2.o;by_cases hP0:PV=0
   ·subst hP0;have HB:Hid ((lnF R at' cnt) ((c,(z:Int)),(c,(z:Int)))=G):=(by show _=_;rw[HFa.o];rfl);by_cases hc0:0<cnt
    ·have HEx:Hid (∀X,Kp W1 X Nul->RlR R at' cnt L w X (au #[an G,O I 20])):=fun X kX=>.off hc0 (by
      unfold F8;rw[List.any_eq_true];exact⟨_,(HAl.o.mem _).1 (List.mem_of_getElem? HKk.o),by rw[HB.o];rfl⟩) (HKw.o.trans (K1.o.trans kX))
     go_wp2_with fail
     go_ret2
     exact⟨_,rfl,HEx.o _ (Kp.refl _ _)⟩
    ·have HNo1:Hid (0<cnt->F8 (lnF R at' cnt) (K.take (k+1))=R):=(fun q=>absurd q hc0);go_wp2_with fail;go_roundw
     case rel=>exact⟨k+1,M,by omega,by go_num,HDM.o.kp K1.o,j1F HKk.o (by show (Option.map _ _)=_;rw[HB.o];rfl) HMem.o,Nat.le_succ_of_le HLen.o,HNo1.o,HK3.o.trans K1.o⟩
     case measure=>simp only[RowKit.intOf];omega
   ·have hPp:0<PV:=(by have:=HBd.o;omega);have HB:Hid ((lnF R at' cnt) ((c,(z:Int)),(c,(z:Int)))=H ((c,PV),(c,PV))):=(by show _=_;rw[HFa.o,if_pos hPp]);have HvP:=h_ (j1D (j1N HOkL.o) HvC.o HB.o);have HNo1:Hid (0<cnt->F8 (lnF R at' cnt) (K.take (k+1))=R):=fun q=>by
     have h:=HNo.o q;unfold F8 at h ⊢;rw[U7 HKk.o,List.any_append,h];show (([((c,(z:Int)),a)]:List Cc).any fun x=>((lnF R at' cnt) (x.1,x.1)).isNone)=R;rw[List.any_cons,List.any_nil,HB.o]
     rfl
    obtain⟨X,hX⟩:=e_ (W1.setCell ⟨wr.heap.size,1,G⟩ (O I PV));have HX:=h_ hX;have kX:Kp W1 X (fun i=>i=wr.heap.size):=(by rw[<- hX];exact(Kp.refl W1 (fun i=>i=wr.heap.size)).setCell _ _ (.inr rfl));have KX:=h_ (K1.o.trans' kX (fun i hi e=>by have e':i=wr.heap.size:=e;omega));have hb:=(HP1.o W1 (Kp.refl _ _)).set 1 (O I PV);rw[hX] at hb;have HPX:=(h_ fun Y (kY:Kp X Y Nul)=>(show Blk X wr.heap.size (j8 ((c,PV),a) sl) 52 from hb).kp kY (fun x=>x));have f0:W1.frozen? ⟨wr.heap.size,1,G⟩=R:=(HP1.o W1 (Kp.refl _ _)).froz _;clear hX kX hb hPp;have hb0:(PV==0)=R:=(by simpa using hP0);go_upto_region 19 with (first|(rw[HX.o])|fail)
    (try rw[HX.o])
    clear p0 p1 lz f0 p2 z0 z1 z2 hP0 hb0;by_cases h2:a.k=2
    ·skip
     have p2:=(HPX.o X (Kp.refl _ _)).c_ 2 rfl;rw[h2] at p2;have HR8:=h_ (J4 (pre:=[O I c,O I PV,O I a.k,O I a.v.k,ap ao a.v.x,aq a.v.s,E a.v.b,O I a.v.f]) (l:=a.t.hd.cells sl) (post:=[]) (t:=52) (fr:=(0,0)) (by rw[List.append_nil];exact HPX.o X (Kp.refl _ _)));have HAlo:=(h_ fun wq (q:Kp X wq Nul)=>j6R R at' cnt HOkL.o m lb HM.o a.t.size a.t sl (fun b=>b<w.heap.size) R wq (Nat.le_refl _) HGd.o.size (j38 HGd.o h2) ((HRG.o wq (HKw.o.trans (KX.o.trans q))).2.2.2) (HLB.o wq (HK3.o.trans (KX.o.trans q))));go_wp2_with (first
      | (refine wpList_load_mid rfl 48 (.tmp 91) rfl wr.heap.size 8 rfl (a.t.hd.cells sl) _ HR8.o underlying48 rfl j3 ?_)
      | fail)
     refine(HAlo.o _ (Kp.refl _ _)).mono ?_;rintro e w2 ⟨sl',fp,rfl,ho,hbl⟩;have K12:Hid (Kp X w2 Nul):=Kp.of_below hbl;have HO2:=h_ ho;have O2:=h_ ho.own.one;have HPB:Hid (Blk w2 wr.heap.size ([O I c,O I PV,O I a.k,O I a.v.k,ap ao a.v.x,aq a.v.s,E a.v.b,O I a.v.f]++a.t.hd.cells sl++[]) 52):=(by show Blk _ _ _ _;rw[List.append_nil];exact HPX.o w2 (Kp.of_below hbl));obtain⟨H2,hH2⟩:=e_ ((alN (lnF R at' cnt) a.t).hd);have HH2':=h_ hH2;rw[hH2];clear hH2 ho hbl p2 HAlo HR8;go_upto_region 21 with (first
      | (refine L8 rfl 48 (.tmp 97) (.tmp 95) rfl wr.heap.size 8 [O I c,O I PV,O I a.k,O I a.v.k,ap ao a.v.x,aq a.v.s,E a.v.b,O I a.v.f] (a.t.hd.cells sl) [] (H2.cells sl') _ HPB.o rfl rfl rfl rfl j3 (Hd.one H2 O2.o) ?_;intro Y hY kY0;have HY0:Hid (Blk Y wr.heap.size ([O I c,O I PV,O I a.k,O I a.v.k,ap ao a.v.x,aq a.v.s,E a.v.b,O I a.v.f]++H2.cells sl'++[]) 52):=hY;have KY0:Hid (Kp w2 Y (fun i=>i=wr.heap.size)):=kY0;clear hY kY0)
      | fail)
     have HS1:=h_ ((HPX.o X (Kp.refl _ _)).lt);have KY:=h_ ((KX.o.trans K12.o).trans' KY0.o (fun i hi e=>by have e':i=wr.heap.size:=e;omega));obtain⟨a',ha'⟩:=e_ (alC (lnF R at' cnt) a);have HA':=h_ ha';have HGa:Hid (Gd a'):=(by show Gd _;rw[<- ha'];exact j0P (j1N HOkL.o) HGd.o);have HIY:Hid (NdIn Y (fun _=>True) sl' a'.t):=by
      show NdIn _ _ _ _;rw[<- ha'];exact(HO2.o.isIn.kp KY0.o (fun i hi e=>by have e':i=wr.heap.size:=e;have h1:=hi.1;have:=HS1.o;omega)).mono (fun b hb hl=>⟨rfl,trivial⟩)
     have HPY:Hid (∀X,Kp Y X Nul->Blk X wr.heap.size (j8 ((c,PV),a') sl') 52):=fun X kX=>by
      have h:=HY0.o;unfold Hid at h;rw[List.append_nil,<- HH2'.o] at h;rw[<- HA'.o];exact(show Blk Y wr.heap.size (j8 ((c,PV),alC (lnF R at' cnt) a) sl') 52 from h).kp kX (fun x=>x)
     clear ha' HY0;have HPut:Hid (∀wq,Kp Y wq Nul->Calls prog 12 #[an (H ⟨W3.heap.size,0,G⟩),T #[O I c,O I PV],T (a'.cells sl').toArray] wq fun e w'=>e=Q (O I 0)/\DM w' w.heap.size W3.heap.size (putL M (c,PV) a')/\Kp wq w' (fun i=>i=W3.heap.size)):=fun wq q=>by
      have h:=dput w.heap.size W3.heap.size M c PV a' sl' _ wq (HDM.o.kp (KY.o.trans q)) (Nat.le_trans HKw.o.size (Nat.le_trans KY.o.size q.size)) HGa.o HvP.o (HIY.o.kp q (fun _ _ x=>x));have hroom:G9 M (c,PV)=J:=O4.2 (.inl (by have h1:=HLen.o;have h2:=HN.o.2.2.1;omega));rw[if_pos hroom,if_pos hroom] at h;exact h
     have HRc:Hid (Y.rangeAt wr.heap.size 2 (a'.cells sl')):=by
      have h2:=(I9 (j5 (HPY.o Y (Kp.refl _ _)))).2;rw[Nat.zero_add] at h2;exact h2
     have p0:=(HPY.o Y (Kp.refl _ _)).c_ 0 rfl;have p1:=(HPY.o Y (Kp.refl _ _)).c_ 1 rfl;go_wp2_with (first
      | (refine wpList_load_mid rfl 50 (.tmp 101) rfl wr.heap.size 2 rfl (a'.cells sl') _ HRc.o underlying50 rfl D9 ?_)
      | fail)
     refine(HPut.o _ (Kp.refl _ _)).mono ?_;rintro e w6 ⟨rfl,hd6,hk6⟩;have HD6:=h_ hd6;have KY6:=h_ hk6;clear hd6 hk6 p0 p1;go_wp2_with fail;go_roundw
     case rel=>exact⟨k+1,_,by omega,by go_num,HD6.o,(by rw[<- HA'.o];exact Y7 (y:=((c,PV),alC (lnF R at' cnt) a)) HKk.o (by show (Option.map _ _)=_;rw[HB.o];rfl) (j04 (j1M _ _ _) HAl.o.st HKv.o HKk.o HB.o) HMem.o),j00 HLen.o,HNo1.o,((HK3.o.trans KY.o).trans' KY6.o (fun i hi e=>by have e':i=W3.heap.size:=e;omega))⟩
     case measure=>simp only[RowKit.intOf];omega
    ·skip
     have p2:=(HPX.o X (Kp.refl _ _)).c_ 2 rfl;have HGa:=h_ HGd.o;have HA':Hid (alC (lnF R at' cnt) a=a):=j16 _ HGd.o.val h2;have HIY:=h_ ((HIn1.o X KX.o).mono (fun b hb hl=>⟨rfl,trivial⟩));have hn2:(a.k==2)=R:=(by simpa using h2);go_upto_region 21 with fail;clear p2 hn2;have HPut:Hid (∀wq,Kp X wq Nul->Calls prog 12 #[an (H ⟨W3.heap.size,0,G⟩),T #[O I c,O I PV],T (a.cells sl).toArray] wq fun e w'=>e=Q (O I 0)/\DM w' w.heap.size W3.heap.size (putL M (c,PV) a)/\Kp wq w' (fun i=>i=W3.heap.size)):=fun wq q=>by
      have h:=dput w.heap.size W3.heap.size M c PV a sl _ wq (HDM.o.kp (KX.o.trans q)) (Nat.le_trans HKw.o.size (Nat.le_trans KX.o.size q.size)) HGa.o HvP.o (HIY.o.kp q (fun _ _ x=>x));have hroom:G9 M (c,PV)=J:=O4.2 (.inl (by have h1:=HLen.o;have h2:=HN.o.2.2.1;omega));rw[if_pos hroom,if_pos hroom] at h;exact h
     have HRc:Hid (X.rangeAt wr.heap.size 2 (a.cells sl)):=by
      have h2:=(I9 (j5 (HPX.o X (Kp.refl _ _)))).2;rw[Nat.zero_add] at h2;exact h2
     have p0:=(HPX.o X (Kp.refl _ _)).c_ 0 rfl;have p1:=(HPX.o X (Kp.refl _ _)).c_ 1 rfl;go_wp2_with (first
      | (refine wpList_load_mid rfl 50 (.tmp 101) rfl wr.heap.size 2 rfl (a.cells sl) _ HRc.o underlying50 rfl D9 ?_)
      | fail)
     refine(HPut.o _ (Kp.refl _ _)).mono ?_;rintro e w6 ⟨rfl,hd6,hk6⟩;have HD6:=h_ hd6;have KY6:=h_ hk6;clear hd6 hk6 p0 p1;go_wp2_with fail;go_roundw
     case rel=>exact⟨k+1,_,by omega,by go_num,HD6.o,(by rw[<- HA'.o];exact Y7 (y:=((c,PV),alC (lnF R at' cnt) a)) HKk.o (by show (Option.map _ _)=_;rw[HB.o];rfl) (j04 (j1M _ _ _) HAl.o.st HKv.o HKk.o HB.o) HMem.o),j00 HLen.o,HNo1.o,((HK3.o.trans KX.o).trans' KY6.o (fun i hi e=>by have e':i=W3.heap.size:=e;omega))⟩
     case measure=>simp only[RowKit.intOf];omega
  ·have hke:k=n:=(by omega);subst hke;have hkn:¬((k:Int)<(k:Int)):=(by omega);have HEnd:Hid (∀X,Kp wr X Nul->RlR R at' cnt L w X (au #[an (H ⟨W3.heap.size,0,G⟩),O I 0])):=fun X kX=>by
    have e:=List.take_of_length_le (by rw[HN.o.2.1];exact Nat.le_refl _);refine .ok (fun q=>?_) _ M HKw3.o.size (HDM.o.kp kX) (fun y=>?_) (HKw.o.trans kX)
    ·have h:=HNo.o q.1;have h2:=q.2;rw[e] at h;unfold F8 at h h2;rw[List.any_eq_true] at h2;obtain⟨x,hx,hx2⟩:=h2;rw[List.any_eq_false] at h;exact h x ((HAl.o.mem x).2 hx) hx2
    ·rw[HMem.o y,e];show y∈brL (lnF R at' cnt) K↔_;rw[T8,T8];exact⟨fun ⟨x,h1,h2⟩=>⟨x,(HAl.o.mem x).1 h1,h2⟩,fun ⟨x,h1,h2⟩=>⟨x,(HAl.o.mem x).2 h1,h2⟩⟩
   go_wp2_with fail
   go_ret2
   exact⟨_,rfl,HEnd.o _ (Kp.refl _ _)⟩
end Go.Proofs.YtecjfnkakodebaaGreatDoor
