/-Packed, the document's reader: node, its fields (quadrilleref24). -/
import Derived.Test.YtnceajanlnnfoaaGreatDoorQrPnc
import Derived.Test.YtnceajanlnnfoaaGreatDoorQrEu
set_option maxRecDepth 20000
set_option maxHeartbeats 32000000
namespace Go.Proofs.YtnceajanlnnfoaaGreatDoor
section
open Go.RowKit Go.Shelf Go.Sort
structure NdS (w wz:World) (r A N:Nat) (b:List UInt8) (h:Hd) (n:Nat) (s:Sd) (v:Value):Prop where
 cnt:v=.int .i64 (n:Nat)
 rs:RS wz r b s
 za:Blk wz A [.int .i64 0,.int .i64 0,.float .f64 0,.string ⟨#[]⟩,.bool false,.int .i64 0,.int .i64 0,.int .i64 0,.bool false,.bool false,.int .i64 0,.int .i64 0,.bool false,.bool false,.slice none 0 0] 64
 nb:Blk wz N (h.cells (.slice none 0 0)) 64
 kp:Kp w wz (fun i=>i=r)
def dNdE (b:List UInt8) (h:Hd) (n:Nat) (s:Sd):Nat->Nd×Sd
 | 0=>(.mk h [],(s.1,true))
 | d+1=>(.mk h (D4 (dNd b d) n s).1,(D4 (dNd b d) n s).2)
structure DnS (w wr:World) (r A N:Nat) (b:List UInt8) (h:Hd) (us:List Nd) (s:Sd) (v:Value) (fp:List Nat):Prop where
 rs:RS wr r b s
 za:Blk wr A [.int .i64 0,.int .i64 0,.float .f64 0,.string ⟨#[]⟩,.bool false,.int .i64 0,.int .i64 0,.int .i64 0,.bool false,.bool false,.int .i64 0,.int .i64 0,.bool false,.bool false,.slice none 0 0] 64
 nb:Blk wr N (h.cells v) 64
 own:Own wr (N+1) v (.mk h us) fp
 kp:Kp w wr (fun i=>i=r)
theorem DnS.step {w wr w2 w4:World}{r A N:Nat}{b:List UInt8}{h:Hd}{us:List Nd}{s s':Sd}{v:Value}{fp:List Nat}(q:DnS w wr r A N b h us s v fp)(hA:r<w.heap.size/\w.heap.size<=A/\A<N)
 (hg:Kp wr w2 (fun i=>i=r)) (hr:RS w2 r b s') {sl:Value} {u:Nd} {f:List Nat} (hu:Own w2 wr.heap.size sl u f) {xs:List Value} (hx:w2.ownsRow (N+1) 64 15 v us.length xs) {g c:Nat}
 (ho:w4.ownsRow (N+1) 64 15 (.slice (some ⟨g,0,none⟩) (us.length+1) c) (us.length+1) (xs++u.hd.cells sl)) (hgr:(w2.alloc (.cells (u.hd.cells sl).toArray 64)).grownBy w4 v.ownBlock) (ht:v.ownBlock=some g∨(w2.alloc (.cells (u.hd.cells sl).toArray 64)).heap.size<=g) :
 Kp wr w4 (fun i=>i=r∨N<i)/\Blk w4 N (h.cells v) 64/\∃fp',DnS w (w4.setCell ⟨N,14,none⟩ (.slice (some ⟨g,0,none⟩) (us.length+1) c)) r A N b h (us++[u]) s' (.slice (some ⟨g,0,none⟩) (us.length+1) c) fp':=by
 obtain⟨W3,hW3⟩:∃W3,w2.alloc (.cells (u.hd.cells sl).toArray 64)=W3:=⟨_,rfl⟩;rw[hW3] at hgr ht;have k3:Kp w2 W3 Nul:=by rw[<- hW3];exact(Kp.refl w2 Nul).alloc _
 have hN:N<wr.heap.size:=q.nb.lt;have hx3:W3.ownsRow (N+1) 64 15 v us.length xs:=by rw[<- hW3];exact hx.alloc _
 have own3:Own W3 (N+1) v (.mk h us) fp:=(q.own.kp hg (fun x hx e=>by have e':x=r:=e;have:=(q.own.new x hx).1;omega)).kp k3 (fun _ _ x=>x);have hu3:Own W3 (N+1) sl u f:=(hu.kp k3 (fun _ _ x=>x)).le (by omega);have hd:∀b∈f,b∉fp:=fun b hb hb'=>by
  have:=(hu.new b hb).1;have:=(q.own.new b hb').2;omega
 obtain⟨fp',ow4⟩:=own3.grow hx3 hu3 hd ho hgr ht h;have k4:Kp W3 w4 (fun i=>N<i):=Kp.of_grown hgr (fun i hi=>by have:=(hx3.lt i hi).1;show N<i;omega);have k24:Kp w2 w4 (fun i=>N<i):=k3.of_nul.trans k4;have rs4:RS w4 r b s':=hr.kp k24 (fun e=>by have e':N<r:=e;omega);have za4:Blk w4 A [.int .i64 0,.int .i64 0,.float .f64 0,.string ⟨#[]⟩,.bool false,.int .i64 0,.int .i64 0,.int .i64 0,.bool false,.bool false,.int .i64 0,.int .i64 0,.bool false,.bool false,.slice none 0 0] 64:=(q.za.kp hg (fun e=>by have e':A=r:=e;omega)).kp k24 (fun e=>by have e':N<A:=e;omega);have nb4:Blk w4 N (h.cells v) 64:=(q.nb.kp hg (fun e=>by have e':N=r:=e;omega)).kp k24 (fun e=>by have e':N<N:=e;omega);refine⟨(hg.mono (fun i _ e=>.inl e)).trans (k24.mono (fun i _ e=>.inr e)),nb4,fp',⟨⟨rs4.blk.other _ _ (fun e=>by have e':r=N:=e;omega),rs4.le,rs4.mx⟩,za4.other _ _ (fun e=>by have e':A=N:=e;omega),nb4.set 14 _,ow4.kp ((Kp.refl w4 (fun i=>i=N)).setCell ⟨N,14,none⟩ _ (.inr rfl)) (fun x hx e=>by have e':x=N:=e;have:=(ow4.new x hx).1;omega),?_⟩⟩
 exact((q.kp.trans hg).trans' k24 (fun i hi e=>by have e':N<i:=e;omega)).setCell ⟨N,14,none⟩ _ (.inl (by show w.heap.size<=N;omega))
theorem j5b (r:Nat)(b:List UInt8)(d:Nat)(IH:∀d',d=d'+1->∀(s:Sd) (w:World),RS w r b s->Calls Tryz.prog 87 #[.pointer (some ⟨r,0,none⟩),.int .i64 ((33-d':Nat):Int)] w fun e w'=>∃sl fp,e=.returned ((dNd b d' s).1.hd.val sl)/\Own w' w.heap.size sl (dNd b d' s).1 fp/\RS w' r b (dNd b d' s).2/\Kp w w' (fun i=>i=r)):∀(s:Sd) (w:World),d<=32->RS w r b s ->
 Calls Tryz.prog 87 #[.pointer (some ⟨r,0,none⟩),.int .i64 ((33-d:Nat):Int)] w fun e w'=>∃sl fp,e=.returned ((dNd b d s).1.hd.val sl)/\Own w' w.heap.size sl (dNd b d s).1 fp/\RS w' r b (dNd b d s).2/\Kp w w' (fun i=>i=r):=by
 intro s w hd h;have HN:Hid (∀t w,RS w r b t->Calls Tryz.prog 85 #[.pointer (some ⟨r,0,none⟩),.int .i64 1] w fun e w'=>e=.returned (.int .i64 ((dN b 1 t).1:Nat))/\RS w' r b (dN b 1 t).2/\Kp w w' (fun i=>i=r)):=fun t w h=>V4 r b 1 t w (by decide) h
 have HDx:Hid (∀t w,RS w r b t->Calls Tryz.prog 139 #[.pointer (some ⟨r,0,none⟩)] w fun e w'=>e=.returned (.float .f64 (dN b 8 t).1)/\RS w' r b (dN b 8 t).2/\Kp w w' (fun i=>i=r)):=fun t w h=>j5T r b t w h
 have HDs:Hid (∀t w,RS w r b t->Calls Tryz.prog 140 #[.pointer (some ⟨r,0,none⟩)] w fun e w'=>e=.returned (.string (dTxt b t).1)/\RS w' r b (dTxt b t).2/\Kp w w' (fun i=>i=r)):=fun t w h=>j5y r b t w h
 have HDb:Hid (∀t w,RS w r b t->Calls Tryz.prog 141 #[.pointer (some ⟨r,0,none⟩)] w fun e w'=>e=.returned (.bool (dTr b t).1)/\RS w' r b (dTr b t).2/\Kp w w' (fun i=>i=r)):=fun t w h=>j5w r b t w h
 have HDr:Hid (∀t w,RS w r b t->Calls Tryz.prog 142 #[.pointer (some ⟨r,0,none⟩)] w fun e w'=>e=.returned (.agg #[.int .i64 ((dRef b t).1.1:Nat),.int .i64 ((dRef b t).1.2.1:Nat),.bool (dRef b t).1.2.2.1,.bool (dRef b t).1.2.2.2])/\RS w' r b (dRef b t).2/\Kp w w' (fun i=>i=r)):=fun t w h=>jDI r b t w h
 obtain⟨W,hW⟩:∃W,w.alloc (.cells #[.int .i64 0,.int .i64 0,.float .f64 0,.string ⟨#[]⟩,.bool false,.int .i64 0,.int .i64 0,.int .i64 0,.bool false,.bool false,.int .i64 0,.int .i64 0,.bool false,.bool false,.slice none 0 0] 64)=W:=⟨_,rfl⟩;have kp0:Kp w W Nul:=by rw[<- hW];exact(Kp.refl w Nul).alloc _
 have HBA:Hid (Blk W w.heap.size [.int .i64 0,.int .i64 0,.float .f64 0,.string ⟨#[]⟩,.bool false,.int .i64 0,.int .i64 0,.int .i64 0,.bool false,.bool false,.int .i64 0,.int .i64 0,.bool false,.bool false,.slice none 0 0] 64):=by show Blk _ _ _ _;rw[<- hW];exact Blk.new w [.int .i64 0,.int .i64 0,.float .f64 0,.string ⟨#[]⟩,.bool false,.int .i64 0,.int .i64 0,.int .i64 0,.bool false,.bool false,.int .i64 0,.int .i64 0,.bool false,.bool false,.slice none 0 0] _
 have HR0:Hid (RS W r b s):=h.kp kp0 (fun x=>x);have HNe:Hid (¬w.heap.size=r):=by show ¬_;have:=h.blk.lt;omega
 have HK0:Hid (Kp w W (fun i=>i=r)):=kp0.of_nul;have HW:Hid (w.alloc (.cells #[.int .i64 0,.int .i64 0,.float .f64 0,.string ⟨#[]⟩,.bool false,.int .i64 0,.int .i64 0,.int .i64 0,.bool false,.bool false,.int .i64 0,.int .i64 0,.bool false,.bool false,.slice none 0 0] 64)=W):=hW;obtain⟨dp,hdp⟩:∃dp:Nat,33-d=dp:=⟨_,rfl⟩;obtain⟨D,hD⟩:∃D,dNd b d s=D:=⟨_,rfl⟩;have HDD:Hid (dNd b d s=D):=hD;rw[hdp,hD];have HRA:Hid (r<w.heap.size):=h.blk.lt;have HIH:Hid (∀d',d=d'+1->∀(s:Sd) (w:World),RS w r b s->Calls Tryz.prog 87 #[.pointer (some ⟨r,0,none⟩),.int .i64 ((33-d':Nat):Int)] w fun e w'=>∃sl fp,e=.returned ((dNd b d' s).1.hd.val sl)/\Own w' w.heap.size sl (dNd b d' s).1 fp/\RS w' r b (dNd b d' s).2/\Kp w w' (fun i=>i=r)):=IH;have HD32:Hid (d<=32/\33-d=dp):=⟨hd,hdp⟩;clear h hW kp0 IH hd hdp hD;go_enter Tryz.func87,Tryz.ntmps87
 go_wp2_with (first|(rw[HW.out])|fail);refine(HN.out s W HR0.out).mono ?_;obtain⟨kn,hkn⟩:∃kn,(dN b 1 s).1=kn:=⟨_,rfl⟩;obtain⟨t,ht⟩:∃t,(dN b 1 s).2=t:=⟨_,rfl⟩;obtain⟨h6,hh6⟩:∃h6,(dFld b kn t).1.1=h6:=⟨_,rfl⟩;obtain⟨n6,hn6⟩:∃n6,(dFld b kn t).1.2=n6:=⟨_,rfl⟩;obtain⟨S,hS⟩:∃S,(dFld b kn t).2=S:=⟨_,rfl⟩;have HO1:Hid (((dFld b kn t).1.1=h6/\(dFld b kn t).1.2=n6)/\(dFld b kn t).2=S):=⟨⟨hh6,hn6⟩,hS⟩;have HDN:Hid (D=dNdE b h6 n6 S d):=by
  show _=_;rw[<- HDD.out];cases d with
  | zero=>rw[dNd,hkn,ht,hh6,hS,dNdE]
  | succ d=>rw[dNd,hkn,ht,hh6,hn6,hS,dNdE]
 have HN6':Hid (n6<256):=by show _<_;rw[<- hn6];exact(j23 b kn t).2.2
 rw[hkn,ht];clear hkn ht hh6 hn6 hS;rintro e w1 ⟨rfl,h1,kp1⟩;have hA1:Blk w1 w.heap.size [.int .i64 0,.int .i64 0,.float .f64 0,.string ⟨#[]⟩,.bool false,.int .i64 0,.int .i64 0,.int .i64 0,.bool false,.bool false,.int .i64 0,.int .i64 0,.bool false,.bool false,.slice none 0 0] 64:=HBA.out.kp kp1 (fun e=>HNe.out e);obtain⟨N,hN⟩:∃N,w1.heap.size=N:=⟨_,rfl⟩;obtain⟨w2,hw2⟩:∃w2,w1.alloc (.cells #[.int .i64 (kn:Nat),.int .i64 0,.float .f64 0,.string ⟨#[]⟩,.bool false,.int .i64 0,.int .i64 0,.int .i64 0,.bool false,.bool false,.int .i64 0,.int .i64 0,.bool false,.bool false,.slice none 0 0] 64)=w2:=⟨_,rfl⟩;have kp2:Kp w1 w2 Nul:=by rw[<- hw2];exact(Kp.refl w1 Nul).alloc _
 have HNv:Hid (¬N=r/\¬N=w.heap.size/\w.heap.size<=N):=by show ¬_/\¬_/\_;have:=h1.blk.lt;have:=hA1.lt;omega
 have HB2:Hid (NdS w w2 r w.heap.size N b { zHd with k:=(kn:Nat) } 0 t (.int .i64 0)):=⟨rfl,h1.kp kp2 (fun x=>x),hA1.kp kp2 (fun x=>x),(by rw[<- hw2,<- hN];exact Blk.new w1 _ _),(HK0.out.trans kp1).trans kp2.of_nul⟩;have HWv:Hid (w1.alloc (.cells #[.int .i64 (kn:Nat),.int .i64 0,.float .f64 0,.string ⟨#[]⟩,.bool false,.int .i64 0,.int .i64 0,.int .i64 0,.bool false,.bool false,.int .i64 0,.int .i64 0,.bool false,.bool false,.slice none 0 0] 64)=w2):=hw2;have l0:w2.cell? ⟨N,0,none⟩=some (.int .i64 (kn:Nat)):=HB2.out.nb.cell rfl;clear h1 kp1 HBA HR0 HW hA1 hw2 kp2 HK0;go_upto_block 0 with (first|(rw[HWv.out])|(rw[hN])|fail);go_cut[6] (fun v6 wz=>NdS w wz r w.heap.size N b h6 n6 S v6)
 case first=>
  have hkc:kn=1∨kn=2∨kn=3∨kn=4∨kn=5∨kn=6∨kn=7∨kn=8∨kn=9∨(¬kn=1/\¬kn=2/\¬kn=3/\¬kn=4/\¬kn=5/\¬kn=6/\¬kn=7/\¬kn=8/\¬kn=9):=by omega
  rcases hkc with rfl|rfl|rfl|rfl|rfl|rfl|rfl|rfl|rfl|⟨n1,n2,n3,n4,n5,m6,n7,n8,n9⟩
  ·rw[dFld,if_pos rfl] at HO1;go_wp2_with fail;refine(HDx.out t w2 HB2.out.rs).mono ?_;obtain⟨x,hx⟩:∃x,(dN b 8 t).1=x:=⟨_,rfl⟩;rw[hx] at HO1 ⊢;obtain⟨t3,ht3⟩:∃t3,(dN b 8 t).2=t3:=⟨_,rfl⟩;rw[ht3] at HO1 ⊢;rintro e w3 ⟨rfl,h3,kp3⟩;have hV3:Blk w3 N [.int .i64 ((1:Nat):Int),.int .i64 0,.float .f64 0,.string ⟨#[]⟩,.bool false,.int .i64 0,.int .i64 0,.int .i64 0,.bool false,.bool false,.int .i64 0,.int .i64 0,.bool false,.bool false,.slice none 0 0] 64:=HB2.out.nb.kp kp3 (fun e=>HNv.out.1 e);have hA3:Blk w3 w.heap.size [.int .i64 0,.int .i64 0,.float .f64 0,.string ⟨#[]⟩,.bool false,.int .i64 0,.int .i64 0,.int .i64 0,.bool false,.bool false,.int .i64 0,.int .i64 0,.bool false,.bool false,.slice none 0 0] 64:=HB2.out.za.kp kp3 (fun e=>HNe.out e);have c2:w3.cell? ⟨N,2,none⟩=some (.float .f64 0):=hV3.cell rfl;have f2:w3.frozen? ⟨N,2,none⟩=false:=hV3.froz 2
   have HE:Hid (NdS w (w3.setCell ⟨N,2,none⟩ (.float .f64 x)) r w.heap.size N b h6 n6 S (.int .i64 0)):=by
    refine⟨?_,?_,(hA3.other _ _ (fun e=>HNv.out.2.1 e.symm)),?_,((HB2.out.kp.trans kp3).setCell ⟨N,2,none⟩ _ (.inl HNv.out.2.2))⟩
    ·rw[<- HO1.out.1.2];rfl
    ·rw[<- HO1.out.2];exact⟨(h3.blk.other _ _ (fun e=>HNv.out.1 e.symm)),h3.le,h3.mx⟩
    ·rw[<- HO1.out.1.1];exact(hV3.set 2 _)
   clear h3 kp3 hV3 hA3 l0 ht3 hx;go_wp2_with fail;go_meet
   case rel=>exact HE.out
  ·rw[dFld,if_neg (by decide),if_pos rfl] at HO1;go_wp2_with fail;refine(HDs.out t w2 HB2.out.rs).mono ?_;obtain⟨x,hx⟩:∃x,(dTxt b t).1=x:=⟨_,rfl⟩;rw[hx] at HO1 ⊢;obtain⟨t3,ht3⟩:∃t3,(dTxt b t).2=t3:=⟨_,rfl⟩;rw[ht3] at HO1 ⊢;rintro e w3 ⟨rfl,h3,kp3⟩;have hV3:Blk w3 N [.int .i64 ((2:Nat):Int),.int .i64 0,.float .f64 0,.string ⟨#[]⟩,.bool false,.int .i64 0,.int .i64 0,.int .i64 0,.bool false,.bool false,.int .i64 0,.int .i64 0,.bool false,.bool false,.slice none 0 0] 64:=HB2.out.nb.kp kp3 (fun e=>HNv.out.1 e);have hA3:Blk w3 w.heap.size [.int .i64 0,.int .i64 0,.float .f64 0,.string ⟨#[]⟩,.bool false,.int .i64 0,.int .i64 0,.int .i64 0,.bool false,.bool false,.int .i64 0,.int .i64 0,.bool false,.bool false,.slice none 0 0] 64:=HB2.out.za.kp kp3 (fun e=>HNe.out e);have c3:w3.cell? ⟨N,3,none⟩=some (.string ⟨#[]⟩):=hV3.cell rfl;have f3:w3.frozen? ⟨N,3,none⟩=false:=hV3.froz 3
   have HE:Hid (NdS w (w3.setCell ⟨N,3,none⟩ (.string x)) r w.heap.size N b h6 n6 S (.int .i64 0)):=by
    refine⟨?_,?_,(hA3.other _ _ (fun e=>HNv.out.2.1 e.symm)),?_,((HB2.out.kp.trans kp3).setCell ⟨N,3,none⟩ _ (.inl HNv.out.2.2))⟩
    ·rw[<- HO1.out.1.2];rfl
    ·rw[<- HO1.out.2];exact⟨(h3.blk.other _ _ (fun e=>HNv.out.1 e.symm)),h3.le,h3.mx⟩
    ·rw[<- HO1.out.1.1];exact(hV3.set 3 _)
   clear h3 kp3 hV3 hA3 l0 ht3 hx;go_wp2_with fail;go_meet
   case rel=>exact HE.out
  ·rw[dFld,if_neg (by decide),if_neg (by decide),if_pos rfl] at HO1;go_wp2_with fail;refine(HDb.out t w2 HB2.out.rs).mono ?_;obtain⟨x,hx⟩:∃x,(dTr b t).1=x:=⟨_,rfl⟩;rw[hx] at HO1 ⊢;obtain⟨t3,ht3⟩:∃t3,(dTr b t).2=t3:=⟨_,rfl⟩;rw[ht3] at HO1 ⊢;rintro e w3 ⟨rfl,h3,kp3⟩;have hV3:Blk w3 N [.int .i64 ((3:Nat):Int),.int .i64 0,.float .f64 0,.string ⟨#[]⟩,.bool false,.int .i64 0,.int .i64 0,.int .i64 0,.bool false,.bool false,.int .i64 0,.int .i64 0,.bool false,.bool false,.slice none 0 0] 64:=HB2.out.nb.kp kp3 (fun e=>HNv.out.1 e);have hA3:Blk w3 w.heap.size [.int .i64 0,.int .i64 0,.float .f64 0,.string ⟨#[]⟩,.bool false,.int .i64 0,.int .i64 0,.int .i64 0,.bool false,.bool false,.int .i64 0,.int .i64 0,.bool false,.bool false,.slice none 0 0] 64:=HB2.out.za.kp kp3 (fun e=>HNe.out e);have c4:w3.cell? ⟨N,4,none⟩=some (.bool false):=hV3.cell rfl;have f4:w3.frozen? ⟨N,4,none⟩=false:=hV3.froz 4
   have HE:Hid (NdS w (w3.setCell ⟨N,4,none⟩ (.bool x)) r w.heap.size N b h6 n6 S (.int .i64 0)):=by
    refine⟨?_,?_,(hA3.other _ _ (fun e=>HNv.out.2.1 e.symm)),?_,((HB2.out.kp.trans kp3).setCell ⟨N,4,none⟩ _ (.inl HNv.out.2.2))⟩
    ·rw[<- HO1.out.1.2];rfl
    ·rw[<- HO1.out.2];exact⟨(h3.blk.other _ _ (fun e=>HNv.out.1 e.symm)),h3.le,h3.mx⟩
    ·rw[<- HO1.out.1.1];exact(hV3.set 4 _)
   clear h3 kp3 hV3 hA3 l0 ht3 hx;go_wp2_with fail;go_meet
   case rel=>exact HE.out
  ·rw[dFld,if_neg (by decide),if_neg (by decide),if_neg (by decide),if_pos rfl] at HO1;go_wp2_with fail;refine(HN.out t w2 HB2.out.rs).mono ?_;obtain⟨x,hx⟩:∃x,(dN b 1 t).1=x:=⟨_,rfl⟩;rw[hx] at HO1 ⊢;obtain⟨t3,ht3⟩:∃t3,(dN b 1 t).2=t3:=⟨_,rfl⟩;rw[ht3] at HO1 ⊢;rintro e w3 ⟨rfl,h3,kp3⟩;have hV3:Blk w3 N [.int .i64 ((4:Nat):Int),.int .i64 0,.float .f64 0,.string ⟨#[]⟩,.bool false,.int .i64 0,.int .i64 0,.int .i64 0,.bool false,.bool false,.int .i64 0,.int .i64 0,.bool false,.bool false,.slice none 0 0] 64:=HB2.out.nb.kp kp3 (fun e=>HNv.out.1 e);have hA3:Blk w3 w.heap.size [.int .i64 0,.int .i64 0,.float .f64 0,.string ⟨#[]⟩,.bool false,.int .i64 0,.int .i64 0,.int .i64 0,.bool false,.bool false,.int .i64 0,.int .i64 0,.bool false,.bool false,.slice none 0 0] 64:=HB2.out.za.kp kp3 (fun e=>HNe.out e);have c5:w3.cell? ⟨N,5,none⟩=some (.int .i64 0):=hV3.cell rfl
   have f5:w3.frozen? ⟨N,5,none⟩=false:=hV3.froz 5;have HE:Hid (NdS w (w3.setCell ⟨N,5,none⟩ (.int .i64 (x:Nat))) r w.heap.size N b h6 n6 S (.int .i64 0)):=by
    refine⟨?_,?_,(hA3.other _ _ (fun e=>HNv.out.2.1 e.symm)),?_,((HB2.out.kp.trans kp3).setCell ⟨N,5,none⟩ _ (.inl HNv.out.2.2))⟩
    ·rw[<- HO1.out.1.2];rfl
    ·rw[<- HO1.out.2];exact⟨(h3.blk.other _ _ (fun e=>HNv.out.1 e.symm)),h3.le,h3.mx⟩
    ·rw[<- HO1.out.1.1];exact(hV3.set 5 _)
   clear h3 kp3 hV3 hA3 l0 ht3 hx;go_wp2_with fail;go_meet
   case rel=>exact HE.out
  ·rw[dFld,if_neg (by decide),if_neg (by decide),if_neg (by decide),if_neg (by decide),if_pos rfl] at HO1;go_wp2_with fail;refine(HDr.out t w2 HB2.out.rs).mono ?_;obtain⟨⟨ra,rb,rc,rd⟩,hx⟩:∃x,(dRef b t).1=x:=⟨_,rfl⟩;rw[hx] at HO1 ⊢;simp only at HO1 ⊢;obtain⟨t3,ht3⟩:∃t3,(dRef b t).2=t3:=⟨_,rfl⟩;rw[ht3] at HO1 ⊢;rintro e w3 ⟨rfl,h3,kp3⟩;have hV3:Blk w3 N [.int .i64 ((5:Nat):Int),.int .i64 0,.float .f64 0,.string ⟨#[]⟩,.bool false,.int .i64 0,.int .i64 0,.int .i64 0,.bool false,.bool false,.int .i64 0,.int .i64 0,.bool false,.bool false,.slice none 0 0] 64:=HB2.out.nb.kp kp3 (fun e=>HNv.out.1 e);have hA3:Blk w3 w.heap.size [.int .i64 0,.int .i64 0,.float .f64 0,.string ⟨#[]⟩,.bool false,.int .i64 0,.int .i64 0,.int .i64 0,.bool false,.bool false,.int .i64 0,.int .i64 0,.bool false,.bool false,.slice none 0 0] 64:=HB2.out.za.kp kp3 (fun e=>HNe.out e)
   have c6:w3.cell? ⟨N,6,none⟩=some (.int .i64 0):=hV3.cell rfl;have f6:w3.frozen? ⟨N,6,none⟩=false:=hV3.froz 6;have c7:w3.cell? ⟨N,7,none⟩=some (.int .i64 0):=hV3.cell rfl;have f7:w3.frozen? ⟨N,7,none⟩=false:=hV3.froz 7;have c8:w3.cell? ⟨N,8,none⟩=some (.bool false):=hV3.cell rfl;have f8:w3.frozen? ⟨N,8,none⟩=false:=hV3.froz 8;have c9:w3.cell? ⟨N,9,none⟩=some (.bool false):=hV3.cell rfl;have f9:w3.frozen? ⟨N,9,none⟩=false:=hV3.froz 9;have HE:Hid (NdS w ((((w3.setCell ⟨N,6,none⟩ (.int .i64 (ra:Nat))).setCell ⟨N,7,none⟩ (.int .i64 (rb:Nat))).setCell ⟨N,8,none⟩ (.bool rc)).setCell ⟨N,9,none⟩ (.bool rd)) r w.heap.size N b h6 n6 S (.int .i64 0)):=by
    refine⟨?_,?_,((((hA3.other _ _ (fun e=>HNv.out.2.1 e.symm)).other _ _ (fun e=>HNv.out.2.1 e.symm)).other _ _ (fun e=>HNv.out.2.1 e.symm)).other _ _ (fun e=>HNv.out.2.1 e.symm)),?_,(((((HB2.out.kp.trans kp3).setCell ⟨N,6,none⟩ _ (.inl HNv.out.2.2)).setCell ⟨N,7,none⟩ _ (.inl HNv.out.2.2)).setCell ⟨N,8,none⟩ _ (.inl HNv.out.2.2)).setCell ⟨N,9,none⟩ _ (.inl HNv.out.2.2))⟩
    ·rw[<- HO1.out.1.2];rfl
    ·rw[<- HO1.out.2];exact⟨((((h3.blk.other _ _ (fun e=>HNv.out.1 e.symm)).other _ _ (fun e=>HNv.out.1 e.symm)).other _ _ (fun e=>HNv.out.1 e.symm)).other _ _ (fun e=>HNv.out.1 e.symm)),h3.le,h3.mx⟩
    ·rw[<- HO1.out.1.1];exact((((hV3.set 6 _).set 7 _).set 8 _).set 9 _)
   clear h3 kp3 hV3 hA3 l0 ht3 hx;go_wp2_with fail;go_meet
   case rel=>exact HE.out
  ·rw[dFld,if_neg (by decide),if_neg (by decide),if_neg (by decide),if_neg (by decide),if_neg (by decide),if_pos rfl] at HO1;go_wp2_with fail;refine(HDr.out t w2 HB2.out.rs).mono ?_;obtain⟨⟨ra,rb,rc,rd⟩,hx⟩:∃x,(dRef b t).1=x:=⟨_,rfl⟩;rw[hx] at HO1 ⊢;simp only at HO1 ⊢;obtain⟨t3,ht3⟩:∃t3,(dRef b t).2=t3:=⟨_,rfl⟩;rw[ht3] at HO1 ⊢;rintro e w3 ⟨rfl,h3,kp3⟩;have hV3:Blk w3 N [.int .i64 ((6:Nat):Int),.int .i64 0,.float .f64 0,.string ⟨#[]⟩,.bool false,.int .i64 0,.int .i64 0,.int .i64 0,.bool false,.bool false,.int .i64 0,.int .i64 0,.bool false,.bool false,.slice none 0 0] 64:=HB2.out.nb.kp kp3 (fun e=>HNv.out.1 e);have hA3:Blk w3 w.heap.size [.int .i64 0,.int .i64 0,.float .f64 0,.string ⟨#[]⟩,.bool false,.int .i64 0,.int .i64 0,.int .i64 0,.bool false,.bool false,.int .i64 0,.int .i64 0,.bool false,.bool false,.slice none 0 0] 64:=HB2.out.za.kp kp3 (fun e=>HNe.out e)
   have c6:w3.cell? ⟨N,6,none⟩=some (.int .i64 0):=hV3.cell rfl;have f6:w3.frozen? ⟨N,6,none⟩=false:=hV3.froz 6;have c7:w3.cell? ⟨N,7,none⟩=some (.int .i64 0):=hV3.cell rfl;have f7:w3.frozen? ⟨N,7,none⟩=false:=hV3.froz 7;have c8:w3.cell? ⟨N,8,none⟩=some (.bool false):=hV3.cell rfl;have f8:w3.frozen? ⟨N,8,none⟩=false:=hV3.froz 8;have c9:w3.cell? ⟨N,9,none⟩=some (.bool false):=hV3.cell rfl;have f9:w3.frozen? ⟨N,9,none⟩=false:=hV3.froz 9;obtain⟨X,hX⟩:∃X,((((w3.setCell ⟨N,6,none⟩ (.int .i64 (ra:Nat))).setCell ⟨N,7,none⟩ (.int .i64 (rb:Nat))).setCell ⟨N,8,none⟩ (.bool rc)).setCell ⟨N,9,none⟩ (.bool rd))=X:=⟨_,rfl⟩;have HXe:Hid (((((w3.setCell ⟨N,6,none⟩ (.int .i64 (ra:Nat))).setCell ⟨N,7,none⟩ (.int .i64 (rb:Nat))).setCell ⟨N,8,none⟩ (.bool rc)).setCell ⟨N,9,none⟩ (.bool rd))=X):=hX;have HRX:Hid (RS X r b t3):=by show RS _ _ _ _;rw[<- hX];exact⟨((((h3.blk.other _ _ (fun e=>HNv.out.1 e.symm)).other _ _ (fun e=>HNv.out.1 e.symm)).other _ _ (fun e=>HNv.out.1 e.symm)).other _ _ (fun e=>HNv.out.1 e.symm)),h3.le,h3.mx⟩
   have HAX:Hid (Blk X w.heap.size [.int .i64 0,.int .i64 0,.float .f64 0,.string ⟨#[]⟩,.bool false,.int .i64 0,.int .i64 0,.int .i64 0,.bool false,.bool false,.int .i64 0,.int .i64 0,.bool false,.bool false,.slice none 0 0] 64):=(by show Blk _ _ _ _;rw[<- hX];exact((((hA3.other _ _ (fun e=>HNv.out.2.1 e.symm)).other _ _ (fun e=>HNv.out.2.1 e.symm)).other _ _ (fun e=>HNv.out.2.1 e.symm)).other _ _ (fun e=>HNv.out.2.1 e.symm)));have HNX:Hid (Blk X N [.int .i64 ((6:Nat):Int),.int .i64 0,.float .f64 0,.string ⟨#[]⟩,.bool false,.int .i64 0,.int .i64 (ra:Nat),.int .i64 (rb:Nat),.bool rc,.bool rd,.int .i64 0,.int .i64 0,.bool false,.bool false,.slice none 0 0] 64):=(by show Blk _ _ _ _;rw[<- hX];exact((((hV3.set 6 _).set 7 _).set 8 _).set 9 _));have HKX:Hid (Kp w X (fun i=>i=r)):=by show Kp _ _ _;rw[<- hX];exact(((((HB2.out.kp.trans kp3).setCell ⟨N,6,none⟩ _ (.inl HNv.out.2.2)).setCell ⟨N,7,none⟩ _ (.inl HNv.out.2.2)).setCell ⟨N,8,none⟩ _ (.inl HNv.out.2.2)).setCell ⟨N,9,none⟩ _ (.inl HNv.out.2.2))
   clear h3 kp3 hV3 hA3 l0 ht3 hX hx;go_wp2_with (first|(rw[HXe.out])|fail);refine(HDr.out t3 X HRX.out).mono ?_;obtain⟨⟨sa,sb,sc,sd⟩,hy⟩:∃x,(dRef b t3).1=x:=⟨_,rfl⟩;rw[hy] at HO1 ⊢;simp only at HO1 ⊢;obtain⟨t5,ht5⟩:∃t5,(dRef b t3).2=t5:=⟨_,rfl⟩;rw[ht5] at HO1 ⊢;rintro e w5 ⟨rfl,h5,kp5⟩;have hV5:Blk w5 N [.int .i64 ((6:Nat):Int),.int .i64 0,.float .f64 0,.string ⟨#[]⟩,.bool false,.int .i64 0,.int .i64 (ra:Nat),.int .i64 (rb:Nat),.bool rc,.bool rd,.int .i64 0,.int .i64 0,.bool false,.bool false,.slice none 0 0] 64:=HNX.out.kp kp5 (fun e=>HNv.out.1 e);have hA5:Blk w5 w.heap.size [.int .i64 0,.int .i64 0,.float .f64 0,.string ⟨#[]⟩,.bool false,.int .i64 0,.int .i64 0,.int .i64 0,.bool false,.bool false,.int .i64 0,.int .i64 0,.bool false,.bool false,.slice none 0 0] 64:=HAX.out.kp kp5 (fun e=>HNe.out e);have c10:w5.cell? ⟨N,10,none⟩=some (.int .i64 0):=hV5.cell rfl
   have f10:w5.frozen? ⟨N,10,none⟩=false:=hV5.froz 10;have c11:w5.cell? ⟨N,11,none⟩=some (.int .i64 0):=hV5.cell rfl;have f11:w5.frozen? ⟨N,11,none⟩=false:=hV5.froz 11;have c12:w5.cell? ⟨N,12,none⟩=some (.bool false):=hV5.cell rfl;have f12:w5.frozen? ⟨N,12,none⟩=false:=hV5.froz 12;have c13:w5.cell? ⟨N,13,none⟩=some (.bool false):=hV5.cell rfl;have f13:w5.frozen? ⟨N,13,none⟩=false:=hV5.froz 13;have HE:Hid (NdS w ((((w5.setCell ⟨N,10,none⟩ (.int .i64 (sa:Nat))).setCell ⟨N,11,none⟩ (.int .i64 (sb:Nat))).setCell ⟨N,12,none⟩ (.bool sc)).setCell ⟨N,13,none⟩ (.bool sd)) r w.heap.size N b h6 n6 S (.int .i64 0)):=by
    refine⟨?_,?_,((((hA5.other _ _ (fun e=>HNv.out.2.1 e.symm)).other _ _ (fun e=>HNv.out.2.1 e.symm)).other _ _ (fun e=>HNv.out.2.1 e.symm)).other _ _ (fun e=>HNv.out.2.1 e.symm)),?_,(((((HKX.out.trans kp5).setCell ⟨N,10,none⟩ _ (.inl HNv.out.2.2)).setCell ⟨N,11,none⟩ _ (.inl HNv.out.2.2)).setCell ⟨N,12,none⟩ _ (.inl HNv.out.2.2)).setCell ⟨N,13,none⟩ _ (.inl HNv.out.2.2))⟩
    ·rw[<- HO1.out.1.2];rfl
    ·rw[<- HO1.out.2];exact⟨((((h5.blk.other _ _ (fun e=>HNv.out.1 e.symm)).other _ _ (fun e=>HNv.out.1 e.symm)).other _ _ (fun e=>HNv.out.1 e.symm)).other _ _ (fun e=>HNv.out.1 e.symm)),h5.le,h5.mx⟩
    ·rw[<- HO1.out.1.1];exact((((hV5.set 10 _).set 11 _).set 12 _).set 13 _)
   clear h5 kp5 hV5 hA5 ht5 hy;go_wp2_with fail;go_meet
   case rel=>exact HE.out
  ·rw[dFld,if_neg (by decide),if_neg (by decide),if_neg (by decide),if_neg (by decide),if_neg (by decide),if_neg (by decide),if_pos rfl] at HO1;go_wp2_with fail;refine(HN.out t w2 HB2.out.rs).mono ?_;obtain⟨x,hx⟩:∃x,(dN b 1 t).1=x:=⟨_,rfl⟩;rw[hx] at HO1 ⊢;obtain⟨t3,ht3⟩:∃t3,(dN b 1 t).2=t3:=⟨_,rfl⟩;rw[ht3] at HO1 ⊢;rintro e w3 ⟨rfl,h3,kp3⟩;have hV3:Blk w3 N [.int .i64 ((7:Nat):Int),.int .i64 0,.float .f64 0,.string ⟨#[]⟩,.bool false,.int .i64 0,.int .i64 0,.int .i64 0,.bool false,.bool false,.int .i64 0,.int .i64 0,.bool false,.bool false,.slice none 0 0] 64:=HB2.out.nb.kp kp3 (fun e=>HNv.out.1 e);have hA3:Blk w3 w.heap.size [.int .i64 0,.int .i64 0,.float .f64 0,.string ⟨#[]⟩,.bool false,.int .i64 0,.int .i64 0,.int .i64 0,.bool false,.bool false,.int .i64 0,.int .i64 0,.bool false,.bool false,.slice none 0 0] 64:=HB2.out.za.kp kp3 (fun e=>HNe.out e)
   have c1:w3.cell? ⟨N,1,none⟩=some (.int .i64 0):=hV3.cell rfl;have f1:w3.frozen? ⟨N,1,none⟩=false:=hV3.froz 1;have HE:Hid (NdS w (w3.setCell ⟨N,1,none⟩ (.int .i64 (x:Nat))) r w.heap.size N b h6 n6 S (.int .i64 1)):=by
    refine⟨?_,?_,(hA3.other _ _ (fun e=>HNv.out.2.1 e.symm)),?_,((HB2.out.kp.trans kp3).setCell ⟨N,1,none⟩ _ (.inl HNv.out.2.2))⟩
    ·rw[<- HO1.out.1.2];rfl
    ·rw[<- HO1.out.2];exact⟨(h3.blk.other _ _ (fun e=>HNv.out.1 e.symm)),h3.le,h3.mx⟩
    ·rw[<- HO1.out.1.1];exact(hV3.set 1 _)
   clear h3 kp3 hV3 hA3 l0 ht3 hx;go_wp2_with fail;go_meet
   case rel=>exact HE.out
  ·rw[dFld,if_neg (by decide),if_neg (by decide),if_neg (by decide),if_neg (by decide),if_neg (by decide),if_neg (by decide),if_neg (by decide),if_pos rfl] at HO1;go_wp2_with fail;refine(HN.out t w2 HB2.out.rs).mono ?_;obtain⟨x,hx⟩:∃x,(dN b 1 t).1=x:=⟨_,rfl⟩;rw[hx] at HO1 ⊢;obtain⟨t3,ht3⟩:∃t3,(dN b 1 t).2=t3:=⟨_,rfl⟩;rw[ht3] at HO1 ⊢;rintro e w3 ⟨rfl,h3,kp3⟩;have hV3:Blk w3 N [.int .i64 ((8:Nat):Int),.int .i64 0,.float .f64 0,.string ⟨#[]⟩,.bool false,.int .i64 0,.int .i64 0,.int .i64 0,.bool false,.bool false,.int .i64 0,.int .i64 0,.bool false,.bool false,.slice none 0 0] 64:=HB2.out.nb.kp kp3 (fun e=>HNv.out.1 e);have hA3:Blk w3 w.heap.size [.int .i64 0,.int .i64 0,.float .f64 0,.string ⟨#[]⟩,.bool false,.int .i64 0,.int .i64 0,.int .i64 0,.bool false,.bool false,.int .i64 0,.int .i64 0,.bool false,.bool false,.slice none 0 0] 64:=HB2.out.za.kp kp3 (fun e=>HNe.out e)
   have c1:w3.cell? ⟨N,1,none⟩=some (.int .i64 0):=hV3.cell rfl;have f1:w3.frozen? ⟨N,1,none⟩=false:=hV3.froz 1;have HE:Hid (NdS w (w3.setCell ⟨N,1,none⟩ (.int .i64 (x:Nat))) r w.heap.size N b h6 n6 S (.int .i64 2)):=by
    refine⟨?_,?_,(hA3.other _ _ (fun e=>HNv.out.2.1 e.symm)),?_,((HB2.out.kp.trans kp3).setCell ⟨N,1,none⟩ _ (.inl HNv.out.2.2))⟩
    ·rw[<- HO1.out.1.2];rfl
    ·rw[<- HO1.out.2];exact⟨(h3.blk.other _ _ (fun e=>HNv.out.1 e.symm)),h3.le,h3.mx⟩
    ·rw[<- HO1.out.1.1];exact(hV3.set 1 _)
   clear h3 kp3 hV3 hA3 l0 ht3 hx;go_wp2_with fail;go_meet
   case rel=>exact HE.out
  ·rw[dFld,if_neg (by decide),if_neg (by decide),if_neg (by decide),if_neg (by decide),if_neg (by decide),if_neg (by decide),if_neg (by decide),if_neg (by decide),if_pos rfl] at HO1;go_wp2_with fail;refine(HDs.out t w2 HB2.out.rs).mono ?_;obtain⟨x,hx⟩:∃x,(dTxt b t).1=x:=⟨_,rfl⟩;rw[hx] at HO1 ⊢;obtain⟨t3,ht3⟩:∃t3,(dTxt b t).2=t3:=⟨_,rfl⟩;rw[ht3] at HO1 ⊢;rintro e w3 ⟨rfl,h3,kp3⟩;have hV3:Blk w3 N [.int .i64 ((9:Nat):Int),.int .i64 0,.float .f64 0,.string ⟨#[]⟩,.bool false,.int .i64 0,.int .i64 0,.int .i64 0,.bool false,.bool false,.int .i64 0,.int .i64 0,.bool false,.bool false,.slice none 0 0] 64:=HB2.out.nb.kp kp3 (fun e=>HNv.out.1 e);have hA3:Blk w3 w.heap.size [.int .i64 0,.int .i64 0,.float .f64 0,.string ⟨#[]⟩,.bool false,.int .i64 0,.int .i64 0,.int .i64 0,.bool false,.bool false,.int .i64 0,.int .i64 0,.bool false,.bool false,.slice none 0 0] 64:=HB2.out.za.kp kp3 (fun e=>HNe.out e)
   have c3:w3.cell? ⟨N,3,none⟩=some (.string ⟨#[]⟩):=hV3.cell rfl;have f3:w3.frozen? ⟨N,3,none⟩=false:=hV3.froz 3;obtain⟨X,hX⟩:∃X,(w3.setCell ⟨N,3,none⟩ (.string x))=X:=⟨_,rfl⟩;have HXe:Hid ((w3.setCell ⟨N,3,none⟩ (.string x))=X):=hX;have HRX:Hid (RS X r b t3):=(by show RS _ _ _ _;rw[<- hX];exact⟨(h3.blk.other _ _ (fun e=>HNv.out.1 e.symm)),h3.le,h3.mx⟩);have HAX:Hid (Blk X w.heap.size [.int .i64 0,.int .i64 0,.float .f64 0,.string ⟨#[]⟩,.bool false,.int .i64 0,.int .i64 0,.int .i64 0,.bool false,.bool false,.int .i64 0,.int .i64 0,.bool false,.bool false,.slice none 0 0] 64):=(by show Blk _ _ _ _;rw[<- hX];exact(hA3.other _ _ (fun e=>HNv.out.2.1 e.symm)));have HNX:Hid (Blk X N [.int .i64 ((9:Nat):Int),.int .i64 0,.float .f64 0,.string x,.bool false,.int .i64 0,.int .i64 0,.int .i64 0,.bool false,.bool false,.int .i64 0,.int .i64 0,.bool false,.bool false,.slice none 0 0] 64):=by show Blk _ _ _ _;rw[<- hX];exact(hV3.set 3 _)
   have HKX:Hid (Kp w X (fun i=>i=r)):=(by show Kp _ _ _;rw[<- hX];exact((HB2.out.kp.trans kp3).setCell ⟨N,3,none⟩ _ (.inl HNv.out.2.2)));clear h3 kp3 hV3 hA3 l0 ht3 hX hx;go_wp2_with (first|(rw[HXe.out])|fail);refine(HN.out t3 X HRX.out).mono ?_;obtain⟨y,hy⟩:∃y,(dN b 1 t3).1=y:=⟨_,rfl⟩;rw[hy] at HO1 ⊢;obtain⟨t5,ht5⟩:∃t5,(dN b 1 t3).2=t5:=⟨_,rfl⟩;rw[ht5] at HO1 ⊢;rintro e w5 ⟨rfl,h5,kp5⟩;have hV5:Blk w5 N [.int .i64 ((9:Nat):Int),.int .i64 0,.float .f64 0,.string x,.bool false,.int .i64 0,.int .i64 0,.int .i64 0,.bool false,.bool false,.int .i64 0,.int .i64 0,.bool false,.bool false,.slice none 0 0] 64:=HNX.out.kp kp5 (fun e=>HNv.out.1 e);have hA5:Blk w5 w.heap.size [.int .i64 0,.int .i64 0,.float .f64 0,.string ⟨#[]⟩,.bool false,.int .i64 0,.int .i64 0,.int .i64 0,.bool false,.bool false,.int .i64 0,.int .i64 0,.bool false,.bool false,.slice none 0 0] 64:=HAX.out.kp kp5 (fun e=>HNe.out e)
   have HE:Hid (NdS w w5 r w.heap.size N b h6 n6 S (.int .i64 (y:Nat))):=by
    refine⟨?_,?_,hA5,?_,(HKX.out.trans kp5)⟩
    ·rw[<- HO1.out.1.2]
    ·rw[<- HO1.out.2];exact⟨h5.blk,h5.le,h5.mx⟩
    ·rw[<- HO1.out.1.1];exact hV5
   clear h5 kp5 hV5 hA5 ht5 hy;go_wp2_with fail;go_meet
   case rel=>exact HE.out
  ·rw[dFld,if_neg n1,if_neg n2,if_neg n3,if_neg n4,if_neg n5,if_neg m6,if_neg n7,if_neg n8,if_neg n9] at HO1;have q1:¬(kn:Int)=1:=(by omega);have q2:¬(kn:Int)=2:=(by omega);have q3:¬(kn:Int)=3:=(by omega);have q4:¬(kn:Int)=4:=(by omega);have q5:¬(kn:Int)=5:=(by omega);have q6:¬(kn:Int)=6:=(by omega);have q7:¬(kn:Int)=7:=(by omega);have q8:¬(kn:Int)=8:=(by omega);have q9:¬(kn:Int)=9:=(by omega);have c2:w2.cell? ⟨r,2,none⟩=some (.bool t.2):=HB2.out.rs.blk.cell rfl;have f2:w2.frozen? ⟨r,2,none⟩=false:=HB2.out.rs.blk.froz 2;have HE:Hid (NdS w (w2.setCell ⟨r,2,none⟩ (.bool true)) r w.heap.size N b h6 n6 S (.int .i64 0)):=by
    refine⟨?_,?_,HB2.out.za.other _ _ (fun e=>HNe.out e),?_,HB2.out.kp.setCell _ _ (.inr rfl)⟩
    ·rw[<- HO1.out.1.2];rfl
    ·rw[<- HO1.out.2];exact⟨HB2.out.rs.blk.set 2 (.bool true),HB2.out.rs.le,HB2.out.rs.mx⟩
    ·rw[<- HO1.out.1.1];exact HB2.out.nb.other _ _ (fun e=>HNv.out.1 e)
   clear n1 n2 n3 n4 n5 m6 n7 n8 n9 HN HDx HDs HDb HDr;go_wp2_with fail;go_meet
   case rel=>exact HE.out
 case rest=>
  have HC0:Hid (NdS w wc r w.heap.size N b h6 n6 S u6):=hcut;obtain⟨hcnt,hrs,hza,hnb,hkp⟩:=hcut;subst hcnt;clear HN HDx HDs HDb HDr l0 HB2 HO1 HWv;have c2:wc.cell? ⟨r,2,none⟩=some (.bool S.2):=hrs.blk.cell rfl;have f2:wc.frozen? ⟨r,2,none⟩=false:=hrs.blk.froz 2;obtain⟨hd1,hd2⟩:=HD32.out;clear HDD;cases d with
  | zero=>
   have HDE:Hid (D=(.mk h6 [],(S.1,true))):=HDN.out;have hdp:dp=33:=(by omega);subst hdp;have HD0:Hid (DnS w (wc.setCell ⟨r,2,none⟩ (.bool true)) r w.heap.size N b h6 [] (S.1,true) (.slice none 0 0) []):=⟨⟨hrs.blk.set 2 (.bool true),hrs.le,hrs.mx⟩,hza.other _ _ (fun e=>HNe.out e),hnb.other _ _ (fun e=>HNv.out.1 e),Own.nil _ _ _,hkp.setCell _ _ (.inr rfl)⟩;clear hrs hza hnb hkp HIH HD32 hd1 hd2 HC0 HDN;go_wp2_with fail;go_loopw[7] (fun i wr=>i=.int .i64 0/\∃v fp,DnS w wr r w.heap.size N b h6 [] (S.1,true) v fp) (fun _ _=>0)
   case atStart=>exact⟨rfl,_,_,HD0.out⟩
   case round=>
    obtain⟨rfl,v,fp,hat⟩:=hrel;have c2:wr.cell? ⟨r,2,none⟩=some (.bool true):=hat.rs.blk.cell rfl;by_cases hqn:(0:Int)<(n6:Int)
    ·have R3:Hid (wr.rangeAt N 0 (h6.cells v)):=(fun j u hj=>by rw[Nat.zero_add];exact hat.nb.cell hj);have HZ:Hid (Blk wr w.heap.size [.int .i64 0,.int .i64 0,.float .f64 0,.string ⟨#[]⟩,.bool false,.int .i64 0,.int .i64 0,.int .i64 0,.bool false,.bool false,.int .i64 0,.int .i64 0,.bool false,.bool false,.slice none 0 0] 64):=hat.za;have O1:Hid (v.oneCell'=true):=hat.own.own.one;have HFin:Hid (∀Y,Kp wr Y (fun i=>i=w.heap.size)->∃sl fp,Ending.returned (Value.agg (h6.cells v).toArray)=.returned (D.1.hd.val sl)/\Own Y w.heap.size sl D.1 fp/\RS Y r b D.2/\Kp w Y (fun i=>i=r)):=fun Y hk=>by
      rw[HDE.out];refine⟨v,fp,rfl,(hat.own.kp hk (fun x hx e=>by have e':x=w.heap.size:=e;have:=(hat.own.new x hx).1;have:=HNv.out;omega)).le (by have:=HNv.out;omega),hat.rs.kp hk (fun e=>HNe.out e.symm),hat.kp.trans' hk (fun i hi e=>by have e':i=w.heap.size:=e;omega)⟩
     clear hat HDE HD0 HRA;go_wp2_with (first
      | (refine wpList_load_mid rfl 64 (.tmp 5) rfl N 0 rfl (h6.cells v) _ R3.out Tryz.underlying64 rfl z6 ?_)
      | (refine G6 rfl 64 (.tmp 4) (.tmp 92) rfl w.heap.size [.int .i64 0,.int .i64 0,.float .f64 0,.string ⟨#[]⟩,.bool false,.int .i64 0,.int .i64 0,.int .i64 0,.bool false,.bool false,.int .i64 0,.int .i64 0,.bool false,.bool false,.slice none 0 0] (h6.cells v) 64 HZ.out rfl rfl rfl z6 (h6.one O1.out) ?_;intro Y hbY hkY)
      | fail)
     refine bodyPost_ret (results_cell_row rfl _ _ w.heap.size 64 _ (0,0) _ rfl hbY Tryz.underlying64 rfl z6) rfl ?_;first|exact HFin.out Y hkY|(obtain⟨sl,fp,a1,a2,a3,a4⟩:=HFin.out Y hkY;exact⟨sl,a1,⟨fp,a2⟩,a3,a4⟩)
    ·have R3:Hid (wr.rangeAt N 0 (h6.cells v)):=(fun j u hj=>by rw[Nat.zero_add];exact hat.nb.cell hj);have HZ:Hid (Blk wr w.heap.size [.int .i64 0,.int .i64 0,.float .f64 0,.string ⟨#[]⟩,.bool false,.int .i64 0,.int .i64 0,.int .i64 0,.bool false,.bool false,.int .i64 0,.int .i64 0,.bool false,.bool false,.slice none 0 0] 64):=hat.za;have O1:Hid (v.oneCell'=true):=hat.own.own.one;have HFin:Hid (∀Y,Kp wr Y (fun i=>i=w.heap.size)->∃sl fp,Ending.returned (Value.agg (h6.cells v).toArray)=.returned (D.1.hd.val sl)/\Own Y w.heap.size sl D.1 fp/\RS Y r b D.2/\Kp w Y (fun i=>i=r)):=fun Y hk=>by
      rw[HDE.out];refine⟨v,fp,rfl,(hat.own.kp hk (fun x hx e=>by have e':x=w.heap.size:=e;have:=(hat.own.new x hx).1;have:=HNv.out;omega)).le (by have:=HNv.out;omega),hat.rs.kp hk (fun e=>HNe.out e.symm),hat.kp.trans' hk (fun i hi e=>by have e':i=w.heap.size:=e;omega)⟩
     clear hat HDE HD0 HRA;go_wp2_with (first
      | (refine wpList_load_mid rfl 64 (.tmp 5) rfl N 0 rfl (h6.cells v) _ R3.out Tryz.underlying64 rfl z6 ?_)
      | (refine G6 rfl 64 (.tmp 4) (.tmp 92) rfl w.heap.size [.int .i64 0,.int .i64 0,.float .f64 0,.string ⟨#[]⟩,.bool false,.int .i64 0,.int .i64 0,.int .i64 0,.bool false,.bool false,.int .i64 0,.int .i64 0,.bool false,.bool false,.slice none 0 0] (h6.cells v) 64 HZ.out rfl rfl rfl z6 (h6.one O1.out) ?_;intro Y hbY hkY)
      | fail)
     refine bodyPost_ret (results_cell_row rfl _ _ w.heap.size 64 _ (0,0) _ rfl hbY Tryz.underlying64 rfl z6) rfl ?_;first|exact HFin.out Y hkY|(obtain⟨sl,fp,a1,a2,a3,a4⟩:=HFin.out Y hkY;exact⟨sl,a1,⟨fp,a2⟩,a3,a4⟩)
  | succ d=>
   have HDE:Hid (D=(.mk h6 (D4 (dNd b d) n6 S).1,(D4 (dNd b d) n6 S).2)):=HDN.out;have hg:¬(32:Int)<(dp:Int):=(by omega);have HCL:Hid (∀(s:Sd) (w:World),RS w r b s->Calls Tryz.prog 87 #[.pointer (some ⟨r,0,none⟩),.int .i64 ((dp:Int)+1)] w fun e w'=>∃sl fp,e=.returned ((dNd b d s).1.hd.val sl)/\Own w' w.heap.size sl (dNd b d s).1 fp/\RS w' r b (dNd b d s).2/\Kp w w' (fun i=>i=r)):=fun s w h=>by
    have:=HIH.out d rfl s w h;rw[show ((33-d:Nat):Int)=(dp:Int)+1 by omega] at this;exact this
   have HDP:Hid (dp<=32):=(by show _<=_;omega);have HN6:Hid (n6<256):=HN6'.out;obtain⟨R,hR⟩:∃R,dNd b d=R:=⟨_,rfl⟩;rw[hR] at HCL HDE;have HD0:Hid (DnS w wc r w.heap.size N b h6 (D4 R 0 S).1 (D4 R 0 S).2 (.slice none 0 0) []):=⟨hrs,hza,hnb,Own.nil _ _ _,hkp⟩;clear hrs hza hnb hkp c2 f2 HIH HD32 hd1 hd2 HC0 HDN hR;go_wp2_with fail;go_loopw[7] (fun i wr=>∃(q:Nat) (v:Value) (fp:List Nat),q<=n6/\i=.int .i64 q/\DnS w wr r w.heap.size N b h6 (D4 R q S).1 (D4 R q S).2 v fp/\((D4 R q S).2.2=false->(D4 R q S).1.length=q)) (fun i _=>n6-(RowKit.intOf i).toNat)
   case atStart=>exact⟨0,.slice none 0 0,[],Nat.zero_le _,rfl,HD0.out,fun _=>rfl⟩
   case round=>
    obtain⟨q,v,fp,hq,rfl,hat,hln⟩:=hrel;have c2:wr.cell? ⟨r,2,none⟩=some (.bool (D4 R q S).2.2):=hat.rs.blk.cell rfl;by_cases hlt:q<n6
    ·cases hb:(D4 R q S).2.2 with
     | true=>
      rw[hb] at c2;have hqn:(q:Int)<(n6:Int):=(by omega);have HALL:D4 R n6 S=D4 R q S:=j93 hb n6 hq;have R3:Hid (wr.rangeAt N 0 (h6.cells v)):=(fun j u hj=>by rw[Nat.zero_add];exact hat.nb.cell hj);have HZ:Hid (Blk wr w.heap.size [.int .i64 0,.int .i64 0,.float .f64 0,.string ⟨#[]⟩,.bool false,.int .i64 0,.int .i64 0,.int .i64 0,.bool false,.bool false,.int .i64 0,.int .i64 0,.bool false,.bool false,.slice none 0 0] 64):=hat.za;have O1:Hid (v.oneCell'=true):=hat.own.own.one;have HFin:Hid (∀Y,Kp wr Y (fun i=>i=w.heap.size)->∃sl fp,Ending.returned (Value.agg (h6.cells v).toArray)=.returned (D.1.hd.val sl)/\Own Y w.heap.size sl D.1 fp/\RS Y r b D.2/\Kp w Y (fun i=>i=r)):=fun Y hk=>by
       rw[HDE.out,HALL];refine⟨v,fp,rfl,(hat.own.kp hk (fun x hx e=>by have e':x=w.heap.size:=e;have:=(hat.own.new x hx).1;have:=HNv.out;omega)).le (by have:=HNv.out;omega),hat.rs.kp hk (fun e=>HNe.out e.symm),hat.kp.trans' hk (fun i hi e=>by have e':i=w.heap.size:=e;omega)⟩
      clear hat HALL hln HCL HDE HD0 HRA;go_wp2_with (first
       | (refine wpList_load_mid rfl 64 (.tmp 5) rfl N 0 rfl (h6.cells v) _ R3.out Tryz.underlying64 rfl z6 ?_)
       | (refine G6 rfl 64 (.tmp 4) (.tmp 92) rfl w.heap.size [.int .i64 0,.int .i64 0,.float .f64 0,.string ⟨#[]⟩,.bool false,.int .i64 0,.int .i64 0,.int .i64 0,.bool false,.bool false,.int .i64 0,.int .i64 0,.bool false,.bool false,.slice none 0 0] (h6.cells v) 64 HZ.out rfl rfl rfl z6 (h6.one O1.out) ?_;intro Y hbY hkY)
       | fail)
      refine bodyPost_ret (results_cell_row rfl _ _ w.heap.size 64 _ (0,0) _ rfl hbY Tryz.underlying64 rfl z6) rfl ?_;first|exact HFin.out Y hkY|(obtain⟨sl,fp,a1,a2,a3,a4⟩:=HFin.out Y hkY;exact⟨sl,a1,⟨fp,a2⟩,a3,a4⟩)
     | false=>
      rw[hb] at c2;obtain⟨pv,lv,cv,rfl⟩:=j1G hat.own.own;obtain⟨xs,hxs⟩:=hat.own.row;have hul:Hid ((D4 R q S).1.length=q):=hln hb;have HS:Hid (∀wq,Kp wr wq (fun i=>i=r∨N<i)->wq.cell? ⟨N,14,none⟩=some (.slice pv lv cv)):=(fun wq hk=>(hat.nb.kp hk (fun e=>by rcases e with e|e;exact HNv.out.1 e;exact absurd e (Nat.lt_irrefl _))).cell rfl);have HST:Hid (D4 R (q+1) S=((D4 R q S).1++[(R (D4 R q S).2).1],(R (D4 R q S).2).2)):=(by show _=_;rw[D4,if_neg (by rw[hb];exact Bool.false_ne_true)]);have HC:=HCL.out (D4 R q S).2;have HRSq:Hid (RS wr r b (D4 R q S).2):=hat.rs;generalize hmq:D4 R q S=mq at *;generalize hRq:R mq.2=rq at *;obtain⟨us,sq⟩:=mq;obtain⟨u,sn⟩:=rq;simp only at hat hul HST HC HRSq hxs c2 hb;have AT:Hid (DnS w wr r w.heap.size N b h6 us sq (.slice pv lv cv) fp):=hat;have HX3:Hid (∀w2,Kp wr w2 (fun i=>i=r)->w2.ownsRow (N+1) 64 15 (.slice pv lv cv) us.length xs):=fun w2 h2=>j0I hxs (Nat.le_refl _) h2 (by have:=HRA.out;have:=HNv.out;omega)
      have hwd:IntKind.i64.wrap ((dp:Int)+1)=(dp:Int)+1:=(by rw[IntKind.wrap_i64];have:=HDP.out;omega);have HCx:Hid (∀w,RS w r b sq->Calls Tryz.prog 87 #[.pointer (some ⟨r,0,none⟩),.int .i64 (IntKind.i64.wrap ((dp:Int)+1))] w fun e w'=>∃sl fp,e=.returned (u.hd.val sl)/\Own w' w.heap.size sl u fp/\RS w' r b sn/\Kp w w' (fun i=>i=r)):=(fun w h=>by rw[hwd];exact HC w h);have hqn:(q:Int)<(n6:Int):=(by omega);have hq0:(0:Int)<=(q:Int):=(by omega);have hkb:(q:Int)+1<=9223372036854775807:=(by have:=HN6.out;omega);have hdb:(dp:Int)+1<=9223372036854775807:=(by have:=HDP.out;omega);have hwr:N<wr.heap.size:=hat.nb.lt;obtain⟨i0,hi,hz0,hz1,hz2⟩:=j1A;clear hat hxs HC HCL HD0 hln hmq hRq hwd;go_wp2_with fail;refine wp_region_noPanic ?_;refine j3H (fun w':World=>Kp wr w' (fun i=>i=r∨N<i)) 9 (by kernel_rfl) ((Kp.refl _ _).drew) (fun hHeld=>?_);refine I4 (i:=0) (v:=?_) (some 83) rfl rfl (by kernel_rfl) (fun _ _ _ h=>h) (Or.inl ⟨by rfl,?_⟩) hHeld ?_
      rotate_left
      ·intro w' hSw;have s0:=HS.out _ hSw;clear hSw;go_simp;try with_reducible rfl
      simp only[Act.put,Sz0,Sz1,Sz2];refine I4 (i:=1) (v:=?_) (some 84) rfl rfl (by kernel_rfl) (fun _ _ _ h=>h) (Or.inl ⟨by rfl,?_⟩) hHeld ?_;rotate_left
      ·intro w' hSw;have s0:=HS.out _ hSw;clear hSw;go_simp;try with_reducible rfl
      simp only[Act.put,Sz0,Sz1,Sz2];refine I4 (i:=2) (v:=?_) (some 85) rfl rfl (by kernel_rfl) (fun _ _ _ h=>h) (Or.inl ⟨by rfl,?_⟩) hHeld ?_;rotate_left
      ·intro w' hSw;have s0:=HS.out _ hSw;clear hSw;go_simp;try with_reducible rfl
      simp only[Act.put,Sz0,Sz1,Sz2];refine I4 (i:=3) (v:=?_) (some 86) rfl rfl (by kernel_rfl) (fun _ _ _ h=>h) (Or.inl ⟨by rfl,?_⟩) hHeld ?_;rotate_left
      ·intro w' hSw;have s0:=HS.out _ hSw;clear hSw;go_simp;try with_reducible rfl
      simp only[Act.put,Sz0,Sz1,Sz2];refine I4 (i:=4) (v:=?_) (some 87) rfl rfl (by kernel_rfl) (fun _ _ _ h=>h) (Or.inl ⟨by rfl,?_⟩) hHeld ?_;rotate_left
      ·intro w' hSw;have s0:=HS.out _ hSw;clear hSw;go_simp;try with_reducible rfl
      simp only[Act.put,Sz0,Sz1,Sz2];refine J9 (i:=5) (by kernel_rfl) rfl rfl (fun K hK=>?_);go_simp;refine(HCx.out _ (HRSq.out.kp ((Kp.refl wr Nul).drew) (fun x=>x))).mono ?_;rintro e w2 ⟨su,fu,rfl,hown,hrs2,hk2⟩;have hb2:Kp wr w2 (fun i=>i=r):=((Kp.refl wr (fun i=>i=r)).drew).trans hk2;have HB2:Hid (Kp wr w2 (fun i=>i=r)):=hb2;have HU:Hid (Own w2 wr.heap.size su u fu):=hown;have HRS2:Hid (RS w2 r b sn):=hrs2;refine hK.out _ _ (fun _=>hb2.mono (fun i _ e=>.inl e)) (fun _=>?_);clear hK K hHeld hown hk2 hrs2 HCx HS HRSq;refine J9 (i:=6) (by kernel_rfl) rfl rfl (fun K hK=>?_);go_simp;refine hK.out _ _ (fun _=>(HB2.out.mono (fun i _ e=>.inl e)).alloc _) (fun _=>?_);clear hK K;refine J9 (i:=7) (by kernel_rfl) rfl rfl (fun K hK=>?_);refine Z5 _ (.tmp 84) (.tmp 89) 62 rfl (N+1) 64 i0 _ 15 128 Tryz.underlying62 hi hz0 hz1 hz2 rfl (by decide) (.slice pv lv cv) us.length xs rfl ((HX3.out w2 HB2.out).alloc _) ⟨w2.heap.size,0,none⟩ 1 1 (u.hd.cells su) rfl rfl ?c1 ?c2 (by decide) ?c3 ?c4 ?c5 ?_
      case c1=>
       intro j u' hj;rw[Q0,Nat.zero_add];exact(Blk.new w2 (u.hd.cells su) 64).cell hj
      case c2=>exact j0a u.hd HU.out.own.one
      case c3=>rw[hul.out];unfold maxLen;omega
      case c4=>rw[hul.out];have:=HN6.out;omega
      case c5=>have:=HB2.out.size;simp[World.size_alloc];omega
      intro g c' w4 ho hgr ht;obtain⟨k4,n4,fp',hat5⟩:=AT.out.step ⟨HRA.out,Nat.le_refl _,by have:=HNv.out;omega⟩ HB2.out HRS2.out HU.out (HX3.out w2 HB2.out) ho hgr ht;have A5:Hid (DnS w _ _ _ _ _ _ _ _ _ fp'):=hat5;refine hK.out _ _ (fun _=>k4) (fun hHeld=>?_);have f3:w4.frozen? ⟨N,14,none⟩=false:=n4.froz _;have c3:w4.cell? ⟨N,14,none⟩=some (.slice pv lv cv):=n4.cell rfl;clear hK K hat5 ho hgr ht k4 n4 hb2;simp only[Act.put,List.setIfInBounds_toArray];refine J9 (i:=8) (by kernel_rfl) rfl rfl (fun K hK=>?_);go_simp;refine hK.out _ _ (fun _=>hHeld (by decide)) (fun _=>?_);clear hK K;refine J9 (i:=9) (by kernel_rfl) rfl rfl (fun K hK=>?_);go_simp;refine hK.out _ _ (fun h=>absurd rfl h) (fun _=>?_);clear hK K hHeld c3 f3;refine j3A (by kernel_rfl) ?_;refine NoPanic.normal ?_;go_wp2_with fail;go_roundw
      case rel=>exact⟨q+1,_,fp',by omega,by go_num,by rw[HST.out];exact A5.out,fun _=>by rw[HST.out];show (us++[u]).length=_;rw[List.length_append,hul.out];rfl⟩
      case measure=>simp only[RowKit.intOf];omega
    ·have hqe:q=n6:=(by omega);subst hqe;have hqn:¬((q:Int)<(q:Int)):=(by omega);have HALL:D4 R q S=D4 R q S:=rfl;have R3:Hid (wr.rangeAt N 0 (h6.cells v)):=(fun j u hj=>by rw[Nat.zero_add];exact hat.nb.cell hj);have HZ:Hid (Blk wr w.heap.size [.int .i64 0,.int .i64 0,.float .f64 0,.string ⟨#[]⟩,.bool false,.int .i64 0,.int .i64 0,.int .i64 0,.bool false,.bool false,.int .i64 0,.int .i64 0,.bool false,.bool false,.slice none 0 0] 64):=hat.za;have O1:Hid (v.oneCell'=true):=hat.own.own.one;have HFin:Hid (∀Y,Kp wr Y (fun i=>i=w.heap.size)->∃sl fp,Ending.returned (Value.agg (h6.cells v).toArray)=.returned (D.1.hd.val sl)/\Own Y w.heap.size sl D.1 fp/\RS Y r b D.2/\Kp w Y (fun i=>i=r)):=fun Y hk=>by
      rw[HDE.out,HALL];refine⟨v,fp,rfl,(hat.own.kp hk (fun x hx e=>by have e':x=w.heap.size:=e;have:=(hat.own.new x hx).1;have:=HNv.out;omega)).le (by have:=HNv.out;omega),hat.rs.kp hk (fun e=>HNe.out e.symm),hat.kp.trans' hk (fun i hi e=>by have e':i=w.heap.size:=e;omega)⟩
     clear hat HALL hln HCL HDE HD0 HRA;go_wp2_with (first
      | (refine wpList_load_mid rfl 64 (.tmp 5) rfl N 0 rfl (h6.cells v) _ R3.out Tryz.underlying64 rfl z6 ?_)
      | (refine G6 rfl 64 (.tmp 4) (.tmp 92) rfl w.heap.size [.int .i64 0,.int .i64 0,.float .f64 0,.string ⟨#[]⟩,.bool false,.int .i64 0,.int .i64 0,.int .i64 0,.bool false,.bool false,.int .i64 0,.int .i64 0,.bool false,.bool false,.slice none 0 0] (h6.cells v) 64 HZ.out rfl rfl rfl z6 (h6.one O1.out) ?_;intro Y hbY hkY)
      | fail)
     refine bodyPost_ret (results_cell_row rfl _ _ w.heap.size 64 _ (0,0) _ rfl hbY Tryz.underlying64 rfl z6) rfl ?_;first|exact HFin.out Y hkY|(obtain⟨sl,fp,a1,a2,a3,a4⟩:=HFin.out Y hkY;exact⟨sl,a1,⟨fp,a2⟩,a3,a4⟩)
end
section
open Go.RowKit
theorem j5c (r:Nat)(b:List UInt8):∀(d:Nat) (s:Sd) (w:World),d<=32->RS w r b s ->
 Calls Tryz.prog 87 #[.pointer (some ⟨r,0,none⟩),.int .i64 ((33-d:Nat):Int)] w fun e w'=>∃sl fp,e=.returned ((dNd b d s).1.hd.val sl)/\Own w' w.heap.size sl (dNd b d s).1 fp/\RS w' r b (dNd b d s).2/\Kp w w' (fun i=>i=r)
 | 0,s,w,hd,h=>j5b r b 0 (fun d' e=>absurd e (by omega)) s w hd h
 | d+1,s,w,hd,h=>j5b r b (d+1) (fun d' e s w h=>by
  have e':d'=d:=by omega
  subst e';exact j5c r b d' s w (by omega) h) s w hd h
end
section
open Go.RowKit Go.Maps Go.Sort Go.Lib Go.Shelf
structure Two (w:World) (B g r:Nat) (L Kd:List Cc) (v:Value) (ys:List (Cc×Value)):Prop where
 gi:j9 w (fun i=>B<=i/\i≠r) g L
 ok:Ok17 L
 al:Al L Kd
 dg:DG w B r v ys
 ks:ys.map (·.1)=Kd
inductive RuP (w:World) (er:Nat):Option (List Cc)->Ending->World->Prop
 | ok {K:List Cc} {r:Nat} {v:Value} {ys:List (Cc×Value)} {w':World} (dg:DG w' w.heap.size r v ys) (ks:ys.map (·.1)=K) (low:w.heap.size<=r) (kp:Kp w w' Nul):RuP w er (some K) (.returned (.tuple #[.pointer (some ⟨r,0,none⟩),.int .i64 er])) w'
 | no {w':World} (kp:Kp w w' Nul):RuP w er none (.returned (.tuple #[.pointer none,.int .i64 er])) w'
theorem RuP.fin {w w':World}{er:Nat}{o:Option (List Cc)}(h:o=none)(kp:Kp w w' Nul):RuP w er o (.returned (.tuple #[.pointer none,.int .i64 er])) w':=by rw[h];exact .no kp
theorem jBA {w:World}{r o:Nat}{xs:List Value}{t:TypeId}{h:Hd}{sl:Value}(hb:Blk w r xs t)(hx:xs.length<15)(hr:w.rangeAt r o (h.cells sl)):False:=by
 have hc:w.cell? ⟨r,o+14,none⟩=some sl:=hr 14 sl rfl;have e:=cell_of_row w r (o+14) _ _ _ hb;rw[hc] at e;have:(xs.toArray)[o+14]? = none:=Array.getElem?_eq_none (by simp;omega);rw[this] at e;cases e
theorem DG.far {w w':World}{B r a:Nat}{v:Value}{ys:List (Cc×Value)}{xs:List Value}{t:TypeId}(h:DG w B r v ys)(hb:Blk w a xs t)(hx:xs.length<15)(hk:Kp w w' (fun i=>i=a))(hr:r≠a)(ha:a<B):DG w' B r v ys:=by
 refine⟨h.box.kp hk (fun e=>hr e),j0I h.pts.row (Nat.le_refl _) hk ha,fun y hy=>?_⟩;refine NdIn.monoR (fun b _ hq=>⟨?_,trivial⟩) (h.pts.tree y hy);obtain⟨o,hd,sl,hq⟩:=hq;have hne:b≠a:=fun e=>by subst e;exact jBA hb hx hq
 have hlt:b<w.heap.size:=by
  have hc:w.cell? ⟨b,o+14,none⟩=some sl:=hq 14 sl rfl;exact G7 hc
 exact hk.block b hlt hne
theorem DG.low {w:World}{B B' r:Nat}{v:Value}{ys:List (Cc×Value)}(h:DG w B r v ys)(hB:B'<=B)(hr:B=0->False):DG w B' r v ys:=
 ⟨h.box,j0I (r:=0) h.pts.row hB (Kp.refl _ _) (Nat.pos_of_ne_zero hr),h.pts.tree⟩
end
end Go.Proofs.YtnceajanlnnfoaaGreatDoor
