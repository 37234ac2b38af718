/-The document's Shift (quadrilleref13), whole. -/
import Derived.Test.YtecjfnkakodebaaGreatDoorRmMoc
open Go.Proofs.Tryz
open Go.Value renaming int->O,bool->E,slice->U,agg->T,float->ap,string->aq,tuple->au
open Go.IntKind renaming i64->I
open Bool renaming false->R,true->J
open Option renaming some->H,none->G
open Go.Ending renaming returned->Q
open Go.FloatKind renaming f64->ao
set_option maxRecDepth 40000
set_option maxHeartbeats 8000000
namespace Go.Proofs.YtecjfnkakodebaaGreatDoor
section
open Go.RowKit
inductive RsR (t:Nd) (X Y:Int) (w w':World):Value->Prop
 | err (h:chk t≠0) (k:Kp w w' Nul):RsR t X Y w w' (au #[zHd.val (U G 0 0),O I (chk t)])
 | ok (hc:chk t=0) (sl':Value) (fp:List Nat) (ho:Own w' w.heap.size sl' (hmN (shH X Y) t) fp) (k:Kp w w' Nul):RsR t X Y w w' (au #[(hmN (shH X Y) t).hd.val sl',O I 0])
theorem jDk (t:Nd)(sl:Value)(F:Nat->Prop)(X Y:Int)(w:World)(hsz:t.size<=1048576)(hok:t.ok)(htx:t.txt)(hin:NdIn w F sl t):
 Calls prog 113 #[t.hd.val sl,O I X,O I Y] w fun e w'=>∃v,e=Q v/\RsR t X Y w w' v:=by
 obtain⟨W1,hW1⟩:∃W1,(w.alloc (.cells (t.hd.cells sl).toArray 48)).alloc (.cells (zHd.cells (U G 0 0)).toArray 48)=W1:=⟨_,rfl⟩;have k1:Kp w W1 Nul:=by rw[<- hW1];exact((Kp.refl w Nul).alloc _).alloc _
 have b1:Blk W1 w.heap.size (t.hd.cells sl) 48:=by rw[<- hW1];exact(Blk.new w _ _).alloc _
 have b2:Blk W1 (w.heap.size+1) (zHd.cells (U G 0 0)) 48:=by
  rw[<- hW1];have:=Blk.new (w.alloc (.cells (t.hd.cells sl).toArray 48)) (zHd.cells (U G 0 0)) 48;rw[World.size_alloc] at this;exact this
 have HW1:Hid ((w.alloc (.cells #[O I t.hd.k,O I t.hd.o,ap ao t.hd.x,aq t.hd.s,E t.hd.b,O I t.hd.f,O I t.hd.c1,O I t.hd.r1,E t.hd.p1,E t.hd.q1,O I t.hd.c2,O I t.hd.r2,E t.hd.p2,E t.hd.q2,sl] 48)).alloc (.cells #[O I 0,O I 0,ap ao 0,aq ⟨#[]⟩,E R,O I 0,O I 0,O I 0,E R,E R,O I 0,O I 0,E R,E R,U G 0 0] 48)=W1):=hW1;have HC:Hid (∀wq,Kp w wq Nul->Calls prog 91 #[t.hd.val sl] wq fun e w'=>e=Q (O I (chk t))/\Kp wq w' Nul):=fun wq hq=>j6U j4N t sl F wq hsz hok htx (hin.kp hq (fun _ _ x=>x))
 have HB1:Hid (∀wq,Kp W1 wq Nul->wq.heap[w.heap.size]? = H (.cells (t.hd.cells sl).toArray 48 (0,0))):=fun wq hq=>b1.kp hq (fun x=>x)
 have HB2:Hid (∀wq,Kp W1 wq Nul->Blk wq (w.heap.size+1) (zHd.cells (U G 0 0)) 48):=fun wq hq=>b2.kp hq (fun x=>x)
 have HK1:Hid (Kp w W1 Nul):=k1;have HEr:Hid (∀w',chk t≠0->Kp w w' Nul->RsR t X Y w w' (au #[zHd.val (U G 0 0),O I (chk t)])):=fun w' h k=>.err h k
 have HSh:Hid (chk t=0->∀wq,Kp w wq Nul->Calls prog 147 #[t.hd.val sl,O I X,O I Y] wq fun e w'=>∃sl' fp,e=Q ((hmN (shH X Y) t).hd.val sl')/\Own w' wq.heap.size sl' (hmN (shH X Y) t) fp/\Kp wq w' Nul):=fun hc wq hq=>(jDj X Y t.size t sl F R wq (Nat.le_refl _) hsz (j4e hc) (hin.kp hq (fun _ _ x=>x))).mono fun e w' h=>by
  obtain⟨sl',fp,h1,h2,h3⟩:=h;exact⟨sl',fp,h1,h2,Kp.of_below h3⟩
 have HOk:Hid (chk t=0->∀w' sl' fp,Own w' w.heap.size sl' (hmN (shH X Y) t) fp->Kp w w' Nul->RsR t X Y w w' (au #[(hmN (shH X Y) t).hd.val sl',O I 0])):=fun h1 w' sl' fp h3 h4=>.ok h1 sl' fp h3 h4
 clear hW1 k1 b1 b2 hok hin hsz htx;obtain⟨AT,hAT⟩:∃AT,hmN (shH X Y) t=AT:=⟨_,rfl⟩;rw[hAT] at HSh HOk;clear hAT;generalize t.hd=h at *;generalize hE:chk t=ae at *;clear hE;go_enter func113,ntmps113;go_wp2_with (first|(rw[HW1.o];refine U0 rfl (.tmp 3) rfl w.heap.size rfl (h.cells sl).toArray (HB1.o _ (Kp.refl _ _)) rfl ?_)|fail);refine(HC.o _ HK1.o).mono ?_;rintro e w2 ⟨rfl,hk2⟩;have K2:=h_ hk2;clear hk2 HC HW1;by_cases hE0:ae=0
 ·subst hE0;have HA:=h_ (HSh.o rfl);have HR:=h_ (HOk.o rfl);clear HSh HOk HEr;obtain⟨H2,hH2⟩:=e_ AT.hd;have HH2:=h_ hH2;rw[hH2] at HA;clear hH2;have HB3:=h_ (j3h (HB1.o _ K2.o));go_wp2_with (first
   | (refine wpList_load_mid rfl _ (.tmp 3) rfl _ 0 rfl _ _ HB3.o underlying48 rfl j3 ?_)
   | fail)
  refine(HA.o _ (HK1.o.trans K2.o)).mono ?_;rintro e w6 ⟨sl2,fp2,rfl,hown,hk6⟩;have HOw:=h_ hown;have K6:=h_ (K2.o.trans hk6);have ONE:=h_ hown.own.one;have HZ:=h_ ((HB2.o _ K2.o).lt);clear hown hk6 HB3;go_wp2_with (first
   | (refine D5 rfl _ (.tmp 6) (.tmp 18) rfl _ _ (H2.cells sl2) 48 (HB2.o _ K6.o) rfl rfl rfl j3 (Hd.one H2 ONE.o) ?_;intro w7 hb7 hk7)
   | fail)
  have hOwn7:Own w7 w.heap.size sl2 AT fp2:=⟨HOw.o.own.mono (fun i hi=>hk7.block i (F4 (HOw.o.own.node i hi)) (fun e=>by
   have e':=e;have h1:=(HOw.o.new i hi).1;have:=HZ.o;omega)),HOw.o.nodup,fun b hb=>⟨by have:=(HOw.o.new b hb).1;have:=HZ.o;omega,Nat.lt_of_lt_of_le (HOw.o.new b hb).2 hk7.size⟩⟩
  have hEnd:=HR.o w7 sl2 fp2 hOwn7 ((HK1.o.trans K6.o).trans' hk7 (fun i hi e=>by have e':i=w.heap.size+1:=e;omega));rw[HH2.o] at hEnd;refine bodyPost_ret (R9 rfl _ _ (w.heap.size+1) 48 _ (0,0) _ rfl hb7 underlying48 rfl j3) rfl ?_;exact⟨_,rfl,hEnd⟩
 ·have HE:=h_ fun w' (k:Kp w w' Nul)=>HEr.o w' hE0 k
  clear HSh HOk HEr;go_wp2_with (first|(refine D5 rfl _ (.tmp 6) (.tmp 13) rfl _ _ (zHd.cells (U G 0 0)) _ (HB2.o _ K2.o) rfl rfl rfl j3 (Hd.one zHd rfl) (fun W4 hb4 hk4=>?_))|fail);refine bodyPost_ret (R9 rfl _ _ (w.heap.size+1) 48 _ (0,0) _ rfl hb4 underlying48 rfl j3) rfl ?_;exact⟨_,rfl,HE.o _ ((HK1.o.trans K2.o).trans' hk4 (fun i hi e=>by have e':i=w.heap.size+1:=e;omega))⟩
end
section
open Go.RowKit
attribute [local go_sem] Oper.semAt_some
def inR (c r d s x y:Int):Bool:=decide (c<=x)&&decide (x<=d)&&decide (r<=y)&&decide (y<=s)
theorem j3H {c r d s x y:Int}(h:vA c r d s=J):inR c r d s x y=inA c r d s x y:=by
 unfold inR inA;rw[h,Bool.true_and]
theorem X9 (c r d s x y:Int)(w:World):
 Calls prog 76 #[T #[O I c,O I r,O I d,O I s],T #[O I x,O I y]] w fun e w'=>e=Q (E (inR c r d s x y))/\Kp w w' Nul:=by
 have K0:Hid (∀a b t u,Kp w ((w.alloc (.cells a t)).alloc (.cells b u)) Nul):=fun a b t u=>Kp.new2 _ _ _ _
 have hV:Hid (inR c r d s x y=(decide (c<=x)&&decide (x<=d)&&decide (r<=y)&&decide (y<=s))):=rfl;generalize inR c r d s x y=V at *;have hV':(decide (c<=x)&&decide (x<=d)&&decide (r<=y)&&decide (y<=s))=V:=hV.o.symm;clear hV;by_cases h1:c<=x
 rotate_left
 ·obtain rfl:V=R:=by rw[<- hV',decide_eq_false h1];rfl
  clear hV';go_enter func76,ntmps76;go_wp2;go_ret;exact⟨rfl,K0.o _ _ _ _⟩
 by_cases h2:x<=d
 rotate_left
 ·obtain rfl:V=R:=by rw[<- hV',decide_eq_false h2,Bool.and_false];rfl
  clear hV';go_enter func76,ntmps76;go_wp2;go_ret;exact⟨rfl,K0.o _ _ _ _⟩
 by_cases h3:r<=y
 rotate_left
 ·obtain rfl:V=R:=by rw[<- hV',decide_eq_false h3,Bool.and_false];rfl
  clear hV';go_enter func76,ntmps76;go_wp2;go_ret;exact⟨rfl,K0.o _ _ _ _⟩
 by_cases h4:y<=s
 rotate_left
 ·obtain rfl:V=R:=by rw[<- hV',decide_eq_false h4,Bool.and_false]
  clear hV';go_enter func76,ntmps76;go_wp2;go_ret;exact⟨rfl,K0.o _ _ _ _⟩
 obtain rfl:V=J:=by rw[<- hV',decide_eq_true h1,decide_eq_true h2,decide_eq_true h3,decide_eq_true h4];rfl
 clear hV';go_enter func76,ntmps76;go_wp2;go_ret;exact⟨rfl,K0.o _ _ _ _⟩
end
section
open Go.RowKit
attribute [local go_sem] Oper.semAt_some
theorem j2O (x y c r d s c2 r2 d2 s2 p q:Int)(w:World)(hp:wrap64 (wrap64 (x-c)+c2)=p)(hq:wrap64 (wrap64 (y-r)+r2)=q):
 Calls prog 80 #[T #[O I x,O I y],T #[O I c,O I r,O I d,O I s],T #[O I c2,O I r2,O I d2,O I s2]] w fun e w'=>e=Q (T #[O I p,O I q])/\Kp w w' Nul:=by
 have K0:Hid (∀a b cc dd t u v z,Kp w ((((w.alloc (.cells a t)).alloc (.cells b u)).alloc (.cells cc v)).alloc (.cells dd z)) Nul):=fun a b cc dd t u v z=>((((Kp.refl w Nul).alloc _).alloc _).alloc _).alloc _
 go_enter func80,ntmps80;go_wp2
 (try rw[hp,hq])
 refine bodyPost_ret (results_cell_row rfl _ _ (w.heap.size+1+1+1) 32 _ (0,0) _ rfl (blkS (by simp) [O I p,O I q] _) underlying32 rfl F5) rfl ?_;exact⟨rfl,K0.o _ _ _ _ _ _ _ _⟩
end
section
open Go.RowKit
structure OwF (w wr:World) (ps fs es zs:List Value) (h:Hd) (us:List Nd) (v:Value) (fp:List Nat):Prop where
 bel:Below w.heap.size w wr
 b1:Blk wr w.heap.size ps 48
 bf:Blk wr (w.heap.size+1) fs 34
 be:Blk wr (w.heap.size+2) es 34
 b2:Blk wr (w.heap.size+3) zs 48
 b3:Blk wr (w.heap.size+4) (h.cells v) 48
 own:Own wr (w.heap.size+5) v (.mk h us) fp
theorem OwF.start {w:World}(ps fs es zs:List Value)(h:Hd):OwF w (((((w.alloc (.cells ps.toArray 48)).alloc (.cells fs.toArray 34)).alloc (.cells es.toArray 34)).alloc (.cells zs.toArray 48)).alloc (.cells (h.cells (U G 0 0)).toArray 48)) ps fs es zs h [] (U G 0 0) []:=by
 obtain⟨W1,h1⟩:=e_ (w.alloc (.cells ps.toArray 48));obtain⟨W2,h2⟩:=e_ (W1.alloc (.cells fs.toArray 34));obtain⟨W3,h3⟩:=e_ (W2.alloc (.cells es.toArray 34));obtain⟨W4,h4⟩:=e_ (W3.alloc (.cells zs.toArray 48));obtain⟨W5,h5⟩:=e_ (W4.alloc (.cells (h.cells (U G 0 0)).toArray 48));rw[h1,h2,h3,h4,h5];have s1:W1.heap.size=w.heap.size+1:=by rw[<- h1,World.size_alloc]
 have s2:W2.heap.size=w.heap.size+2:=by rw[<- h2,World.size_alloc,s1]
 have s3:W3.heap.size=w.heap.size+3:=by rw[<- h3,World.size_alloc,s2]
 have s4:W4.heap.size=w.heap.size+4:=by rw[<- h4,World.size_alloc,s3]
 have k1:Kp w W1 Nul:=by rw[<- h1];exact(Kp.refl _ _).alloc _
 have k2:Kp W1 W2 Nul:=by rw[<- h2];exact(Kp.refl _ _).alloc _
 have k3:Kp W2 W3 Nul:=by rw[<- h3];exact(Kp.refl _ _).alloc _
 have k4:Kp W3 W4 Nul:=by rw[<- h4];exact(Kp.refl _ _).alloc _
 have k5:Kp W4 W5 Nul:=by rw[<- h5];exact(Kp.refl _ _).alloc _
 have b1:Blk W1 w.heap.size ps 48:=by rw[<- h1];exact Blk.new _ _ _
 have b2:Blk W2 (w.heap.size+1) fs 34:=by rw[<- h2,<- s1];exact Blk.new _ _ _
 have b3:Blk W3 (w.heap.size+2) es 34:=by rw[<- h3,<- s2];exact Blk.new _ _ _
 have b4:Blk W4 (w.heap.size+3) zs 48:=by rw[<- h4,<- s3];exact Blk.new _ _ _
 have b5:Blk W5 (w.heap.size+4) (h.cells (U G 0 0)) 48:=by rw[<- h5,<- s4];exact Blk.new _ _ _
 refine⟨(((k1.trans k2).trans k3).trans (k4.trans k5)).below,b1.kp ((k2.trans k3).trans (k4.trans k5)) (fun x=>x),b2.kp (k3.trans (k4.trans k5)) (fun x=>x),b3.kp (k4.trans k5) (fun x=>x),b4.kp k5 (fun x=>x),b5,?_,?_,?_⟩
 ·rw[D2];exact .inl ⟨rfl,rfl,rfl⟩
 ·exact List.nodup_nil
 ·intro b hb;simp at hb
theorem OwF.lt {w wr:World}{ps fs es zs:List Value}{h:Hd}{us:List Nd}{v:Value}{fp:List Nat}(q:OwF w wr ps fs es zs h us v fp):w.heap.size+5<=wr.heap.size:=q.b3.lt
theorem OwF.step {w wr w2 w4:World}{ps fs es zs:List Value}{h:Hd}{us:List Nd}{v:Value}{fp:List Nat}(q:OwF w wr ps fs es zs h us v fp)(hg:Below wr.heap.size wr w2){B:Nat}(hB:wr.heap.size<=B){sl:Value}{u:Nd}{f:List Nat}(hu:Own w2 B sl u f){xs:List Value}
 (hx:(w2.alloc (.cells (u.hd.cells sl).toArray 48)).ownsRow (w.heap.size+5) 48 15 v us.length xs) {g c:Nat}
 (ho:w4.ownsRow (w.heap.size+5) 48 15 (U (H ⟨g,0,G⟩) (us.length+1) c) (us.length+1) (xs++u.hd.cells sl)) (hgr:(w2.alloc (.cells (u.hd.cells sl).toArray 48)).grownBy w4 v.ownBlock) (ht:v.ownBlock=H g∨(w2.alloc (.cells (u.hd.cells sl).toArray 48)).heap.size<=g) :
 ∃fp',OwF w (w4.setCell ⟨w.heap.size+4,14,G⟩ (U (H ⟨g,0,G⟩) (us.length+1) c)) ps fs es zs h (us++[u]) (U (H ⟨g,0,G⟩) (us.length+1) c) fp':=by
 have hlt:=q.lt;have hg3:Below wr.heap.size wr (w2.alloc (.cells (u.hd.cells sl).toArray 48)):=hg.alloc hg.size _;have own3:=q.own.below hg3;have hu3:Own (w2.alloc (.cells (u.hd.cells sl).toArray 48)) (w.heap.size+5) sl u f:=(hu.below ((Below.refl _ _).alloc (Nat.le_refl _) _)).le (by omega);have hd:∀b∈f,b∉fp:=fun b hb hb'=>by
  have:=(hu.new b hb).1;have:=(q.own.new b hb').2;omega
 obtain⟨fp',ow4⟩:=own3.grow hx hu3 hd ho hgr ht h;have hrow:=fun i (hi:v.ownBlock=H i)=>(hx.lt i hi).1
 have hb4:∀i,i<w.heap.size+5->w4.heap[i]? = wr.heap[i]?:=fun i hi=>by
  rw[hgr.block i (by have:=hg3.size;omega) (fun e=>by have:=hrow i e.symm;omega)];exact hg3.block i (by omega)
 have ne:∀i,i≠w.heap.size+4->(w4.setCell ⟨w.heap.size+4,14,G⟩ (U (H ⟨g,0,G⟩) (us.length+1) c)).heap[i]? = w4.heap[i]?:=fun i hi=>heap_setCell_other w4 _ i _ hi
 have sz:(w4.setCell ⟨w.heap.size+4,14,G⟩ (U (H ⟨g,0,G⟩) (us.length+1) c)).heap.size=w4.heap.size:=by
  show (w4.heap.modify _ _).size=_;simp
 have b3':Blk w4 (w.heap.size+4) (h.cells v) 48:=(hb4 _ (by omega)).trans q.b3;refine⟨fp',⟨?_,?_,?_,?_,?_,?_,?_⟩⟩
 ·refine⟨?_,?_,?_,?_,?_⟩
  ·exact hgr.os.trans (hg3.os.trans q.bel.os)
  ·exact hgr.tape.trans (hg3.tape.trans q.bel.tape)
  ·exact hgr.output.trans (hg3.output.trans q.bel.output)
  ·rw[sz];have:=hgr.size;have:=hg3.size;omega
  ·intro i hi;rw[ne i (by omega),hb4 i (by omega)];exact q.bel.block i hi
 ·exact(ne _ (by omega)).trans ((hb4 _ (by omega)).trans q.b1)
 ·exact(ne _ (by omega)).trans ((hb4 _ (by omega)).trans q.bf)
 ·exact(ne _ (by omega)).trans ((hb4 _ (by omega)).trans q.be)
 ·exact(ne _ (by omega)).trans ((hb4 _ (by omega)).trans q.b2)
 ·exact b3'.set 14 _
 ·refine⟨ow4.own.mono (fun b hb=>ne b (by have:=(ow4.new b hb).1;omega)),ow4.nodup,fun b hb=>?_⟩;rw[sz];exact ow4.new b hb
def goM (A B:Ar4) (h:Hd):Option Hd:=if h.k=5∨h.k=6 then (mvF A B (nmA h)).map (toH h) else H h
theorem jA9 (A B:Ar4){h:Hd}{ts:List Nd}(hts:h.k=5∨h.k=6->ts=[]):alN (mvF A B) (.mk h ts)=(match goM A B h with|some g=>.mk g (alL (mvF A B) ts)|none=>ndF):=by
 rw[alN];unfold goM;by_cases hk:h.k=5∨h.k=6
 ·rw[if_pos hk,if_pos hk];obtain rfl:=hts hk;unfold nmN;simp only[Nd.hd,Nd.ts,alL];cases mvF A B (nmA h) <;> rfl
 ·rw[if_neg hk,if_neg hk]
theorem j09 {A:Ar4}(h:Ar4.ok A=J)(p:Int×Int):inB A p=inR A.1.1 A.1.2 A.2.1 A.2.2 p.1 p.2:=(j3H h).symm
theorem jA7 {Fr Th:Ar4}(hF:Ar4.ok Fr=J)(hT:Ar4.ok Th=J)(h:Hd)(hk:h.k=5):goM Fr Th h=if inR Fr.1.1 Fr.1.2 Fr.2.1 Fr.2.2 h.c1 h.r1=J then H { h with c1:=h.c1+Th.1.1-Fr.1.1,r1:=h.r1+Th.1.2-Fr.1.2 } else if inR Th.1.1 Th.1.2 Th.2.1 Th.2.2 h.c1 h.r1=J then G else H h:=by
 have e6:¬h.k=6:=by omega
 unfold goM;rw[if_pos (Or.inl hk)];have en:nmA h=((h.c1,h.r1),(h.c1,h.r1)):=by unfold nmA;rw[if_neg e6]
 rw[en];unfold mvF;simp only;rw[j09 hF,j09 hT];simp only[Bool.and_self];by_cases q:inR Fr.1.1 Fr.1.2 Fr.2.1 Fr.2.2 h.c1 h.r1=J
 ·rw[if_pos q,if_pos q];show H (toH h _)=_;unfold toH mvP;rw[if_neg e6]
 ·rw[if_neg q,if_neg q];by_cases q2:inR Th.1.1 Th.1.2 Th.2.1 Th.2.2 h.c1 h.r1=J
  ·rw[if_pos q2,if_pos q2];rfl
  ·rw[if_neg q2,if_neg q2];show H (toH h _)=_;unfold toH;rw[if_neg e6]
theorem jA8 {Fr Th:Ar4}(hF:Ar4.ok Fr=J)(hT:Ar4.ok Th=J)(h:Hd)(hk:h.k=6):goM Fr Th h=if (inR Fr.1.1 Fr.1.2 Fr.2.1 Fr.2.2 h.c1 h.r1&&inR Fr.1.1 Fr.1.2 Fr.2.1 Fr.2.2 h.c2 h.r2)=J then H { h with c1:=h.c1+Th.1.1-Fr.1.1,r1:=h.r1+Th.1.2-Fr.1.2,c2:=h.c2+Th.1.1-Fr.1.1,r2:=h.r2+Th.1.2-Fr.1.2 } else if (inR Th.1.1 Th.1.2 Th.2.1 Th.2.2 h.c1 h.r1&&inR Th.1.1 Th.1.2 Th.2.1 Th.2.2 h.c2 h.r2)=J then G else H h:=by
 unfold goM;rw[if_pos (Or.inr hk)];have en:nmA h=((h.c1,h.r1),(h.c2,h.r2)):=by unfold nmA;rw[if_pos hk]
 rw[en];unfold mvF;simp only;rw[j09 hF,j09 hT,j09 hF,j09 hT];simp only;by_cases q:(inR Fr.1.1 Fr.1.2 Fr.2.1 Fr.2.2 h.c1 h.r1&&inR Fr.1.1 Fr.1.2 Fr.2.1 Fr.2.2 h.c2 h.r2)=J
 ·rw[if_pos q,if_pos q];show H (toH h _)=_;unfold toH mvP;rw[if_pos hk]
 ·rw[if_neg q,if_neg q];by_cases q2:(inR Th.1.1 Th.1.2 Th.2.1 Th.2.2 h.c1 h.r1&&inR Th.1.1 Th.1.2 Th.2.1 Th.2.2 h.c2 h.r2)=J
  ·rw[if_pos q2,if_pos q2];rfl
  ·rw[if_neg q2,if_neg q2];show H (toH h _)=_;unfold toH;rw[if_pos hk]
theorem j0D {x a b:Int}(ha:1<=a/\a<=4096)(hb:1<=b/\b<=4096)(hx:1<=x/\x<=4096):wrap64 (wrap64 (x-a)+b)=x+b-a:=by
 unfold wrap64;omega
theorem jDG (Fr Th:Ar4)(hokF:Ar4.ok Fr=J)(hokT:Ar4.ok Th=J)(N:Nat):∀(t:Nd) (sl:Value) (F:Nat->Prop) (cc:Bool) (w:World),t.size<=N->t.size<=1048576->t.fe cc=0->NdIn w F sl t ->
 Calls prog 79 #[t.hd.val sl,T #[O I Fr.1.1,O I Fr.1.2,O I Fr.2.1,O I Fr.2.2],T #[O I Th.1.1,O I Th.1.2,O I Th.2.1,O I Th.2.2]] w fun e w'=>∃sl' fp,e=Q ((alN (mvF Fr Th) t).hd.val sl')/\Own w' w.heap.size sl' (alN (mvF Fr Th) t) fp/\Below w.heap.size w w':=by
 induction N with
 | zero=>intro t sl F cc w h;have:=L7 t;omega
 | succ N ih=>
  intro t sl F cc w hN hm hok hin;obtain⟨h,ts⟩:=t;rw[NdIn] at hin;obtain⟨a,c,rfl,_,_,h4⟩:=hin;have hsz:Hid ((Nd.mk h ts).size=1+D3 ts):=by show _=_;rw[Nd.size]
  have HN:=h_ hN;have HM:=h_ hm;have IH:Hid (∀(t:Nd) (sl:Value) (F:Nat->Prop) (cc:Bool) (w:World),t.size<=N->t.size<=1048576->t.fe cc=0->NdIn w F sl t ->
   Calls prog 79 #[t.hd.val sl,T #[O I Fr.1.1,O I Fr.1.2,O I Fr.2.1,O I Fr.2.2],T #[O I Th.1.1,O I Th.1.2,O I Th.2.1,O I Th.2.2]] w fun e w'=>∃sl' fp,e=Q ((alN (mvF Fr Th) t).hd.val sl')/\Own w' w.heap.size sl' (alN (mvF Fr Th) t) fp/\Below w.heap.size w w'):=ih
  have H4:=h_ h4;have hln:=j0k ts;have HLM:Hid (ts.length<=1048576):=by show _<=_;have:=hsz.o;omega
  clear ih hN hm h4 hln;obtain⟨hlin,hts0⟩:=j35 hok;obtain⟨_,cd,hfl⟩:=j1p hok;obtain⟨A,hA⟩:=e_ (alN (mvF Fr Th) (.mk h ts));have HA:Hid (A=(match goM Fr Th h with|some g=>.mk g (alL (mvF Fr Th) ts)|none=>ndF)):=by show A=_;rw[<- hA];exact jA9 Fr Th hts0
  rw[hA];clear hA;obtain⟨AH,hAH⟩:=e_ A.hd;have HAH:=h_ hAH;rw[hAH];clear hAH;simp only[Nd.hd];have HLI:=h_ hlin;have HTS:=h_ hts0;have HOK:=h_ hfl;clear hok hlin hts0 hfl;generalize hn:ts.length=n at *;have HL:=h_ hn;clear hn;obtain⟨W0,hW0⟩:=e_ ((((((w.alloc (.cells (h.cells (U a n c)).toArray 48)).alloc (.cells [O I Fr.1.1,O I Fr.1.2,O I Fr.2.1,O I Fr.2.2].toArray 34)).alloc (.cells [O I Th.1.1,O I Th.1.2,O I Th.2.1,O I Th.2.2].toArray 34)).alloc (.cells [O I 0,O I 0,ap ao 0,aq ⟨#[]⟩,E R,O I 0,O I 0,O I 0,E R,E R,O I 0,O I 0,E R,E R,U G 0 0].toArray 48)).alloc (.cells (h.cells (U G 0 0)).toArray 48)));have OS:=OwF.start (w:=w) (h.cells (U a n c)) [O I Fr.1.1,O I Fr.1.2,O I Fr.2.1,O I Fr.2.2] [O I Th.1.1,O I Th.1.2,O I Th.2.1,O I Th.2.2] [O I 0,O I 0,ap ao 0,aq ⟨#[]⟩,E R,O I 0,O I 0,O I 0,E R,E R,O I 0,O I 0,E R,E R,U G 0 0] h
  rw[hW0] at OS;have HOS:=h_ OS;have RR:=h_ fun X (kX:Kp (w.alloc (.cells (h.cells (U a n c)).toArray 48)) X Nul)=>j5 ((Blk.new w (h.cells (U a n c)) 48).kp kX (fun x=>x))
  clear OS;obtain⟨k,o',x,s,bb,f,c1,r1,p1,q1,c2,r2,p2,q2⟩:=h;have HW:=h_ hW0;clear hW0;have HOKF:=h_ hokF;have HOKT:=h_ hokT;have HBD:Hid ((1<=Fr.1.1/\Fr.1.1<=4096)/\(1<=Th.1.1/\Th.1.1<=4096)/\(1<=Fr.1.2/\Fr.1.2<=4096)/\(1<=Th.1.2/\Th.1.2<=4096)):=by
   have h1:=(I2 Fr).1 hokF;have h2:=(I2 Th).1 hokT;show _/\_;omega
  obtain⟨i0,hi,hz0,hz1,hz2⟩:=j1K;go_enter func79,ntmps79;go_wp2_with (first|(refine wpList_load_mid rfl 48 (.tmp 3) rfl w.heap.size 0 rfl (Hd.cells ⟨k,o',x,s,bb,f,c1,r1,p1,q1,c2,r2,p2,q2⟩ (U a n c)) _ (RR.o _ (by first|exact(((Kp.refl _ _).alloc _).alloc _).alloc _|exact((((Kp.refl _ _).alloc _).alloc _).alloc _).alloc _)) underlying48 rfl j3 ?_)|(refine F9 rfl 48 (.tmp 7) (.tmp 11) rfl _ _ _ _ _ (by first|rfl|simp) rfl rfl rfl j3 (Hd.one ⟨k,o',x,s,bb,f,c1,r1,p1,q1,c2,r2,p2,q2⟩ rfl) ?_));rw[HW.o];clear HW RR;go_loopw[8] (fun i wr=>∃(q:Nat) (v:Value) (fp:List Nat),q<=n/\i=O I q/\OwF w wr (Hd.cells ⟨k,o',x,s,bb,f,c1,r1,p1,q1,c2,r2,p2,q2⟩ (U a n c)) [O I Fr.1.1,O I Fr.1.2,O I Fr.2.1,O I Fr.2.2] [O I Th.1.1,O I Th.1.2,O I Th.2.1,O I Th.2.2] [O I 0,O I 0,ap ao 0,aq ⟨#[]⟩,E R,O I 0,O I 0,O I 0,E R,E R,O I 0,O I 0,E R,E R,U G 0 0] ⟨k,o',x,s,bb,f,c1,r1,p1,q1,c2,r2,p2,q2⟩ (alL (mvF Fr Th) (ts.take q)) v fp) (fun i _=>n-(RowKit.intOf i).toNat)
  case atStart=>exact⟨0,U G 0 0,[],Nat.zero_le _,rfl,by rw[List.take_zero,alL];exact HOS.o⟩
  case round=>
   obtain⟨q,v,fp,hq,rfl,hat⟩:=hrel;have AT:=h_ hat;have hlt3:=hat.lt;have hbel:=hat.bel;have x14:=hat.b1.c_ 14 rfl;by_cases hlt:q<n
   ·have hqt:q<ts.length:=(by rw[HL.o];exact hlt);obtain⟨b,o,rfl,hFb,hns⟩:∃b o,a=H ⟨b,o,G⟩/\F b/\F6 w F b o ts:=by
     rcases H4.o with h|h
     ·rw[h.1] at hqt;simp at hqt
     ·exact h
    obtain⟨s1,hr,hni⟩:=hns.get q hqt;obtain⟨pv,lv,cv,rfl⟩:=j0l hat.own.own;obtain⟨xs,hxs⟩:=hat.own.row;have hul:Hid ((alL (mvF Fr Th) (ts.take q)).length=q):=(by show _=_;rw[j0Q,List.length_take];omega);have hbw:=Q0 hr;have HBF:=(h_ fun wq (hk:Below (w.heap.size+5) wr wq)=>(hk.block _ (by omega)).trans hat.bf);have HBE:=(h_ fun wq (hk:Below (w.heap.size+5) wr wq)=>(hk.block _ (by omega)).trans hat.be);have HS:Hid (∀wq,Below (w.heap.size+5) wr wq->wq.cell? ⟨w.heap.size,14,G⟩=H (U (H ⟨b,o,G⟩) n c)/\wq.cell? ⟨w.heap.size+4,14,G⟩=H (U pv lv cv)):=(fun wq hk=>⟨(hk.cell (by simp)).trans (hat.b1.cell rfl),(hk.cell (by simp)).trans (hat.b3.cell rfl)⟩);have HR:=(h_ fun wq (hk:Below (w.heap.size+5) wr wq)=>I7 hr ((hk.block b (by omega)).trans (hat.bel.block b hbw)));have hs1:=Q4 ts q hqt;have hni':=fun wq (hk:Below wr.heap.size wr wq)=>hni.mono fun b hb hl=>⟨(hk.block b (by omega)).trans (hat.bel.block b hl),hb⟩
    have HC:=(h_ fun wq (hq:Below wr.heap.size wr wq)=>IH.o ts[q] s1 F cd wq (by have:=HN.o;have:=hsz.o;omega) (by have:=HM.o;have:=hsz.o;omega) (j34 HOK.o q hqt) (hni' wq hq));have hu3:Hid (alL (mvF Fr Th) (ts.take (q+1))=alL (mvF Fr Th) (ts.take q)++[alN (mvF Fr Th) ts[q]]):=j4B _ ts q hqt;have O1:=h_ hni.one;clear hs1 hni hni' hr hns;generalize alN (mvF Fr Th) ts[q]=u at *;generalize (ts[q]).hd=hh at *;generalize alL (mvF Fr Th) (ts.take q)=us at *;have hkb:(q:Int)+1<=9223372036854775807:=(by have:=HLM.o;omega);have hq0:(0:Int)<=(q:Int):=(by omega);have hqn:(q:Int)<(n:Int):=(by omega);have HX3:=(h_ fun w2 (h2:Below wr.heap.size wr w2) o=>(j0F hxs h2).alloc o);clear hat hxs;go_wp2_with fail;refine wp_region_noPanic ?_;refine j12 (fun w':World=>Below (w.heap.size+5) wr w') 13 (by kernel_rfl) ((Below.refl _ _).drew) (fun hHeld=>?_);refine tb 0 20 hHeld ?_ (hy:=by intro w' hSw;obtain⟨s0,s1⟩:=HS.o _ hSw;clear hSw;go_simp;try with_reducible rfl)
    refine tb 1 21 hHeld ?_ (hy:=by intro w' hSw;obtain⟨s0,s1⟩:=HS.o _ hSw;clear hSw;go_simp;try with_reducible rfl);refine tb 2 22 hHeld ?_ (hy:=by intro w' hSw;obtain⟨s0,s1⟩:=HS.o _ hSw;clear hSw;go_simp;try with_reducible rfl);refine tb 3 23 hHeld ?_ (hy:=by intro w' hSw;obtain⟨s0,s1⟩:=HS.o _ hSw;clear hSw;go_simp;try with_reducible rfl);refine tb 4 24 hHeld ?_ (hy:=by intro w' hSw;obtain⟨s0,s1⟩:=HS.o _ hSw;clear hSw;go_simp;try with_reducible rfl);refine tb 5 25 hHeld ?_ (hy:=by intro w' hSw;obtain⟨s0,s1⟩:=HS.o _ hSw;clear hSw;go_simp;try with_reducible rfl);refine tb 6 26 hHeld ?_ (v:=hh.val s1) (hy:=by exact fun w' hSw=>j1B (hh.cells s1) rfl rfl (HR.o w' hSw) rfl);refine tb 7 27 hHeld ?_ (v:=T #[O I Fr.1.1,O I Fr.1.2,O I Fr.2.1,O I Fr.2.2]) (hy:=by exact fun w' hSw=>q9 34 (.tmp 4) rfl (w.heap.size+1) 0 rfl [O I Fr.1.1,O I Fr.1.2,O I Fr.2.1,O I Fr.2.2] _ (j5 (HBF.o w' hSw)) underlying34 rfl D7)
    refine tb 8 28 hHeld ?_ (v:=T #[O I Th.1.1,O I Th.1.2,O I Th.2.1,O I Th.2.2]) (hy:=by exact fun w' hSw=>q9 34 (.tmp 5) rfl (w.heap.size+2) 0 rfl [O I Th.1.1,O I Th.1.2,O I Th.2.1,O I Th.2.2] _ (j5 (HBE.o w' hSw)) underlying34 rfl D7);refine I5 (i:=9) (by kernel_rfl) rfl rfl (fun K hK=>?_);go_simp;refine(HC.o _ ((Below.refl _ _).drew)).mono ?_;rintro e w2 ⟨su,fu,rfl,hown,hbl⟩;have hb2:=((Below.refl wr.heap.size wr).drew).trans hbl;have HB2:=h_ hb2;have HU:=h_ hown;refine hK.o _ _ (fun _=>hb2.mono hlt3) (fun _=>?_);clear hK K hHeld hown hbl HC HS HR x14;refine I5 (i:=10) (by kernel_rfl) rfl rfl (fun K hK=>?_);go_simp;refine hK.o _ _ (fun _=>(hb2.alloc hb2.size _).mono hlt3) (fun _=>?_);clear hK K;refine I5 (i:=11) (by kernel_rfl) rfl rfl (fun K hK=>?_);refine j0W _ (.tmp 21) (.tmp 30) 46 rfl (w.heap.size+5) 48 i0 _ 15 128 underlying46 hi hz0 hz1 hz2 rfl (by decide) (U pv lv cv) us.length xs rfl (HX3.o w2 HB2.o _) ⟨w2.heap.size,0,G⟩ 1 1 (u.hd.cells su) rfl rfl ?c1 ?c2 (by decide) ?c3 ?c4 ?c5 ?_
    case c1=>
     intro j u' hj;rw[R5,Nat.zero_add];exact(Blk.new w2 (u.hd.cells su) 48).cell hj
    case c2=>exact j1J u.hd HU.o.own.one
    case c3=>rw[hul.o];unfold maxLen;omega
    case c4=>rw[hul.o];have:=HLM.o;omega
    case c5=>have:=hb2.size;simp[World.size_alloc];omega
    intro g c' w4 ho hgr ht;obtain⟨fp',hat5⟩:=AT.o.step HB2.o (Nat.le_refl _) HU.o (HX3.o w2 HB2.o _) ho hgr ht;have h4b:Below (w.heap.size+5) wr w4:=by
     refine⟨hgr.os.trans hb2.os,hgr.tape.trans hb2.tape,hgr.output.trans hb2.output,?_,fun i hi=>?_⟩
     ·have h1:=hgr.size;have h2:=hb2.size;rw[World.size_alloc] at h1;omega
     ·rw[hgr.block i (by rw[World.size_alloc];have:=hb2.size;omega) (fun e=>by have:=((HX3.o w2 HB2.o (.cells #[] 0)).lt i e.symm).1;omega),Below.heap_alloc _ _ _ (by have:=hb2.size;omega)];exact hb2.block i (by omega)
    have A5:=h_ hat5;refine hK.o _ _ (fun _=>h4b) (fun hHeld=>?_);have f3:w4.frozen? ⟨w.heap.size+4,14,G⟩=R:=by
     have:Blk w4 (w.heap.size+4) _ 48:=(h4b.block _ (by omega)).trans AT.o.b3;exact this.froz _
    have c3:w4.cell? ⟨w.heap.size+4,14,G⟩=H (U pv lv cv):=by
     have:Blk w4 (w.heap.size+4) _ 48:=(h4b.block _ (by omega)).trans AT.o.b3;exact this.cell rfl
    clear hK K hat5 ho hgr ht h4b hb2;simp only[Act.put,List.setIfInBounds_toArray];refine I5 (i:=12) (by kernel_rfl) rfl rfl (fun K hK=>?_);go_simp;refine hK.o _ _ (fun _=>hHeld (by decide)) (fun _=>?_);clear hK K;refine I5 (i:=13) (by kernel_rfl) rfl rfl (fun K hK=>?_);go_simp;refine hK.o _ _ (fun h=>absurd rfl h) (fun _=>?_);clear hK K hHeld c3 f3;refine j10 (by kernel_rfl) ?_;refine NoPanic.normal ?_;go_wp2_with fail;go_roundw
    case rel=>exact⟨q+1,_,fp',by omega,by go_num,by rw[hu3.o];exact A5.o⟩
    case measure=>simp only[RowKit.intOf];omega
   ·have hqe:q=n:=(by omega);subst hqe;have hqn:¬((q:Int)<(q:Int)):=(by omega);have hall:alL (mvF Fr Th) (ts.take q)=alL (mvF Fr Th) ts:=(by rw[List.take_of_length_le (by rw[HL.o];exact Nat.le_refl _)]);rw[hall] at AT hat;have BFx:=(h_ fun X (kX:Kp wr X Nul)=>hat.bf.kp kX (fun x=>x));have BEx:=(h_ fun X (kX:Kp wr X Nul)=>hat.be.kp kX (fun x=>x));have B1:=h_ hat.b1;have B2:=h_ hat.b2;have B3:=h_ hat.b3;have OWN:=h_ hat.own;have BEL:=h_ hat.bel;have O1:=h_ hat.own.own.one;have x0:=hat.b1.c_ 0 rfl;have FIN:Hid (∀(g:Hd) (W5:World),goM Fr Th ⟨k,o',x,s,bb,f,c1,r1,p1,q1,c2,r2,p2,q2⟩=H g->Kp wr W5 (fun i=>i=w.heap.size+3∨i=w.heap.size+4)->∃sl' fp',Q (g.val v)=Q (AH.val sl')/\Own W5 w.heap.size sl' A fp'/\Below w.heap.size w W5):=fun g W5 hg hk=>by
     have e:=HA.o;rw[hg] at e;simp only at e;rw[<- HAH.o,e];refine⟨v,fp,rfl,⟨D2.hd_any (OWN.o.own.mono (fun b hb=>hk.block b (OWN.o.new b hb).2 (fun z=>by have:=(OWN.o.new b hb).1;rcases z with z|z <;> omega))),OWN.o.nodup,fun b hb=>⟨by have:=(OWN.o.new b hb).1;omega,Nat.lt_of_lt_of_le (OWN.o.new b hb).2 hk.size⟩⟩,?_⟩;exact((Kp.of_below BEL.o:Kp w wr Nul).trans' hk (fun i hi z=>by rcases z with z|z <;> omega)).below
    have LOST:Hid (∀(W5:World),goM Fr Th ⟨k,o',x,s,bb,f,c1,r1,p1,q1,c2,r2,p2,q2⟩=G->Kp wr W5 (fun i=>i=w.heap.size+3∨i=w.heap.size+4)->∃sl' fp',Q (ndF.hd.val (U G 0 0))=Q (AH.val sl')/\Own W5 w.heap.size sl' A fp'/\Below w.heap.size w W5):=fun W5 hg hk=>by
     have e:=HA.o;rw[hg] at e;simp only at e;rw[<- HAH.o,e];refine⟨U G 0 0,[],rfl,⟨by unfold ndF;rw[D2];exact .inl ⟨rfl,rfl,rfl⟩,List.nodup_nil,fun b hb=>by simp at hb⟩,?_⟩;exact((Kp.of_below BEL.o:Kp w wr Nul).trans' hk (fun i hi z=>by rcases z with z|z <;> omega)).below
    clear hat AT IH H4 HOS HOK hall HA;have S5:=h_ hlt3;have hs5:=S5.o;have HLo:=h_ j6g;by_cases k5:k=5
    ·skip
     subst k5;obtain⟨i1,i2,i3,i4⟩:=HLI.o.1 rfl;simp only at i1 i2 i3 i4;obtain⟨M1,hM1⟩:=e_ (c1+Th.1.1-Fr.1.1);obtain⟨N1,hN1⟩:=e_ (r1+Th.1.2-Fr.1.2);obtain⟨f1,hf1⟩:=e_ (inR Fr.1.1 Fr.1.2 Fr.2.1 Fr.2.2 c1 r1);obtain⟨t1,ht1⟩:=e_ (inR Th.1.1 Th.1.2 Th.2.1 Th.2.2 c1 r1);have HF1:Hid (∀wq,Calls prog 76 #[T #[O I Fr.1.1,O I Fr.1.2,O I Fr.2.1,O I Fr.2.2],T #[O I c1,O I r1]] wq fun e w'=>e=Q (E f1)/\Kp wq w' Nul):=(fun wq=>by rw[<- hf1];exact X9 _ _ _ _ _ _ wq);have HT1:Hid (∀wq,Calls prog 76 #[T #[O I Th.1.1,O I Th.1.2,O I Th.2.1,O I Th.2.2],T #[O I c1,O I r1]] wq fun e w'=>e=Q (E t1)/\Kp wq w' Nul):=(fun wq=>by rw[<- ht1];exact X9 _ _ _ _ _ _ wq);have HM1:Hid (∀wq,Calls prog 80 #[T #[O I c1,O I r1],T #[O I Fr.1.1,O I Fr.1.2,O I Fr.2.1,O I Fr.2.2],T #[O I Th.1.1,O I Th.1.2,O I Th.2.1,O I Th.2.2]] wq fun e w'=>e=Q (T #[O I M1,O I N1])/\Kp wq w' Nul):=fun wq=>j2O _ _ _ _ _ _ _ _ _ _ _ _ wq (by rw[<- hM1];exact j0D HBD.o.1 HBD.o.2.1 (by omega)) (by rw[<- hN1];exact j0D HBD.o.2.2.1 HBD.o.2.2.2 (by omega))
     have hgo:goM Fr Th ⟨5,o',x,s,bb,f,c1,r1,p1,q1,c2,r2,p2,q2⟩=if f1=J then H ⟨5,o',x,s,bb,f,M1,N1,p1,q1,c2,r2,p2,q2⟩ else if t1=J then G else H ⟨5,o',x,s,bb,f,c1,r1,p1,q1,c2,r2,p2,q2⟩:=(by rw[<- hf1,<- ht1,<- hM1,<- hN1];exact jA7 HOKF.o HOKT.o _ rfl);clear hM1 hN1 hf1 ht1 i1 i2 i3 i4;obtain⟨WA,hWA⟩:=e_ (wr.alloc (.cells #[O I c1,O I r1] 32));obtain⟨WB,hWB⟩:=e_ (WA.alloc (.cells #[O I c1,O I r1] 32));have HWA:=h_ hWA;have HWB:=h_ hWB;have kA:Kp wr WA Nul:=(by rw[<- hWA];exact(Kp.refl _ _).alloc _);have kB:Kp WA WB Nul:=(by rw[<- hWB];exact(Kp.refl _ _).alloc _);have sA:WA.heap.size=wr.heap.size+1:=(by rw[<- hWA,World.size_alloc]);have HSA:=h_ sA;have bA:Blk WA wr.heap.size [O I c1,O I r1] 32:=(by rw[<- hWA];exact Blk.new _ _ _);have bB:Blk WB (wr.heap.size+1) [O I c1,O I r1] 32:=by rw[<- hWB,<- sA];exact Blk.new _ _ _
     have HBA:=h_ bA;have HBB:=k_ bB;have HBA2:=(h_ fun X (kX:Kp WB X (fun i=>i=wr.heap.size+1))=>(bA.kp kB (fun x=>x)).kp kX (by show ¬_=_;omega));have HKB:=h_ (kA.trans kB);have HR1:Hid (wr.rangeAt w.heap.size 6 [O I c1,O I r1]):=J4 (pre:=[O I 5,O I o',ap ao x,aq s,E bb,O I f]) (post:=[E p1,E q1,O I c2,O I r2,E p2,E q2,U a q c]) B1.o;have x0':=(B1.o.kp HKB.o (fun x=>x)).c_ 0 rfl;have HX0:=h_ x0';clear hWA hWB kA kB sA bA bB x0';go_upto_region 10 with (first
      | (rw[HWA.o])
      | (refine wpList_load_mid rfl 32 (.tmp 43) rfl w.heap.size 6 rfl [O I c1,O I r1] _ HR1.o underlying32 rfl F5 ?_)
      | (refine F9 rfl 32 (.tmp 9) (.tmp 44) rfl _ _ _ _ _ (by first|rfl|simp) rfl rfl rfl F5 (by simp[Value.oneCell']) ?_)
      | fail)
     (try simp only[Act.put])
     (try rw[HWA.o])
     clear x0;have f0:=HBA.o.c_ 0 rfl;have f1':=HBA.o.c_ 1 rfl;go_upto_region 11 with (first
      | (rw[HWB.o])
      | (refine F9 rfl 32 (.tmp 10) (.tmp 45) rfl _ _ _ _ _ (by first|rfl|simp) rfl rfl rfl F5 (by simp[Value.oneCell']) ?_)
      | fail)
     (try simp only[Act.put])
     (try rw[HWB.o])
     (try rw[HSA.o])
     clear f0 f1';have y0:=HX0.o;go_upto_region 13 with fail;clear y0;have KW:=h_ HKB.o;have BL1:=(h_ fun X (kX:Kp WB X Nul)=>HBA2.o X kX.of_nul);have BL2:=h_ HBB.o;clear HWA HWB HSA HBA HBA2 HBB HR1 HX0;have a0:=(BFx.o WB KW.o).c_ 0 rfl;have a1:=(BFx.o WB KW.o).c_ 1 rfl;have a2:=(BFx.o WB KW.o).c_ 2 rfl;have a3:=(BFx.o WB KW.o).c_ 3 rfl;have f0:=(BL1.o WB (Kp.refl _ _)).c_ 0 rfl;have f1:=(BL1.o WB (Kp.refl _ _)).c_ 1 rfl;go_wp2_with fail;refine(HF1.o _).mono ?_;rintro e w1 ⟨rfl,hk1⟩;have KQ1:=h_ hk1;have KW1:=h_ (KW.o.trans KQ1.o);clear hk1
     (try clear a0 a1 a2 a3)
     (try clear f0 f1)
     cases f1 with
     | false=>
      have e0:=(BEx.o w1 KW1.o).c_ 0 rfl;have e1:=(BEx.o w1 KW1.o).c_ 1 rfl;have e2:=(BEx.o w1 KW1.o).c_ 2 rfl;have e3:=(BEx.o w1 KW1.o).c_ 3 rfl;have f0:=(BL1.o w1 KQ1.o).c_ 0 rfl;have f1:=(BL1.o w1 KQ1.o).c_ 1 rfl;go_wp2_with fail;refine(HT1.o _).mono ?_;rintro e w2 ⟨rfl,hk2⟩;have KQ2:=h_ (KQ1.o.trans hk2);have KW2:=h_ (KW.o.trans KQ2.o);clear hk2
      (try clear e0 e1 e2 e3)
      (try clear f0 f1)
      cases t1 with
      | false=>
       have HGO:Hid (goM Fr Th ⟨5,o',x,s,bb,f,c1,r1,p1,q1,c2,r2,p2,q2⟩=H ⟨5,o',x,s,bb,f,c1,r1,p1,q1,c2,r2,p2,q2⟩):=(by show _=_;rw[hgo];simp);go_wp2_with (first
        | (refine wpList_load_mid rfl 48 (.tmp 7) rfl (w.heap.size+4) 0 rfl [O I 5,O I o',ap ao x,aq s,E bb,O I f,O I c1,O I r1,E p1,E q1,O I c2,O I r2,E p2,E q2,v] _ (j5 (B3.o.kp KW2.o (fun x=>x))) underlying48 rfl j3 ?_)
        | (refine D5 rfl 48 (.tmp 6) (.tmp 85) rfl (w.heap.size+3) [O I 0,O I 0,ap ao 0,aq ⟨#[]⟩,E R,O I 0,O I 0,O I 0,E R,E R,O I 0,O I 0,E R,E R,U G 0 0] [O I 5,O I o',ap ao x,aq s,E bb,O I f,O I c1,O I r1,E p1,E q1,O I c2,O I r2,E p2,E q2,v] _ (B2.o.kp KW2.o (fun x=>x)) rfl rfl rfl j3 (Hd.one ⟨5,o',x,s,bb,f,c1,r1,p1,q1,c2,r2,p2,q2⟩ O1.o) ?_;intro W5 hb5 hk5)
        | fail)
       refine bodyPost_ret (results_cell_row rfl _ _ (w.heap.size+3) 48 _ (0,0) _ rfl hb5 underlying48 rfl j3) rfl ?_;obtain⟨sl',fp',e1,e2,e3⟩:=FIN.o _ W5 HGO.o ((KW2.o.of_nul).trans (hk5.mono (fun i _ z=>.inl z)));first|exact⟨sl',e1,⟨fp',e2⟩,e3⟩|exact⟨sl',fp',e1,e2,e3⟩
      | true=>
       have e0:=(BEx.o w2 KW2.o).c_ 0 rfl;have e1:=(BEx.o w2 KW2.o).c_ 1 rfl;have e2:=(BEx.o w2 KW2.o).c_ 2 rfl;have e3:=(BEx.o w2 KW2.o).c_ 3 rfl;have l0:=(BL2.o w2 KQ2.o).c_ 0 rfl;have l1:=(BL2.o w2 KQ2.o).c_ 1 rfl;go_wp2_with fail;refine(HT1.o _).mono ?_;rintro e w3 ⟨rfl,hk3⟩;have KQ3:=h_ (KQ2.o.trans hk3);have KW3:=h_ (KW.o.trans KQ3.o);clear hk3
       (try clear e0 e1 e2 e3)
       (try clear l0 l1)
       have HGO:Hid (goM Fr Th ⟨5,o',x,s,bb,f,c1,r1,p1,q1,c2,r2,p2,q2⟩=G):=(by show _=_;rw[hgo];simp);go_wp2_with fail;refine(HLo.o _).mono ?_;rintro e w9 ⟨rfl,hk9⟩;have K9:=h_ (KW3.o.trans hk9);clear hk9;have HB9:=h_ (B2.o.kp K9.o (fun x=>x));go_wp2_with (first
        | (refine D5 rfl 48 (.tmp 6) (.tmp 84) rfl (w.heap.size+3) [O I 0,O I 0,ap ao 0,aq ⟨#[]⟩,E R,O I 0,O I 0,O I 0,E R,E R,O I 0,O I 0,E R,E R,U G 0 0] (ndF.hd.cells (U G 0 0)) _ HB9.o rfl rfl rfl j3 (Hd.one ndF.hd rfl) ?_;intro W5 hb5 hk5)
        | fail)
       refine bodyPost_ret (results_cell_row rfl _ _ (w.heap.size+3) 48 _ (0,0) _ rfl hb5 underlying48 rfl j3) rfl ?_;obtain⟨sl',fp',e1,e2,e3⟩:=LOST.o W5 HGO.o (K9.o.of_nul.trans (hk5.mono (fun i _ z=>.inl z)));first|exact⟨sl',e1,⟨fp',e2⟩,e3⟩|exact⟨sl',fp',e1,e2,e3⟩
     | true=>
      have a0:=(BFx.o w1 KW1.o).c_ 0 rfl;have a1:=(BFx.o w1 KW1.o).c_ 1 rfl;have a2:=(BFx.o w1 KW1.o).c_ 2 rfl;have a3:=(BFx.o w1 KW1.o).c_ 3 rfl;have l0:=(BL2.o w1 KQ1.o).c_ 0 rfl;have l1:=(BL2.o w1 KQ1.o).c_ 1 rfl;go_wp2_with fail;refine(HF1.o _).mono ?_;rintro e w2 ⟨rfl,hk2⟩;have KQ2:=h_ (KQ1.o.trans hk2);have KW2:=h_ (KW.o.trans KQ2.o);clear hk2
      (try clear a0 a1 a2 a3)
      (try clear l0 l1)
      have a0:=(BFx.o w2 KW2.o).c_ 0 rfl;have a1:=(BFx.o w2 KW2.o).c_ 1 rfl;have a2:=(BFx.o w2 KW2.o).c_ 2 rfl;have a3:=(BFx.o w2 KW2.o).c_ 3 rfl;have e0:=(BEx.o w2 KW2.o).c_ 0 rfl;have e1:=(BEx.o w2 KW2.o).c_ 1 rfl;have e2:=(BEx.o w2 KW2.o).c_ 2 rfl;have e3:=(BEx.o w2 KW2.o).c_ 3 rfl;have f0:=(BL1.o w2 KQ2.o).c_ 0 rfl;have f1:=(BL1.o w2 KQ2.o).c_ 1 rfl;go_wp2_with fail;refine(HM1.o _).mono ?_;rintro e w7 ⟨rfl,hk7⟩;have KQ7:=h_ (KQ2.o.trans hk7);have KW7:=h_ (KW.o.trans KQ7.o);clear hk7
      (try clear a0 a1 a2 a3)
      (try clear e0 e1 e2 e3)
      (try clear f0 f1)
      have HN7:=h_ (B3.o.kp KW7.o (fun x=>x));have x7:∀X,Kp w7 X (fun i=>i=w.heap.size+4)->X.cell? ⟨w.heap.size,0,G⟩=H (O I 5):=(fun X kX=>((B1.o.kp KW7.o (fun x=>x)).kp kX (by show ¬_=_;omega)).cell rfl);have X7:=h_ x7;clear x7;go_upto_region 15 with (first
       | (refine L8 rfl 32 (.tmp 65) (.tmp 63) rfl (w.heap.size+4) 6 [O I 5,O I o',ap ao x,aq s,E bb,O I f] [O I c1,O I r1] [E p1,E q1,O I c2,O I r2,E p2,E q2,v] [O I M1,O I N1] _ HN7.o rfl rfl rfl rfl F5 (by simp[Value.oneCell']) ?_;intro V1 hb3 hk3;have HG1:Hid (Blk V1 (w.heap.size+4) [O I 5,O I o',ap ao x,aq s,E bb,O I f,O I M1,O I N1,E p1,E q1,O I c2,O I r2,E p2,E q2,v] 48):=hb3;have KG1:Hid (Kp w7 V1 (fun i=>i=w.heap.size+4)):=hk3;clear hb3 hk3)
       | fail)
      have KK1:Hid (Kp wr V1 (fun i=>i=w.heap.size+3∨i=w.heap.size+4)):=KW7.o.of_nul.trans (KG1.o.mono (fun i _ e=>.inr e));have HZ1:=h_ ((B2.o.kp KW7.o (fun x=>x)).kp KG1.o (by show ¬_=_;omega));have y1:=X7.o V1 KG1.o;have HGO:Hid (goM Fr Th ⟨5,o',x,s,bb,f,c1,r1,p1,q1,c2,r2,p2,q2⟩=H ⟨5,o',x,s,bb,f,M1,N1,p1,q1,c2,r2,p2,q2⟩):=(by show _=_;rw[hgo];simp);go_wp2_with (first
       | (refine wpList_load_mid rfl 48 (.tmp 7) rfl (w.heap.size+4) 0 rfl [O I 5,O I o',ap ao x,aq s,E bb,O I f,O I M1,O I N1,E p1,E q1,O I c2,O I r2,E p2,E q2,v] _ (j5 (HG1.o)) underlying48 rfl j3 ?_)
       | (refine D5 rfl 48 (.tmp 6) (.tmp 75) rfl (w.heap.size+3) [O I 0,O I 0,ap ao 0,aq ⟨#[]⟩,E R,O I 0,O I 0,O I 0,E R,E R,O I 0,O I 0,E R,E R,U G 0 0] [O I 5,O I o',ap ao x,aq s,E bb,O I f,O I M1,O I N1,E p1,E q1,O I c2,O I r2,E p2,E q2,v] _ (HZ1.o) rfl rfl rfl j3 (Hd.one ⟨5,o',x,s,bb,f,M1,N1,p1,q1,c2,r2,p2,q2⟩ O1.o) ?_;intro W5 hb5 hk5)
       | fail)
      refine bodyPost_ret (results_cell_row rfl _ _ (w.heap.size+3) 48 _ (0,0) _ rfl hb5 underlying48 rfl j3) rfl ?_;obtain⟨sl',fp',e1,e2,e3⟩:=FIN.o _ W5 HGO.o ((KK1.o).trans (hk5.mono (fun i _ z=>.inl z)));first|exact⟨sl',e1,⟨fp',e2⟩,e3⟩|exact⟨sl',fp',e1,e2,e3⟩
    ·by_cases k6:k=6
     ·skip
      subst k6;clear k5;obtain⟨i1,i2,i3,i4,i5,i6⟩:=HLI.o.2 rfl;simp only at i1 i2 i3 i4 i5 i6;obtain⟨M1,hM1⟩:=e_ (c1+Th.1.1-Fr.1.1);obtain⟨N1,hN1⟩:=e_ (r1+Th.1.2-Fr.1.2);obtain⟨f1,hf1⟩:=e_ (inR Fr.1.1 Fr.1.2 Fr.2.1 Fr.2.2 c1 r1);obtain⟨t1,ht1⟩:=e_ (inR Th.1.1 Th.1.2 Th.2.1 Th.2.2 c1 r1);have HF1:Hid (∀wq,Calls prog 76 #[T #[O I Fr.1.1,O I Fr.1.2,O I Fr.2.1,O I Fr.2.2],T #[O I c1,O I r1]] wq fun e w'=>e=Q (E f1)/\Kp wq w' Nul):=(fun wq=>by rw[<- hf1];exact X9 _ _ _ _ _ _ wq);have HT1:Hid (∀wq,Calls prog 76 #[T #[O I Th.1.1,O I Th.1.2,O I Th.2.1,O I Th.2.2],T #[O I c1,O I r1]] wq fun e w'=>e=Q (E t1)/\Kp wq w' Nul):=(fun wq=>by rw[<- ht1];exact X9 _ _ _ _ _ _ wq);have HM1:Hid (∀wq,Calls prog 80 #[T #[O I c1,O I r1],T #[O I Fr.1.1,O I Fr.1.2,O I Fr.2.1,O I Fr.2.2],T #[O I Th.1.1,O I Th.1.2,O I Th.2.1,O I Th.2.2]] wq fun e w'=>e=Q (T #[O I M1,O I N1])/\Kp wq w' Nul):=fun wq=>j2O _ _ _ _ _ _ _ _ _ _ _ _ wq (by rw[<- hM1];exact j0D HBD.o.1 HBD.o.2.1 (by omega)) (by rw[<- hN1];exact j0D HBD.o.2.2.1 HBD.o.2.2.2 (by omega))
      obtain⟨M2,hM2⟩:=e_ (c2+Th.1.1-Fr.1.1);obtain⟨N2,hN2⟩:=e_ (r2+Th.1.2-Fr.1.2);obtain⟨f2,hf2⟩:=e_ (inR Fr.1.1 Fr.1.2 Fr.2.1 Fr.2.2 c2 r2);obtain⟨t2,ht2⟩:=e_ (inR Th.1.1 Th.1.2 Th.2.1 Th.2.2 c2 r2);have HF2:Hid (∀wq,Calls prog 76 #[T #[O I Fr.1.1,O I Fr.1.2,O I Fr.2.1,O I Fr.2.2],T #[O I c2,O I r2]] wq fun e w'=>e=Q (E f2)/\Kp wq w' Nul):=(fun wq=>by rw[<- hf2];exact X9 _ _ _ _ _ _ wq);have HT2:Hid (∀wq,Calls prog 76 #[T #[O I Th.1.1,O I Th.1.2,O I Th.2.1,O I Th.2.2],T #[O I c2,O I r2]] wq fun e w'=>e=Q (E t2)/\Kp wq w' Nul):=(fun wq=>by rw[<- ht2];exact X9 _ _ _ _ _ _ wq);have HM2:Hid (∀wq,Calls prog 80 #[T #[O I c2,O I r2],T #[O I Fr.1.1,O I Fr.1.2,O I Fr.2.1,O I Fr.2.2],T #[O I Th.1.1,O I Th.1.2,O I Th.2.1,O I Th.2.2]] wq fun e w'=>e=Q (T #[O I M2,O I N2])/\Kp wq w' Nul):=fun wq=>j2O _ _ _ _ _ _ _ _ _ _ _ _ wq (by rw[<- hM2];exact j0D HBD.o.1 HBD.o.2.1 (by omega)) (by rw[<- hN2];exact j0D HBD.o.2.2.1 HBD.o.2.2.2 (by omega))
      have hgo:goM Fr Th ⟨6,o',x,s,bb,f,c1,r1,p1,q1,c2,r2,p2,q2⟩=if (f1&&f2)=J then H ⟨6,o',x,s,bb,f,M1,N1,p1,q1,M2,N2,p2,q2⟩ else if (t1&&t2)=J then G else H ⟨6,o',x,s,bb,f,c1,r1,p1,q1,c2,r2,p2,q2⟩:=(by rw[<- hf1,<- hf2,<- ht1,<- ht2,<- hM1,<- hN1,<- hM2,<- hN2];exact jA8 HOKF.o HOKT.o _ rfl);clear hM1 hN1 hM2 hN2 hf1 hf2 ht1 ht2 i1 i2 i3 i4 i5 i6;obtain⟨WA,hWA⟩:=e_ (wr.alloc (.cells #[O I c1,O I r1] 32));obtain⟨WB,hWB⟩:=e_ (WA.alloc (.cells #[O I c1,O I r1] 32));have HWA:=h_ hWA;have HWB:=h_ hWB;have kA:Kp wr WA Nul:=(by rw[<- hWA];exact(Kp.refl _ _).alloc _);have kB:Kp WA WB Nul:=(by rw[<- hWB];exact(Kp.refl _ _).alloc _);have sA:WA.heap.size=wr.heap.size+1:=(by rw[<- hWA,World.size_alloc]);have HSA:=h_ sA;have bA:Blk WA wr.heap.size [O I c1,O I r1] 32:=by rw[<- hWA];exact Blk.new _ _ _
      have bB:Blk WB (wr.heap.size+1) [O I c1,O I r1] 32:=(by rw[<- hWB,<- sA];exact Blk.new _ _ _);have HBA:=h_ bA;have HBB:=k_ bB;have HBA2:=(h_ fun X (kX:Kp WB X (fun i=>i=wr.heap.size+1))=>(bA.kp kB (fun x=>x)).kp kX (by show ¬_=_;omega));have HKB:=h_ (kA.trans kB);have HR1:Hid (wr.rangeAt w.heap.size 6 [O I c1,O I r1]):=J4 (pre:=[O I 6,O I o',ap ao x,aq s,E bb,O I f]) (post:=[E p1,E q1,O I c2,O I r2,E p2,E q2,U a q c]) B1.o;have x0':=(B1.o.kp HKB.o (fun x=>x)).c_ 0 rfl;have HX0:=h_ x0';clear hWA hWB kA kB sA bA bB x0';go_upto_region 10 with (first
       | (rw[HWA.o])
       | (refine wpList_load_mid rfl 32 (.tmp 43) rfl w.heap.size 6 rfl [O I c1,O I r1] _ HR1.o underlying32 rfl F5 ?_)
       | (refine F9 rfl 32 (.tmp 9) (.tmp 44) rfl _ _ _ _ _ (by first|rfl|simp) rfl rfl rfl F5 (by simp[Value.oneCell']) ?_)
       | fail)
      (try simp only[Act.put])
      (try rw[HWA.o])
      clear x0;have f0:=HBA.o.c_ 0 rfl;have f1':=HBA.o.c_ 1 rfl;go_upto_region 11 with (first
       | (rw[HWB.o])
       | (refine F9 rfl 32 (.tmp 10) (.tmp 45) rfl _ _ _ _ _ (by first|rfl|simp) rfl rfl rfl F5 (by simp[Value.oneCell']) ?_)
       | fail)
      (try simp only[Act.put])
      (try rw[HWB.o])
      (try rw[HSA.o])
      clear f0 f1';have y0:=HX0.o;have HR2:Hid (WB.rangeAt w.heap.size 10 [O I c2,O I r2]):=J4 (pre:=[O I 6,O I o',ap ao x,aq s,E bb,O I f,O I c1,O I r1,E p1,E q1]) (post:=[E p2,E q2,U a q c]) (B1.o.kp HKB.o (fun x=>x));go_upto_region 13 with (first
       | (refine wpList_load_mid rfl 32 (.tmp 50) rfl w.heap.size 10 rfl [O I c2,O I r2] _ HR2.o underlying32 rfl F5 ?_)
       | (refine D5 rfl 32 (.tmp 10) (.tmp 51) rfl (wr.heap.size+1) [O I c1,O I r1] [O I c2,O I r2] _ (HBB.o _ (Kp.refl _ _)) rfl rfl rfl F5 (by simp[Value.oneCell']) ?_;intro W6 hb6 hk6;have HB6:Hid (Blk W6 (wr.heap.size+1) [O I c2,O I r2] 32):=hb6;have HK6:Hid (Kp WB W6 (fun i=>i=wr.heap.size+1)):=hk6;clear hb6 hk6)
       | fail)
      (try clear y0)
      have KW:=h_ (HKB.o.trans' HK6.o (fun i hi e=>by have e':i=wr.heap.size+1:=e;omega));have BL1:=(h_ fun X (kX:Kp W6 X Nul)=>(HBA2.o W6 HK6.o).kp kX (fun x=>x));have BL2:=(h_ fun X (kX:Kp W6 X Nul)=>HB6.o.kp kX (fun x=>x));clear HWA HWB HSA HBA HBA2 HBB HR1 HX0 HR2 HK6 HB6;have a0:=(BFx.o W6 KW.o).c_ 0 rfl;have a1:=(BFx.o W6 KW.o).c_ 1 rfl;have a2:=(BFx.o W6 KW.o).c_ 2 rfl;have a3:=(BFx.o W6 KW.o).c_ 3 rfl;have f0:=(BL1.o W6 (Kp.refl _ _)).c_ 0 rfl;have f1:=(BL1.o W6 (Kp.refl _ _)).c_ 1 rfl;go_wp2_with fail;refine(HF1.o _).mono ?_;rintro e w1 ⟨rfl,hk1⟩;have KQ1:=h_ hk1;have KW1:=h_ (KW.o.trans KQ1.o);clear hk1
      (try clear a0 a1 a2 a3)
      (try clear f0 f1)
      cases f1 with
      | false=>
       have e0:=(BEx.o w1 KW1.o).c_ 0 rfl;have e1:=(BEx.o w1 KW1.o).c_ 1 rfl;have e2:=(BEx.o w1 KW1.o).c_ 2 rfl;have e3:=(BEx.o w1 KW1.o).c_ 3 rfl;have f0:=(BL1.o w1 KQ1.o).c_ 0 rfl;have f1:=(BL1.o w1 KQ1.o).c_ 1 rfl;go_wp2_with fail;refine(HT1.o _).mono ?_;rintro e w2 ⟨rfl,hk2⟩;have KQ2:=h_ (KQ1.o.trans hk2);have KW2:=h_ (KW.o.trans KQ2.o);clear hk2
       (try clear e0 e1 e2 e3)
       (try clear f0 f1)
       cases t1 with
       | false=>
        have HGO:Hid (goM Fr Th ⟨6,o',x,s,bb,f,c1,r1,p1,q1,c2,r2,p2,q2⟩=H ⟨6,o',x,s,bb,f,c1,r1,p1,q1,c2,r2,p2,q2⟩):=(by show _=_;rw[hgo];simp);go_wp2_with (first
         | (refine wpList_load_mid rfl 48 (.tmp 7) rfl (w.heap.size+4) 0 rfl [O I 6,O I o',ap ao x,aq s,E bb,O I f,O I c1,O I r1,E p1,E q1,O I c2,O I r2,E p2,E q2,v] _ (j5 (B3.o.kp KW2.o (fun x=>x))) underlying48 rfl j3 ?_)
         | (refine D5 rfl 48 (.tmp 6) (.tmp 85) rfl (w.heap.size+3) [O I 0,O I 0,ap ao 0,aq ⟨#[]⟩,E R,O I 0,O I 0,O I 0,E R,E R,O I 0,O I 0,E R,E R,U G 0 0] [O I 6,O I o',ap ao x,aq s,E bb,O I f,O I c1,O I r1,E p1,E q1,O I c2,O I r2,E p2,E q2,v] _ (B2.o.kp KW2.o (fun x=>x)) rfl rfl rfl j3 (Hd.one ⟨6,o',x,s,bb,f,c1,r1,p1,q1,c2,r2,p2,q2⟩ O1.o) ?_;intro W5 hb5 hk5)
         | fail)
        refine bodyPost_ret (results_cell_row rfl _ _ (w.heap.size+3) 48 _ (0,0) _ rfl hb5 underlying48 rfl j3) rfl ?_;obtain⟨sl',fp',e1,e2,e3⟩:=FIN.o _ W5 HGO.o ((KW2.o.of_nul).trans (hk5.mono (fun i _ z=>.inl z)));first|exact⟨sl',e1,⟨fp',e2⟩,e3⟩|exact⟨sl',fp',e1,e2,e3⟩
       | true=>
        have e0:=(BEx.o w2 KW2.o).c_ 0 rfl;have e1:=(BEx.o w2 KW2.o).c_ 1 rfl;have e2:=(BEx.o w2 KW2.o).c_ 2 rfl;have e3:=(BEx.o w2 KW2.o).c_ 3 rfl;have l0:=(BL2.o w2 KQ2.o).c_ 0 rfl;have l1:=(BL2.o w2 KQ2.o).c_ 1 rfl;go_wp2_with fail;refine(HT2.o _).mono ?_;rintro e w3 ⟨rfl,hk3⟩;have KQ3:=h_ (KQ2.o.trans hk3);have KW3:=h_ (KW.o.trans KQ3.o);clear hk3
        (try clear e0 e1 e2 e3)
        (try clear l0 l1)
        cases t2 with
        | false=>
         have HGO:Hid (goM Fr Th ⟨6,o',x,s,bb,f,c1,r1,p1,q1,c2,r2,p2,q2⟩=H ⟨6,o',x,s,bb,f,c1,r1,p1,q1,c2,r2,p2,q2⟩):=(by show _=_;rw[hgo];simp);go_wp2_with (first
          | (refine wpList_load_mid rfl 48 (.tmp 7) rfl (w.heap.size+4) 0 rfl [O I 6,O I o',ap ao x,aq s,E bb,O I f,O I c1,O I r1,E p1,E q1,O I c2,O I r2,E p2,E q2,v] _ (j5 (B3.o.kp KW3.o (fun x=>x))) underlying48 rfl j3 ?_)
          | (refine D5 rfl 48 (.tmp 6) (.tmp 85) rfl (w.heap.size+3) [O I 0,O I 0,ap ao 0,aq ⟨#[]⟩,E R,O I 0,O I 0,O I 0,E R,E R,O I 0,O I 0,E R,E R,U G 0 0] [O I 6,O I o',ap ao x,aq s,E bb,O I f,O I c1,O I r1,E p1,E q1,O I c2,O I r2,E p2,E q2,v] _ (B2.o.kp KW3.o (fun x=>x)) rfl rfl rfl j3 (Hd.one ⟨6,o',x,s,bb,f,c1,r1,p1,q1,c2,r2,p2,q2⟩ O1.o) ?_;intro W5 hb5 hk5)
          | fail)
         refine bodyPost_ret (results_cell_row rfl _ _ (w.heap.size+3) 48 _ (0,0) _ rfl hb5 underlying48 rfl j3) rfl ?_;obtain⟨sl',fp',e1,e2,e3⟩:=FIN.o _ W5 HGO.o ((KW3.o.of_nul).trans (hk5.mono (fun i _ z=>.inl z)));first|exact⟨sl',e1,⟨fp',e2⟩,e3⟩|exact⟨sl',fp',e1,e2,e3⟩
        | true=>
         have HGO:Hid (goM Fr Th ⟨6,o',x,s,bb,f,c1,r1,p1,q1,c2,r2,p2,q2⟩=G):=(by show _=_;rw[hgo];simp);go_wp2_with fail;refine(HLo.o _).mono ?_;rintro e w9 ⟨rfl,hk9⟩;have K9:=h_ (KW3.o.trans hk9);clear hk9;have HB9:=h_ (B2.o.kp K9.o (fun x=>x));go_wp2_with (first
          | (refine D5 rfl 48 (.tmp 6) (.tmp 84) rfl (w.heap.size+3) [O I 0,O I 0,ap ao 0,aq ⟨#[]⟩,E R,O I 0,O I 0,O I 0,E R,E R,O I 0,O I 0,E R,E R,U G 0 0] (ndF.hd.cells (U G 0 0)) _ HB9.o rfl rfl rfl j3 (Hd.one ndF.hd rfl) ?_;intro W5 hb5 hk5)
          | fail)
         refine bodyPost_ret (results_cell_row rfl _ _ (w.heap.size+3) 48 _ (0,0) _ rfl hb5 underlying48 rfl j3) rfl ?_;obtain⟨sl',fp',e1,e2,e3⟩:=LOST.o W5 HGO.o (K9.o.of_nul.trans (hk5.mono (fun i _ z=>.inl z)));first|exact⟨sl',e1,⟨fp',e2⟩,e3⟩|exact⟨sl',fp',e1,e2,e3⟩
      | true=>
       have a0:=(BFx.o w1 KW1.o).c_ 0 rfl;have a1:=(BFx.o w1 KW1.o).c_ 1 rfl;have a2:=(BFx.o w1 KW1.o).c_ 2 rfl;have a3:=(BFx.o w1 KW1.o).c_ 3 rfl;have l0:=(BL2.o w1 KQ1.o).c_ 0 rfl;have l1:=(BL2.o w1 KQ1.o).c_ 1 rfl;go_wp2_with fail;refine(HF2.o _).mono ?_;rintro e w2 ⟨rfl,hk2⟩;have KQ2:=h_ (KQ1.o.trans hk2);have KW2:=h_ (KW.o.trans KQ2.o);clear hk2
       (try clear a0 a1 a2 a3)
       (try clear l0 l1)
       cases f2 with
       | false=>
        have e0:=(BEx.o w2 KW2.o).c_ 0 rfl;have e1:=(BEx.o w2 KW2.o).c_ 1 rfl;have e2:=(BEx.o w2 KW2.o).c_ 2 rfl;have e3:=(BEx.o w2 KW2.o).c_ 3 rfl;have f0:=(BL1.o w2 KQ2.o).c_ 0 rfl;have f1:=(BL1.o w2 KQ2.o).c_ 1 rfl;go_wp2_with fail;refine(HT1.o _).mono ?_;rintro e w3 ⟨rfl,hk3⟩;have KQ3:=h_ (KQ2.o.trans hk3);have KW3:=h_ (KW.o.trans KQ3.o);clear hk3
        (try clear e0 e1 e2 e3)
        (try clear f0 f1)
        cases t1 with
        | false=>
         have HGO:Hid (goM Fr Th ⟨6,o',x,s,bb,f,c1,r1,p1,q1,c2,r2,p2,q2⟩=H ⟨6,o',x,s,bb,f,c1,r1,p1,q1,c2,r2,p2,q2⟩):=(by show _=_;rw[hgo];simp);go_wp2_with (first
          | (refine wpList_load_mid rfl 48 (.tmp 7) rfl (w.heap.size+4) 0 rfl [O I 6,O I o',ap ao x,aq s,E bb,O I f,O I c1,O I r1,E p1,E q1,O I c2,O I r2,E p2,E q2,v] _ (j5 (B3.o.kp KW3.o (fun x=>x))) underlying48 rfl j3 ?_)
          | (refine D5 rfl 48 (.tmp 6) (.tmp 85) rfl (w.heap.size+3) [O I 0,O I 0,ap ao 0,aq ⟨#[]⟩,E R,O I 0,O I 0,O I 0,E R,E R,O I 0,O I 0,E R,E R,U G 0 0] [O I 6,O I o',ap ao x,aq s,E bb,O I f,O I c1,O I r1,E p1,E q1,O I c2,O I r2,E p2,E q2,v] _ (B2.o.kp KW3.o (fun x=>x)) rfl rfl rfl j3 (Hd.one ⟨6,o',x,s,bb,f,c1,r1,p1,q1,c2,r2,p2,q2⟩ O1.o) ?_;intro W5 hb5 hk5)
          | fail)
         refine bodyPost_ret (results_cell_row rfl _ _ (w.heap.size+3) 48 _ (0,0) _ rfl hb5 underlying48 rfl j3) rfl ?_;obtain⟨sl',fp',e1,e2,e3⟩:=FIN.o _ W5 HGO.o ((KW3.o.of_nul).trans (hk5.mono (fun i _ z=>.inl z)));first|exact⟨sl',e1,⟨fp',e2⟩,e3⟩|exact⟨sl',fp',e1,e2,e3⟩
        | true=>
         have e0:=(BEx.o w3 KW3.o).c_ 0 rfl;have e1:=(BEx.o w3 KW3.o).c_ 1 rfl;have e2:=(BEx.o w3 KW3.o).c_ 2 rfl;have e3:=(BEx.o w3 KW3.o).c_ 3 rfl;have l0:=(BL2.o w3 KQ3.o).c_ 0 rfl;have l1:=(BL2.o w3 KQ3.o).c_ 1 rfl;go_wp2_with fail;refine(HT2.o _).mono ?_;rintro e w4 ⟨rfl,hk4⟩;have KQ4:=h_ (KQ3.o.trans hk4);have KW4:=h_ (KW.o.trans KQ4.o);clear hk4
         (try clear e0 e1 e2 e3)
         (try clear l0 l1)
         cases t2 with
         | false=>
          have HGO:Hid (goM Fr Th ⟨6,o',x,s,bb,f,c1,r1,p1,q1,c2,r2,p2,q2⟩=H ⟨6,o',x,s,bb,f,c1,r1,p1,q1,c2,r2,p2,q2⟩):=(by show _=_;rw[hgo];simp);go_wp2_with (first
           | (refine wpList_load_mid rfl 48 (.tmp 7) rfl (w.heap.size+4) 0 rfl [O I 6,O I o',ap ao x,aq s,E bb,O I f,O I c1,O I r1,E p1,E q1,O I c2,O I r2,E p2,E q2,v] _ (j5 (B3.o.kp KW4.o (fun x=>x))) underlying48 rfl j3 ?_)
           | (refine D5 rfl 48 (.tmp 6) (.tmp 85) rfl (w.heap.size+3) [O I 0,O I 0,ap ao 0,aq ⟨#[]⟩,E R,O I 0,O I 0,O I 0,E R,E R,O I 0,O I 0,E R,E R,U G 0 0] [O I 6,O I o',ap ao x,aq s,E bb,O I f,O I c1,O I r1,E p1,E q1,O I c2,O I r2,E p2,E q2,v] _ (B2.o.kp KW4.o (fun x=>x)) rfl rfl rfl j3 (Hd.one ⟨6,o',x,s,bb,f,c1,r1,p1,q1,c2,r2,p2,q2⟩ O1.o) ?_;intro W5 hb5 hk5)
           | fail)
          refine bodyPost_ret (results_cell_row rfl _ _ (w.heap.size+3) 48 _ (0,0) _ rfl hb5 underlying48 rfl j3) rfl ?_;obtain⟨sl',fp',e1,e2,e3⟩:=FIN.o _ W5 HGO.o ((KW4.o.of_nul).trans (hk5.mono (fun i _ z=>.inl z)));first|exact⟨sl',e1,⟨fp',e2⟩,e3⟩|exact⟨sl',fp',e1,e2,e3⟩
         | true=>
          have HGO:Hid (goM Fr Th ⟨6,o',x,s,bb,f,c1,r1,p1,q1,c2,r2,p2,q2⟩=G):=(by show _=_;rw[hgo];simp);go_wp2_with fail;refine(HLo.o _).mono ?_;rintro e w9 ⟨rfl,hk9⟩;have K9:=h_ (KW4.o.trans hk9);clear hk9;have HB9:=h_ (B2.o.kp K9.o (fun x=>x));go_wp2_with (first
           | (refine D5 rfl 48 (.tmp 6) (.tmp 84) rfl (w.heap.size+3) [O I 0,O I 0,ap ao 0,aq ⟨#[]⟩,E R,O I 0,O I 0,O I 0,E R,E R,O I 0,O I 0,E R,E R,U G 0 0] (ndF.hd.cells (U G 0 0)) _ HB9.o rfl rfl rfl j3 (Hd.one ndF.hd rfl) ?_;intro W5 hb5 hk5)
           | fail)
          refine bodyPost_ret (results_cell_row rfl _ _ (w.heap.size+3) 48 _ (0,0) _ rfl hb5 underlying48 rfl j3) rfl ?_;obtain⟨sl',fp',e1,e2,e3⟩:=LOST.o W5 HGO.o (K9.o.of_nul.trans (hk5.mono (fun i _ z=>.inl z)));first|exact⟨sl',e1,⟨fp',e2⟩,e3⟩|exact⟨sl',fp',e1,e2,e3⟩
       | true=>
        have a0:=(BFx.o w2 KW2.o).c_ 0 rfl;have a1:=(BFx.o w2 KW2.o).c_ 1 rfl;have a2:=(BFx.o w2 KW2.o).c_ 2 rfl;have a3:=(BFx.o w2 KW2.o).c_ 3 rfl;have e0:=(BEx.o w2 KW2.o).c_ 0 rfl;have e1:=(BEx.o w2 KW2.o).c_ 1 rfl;have e2:=(BEx.o w2 KW2.o).c_ 2 rfl;have e3:=(BEx.o w2 KW2.o).c_ 3 rfl;have f0:=(BL1.o w2 KQ2.o).c_ 0 rfl;have f1:=(BL1.o w2 KQ2.o).c_ 1 rfl;go_wp2_with fail;refine(HM1.o _).mono ?_;rintro e w7 ⟨rfl,hk7⟩;have KQ7:=h_ (KQ2.o.trans hk7);have KW7:=h_ (KW.o.trans KQ7.o);clear hk7
        (try clear a0 a1 a2 a3)
        (try clear e0 e1 e2 e3)
        (try clear f0 f1)
        have HN7:=h_ (B3.o.kp KW7.o (fun x=>x));have x7:∀X,Kp w7 X (fun i=>i=w.heap.size+4)->X.cell? ⟨w.heap.size,0,G⟩=H (O I 6):=(fun X kX=>((B1.o.kp KW7.o (fun x=>x)).kp kX (by show ¬_=_;omega)).cell rfl);have X7:=h_ x7;clear x7;go_upto_region 15 with (first
         | (refine L8 rfl 32 (.tmp 65) (.tmp 63) rfl (w.heap.size+4) 6 [O I 6,O I o',ap ao x,aq s,E bb,O I f] [O I c1,O I r1] [E p1,E q1,O I c2,O I r2,E p2,E q2,v] [O I M1,O I N1] _ HN7.o rfl rfl rfl rfl F5 (by simp[Value.oneCell']) ?_;intro V1 hb3 hk3;have HG1:Hid (Blk V1 (w.heap.size+4) [O I 6,O I o',ap ao x,aq s,E bb,O I f,O I M1,O I N1,E p1,E q1,O I c2,O I r2,E p2,E q2,v] 48):=hb3;have KG1:Hid (Kp w7 V1 (fun i=>i=w.heap.size+4)):=hk3;clear hb3 hk3)
         | fail)
        have KK1:Hid (Kp wr V1 (fun i=>i=w.heap.size+3∨i=w.heap.size+4)):=KW7.o.of_nul.trans (KG1.o.mono (fun i _ e=>.inr e));have HZ1:=h_ ((B2.o.kp KW7.o (fun x=>x)).kp KG1.o (by show ¬_=_;omega));have y1:=X7.o V1 KG1.o;have HGO:Hid (goM Fr Th ⟨6,o',x,s,bb,f,c1,r1,p1,q1,c2,r2,p2,q2⟩=H ⟨6,o',x,s,bb,f,M1,N1,p1,q1,M2,N2,p2,q2⟩):=(by show _=_;rw[hgo];simp);have KQ8:=h_ (KQ7.o.of_nul.trans KG1.o);have l0:=((BL2.o w7 KQ7.o).kp KG1.o (by show ¬_=_;omega)).c_ 0 rfl;have l1:=((BL2.o w7 KQ7.o).kp KG1.o (by show ¬_=_;omega)).c_ 1 rfl;have BF8:=(BFx.o w7 KW7.o).kp KG1.o (by show ¬_=_;omega);have a0:=BF8.c_ 0 rfl;have a1:=BF8.c_ 1 rfl;have a2:=BF8.c_ 2 rfl;have a3:=BF8.c_ 3 rfl;have BE8:=(BEx.o w7 KW7.o).kp KG1.o (by show ¬_=_;omega);have e0:=BE8.c_ 0 rfl;have e1:=BE8.c_ 1 rfl;have e2:=BE8.c_ 2 rfl;have e3:=BE8.c_ 3 rfl;clear BF8 BE8;go_wp2_with fail
        refine(HM2.o _).mono ?_;rintro e w8 ⟨rfl,hk8⟩;have K8:=h_ hk8;have HG8:=h_ (HG1.o.kp hk8 (fun x=>x));clear hk8 y1 l0 l1 a0 a1 a2 a3 e0 e1 e2 e3;go_upto_region 17 with (first
         | (refine L8 rfl 32 (.tmp 74) (.tmp 72) rfl (w.heap.size+4) 10 [O I 6,O I o',ap ao x,aq s,E bb,O I f,O I M1,O I N1,E p1,E q1] [O I c2,O I r2] [E p2,E q2,v] [O I M2,O I N2] _ HG8.o rfl rfl rfl rfl F5 (by simp[Value.oneCell']) ?_;intro V2 hb3 hk3;have HG2:Hid (Blk V2 (w.heap.size+4) [O I 6,O I o',ap ao x,aq s,E bb,O I f,O I M1,O I N1,E p1,E q1,O I M2,O I N2,E p2,E q2,v] 48):=hb3;have KG2:Hid (Kp w8 V2 (fun i=>i=w.heap.size+4)):=hk3;clear hb3 hk3)
         | fail)
        have KK2:Hid (Kp wr V2 (fun i=>i=w.heap.size+3∨i=w.heap.size+4)):=(KK1.o.trans K8.o.of_nul).trans (KG2.o.mono (fun i _ e=>.inr e));have HZ2:=h_ ((HZ1.o.kp K8.o (fun x=>x)).kp KG2.o (by show ¬_=_;omega));go_wp2_with (first
         | (refine wpList_load_mid rfl 48 (.tmp 7) rfl (w.heap.size+4) 0 rfl [O I 6,O I o',ap ao x,aq s,E bb,O I f,O I M1,O I N1,E p1,E q1,O I M2,O I N2,E p2,E q2,v] _ (j5 (HG2.o)) underlying48 rfl j3 ?_)
         | (refine D5 rfl 48 (.tmp 6) (.tmp 75) rfl (w.heap.size+3) [O I 0,O I 0,ap ao 0,aq ⟨#[]⟩,E R,O I 0,O I 0,O I 0,E R,E R,O I 0,O I 0,E R,E R,U G 0 0] [O I 6,O I o',ap ao x,aq s,E bb,O I f,O I M1,O I N1,E p1,E q1,O I M2,O I N2,E p2,E q2,v] _ (HZ2.o) rfl rfl rfl j3 (Hd.one ⟨6,o',x,s,bb,f,M1,N1,p1,q1,M2,N2,p2,q2⟩ O1.o) ?_;intro W5 hb5 hk5)
         | fail)
        refine bodyPost_ret (results_cell_row rfl _ _ (w.heap.size+3) 48 _ (0,0) _ rfl hb5 underlying48 rfl j3) rfl ?_;obtain⟨sl',fp',e1,e2,e3⟩:=FIN.o _ W5 HGO.o ((KK2.o).trans (hk5.mono (fun i _ z=>.inl z)));first|exact⟨sl',e1,⟨fp',e2⟩,e3⟩|exact⟨sl',fp',e1,e2,e3⟩
     ·skip
      have HGO:Hid (goM Fr Th ⟨k,o',x,s,bb,f,c1,r1,p1,q1,c2,r2,p2,q2⟩=H ⟨k,o',x,s,bb,f,c1,r1,p1,q1,c2,r2,p2,q2⟩):=(by show _=_;unfold goM;rw[if_neg (by rintro(e|e);exact k5 e;exact k6 e)]);have n5:(k==5)=R:=(by simpa using k5);have n6:(k==6)=R:=(by simpa using k6);have m5:(k != 5)=J:=(by simpa using k5);have m6:(k != 6)=J:=(by simpa using k6);go_wp2_with (first
       | (refine wpList_load_mid rfl 48 (.tmp 7) rfl (w.heap.size+4) 0 rfl [O I k,O I o',ap ao x,aq s,E bb,O I f,O I c1,O I r1,E p1,E q1,O I c2,O I r2,E p2,E q2,v] _ (j5 (B3.o)) underlying48 rfl j3 ?_)
       | (refine D5 rfl 48 (.tmp 6) (.tmp 41) rfl (w.heap.size+3) [O I 0,O I 0,ap ao 0,aq ⟨#[]⟩,E R,O I 0,O I 0,O I 0,E R,E R,O I 0,O I 0,E R,E R,U G 0 0] [O I k,O I o',ap ao x,aq s,E bb,O I f,O I c1,O I r1,E p1,E q1,O I c2,O I r2,E p2,E q2,v] _ (B2.o) rfl rfl rfl j3 (Hd.one ⟨k,o',x,s,bb,f,c1,r1,p1,q1,c2,r2,p2,q2⟩ O1.o) ?_;intro W5 hb5 hk5)
       | fail)
      refine bodyPost_ret (results_cell_row rfl _ _ (w.heap.size+3) 48 _ (0,0) _ rfl hb5 underlying48 rfl j3) rfl ?_;obtain⟨sl',fp',e1,e2,e3⟩:=FIN.o _ W5 HGO.o ((Kp.refl _ _).trans (hk5.mono (fun i _ z=>.inl z)));first|exact⟨sl',e1,⟨fp',e2⟩,e3⟩|exact⟨sl',fp',e1,e2,e3⟩
end
end Go.Proofs.YtecjfnkakodebaaGreatDoor
