/-Move: along. -/
import Derived.Test.YtecjfnkakodebaaGreatDoorRmMvd
import Derived.Test.YtecjfnkakodebaaGreatDoorRmPrg
open Go.Proofs.Tryz
open Go.Value renaming int->O,bool->E,slice->U,agg->T,pointer->an,float->ap,string->aq,tuple->au
open Go.IntKind renaming i64->I
open Bool renaming false->R,true->J
open Option renaming some->H,none->G
open Go.Ending renaming returned->Q
open Go.FloatKind renaming f64->ao
set_option maxRecDepth 20000
set_option maxHeartbeats 16000000
namespace Go.Proofs.YtecjfnkakodebaaGreatDoor
section
open Go.RowKit
abbrev alF (pf pw:Nat):Value:=.func (.func 141) #[] #[an (H ⟨pf,0,G⟩),an (H ⟨pw,0,G⟩)]
structure AlR (f:Fate) (t:Nd) (fp:List Nat) (w w':World) (sl':Value) (fp':List Nat):Prop where
 own:D2 w' sl' (alN f t) fp'
 sub:fp'.Sublist fp
 kp:Kp w w' (fun i=>i∈fp)
structure AlS (w':World) (N:Nat) (nc:List Value) (pw:Nat) (fv:Value) (A:Nat) (ac:List Value):Prop where
 n:Blk w' N nc 48
 w:Blk w' pw [fv] 119
 a:Blk w' A ac 48
theorem AlS.kp {w1 w2:World}{N pw A:Nat}{nc ac:List Value}{fv:Value}{S:Nat->Prop}(h:AlS w1 N nc pw fv A ac)(k:Kp w1 w2 S)(h1:¬S N)(h2:¬S pw)(h3:¬S A):AlS w2 N nc pw fv A ac:=⟨h.n.kp k h1,h.w.kp k h2,h.a.kp k h3⟩
theorem AlS.nul {w1 w2:World}{N pw A:Nat}{nc ac:List Value}{fv:Value}(h:AlS w1 N nc pw fv A ac)(k:Kp w1 w2 Nul):AlS w2 N nc pw fv A ac:=h.kp k (fun x=>x) (fun x=>x) (fun x=>x)
theorem AlS.n14 {w1:World}{N pw A:Nat}{nc ac:List Value}{fv v:Value}(h:AlS w1 N nc pw fv A ac)(hv:nc[14]? = H v):w1.cell? ⟨N,14,G⟩=H v:=h.n.cell hv
theorem AlS.w0 {w1:World}{N pw A:Nat}{nc ac:List Value}{fv:Value}(h:AlS w1 N nc pw fv A ac):w1.cell? ⟨pw,0,G⟩=H fv:=h.w.cell rfl
theorem Kp.of_size {w w1 w2:World}{S ak:Nat->Prop}(h:Kp w w1 S)(k:Kp w1 w2 ak)(hT:∀i,i<w.heap.size->¬ak i):Kp w w2 S:=
 ⟨k.os.trans h.os,k.tape.trans h.tape,k.output.trans h.output,Nat.le_trans h.size k.size,fun i hi hs=>(k.block i (Nat.lt_of_lt_of_le hi h.size) (hT i hi)).trans (h.block i hi hs)⟩
def nmFp (f:Fate) (h:Hd) (fp:List Nat):List Nat:=match f (nmA h) with
 | none=>[]
 | some _=>fp
theorem j61 (f:Fate)(hd:Hd)(ts:List Nd)(sl:Value)(fp:List Nat)(w w':World)(h:D2 w sl (.mk hd ts) fp)(k:Kp w w' Nul)(hk:hd.k=5∨hd.k=6):AlR f (.mk hd ts) fp w w' (nmS f hd sl) (nmFp f hd fp):=by
 have h':D2 w' sl (.mk hd ts) fp:=h.mono (fun b hb=>k.block b (F4 (h.node b hb)) (fun x=>x));have e:alN f (.mk hd ts)=nmN f (.mk hd ts):=by rw[alN,if_pos hk]
 unfold nmS nmFp;refine⟨?_,?_,k.mono (fun _ _ q=>q.elim)⟩
 ·rw[e];unfold nmN;simp only[Nd.hd,Nd.ts];cases f (nmA hd) with
  | none=>exact .inl ⟨rfl,rfl,rfl⟩
  | some a=>rw[D2] at h' ⊢;exact h'
 ·cases f (nmA hd) with
  | none=>exact List.nil_sublist _
  | some a=>exact List.Sublist.refl _
end
section
open Go.RowKit Go.Maps
structure AlE (w:World) (pf pw:Nat) (FZ:FK):Prop where
 f:Blk w pf [FZ.val] 115
 g:Blk w pw [alF pf pw] 119
 k:FZ.In w
theorem AlE.kp {w w':World}{pf pw:Nat}{FZ:FK}{S:Nat->Prop}(h:AlE w pf pw FZ)(k:Kp w w' S)(hS:∀i,S i->∃cs:Array Value,w.heap[i]? = H (.cells cs 48 (0,0))):AlE w' pf pw FZ:=by
 have ne:∀ {b:Nat} {cs:List Value} {t:TypeId},Blk w b cs t->t ≠ 48->¬S b:=fun {b cs t} hb ht q=>by
  obtain⟨cs',e⟩:=hS b q;unfold Blk at hb;rw[hb] at e;simp only[Option.some.injEq,Obj.cells.injEq] at e;exact ht e.2.1
 exact⟨h.f.kp k (ne h.f (by decide)),h.g.kp k (ne h.g (by decide)),h.k.c.kp k (ne h.k.c (by rcases h.k.ty with e|e <;> rw[e] <;> decide)),h.k.r.kp k (ne h.k.r (by rcases h.k.ty with e|e <;> rw[e] <;> decide)),h.k.ty⟩
theorem AlE.nul {w w':World}{pf pw:Nat}{FZ:FK}(h:AlE w pf pw FZ)(k:Kp w w' Nul):AlE w' pf pw FZ:=h.kp k (fun _ q=>q.elim)
theorem j7k (pf pw:Nat)(FZ:FK)(hl:FZ.Ok)(N:Nat):∀(t:Nd) (sl:Value) (fp:List Nat) (w:World),t.size<=N->D2 w sl t fp->fp.Nodup->AlE w pf pw FZ ->
 Calls prog 141 #[t.hd.val sl,an (H ⟨pf,0,G⟩),an (H ⟨pw,0,G⟩)] w fun e w'=>∃sl' fp',e=Q ((alN (FZ.f) t).hd.val sl')/\AlR (FZ.f) t fp w w' sl' fp':=by
 induction N with
 | zero=>intro t sl fp w h;have:=L7 t;omega
 | succ N ih=>
  intro t sl fp w hN hown hnd hE;have IH:Hid (∀(t:Nd) (sl:Value) (fp:List Nat) (w:World),t.size<=N->D2 w sl t fp->fp.Nodup->AlE w pf pw FZ ->
   Calls prog 141 #[t.hd.val sl,an (H ⟨pf,0,G⟩),an (H ⟨pw,0,G⟩)] w fun e w'=>∃sl' fp',e=Q ((alN (FZ.f) t).hd.val sl')/\AlR (FZ.f) t fp w w' sl' fp'):=ih
  have HNm:=h_ fun (hd:Hd) (ts:List Nd) (sl:Value) (hs:sl.oneCell'=J) w (hk:FZ.In w)=>jBV FZ hl hd ts sl hs w hk
  generalize FZ.f=f at *;have O1:=h_ hown.one;have HE:=h_ hE;have HOwn:=h_ hown;have HNd:=h_ hnd;have HN:=h_ hN;clear ih hown hnd hE hl hN;obtain⟨hd,ts⟩:=t;change Calls prog _ #[hd.val sl,_,_] w _
  obtain⟨W0,hW0⟩:=e_ ((w.alloc (.cells (hd.cells sl).toArray 48)).alloc (.cells #[O I 0,O I 0,ap ao 0,aq ⟨#[]⟩,E R,O I 0,O I 0,O I 0,E R,E R,O I 0,O I 0,E R,E R,U G 0 0] 48));have k0:Hid (Kp w W0 Nul):=by show Kp _ _ _;rw[<- hW0];exact((Kp.refl w Nul).alloc _).alloc _
  have b1:Hid (Blk W0 w.heap.size (hd.cells sl) 48):=by show Blk _ _ _ _;rw[<- hW0];exact(Blk.new w _ _).alloc _
  have b2:Hid (Blk W0 (w.heap.size+1) [O I 0,O I 0,ap ao 0,aq ⟨#[]⟩,E R,O I 0,O I 0,O I 0,E R,E R,O I 0,O I 0,E R,E R,U G 0 0] 48):=by
   show Blk _ _ _ _;rw[<- hW0];have:=Blk.new (w.alloc (.cells (hd.cells sl).toArray 48)) [O I 0,O I 0,ap ao 0,aq ⟨#[]⟩,E R,O I 0,O I 0,O I 0,E R,E R,O I 0,O I 0,E R,E R,U G 0 0] 48;rw[World.size_alloc] at this;exact this
  obtain⟨k,o',x,s,bb,ff,c1,r1,p1,q1,c2,r2,p2,q2⟩:=hd;by_cases hk:k=5∨k=6
  ·rcases hk with hk|hk
   ·subst hk;have y0:W0.cell? ⟨w.heap.size,0,G⟩=H (O I 5):=b1.o.cell rfl;have y1:W0.cell? ⟨pf,0,G⟩=H (FZ.val):=(HE.o.nul k0.o).f.cell rfl;have hal:alN f (.mk ⟨5,o',x,s,bb,ff,c1,r1,p1,q1,c2,r2,p2,q2⟩ ts)=nmN f (.mk ⟨5,o',x,s,bb,ff,c1,r1,p1,q1,c2,r2,p2,q2⟩ ts):=(by rw[alN,if_pos (by simp)]);have HR:=(h_ fun w' (kw:Kp w w' Nul)=>j61 f ⟨5,o',x,s,bb,ff,c1,r1,p1,q1,c2,r2,p2,q2⟩ ts sl fp w w' HOwn.o kw (by simp));have HCl:=h_ (HNm.o ⟨5,o',x,s,bb,ff,c1,r1,p1,q1,c2,r2,p2,q2⟩ ts sl O1.o W0 (HE.o.nul k0.o).k);have OS:Hid ((nmS f ⟨5,o',x,s,bb,ff,c1,r1,p1,q1,c2,r2,p2,q2⟩ sl).oneCell'=J):=by
     show _=_;unfold nmS;split
     ·rfl
     ·exact O1.o
    rw[hal];clear HNm HE HOwn HNd HN IH hal;generalize (nmN f (.mk ⟨5,o',x,s,bb,ff,c1,r1,p1,q1,c2,r2,p2,q2⟩ ts)).hd=hh at *;generalize nmS f ⟨5,o',x,s,bb,ff,c1,r1,p1,q1,c2,r2,p2,q2⟩ sl=sl2 at *;generalize nmFp f ⟨5,o',x,s,bb,ff,c1,r1,p1,q1,c2,r2,p2,q2⟩ fp=fp2 at *;go_enter func141,ntmps141;go_wp2_with (first|(refine wpList_load_mid rfl 48 (.tmp 3) rfl w.heap.size 0 rfl (Hd.cells ⟨5,o',x,s,bb,ff,c1,r1,p1,q1,c2,r2,p2,q2⟩ sl) _ (j5 b1.o) underlying48 rfl j3 ?_)|fail);refine HCl.o.mono ?_;rintro e w1 ⟨rfl,hk1⟩;have b2':=b2.o.kp hk1 (fun x=>x);have HB2:=h_ b2';clear b2';go_wp2_with (first|(refine D5 rfl 48 (.tmp 4) (.tmp 14) rfl (w.heap.size+1) _ (hh.cells sl2) _ HB2.o rfl rfl rfl j3 (hh.one OS.o) ?_;intro w2 hb2 hk2)|fail);refine bodyPost_ret (results_cell_row rfl _ _ (w.heap.size+1) 48 _ (0,0) _ rfl hb2 underlying48 rfl j3) rfl ?_
    exact⟨sl2,fp2,rfl,HR.o w2 ((k0.o.trans hk1).trans' hk2 (fun i hi e=>by have:i=w.heap.size+1:=e;omega))⟩
   ·subst hk;have y0:W0.cell? ⟨w.heap.size,0,G⟩=H (O I 6):=b1.o.cell rfl;have y1:W0.cell? ⟨pf,0,G⟩=H (FZ.val):=(HE.o.nul k0.o).f.cell rfl;have hal:alN f (.mk ⟨6,o',x,s,bb,ff,c1,r1,p1,q1,c2,r2,p2,q2⟩ ts)=nmN f (.mk ⟨6,o',x,s,bb,ff,c1,r1,p1,q1,c2,r2,p2,q2⟩ ts):=(by rw[alN,if_pos (by simp)]);have HR:=(h_ fun w' (kw:Kp w w' Nul)=>j61 f ⟨6,o',x,s,bb,ff,c1,r1,p1,q1,c2,r2,p2,q2⟩ ts sl fp w w' HOwn.o kw (by simp));have HCl:=h_ (HNm.o ⟨6,o',x,s,bb,ff,c1,r1,p1,q1,c2,r2,p2,q2⟩ ts sl O1.o W0 (HE.o.nul k0.o).k);have OS:Hid ((nmS f ⟨6,o',x,s,bb,ff,c1,r1,p1,q1,c2,r2,p2,q2⟩ sl).oneCell'=J):=by
     show _=_;unfold nmS;split
     ·rfl
     ·exact O1.o
    rw[hal];clear HNm HE HOwn HNd HN IH hal;generalize (nmN f (.mk ⟨6,o',x,s,bb,ff,c1,r1,p1,q1,c2,r2,p2,q2⟩ ts)).hd=hh at *;generalize nmS f ⟨6,o',x,s,bb,ff,c1,r1,p1,q1,c2,r2,p2,q2⟩ sl=sl2 at *;generalize nmFp f ⟨6,o',x,s,bb,ff,c1,r1,p1,q1,c2,r2,p2,q2⟩ fp=fp2 at *;go_enter func141,ntmps141;go_wp2_with (first|(refine wpList_load_mid rfl 48 (.tmp 3) rfl w.heap.size 0 rfl (Hd.cells ⟨6,o',x,s,bb,ff,c1,r1,p1,q1,c2,r2,p2,q2⟩ sl) _ (j5 b1.o) underlying48 rfl j3 ?_)|fail);refine HCl.o.mono ?_;rintro e w1 ⟨rfl,hk1⟩;have b2':=b2.o.kp hk1 (fun x=>x);have HB2:=h_ b2';clear b2';go_wp2_with (first|(refine D5 rfl 48 (.tmp 4) (.tmp 14) rfl (w.heap.size+1) _ (hh.cells sl2) _ HB2.o rfl rfl rfl j3 (hh.one OS.o) ?_;intro w2 hb2 hk2)|fail);refine bodyPost_ret (results_cell_row rfl _ _ (w.heap.size+1) 48 _ (0,0) _ rfl hb2 underlying48 rfl j3) rfl ?_
    exact⟨sl2,fp2,rfl,HR.o w2 ((k0.o.trans hk1).trans' hk2 (fun i hi e=>by have:i=w.heap.size+1:=e;omega))⟩
  ·have HK5:Hid (¬k=5):=(fun e=>hk (.inl e));have HK6:Hid (¬k=6):=(fun e=>hk (.inr e));have e5:(k==5)=R:=(by simpa using HK5.o);have e6:(k==6)=R:=(by simpa using HK6.o);have y0:W0.cell? ⟨w.heap.size,0,G⟩=H (O I k):=b1.o.cell rfl;have hal:alN f (.mk ⟨k,o',x,s,bb,ff,c1,r1,p1,q1,c2,r2,p2,q2⟩ ts)=.mk ⟨k,o',x,s,bb,ff,c1,r1,p1,q1,c2,r2,p2,q2⟩ (alL f ts):=(by rw[alN,if_neg hk]);rw[hal];have hown:=HOwn.o;rw[D2] at hown;rcases hown with ⟨rfl,rfl,rfl⟩|⟨b,c,fps,cs,rfl,h2,h3,h4,h5,h6,rfl,h8⟩
   ·have y14:W0.cell? ⟨w.heap.size,14,G⟩=H (U G 0 0):=b1.o.cell rfl;have HR:Hid (∀w',Kp w w' Nul->AlR f (.mk ⟨k,o',x,s,bb,ff,c1,r1,p1,q1,c2,r2,p2,q2⟩ []) [] w w' (U G 0 0) []):=(fun w' kw=>⟨by rw[hal,alL,D2];exact .inl ⟨rfl,rfl,rfl⟩,List.Sublist.refl _,kw.mono (fun _ _ q=>q.elim)⟩);clear HNm IH HOwn HNd HN hal hk;go_enter func141,ntmps141;go_wp2_with fail;go_loopw[18] (fun i wr=>i=O I 0/\wr=W0) (fun _ _=>0)
    case atStart=>exact⟨rfl,rfl⟩
    case round=>
     obtain⟨rfl,rfl⟩:=hrel;go_wp2_with (first
      | (refine wpList_load_mid rfl 48 (.tmp 3) rfl w.heap.size 0 rfl (Hd.cells ⟨k,o',x,s,bb,ff,c1,r1,p1,q1,c2,r2,p2,q2⟩ (U G 0 0)) _ (j5 b1.o) underlying48 rfl j3 ?_)
      | (refine D5 rfl 48 (.tmp 4) (.tmp 31) rfl (w.heap.size+1) _ (Hd.cells ⟨k,o',x,s,bb,ff,c1,r1,p1,q1,c2,r2,p2,q2⟩ (U G 0 0)) _ b2.o rfl rfl rfl j3 (Hd.one ⟨k,o',x,s,bb,ff,c1,r1,p1,q1,c2,r2,p2,q2⟩ rfl) ?_;intro w2 hb2 hk2)
      | fail)
     refine bodyPost_ret (results_cell_row rfl _ _ (w.heap.size+1) 48 _ (0,0) _ rfl hb2 underlying48 rfl j3) rfl ?_;first
     | exact⟨_,HR.o w2 (k0.o.trans' hk2 (fun i hi e=>by have:i=w.heap.size+1:=e;omega))⟩
     | exact⟨_,_,rfl,HR.o w2 (k0.o.trans' hk2 (fun i hi e=>by have:i=w.heap.size+1:=e;omega))⟩
   ·have HAt0:Hid (AlAt f w W0 b c 0 ts fps [] fps):=(AlAt.start h5 h6 h8).nul k0.o;have HCL:=h_ h3;have HCm:=h_ h4;have HNb:=h_ HNd.o;have HTs:=h_ h2;have HSz:Hid (D3 ts<=N):=(by show _<=_;have:=HN.o;rw[Nd.size] at this;omega);have HLt:Hid (∀i∈b::fps,i<w.heap.size):=(fun i hi=>F4 (HOwn.o.node i hi));have HNode:Hid (∀i∈b::fps,∃cs:Array Value,W0.heap[i]? = H (.cells cs 48 (0,0))):=fun i hi=>by
     obtain⟨cs,e⟩:=HOwn.o.node i hi;exact⟨cs,(k0.o.block i (F4 ⟨cs,e⟩) (fun x=>x)).trans e⟩
    have HE0:=h_ (HE.o.nul k0.o);have y14:W0.cell? ⟨w.heap.size,14,G⟩=H (U (H ⟨b,0,G⟩) ts.length c):=b1.o.cell rfl;have hlen:ts.length<=9223372036854775807:=(by unfold maxLen at h4;omega);generalize hn:ts.length=n at *;have HL:=h_ hn;have HLen:=h_ hlen;clear HNm HOwn HNd HN hal hk h2 h3 h4 h5 h6 h8 hn hlen;go_enter func141,ntmps141;go_wp2_with fail;go_loopw[18] (fun i wr=>∃(q:Nat) (fa fb:List Nat),q<=n/\i=O I q/\AlAt f w wr b c q ts fps fa fb/\Kp W0 wr (fun i=>i∈b::fps)) (fun i _=>n-(RowKit.intOf i).toNat)
    case atStart=>exact⟨0,[],fps,Nat.zero_le _,rfl,HAt0.o,Kp.refl _ _⟩
    case round=>
     clear HAt0 y0 y14;obtain⟨q,fa,fb,hq,rfl,hat,hkw⟩:=hrel;have HAt:=h_ hat;have HKW:=h_ hkw;have HN1:=h_ (b1.o.kp hkw (fun e=>by have:=HLt.o _ e;omega));have HN2:=h_ (b2.o.kp hkw (fun e=>by have:=HLt.o _ e;omega));have HEr:=h_ (HE0.o.kp hkw HNode.o);clear hat hkw;by_cases hlt:q<n
     ·have hqt:q<ts.length:=(by rw[HL.o];exact hlt);obtain⟨slq,f1,f2,hrg,hno,hfb,hrs⟩:=HAt.o.next hqt;have HRG:=h_ hrg;have O3:=h_ hno.one;have HFb:=h_ hfb;have HRs:=h_ hrs;have HF1:Hid (∀i∈f1,i∈fps):=fun i hi=>by
       obtain⟨fA,e1,_⟩:=HAt.o.sub;rw[e1,hfb];exact List.mem_append_right _ (List.mem_append_left _ hi)
      have HBf:Hid (b∉f1):=(fun e=>(List.nodup_cons.1 HNb.o).1 (HF1.o b e));have hnf:f1.Nodup:=by
       obtain⟨fA,e1,_⟩:=HAt.o.sub;have:=(List.nodup_cons.1 HNb.o).2;rw[e1,hfb,List.nodup_append] at this;exact(List.nodup_append.1 this.2.1).1
      have HCall:Hid (∀wq,Kp (wr.alloc (.cells ((ts[q]).hd.cells slq).toArray 48)) wq Nul->Calls prog 141 #[(ts[q]).hd.val slq,an (H ⟨pf,0,G⟩),an (H ⟨pw,0,G⟩)] wq fun e w'=>∃sl' fp',e=Q ((alN f ts[q]).hd.val sl')/\AlR f ts[q] f1 wq w' sl' fp'):=fun wq kq=>by
       have kk:Kp wr wq Nul:=((Kp.refl wr Nul).alloc _).trans kq;exact IH.o ts[q] slq f1 wq (by have:=HSz.o;have:=Q4 ts q hqt;omega) (hno.mono (fun i hi=>kk.block i (F4 (hno.node i hi)) (fun x=>x))) hnf (HEr.o.nul kk)
      have hw1:=HN2.o.lt;have hpw:=HEr.o.g.lt;have hNpw:∀i∈f1,i≠pw:=fun i hi e=>by
       obtain⟨cs,q1⟩:=hno.node i hi;have q2:=HEr.o.g;unfold Blk at q2;rw[e,q2] at q1;simp at q1
      have HNot:Hid ((¬w.heap.size∈f1)/\(¬pw∈f1)/\(¬wr.heap.size∈f1)):=⟨fun e=>by have:=HLt.o _ (List.mem_cons_of_mem _ (HF1.o _ e));omega,fun e=>hNpw pw e rfl,fun e=>by have:=F4 (hno.node _ e);omega⟩;have HNb2:Hid (b≠w.heap.size/\b≠pw/\b≠wr.heap.size):=⟨by have:=HLt.o b List.mem_cons_self;omega,fun e=>by
       obtain⟨cs,q1,_⟩:=HAt.o.row;have q2:=HEr.o.g;unfold Blk at q2;rw[e,q2] at q1;simp at q1,by have:=HLt.o b List.mem_cons_self;omega⟩
      have HC:Hid (q<c):=(by show _<_;have:=HCL.o;omega);have hq0:(0:Int)<=(q:Int):=(by omega);have hqn:(q:Int)<(n:Int):=(by omega);have hkb:(q:Int)+1<=9223372036854775807:=(by have:=HLen.o;omega);have HSA:Hid (AlS (wr.alloc (.cells ((ts[q]).hd.cells slq).toArray 48)) w.heap.size (Hd.cells ⟨k,o',x,s,bb,ff,c1,r1,p1,q1,c2,r2,p2,q2⟩ (U (H ⟨b,0,G⟩) n c)) pw (alF pf pw) wr.heap.size ((ts[q]).hd.cells slq)):=⟨HN1.o.alloc _,HEr.o.g.alloc _,Blk.new _ _ _⟩;clear hrg hno hfb hrs hnf hw1 hpw hNpw HEr HE0;obtain⟨hh,hhe⟩:=e_ ((ts[q]).hd);rw[hhe] at HRG HCall HSA;clear hhe;go_wp2_with (first
       | (refine wpList_load_mid rfl 48 (.tmp 21) rfl b (q*15) rfl (hh.cells slq) _ HRG.o underlying48 rfl j3 ?_)
       | (refine F9 rfl 48 (.tmp 6) (.tmp 22) rfl _ _ _ _ _ (by first|rfl|simp) rfl rfl rfl j3 (hh.one O3.o) ?_)
       | fail)
      refine wp_region_noPanic ?_;refine I0 (fun w':World=>AlS w' w.heap.size (Hd.cells ⟨k,o',x,s,bb,ff,c1,r1,p1,q1,c2,r2,p2,q2⟩ (U (H ⟨b,0,G⟩) n c)) pw (alF pf pw) wr.heap.size (hh.cells slq)) (by kernel_rfl) (HSA.o.nul ((Kp.refl _ _).drew)) (fun hHeld=>?_);refine tk 0 23 hHeld ?_ (hy:=by intro w' hSw;have s0:=hSw.n14 rfl;have s1:=hSw.w0;clear hSw;go_simp;try with_reducible rfl);refine tk 1 24 hHeld ?_ (hy:=by intro w' hSw;have s0:=hSw.n14 rfl;have s1:=hSw.w0;clear hSw;go_simp;try with_reducible rfl);refine tk 2 25 hHeld ?_ (hy:=by intro w' hSw;have s0:=hSw.n14 rfl;have s1:=hSw.w0;clear hSw;go_simp;try with_reducible rfl);refine tk 3 26 hHeld ?_ (hy:=by intro w' hSw;have s0:=hSw.n14 rfl;have s1:=hSw.w0;clear hSw;go_simp;try with_reducible rfl);refine tk 4 27 hHeld ?_ (v:=T (hh.cells slq).toArray) (hy:=by exact fun w' hSw=>q9 48 (.tmp 6) rfl wr.heap.size 0 rfl (hh.cells slq) _ (j5 hSw.a) underlying48 rfl j3)
      refine D6 (i:=5) (by kernel_rfl) rfl rfl (fun K hK=>?_);go_simp;refine(HCall.o _ ((Kp.refl _ _).drew)).mono ?_;rintro e w1 ⟨sl',f1',rfl,hR⟩;have kA:Kp wr w1 (fun i=>i∈f1):=(((Kp.refl wr _).alloc _).drew).trans hR.kp;have HR1:Hid (D2 w1 sl' (alN f ts[q]) f1'/\f1'.Sublist f1/\Kp wr w1 (fun i=>i∈f1)):=⟨hR.own,hR.sub,kA⟩;have HSB:=h_ ((HSA.o.nul ((Kp.refl _ _).drew)).kp hR.kp (HNot.o.1) (HNot.o.2.1) (HNot.o.2.2));have O5:=h_ hR.own.one;refine hK.o _ _ HSB.o (fun hHeld=>?_);clear hK K hR kA HCall HSA;have TH:Hid (w1.there b (q*15) 15):=by
       obtain⟨cs,r1,r2⟩:=HAt.o.row;have hbn:=HBf.o;exact J5 ((HR1.o.2.2.block b (Array.getElem?_eq_some_iff.1 r1).1 hbn).trans r1) _ _ (by have:=HC.o;omega)
      refine tk 6 29 hHeld ?_;refine D6 (i:=7) (by kernel_rfl) rfl rfl (fun K hK=>?_);have HST:=h_ (HAt.o.step hqt (by rw[HL.o];exact HCL.o) HNb.o HFb.o HRs.o HR1.o.2.2 HR1.o.1 HR1.o.2.1);have HKX:Hid (Kp wr (w1.setCells b (q*15) ((alN f ts[q]).hd.cells sl')) (fun i=>i∈b::fps)):=(HR1.o.2.2.mono (fun i _ q=>List.mem_cons_of_mem _ (HF1.o i q))).trans (O6 _ (by show b∈b::fps;exact List.mem_cons_self) _ _ _);have HSX:Hid (AlS (w1.setCells b (q*15) ((alN f ts[q]).hd.cells sl')) w.heap.size (Hd.cells ⟨k,o',x,s,bb,ff,c1,r1,p1,q1,c2,r2,p2,q2⟩ (U (H ⟨b,0,G⟩) n c)) pw (alF pf pw) wr.heap.size (hh.cells slq)):=HSB.o.kp (O6 (fun i=>i=b) rfl _ _ _) (fun e=>HNb2.o.1 e.symm) (fun e=>HNb2.o.2.1 e.symm) (fun e=>HNb2.o.2.2 e.symm);generalize (alN f ts[q]).hd=hu at *;refine wp_store_mid 48 (.tmp 29) (.tmp 28) rfl b (q*15) (hu.cells sl').toArray rfl rfl TH.o j3 (hu.one O5.o) ?_
      obtain⟨X,hX⟩:=e_ (w1.setCells b (q*15) (hu.cells sl'));show K _ (w1.setCells b (q*15) (hu.cells sl'));rw[hX] at HST HKX HSX ⊢;refine hK.o _ _ HSX.o (fun _=>?_);clear hK K hX HSB TH HR1 HSX hHeld;refine wpAnyH_done (by kernel_rfl) ?_ _;refine NoPanic.normal ?_;go_wp2_with fail;go_roundw
      case rel=>exact⟨q+1,fa++f1',f2,by omega,by go_num,HST.o,HKW.o.trans HKX.o⟩
      case measure=>simp only[RowKit.intOf];omega
     ·have hqe:q=n:=(by omega);subst hqe;have hqn:¬((q:Int)<(q:Int)):=(by omega);have HFin:Hid (∀w',Kp wr w' (fun i=>i=w.heap.size+1)->AlR f (.mk ⟨k,o',x,s,bb,ff,c1,r1,p1,q1,c2,r2,p2,q2⟩ ts) (b::fps) w w' (U (H ⟨b,0,G⟩) q c) (b::fa)):=fun w' kw=>by
       have hA:=HAt.o;rw[<- HL.o] at hA;obtain⟨f1,f2⟩:=hA.fin HTs.o (by rw[HL.o];exact HCL.o) HCm.o ⟨k,o',x,s,bb,ff,c1,r1,p1,q1,c2,r2,p2,q2⟩;rw[HL.o] at f1;refine⟨?_,f2,?_⟩
       ·rw[alN,if_neg (by intro e;rcases e with e|e;exact HK5.o e;exact HK6.o e)];exact f1.mono (fun i hi=>kw.block i (F4 (f1.node i hi)) (fun e=>by have:i=w.heap.size+1:=e;have:=HLt.o i (f2.subset hi);omega))
       ·exact(HAt.o.kp.of_size kw (fun i hi e=>by have:i=w.heap.size+1:=e;omega))
      clear HAt IH HCL HCm HNb HTs HSz HNode HE0 HL HLen HEr hlt hq;go_wp2_with (first
       | (refine wpList_load_mid rfl _ (.tmp 3) rfl _ 0 rfl _ _ (j5 HN1.o) underlying48 rfl j3 ?_)
       | (refine D5 rfl _ (.tmp 4) (.tmp 31) rfl _ _ (Hd.cells ⟨k,o',x,s,bb,ff,c1,r1,p1,q1,c2,r2,p2,q2⟩ (U (H ⟨b,0,G⟩) q c)) _ HN2.o rfl rfl rfl j3 (Hd.one ⟨k,o',x,s,bb,ff,c1,r1,p1,q1,c2,r2,p2,q2⟩ rfl) ?_;intro w2 hb2 hk2)
       | fail)
      refine bodyPost_ret (results_cell_row rfl _ _ (w.heap.size+1) 48 _ (0,0) _ rfl hb2 underlying48 rfl j3) rfl ?_;first
      | exact⟨_,_,rfl,HFin.o w2 hk2⟩
      | exact⟨_,rfl,_,HFin.o w2 hk2⟩
theorem j2o (FZ:FK)(hl:FZ.Ok)(t:Nd)(sl:Value)(fp:List Nat)(w:World)(hown:D2 w sl t fp)(hnd:fp.Nodup)(hk:FZ.In w):
 Calls prog 106 #[T #[FZ.val],t.hd.val sl] w fun e w'=>∃sl' fp',e=Q ((alN (FZ.f) t).hd.val sl')/\AlR (FZ.f) t fp w w' sl' fp':=by
 have O1:=h_ hown.one;have HLt:Hid (∀i∈fp,i<w.heap.size):=fun i hi=>F4 (hown.node i hi)
 have HCall:Hid (∀wq,Kp w wq Nul->Blk wq w.heap.size [FZ.val] 115->Blk wq (w.heap.size+1+1+1) [alF w.heap.size (w.heap.size+1+1+1)] 119 -> Calls prog 141 #[t.hd.val sl,an (H ⟨w.heap.size,0,G⟩),an (H ⟨w.heap.size+1+1+1,0,G⟩)] wq fun e w'=>∃sl' fp',e=Q ((alN (FZ.f) t).hd.val sl')/\AlR (FZ.f) t fp wq w' sl' fp'):=fun wq k h1 h2=>
  j7k _ _ FZ hl t.size t sl fp wq (Nat.le_refl _) (hown.mono (fun i hi=>k.block i (F4 (hown.node i hi)) (fun x=>x))) hnd ⟨h1,h2,hk.kp k⟩
 have HR:Hid (∀wq w1 w2 sl' fp',Kp w wq Nul->AlR (FZ.f) t fp wq w1 sl' fp'->Kp w1 w2 (fun i=>i=w.heap.size+1+1)->AlR (FZ.f) t fp w w2 sl' fp'):=fun wq w1 w2 sl' fp' k h k2=>
  ⟨h.own.mono (fun i hi=>k2.block i (F4 (h.own.node i hi)) (fun e=>by have e':i=w.heap.size+1+1:=e;have:=HLt.o i (h.sub.subset hi);omega)),h.sub,((k.mono (fun _ _ q=>q.elim)).trans h.kp).of_size k2 (fun i hi e=>by have e':i=w.heap.size+1+1:=e;omega)⟩
 generalize FZ.f=f at *;generalize (alN f t).hd=hu at *;generalize t.hd=hh at *;clear hown hnd hk hl;obtain⟨k,o',x,s,bb,ff,c1,r1,p1,q1,c2,r2,p2,q2⟩:=hh;go_enter func106,ntmps106;go_wp2_with fail;obtain⟨W0,hW0⟩:=e_ ((((w.alloc (.cells #[FZ.val] 115)).alloc (.cells #[O I k,O I o',ap ao x,aq s,E bb,O I ff,O I c1,O I r1,E p1,E q1,O I c2,O I r2,E p2,E q2,sl] 48)).alloc (.cells #[O I 0,O I 0,ap ao 0,aq ⟨#[]⟩,E R,O I 0,O I 0,O I 0,E R,E R,O I 0,O I 0,E R,E R,U G 0 0] 48)).alloc (.cells #[alF w.heap.size (w.heap.size+1+1+1)] 119));rw[hW0];have k0:Kp w W0 Nul:=by rw[<- hW0];exact((((Kp.refl w Nul).alloc _).alloc _).alloc _).alloc _
 have b0:Blk W0 w.heap.size [FZ.val] 115:=by rw[<- hW0];exact(((Blk.new w _ _).alloc _).alloc _).alloc _
 have b2:Blk W0 (w.heap.size+1+1) [O I 0,O I 0,ap ao 0,aq ⟨#[]⟩,E R,O I 0,O I 0,O I 0,E R,E R,O I 0,O I 0,E R,E R,U G 0 0] 48:=by
  rw[<- hW0];have:=Blk.new ((w.alloc (.cells #[FZ.val] 115)).alloc (.cells #[O I k,O I o',ap ao x,aq s,E bb,O I ff,O I c1,O I r1,E p1,E q1,O I c2,O I r2,E p2,E q2,sl] 48)) [O I 0,O I 0,ap ao 0,aq ⟨#[]⟩,E R,O I 0,O I 0,O I 0,E R,E R,O I 0,O I 0,E R,E R,U G 0 0] 48;rw[World.size_alloc,World.size_alloc] at this;exact this.alloc _
 have b3:Blk W0 (w.heap.size+1+1+1) [alF w.heap.size (w.heap.size+1+1+1)] 119 := by
  rw[<- hW0];have:=Blk.new (((w.alloc (.cells #[FZ.val] 115)).alloc (.cells #[O I k,O I o',ap ao x,aq s,E bb,O I ff,O I c1,O I r1,E p1,E q1,O I c2,O I r2,E p2,E q2,sl] 48)).alloc (.cells #[O I 0,O I 0,ap ao 0,aq ⟨#[]⟩,E R,O I 0,O I 0,O I 0,E R,E R,O I 0,O I 0,E R,E R,U G 0 0] 48)) [alF w.heap.size (w.heap.size+1+1+1)] 119;rw[World.size_alloc,World.size_alloc,World.size_alloc] at this;exact this
 clear hW0;refine(HCall.o W0 k0 b0 b3).mono ?_;rintro e w1 ⟨sl',fp',rfl,hR⟩;have HB2:=h_ (b2.kp hR.kp (fun e=>by have:=HLt.o _ e;omega));have HR1:=h_ fun w2 (k2:Kp w1 w2 (fun i=>i=w.heap.size+1+1))=>HR.o W0 w1 w2 sl' fp' k0 hR k2
 have O5:=h_ hR.own.one;clear hR k0 b0 b2 b3 HCall HR;go_wp2_with (first|(refine D5 rfl _ (.tmp 4) (.tmp 9) rfl _ _ (hu.cells sl') _ HB2.o rfl rfl rfl j3 (hu.one O5.o) ?_;intro w2 hb2 hk2)|fail);refine bodyPost_ret (results_cell_row rfl _ _ (w.heap.size+1+1) 48 _ (0,0) _ rfl hb2 underlying48 rfl j3) rfl ?_;first
 | exact⟨_,_,rfl,HR1.o w2 hk2⟩
 | exact⟨_,rfl,_,HR1.o w2 hk2⟩
end
section
open Go.RowKit Go.Maps
theorem j6.lows {w:World}{F:Nat->Prop}{g:Nat}{L:List Cc}(h:j6 w F g L):j6 w (fun b=>F b/\b<w.heap.size) g L:=by
 obtain⟨hF,⟨hb,e⟩|⟨m,D,hb,hm',hne,hown,hm⟩⟩:=h
 ·exact⟨⟨hF,(Array.getElem?_eq_some_iff.1 hb).1⟩,.inl ⟨hb,e⟩⟩
 ·exact⟨⟨hF,(Array.getElem?_eq_some_iff.1 hb).1⟩,.inr ⟨m,D,hb,⟨hm',hown.lt⟩,hne,hown,⟨hm.size,hm.rng,hm.keys,fun c r ct hc=>by obtain⟨sl,e1,e2⟩:=hm.vals c r ct hc;exact⟨sl,e1,e2.mono (fun b hF hb=>⟨rfl,hF,hb⟩)⟩,hm.once⟩⟩⟩
theorem j6.far' {w w':World}{F S:Nat->Prop}{g:Nat}{L:List Cc}(h:j6 w F g L)(k:Kp w w' S)(hS:∀i,F i->¬S i):j6 w' F g L:=by
 obtain⟨hF,⟨hb,e⟩|⟨m,D,hb,hm',hne,hown,hm⟩⟩:=h
 ·exact⟨hF,.inl ⟨(k.block g (Array.getElem?_eq_some_iff.1 hb).1 (hS g hF)).trans hb,e⟩⟩
 ·exact⟨hF,.inr ⟨m,D,(k.block g (Array.getElem?_eq_some_iff.1 hb).1 (hS g hF)).trans hb,hm',hne,j0T hown (k.block m hown.lt (hS m hm')),⟨hm.size,hm.rng,hm.keys,fun c r ct hc=>by obtain⟨sl,e1,e2⟩:=hm.vals c r ct hc;exact⟨sl,e1,e2.kp k hS⟩,hm.once⟩⟩⟩
theorem j6.once' {w:World}{F:Nat->Prop}{g:Nat}{L:List Cc}(h:j6 w F g L):L.Pairwise (fun x y=>x.1≠y.1):=by
 obtain⟨_,⟨_,rfl⟩|⟨m,D,_,_,_,_,hm⟩⟩:=h
 ·exact List.Pairwise.nil
 ·exact hm.once
def F8 (f:Fate) (L:List Cc):Bool:=L.any fun x=>(f (x.1,x.1)).isNone
section
variable {f:Fate} {w W W':World} {B xc xr:Nat} {cols:Bool} {at' n:Int} {g2:Nat} {K:List Cc} {k:Nat} {Z:Nat->Prop} {M:List Cc}
theorem U7 {x:Cc}(hx:K[k]? = H x):K.take (k+1)=K.take k++[x]:=by rw[List.take_add_one,hx];rfl
theorem j4P (f:Fate)(L:List Cc)(x:Cc)(y:Cc):y∈brL f (L++[x])↔y∈brL f L∨∃b,f (x.1,x.1)=H b/\y=(b.1,alC f x.2):=by
 rw[T8,T8];constructor
 ·rintro⟨z,hz,b,h1,h2⟩;rcases List.mem_append.1 hz with hz|hz
  ·exact .inl ⟨z,hz,b,h1,h2⟩
  ·rw[List.mem_singleton] at hz;subst hz;exact .inr ⟨b,h1,h2⟩
 ·rintro(⟨z,hz,b,h1,h2⟩|⟨b,h1,h2⟩)
  ·exact⟨z,List.mem_append_left _ hz,b,h1,h2⟩
  ·exact⟨x,List.mem_append_right _ (List.mem_singleton.2 rfl),b,h1,h2⟩
end
end
section
open Go.RowKit Go.Maps Go.Sort Go.Lib Go.Shelf
attribute [local go_sem] Oper.semAt_some
theorem j3P {F:Fence}{n:Nat}{ops:Array Oper}{rest:List Oper}{o:Oper}{a:Act}{w:World}{am:Exit->Act->World->Prop}(hgd:Region.wanted o (yielded ops a.tmps)=J)(ty:TypeId)(x:Operand)(ho:o.op=.load ty x)(b p:Nat)(hx:a.eval x=an (H ⟨b,p,G⟩))(cs:List Value)(d:TypeDesc)(hc:w.rangeAt b p cs)(hu:prog.underlying ty=H d)(hd:d.isRow=J)(hi:(prog.info? ty).map (·.size)=H cs.length)
 (h:wpListIn F n prog ops am rest (a.put o.dst (T cs.toArray)) w):wpListIn F n prog ops am (o::rest) a w:=
 j40 hgd (by simp[Oper.about,ho]) (fun c hc'=>by rw[ho] at hc';cases hc') (q9 ty x ho b p hx cs d hc hu hd hi) h
theorem j3v {F:Fence}{n:Nat}{ops:Array Oper}{rest:List Oper}{o:Oper}{a:Act}{w:World}{am:Exit->Act->World->Prop}(hgd:Region.wanted o (yielded ops a.tmps)=J)(ty:TypeId)(x y:Operand)(ho:o.op=.store ty x y)
 (b p:Nat) (pre mid post cs:List Value) (t:TypeId) (hb:Blk w b (pre++mid++post) t) (hpo:pre.length=p) (hml:mid.length=cs.length) (hx:a.eval x=an (H ⟨b,p,G⟩)) (hy:a.eval y=T cs.toArray)
 (hi:(prog.info? ty).map (·.size)=H cs.length) (h1:cs.toArray.all (·.oneCell')=J)
 (h:∀W,Blk W b (pre++cs++post) t->Kp w W (fun i=>i=b)->wpListIn F n prog ops am rest (a.put o.dst undef) W):wpListIn F n prog ops am (o::rest) a w:=by
 subst hpo;have hb':w.heap[b]? = H (.cells (pre++mid++post).toArray t (0,0)):=hb;have hs:=run_storeVar_mid (P:=prog) w b pre.length ty cs.toArray (J5 hb' _ _ (by simp;omega)) (by rw[hi];simp) h1;refine j2h hgd (by simp[Oper.about,ho]) (fun c hc'=>by rw[ho] at hc';cases hc') (w':=w.setCells b pre.length cs) ?_ (h _ ?_ (O6 (fun i=>i=b) rfl _ _ _))
 ·unfold execOp;simp only[ho,hx,hy,Instr.storeAt,Instr.sureAddr,Sem.run_bind,Sem.run_pure,Result.andThen_ok,hs]
 ·have:=j08 cs pre.length w _ hb';rw[j6s pre mid post cs hml] at this;exact this
theorem j41 {o:Oper}{a:Act}{w:World}{K:Act->World->Prop}{am:Exit->Act->World->Prop}(ty:TypeId)(x y:Operand)(ho:o.op=.store ty x y)
 (b:Nat) (hx:a.eval x=an (H ⟨b,0,G⟩)) (v:Value) (hy:a.eval y=v) (h1:v.oneCell'=J) (t:TypeId) (old:Value) (hb:Blk w b [old] t) (hi:(prog.info? ty).map (·.size)=H 1)
 (h:∀W,Blk W b [v] t->Kp w W (fun i=>i=b)->K (a.put o.dst undef) W):o.wp prog a w K am:=by
 subst hy;unfold Oper.wp execOp;simp only[ho,hx,Instr.storeAt,Instr.sureAddr,Sem.run_bind,Sem.run_pure,Result.andThen_ok,run_storeVar_one w b t ty old _ hb hi h1];refine h _ (setRow_heap w b #[old] #[a.eval y] t (0,0) hb) ⟨rfl,rfl,rfl,?_,fun i _ hn=>?_⟩
 ·unfold World.setRow;simp
 ·unfold World.setRow;simp only[Array.getElem?_modify];rw[if_neg (fun e=>hn e.symm)]
theorem jD9 {fn:Func}{p q:Tmp}{ty tz:TypeId}(h:fn.results=#[.cell p ty,.cell q tz])(tmps:Array Value)(P:Program)(w:World):
 (results fn tmps).run P w=((asAddr (tmps.getD p undef)).run P w).andThen fun a w1=>((loadVar ty a).run P w1).andThen fun v w2=>((asAddr (tmps.getD q undef)).run P w2).andThen fun b w3=>((loadVar tz b).run P w3).andThen fun u w4=>.ok (au #[v,u]) w4:=by
 simp only[results,h];simp[Sem.run_bind,Result.andThen]
theorem J2 {op:Oper}{a:Act}{w:World}{K:Act->World->Prop}{am:Exit->Act->World->Prop}(ty:TypeId)(x y:Operand)(ho:op.op=.store ty x y)
 (b:Nat) (old cs:List Value) (t:TypeId) (hb:Blk w b old t) (hml:old.length=cs.length) (hx:a.eval x=an (H ⟨b,0,G⟩)) (hy:a.eval y=T cs.toArray)
 (hi:(prog.info? ty).map (·.size)=H cs.length) (h1:cs.toArray.all (·.oneCell')=J)
 (h:∀W,Blk W b cs t->Kp w W (fun i=>i=b)->K (a.put op.dst undef) W):op.wp prog a w K am:=by
 have hb':w.heap[b]? = H (.cells old.toArray t (0,0)):=hb;refine wp_store_mid ty x y ho b 0 cs.toArray hx hy (J5 hb' _ _ (by simp;omega)) (by rw[hi];simp) h1 (h _ ?_ (O6 (fun i=>i=b) rfl _ _ _));exact V9 hb' (by simpa using hml)
theorem I6 {P:Program}{ops:Array Oper}{am:Exit->Act->World->Prop}{md:Region.Mode}{S:World->Prop}{i:Nat}{o:Oper}{n:Nat}{on:Array Bool}{a:Act}{w:World}(ho:ops[i]? = H o)(hg:o.guard=G)
 (h:∀K':Act->World->Prop,Hid (∀a w,S w->(S w->wpAnyH P md ops am S n (on.setIfInBounds i J) a w)->K' a w)->o.wp P a w K' am):wpOp P ops am i (fun a' w'=>S w'/\wpAnyH P md ops am S n (on.setIfInBounds i J) a' w') a w:=by
 unfold wpOp;rw[ho];simp only[Region.wanted,hg,if_true];exact .inl (h _ (fun a w hS hW=>⟨hS,hW hS⟩))
structure BrR (f:Fate) (L:List Cc) (w w':World) (g2:Nat) (M:List Cc):Prop where
 gi:j6 w' (fun i=>w.heap.size<=i) g2 M
 ok:Ok17 M
 mem:∀y,y∈M↔y∈brL f L
 lo:w.heap.size<=g2
 kp:Kp w w' Nul
structure DoS (W w':World) (a:Nat) (va:Value) (b:Nat) (vb:Value):Prop where
 ba:Blk w' a [va] 24
 bb:Blk w' b [vb] 4
 kp:Kp W w' (fun i=>i=a∨i=b)
end
section
open Go.RowKit Go.Maps Go.Sort Go.Lib
theorem jE2 {w:World}{ah:Nat->Prop}{g:Nat}{M:List Cc}(h:j6 w ah g M){i:Nat}(hG:¬ah i):¬Sm w g i:=by
 intro q;rcases q with q|⟨q,_⟩
 ·exact hG (q ▸ h.1)
 ·obtain⟨_,⟨hb,_⟩|⟨m,D,hb,hFm,_⟩⟩:=h
  ·rw[hb] at q;simp at q
  ·rw[hb] at q;simp at q;exact hG (q ▸ hFm)
theorem jCi {M L:List Cc}{k:Int×Int}{ct:Ct}(hM:M.Pairwise (fun x y=>x.1≠y.1))(hs:∀y∈M,y∈L)(hk:(k,ct)∈L):(putL M k ct).length<=L.length:=by
 haveI:DecidableEq Cc:=fun a b=>Classical.propDecidable _
 refine j0n _ _ ?_ (fun y hy=>?_)
 ·unfold putL;refine List.nodup_cons.2 ⟨fun q=>?_,?_⟩
  ·have:=of_decide_eq_true (List.mem_filter.1 q).2;exact this rfl
  ·exact(List.Pairwise.filter _ hM).imp (fun {x y} q e=>q (by rw[e]))
 ·rcases(R8 y).1 hy with e|⟨e,_⟩
  ·rw[e];exact hk
  ·exact hs y e
structure Cl (w:World) (mv:Option Nat) (L:List Cc) (wr:World) (rem M:List Cc):Prop where
 rg:GRg wr w.heap.size mv (w.heap.size+1) rem
 gi:j6 wr (fun i=>w.heap.size<=i/\i≠w.heap.size+1) w.heap.size M
 kp:Kp w wr Nul
 sub:∀x,x∈rem->x∈L
 mem:∀y,y∈M↔y∈L/\y∉rem
theorem j9F (g:Nat)(L:List Cc)(w:World)(hg:GI 0 w g L)(hL:Ok17 L):
 Calls prog 27 #[an (H ⟨g,0,G⟩)] w fun e w'=>∃M,e=Q (an (H ⟨w.heap.size,0,G⟩))/\j6 w' (fun i=>w.heap.size<=i) w.heap.size M/\(∀y,y∈M↔y∈L)/\Kp w w' Nul:=by
 obtain⟨mv,bg,_⟩:=j1H hg;have HNew:=h_ j26;have HG:=h_ hg;have HOk:=h_ hL;have HBg:=h_ bg;have hng:∀(b:Nat) (wq:World),(binOp .eql 24 (an (H ⟨b,0,G⟩)) (an G)).run prog wq=.ok (E R) wq:=fun b wq=>by simp[go_sem]
 clear hg hL bg;go_enter func27,ntmps27;go_wp2_with fail;refine(HNew.o w).mono ?_;rintro e W0 ⟨rfl,hW0⟩;have k0:Kp w W0 Nul:=by rw[hW0];exact(Kp.refl _ _).alloc _
 have b0:Blk W0 w.heap.size [.map G] 96:=by rw[hW0];exact Blk.new w [.map G] _
 have s0:W0.heap.size=w.heap.size+1:=by rw[hW0,World.size_alloc]
 clear hW0;have HLow:=h_ (HG.o.low.kp k0);have HBg2:=h_ (HBg.o.kp k0 (fun x=>x));have c0:=HBg2.o.c_ 0 rfl;have HB0:=h_ b0;have HK0:=h_ k0;have HS0:=h_ s0;clear k0 b0 s0;go_wp2_with (first
  | (at_range;refine j7Z _ rfl _ rfl g L mv w.heap.size rfl HLow.o HBg2.o ?_;intro w0 hrg0 hg0 hs0)
  | fail)
 have HStart:Hid (Cl w mv L w0 L []):=by
  have k0:Kp W0 w0 Nul:=Kp.of_grown hg0 (fun i e=>by cases e);rw[HS0.o] at hrg0;refine⟨hrg0,⟨⟨Nat.le_refl _,by omega⟩,.inl ⟨HB0.o.kp k0 (fun x=>x),rfl⟩⟩,HK0.o.trans k0,fun x h=>h,fun y=>⟨fun h=>by simp at h,fun h=>absurd h.1 h.2⟩⟩
 have hS0:=HS0.o;rw[hS0];clear hrg0 hg0 hs0 c0 HLow HBg2 HB0 HK0 HS0 hS0 HNew
 go_frame
 go_loopw[] (fun wr=>∃rem M,Cl w mv L wr rem M) (fun wr=>glen wr mv (w.heap.size+1))
 case atStart=>exact⟨L,[],HStart.o⟩
 case round=>
  clear HStart;obtain⟨rem,M,hcl⟩:=hrel;have HCl:=h_ hcl;have HRG:=h_ hcl.rg;clear hcl;go_wp2_with (first
   | (at_next;refine j7Y _ rfl _ rfl w.heap.size mv (w.heap.size+1) rem rfl HRG.o (by omega) ?_ ?_)
   | fail)
  ·intro hr0;have HE:Hid (∃M,j6 wr (fun i=>w.heap.size<=i) w.heap.size M/\(∀y,y∈M↔y∈L)/\Kp w wr Nul):=⟨M,j6.mono HCl.o.gi (fun _ h=>h.1),fun y=>by rw[HCl.o.mem,hr0];simp,HCl.o.kp⟩;clear hr0;go_wp2_with fail;go_ret;first
   | exact⟨_,rfl,HE.o.choose_spec⟩
   | exact HE.o
  ·intro c s ct sl w1 hmem hin hrg1 hlt1 hgr1 hsz1 hen;have kr:Kp wr w1 (fun i=>i=w.heap.size+1):=Kp.of_grown hgr1 (fun i e=>by cases e;rfl);have k1:=HCl.o.kp.trans' kr (fun i hi e=>by have:i=w.heap.size+1:=e;omega);have g1:j6 w1 (fun i=>w.heap.size<=i/\i≠w.heap.size+1) w.heap.size M:=HCl.o.gi.far' kr (fun i hi e=>hi.2 e);have hmL:=HCl.o.sub _ hmem;have hvc:=HOk.o.at' _ hmL;rw[G6] at hvc;simp only at hvc;obtain⟨X2,hX2⟩:∃X2,(w1.alloc (.cells #[O I 0,O I 0] 32)).alloc (.cells zC21.toArray 50)=X2:=⟨_,rfl⟩;obtain⟨X3,hX3⟩:∃X3,X2.setCells w1.heap.size 0 [O I c,O I s]=X3:=⟨_,rfl⟩;obtain⟨X4,hX4⟩:∃X4,X3.setCells (w1.heap.size+1) 0 (ct.cells sl)=X4:=⟨_,rfl⟩;have q2:Kp w1 X2 Nul:=(by rw[<- hX2];exact((Kp.refl _ _).alloc _).alloc _);have a2:Blk X2 w1.heap.size [O I 0,O I 0] 32:=by rw[<- hX2];exact(Blk.new w1 [O I 0,O I 0] _).alloc _
   have c2:Blk X2 (w1.heap.size+1) zC21 50:=by
    have:=Blk.new (w1.alloc (.cells #[O I 0,O I 0] 32)) zC21 50;rw[World.size_alloc] at this;rw[<- hX2];exact this
   have a3:Blk X3 w1.heap.size [O I c,O I s] 32:=(by rw[<- hX3];exact V9 (cs:=#[O I c,O I s]) a2 rfl);have c3:Blk X3 (w1.heap.size+1) zC21 50:=(by rw[<- hX3];exact(L5 (by omega) _ _ _).trans c2);have a4:Blk X4 w1.heap.size [O I c,O I s] 32:=(by rw[<- hX4];exact(L5 (by omega) _ _ _).trans a3);have c4:Blk X4 (w1.heap.size+1) (ct.cells sl) 50:=(by rw[<- hX4];exact V9 (cs:=(ct.cells sl).toArray) c3 (by simp));have q4:Kp w1 X4 Nul:=(q2.trans' (hX3 ▸ O6 (fun i=>i=w1.heap.size) rfl _ _ X2) (fun i hi e=>by have:i=w1.heap.size:=e;omega)).trans' (hX4 ▸ O6 (fun i=>i=w1.heap.size+1) rfl _ _ X3) (fun i hi e=>by have:i=w1.heap.size+1:=e;omega);have HX3:Hid (((w1.alloc (.cells #[O I 0,O I 0] 32)).alloc (.cells zC21.toArray 50)).setCells w1.heap.size 0 [O I c,O I s]=X3):=by show _=_;rw[hX2];exact hX3
   have HX4:=h_ hX4;have T2:Hid (((w1.alloc (.cells #[O I 0,O I 0] 32)).alloc (.cells zC21.toArray 50)).there w1.heap.size 0 2):=(by rw[hX2];exact J5 a2 _ _ (by simp));have T3:Hid (X3.there (w1.heap.size+1) 0 21):=J5 c3 _ _ (by simp);have OS:=h_ hin.one;have HQ4:=h_ q4;have HA4:=h_ a4;have HC4:=h_ c4;have HG1:Hid (GRg w1 w.heap.size mv (w.heap.size+1) (rem.filter (fun x=>decide (x.1≠(c,s))))):=(by show GRg _ _ _ _ _;simpa using hrg1);have HLT:=h_ hlt1;have HSZ:Hid (w.heap.size+1<w1.heap.size):=(by show _<_;have:=HRG.o.lt;omega);have HGi:=h_ g1;have HK1:=h_ k1;have HML:=h_ hmL;have HMR:=h_ hmem;have HI:Hid (I64 c/\I64 s):=(by show _/\_;unfold I64;omega);have HGd:=h_ (HOk.o.gd _ hmL);have HCp:Hid (∀wq,Kp X4 wq Nul->Calls prog 47 #[T (ct.cells sl).toArray] wq fun e w'=>∃sl' fp,e=Q (ct.val sl')/\Own w' wq.heap.size sl' ct.t fp/\Kp wq w' Nul):=fun wq q=>by
    have h:=j0S ct sl (fun b=>b<w.heap.size) wq HGd.o.x HGd.o.size HGd.o.ok (hin.kp (q4.trans q) (fun _ _ x=>x));rw[HGd.o.cp] at h;exact h.mono fun e w' ⟨sl',fp,h1,h2,h3⟩=>⟨sl',fp,h1,h2,Kp.of_below h3⟩
   have HKeep:Hid (∀wq sl',Kp X4 wq Nul->NdIn wq (fun i=>w.heap.size<=i/\i≠w.heap.size+1) sl' ct.t->Calls prog 46 #[an (H ⟨w.heap.size,0,G⟩),T #[O I c,O I s],ct.val sl'] wq fun e w'=>e=Q (au #[])/\j6 w' (fun i=>w.heap.size<=i/\i≠w.heap.size+1) w.heap.size (putL M (c,s) ct)/\Km w.heap.size wq w'):=fun wq sl' q hi=>by
    have hlen:=jCi (k:=(c,s)) (ct:=ct) HGi.o.once' (fun y hy=>((HCl.o.mem y).1 hy).1) HML.o;have hll:=HOk.o.len;have hsz:=q.size;have hs4:=HC4.o.lt;have hs1:=HSZ.o;exact j5k _ w.heap.size c s HI.o.1 HI.o.2 ct sl' M wq (HGi.o.kp (HQ4.o.trans q)) (by omega) hi (fun i hi=>⟨by omega,by omega⟩)
   clear hrg1 hlt1 hgr1 hsz1 hmem hin hX2 hX3 hX4 q2 a2 c2 a3 c3 a4 c4 q4 k1 kr g1 hmL hvc;go_wp2_with (first
    | (refine j02 rfl _ _ _ rfl _ _ _ rfl rfl T2.o O0 (by simp[Value.oneCell']) X3 HX3.o ?_)
    | (refine j02 rfl _ _ _ rfl _ _ _ rfl rfl T3.o D9 (ct.one OS.o) X4 HX4.o ?_)
    | fail)
   refine j12 (fun w':World=>Kp X4 w' Nul) 4 (by kernel_rfl) ((Kp.refl _ _).drew) (fun hHeld=>?_);refine tb 0 19 hHeld ?_ (v:=an (H ⟨w.heap.size,0,G⟩));refine tb 1 20 hHeld ?_ (v:=T #[O I c,O I s]) (hy:=by exact fun w' hSw=>q9 _ _ rfl _ _ rfl _ _ (j5 (HA4.o.kp hSw (fun x=>x))) underlying32 rfl F5);refine I5 (i:=2) (by kernel_rfl) rfl rfl (fun K hK=>?_);unfold Oper.wp;rw[q9 _ _ rfl _ _ rfl _ _ (j5 (HC4.o.kp ((Kp.refl X4 Nul).drew) (fun x=>x))) underlying50 rfl D9];refine hK.o _ _ (fun _=>(Kp.refl X4 Nul).drew) (fun _=>?_);clear hK K
   (try simp only[Act.put,List.setIfInBounds_toArray])
   refine I5 (i:=3) (by kernel_rfl) rfl rfl (fun K hK=>?_);go_simp;refine(HCp.o _ ((Kp.refl X4 Nul).drew)).mono ?_;rintro e v1 ⟨sl',fp,rfl,hown,hk2⟩;have L1:=h_ ((Kp.refl X4 Nul).drew.trans hk2);have HN1:Hid (NdIn v1 (fun i=>w.heap.size<=i/\i≠w.heap.size+1) sl' ct.t):=hown.own.isIn (fun b hb=>by
    have h1:X4.heap.size<=b:=(hown.new b hb).1;have hs4:=HC4.o.lt;have hs1:=HSZ.o;exact⟨by omega,by omega⟩)
   refine hK.o _ _ (fun _=>L1.o) (fun _=>?_);clear hK K hk2 hown hHeld
   (try simp only[Act.put,Sz0,Sz1,Sz2])
   refine I5 (i:=4) (by kernel_rfl) rfl rfl (fun K hK=>?_);go_simp;refine(HKeep.o v1 sl' L1.o HN1.o).mono ?_;rintro e v2 ⟨rfl,hg2,hkm⟩;have HEND:Hid (Cl w mv L v2 (rem.filter (fun x=>decide (x.1≠(c,s)))) (putL M (c,s) ct)/\glen v2 mv (w.heap.size+1)<glen wr mv (w.heap.size+1)):=by
    have gv:=HGi.o.kp (HQ4.o.trans L1.o);have kk:=hkm.kp;have kw:=HQ4.o.trans L1.o;have no:∀i,i<w.heap.size+2->i≠w.heap.size->¬Sm v1 w.heap.size i:=(fun i hi hn=>jE2 gv (fun q=>by have:=q.1;have:=q.2;omega));have hs1:=HSZ.o;have hbl:Below w.heap.size w1 v2:=⟨kk.os.trans kw.os,kk.tape.trans kw.tape,kk.output.trans kw.output,Nat.le_trans kw.size kk.size,fun i hi=>(kk.block i (by have:=kw.size;omega) (no i (by omega) (by omega))).trans (kw.block i (by omega) (fun x=>x))⟩;have hr:v2.heap[w.heap.size+1]? = w1.heap[w.heap.size+1]?:=(kk.block _ (by have:=kw.size;omega) (no _ (by omega) (by omega))).trans (kw.block _ (by omega) (fun x=>x));refine⟨⟨HG1.o.keep hbl hr,hg2,(HK1.o.trans kw).trans' kk (fun i hi=>no i (by omega) (by omega)),fun x hx=>HCl.o.sub x (List.mem_filter.1 hx).1,fun y=>?_⟩,by rw[HG1.o.glen hbl hr];exact HLT.o⟩;rw[R8,HCl.o.mem];constructor
    ·rintro(e|⟨⟨e1,e2⟩,_⟩)
     ·rw[e];exact⟨HML.o,fun q=>of_decide_eq_true (List.mem_filter.1 q).2 rfl⟩
     ·exact⟨e1,fun q=>e2 (List.mem_filter.1 q).1⟩
    ·rintro⟨e1,e2⟩;by_cases e:y.1=(c,s)
     ·left
      have hy:((c,s),y.2)∈L:=(by rw[<- e];exact e1);have:=j0E HG.o.once hy HML.o;exact Prod.ext e this
     ·exact .inr ⟨⟨e1,fun q=>e2 (List.mem_filter.2 ⟨q,decide_eq_true e⟩)⟩,e⟩
   refine hK.o _ _ (fun h=>absurd rfl h) (fun _=>?_);clear hK K hg2 hkm
   (try simp only[Act.put,Sz0,Sz1,Sz2])
   refine j10 (by kernel_rfl) ?_;go_wp2_with fail;go_roundw
   case rel=>exact⟨_,_,HEND.o.1⟩
   case measure=>exact HEND.o.2
end
section
open Go.RowKit Go.Maps
structure WoI (w:World) (B x5 g2:Nat) (L K:List Cc) (k:Nat) (Z:Nat->Prop) (W:World) (M:List Cc):Prop where
 gi:j6 W Z g2 M
 ok:Ok17 M
 mem:∀y,y∈M↔y∈L/\y∉K.take k
 oth:Blk W x5 [an (H ⟨g2,0,G⟩)] 24
 kp:Kp w W Nul
 zl:∀i,Z i->i<W.heap.size/\(w.heap.size<=i/\i<x5∨B+2<=i)
 hB:w.heap.size<=x5/\x5<B
section
variable {w W W':World} {B x5 g2:Nat} {L K:List Cc} {k:Nat} {Z:Nat->Prop} {M:List Cc}
theorem WoI.far {S:Nat->Prop}(h:WoI w B x5 g2 L K k Z W M)(g:Kp W W' S)(hZ:∀i,Z i->¬S i)(hb:∀i,i<B->S i->False):WoI w B x5 g2 L K k Z W' M:=
 ⟨h.gi.far' g hZ,h.ok,h.mem,h.oth.kp g (fun e=>hb _ h.hB.2 e),h.kp.trans' g (fun i hi e=>hb i (by have:=h.hB;omega) e),fun i hi=>⟨Nat.lt_of_lt_of_le (h.zl i hi).1 g.size,(h.zl i hi).2⟩,h.hB⟩
theorem WoI.sm (h:WoI w B x5 g2 L K k Z W M){i:Nat}(hs:Sm W g2 i):Z i:=by
 obtain⟨hF,⟨hb',_⟩|⟨m,D,hb',hm',_⟩⟩:=h.gi
 ·rcases hs with rfl|⟨e,_⟩
  ·exact hF
  ·rw[hb'] at e;simp at e
 ·rcases hs with rfl|⟨e,_⟩
  ·exact hF
  ·rw[hb'] at e;have em:m=i:=(by simpa using e);rw[<- em];exact hm'
theorem WoI.del {x:Cc}{V X:World}(h:WoI w B x5 g2 L K k Z V M)(hL:∀y∈L,y.1=x.1->y=x)(hx:K[k]? = H x)(hBV:B+2<=V.heap.size)
 (hg:j6 X (fun i=>Z i∨V.heap.size<=i) g2 (delL M x.1)) (km:Km g2 V X) :
 ∃Z',WoI w B x5 g2 L K (k+1) Z' X (delL M x.1)/\∀i,Z' i->Z i∨V.heap.size<=i:=by
 have hB:=h.hB;have hn:∀i,i<w.heap.size->¬Sm V g2 i:=fun i hi e=>by rcases(h.zl i (h.sm e)).2 with q|q <;> omega
 have h5:¬Sm V g2 x5:=fun e=>by rcases(h.zl x5 (h.sm e)).2 with q|q <;> omega
 have hkp:=km.kp;refine⟨fun i=>(Z i∨V.heap.size<=i)/\i<X.heap.size,⟨?_,h.ok.del _,jEu hL hx h.mem,h.oth.kp hkp h5,h.kp.trans' hkp (fun i hi e=>hn i hi e),fun i hi=>⟨hi.2,?_⟩,hB⟩,fun i hi=>hi.1⟩
 ·exact hg.lows
 ·rcases hi.1 with q|q
  ·exact(h.zl i q).2
  ·exact .inr (by omega)
end
end
section
open Go.RowKit Go.Maps
attribute [local go_sem] Oper.semAt_some
theorem jBx {L:List Cc}(h:L.Pairwise (fun x y=>x.1≠y.1)){x y:Cc}(hy:y∈L)(hx:x∈L)(e:y.1=x.1):y=x:=by
 induction L with
 | nil=>cases hx
 | cons z l ih=>
  rw[List.pairwise_cons] at h;rcases List.mem_cons.1 hy with rfl|hy'
  ·rcases List.mem_cons.1 hx with rfl|hx'
   ·rfl
   ·exact absurd e (h.1 x hx')
  ·rcases List.mem_cons.1 hx with rfl|hx'
   ·exact absurd e.symm (h.1 y hy')
   ·exact ih h.2 hy' hx'
theorem jEe (g:Nat)(L:List Cc)(A1 A2 A3 A4:Int)(w:World)(hg:GI 0 w g L)(hL:Ok17 L)
 (HCl:Hid (∀w,GI 0 w g L->Calls prog 27 #[an (H ⟨g,0,G⟩)] w fun e w'=>∃M,e=Q (an (H ⟨w.heap.size,0,G⟩))/\j6 w' (fun i=>w.heap.size<=i) w.heap.size M/\(∀y,y∈M↔y∈L)/\Kp w w' Nul))
 (HIn:Hid (∀w,Calls prog 54 #[an (H ⟨g,0,G⟩),T #[O I A1,O I A2,O I A3,O I A4]] w fun e w'=>∃x0 x1,e=Q (.func (.func 97) #[] #[an (H ⟨x0,0,G⟩),an (H ⟨x1,0,G⟩)])/\Blk w' x0 [an (H ⟨g,0,G⟩)] 24/\Blk w' x1 [O I A1,O I A2,O I A3,O I A4] 34/\Kp w w' Nul))
 (HPut:Hid (∀(ah:Nat->Prop) (g:Nat) (c s:Int) (M:List Cc) (V:World),Kp w V Nul->vC c s=J->j6 V ah g M->Calls prog 11 #[an (H ⟨g,0,G⟩),T #[O I c,O I s],T #[O I 0,O I 0,ap ao 0,aq ⟨#[]⟩,E R,O I 0,O I 0,O I 0,ap ao 0,aq ⟨#[]⟩,E R,O I 0,O I 0,O I 0,E R,E R,O I 0,O I 0,E R,E R,U G 0 0]] V fun e w'=>e=Q (O I 0)/\j6 w' ah g (delL M (c,s))/\Km g V w')) :
 Calls prog 53 #[an (H ⟨g,0,G⟩),T #[O I A1,O I A2,O I A3,O I A4]] w fun e w'=>∃g2 M,e=Q (an (H ⟨g2,0,G⟩))/\j6 w' (fun i=>w.heap.size<=i) g2 M/\Ok17 M/\(∀y,y∈M↔y∈L/\y∉inL A1 A2 A3 A4 L)/\w.heap.size<=g2/\Kp w w' Nul:=by
 have HG:=h_ hg;have HOk:=h_ hL;obtain⟨W,hW⟩:=e_ (w.alloc (.cells #[O I A1,O I A2,O I A3,O I A4] 34));have HW:=h_ hW;have kW:Hid (Kp w W Nul):=by show Kp _ _ _;rw[<- hW];exact(Kp.refl w Nul).alloc _
 have HB0:Hid (Blk W w.heap.size [O I A1,O I A2,O I A3,O I A4] 34):=by show Blk _ _ _ _;rw[<- hW];exact Blk.new w _ _
 have HS:Hid (W.heap.size=w.heap.size+1):=by show _=_;rw[<- hW];simp
 clear hW hg hL;refine(callsIn_wide (n:=12)).1 ?_;refine callsIn_of_wp_marks func53 rfl trivial ?_ rfl;simp only[ntmps53,List.size_toArray,List.length_cons,List.length_nil,Nat.reduceAdd,Nat.reduceSub,Array.replicate_succ,Array.replicate_zero,List.push_toArray,List.append_toArray,List.nil_append,List.cons_append];refine wpIn_wide.2 ?_;go_wp2_with fail;rw[HW.o];clear HW;refine(HCl.o W (HG.o.kp kW.o)).mono ?_;rintro e w1 ⟨M,rfl,hgi,hmem,hk1⟩;have K1:=h_ hk1;have HGi:=h_ hgi;have HMem:=h_ hmem;obtain⟨W2,hW2⟩:=e_ (w1.alloc (.cells #[an (H ⟨W.heap.size,0,G⟩)] 24));have HW2:=h_ hW2;have k12:Kp w1 W2 Nul:=by rw[<- hW2];exact(Kp.refl _ _).alloc _
 have K2:=h_ (hk1.trans k12);have HO2:Hid (Blk W2 w1.heap.size [an (H ⟨W.heap.size,0,G⟩)] 24):=by show Blk _ _ _ _;rw[<- hW2];exact Blk.new w1 _ _
 have HG2:=h_ (hgi.lows.kp k12);have d0:(w1.alloc (.cells #[an (H ⟨W.heap.size,0,G⟩)] 24)).cell? ⟨w.heap.size,0,G⟩=H (O I A1):=by rw[hW2];exact(HB0.o.kp K2.o (fun x=>x)).cell rfl
 have d1:(w1.alloc (.cells #[an (H ⟨W.heap.size,0,G⟩)] 24)).cell? ⟨w.heap.size,1,G⟩=H (O I A2):=by rw[hW2];exact(HB0.o.kp K2.o (fun x=>x)).cell rfl
 have d2:(w1.alloc (.cells #[an (H ⟨W.heap.size,0,G⟩)] 24)).cell? ⟨w.heap.size,2,G⟩=H (O I A3):=by rw[hW2];exact(HB0.o.kp K2.o (fun x=>x)).cell rfl
 have d3:(w1.alloc (.cells #[an (H ⟨W.heap.size,0,G⟩)] 24)).cell? ⟨w.heap.size,3,G⟩=H (O I A4):=by rw[hW2];exact(HB0.o.kp K2.o (fun x=>x)).cell rfl
 clear hgi hmem hk1 hW2 k12 HGi;go_wp2_with fail;rw[HW2.o] at d0 d1 d2 d3 ⊢;clear HW2 d0 d1 d2 d3;refine(HIn.o _).mono ?_;rintro e w3 ⟨x0,x1,rfl,hb0,hb1,hk3⟩;have HX:Hid (Blk w3 x0 [an (H ⟨g,0,G⟩)] 24/\Blk w3 x1 [O I A1,O I A2,O I A3,O I A4] 34):=⟨hb0,hb1⟩;have K3:=h_ (K2.o.trans hk3);have HO3:=h_ (HO2.o.kp hk3 (fun x=>x));have HG3:=h_ (HG2.o.kp hk3);have HL3:=h_ HO3.o.lt;have HL1:=h_ K1.o.size;clear hb0 hb1 hk3 HIn HCl HO2 HG2;go_wp2_with fail;obtain⟨K,hKs,hKm⟩:=j3I (j3G (m1:=A1) (m2:=A2) (m3:=A3) (m4:=A4) (L:=L) rfl HG.o.once);have HKs:=h_ hKs;have HKm:=h_ hKm;have HOkM:Hid (Ok17 M):=⟨fun x hx=>HOk.o.gd x ((HMem.o x).1 hx),fun x hx=>HOk.o.at' x ((HMem.o x).1 hx),by
  have:=j0n (M.map (·.1)) (L.map (·.1)) (List.nodup_iff_pairwise_ne.2 (List.pairwise_map.2 HG3.o.once')) (fun x hx=>by
   obtain⟨y,hy,rfl⟩:=List.mem_map.1 hx;exact List.mem_map.2 ⟨y,(HMem.o y).1 hy,rfl⟩)
  rw[List.length_map,List.length_map] at this;exact Nat.le_trans this HOk.o.len⟩
 clear hKs hKm;have hL3:=HL3.o;have hL1:=HL1.o;generalize hact:Act.mk _ _=a0;refine j11 (α:=(Cc×Value)×List Nat) (N:=K.length) (gf:=97) (lb:=#[an (H ⟨x0,0,G⟩),an (H ⟨x1,0,G⟩)]) (by rw[<- hact];rfl) (enters_of func97 (by kernel_rfl) rfl) (encs:=encQ) wtQ (fun _=>rfl) (j0Z w3 K) ?hT (fun i=>W.heap.size<=i/\i<w1.heap.size) ?hseq (fun k Z V=>∃M,WoI W w3.heap.size w1.heap.size W.heap.size L K k Z V M) ?hZ ?hZl ?hI (fun _=>False) ?hIx (fun i=>W.heap.size<=i/\i<w1.heap.size) ?h0 ?hround ?hdone ?hstop
 case hT=>rintro k x Z V ⟨_,_,_,h⟩;exact⟨fun q=>by have:=(h _ q).1;omega,fun q=>by have:=(h _ q).1;omega⟩
 case hseq=>
  refine j3F g x0 x1 (fun i=>i<W.heap.size) A1 A2 A3 A4 L _ K rfl w3 _ ((HG.o.kp kW.o).kp K3.o) ((show GI 0 W g L from HG.o.kp kW.o).low.kp K3.o) HOk.o.gd HOk.o.at' HOk.o.len HKs.o HKm.o (fun i e=>?_) (fun i e q=>?_) HX.o.1 HX.o.2
  ·have e':=e;omega
  ·have e':=e.1;have q':=q;omega
 case hZ=>
  rintro k Z V ⟨M',h⟩;exact⟨fun q=>by rcases(h.zl _ q).2 with e|e <;> omega,fun q=>by rcases(h.zl _ q).2 with e|e <;> omega⟩
 case hZl=>
  rintro k Z V ⟨M',h⟩;exact⟨fun i hi=>(h.zl i hi).1,fun i hlt hi=>by rcases(h.zl i hi).2 with e|e;exact e;omega⟩
 case hI=>
  rintro k Z V V' ⟨M',h⟩ q;exact⟨M',h.far q (fun i hi e=>by rcases(h.zl _ hi).2 with q|q <;> rcases e with e|e <;> omega) (fun i hi e=>by rcases e with e|e <;> omega)⟩
 case hIx=>exact fun _ _ h _=>h
 case h0=>exact⟨M,HG3.o,HOkM.o,fun y=>by rw[HMem.o y];simp,HO3.o,K3.o,fun i hi=>⟨by have:=hi.2;omega,.inl hi⟩,hL1,hL3⟩
 case hstop=>exact fun _ _ _ h=>h.elim
 case hround=>
  subst hact;rintro k ⟨⟨⟨⟨c,s⟩,a⟩,sl⟩,fp⟩ Z V0 KK hkN hsW ⟨M',hI⟩ ⟨hKk,_,_,_⟩ hcont;have HI:=h_ hI;have HKk:=h_ hKk;have HSW:=h_ hsW;clear hI hKk hsW HX HO3 HG3;simp only[List.zip_toArray,List.zip_cons_cons,List.zip_nil_right,List.foldl_toArray',List.foldl_cons,List.foldl_nil]
  gi_wp2_with (fail)
  refine hcont _ _ ((Kp.refl V0 Nul).alloc _) (fun V hV _=>?_);have hWV:Kp V0 V (fun i=>i=w3.heap.size+1):=(((Kp.refl V0 Nul).alloc _).mono (fun _ _ q=>q.elim)).trans hV;have HIV:=h_ (HI.o.far hWV (fun i hi e=>by have e':i=w3.heap.size+1:=e;rcases(HI.o.zl i hi).2 with q|q <;> omega) (fun i hi e=>by have e':i=w3.heap.size+1:=e;omega));have HbA:=h_ ((Blk.new V0 [O I c,O I s] 32).kp hV (fun e=>by have e':V0.heap.size=w3.heap.size+1:=e;have:=HSW.o;omega));have c0:=HIV.o.oth.c_ 0 rfl;have a0:=HbA.o.c_ 0 rfl;have a1:=HbA.o.c_ 1 rfl;clear hcont hV
  gi_wp2_with (fail)
  clear c0 a0 a1;have hxL:((c,s),a)∈L:=((Q6 rfl).1 ((HKm.o _).1 (List.mem_of_getElem? HKk.o))).1;have hv:=HOk.o.at' _ hxL;refine⟨trivial,(callsIn_wide.2 (HPut.o (fun i=>Z i∨V.heap.size<=i) W.heap.size c s M' V (kW.o.trans HIV.o.kp) hv (HIV.o.gi.mono (fun i hi=>.inl hi)))).mono ?_⟩;rintro e X ⟨rfl,hgX,hkm⟩;have hVs:=Nat.le_trans HSW.o hWV.size;obtain⟨Z',hZ1,hZ2⟩:=HIV.o.del (x:=((c,s),a)) (fun y hy e=>jBx HG.o.once hy hxL e) HKk.o hVs hgX hkm;have HZ:Hid (∃Z',(∃M,WoI W w3.heap.size w1.heap.size W.heap.size L K (k+1) Z' X M)/\More Z Z' V0):=⟨Z',⟨_,hZ1⟩,fun i hi=>(hZ2 i hi).imp id (fun q=>Nat.le_trans hWV.size q)⟩;have HKX:Hid (Kp V X (fun i=>(Z i∨wtQ ((((c,s),a),sl),fp) i)∨V0.heap.size<=i)):=hkm.kp.mono (fun i _ e=>.inl (.inl (HIV.o.sm e)));clear hZ1 hZ2 hgX hkm
  gi_wp2_with (fail)
  exact⟨HKX.o,HZ.o⟩
 case hdone=>
  subst hact;rintro D Z V hD ⟨M',h⟩ hDf;have HI:=h_ h;have HDf:=h_ hDf;have HD:=h_ hD;have c0:=h.oth.c_ 0 rfl;clear h hDf hD;go_wp2_with fail;have hS:=HS.o;have hd:=HD.o;have hne:∀i,Z i->¬i=D:=fun i hi e=>by rcases(HI.o.zl i hi).2 with q|q <;> omega
  refine⟨by simp,.inl ⟨_,_,rfl,run_takeDeferred HDf.o,?_⟩⟩;refine⟨an (H ⟨W.heap.size,0,G⟩),?res,W.heap.size,M',rfl,(HI.o.gi.far' J0 hne).mono (fun i hi=>?_),HI.o.ok,fun y=>?_,by omega,?_⟩
  case res=>simp[results,f53]
  ·rcases(HI.o.zl i hi).2 with q|q <;> omega
  ·rw[jEt HI.o.mem y];exact⟨fun q=>⟨q.1,fun e=>q.2 ((HKm.o y).2 e)⟩,fun q=>⟨q.1,fun e=>q.2 ((HKm.o y).1 e)⟩⟩
  ·exact X6 (kW.o.trans HI.o.kp) (by omega)
theorem j5d (g:Nat)(m1 m2 m3 m4:Int)(w:World):Calls prog 54 #[an (H ⟨g,0,G⟩),T #[O I m1,O I m2,O I m3,O I m4]] w fun e w'=>∃x0 x1,e=Q (.func (.func 97) #[] #[an (H ⟨x0,0,G⟩),an (H ⟨x1,0,G⟩)])/\Blk w' x0 [an (H ⟨g,0,G⟩)] 24/\Blk w' x1 [O I m1,O I m2,O I m3,O I m4] 34/\Kp w w' Nul:=by
 obtain⟨W,hW⟩:=e_ ((w.alloc (.cells #[an (H ⟨g,0,G⟩)] 24)).alloc (.cells #[O I m1,O I m2,O I m3,O I m4] 34));have HW:=h_ hW;have HK:Hid (Kp w W Nul):=by show Kp w W Nul;rw[<- hW];exact((Kp.refl w Nul).alloc _).alloc _
 have HB0:Hid (Blk W w.heap.size [an (H ⟨g,0,G⟩)] 24):=by show Blk _ _ _ _;rw[<- hW];exact(Blk.new w [an (H ⟨g,0,G⟩)] _).alloc _
 have HB1:Hid (Blk W (w.heap.size+1) [O I m1,O I m2,O I m3,O I m4] 34):=by
  have:=Blk.new (w.alloc (.cells #[an (H ⟨g,0,G⟩)] 24)) [O I m1,O I m2,O I m3,O I m4] 34;rw[World.size_alloc] at this;show Blk _ _ _ _;rw[<- hW];exact this
 clear hW;go_enter func54,ntmps54;go_wp2_with fail;rw[HW.o];go_ret;exact⟨_,_,rfl,HB0.o,HB1.o,HK.o⟩
theorem j3y (g:Nat)(L:List Cc)(A1 A2 A3 A4:Int)(w:World)(hg:GI 0 w g L)(hL:Ok17 L)(hv:VS w):
 Calls prog 53 #[an (H ⟨g,0,G⟩),T #[O I A1,O I A2,O I A3,O I A4]] w fun e w'=>∃g2 M,e=Q (an (H ⟨g2,0,G⟩))/\j6 w' (fun i=>w.heap.size<=i) g2 M/\Ok17 M/\(∀y,y∈M↔y∈L/\y∉inL A1 A2 A3 A4 L)/\w.heap.size<=g2/\Kp w w' Nul:=
 jEe g L A1 A2 A3 A4 w hg hL (fun w h=>j9F g L w h hL) (fun w=>j5d g A1 A2 A3 A4 w)
  (fun ah g c s M V k hc h=>j3e ah g c s hc ct0 rfl (U G 0 0) M V h (fun wq kq=>by
   have q:=j1t ct0 (U G 0 0) (fun _=>True) wq j1Y (j1X _ _) (hv.kp (k.trans kq));rw[gv0] at q;exact q))
end
section
open Go.RowKit Go.Maps
theorem jCh (g:Nat)(c s t1 t2 k:Int)(cs:List Value)(hk:¬k=2)(h20:cs.length=20)(af:Int->World->Prop)(w:World)
 (HP:Hid (∀wq,Kp w wq Nul->Calls prog 11 #[an (H ⟨g,0,G⟩),T #[O I c,O I s],T (O I k::cs).toArray] wq fun e w'=>∃er,e=Q (O I er)/\af er w')) :
 Calls prog 55 #[an (H ⟨g,0,G⟩),T #[O I c,O I s],T (O I k::cs).toArray,T #[O I t1,O I t2]] w fun e w'=>∃er,e=Q (O I er)/\af er w':=by
 obtain⟨W,hW⟩:=e_ (((w.alloc (.cells #[O I c,O I s] 32)).alloc (.cells (O I k::cs).toArray 50)).alloc (.cells #[O I t1,O I t2] 32));have HW:=h_ hW;have kW:Hid (Kp w W Nul):=by show Kp _ _ _;rw[<- hW];exact(((Kp.refl w Nul).alloc _).alloc _).alloc _
 have b0:Blk W w.heap.size [O I c,O I s] 32:=by rw[<- hW];exact((Blk.new w [O I c,O I s] _).alloc _).alloc _
 have b1:Blk W (w.heap.size+1) (O I k::cs) 50:=by
  have:=Blk.new (w.alloc (.cells #[O I c,O I s] 32)) (O I k::cs) 50;rw[World.size_alloc] at this;rw[<- hW];exact this.alloc _
 have HR:Hid (W.rangeAt (w.heap.size+1) 0 (O I k::cs)):=fun j v hj=>by rw[Nat.zero_add];exact b1.cell hj
 have HI:Hid ((prog.info? 50).map (·.size)=H (O I k::cs).length):=by show _=_;rw[D9,List.length_cons,h20]
 have c0:=b1.c_ 0 rfl;have a0:=b0.c_ 0 rfl;have a1:=b0.c_ 1 rfl;clear HW b0 b1 h20;go_enter func55,ntmps55;go_wp2_with (first
  | (refine wpList_load_mid rfl 50 (.tmp 6) rfl (w.heap.size+1) 0 rfl (O I k::cs) _ HR.o underlying50 rfl HI.o ?_)
  | fail)
 refine(HP.o _ kW.o).mono ?_;rintro e w1 ⟨er,rfl,hr⟩;have HRr:=h_ hr;clear hr;go_wp2_with fail;go_ret;first
 | exact⟨er,rfl,HRr.o⟩
 | exact HRr.o
end
end Go.Proofs.YtecjfnkakodebaaGreatDoor
