/-Move: brought, for any fate (gen_ofgen.py). -/
import Derived.Test.YtecjfnkakodebaaGreatDoorRmMvg
import Derived.Test.YtecjfnkakodebaaGreatDoorRmMwe
open Go.Proofs.Tryz
open Go.Value renaming int->O,bool->E,slice->U,agg->T,pointer->an,float->ap,string->aq,tuple->au
open Go.IntKind renaming i64->I
open Bool renaming false->R,true->J
open Option renaming some->H,none->G
open Go.Ending renaming returned->Q
open Go.FloatKind renaming f64->ao
set_option maxRecDepth 20000
set_option maxHeartbeats 40000000
namespace Go.Proofs.YtecjfnkakodebaaGreatDoor
section
open Go.RowKit Go.Maps Go.Sort Go.Lib Go.Shelf
structure BrI (f:Fate) (w:World) (B:Nat) (FZ:FK) (g2:Nat) (K:List Cc) (k:Nat) (Z:Nat->Prop) (W:World) (M:List Cc):Prop where
 gi:j6 W (fun i=>Z i/\i≠w.heap.size+1+1) g2 M
 ok:Ok17 M
 len:M.length<=k
 mem:∀y,y∈M↔y∈brL f (K.take k)
 lo:Blk W (w.heap.size+1+1) [E (F8 f (K.take k))] 4
 oth:Blk W (w.heap.size+1) [an (H ⟨g2,0,G⟩)] 24
 fb:Blk W w.heap.size [FZ.val] 115
 kept:FZ.In W
 kp:Kp w W Nul
 zl:∀i,Z i->i<W.heap.size/\(i=w.heap.size+1+1∨i=g2∨B+2<=i)
 z2:Z (w.heap.size+1+1)
 hB:w.heap.size+3<=g2/\g2<B/\FZ.x<B/\FZ.y<B
section
variable {f:Fate} {w W W':World} {B:Nat} {FZ:FK} {g2:Nat} {K:List Cc} {k:Nat} {Z:Nat->Prop} {M:List Cc}
theorem BrI.far {S:Nat->Prop}(h:BrI f w B FZ g2 K k Z W M)(g:Kp W W' S)(hZ:∀i,Z i->¬S i)(hb:∀i,i<B->S i->False):BrI f w B FZ g2 K k Z W' M:=by
 obtain⟨h1,h2,h3,h4⟩:=h.hB;exact⟨h.gi.far' g (fun i hi=>hZ i hi.1),h.ok,h.len,h.mem,h.lo.kp g (fun e=>hb _ (by omega) e),h.oth.kp g (fun e=>hb _ (by omega) e),h.fb.kp g (fun e=>hb _ (by omega) e),⟨h.kept.c.kp g (fun e=>hb _ h3 e),h.kept.r.kp g (fun e=>hb _ h4 e),h.kept.ty⟩,h.kp.trans' g (fun i hi e=>hb i (by omega) e),fun i hi=>⟨Nat.lt_of_lt_of_le (h.zl i hi).1 g.size,(h.zl i hi).2⟩,h.z2,h.hB⟩
theorem BrI.nul (h:BrI f w B FZ g2 K k Z W M)(g:Kp W W' Nul):BrI f w B FZ g2 K k Z W' M:=h.far g (fun _ _ q=>q) (fun _ _ q=>q)
theorem BrI.lose {x:Cc}(h:BrI f w B FZ g2 K k Z W M)(hx:K[k]? = H x)(hf:f (x.1,x.1)=G)(g:Kp W W' (fun i=>i=w.heap.size+1+1))(hb:Blk W' (w.heap.size+1+1) [E J] 4):BrI f w B FZ g2 K (k+1) Z W' M:=by
 obtain⟨h1,h2,h3,h4⟩:=h.hB;have nz:∀ {b:Nat} {cs:List Value} {t:TypeId},Blk W b cs t->t ≠ 4->¬b=w.heap.size+1+1:=fun {b cs t} hb ht e=>by
  have q1:=h.lo;unfold Blk at hb q1;rw[e,q1] at hb;simp only[Option.some.injEq,Obj.cells.injEq] at hb;exact ht hb.2.1.symm
 have hgi:=h.gi.far' g (fun i hi e=>hi.2 e);refine⟨hgi,h.ok,Nat.le_succ_of_le h.len,fun y=>?_,?_,h.oth.kp g (nz h.oth (by decide)),h.fb.kp g (nz h.fb (by decide)),⟨h.kept.c.kp g (nz h.kept.c (by rcases h.kept.ty with e|e <;> rw[e] <;> decide)),h.kept.r.kp g (nz h.kept.r (by rcases h.kept.ty with e|e <;> rw[e] <;> decide)),h.kept.ty⟩,h.kp.trans' g (fun i hi e=>by have e':i=w.heap.size+1+1:=e;omega),fun i hi=>⟨Nat.lt_of_lt_of_le (h.zl i hi).1 g.size,(h.zl i hi).2⟩,h.z2,h.hB⟩
 ·rw[U7 hx,j4P,h.mem y];constructor
  ·exact .inl
  ·rintro(q|⟨b,q,_⟩)
   ·exact q
   ·rw[hf] at q;cases q
 ·have:F8 f (K.take (k+1))=J:=by
   rw[U7 hx];unfold F8;rw[List.any_append];simp[hf]
  rw[this];exact hb
theorem BrI.put {x:Cc}{b:Ar4}{V X:World}{M':List Cc}{er:Int}(h:BrI f w B FZ g2 K k Z V M)(hf:U3 f)(hi:j15 f)(hx:K[k]? = H x)(hb:f (x.1,x.1)=H b)(hK:E9 (K.map (·.1)))(hKl:K.length<=4096)(hKv:∀y∈K,vC y.1.1 y.1.2=J)(hKg:∀y∈K,Gd y.2)
 (hBV:B+2<=V.heap.size) (hg:j6 X (fun i=>(Z i/\i≠w.heap.size+1+1)∨V.heap.size<=i) g2 M') (hp:PutR M b.1.1 b.1.2 (alC f x.2) er M') (km:Km g2 V X) :
 ∃Z',BrI f w B FZ g2 K (k+1) Z' X M'/\∀i,Z' i->Z i∨V.heap.size<=i:=by
 have hk:=(List.getElem?_eq_some_iff.1 hx).1;have hxm:=List.mem_of_getElem? hx;obtain⟨h1,h2,h3,h4⟩:=h.hB;have hvb:=j1D hf (hKv x hxm) hb;have hgd:=j0P hf (hKg x hxm);obtain⟨_,rfl⟩:=hp.put hvb hgd.val hgd.k (.inl (by have:=h.len;omega));rw[hgd.cp] at hg ⊢;have hM:∀y∈M,y.1≠b.1:=fun y hy e=>by
  obtain⟨z,hz,b',e1,rfl⟩:=T8.1 ((h.mem y).1 hy);have hzK:=List.mem_of_mem_take hz;have hne:z.1≠x.1:=by
   intro e;obtain⟨t,ht⟩:=List.mem_iff_getElem?.1 hz;rw[List.getElem?_take] at ht;split at ht
   ·rename_i htl
    obtain⟨l1,q1⟩:=List.getElem?_eq_some_iff.1 ht;obtain⟨l2,q2⟩:=List.getElem?_eq_some_iff.1 hx;have hs:=List.pairwise_iff_getElem.1 (List.pairwise_map.1 hK) t k l1 l2 htl;rw[q1,q2,e] at hs;rw[swoA.irrefl] at hs;cases hs
   ·cases ht
  exact hi z.1 x.1 b' b (hKv z hzK) (hKv x hxm) hne e1 hb e
 have gi0:GI 0 V g2 M:=j6.mono h.gi (fun _ _=>Nat.zero_le _);have hok:Ok17 (putL M b.1 (alC f x.2)):=h.ok.put h.gi.once' hvb hgd (.inl (by have:=h.len;omega));refine⟨fun i=>(Z i∨V.heap.size<=i)/\i<X.heap.size,⟨hg.lows.mono (fun i hi=>⟨⟨hi.1.imp (fun q=>q.1) id,hi.2⟩,hi.1.elim (fun q=>q.2) (fun q=>by omega)⟩),hok,?_,fun y=>?_,?_,km.blk h.oth (by omega),km.blk h.fb (by omega),⟨km.blk h.kept.c (fun e=>?_),km.blk h.kept.r (fun e=>?_),h.kept.ty⟩,?_,fun i hi=>⟨hi.2,?_⟩,⟨.inl h.z2,?_⟩,h.hB⟩,fun i hi=>hi.1⟩
 ·unfold putL;have q:=List.length_filter_le (fun y:Cc=>decide (y.1≠b.1)) M;have:=h.len;rw[List.length_cons];exact Nat.succ_le_succ (Nat.le_trans q this)
 ·rw[R8,U7 hx,j4P,h.mem y];constructor
  ·rintro(q|⟨q,_⟩)
   ·exact .inr ⟨b,hb,q⟩
   ·exact .inl q
  ·rintro(q|⟨b',q1,q2⟩)
   ·exact .inr ⟨q,hM y ((h.mem y).2 q)⟩
   ·rw[hb] at q1;injection q1 with q1;subst q1;exact .inl q2
 ·have e:F8 f (K.take (k+1))=F8 f (K.take k):=by
   rw[U7 hx];unfold F8;rw[List.any_append];simp[hb]
  rw[e];exact km.blk h.lo (by omega)
 ·have q1:=h.kept.c;obtain⟨mv,q2⟩:=gi0.blk;rw[e] at q1;unfold Blk at q1 q2;rw[q1] at q2;simp only[Option.some.injEq,Obj.cells.injEq] at q2;exact absurd q2.2.1 (by rcases h.kept.ty with e|e <;> rw[e] <;> decide)
 ·have q1:=h.kept.r;obtain⟨mv,q2⟩:=gi0.blk;rw[e] at q1;unfold Blk at q1 q2;rw[q1] at q2;simp only[Option.some.injEq,Obj.cells.injEq] at q2;exact absurd q2.2.1 (by rcases h.kept.ty with e|e <;> rw[e] <;> decide)
 ·refine h.kp.trans' km.kp (fun i hi' e=>?_);rcases e with e|⟨e,_⟩
  ·omega
  ·obtain⟨hF,⟨hb',_⟩|⟨m,D,hb',hm',_⟩⟩:=h.gi
   ·rw[hb'] at e;simp at e
   ·rw[hb'] at e;have em:m=i:=(by simpa using e);subst em;rcases(h.zl m hm'.1).2 with q|q|q <;> omega
 ·rcases hi.1 with q|q
  ·exact(h.zl i q).2
  ·exact .inr (.inr (by omega))
 ·exact(km.blk h.lo (by omega)).lt
end
attribute [local go_sem] Oper.semAt_some
theorem BrI.sm {f:Fate}{w W:World}{B:Nat}{FZ:FK}{g2:Nat}{K:List Cc}{k:Nat}{Z:Nat->Prop}{M:List Cc}(h:BrI f w B FZ g2 K k Z W M){i:Nat}(hs:Sm W g2 i):Z i:=by
 obtain⟨hF,⟨hb',_⟩|⟨m,D,hb',hm',_⟩⟩:=h.gi
 ·rcases hs with rfl|⟨e,_⟩
  ·exact hF.1
  ·rw[hb'] at e;simp at e
 ·rcases hs with rfl|⟨e,_⟩
  ·exact hF.1
  ·rw[hb'] at e;have em:m=i:=(by simpa using e);rw[<- em];exact hm'.1
theorem j4Q (FZ:FK)(hl:FZ.Ok)(g:Nat)(L:List Cc)(w:World)(hg:GI 0 w g L)(hL:Ok17 L)(hk:FZ.In w)(hv:VS w):
 Calls prog 64 #[T #[FZ.val],an (H ⟨g,0,G⟩)] w fun e w'=>∃g2 M,e=Q (au #[an (H ⟨g2,0,G⟩),E (F8 (FZ.f) L)])/\BrR (FZ.f) L w w' g2 M:=by
 have HNew:Hid (∀w,Calls prog 32 #[] w fun e w'=>e=Q (an (H ⟨w.heap.size,0,G⟩))/\w'=w.alloc (.cells #[.map G] 96)):=j26;have HG:Hid (GI 0 w g L):=hg;have HOk:Hid (Ok17 L):=hL;have HV:Hid (VS w):=hv;have HK:Hid (FZ.In w):=hk;have HLn:Hid (FZ.Ok):=hl;clear hg hL hv hk hl;refine(callsIn_wide (n:=12)).1 ?_;refine callsIn_of_wp_marks func64 rfl trivial ?_ rfl;simp only[ntmps64,List.size_toArray,List.length_cons,List.length_nil,Nat.reduceAdd,Nat.reduceSub,Array.replicate_succ,Array.replicate_zero,List.push_toArray,List.append_toArray,List.nil_append,List.cons_append];refine wpIn_wide.2 ?_;go_wp2_with fail;obtain⟨W0,hW0⟩:∃W0,((w.alloc (.cells #[FZ.val] 115)).alloc (.cells #[an G] 24)).alloc (.cells #[E R] 4)=W0:=⟨_,rfl⟩;rw[hW0]
 have s0:W0.heap.size=w.heap.size+3:=by rw[<- hW0,World.size_alloc,World.size_alloc,World.size_alloc]
 have k0:Kp w W0 Nul:=by rw[<- hW0];exact(((Kp.refl w Nul).alloc _).alloc _).alloc _
 have b0:Blk W0 w.heap.size [FZ.val] 115:=by rw[<- hW0];exact((Blk.new w _ _).alloc _).alloc _
 have b1:Blk W0 (w.heap.size+1) [an G] 24:=by
  rw[<- hW0];have:=Blk.new (w.alloc (.cells #[FZ.val] 115)) [an G] 24;rw[World.size_alloc] at this;exact this.alloc _
 have b2:Blk W0 (w.heap.size+1+1) [E R] 4:=by
  rw[<- hW0];have:=Blk.new ((w.alloc (.cells #[FZ.val] 115)).alloc (.cells #[an G] 24)) [E R] 4;rw[World.size_alloc,World.size_alloc] at this;exact this
 clear hW0;refine(HNew.o W0).mono ?_;rintro e w1 ⟨rfl,hw1⟩;have k1:Kp W0 w1 Nul:=by rw[hw1];exact(Kp.refl _ _).alloc _
 have bg1:Blk w1 W0.heap.size [.map G] 96:=by rw[hw1];exact Blk.new W0 [.map G] _
 have hs1:w1.heap.size=w.heap.size+4:=by rw[hw1,World.size_alloc,s0]
 clear hw1;generalize W0.heap.size=g2 at *;have HS0:Hid (g2=w.heap.size+3/\w1.heap.size=w.heap.size+4):=⟨s0,hs1⟩;clear s0 hs1;have H1:Hid (Blk w1 (w.heap.size+1) [an G] 24):=b1.kp k1 (fun x=>x);go_wp2_with (first|(refine L9 rfl 24 (.tmp 4) (.tmp 10) rfl (w.heap.size+1) rfl (an (H ⟨g2,0,G⟩)) rfl rfl 24 (an G) H1.o (by kernel_rfl) ?_;intro w2 hb2 hk2)|fail);have n1:∀ {b:Nat} {cs:List Value} {t:TypeId},Blk w1 b cs t->b≠w.heap.size+1->Blk w2 b cs t:=fun h e=>h.kp hk2 e
 have HF2:Hid (Blk w2 w.heap.size [FZ.val] 115):=n1 (b0.kp k1 (fun x=>x)) (by omega);have HL2:Hid (Blk w2 (w.heap.size+1+1) [E R] 4):=n1 (b2.kp k1 (fun x=>x)) (by omega);have HO2:Hid (Blk w2 (w.heap.size+1) [an (H ⟨g2,0,G⟩)] 24):=hb2;have HG2:Hid (Blk w2 g2 [.map G] 96):=n1 bg1 (by have:=HS0.o.1;omega);have HK2:Hid (Kp w w2 Nul):=(k0.trans k1).trans' hk2 (fun i hi e=>by have:i=w.heap.size+1:=e;omega);have HAll:Hid (Calls prog 34 #[an (H ⟨g,0,G⟩)] w2 fun e w'=>∃x0 x1,e=Q (.func (.func 97) #[] #[an (H ⟨x0,0,G⟩),an (H ⟨x1,0,G⟩)])/\Blk w' x0 [an (H ⟨g,0,G⟩)] 24/\Blk w' x1 [O I 1,O I 1,O I 256,O I 4096] 34/\Kp w2 w' Nul):=j2n g w2;clear n1 hb2 hk2 bg1 k0 k1 b0 b1 b2 H1 HNew
 refine HAll.o.mono ?_;rintro e w3 ⟨x0,x1,rfl,hb0,hb1,hk3⟩;have HF3:Hid (Blk w3 w.heap.size [FZ.val] 115):=HF2.o.kp hk3 (fun x=>x);have HL3:Hid (Blk w3 (w.heap.size+1+1) [E R] 4):=HL2.o.kp hk3 (fun x=>x);have HO3:Hid (Blk w3 (w.heap.size+1) [an (H ⟨g2,0,G⟩)] 24):=HO2.o.kp hk3 (fun x=>x);have HG3:Hid (Blk w3 g2 [.map G] 96):=HG2.o.kp hk3 (fun x=>x);have HK3:Hid (Kp w w3 Nul):=HK2.o.trans hk3;have HX0:Hid (Blk w3 x0 [an (H ⟨g,0,G⟩)] 24):=hb0;have HX1:Hid (Blk w3 x1 [O I 1,O I 1,O I 256,O I 4096] 34):=hb1;clear hk3 hb0 hb1 HAll HF2 HL2 HO2 HG2 HK2;go_wp2_with fail;obtain⟨K,hKs,hKm⟩:=j3I HG.o.once;have hKl:K.length<=4096:=by
  have:=j0n _ (L.map (·.1)) (j3w hKs) (fun x hx=>by
   obtain⟨y,hy,rfl⟩:=List.mem_map.1 hx;exact List.mem_map.2 ⟨y,(hKm y).1 hy,rfl⟩)
  rw[List.length_map,List.length_map] at this;have:=HOk.o.len;omega
 have HKs:Hid (E9 (K.map (·.1))):=hKs;have HKm:Hid (∀x,x∈K↔x∈L):=hKm;have HKl:Hid (K.length<=4096):=hKl;have hgs:g2<w3.heap.size:=HG3.o.lt;have HGS:Hid (g2<w3.heap.size):=hgs;have hg2e:=HS0.o.1;clear hKs hKm hKl;generalize hact:Act.mk _ _=a0;refine jF1 (α:=(Cc×Value)×List Nat) (N:=K.length) (gf:=97) (lb:=#[an (H ⟨x0,0,G⟩),an (H ⟨x1,0,G⟩)]) (by rw[<- hact];rfl) (enters_of func97 (by kernel_rfl) rfl) (encs:=encQ) wtQ (fun _=>rfl) (j0Z w3 K) ?hT (fun i=>i=w.heap.size+1+1∨i=g2) ?hseq (fun k Z W=>∃M,BrI (FZ.f) w w3.heap.size FZ g2 K k Z W M) ?hZ ?hZl ?hI (fun i=>i=w.heap.size+1+1∨i=g2) ?h0 ?hround ?hdone
 case hT=>rintro k x Z W ⟨_,_,_,h⟩;exact⟨fun q=>by have:=(h _ q).1;omega,fun q=>by have:=(h _ q).1;omega⟩
 case hseq=>exact j5a g x0 x1 w.heap.size L K w3 _ (HG.o.kp HK3.o) (HG.o.low.kp HK3.o) HOk.o.gd HOk.o.at' HOk.o.len HKs.o HKm.o HK3.o.size (fun i e=>by rcases e with e|e <;> omega) HX0.o HX1.o
 case hZ=>
  rintro k Z W ⟨M,h⟩;exact⟨fun q=>by rcases(h.zl _ q).2 with e|e|e <;> omega,fun q=>by rcases(h.zl _ q).2 with e|e|e <;> omega⟩
 case hZl=>
  rintro k Z W ⟨M,h⟩;exact⟨fun i hi=>(h.zl i hi).1,fun i hlt hi=>by rcases(h.zl i hi).2 with e|e|e;exact .inl e;exact .inr e;omega⟩
 case hI=>
  rintro k Z W W' ⟨M,h⟩ q;exact⟨M,h.far q (fun i hi e=>by rcases(h.zl _ hi).2 with q|q|q <;> rcases e with e|e <;> omega) (fun i hi e=>by rcases e with e|e <;> omega)⟩
 case h0=>
  refine⟨[],⟨⟨⟨.inr rfl,by omega⟩,.inl ⟨HG3.o,rfl⟩⟩,Ok17.nil,Nat.zero_le _,fun y=>by simp[brL],?_,HO3.o,HF3.o,HK.o.kp HK3.o,HK3.o,fun i hi=>⟨by rcases hi with e|e <;> omega,by rcases hi with e|e;exact .inl e;exact .inr (.inl e)⟩,.inl rfl,⟨by omega,hgs,?_,?_⟩⟩⟩
  ·exact HL3.o
  ·exact Nat.lt_of_lt_of_le HK.o.c.lt HK3.o.size
  ·exact Nat.lt_of_lt_of_le HK.o.r.lt HK3.o.size
 case hround=>
  subst hact;rintro k ⟨⟨⟨⟨c,s⟩,a⟩,sl⟩,fp⟩ Z W KK hkN hsW ⟨M,hI⟩ ⟨hKk,hown,hnd,hfz⟩ hcont;have HI:Hid (BrI (FZ.f) w w3.heap.size FZ g2 K k Z W M):=hI;have HKk:Hid (K[k]? = H ((c,s),a)):=hKk;have HOwn:Hid (D2 W sl a.t fp):=hown;have HNd:Hid (fp.Nodup):=hnd;have HFz:Hid (∀i∈fp,w3.heap.size+2<=i/\¬Z i):=hfz;have HSW:Hid (w3.heap.size+2<=W.heap.size):=hsW;have O1:Hid (sl.oneCell'=J):=hown.one;have HA:Hid (∀(c r:Int) w,Calls prog 105 #[T #[O I c,O I r]] w fun e w'=>e=Q (T #[O I c,O I r,O I c,O I r])/\Kp w w' Nul):=fun c r w=>j4H c r w
  clear hI hKk hown hnd hfz hsW hgs hg2e HF3 HL3 HO3 HG3 HX0 HX1;simp only[List.zip_toArray,List.zip_cons_cons,List.zip_nil_right,List.foldl_toArray',List.foldl_cons,List.foldl_nil]
  gi_wp2_with (first
   | (refine j2Z rfl 50 (.tmp 7) (.tmp 14) rfl _ _ _ _ (by first|rfl|simp) rfl rfl rfl D9 (a.one O1.o) ?_)
   | fail)
  refine hcont _ _ (((Kp.refl W Nul).alloc _).alloc _) (fun V hV=>?_);have hW2:Kp W ((W.alloc (.cells #[O I c,O I s] 32)).alloc (.cells (a.cells sl).toArray 50)) Nul:=((Kp.refl W Nul).alloc _).alloc _;have hWV:Kp W V (fun i=>i=w3.heap.size+1):=(hW2.mono (fun _ _ q=>q.elim)).trans hV;have HIV:Hid (BrI (FZ.f) w w3.heap.size FZ g2 K k Z V M):=HI.o.far hWV (fun i hi e=>by have e':i=w3.heap.size+1:=e;have:=HGS.o;have:=HS0.o.1;rcases(HI.o.zl i hi).2 with q|q|q <;> omega) (fun i hi e=>by have e':i=w3.heap.size+1:=e;omega);have HbA:Hid (Blk V W.heap.size [O I c,O I s] 32):=((Blk.new W [O I c,O I s] 32).alloc _).kp hV (fun e=>by have e':W.heap.size=w3.heap.size+1:=e;have:=HSW.o;omega);have HbC:Hid (Blk V (W.heap.size+1) (a.cells sl) 50):=by
   have h1:=Blk.new (W.alloc (.cells #[O I c,O I s] 32)) (a.cells sl) 50;rw[World.size_alloc] at h1;exact h1.kp hV (fun e=>by have e':W.heap.size+1=w3.heap.size+1:=e;have:=HSW.o;omega)
  have HVW:Hid (W.heap.size+2<=V.heap.size):=by show _<=_;have:=HbC.o.lt;omega
  have HOwnV:Hid (D2 V sl a.t fp):=HOwn.o.mono (fun i hi=>hWV.block i (F4 (HOwn.o.node i hi)) (fun e=>by have e':i=w3.heap.size+1:=e;have:=(HFz.o i hi).1;omega));have HFb:Hid (Blk V w.heap.size [FZ.val] 115):=HIV.o.fb;have hFr:∀wq,Kp V wq Nul->Calls prog FZ.fid (FZ.pre.push (T #[O I c,O I s,O I c,O I s])++FZ.post) wq fun e w'=>e=Q (R7 ((FZ.f) ((c,s),(c,s))))/\Kp wq w' Nul:=fun wq kq=>HLn.o.at' ((c,s),(c,s)) wq (HIV.o.kept.kp kq)
  clear hcont hV hW2 hWV;cases hR:(FZ.f) ((c,s),(c,s)) with
  | none=>
   rw[hR] at hFr;have HR:Hid ((FZ.f) ((c,s),(c,s))=G):=hR;have HFr:Hid (∀wq,Kp V wq Nul->Calls prog FZ.fid (FZ.pre.push (T #[O I c,O I s,O I c,O I s])++FZ.post) wq fun e w'=>e=Q (au #[T #[O I 0,O I 0,O I 0,O I 0],E R])/\Kp wq w' Nul):=hFr;clear hR hFr
   gi_wp2_with (fail)
   refine j1S ?_;refine j2M (fun w':World=>Kp V w' Nul) (by kernel_rfl) (by kernel_rfl) (j29 (fun a w h=>Exit.noConfusion (And.left h))) ((Kp.refl _ _).drew) (fun hHeld=>?_);refine tk 0 16 hHeld ?_;refine tk 1 17 hHeld ?_ (hy:=by intro w' hSw;have s0:=(HFb.o.kp hSw (fun x=>x)).cell (i:=0) rfl;have s1:=(HbA.o.kp hSw (fun x=>x)).cell (i:=0) rfl;have s2:=(HbA.o.kp hSw (fun x=>x)).cell (i:=1) rfl;clear hSw;go_simp;try with_reducible rfl);refine tk 2 18 hHeld ?_ (hy:=by intro w' hSw;have s0:=(HFb.o.kp hSw (fun x=>x)).cell (i:=0) rfl;have s1:=(HbA.o.kp hSw (fun x=>x)).cell (i:=0) rfl;have s2:=(HbA.o.kp hSw (fun x=>x)).cell (i:=1) rfl;clear hSw;go_simp;try with_reducible rfl);refine wpAnyH_all (rs:=[3,8]) (by kernel_rfl) (by simp) (fun j hj=>?_);rcases List.mem_cons.1 hj with rfl|hj
   ·clear hj;refine I6 (i:=3) rfl rfl (fun K hK=>?_);go_simp;refine(HA.o c s _).mono ?_;rintro e wA ⟨rfl,hkA⟩;have hHA:=hHeld.trans hkA;refine hK.o _ _ hHA (fun hHeld=>?_);clear hK K hkA hHA
    (try simp only[Act.put,Sz0,Sz1,Sz2])
    refine wpAnyH_all (rs:=[4,8]) (by kernel_rfl) (by simp) (fun j hj=>?_);rcases List.mem_cons.1 hj with rfl|hj
    ·clear hj;refine I6 (i:=4) rfl rfl (fun K hK=>?_);go_simp;rw[HLn.o.run];refine(HFr.o _ hHeld).mono ?_;rintro e wB ⟨rfl,hkB⟩;have hHB:=hHeld.trans hkB;refine hK.o _ _ hHB (fun hHeld=>?_);clear hK K hkB hHB
     (try simp only[Act.put,Sz0,Sz1,Sz2])
     refine tk 5 15 hHeld ?_;refine tk 6 21 hHeld ?_;refine tk 7 22 hHeld ?_;refine D6 (i:=8) (by kernel_rfl) rfl rfl (fun K hK=>?_);go_simp;obtain⟨P,hP⟩:∃P,wB.heap.size=P:=⟨_,rfl⟩;have HPg:Hid (V.heap.size<=P):=(by show _<=_;rw[<- hP];exact hHeld.size);have HX0:Hid (Blk (wB.alloc (.cells #[O I 0,O I 0,O I 0,O I 0] 34)) P [O I 0,O I 0,O I 0,O I 0] 34):=(by show Blk _ _ _ _;rw[<- hP];exact Blk.new _ _ _);rw[hP];clear hP;obtain⟨wP,hwP⟩:∃wP,wB.alloc (.cells #[O I 0,O I 0,O I 0,O I 0] 34)=wP:=⟨_,rfl⟩;have hHP:Kp V wP Nul:=(by rw[<- hwP];exact hHeld.alloc _);rw[hwP] at HX0 ⊢;clear hwP;have HP3:Hid (Blk wP P [O I 0,O I 0,O I 0,O I 0] 34):=HX0.o;refine hK.o _ _ hHP (fun hHeld=>?_);clear hK K hHP HX0
     (try simp only[Act.put,Sz0,Sz1,Sz2])
     refine D6 (i:=9) (by kernel_rfl) rfl rfl (fun K hK=>?_);refine J2 34 (.tmp 8) (.tmp 21) rfl P [O I 0,O I 0,O I 0,O I 0] [O I 0,O I 0,O I 0,O I 0] 34 HP3.o rfl rfl rfl D7 (O8 _ _ _ _) ?_;intro w9 hb9 hk9;have HP9:Hid (Blk w9 P [O I 0,O I 0,O I 0,O I 0] 34):=hb9;have hH9:Kp V w9 Nul:=hHeld.trans' hk9 (fun i hi e=>by have e':i=P:=e;have:=HPg.o;omega);have HK9:Hid (Kp V w9 Nul):=hH9;refine hK.o _ _ hH9 (fun hHeld=>?_);clear hK K hb9 hk9 hH9
     (try simp only[Act.put,List.setIfInBounds_toArray])
     refine G7 (i:=10) (v:=?_) (H 9) rfl rfl (by kernel_rfl) (fun _ _ _ h=>h) (Or.inl ⟨by rfl,?_⟩) hHeld ?_;rotate_left
     ·intro w' hSw;clear hSw;go_simp;try with_reducible rfl
     (try simp only[Act.put])
     refine wpAnyH_done (by kernel_rfl) ?_ _;refine NoPanic.normal ?_;clear hHeld;have HI9:Hid (BrI (FZ.f) w w3.heap.size FZ g2 K k Z w9 M):=HIV.o.nul HK9.o;have HL9:Hid (Blk w9 (w.heap.size+1+1) [E (F8 (FZ.f) (K.take k))] 4):=HI9.o.lo
     gi_wp2_with (first|(refine j0K rfl 4 (.tmp 5) (.const (E J)) rfl (w.heap.size+1+1) rfl (E J) rfl rfl 4 (E (F8 (FZ.f) (K.take k))) HL9.o (by kernel_rfl) ?_;intro X hbX hkX)|fail)
     have HEND:=HI9.o.lose HKk.o HR.o hkX hbX;have HKX:Kp V X (fun i=>(Z i∨i∈fp)∨W.heap.size<=i):=(HK9.o.mono (fun _ _ q=>q.elim)).trans (hkX.mono (fun i _ e=>.inl (.inl (by rw[show i=(w.heap.size+1+1) from e];exact HI9.o.z2))));first
     | exact⟨rfl,HKX,Z,⟨M,HEND⟩,fun i hi=>.inl hi⟩
     | exact⟨HKX,Z,⟨M,HEND⟩,fun i hi=>.inl hi⟩
    ·obtain rfl:=List.mem_singleton.1 hj;clear hj;refine I6 (i:=8) rfl rfl (fun K hK=>?_);go_simp;obtain⟨P,hP⟩:∃P,wA.heap.size=P:=⟨_,rfl⟩;have HPg:Hid (V.heap.size<=P):=(by show _<=_;rw[<- hP];exact hHeld.size);have HX0:Hid (Blk (wA.alloc (.cells #[O I 0,O I 0,O I 0,O I 0] 34)) P [O I 0,O I 0,O I 0,O I 0] 34):=(by show Blk _ _ _ _;rw[<- hP];exact Blk.new _ _ _);rw[hP];clear hP;obtain⟨wP,hwP⟩:∃wP,wA.alloc (.cells #[O I 0,O I 0,O I 0,O I 0] 34)=wP:=⟨_,rfl⟩;have hHP:Kp V wP Nul:=(by rw[<- hwP];exact hHeld.alloc _);rw[hwP] at HX0 ⊢;clear hwP;have HP1:Hid (Blk wP P [O I 0,O I 0,O I 0,O I 0] 34):=HX0.o;refine hK.o _ _ hHP (fun hHeld=>?_);clear hK K hHP HX0
     (try simp only[Act.put,Sz0,Sz1,Sz2])
     refine D6 (i:=4) (by kernel_rfl) rfl rfl (fun K hK=>?_);go_simp;rw[HLn.o.run];refine(HFr.o _ hHeld).mono ?_;rintro e wB ⟨rfl,hkB⟩;have hHB:=hHeld.trans hkB;have HP2:Hid (Blk wB P [O I 0,O I 0,O I 0,O I 0] 34):=HP1.o.kp hkB (fun x=>x);refine hK.o _ _ hHB (fun hHeld=>?_);clear hK K hkB hHB
     (try simp only[Act.put,Sz0,Sz1,Sz2])
     refine tk 5 15 hHeld ?_;refine tk 6 21 hHeld ?_;refine tk 7 22 hHeld ?_;refine D6 (i:=9) (by kernel_rfl) rfl rfl (fun K hK=>?_);refine J2 34 (.tmp 8) (.tmp 21) rfl P [O I 0,O I 0,O I 0,O I 0] [O I 0,O I 0,O I 0,O I 0] 34 HP2.o rfl rfl rfl D7 (O8 _ _ _ _) ?_;intro w9 hb9 hk9;have HP9:Hid (Blk w9 P [O I 0,O I 0,O I 0,O I 0] 34):=hb9;have hH9:Kp V w9 Nul:=hHeld.trans' hk9 (fun i hi e=>by have e':i=P:=e;have:=HPg.o;omega);have HK9:Hid (Kp V w9 Nul):=hH9;refine hK.o _ _ hH9 (fun hHeld=>?_);clear hK K hb9 hk9 hH9
     (try simp only[Act.put,List.setIfInBounds_toArray])
     refine G7 (i:=10) (v:=?_) (H 9) rfl rfl (by kernel_rfl) (fun _ _ _ h=>h) (Or.inl ⟨by rfl,?_⟩) hHeld ?_;rotate_left
     ·intro w' hSw;clear hSw;go_simp;try with_reducible rfl
     (try simp only[Act.put])
     refine wpAnyH_done (by kernel_rfl) ?_ _;refine NoPanic.normal ?_;clear hHeld;have HI9:Hid (BrI (FZ.f) w w3.heap.size FZ g2 K k Z w9 M):=HIV.o.nul HK9.o;have HL9:Hid (Blk w9 (w.heap.size+1+1) [E (F8 (FZ.f) (K.take k))] 4):=HI9.o.lo
     gi_wp2_with (first|(refine j0K rfl 4 (.tmp 5) (.const (E J)) rfl (w.heap.size+1+1) rfl (E J) rfl rfl 4 (E (F8 (FZ.f) (K.take k))) HL9.o (by kernel_rfl) ?_;intro X hbX hkX)|fail)
     have HEND:=HI9.o.lose HKk.o HR.o hkX hbX;have HKX:Kp V X (fun i=>(Z i∨i∈fp)∨W.heap.size<=i):=(HK9.o.mono (fun _ _ q=>q.elim)).trans (hkX.mono (fun i _ e=>.inl (.inl (by rw[show i=(w.heap.size+1+1) from e];exact HI9.o.z2))));first
     | exact⟨rfl,HKX,Z,⟨M,HEND⟩,fun i hi=>.inl hi⟩
     | exact⟨HKX,Z,⟨M,HEND⟩,fun i hi=>.inl hi⟩
   ·obtain rfl:=List.mem_singleton.1 hj;clear hj;refine I6 (i:=8) rfl rfl (fun K hK=>?_);go_simp;obtain⟨P,hP⟩:∃P,V.heap.size=P:=⟨_,rfl⟩;have HPg:Hid (V.heap.size<=P):=(by show _<=_;rw[<- hP];exact Nat.le_refl _);have HX0:Hid (Blk ((V.alloc (.cells #[O I 0,O I 0,O I 0,O I 0] 34)).drew) P [O I 0,O I 0,O I 0,O I 0] 34):=(by show Blk _ _ _ _;rw[<- hP];exact(Blk.new V _ _).drewN 1);rw[hP];clear hP;obtain⟨wP,hwP⟩:∃wP,(V.alloc (.cells #[O I 0,O I 0,O I 0,O I 0] 34)).drew=wP:=⟨_,rfl⟩;have hHP:Kp V wP Nul:=(by rw[<- hwP];exact((Kp.refl V Nul).alloc _).drew);rw[hwP] at HX0 ⊢;clear hwP;have HP0:Hid (Blk wP P [O I 0,O I 0,O I 0,O I 0] 34):=HX0.o;refine hK.o _ _ hHP (fun hHeld=>?_);clear hK K hHP HX0
    (try simp only[Act.put,Sz0,Sz1,Sz2])
    refine D6 (i:=3) (by kernel_rfl) rfl rfl (fun K hK=>?_);go_simp;refine(HA.o c s _).mono ?_;rintro e wA ⟨rfl,hkA⟩;have hHA:=hHeld.trans hkA;have HP1:Hid (Blk wA P [O I 0,O I 0,O I 0,O I 0] 34):=HP0.o.kp hkA (fun x=>x);refine hK.o _ _ hHA (fun hHeld=>?_);clear hK K hkA hHA
    (try simp only[Act.put,Sz0,Sz1,Sz2])
    refine D6 (i:=4) (by kernel_rfl) rfl rfl (fun K hK=>?_);go_simp;rw[HLn.o.run];refine(HFr.o _ hHeld).mono ?_;rintro e wB ⟨rfl,hkB⟩;have hHB:=hHeld.trans hkB;have HP2:Hid (Blk wB P [O I 0,O I 0,O I 0,O I 0] 34):=HP1.o.kp hkB (fun x=>x);refine hK.o _ _ hHB (fun hHeld=>?_);clear hK K hkB hHB
    (try simp only[Act.put,Sz0,Sz1,Sz2])
    refine tk 5 15 hHeld ?_;refine tk 6 21 hHeld ?_;refine tk 7 22 hHeld ?_;refine D6 (i:=9) (by kernel_rfl) rfl rfl (fun K hK=>?_);refine J2 34 (.tmp 8) (.tmp 21) rfl P [O I 0,O I 0,O I 0,O I 0] [O I 0,O I 0,O I 0,O I 0] 34 HP2.o rfl rfl rfl D7 (O8 _ _ _ _) ?_;intro w9 hb9 hk9;have HP9:Hid (Blk w9 P [O I 0,O I 0,O I 0,O I 0] 34):=hb9;have hH9:Kp V w9 Nul:=hHeld.trans' hk9 (fun i hi e=>by have e':i=P:=e;have:=HPg.o;omega);have HK9:Hid (Kp V w9 Nul):=hH9;refine hK.o _ _ hH9 (fun hHeld=>?_);clear hK K hb9 hk9 hH9
    (try simp only[Act.put,List.setIfInBounds_toArray])
    refine G7 (i:=10) (v:=?_) (H 9) rfl rfl (by kernel_rfl) (fun _ _ _ h=>h) (Or.inl ⟨by rfl,?_⟩) hHeld ?_;rotate_left
    ·intro w' hSw;clear hSw;go_simp;try with_reducible rfl
    (try simp only[Act.put])
    refine wpAnyH_done (by kernel_rfl) ?_ _;refine NoPanic.normal ?_;clear hHeld;have HI9:Hid (BrI (FZ.f) w w3.heap.size FZ g2 K k Z w9 M):=HIV.o.nul HK9.o;have HL9:Hid (Blk w9 (w.heap.size+1+1) [E (F8 (FZ.f) (K.take k))] 4):=HI9.o.lo
    gi_wp2_with (first|(refine j0K rfl 4 (.tmp 5) (.const (E J)) rfl (w.heap.size+1+1) rfl (E J) rfl rfl 4 (E (F8 (FZ.f) (K.take k))) HL9.o (by kernel_rfl) ?_;intro X hbX hkX)|fail)
    have HEND:=HI9.o.lose HKk.o HR.o hkX hbX;have HKX:Kp V X (fun i=>(Z i∨i∈fp)∨W.heap.size<=i):=(HK9.o.mono (fun _ _ q=>q.elim)).trans (hkX.mono (fun i _ e=>.inl (.inl (by rw[show i=(w.heap.size+1+1) from e];exact HI9.o.z2))));first
    | exact⟨rfl,HKX,Z,⟨M,HEND⟩,fun i hi=>.inl hi⟩
    | exact⟨HKX,Z,⟨M,HEND⟩,fun i hi=>.inl hi⟩
  | some b=>
   obtain⟨⟨b1,s1⟩,⟨b2,s2⟩⟩:=b;rw[hR] at hFr;have HR:Hid ((FZ.f) ((c,s),(c,s))=H ((b1,s1),(b2,s2))):=hR;have HFr:Hid (∀wq,Kp V wq Nul->Calls prog FZ.fid (FZ.pre.push (T #[O I c,O I s,O I c,O I s])++FZ.post) wq fun e w'=>e=Q (au #[T #[O I b1,O I s1,O I b2,O I s2],E J])/\Kp wq w' Nul):=hFr;clear hR hFr
   gi_wp2_with (fail)
   refine j1S ?_;refine j2M (fun w':World=>Kp V w' Nul) (by kernel_rfl) (by kernel_rfl) (j29 (fun a w h=>Exit.noConfusion (And.left h))) ((Kp.refl _ _).drew) (fun hHeld=>?_);refine tk 0 16 hHeld ?_;refine tk 1 17 hHeld ?_ (hy:=by intro w' hSw;have s0:=(HFb.o.kp hSw (fun x=>x)).cell (i:=0) rfl;have s1:=(HbA.o.kp hSw (fun x=>x)).cell (i:=0) rfl;have s2:=(HbA.o.kp hSw (fun x=>x)).cell (i:=1) rfl;clear hSw;go_simp;try with_reducible rfl);refine tk 2 18 hHeld ?_ (hy:=by intro w' hSw;have s0:=(HFb.o.kp hSw (fun x=>x)).cell (i:=0) rfl;have s1:=(HbA.o.kp hSw (fun x=>x)).cell (i:=0) rfl;have s2:=(HbA.o.kp hSw (fun x=>x)).cell (i:=1) rfl;clear hSw;go_simp;try with_reducible rfl);refine wpAnyH_all (rs:=[3,8]) (by kernel_rfl) (by simp) (fun j hj=>?_);rcases List.mem_cons.1 hj with rfl|hj
   ·clear hj;refine I6 (i:=3) rfl rfl (fun K hK=>?_);go_simp;refine(HA.o c s _).mono ?_;rintro e wA ⟨rfl,hkA⟩;have hHA:=hHeld.trans hkA;refine hK.o _ _ hHA (fun hHeld=>?_);clear hK K hkA hHA
    (try simp only[Act.put,Sz0,Sz1,Sz2])
    refine wpAnyH_all (rs:=[4,8]) (by kernel_rfl) (by simp) (fun j hj=>?_);rcases List.mem_cons.1 hj with rfl|hj
    ·clear hj;refine I6 (i:=4) rfl rfl (fun K hK=>?_);go_simp;rw[HLn.o.run];refine(HFr.o _ hHeld).mono ?_;rintro e wB ⟨rfl,hkB⟩;have hHB:=hHeld.trans hkB;refine hK.o _ _ hHB (fun hHeld=>?_);clear hK K hkB hHB
     (try simp only[Act.put,Sz0,Sz1,Sz2])
     refine tk 5 15 hHeld ?_;refine tk 6 21 hHeld ?_;refine tk 7 22 hHeld ?_;refine D6 (i:=8) (by kernel_rfl) rfl rfl (fun K hK=>?_);go_simp;obtain⟨P,hP⟩:∃P,wB.heap.size=P:=⟨_,rfl⟩;have HPg:Hid (V.heap.size<=P):=(by show _<=_;rw[<- hP];exact hHeld.size);have HX0:Hid (Blk (wB.alloc (.cells #[O I 0,O I 0,O I 0,O I 0] 34)) P [O I 0,O I 0,O I 0,O I 0] 34):=(by show Blk _ _ _ _;rw[<- hP];exact Blk.new _ _ _);rw[hP];clear hP;obtain⟨wP,hwP⟩:∃wP,wB.alloc (.cells #[O I 0,O I 0,O I 0,O I 0] 34)=wP:=⟨_,rfl⟩;have hHP:Kp V wP Nul:=(by rw[<- hwP];exact hHeld.alloc _);rw[hwP] at HX0 ⊢;clear hwP;have HP3:Hid (Blk wP P [O I 0,O I 0,O I 0,O I 0] 34):=HX0.o;refine hK.o _ _ hHP (fun hHeld=>?_);clear hK K hHP HX0
     (try simp only[Act.put,Sz0,Sz1,Sz2])
     refine D6 (i:=9) (by kernel_rfl) rfl rfl (fun K hK=>?_);refine J2 34 (.tmp 8) (.tmp 21) rfl P [O I 0,O I 0,O I 0,O I 0] [O I b1,O I s1,O I b2,O I s2] 34 HP3.o rfl rfl rfl D7 (O8 _ _ _ _) ?_;intro w9 hb9 hk9;have HP9:Hid (Blk w9 P [O I b1,O I s1,O I b2,O I s2] 34):=hb9;have hH9:Kp V w9 Nul:=hHeld.trans' hk9 (fun i hi e=>by have e':i=P:=e;have:=HPg.o;omega);have HK9:Hid (Kp V w9 Nul):=hH9;refine hK.o _ _ hH9 (fun hHeld=>?_);clear hK K hb9 hk9 hH9
     (try simp only[Act.put,List.setIfInBounds_toArray])
     refine G7 (i:=10) (v:=?_) (H 9) rfl rfl (by kernel_rfl) (fun _ _ _ h=>h) (Or.inl ⟨by rfl,?_⟩) hHeld ?_;rotate_left
     ·intro w' hSw;clear hSw;go_simp;try with_reducible rfl
     (try simp only[Act.put])
     refine wpAnyH_done (by kernel_rfl) ?_ _;refine NoPanic.normal ?_;clear hHeld;have HbC9:Hid (Blk w9 (W.heap.size+1) ([O I a.k,O I a.v.k,ap ao a.v.x,aq a.v.s,E a.v.b,O I a.v.f]++a.t.hd.cells sl++[]) 50):=HbC.o.kp HK9.o (fun x=>x);have HRg9:Hid (w9.rangeAt (W.heap.size+1) 6 (a.t.hd.cells sl)):=J4 HbC9.o;have HAl:Hid (Calls prog 106 #[T #[FZ.val],a.t.hd.val sl] w9 fun e w'=>∃sl' fp',e=Q ((alN (FZ.f) a.t).hd.val sl')/\AlR (FZ.f) a.t fp w9 w' sl' fp'):=j2o FZ HLn.o a.t sl fp w9 (HOwnV.o.mono (fun i hi=>HK9.o.block i (F4 (HOwnV.o.node i hi)) (fun x=>x))) HNd.o (HIV.o.nul HK9.o).kept;have f9:w9.cell? ⟨w.heap.size,0,G⟩=H (FZ.val):=(HIV.o.nul HK9.o).fb.cell rfl;have HI9:Hid (BrI (FZ.f) w w3.heap.size FZ g2 K k Z w9 M):=HIV.o.nul HK9.o
     gi_wp2_with (first|(refine j3P rfl 48 (.tmp 26) rfl (W.heap.size+1) 6 rfl (a.t.hd.cells sl) _ HRg9.o underlying48 rfl j3 ?_)|fail)
     refine⟨trivial,(callsIn_wide.2 HAl.o).mono ?_⟩;rintro e wB ⟨sl',fp',rfl,hRR⟩;have HRR:Hid (AlR (FZ.f) a.t fp w9 wB sl' fp'):=hRR;have hA2f:∀i∈fp,i<W.heap.size:=(fun i hi=>F4 (HOwn.o.node i hi));have HbCB:Hid (Blk wB (W.heap.size+1) ([O I a.k,O I a.v.k,ap ao a.v.x,aq a.v.s,E a.v.b,O I a.v.f]++a.t.hd.cells sl++[]) 50):=HbC9.o.kp hRR.kp (fun e=>by have:=hA2f _ e;omega);have HIB:Hid (BrI (FZ.f) w w3.heap.size FZ g2 K k Z wB M):=HI9.o.far hRR.kp (fun i hi e=>(HFz.o i e).2 hi) (fun i hi e=>by have:=(HFz.o i e).1;omega);have O5:Hid (sl'.oneCell'=J):=hRR.own.one;clear hRR f9
     gi_wp2_with (first|(refine j3v rfl 48 (.tmp 29) (.tmp 28) rfl (W.heap.size+1) 6 [O I a.k,O I a.v.k,ap ao a.v.x,aq a.v.s,E a.v.b,O I a.v.f] (a.t.hd.cells sl) [] ((alN (FZ.f) a.t).hd.cells sl') 50 HbCB.o rfl rfl rfl rfl j3 (Hd.one (alN (FZ.f) a.t).hd O5.o) ?_;intro wC hbC hkC;have g0:wC.cell? ⟨(w.heap.size+1),0,G⟩=H (an (H ⟨g2,0,G⟩)):=(HIB.o.oth.kp hkC (by show ¬(w.heap.size+1)=(W.heap.size+1);have:=HSW.o;have:=HIB.o.hB;omega)).cell rfl;have g1:wC.cell? ⟨P,0,G⟩=H (O I b1):=((HP9.o.kp HRR.o.kp (fun e=>by have:=hA2f _ e;have:=HPg.o;have:=HVW.o;omega)).kp hkC (by show ¬P=(W.heap.size+1);have:=HPg.o;have:=HVW.o;omega)).cell rfl;have g2':wC.cell? ⟨P,1,G⟩=H (O I s1):=((HP9.o.kp HRR.o.kp (fun e=>by have:=hA2f _ e;have:=HPg.o;have:=HVW.o;omega)).kp hkC (by show ¬P=(W.heap.size+1);have:=HPg.o;have:=HVW.o;omega)).cell rfl;have HbCC:Hid (Blk wC (W.heap.size+1) ((alC (FZ.f) a).cells sl') 50):=hbC)|(refine j20 rfl (.tmp 7) rfl (W.heap.size+1) rfl ((alC (FZ.f) a).cells sl').toArray HbCC.o rfl ?_)|fail)
     have kCV:Kp wB wC (fun i=>i=(W.heap.size+1)):=hkC;have HIC:Hid (BrI (FZ.f) w w3.heap.size FZ g2 K k Z wC M):=HIB.o.far kCV (fun i hi e=>by have e':i=(W.heap.size+1):=e;have:=(HI.o.zl i hi).1;omega) (fun i hi e=>by have e':i=(W.heap.size+1):=e;have:=HSW.o;omega);have hgd:=j0P (HLn.o.ok) (HOk.o.gd _ ((HKm.o _).1 (List.mem_of_getElem? HKk.o)));have hin:NdIn wC (fun _=>True) sl' (alC (FZ.f) a).t:=(HRR.o.own.mono (fun i hi=>kCV.block i (F4 (HRR.o.own.node i hi)) (fun e=>by have e':i=(W.heap.size+1):=e;have:=hA2f i (HRR.o.sub.subset hi);omega))).isIn (fun _ _=>trivial);refine⟨trivial,(callsIn_wide.2 (j2H (fun i=>(Z i/\i≠(w.heap.size+1+1))∨wC.heap.size<=i) g2 b1 s1 (alC (FZ.f) a) sl' (fun _=>True) M wC (HIC.o.gi.mono (fun i hi=>.inl hi)) (fun i hi=>.inr hi) HIC.o.ok hgd.ok hgd.x hgd.size hin (HV.o.kp HIC.o.kp))).mono ?_⟩;rintro e X ⟨er,M',rfl,h1,h2,h3⟩;have hsz:w3.heap.size+2<=wC.heap.size:=by have:=HSW.o;have:=HbCC.o.lt;omega
     obtain⟨Z',hB',hZ'⟩:=HIC.o.put (HLn.o.ok) (HLn.o.inj) HKk.o HR.o HKs.o HKl.o (fun y hy=>HOk.o.at' _ ((HKm.o _).1 hy)) (fun y hy=>HOk.o.gd _ ((HKm.o _).1 hy)) hsz h1 h2 h3;have HKX:Hid (Kp V X (fun i=>(Z i∨i∈fp)∨W.heap.size<=i)):=(((HK9.o.mono (fun _ _ q=>q.elim)).trans (HRR.o.kp.mono (fun i _ e=>.inl (.inr e)))).trans (kCV.mono (fun i _ e=>.inr (by have e':i=(W.heap.size+1):=e;omega)))).trans (h3.kp.mono (fun i _ e=>.inl (.inl (HIC.o.sm e))));have HEND:Hid (∃Z',(∃M,BrI (FZ.f) w w3.heap.size FZ g2 K (k+1) Z' X M)/\More Z Z' W):=⟨Z',⟨M',hB'⟩,fun i hi=>(hZ' i hi).imp id (fun q=>by have:=HbCC.o.lt;omega)⟩;clear hB' hZ' h1 h2 h3 hin hgd kCV
     gi_wp2_with (fail)
     first
     | exact⟨rfl,HKX.o,HEND.o⟩
     | exact⟨HKX.o,HEND.o⟩
    ·obtain rfl:=List.mem_singleton.1 hj;clear hj;refine I6 (i:=8) rfl rfl (fun K hK=>?_);go_simp;obtain⟨P,hP⟩:∃P,wA.heap.size=P:=⟨_,rfl⟩;have HPg:Hid (V.heap.size<=P):=(by show _<=_;rw[<- hP];exact hHeld.size);have HX0:Hid (Blk (wA.alloc (.cells #[O I 0,O I 0,O I 0,O I 0] 34)) P [O I 0,O I 0,O I 0,O I 0] 34):=(by show Blk _ _ _ _;rw[<- hP];exact Blk.new _ _ _);rw[hP];clear hP;obtain⟨wP,hwP⟩:∃wP,wA.alloc (.cells #[O I 0,O I 0,O I 0,O I 0] 34)=wP:=⟨_,rfl⟩;have hHP:Kp V wP Nul:=(by rw[<- hwP];exact hHeld.alloc _);rw[hwP] at HX0 ⊢;clear hwP;have HP1:Hid (Blk wP P [O I 0,O I 0,O I 0,O I 0] 34):=HX0.o;refine hK.o _ _ hHP (fun hHeld=>?_);clear hK K hHP HX0
     (try simp only[Act.put,Sz0,Sz1,Sz2])
     refine D6 (i:=4) (by kernel_rfl) rfl rfl (fun K hK=>?_);go_simp;rw[HLn.o.run];refine(HFr.o _ hHeld).mono ?_;rintro e wB ⟨rfl,hkB⟩;have hHB:=hHeld.trans hkB;have HP2:Hid (Blk wB P [O I 0,O I 0,O I 0,O I 0] 34):=HP1.o.kp hkB (fun x=>x);refine hK.o _ _ hHB (fun hHeld=>?_);clear hK K hkB hHB
     (try simp only[Act.put,Sz0,Sz1,Sz2])
     refine tk 5 15 hHeld ?_;refine tk 6 21 hHeld ?_;refine tk 7 22 hHeld ?_;refine D6 (i:=9) (by kernel_rfl) rfl rfl (fun K hK=>?_);refine J2 34 (.tmp 8) (.tmp 21) rfl P [O I 0,O I 0,O I 0,O I 0] [O I b1,O I s1,O I b2,O I s2] 34 HP2.o rfl rfl rfl D7 (O8 _ _ _ _) ?_;intro w9 hb9 hk9;have HP9:Hid (Blk w9 P [O I b1,O I s1,O I b2,O I s2] 34):=hb9;have hH9:Kp V w9 Nul:=hHeld.trans' hk9 (fun i hi e=>by have e':i=P:=e;have:=HPg.o;omega);have HK9:Hid (Kp V w9 Nul):=hH9;refine hK.o _ _ hH9 (fun hHeld=>?_);clear hK K hb9 hk9 hH9
     (try simp only[Act.put,List.setIfInBounds_toArray])
     refine G7 (i:=10) (v:=?_) (H 9) rfl rfl (by kernel_rfl) (fun _ _ _ h=>h) (Or.inl ⟨by rfl,?_⟩) hHeld ?_;rotate_left
     ·intro w' hSw;clear hSw;go_simp;try with_reducible rfl
     (try simp only[Act.put])
     refine wpAnyH_done (by kernel_rfl) ?_ _;refine NoPanic.normal ?_;clear hHeld;have HbC9:Hid (Blk w9 (W.heap.size+1) ([O I a.k,O I a.v.k,ap ao a.v.x,aq a.v.s,E a.v.b,O I a.v.f]++a.t.hd.cells sl++[]) 50):=HbC.o.kp HK9.o (fun x=>x);have HRg9:Hid (w9.rangeAt (W.heap.size+1) 6 (a.t.hd.cells sl)):=J4 HbC9.o;have HAl:Hid (Calls prog 106 #[T #[FZ.val],a.t.hd.val sl] w9 fun e w'=>∃sl' fp',e=Q ((alN (FZ.f) a.t).hd.val sl')/\AlR (FZ.f) a.t fp w9 w' sl' fp'):=j2o FZ HLn.o a.t sl fp w9 (HOwnV.o.mono (fun i hi=>HK9.o.block i (F4 (HOwnV.o.node i hi)) (fun x=>x))) HNd.o (HIV.o.nul HK9.o).kept;have f9:w9.cell? ⟨w.heap.size,0,G⟩=H (FZ.val):=(HIV.o.nul HK9.o).fb.cell rfl;have HI9:Hid (BrI (FZ.f) w w3.heap.size FZ g2 K k Z w9 M):=HIV.o.nul HK9.o
     gi_wp2_with (first|(refine j3P rfl 48 (.tmp 26) rfl (W.heap.size+1) 6 rfl (a.t.hd.cells sl) _ HRg9.o underlying48 rfl j3 ?_)|fail)
     refine⟨trivial,(callsIn_wide.2 HAl.o).mono ?_⟩;rintro e wB ⟨sl',fp',rfl,hRR⟩;have HRR:Hid (AlR (FZ.f) a.t fp w9 wB sl' fp'):=hRR;have hA2f:∀i∈fp,i<W.heap.size:=(fun i hi=>F4 (HOwn.o.node i hi));have HbCB:Hid (Blk wB (W.heap.size+1) ([O I a.k,O I a.v.k,ap ao a.v.x,aq a.v.s,E a.v.b,O I a.v.f]++a.t.hd.cells sl++[]) 50):=HbC9.o.kp hRR.kp (fun e=>by have:=hA2f _ e;omega);have HIB:Hid (BrI (FZ.f) w w3.heap.size FZ g2 K k Z wB M):=HI9.o.far hRR.kp (fun i hi e=>(HFz.o i e).2 hi) (fun i hi e=>by have:=(HFz.o i e).1;omega);have O5:Hid (sl'.oneCell'=J):=hRR.own.one;clear hRR f9
     gi_wp2_with (first|(refine j3v rfl 48 (.tmp 29) (.tmp 28) rfl (W.heap.size+1) 6 [O I a.k,O I a.v.k,ap ao a.v.x,aq a.v.s,E a.v.b,O I a.v.f] (a.t.hd.cells sl) [] ((alN (FZ.f) a.t).hd.cells sl') 50 HbCB.o rfl rfl rfl rfl j3 (Hd.one (alN (FZ.f) a.t).hd O5.o) ?_;intro wC hbC hkC;have g0:wC.cell? ⟨(w.heap.size+1),0,G⟩=H (an (H ⟨g2,0,G⟩)):=(HIB.o.oth.kp hkC (by show ¬(w.heap.size+1)=(W.heap.size+1);have:=HSW.o;have:=HIB.o.hB;omega)).cell rfl;have g1:wC.cell? ⟨P,0,G⟩=H (O I b1):=((HP9.o.kp HRR.o.kp (fun e=>by have:=hA2f _ e;have:=HPg.o;have:=HVW.o;omega)).kp hkC (by show ¬P=(W.heap.size+1);have:=HPg.o;have:=HVW.o;omega)).cell rfl;have g2':wC.cell? ⟨P,1,G⟩=H (O I s1):=((HP9.o.kp HRR.o.kp (fun e=>by have:=hA2f _ e;have:=HPg.o;have:=HVW.o;omega)).kp hkC (by show ¬P=(W.heap.size+1);have:=HPg.o;have:=HVW.o;omega)).cell rfl;have HbCC:Hid (Blk wC (W.heap.size+1) ((alC (FZ.f) a).cells sl') 50):=hbC)|(refine j20 rfl (.tmp 7) rfl (W.heap.size+1) rfl ((alC (FZ.f) a).cells sl').toArray HbCC.o rfl ?_)|fail)
     have kCV:Kp wB wC (fun i=>i=(W.heap.size+1)):=hkC;have HIC:Hid (BrI (FZ.f) w w3.heap.size FZ g2 K k Z wC M):=HIB.o.far kCV (fun i hi e=>by have e':i=(W.heap.size+1):=e;have:=(HI.o.zl i hi).1;omega) (fun i hi e=>by have e':i=(W.heap.size+1):=e;have:=HSW.o;omega);have hgd:=j0P (HLn.o.ok) (HOk.o.gd _ ((HKm.o _).1 (List.mem_of_getElem? HKk.o)));have hin:NdIn wC (fun _=>True) sl' (alC (FZ.f) a).t:=(HRR.o.own.mono (fun i hi=>kCV.block i (F4 (HRR.o.own.node i hi)) (fun e=>by have e':i=(W.heap.size+1):=e;have:=hA2f i (HRR.o.sub.subset hi);omega))).isIn (fun _ _=>trivial);refine⟨trivial,(callsIn_wide.2 (j2H (fun i=>(Z i/\i≠(w.heap.size+1+1))∨wC.heap.size<=i) g2 b1 s1 (alC (FZ.f) a) sl' (fun _=>True) M wC (HIC.o.gi.mono (fun i hi=>.inl hi)) (fun i hi=>.inr hi) HIC.o.ok hgd.ok hgd.x hgd.size hin (HV.o.kp HIC.o.kp))).mono ?_⟩;rintro e X ⟨er,M',rfl,h1,h2,h3⟩;have hsz:w3.heap.size+2<=wC.heap.size:=by have:=HSW.o;have:=HbCC.o.lt;omega
     obtain⟨Z',hB',hZ'⟩:=HIC.o.put (HLn.o.ok) (HLn.o.inj) HKk.o HR.o HKs.o HKl.o (fun y hy=>HOk.o.at' _ ((HKm.o _).1 hy)) (fun y hy=>HOk.o.gd _ ((HKm.o _).1 hy)) hsz h1 h2 h3;have HKX:Hid (Kp V X (fun i=>(Z i∨i∈fp)∨W.heap.size<=i)):=(((HK9.o.mono (fun _ _ q=>q.elim)).trans (HRR.o.kp.mono (fun i _ e=>.inl (.inr e)))).trans (kCV.mono (fun i _ e=>.inr (by have e':i=(W.heap.size+1):=e;omega)))).trans (h3.kp.mono (fun i _ e=>.inl (.inl (HIC.o.sm e))));have HEND:Hid (∃Z',(∃M,BrI (FZ.f) w w3.heap.size FZ g2 K (k+1) Z' X M)/\More Z Z' W):=⟨Z',⟨M',hB'⟩,fun i hi=>(hZ' i hi).imp id (fun q=>by have:=HbCC.o.lt;omega)⟩;clear hB' hZ' h1 h2 h3 hin hgd kCV
     gi_wp2_with (fail)
     first
     | exact⟨rfl,HKX.o,HEND.o⟩
     | exact⟨HKX.o,HEND.o⟩
   ·obtain rfl:=List.mem_singleton.1 hj;clear hj;refine I6 (i:=8) rfl rfl (fun K hK=>?_);go_simp;obtain⟨P,hP⟩:∃P,V.heap.size=P:=⟨_,rfl⟩;have HPg:Hid (V.heap.size<=P):=(by show _<=_;rw[<- hP];exact Nat.le_refl _);have HX0:Hid (Blk ((V.alloc (.cells #[O I 0,O I 0,O I 0,O I 0] 34)).drew) P [O I 0,O I 0,O I 0,O I 0] 34):=(by show Blk _ _ _ _;rw[<- hP];exact(Blk.new V _ _).drewN 1);rw[hP];clear hP;obtain⟨wP,hwP⟩:∃wP,(V.alloc (.cells #[O I 0,O I 0,O I 0,O I 0] 34)).drew=wP:=⟨_,rfl⟩;have hHP:Kp V wP Nul:=(by rw[<- hwP];exact((Kp.refl V Nul).alloc _).drew);rw[hwP] at HX0 ⊢;clear hwP;have HP0:Hid (Blk wP P [O I 0,O I 0,O I 0,O I 0] 34):=HX0.o;refine hK.o _ _ hHP (fun hHeld=>?_);clear hK K hHP HX0
    (try simp only[Act.put,Sz0,Sz1,Sz2])
    refine D6 (i:=3) (by kernel_rfl) rfl rfl (fun K hK=>?_);go_simp;refine(HA.o c s _).mono ?_;rintro e wA ⟨rfl,hkA⟩;have hHA:=hHeld.trans hkA;have HP1:Hid (Blk wA P [O I 0,O I 0,O I 0,O I 0] 34):=HP0.o.kp hkA (fun x=>x);refine hK.o _ _ hHA (fun hHeld=>?_);clear hK K hkA hHA
    (try simp only[Act.put,Sz0,Sz1,Sz2])
    refine D6 (i:=4) (by kernel_rfl) rfl rfl (fun K hK=>?_);go_simp;rw[HLn.o.run];refine(HFr.o _ hHeld).mono ?_;rintro e wB ⟨rfl,hkB⟩;have hHB:=hHeld.trans hkB;have HP2:Hid (Blk wB P [O I 0,O I 0,O I 0,O I 0] 34):=HP1.o.kp hkB (fun x=>x);refine hK.o _ _ hHB (fun hHeld=>?_);clear hK K hkB hHB
    (try simp only[Act.put,Sz0,Sz1,Sz2])
    refine tk 5 15 hHeld ?_;refine tk 6 21 hHeld ?_;refine tk 7 22 hHeld ?_;refine D6 (i:=9) (by kernel_rfl) rfl rfl (fun K hK=>?_);refine J2 34 (.tmp 8) (.tmp 21) rfl P [O I 0,O I 0,O I 0,O I 0] [O I b1,O I s1,O I b2,O I s2] 34 HP2.o rfl rfl rfl D7 (O8 _ _ _ _) ?_;intro w9 hb9 hk9;have HP9:Hid (Blk w9 P [O I b1,O I s1,O I b2,O I s2] 34):=hb9;have hH9:Kp V w9 Nul:=hHeld.trans' hk9 (fun i hi e=>by have e':i=P:=e;have:=HPg.o;omega);have HK9:Hid (Kp V w9 Nul):=hH9;refine hK.o _ _ hH9 (fun hHeld=>?_);clear hK K hb9 hk9 hH9
    (try simp only[Act.put,List.setIfInBounds_toArray])
    refine G7 (i:=10) (v:=?_) (H 9) rfl rfl (by kernel_rfl) (fun _ _ _ h=>h) (Or.inl ⟨by rfl,?_⟩) hHeld ?_;rotate_left
    ·intro w' hSw;clear hSw;go_simp;try with_reducible rfl
    (try simp only[Act.put])
    refine wpAnyH_done (by kernel_rfl) ?_ _;refine NoPanic.normal ?_;clear hHeld;have HbC9:Hid (Blk w9 (W.heap.size+1) ([O I a.k,O I a.v.k,ap ao a.v.x,aq a.v.s,E a.v.b,O I a.v.f]++a.t.hd.cells sl++[]) 50):=HbC.o.kp HK9.o (fun x=>x);have HRg9:Hid (w9.rangeAt (W.heap.size+1) 6 (a.t.hd.cells sl)):=J4 HbC9.o;have HAl:Hid (Calls prog 106 #[T #[FZ.val],a.t.hd.val sl] w9 fun e w'=>∃sl' fp',e=Q ((alN (FZ.f) a.t).hd.val sl')/\AlR (FZ.f) a.t fp w9 w' sl' fp'):=j2o FZ HLn.o a.t sl fp w9 (HOwnV.o.mono (fun i hi=>HK9.o.block i (F4 (HOwnV.o.node i hi)) (fun x=>x))) HNd.o (HIV.o.nul HK9.o).kept;have f9:w9.cell? ⟨w.heap.size,0,G⟩=H (FZ.val):=(HIV.o.nul HK9.o).fb.cell rfl;have HI9:Hid (BrI (FZ.f) w w3.heap.size FZ g2 K k Z w9 M):=HIV.o.nul HK9.o
    gi_wp2_with (first|(refine j3P rfl 48 (.tmp 26) rfl (W.heap.size+1) 6 rfl (a.t.hd.cells sl) _ HRg9.o underlying48 rfl j3 ?_)|fail)
    refine⟨trivial,(callsIn_wide.2 HAl.o).mono ?_⟩;rintro e wB ⟨sl',fp',rfl,hRR⟩;have HRR:Hid (AlR (FZ.f) a.t fp w9 wB sl' fp'):=hRR;have hA2f:∀i∈fp,i<W.heap.size:=(fun i hi=>F4 (HOwn.o.node i hi));have HbCB:Hid (Blk wB (W.heap.size+1) ([O I a.k,O I a.v.k,ap ao a.v.x,aq a.v.s,E a.v.b,O I a.v.f]++a.t.hd.cells sl++[]) 50):=HbC9.o.kp hRR.kp (fun e=>by have:=hA2f _ e;omega);have HIB:Hid (BrI (FZ.f) w w3.heap.size FZ g2 K k Z wB M):=HI9.o.far hRR.kp (fun i hi e=>(HFz.o i e).2 hi) (fun i hi e=>by have:=(HFz.o i e).1;omega);have O5:Hid (sl'.oneCell'=J):=hRR.own.one;clear hRR f9
    gi_wp2_with (first|(refine j3v rfl 48 (.tmp 29) (.tmp 28) rfl (W.heap.size+1) 6 [O I a.k,O I a.v.k,ap ao a.v.x,aq a.v.s,E a.v.b,O I a.v.f] (a.t.hd.cells sl) [] ((alN (FZ.f) a.t).hd.cells sl') 50 HbCB.o rfl rfl rfl rfl j3 (Hd.one (alN (FZ.f) a.t).hd O5.o) ?_;intro wC hbC hkC;have g0:wC.cell? ⟨(w.heap.size+1),0,G⟩=H (an (H ⟨g2,0,G⟩)):=(HIB.o.oth.kp hkC (by show ¬(w.heap.size+1)=(W.heap.size+1);have:=HSW.o;have:=HIB.o.hB;omega)).cell rfl;have g1:wC.cell? ⟨P,0,G⟩=H (O I b1):=((HP9.o.kp HRR.o.kp (fun e=>by have:=hA2f _ e;have:=HPg.o;have:=HVW.o;omega)).kp hkC (by show ¬P=(W.heap.size+1);have:=HPg.o;have:=HVW.o;omega)).cell rfl;have g2':wC.cell? ⟨P,1,G⟩=H (O I s1):=((HP9.o.kp HRR.o.kp (fun e=>by have:=hA2f _ e;have:=HPg.o;have:=HVW.o;omega)).kp hkC (by show ¬P=(W.heap.size+1);have:=HPg.o;have:=HVW.o;omega)).cell rfl;have HbCC:Hid (Blk wC (W.heap.size+1) ((alC (FZ.f) a).cells sl') 50):=hbC)|(refine j20 rfl (.tmp 7) rfl (W.heap.size+1) rfl ((alC (FZ.f) a).cells sl').toArray HbCC.o rfl ?_)|fail)
    have kCV:Kp wB wC (fun i=>i=(W.heap.size+1)):=hkC;have HIC:Hid (BrI (FZ.f) w w3.heap.size FZ g2 K k Z wC M):=HIB.o.far kCV (fun i hi e=>by have e':i=(W.heap.size+1):=e;have:=(HI.o.zl i hi).1;omega) (fun i hi e=>by have e':i=(W.heap.size+1):=e;have:=HSW.o;omega);have hgd:=j0P (HLn.o.ok) (HOk.o.gd _ ((HKm.o _).1 (List.mem_of_getElem? HKk.o)));have hin:NdIn wC (fun _=>True) sl' (alC (FZ.f) a).t:=(HRR.o.own.mono (fun i hi=>kCV.block i (F4 (HRR.o.own.node i hi)) (fun e=>by have e':i=(W.heap.size+1):=e;have:=hA2f i (HRR.o.sub.subset hi);omega))).isIn (fun _ _=>trivial);refine⟨trivial,(callsIn_wide.2 (j2H (fun i=>(Z i/\i≠(w.heap.size+1+1))∨wC.heap.size<=i) g2 b1 s1 (alC (FZ.f) a) sl' (fun _=>True) M wC (HIC.o.gi.mono (fun i hi=>.inl hi)) (fun i hi=>.inr hi) HIC.o.ok hgd.ok hgd.x hgd.size hin (HV.o.kp HIC.o.kp))).mono ?_⟩;rintro e X ⟨er,M',rfl,h1,h2,h3⟩;have hsz:w3.heap.size+2<=wC.heap.size:=by have:=HSW.o;have:=HbCC.o.lt;omega
    obtain⟨Z',hB',hZ'⟩:=HIC.o.put (HLn.o.ok) (HLn.o.inj) HKk.o HR.o HKs.o HKl.o (fun y hy=>HOk.o.at' _ ((HKm.o _).1 hy)) (fun y hy=>HOk.o.gd _ ((HKm.o _).1 hy)) hsz h1 h2 h3;have HKX:Hid (Kp V X (fun i=>(Z i∨i∈fp)∨W.heap.size<=i)):=(((HK9.o.mono (fun _ _ q=>q.elim)).trans (HRR.o.kp.mono (fun i _ e=>.inl (.inr e)))).trans (kCV.mono (fun i _ e=>.inr (by have e':i=(W.heap.size+1):=e;omega)))).trans (h3.kp.mono (fun i _ e=>.inl (.inl (HIC.o.sm e))));have HEND:Hid (∃Z',(∃M,BrI (FZ.f) w w3.heap.size FZ g2 K (k+1) Z' X M)/\More Z Z' W):=⟨Z',⟨M',hB'⟩,fun i hi=>(hZ' i hi).imp id (fun q=>by have:=HbCC.o.lt;omega)⟩;clear hB' hZ' h1 h2 h3 hin hgd kCV
    gi_wp2_with (fail)
    first
    | exact⟨rfl,HKX.o,HEND.o⟩
    | exact⟨HKX.o,HEND.o⟩
 case hdone=>
  subst hact;rintro D Z W hD ⟨M,hB⟩ hdef;have HB:Hid (BrI (FZ.f) w w3.heap.size FZ g2 K K.length Z W M):=hB;have HDf:Hid (W.heap[D]? = H (.deferred (H []))):=hdef;have HDD:Hid (D=w3.heap.size):=hD;have HN1:Hid (Blk W (w.heap.size+1) [an (H ⟨g2,0,G⟩)] 24):=hB.oth;have HN2:Hid (Blk W (w.heap.size+1+1) [E (F8 (FZ.f) (K.take K.length))] 4):=hB.lo;have HLs:Hid (F8 (FZ.f) (K.take K.length)=F8 (FZ.f) L):=by
   show _=_;rw[List.take_length];unfold F8;rw[Bool.eq_iff_iff,List.any_eq_true,List.any_eq_true];exact⟨fun ⟨x,h1,h2⟩=>⟨x,(HKm.o x).1 h1,h2⟩,fun ⟨x,h1,h2⟩=>⟨x,(HKm.o x).2 h1,h2⟩⟩
  clear hB hdef hD hgs hg2e;generalize F8 (FZ.f) (K.take K.length)=lo at *;go_wp2_with fail;refine wp_region_noPanic ?_;refine I0 (fun w':World=>DoS W w' (w.heap.size+1) (an (H ⟨g2,0,G⟩)) (w.heap.size+1+1) (E lo)) (by kernel_rfl) ⟨HN1.o.drewN 1,HN2.o.drewN 1,(Kp.refl _ _).drew⟩ (fun hHeld=>?_);refine tk 0 35 hHeld ?_ (hy:=by intro w' hSw;have s0:=hSw.ba.cell (i:=0) rfl;have s1:=hSw.bb.cell (i:=0) rfl;clear hSw;go_simp;try with_reducible rfl);refine tk 1 36 hHeld ?_ (hy:=by intro w' hSw;have s0:=hSw.ba.cell (i:=0) rfl;have s1:=hSw.bb.cell (i:=0) rfl;clear hSw;go_simp;try with_reducible rfl);refine D6 (i:=2) (by kernel_rfl) rfl rfl (fun K hK=>?_);refine j41 24 (.tmp 4) (.tmp 35) rfl (w.heap.size+1) rfl (an (H ⟨g2,0,G⟩)) rfl rfl 24 (an (H ⟨g2,0,G⟩)) (HN1.o.drewN 1) (by kernel_rfl) ?_;intro X1 hb1 hk1;have HS1:Hid (DoS W X1 (w.heap.size+1) (an (H ⟨g2,0,G⟩)) (w.heap.size+1+1) (E lo)):=⟨hb1,(HN2.o.drewN 1).kp hk1 (by show ¬w.heap.size+1+1=w.heap.size+1;omega),(Kp.refl _ _).drew.trans (hk1.mono (fun i _ e=>.inl e))⟩
  refine hK.o _ _ HS1.o (fun hHeld=>?_);clear hK K hb1 hk1
  (try simp only[Act.put])
  refine D6 (i:=3) (by kernel_rfl) rfl rfl (fun K hK=>?_);refine j41 4 (.tmp 5) (.tmp 36) rfl (w.heap.size+1+1) rfl (E lo) rfl rfl 4 (E lo) HS1.o.bb (by kernel_rfl) ?_;intro X2 hb2 hk2;have HS2:Hid (DoS W X2 (w.heap.size+1) (an (H ⟨g2,0,G⟩)) (w.heap.size+1+1) (E lo)):=⟨HS1.o.ba.kp hk2 (by show ¬w.heap.size+1=w.heap.size+1+1;omega),hb2,HS1.o.kp.trans (hk2.mono (fun i _ e=>.inr e))⟩;refine hK.o _ _ HS2.o (fun _=>?_);clear hK K hb2 hk2 HS1
  (try simp only[Act.put])
  refine wpAnyH_done (by kernel_rfl) ?_ _;refine NoPanic.normal ?_;go_wp2_with fail;have hne:∀i,i=w.heap.size+1∨i=w.heap.size+1+1->¬i=D:=fun i hi=>by have:=HDD.o;have:=HGS.o;have:=HS0.o.1;omega
  have hD2:X2.heap[D]? = H (.deferred (H [])):=(HS2.o.kp.block D (Array.getElem?_eq_some_iff.1 HDf.o).1 (fun e=>hne D e rfl)).trans HDf.o;refine⟨by simp,.inl ⟨_,_,rfl,run_takeDeferred hD2,?_⟩⟩;have q1:Blk (X2.putObj D (.deferred G)) (w.heap.size+1) [an (H ⟨g2,0,G⟩)] 24:=HS2.o.ba.kp J0 (fun e=>hne _ (.inl rfl) e);have q2:Blk (X2.putObj D (.deferred G)) (w.heap.size+1+1) [E lo] 4:=HS2.o.bb.kp J0 (fun e=>hne _ (.inr rfl) e);have HGi:j6 (X2.putObj D (.deferred G)) (fun i=>w.heap.size<=i) g2 M:=by
   have g1:j6 W (fun i=>(Z i/\i≠w.heap.size+1+1)) g2 M:=HB.o.gi;have hzz:∀i,Z i->i=w.heap.size+1+1∨i=g2∨w3.heap.size+2<=i:=(fun i hi=>(HB.o.zl i hi).2);have hg3:=HS0.o.1;have hn1:∀i,(Z i/\i≠w.heap.size+1+1)->i≠w.heap.size+1:=fun i hi e=>by rcases hzz i hi.1 with q|q|q <;> have:=HGS.o <;> omega
   have g2':j6 X2 (fun i=>(Z i/\i≠w.heap.size+1+1)) g2 M:=g1.far' HS2.o.kp (fun i hi e=>by rcases e with e|e;exact hn1 i hi e;exact hi.2 e);have hnD:∀i,(Z i/\i≠w.heap.size+1+1)->¬i=D:=fun i hi e=>by rcases hzz i hi.1 with q|q|q <;> have:=HGS.o <;> have:=HDD.o <;> omega
   exact(g2'.far' J0 hnD).mono (fun i hi=>by rcases hzz i hi.1 with q|q|q <;> have:=HGS.o <;> omega)
  refine⟨au #[an (H ⟨g2,0,G⟩),E lo],?res,g2,M,by rw[HLs.o],HGi,HB.o.ok,fun y=>?_,by have:=HS0.o.1;omega,?_⟩
  case res=>
   have c1:(X2.putObj D (.deferred G)).cell? ⟨w.heap.size+1,0,G⟩=H (an (H ⟨g2,0,G⟩)):=q1.cell rfl;have c2:(X2.putObj D (.deferred G)).cell? ⟨w.heap.size+1+1,0,G⟩=H (E lo):=q2.cell rfl;rw[jD9 rfl];go_simp
  ·rw[HB.o.mem y,List.take_length,T8,T8];exact⟨fun ⟨x,h1,h2⟩=>⟨x,(HKm.o x).1 h1,h2⟩,fun ⟨x,h1,h2⟩=>⟨x,(HKm.o x).2 h1,h2⟩⟩
  ·exact X6 (HB.o.kp.trans' HS2.o.kp (fun i hi e=>by rcases e with e|e <;> omega)) (by have:=HDD.o;have:=HGS.o;have:=HS0.o.1;omega)
end
section
open Go.RowKit Go.Maps
def lnK (xc xr:Nat) (cols:Bool) (at' n:Int):FK:=⟨lnF cols at' n,144,#[T #[U (H ⟨xc,0,G⟩) 2 2,U (H ⟨xr,0,G⟩) 2 2]],#[],xc,xr,spC (if cols then at' else 1) (if cols then n else 0) 256,spC (if cols then 1 else at') (if cols then 0 else n) 4096,183⟩
theorem jDl (va:Array Value)(w:World):(callFunc 144 va).run prog w=.ok (.enter 144 va) w:=by simp[go_sem]
theorem jAt {xc xr:Nat}{cols:Bool}{at' n:Int}(h:lnOk cols at' n):(lnK xc xr cols at' n).Ok:=⟨j1N h,j1M _ _ _,fun a w hk=>j8s xc xr cols at' n h a w ⟨hk.c,hk.r⟩,jDl⟩
theorem brought_at (xc xr:Nat)(cols:Bool)(at' n:Int)(hl:lnOk cols at' n)(g:Nat)(L:List Cc)(w:World)(hg:GI 0 w g L)(hL:Ok17 L)(hk:R4 w xc xr cols at' n)(hv:VS w):
 Calls prog 64 #[T #[Y6 xc xr],an (H ⟨g,0,G⟩)] w fun e w'=>∃g2 M,e=Q (au #[an (H ⟨g2,0,G⟩),E (F8 (lnF cols at' n) L)])/\BrR (lnF cols at' n) L w w' g2 M:=
 j4Q (lnK xc xr cols at' n) (jAt hl) g L w hg hL ⟨hk.c,hk.r,.inl rfl⟩ hv
end
section
open Go.RowKit
inductive LnR (cols:Bool) (at' n:Int) (L:List Cc) (w w':World):Value->Prop
 | bad (h:¬lnOk cols at' n) (k:Kp w w' Nul):LnR cols at' n L w w' (au #[an G,O I 1])
 | off (h:lnOk cols at' n) (hn:0<n) (hl:F8 (lnF cols at' n) L=J) (k:Kp w w' Nul):LnR cols at' n L w w' (au #[an G,O I 20])
 | ok (h:lnOk cols at' n) (hl:¬(0<n/\F8 (lnF cols at' n) L=J)) (g2:Nat) (M:List Cc) (hb:BrR (lnF cols at' n) L w w' g2 M):LnR cols at' n L w w' (au #[an (H ⟨g2,0,G⟩),O I 0])
theorem j4R (cols:Bool)(at' n:Int)(g:Nat)(L:List Cc)(w:World)(hg:GI 0 w g L)(hL:Ok17 L)(hv:VS w):
 Calls prog 65 #[an (H ⟨g,0,G⟩),E cols,O I at',O I n] w fun e w'=>∃v,e=Q v/\LnR cols at' n L w w' v:=by
 by_cases hl:lnOk cols at' n
 ·have HO:Hid (∀w,Calls prog 107 #[E cols,O I at',O I n] w fun e w'=>∃xc xr,e=Q (au #[T #[Y6 xc xr],O I 0])/\R4 w' xc xr cols at' n/\Kp w w' Nul):=fun w=>jBs cols at' n hl w
  have HB:Hid (∀xc xr wq,Kp w wq Nul->R4 wq xc xr cols at' n->Calls prog 64 #[T #[Y6 xc xr],an (H ⟨g,0,G⟩)] wq fun e w'=>∃g2 M,e=Q (au #[an (H ⟨g2,0,G⟩),E (F8 (lnF cols at' n) L)])/\BrR (lnF cols at' n) L wq w' g2 M):=fun xc xr wq k hk=>brought_at xc xr cols at' n hl g L wq (hg.kp k) hL hk (hv.kp k)
  have HBR:Hid (∀wq w' g2 M,Kp w wq Nul->BrR (lnF cols at' n) L wq w' g2 M->BrR (lnF cols at' n) L w w' g2 M):=fun wq w' g2 M k h=>⟨h.gi.mono (fun i hi=>Nat.le_trans k.size hi),h.ok,h.mem,Nat.le_trans k.size h.lo,k.trans h.kp⟩
  have HL:Hid (lnOk cols at' n):=hl;clear hl hg hL hv;go_enter func65,ntmps65;go_wp2_with fail;refine(HO.o w).mono ?_;rintro e w1 ⟨xc,xr,rfl,hk1,hkp1⟩;have K1:Hid (Kp w w1 Nul):=hkp1;have HK1:Hid (R4 w1 xc xr cols at' n):=hk1;clear hk1 hkp1;go_wp2_with fail;refine(HB.o xc xr _ (K1.o.alloc _) (HK1.o.kp ((Kp.refl _ _).alloc _))).mono ?_;rintro e w2 ⟨g2,M,rfl,hbr⟩;have HBr:Hid (BrR (lnF cols at' n) L w w2 g2 M):=HBR.o _ w2 g2 M (K1.o.alloc _) hbr;clear hbr HB HBR K1 HK1 HO;obtain⟨lo,hlo⟩:∃lo,F8 (lnF cols at' n) L=lo:=⟨_,rfl⟩;rw[hlo];have HLo:Hid (F8 (lnF cols at' n) L=lo):=hlo;clear hlo;by_cases hn:0<n
  ·cases lo
   ·go_wp2_with fail
    go_ret2
    first
    | exact⟨_,rfl,.ok HL.o (fun q=>by rw[HLo.o] at q;exact absurd q.2 (by decide)) g2 M HBr.o⟩
    | exact .ok HL.o (fun q=>by rw[HLo.o] at q;exact absurd q.2 (by decide)) g2 M HBr.o
   ·go_wp2_with fail
    go_ret2
    first
    | exact⟨_,rfl,.off HL.o hn HLo.o HBr.o.kp⟩
    | exact .off HL.o hn HLo.o HBr.o.kp
  ·have hn':n<=0:=(by omega);have hd:decide (0<n)=R:=(by simp;omega);cases lo <;>
   ·go_wp2_with fail
    go_ret2
    refine⟨au #[an (H ⟨g2,0,G⟩),O I 0],?_,LnR.ok HL.o (fun q=>by omega) g2 M HBr.o⟩;first
    | rfl
    | simp
 ·have HO:Hid (Calls prog 107 #[E cols,O I at',O I n] w fun e w'=>e=Q (au #[T #[.nilFunc],O I 1])/\Kp w w' Nul):=jBr cols at' n hl w;have HR:Hid (∀w',Kp w w' Nul->LnR cols at' n L w w' (au #[an G,O I 1])):=fun w' k=>.bad hl k
  clear hl hg hL hv;go_enter func65,ntmps65;go_wp2_with fail;refine HO.o.mono ?_;rintro e w1 ⟨rfl,hkp1⟩;have K1:Hid (Kp w w1 Nul):=hkp1;clear hkp1;go_wp2_with fail
  go_ret2
  first
  | exact⟨_,rfl,HR.o _ (K1.o.alloc _)⟩
  | exact HR.o _ (K1.o.alloc _)
theorem j6m (at' n:Int)(g:Nat)(L:List Cc)(w:World)(hg:GI 0 w g L)(hL:Ok17 L)(hv:VS w):
 Calls prog 30 #[an (H ⟨g,0,G⟩),O I at',O I n] w fun e w'=>∃v,e=Q v/\LnR R at' n L w w' v:=by
 have ag:Hid (Calls prog 65 #[an (H ⟨g,0,G⟩),E R,O I at',O I n] w fun e w'=>∃v u,e=Q (au #[v,u])/\LnR R at' n L w w' (au #[v,u])):=(j4R R at' n g L w hg hL hv).mono (by
  rintro e w' ⟨v,rfl,h⟩;cases h with
  | bad h k=>exact⟨_,_,rfl,.bad h k⟩
  | off h hn hl k=>exact⟨_,_,rfl,.off h hn hl k⟩
  | ok h hl g2 M hb=>exact⟨_,_,rfl,.ok h hl g2 M hb⟩)
 clear hg hL hv;go_enter func30,ntmps30;go_wp2_with fail;refine ag.o.mono ?_;rintro e w1 ⟨v,u,rfl,h⟩;have HR:Hid (LnR R at' n L w w1 (au #[v,u])):=h;clear h;go_wp2_with fail
 go_ret2
 first
 | exact⟨_,rfl,HR.o⟩
 | exact HR.o
theorem j9L (at' n:Int)(g:Nat)(L:List Cc)(w:World)(hg:GI 0 w g L)(hL:Ok17 L)(hv:VS w):
 Calls prog 31 #[an (H ⟨g,0,G⟩),O I at',O I n] w fun e w'=>∃v,e=Q v/\LnR J at' n L w w' v:=by
 have ag:Hid (Calls prog 65 #[an (H ⟨g,0,G⟩),E J,O I at',O I n] w fun e w'=>∃v u,e=Q (au #[v,u])/\LnR J at' n L w w' (au #[v,u])):=(j4R J at' n g L w hg hL hv).mono (by
  rintro e w' ⟨v,rfl,h⟩;cases h with
  | bad h k=>exact⟨_,_,rfl,.bad h k⟩
  | off h hn hl k=>exact⟨_,_,rfl,.off h hn hl k⟩
  | ok h hl g2 M hb=>exact⟨_,_,rfl,.ok h hl g2 M hb⟩)
 clear hg hL hv;go_enter func31,ntmps31;go_wp2_with fail;refine ag.o.mono ?_;rintro e w1 ⟨v,u,rfl,h⟩;have HR:Hid (LnR J at' n L w w1 (au #[v,u])):=h;clear h;go_wp2_with fail
 go_ret2
 first
 | exact⟨_,rfl,HR.o⟩
 | exact HR.o
theorem j9A {t:Nd}(h:chk t=0):t.size<=256:=by
 unfold chk at h;by_cases q:256<t.size
 ·rw[if_pos q] at h;omega
 ·omega
theorem R9 {P:Program}{fn:Func}{p u:Tmp}{ty:TypeId}(h:fn.results=#[.cell p ty,.tmp u])(tmps:Array Value)(w:World)(g:Nat)(t:TypeId)(cs:Array Value)(fr:Nat×Nat)(d:TypeDesc)
 (hp:tmps.getD p undef=an (H ⟨g,0,G⟩)) (hg:w.heap[g]? = H (.cells cs t fr))
 (hu:P.underlying ty=H d) (hd:(match d with | .struct _ | .array _ _=>J|_=>R)=J) (hi:(P.info? ty).map (·.size)=H cs.size) :
 (results fn tmps).run P w=.ok (au #[T cs,tmps.getD u undef]) w:=by
 have hp':tmps[p]?.getD undef=an (H ⟨g,0,G⟩):=by simpa using hp
 simp[results,h,hp',asAddr,run_loadVar_row w g t ty cs fr d hg hu hd hi]
theorem j3h {w:World}{b:Nat}{cs:List Value}{t:TypeId}(h:w.heap[b]? = H (.cells cs.toArray t (0,0))):w.rangeAt b 0 cs:=J4 (pre:=[]) (l:=cs) (post:=[]) (by simpa using h)
end
section
open Go.RowKit Go.Maps
def ctR (c r:Int):Ct:=⟨2,⟨0,0,⟨#[]⟩,R,0⟩,.mk { zHd with k:=5,c1:=c,r1:=r } []⟩
theorem chkR (c r:Int)(h:vC c r=J):chk (ctR c r).t=0:=by
 have hw:wm { zHd with k:=5,c1:=c,r1:=r } 0=J:=by
  unfold wm;simp[wmJ,j9,j0f]
 have hv:vA c r c r=J:=by
  unfold vA;rw[h];simp
 have ho:ownE { zHd with k:=5,c1:=c,r1:=r } 0 R=0:=by
  unfold ownE;rw[hw];simp[hv]
 unfold chk ctR;rw[Nd.size,D3,Nd.dep,depL,Nd.fe,feL];simp[ho]
theorem gvR (c r:Int)(h:vC c r=J):gv (ctR c r)=J:=by
 unfold gv Q1;rw[chkR c r h];simp[ctR,J9,J6]
theorem cpR (c r:Int):cpC (ctR c r)=ctR c r:=by
 unfold cpC ctR;rw[cpy,cpyL];have:one 0=0:=by decide
 simp[zHd,this]
theorem gdR (c r:Int)(h:vC c r=J):Gd (ctR c r):=⟨gvR c r h,by show (2:Int)≠0;decide,by show (Nd.mk _ []).ok;rw[Nd.ok,okL];exact⟨by show (0:Nat)<_;decide,trivial⟩,by show (0:Nat)<_;decide,by show (Nd.mk _ []).size<=_;rw[Nd.size,D3];decide,cpR c r⟩
theorem alR (f:Fate)(c r:Int){b:Ar4}(h:f ((c,r),(c,r))=H b):alC f (ctR c r)=ctR b.1.1 b.1.2:=by
 unfold alC ctR;simp only;rw[alN,if_pos (.inl rfl)];unfold nmN;have e:nmA (Nd.mk { zHd with k:=5,c1:=c,r1:=r } []).hd=((c,r),(c,r)):=by simp[Nd.hd,nmA]
 rw[e,h];simp[toH,Nd.hd,Nd.ts]
theorem gv7:gv ct7=J:=by
 have h1:J6 ct7.v=J:=by simp[J6,ct7]
 have h2:I4 ct7.t=J:=j7d;unfold gv Q1 J8;rw[h1,h2];simp[ct7]
theorem gd7:Gd ct7:=⟨gv7,by show (1:Int)≠0;decide,j1Y,by decide,by show zNd.size<=_;rw[j42];decide,cp7⟩
theorem ln12:lnOk R 1 2:=⟨by decide,by decide,by decide,by decide⟩
theorem jEB (c:Int)(h:1<=c/\c<=256):thr 1 0 256 c c=H (c,c):=by
 unfold thr;simp only[if_neg (show ¬(0:Int)<0 by decide)];rw[if_neg (by omega),if_pos (by omega)];have e1:max c 1+0=c:=by omega
 have e2:min c (256-0)+0=c:=by omega
 rw[e1,e2]
theorem jEC:thr 1 2 4096 1 1=H (3,3):=by decide
theorem j1y (c:Int)(h:1<=c/\c<=256):lnF R 1 2 ((c,1),(c,1))=H ((c,3),(c,3)):=by
 unfold lnF;simp only[Bool.false_eq_true,if_false,jEB c h,jEC]
def LK:List Cc:=putL (putL [] (1,1) ct7) (2,1) (ctR 1 1)
theorem j43:LK=[((2,1),ctR 1 1),((1,1),ct7)]:=by
 unfold LK putL;simp
theorem brLK (y:Cc):y∈brL (lnF R 1 2) LK↔y=((2,3),ctR 1 3)∨y=((1,3),ct7):=by
 rw[j43,T8];have h2:=j1y 2 (by decide);have h1:=j1y 1 (by decide);have e2:alC (lnF R 1 2) (ctR 1 1)=ctR 1 3:=alR _ 1 1 h1;have e1:alC (lnF R 1 2) ct7=ct7:=j16 _ gv7 (by decide);constructor
 ·rintro⟨x,hx,b,hb,rfl⟩;rcases List.mem_cons.1 hx with rfl|hx
  ·left
   rw[h2] at hb;injection hb with hb;rw[<- hb,e2]
  ·rw[List.mem_singleton] at hx;subst hx;right
   rw[h1] at hb;injection hb with hb;rw[<- hb,e1]
 ·rintro(rfl|rfl)
  ·exact⟨_,List.mem_cons_self,_,h2,by rw[e2]⟩
  ·exact⟨_,List.mem_cons_of_mem _ (List.mem_singleton.2 rfl),_,h1,by rw[e1]⟩
theorem jAw:F8 (lnF R 1 2) LK=R:=by
 rw[j43];unfold F8;simp[j1y 2 (by decide),j1y 1 (by decide)]
theorem jAo {M:List Cc}(ho:M.Pairwise (fun x y=>x.1≠y.1))(hm:∀y,y∈M↔y∈brL (lnF R 1 2) LK):M.length=2:=by
 have nM:M.Nodup:=ho.imp (fun {x y} q e=>q (by rw[e]));have nL:([((2,3),ctR 1 3),((1,3),ct7)]:List Cc).Nodup:=by
  rw[List.nodup_cons];refine⟨fun h=>?_,by simp⟩;rw[List.mem_singleton] at h;exact absurd (congrArg (fun z:Cc=>z.1.1) h) (by decide)
 have:=(List.perm_ext_iff_of_nodup nM nL).2 (fun y=>by rw[hm y,brLK y];simp);exact this.length_eq
theorem j5J (g:Nat)(M:List Cc)(w:World)(hg:GI 0 w g M)(hM:Ok17 M)(c s:Int)(hc:I64 c)(hs:I64 s)(a:Ct)(ha:((c,s),a)∈M):
 Calls prog 19 #[an (H ⟨g,0,G⟩),T #[O I c,O I s]] w fun e w'=>∃sl' fp,e=Q (a.val sl')/\Own w' w.heap.size sl' a.t fp/\Kp w w' Nul:=by
 obtain⟨mv,bo⟩:=hg.blk;obtain⟨a',sa,bb,hlk,hinA,hax,hao,hasz,hacp,hcase⟩:=j3Q hg hM.gd hc hs bo;rcases hcase with ⟨_,h⟩|⟨_,_,_,h2⟩
 ·have e:=j0E hg.once h ha;subst e;refine j5K g c s mv (a'.val sa) bb a' w hlk (fun wq k=>?_);refine(j0S a' sa (fun b=>0<=b) wq hax hasz hao (hinA.kp k (fun _ _ x=>x))).mono ?_;rintro e w' ⟨sl',fp,rfl,h1,h2⟩;rw[hacp] at h1 ⊢;exact⟨sl',fp,rfl,h1,Kp.of_below h2⟩
 ·exact absurd ha (h2 a)
theorem at22 (x y:Int)(w:World):Calls prog 18 #[O I x,O I y] w fun e w'=>e=Q (T #[O I x,O I y])/\Kp w w' Nul:=by
 go_enter func18,ntmps18;go_wp2_with fail;refine bodyPost_ret (results_cell_row rfl _ _ w.heap.size 32 _ (0,0) _ rfl (heap_alloc_new _ _) underlying32 rfl (by kernel_rfl)) rfl ?_;exact⟨rfl,(Kp.refl w Nul).alloc _⟩
theorem jD7 (x y:Int)(w:World):Calls prog 33 #[T #[O I x,O I y]] w fun e w'=>e=Q ((ctR x y).t.hd.val (U G 0 0))/\Kp w w' Nul:=by
 go_enter func33,ntmps33;go_wp2_with (first|(refine F9 rfl 48 (.tmp 2) (.tmp 5) rfl _ _ _ _ _ (by first|rfl|simp) rfl rfl rfl j3 (Hd.one (ctR x y).t.hd rfl) ?_)|fail)
 (try simp only[Act.put])
 refine bodyPost_ret (results_cell_row rfl _ _ (w.heap.size+1) 48 _ (0,0) _ rfl (heap_alloc2_new _ _ _) underlying48 rfl j3) rfl ⟨rfl,((Kp.refl _ _).alloc _).alloc _⟩
theorem jBl (x y:Int)(w:World):Calls prog 35 #[(ctR x y).t.hd.val (U G 0 0)] w fun e w'=>∃b,e=Q (.func (.func 67) #[] #[an (H ⟨b,0,G⟩)])/\Kp w w' Nul:=by
 have HC:Hid (∀wq,Calls prog 66 #[(ctR x y).t.hd.val (U G 0 0)] wq fun e w'=>∃sl',e=Q ((cpy (ctR x y).t).hd.val sl')/\sl'.oneCell'=J/\Kp wq w' Nul):=fun wq=>(j2x (ctR x y).t (U G 0 0) (fun _=>True) wq (by show (Nd.mk _ []).size<=_;rw[Nd.size,D3];decide) (by show (Nd.mk _ []).ok;rw[Nd.ok,okL];exact⟨by show (0:Nat)<_;decide,trivial⟩) (by show NdIn _ _ _ (Nd.mk _ []);rw[NdIn];exact⟨G,0,rfl,Nat.le_refl _,by decide,.inl ⟨rfl,.inl rfl⟩⟩)).mono (by
  rintro e w' ⟨sl',fp,rfl,h1,h2⟩;exact⟨sl',rfl,h1.own.one,Kp.of_below h2⟩)
 generalize (cpy (ctR x y).t).hd=hh at *;go_enter func35,ntmps35;go_wp2_with fail;refine(HC.o _).mono ?_;rintro e w1 ⟨sl',rfl,ho,hk⟩;go_wp2_with (first|(refine F9 rfl 48 (.tmp 3) (.tmp 5) rfl _ _ _ _ _ (by first|rfl|simp) rfl rfl rfl j3 (Hd.one hh ho) ?_)|fail);go_ret;exact⟨_,rfl,(((Kp.refl _ _).alloc _).trans hk).alloc _⟩
theorem j92 (a b c d:Int)(w:World):Calls prog 36 #[T #[O I a,O I b,O I c,O I d]] w fun e w'=>∃p,e=Q (.func (.func 69) #[] #[an (H ⟨p,0,G⟩)])/\Kp w w' Nul:=by
 go_enter func36,ntmps36;go_wp2_with fail;go_ret;exact⟨_,rfl,(Kp.refl _ _).alloc _⟩
theorem j9g (w:World)(d f:Nat)(lb:Array Value):(Op.equalIn (d+1) 71 (.func (.func f) #[] lb) .nilFunc).run prog w=.ok R w:=by
 simp[Op.equalIn,run_underlying underlying71]
theorem j50 (f:Nat)(lb:Array Value)(w:World):(binOp .eql 71 (.func (.func f) #[] lb) .nilFunc).run prog w=.ok (E R) w:=by
 simp only[binOp];simp[show Op.equal 71 (.func (.func f) #[] lb) .nilFunc=Op.equalIn (9999+1) 71 (.func (.func f) #[] lb) .nilFunc from rfl,j9g w 9999 f lb]
theorem j9i (w:World)(d f:Nat)(lb:Array Value):(Op.equalIn (d+1) 85 (.func (.func f) #[] lb) .nilFunc).run prog w=.ok R w:=by
 simp[Op.equalIn,run_underlying underlying85]
theorem j9m (f:Nat)(lb:Array Value)(w:World):(binOp .eql 85 (.func (.func f) #[] lb) .nilFunc).run prog w=.ok (E R) w:=by
 simp only[binOp];simp[show Op.equal 85 (.func (.func f) #[] lb) .nilFunc=Op.equalIn (9999+1) 85 (.func (.func f) #[] lb) .nilFunc from rfl,j9i w 9999 f lb]
theorem j9h (w:World)(d f:Nat)(lb:Array Value):(Op.equalIn (d+1) 61 (.func (.func f) #[] lb) .nilFunc).run prog w=.ok R w:=by
 simp[Op.equalIn,run_underlying underlying61]
theorem j9l (f:Nat)(lb:Array Value)(w:World):(binOp .eql 61 (.func (.func f) #[] lb) .nilFunc).run prog w=.ok (E R) w:=by
 simp only[binOp];simp[show Op.equal 61 (.func (.func f) #[] lb) .nilFunc=Op.equalIn (9999+1) 61 (.func (.func f) #[] lb) .nilFunc from rfl,j9h w 9999 f lb]
theorem j9n (c r:Int)(w:World):(binOp .eql 32 (T #[O I c,O I r]) (T #[O I c,O I r])).run prog w=.ok (E J) w:=by simp[go_sem]
@[go_sem] theorem jF6 (v0 v1 v2 v3 v4 v5 v6 v7 v8 v9 v10 v11 v12 v13 v14 v15 v16 v17 v18 v19 v20:Value) (w:World):(Instr.field 50 (T #[v0,v1,v2,v3,v4,v5,v6,v7,v8,v9,v10,v11,v12,v13,v14,v15,v16,v17,v18,v19,v20]) 1).run prog w=.ok (T #[v1,v2,v3,v4,v5]) w:=by
 unfold Instr.field;rw[Sem.run_bind,run_underlying underlying50 w];simp[part,asAgg,isAgg,run_underlying underlying43 w,Sem.run_bind]
theorem j1s {W:World}{F:Nat->Prop}{g:Nat}{M:List Cc}(h:j6 W F g M){i:Nat}(hs:Sm W g i):F i:=by
 obtain⟨hF,⟨hb',_⟩|⟨m,D,hb',hm',_⟩⟩:=h
 ·rcases hs with rfl|⟨e,_⟩
  ·exact hF
  ·rw[hb'] at e;simp at e
 ·rcases hs with rfl|⟨e,_⟩
  ·exact hF
  ·rw[hb'] at e;have em:m=i:=(by simpa using e);rw[<- em];exact hm'
theorem j6K (w:World)(g:Nat)(c r:Int)(ct:Ct)(sl:Value)(L:List Cc)(wq:World)(hG:GI w.heap.size wq g L)(k:Kp w wq Nul)(hL:Ok17 L)(hgd:Gd ct)(hv:vC c r=J)(hin:NdIn wq (fun _=>True) sl ct.t)(hlen:L.length<4096)(aj:VS w):
 Calls prog 11 #[an (H ⟨g,0,G⟩),T #[O I c,O I r],ct.val sl] wq fun e w'=>e=Q (O I 0)/\GI w.heap.size w' g (putL L (c,r) ct)/\Ok17 (putL L (c,r) ct)/\Kp w w' Nul:=by
 refine(j2H (fun i=>w.heap.size<=i) g c r ct sl (fun _=>True) L wq hG (fun i hi=>Nat.le_trans k.size hi) hL hgd.ok hgd.x hgd.size hin (aj.kp k)).mono ?_;rintro e w' ⟨er,L',rfl,hg',hp,km⟩;obtain⟨rfl,rfl⟩:=hp.put hv hgd.val hgd.k (.inl hlen);have ho:=hp.ok;rw[hgd.cp] at hg' ho;exact⟨rfl,hg',ho,k.trans' km.kp (fun i hi hs=>by have:=j1s hG hs;omega)⟩
theorem jDb (w wq:World)(g:Nat)(hG:GI w.heap.size wq g LK)(k:Kp w wq Nul)(hL:Ok17 LK)(aj:VS w):
 Calls prog 30 #[an (H ⟨g,0,G⟩),O I 1,O I 2] wq fun e w'=>∃g2 M,e=Q (au #[an (H ⟨g2,0,G⟩),O I 0])/\M.length=2/\GI 0 w' g2 M/\Ok17 M/\((2,3),ctR 1 3)∈M/\((1,3),ct7)∈M/\Kp w w' Nul:=by
 have h0:GI 0 wq g LK:=j6.mono hG (fun _ _=>Nat.zero_le _);refine(j6m 1 2 g LK wq h0 hL (aj.kp k)).mono ?_;rintro e w' ⟨v,rfl,h⟩;cases h with
 | bad h _=>exact absurd ln12 h
 | off _ _ hl _=>rw[jAw] at hl;cases hl
 | ok _ _ g2 M hb=>
  have hg0:GI 0 w' g2 M:=j6.mono hb.gi (fun _ _=>Nat.zero_le _);exact⟨g2,M,rfl,jAo hg0.once hb.mem,hg0,hb.ok,(hb.mem _).2 ((brLK _).2 (.inl rfl)),(hb.mem _).2 ((brLK _).2 (.inr rfl)),k.trans hb.kp⟩
theorem j5m (w:World)(aj:VS w):Calls prog 8 #[] w fun e w'=>e=Q (E J)/\Kp w w' Nul:=by
 obtain⟨g,hgw⟩:∃g,g=w.heap.size:=⟨_,rfl⟩;have HNew:Hid (Calls prog 32 #[] w fun e w'=>e=Q (an (H ⟨g,0,G⟩))/\GI w.heap.size w' g []/\Kp w w' Nul):=(j26 w).mono (by
  rintro e w' ⟨rfl,rfl⟩;subst hgw;exact⟨rfl,j5L w _ (Nat.le_refl _),(Kp.refl w Nul).alloc _⟩)
 have HCell:=h_ at22;have HRef:=h_ jD7;have HPut1:Hid (∀wq,GI w.heap.size wq g []->Kp w wq Nul->Calls prog 11 #[an (H ⟨g,0,G⟩),T #[O I 1,O I 1],ct7.val (U G 0 0)] wq fun e w'=>e=Q (O I 0)/\(GI w.heap.size w' g (putL [] (1,1) ct7)/\Ok17 (putL [] (1,1) ct7))/\Kp w w' Nul):=fun wq hg k=>(j6K w g 1 1 ct7 _ [] wq hg k ⟨by simp,by simp,by simp⟩ gd7 (by decide) (j1X wq _) (by decide) aj).mono fun e w' ⟨h1,h2,h3,h4⟩=>⟨h1,⟨h2,h3⟩,h4⟩
 have HPut2:Hid (∀wq,(GI w.heap.size wq g (putL [] (1,1) ct7)/\Ok17 (putL [] (1,1) ct7))->Kp w wq Nul->Calls prog 11 #[an (H ⟨g,0,G⟩),T #[O I 2,O I 1],(ctR 1 1).val (U G 0 0)] wq fun e w'=>e=Q (O I 0)/\(GI w.heap.size w' g LK/\Ok17 LK)/\Kp w w' Nul):=fun wq hg k=>(j6K w g 2 1 (ctR 1 1) _ (putL [] (1,1) ct7) wq hg.1 k hg.2 (gdR 1 1 (by decide)) (by decide) (by show NdIn _ _ _ (Nd.mk _ []);rw[NdIn];exact⟨G,0,rfl,Nat.le_refl _,by decide,.inl ⟨rfl,.inl rfl⟩⟩) (by unfold putL;decide) aj).mono fun e w' ⟨h1,h2,h3,h4⟩=>⟨h1,⟨h2,h3⟩,h4⟩
 have HRows:=h_ fun wq (hg:(GI w.heap.size wq g LK/\Ok17 LK)) (k:Kp w wq Nul)=>jDb w wq g hg.1 k hg.2 aj
 have HKp:Hid (∀wq wz L,(GI w.heap.size wq g L/\Ok17 L)->Kp wq wz Nul->(GI w.heap.size wz g L/\Ok17 L)):=fun wq wz L h k=>⟨h.1.kp k,h.2⟩
 have HNd:=h_ (jBl 1 1);have HCs:=h_ j92;clear hgw aj;go_enter func8,ntmps8;go_wp2_with fail;refine HNew.o.mono ?_;rintro e w1 ⟨rfl,hg1,hk1⟩;have HG1:=h_ hg1;have HK1:=h_ hk1;clear hg1 hk1 HNew;go_wp2_with fail;refine(HCell.o _ _ _).mono ?_;rintro e w2 ⟨rfl,hk2⟩;have HG2:=h_ (HG1.o.kp hk2);have HK2:=h_ (HK1.o.trans hk2);clear hk2 HG1 HK1;go_wp2_with fail;refine(HPut1.o _ HG2.o HK2.o).mono ?_;rintro e w3 ⟨rfl,hg3,hk3⟩;have HG3:=h_ hg3;have HK3:=h_ hk3;clear hg3 hk3 HG2 HK2 HPut1;go_wp2_with fail;refine(HCell.o _ _ _).mono ?_;rintro e w4 ⟨rfl,hk4⟩;go_wp2_with fail;refine(HCell.o _ _ _).mono ?_;rintro e w5 ⟨rfl,hk5⟩;go_wp2_with fail;refine(HRef.o _ _ _).mono ?_;rintro e w6 ⟨rfl,hk6⟩;have HG6:=h_ (HKp.o _ _ _ HG3.o ((hk4.trans hk5).trans hk6));have HK6:=h_ (HK3.o.trans ((hk4.trans hk5).trans hk6));clear hk4 hk5 hk6 HG3 HK3
 go_wp2_with fail;refine(HPut2.o _ HG6.o HK6.o).mono ?_;rintro e w7 ⟨rfl,hg7,hk7⟩;have HG7:=h_ hg7;have HK7:=h_ hk7;clear hg7 hk7 HG6 HK6 HPut2 HKp;go_wp2_with fail;refine(HRows.o _ HG7.o HK7.o).mono ?_;rintro e w8 ⟨g2,M,rfl,hlen,hg8,hM,hm1,hm2,hk8⟩;have HK8:=h_ hk8;have HLen:Hid (∀wq,Kp w8 wq Nul->Calls prog 26 #[an (H ⟨g2,0,G⟩)] wq fun e w'=>e=Q (O I 2)/\w'=wq):=fun wq k=>by
  have h:=jAp wq _ g2 M (hg8.kp k);rw[hlen] at h;exact h
 have HGetF:Hid (∀wq,Kp w8 wq Nul->Calls prog 19 #[an (H ⟨g2,0,G⟩),T #[O I 2,O I 3]] wq fun e w'=>∃sl',e=Q ((ctR 1 3).val sl')/\sl'.oneCell'=J/\Kp wq w' Nul):=fun wq k=>(j5J g2 M wq (hg8.kp k) hM 2 3 (by unfold I64;omega) (by unfold I64;omega) _ hm1).mono fun e w' ⟨sl',fp,h1,h2,h3⟩=>⟨sl',h1,h2.own.one,h3⟩
 have HGetN:Hid (∀wq,Kp w8 wq Nul->Calls prog 19 #[an (H ⟨g2,0,G⟩),T #[O I 1,O I 3]] wq fun e w'=>∃sl',e=Q (ct7.val sl')/\sl'.oneCell'=J/\Kp wq w' Nul):=fun wq k=>(j5J g2 M wq (hg8.kp k) hM 1 3 (by unfold I64;omega) (by unfold I64;omega) _ hm2).mono fun e w' ⟨sl',fp,h1,h2,h3⟩=>⟨sl',h1,h2.own.one,h3⟩
 have HAll:Hid (∀wq,Calls prog 34 #[an (H ⟨g2,0,G⟩)] wq fun e w'=>∃x0 x1,e=Q (.func (.func 97) #[] #[an (H ⟨x0,0,G⟩),an (H ⟨x1,0,G⟩)])/\Kp wq w' Nul):=fun wq=>(j2n g2 wq).mono fun e w' ⟨x0,x1,h1,_,_,h4⟩=>⟨x0,x1,h1,h4⟩
 clear hlen hg8 hM hm1 hm2 hk8 HG7 HK7 HRows;go_wp2_with fail;refine(HLen.o _ (Kp.refl _ _)).mono ?_;rintro e w9 ⟨rfl,hw9⟩;subst hw9;go_wp2_with fail;refine(HAll.o _).mono ?_;rintro e w10 ⟨x0,x1,rfl,hk10⟩;have K10:=h_ hk10;clear hk10 HAll;have hn1:=j50 97;go_wp2_with fail;refine(HCell.o _ _ _).mono ?_;rintro e w11 ⟨rfl,hk11⟩;go_wp2_with fail;refine(HRef.o _ _ _).mono ?_;rintro e w12 ⟨rfl,hk12⟩;have K12:=h_ ((K10.o.trans hk11).trans hk12);clear hk11 hk12 K10 HRef;go_wp2_with fail;refine(HNd.o _).mono ?_;rintro e w13 ⟨b13,rfl,hk13⟩;have K13:=h_ (K12.o.trans hk13);clear hk13 K12 HNd;have hn2:=j9m 67;go_wp2_with fail;refine(HCell.o _ _ _).mono ?_;rintro e w14 ⟨rfl,hk14⟩;go_wp2_with fail;refine(HCell.o _ _ _).mono ?_;rintro e w15 ⟨rfl,hk15⟩;have K15:=h_ ((K13.o.trans hk14).trans hk15);clear hk14 hk15 K13;go_wp2_with fail;refine(HCs.o _ _ _ _ _).mono ?_
 rintro e w16 ⟨b16,rfl,hk16⟩;have K16:=h_ (K15.o.trans hk16);clear hk16 K15 HCs;have hn3:=j9l 69;go_wp2_with fail;refine(HCell.o _ _ _).mono ?_;rintro e w17 ⟨rfl,hk17⟩;have K17:=h_ (K16.o.trans hk17);clear hk17 K16;go_wp2_with fail;refine(HGetF.o _ K17.o).mono ?_;rintro e w18 ⟨sl,rfl,hone,hk18⟩;have K18:=h_ (K17.o.trans hk18);have HONE:=h_ hone;clear hk18 hone K17 HGetF;obtain⟨W19,hW19⟩:=e_ (w18.alloc (.cells ((ctR 1 3).cells sl).toArray 50));have hC:Blk W19 w18.heap.size ((ctR 1 3).cells sl) 50:=by rw[<- hW19];exact Blk.new w18 _ _
 have k19:Kp w18 W19 Nul:=by rw[<- hW19];exact(Kp.refl w18 Nul).alloc _
 have HS:Hid (∀wq,Kp W19 wq Nul->(wq.cell? ⟨w18.heap.size,0,G⟩=H (O I 2)/\wq.cell? ⟨w18.heap.size,12,G⟩=H (O I 1)/\wq.cell? ⟨w18.heap.size,13,G⟩=H (O I 3))):=fun wq k=>⟨(hC.kp k (fun x=>x)).cell rfl,(hC.kp k (fun x=>x)).cell rfl,(hC.kp k (fun x=>x)).cell rfl⟩
 have HCell19:Hid (∀wq,Kp W19 wq Nul->Calls prog 18 #[O I 1,O I 3] wq fun e w'=>e=Q (T #[O I 1,O I 3])/\Kp W19 w' Nul):=fun wq k=>(HCell.o 1 3 wq).mono fun e w' ⟨h1,h2⟩=>⟨h1,k.trans h2⟩
 have HGet19:Hid (∀wq,Kp W19 wq Nul->Calls prog 19 #[an (H ⟨g2,0,G⟩),T #[O I 1,O I 3]] wq fun e w'=>∃sl',e=Q (T #[O I 1,O I 1,ap ao 4619567317775286272,aq ⟨#[]⟩,E R,O I 0,O I 0,O I 0,ap ao 0,aq ⟨#[]⟩,E R,O I 0,O I 0,O I 0,E R,E R,O I 0,O I 0,E R,E R,sl'])/\sl'.oneCell'=J/\Kp W19 w' Nul):=fun wq k=>(HGetN.o wq ((K18.o.trans k19).trans k)).mono fun e w' ⟨sl',h1,h2,h3⟩=>⟨sl',h1,h2,k.trans h3⟩
 have HK19:=h_ ((HK8.o.trans K18.o).trans k19);have hk0:Kp W19 W19.drew Nul:=(Kp.refl W19 Nul).drew;have he:=j9n 1 3;have h7:=jDt;clear hC k19 K18 HK8 HCell HGetN HLen;go_wp2_with (refine F9 rfl 50 (.tmp 6) (.tmp 63) rfl _ _ _ _ _ (by simp) rfl rfl rfl D9 (Ct.one (ctR 1 3) HONE.o) ?_)
 (try simp only[Act.put])
 generalize hWz:w18.alloc (.cells _ 50)=Wz;have hz:=hWz.symm.trans hW19;clear hWz hW19;subst hz;go_region_held3 (fun w'=>w'.cell? ⟨w18.heap.size,0,G⟩=H (O I 2)/\w'.cell? ⟨w18.heap.size,12,G⟩=H (O I 1)/\w'.cell? ⟨w18.heap.size,13,G⟩=H (O I 3))
  (exact HS.o _ (by assumption))
  (first
   | (go_at_call 18;refine(HCell19.o _ (by assumption)).mono ?_;rintro e wz ⟨rfl,hkz⟩)
   | (go_at_call 19;refine(HGet19.o _ (by assumption)).mono ?_;rintro e wz ⟨slz,rfl,_,hkz⟩))
 all_goals
  go_wp2_with fail;go_ret;exact⟨rfl,HK19.o.trans (by assumption)⟩
theorem j0q (c m:Int)(hc:I64 c)(h1:1<=m)(w:World):Calls prog 28 #[O I c,O I m] w fun e w'=>e=Q (O I (pkf c m))/\w'=w:=by
 have HC:Hid (-9223372036854775808<=c/\c<=9223372036854775807):=by unfold I64 at hc;exact hc
 have hm0:m≠0:=by omega
 have hv:=(j3Z c m h1).1;generalize pkf c m=p at *;clear hc;by_cases h:c<0
 ·rw[if_pos h] at hv;have hX:wrap64 (-wrap64 (c+1))=-(c+1):=by have:=HC.o;unfold wrap64;omega
  have hY:(-(c+1)).tmod m=(-(c+1))%m:=Int.tmod_eq_emod_of_nonneg (by omega);have HX:=h_ hX;have HE:Hid ((-(c+1)).tmod m=(p:Int)):=by show _=_;rw[hY,hv]
  clear hX hY hv;go_enter func28,ntmps28;go_wp2;go_ret;refine⟨rInt ?_,rfl⟩;first
  | exact HE.o
  | (rw[HX.o];exact HE.o)
 ·rw[if_neg h] at hv;have hY:c.tmod m=c%m:=Int.tmod_eq_emod_of_nonneg (by omega);have HE:Hid (c.tmod m=(p:Int)):=by show _=_;rw[hY,hv]
  have HE2:=h_ hv.symm;clear hY hv;go_enter func28,ntmps28;go_wp2;go_ret;refine⟨rInt ?_,rfl⟩;first
  | exact HE.o
  | exact HE2.o
theorem j7j (g:Nat)(w:World):Calls prog 25 #[an (H ⟨g,0,G⟩)] w fun e w'=>∃x0 x1,e=Q (.func (.func 97) #[] #[an (H ⟨x0,0,G⟩),an (H ⟨x1,0,G⟩)])/\Blk w' x0 [an (H ⟨g,0,G⟩)] 24/\Blk w' x1 [O I 1,O I 1,O I 256,O I 4096] 34/\Kp w w' Nul:=by
 have ag:=j2n g w;have HA:=h_ ag;clear ag;go_enter func25,ntmps25;go_wp2_with fail;refine HA.o.mono ?_;rintro e w1 ⟨x0,x1,rfl,h⟩;have HH:=h_ h;clear h HA;have hn1:=j50 97;go_wp2_with fail;go_ret;exact⟨_,_,rfl,HH.o⟩
theorem j7c {t:Nd}(h:I4 t=J):t.size=1:=by
 obtain⟨hd,ts⟩:=t;unfold I4 zNd at h;rw[G8] at h;cases ts with
 | nil=>rw[Nd.size,D3]
 | cons a r=>simp[F3] at h
theorem jAH {c:Ct}(h:gv c=J):c.t.size<=1048576:=by
 unfold gv Q1 at h;simp only[Bool.or_eq_true,Bool.and_eq_true] at h;rcases h with (⟨_,_,h⟩|⟨_,_,h⟩)|⟨_,_,h⟩
 ·rw[j7c h];decide
 ·rw[j7c h];decide
 ·have e:chk c.t=0:=by simpa using h
  unfold chk at e;by_cases q:256<c.t.size
  ·rw[if_pos q] at e;omega
  ·omega
end
section
open Go.RowKit
structure MlP where
 p5:Nat
 p8:Nat
 p10:Nat
 p11:Nat
 p12:Nat
 p14:Nat
section
variable {f:Fate} {cols:Bool} {k p:Int} {w:World} {B:Nat} {q:MlP} {g2:Nat} {K M:List Cc} {j:Nat} {Z:Nat->Prop} {W W':World}
end
end
section
open Go.RowKit Go.Maps Go.Sort Go.Lib Go.Shelf
attribute [local go_sem] Oper.semAt_some
end
section
open Go.RowKit Go.Shelf
attribute [local go_sem] Oper.semAt_some
end
section
open Go.RowKit Go.Maps Go.Sort Go.Lib Go.Shelf
attribute [local go_sem] Oper.semAt_some
end
section
open Go.RowKit Go.Shelf
attribute [local go_sem] Oper.semAt_some
def Rd (L:List Cc) (p:Int×Int) (u:Ct):Prop:=(p,u)∈L∨(u=ct0/\∀a,(p,a)∉L)
theorem jA4 (g:Nat)(M:List Cc)(w:World)(hg:GI 0 w g M)(hM:Ok17 M)(c s:Int)(hc:I64 c)(hs:I64 s):
 ∃u,Rd M (c,s) u/\u.v.x<18446744073709551616/\u.t.ok/\∀wq,Kp w wq Nul->Calls prog 19 #[an (H ⟨g,0,G⟩),T #[O I c,O I s]] wq fun e w'=>∃sl' fp,e=Q (u.val sl')/\Own w' wq.heap.size sl' u.t fp/\Kp wq w' Nul:=by
 obtain⟨mv,bo⟩:=hg.blk;obtain⟨a',sa,bb,hlk,hinA,hax,hao,hasz,hacp,hcase⟩:=j3Q hg hM.gd hc hs bo;refine⟨a',?_,hax,hao,fun wq0 k0=>?_⟩
 ·rcases hcase with ⟨_,h⟩|⟨_,h1,_,h2⟩
  ·exact .inl h
  ·exact .inr ⟨h1,h2⟩
 ·have hg2:GI 0 wq0 g M:=j6.kp hg k0;obtain⟨mv2,bo2⟩:=hg2.blk;obtain⟨b',sb,bb2,hlk2,hinB,hbx,hbo,hbsz,hbcp,hcase2⟩:=j3Q hg2 hM.gd hc hs bo2;have e:b'=a':=by
   rcases hcase with ⟨_,h⟩|⟨_,h1,_,h2⟩
   ·rcases hcase2 with ⟨_,h'⟩|⟨_,_,_,h2'⟩
    ·exact j0E hg.once h' h
    ·exact absurd h (h2' _)
   ·rcases hcase2 with ⟨_,h'⟩|⟨_,h1',_,h2'⟩
    ·exact absurd h' (h2 _)
    ·rw[h1,h1']
  subst e;refine j5K g c s mv2 (b'.val sb) bb2 b' wq0 hlk2 (fun wq k=>?_);refine(j0S b' sb (fun b=>0<=b) wq hbx hbsz hbo (hinB.kp k (fun _ _ x=>x))).mono ?_;rintro e w' ⟨sl',fp,rfl,h1,h2⟩;rw[hbcp] at h1 ⊢;exact⟨sl',fp,rfl,h1,Kp.of_below h2⟩
end
section
open Go.RowKit
theorem j4e {t:Nd}(h:chk t=0):t.fe R=0:=by
 unfold chk at h;split at h
 ·omega
 ·split at h
  ·omega
  ·exact h
theorem j3N (cols:Bool)(at' n:Int):(1<=at'/\at'<=(if cols then 256 else 4096) /\ -(if cols then 256 else 4096)<=n/\n<=(if cols then 256 else 4096))↔lnOk cols at' n:=
 ⟨fun ⟨h1,h2,h3,h4⟩=>⟨h1,h2,h3,h4⟩,fun ⟨h1,h2,h3,h4⟩=>⟨h1,h2,h3,h4⟩⟩
end
end Go.Proofs.YtecjfnkakodebaaGreatDoor
