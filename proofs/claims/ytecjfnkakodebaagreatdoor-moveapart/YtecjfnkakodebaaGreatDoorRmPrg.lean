/-filled, by the area's cells; filled of any area. -/
import Derived.Test.YtecjfnkakodebaaGreatDoorRmIr
open Go.Proofs.Tryz
open Go.Value renaming int->O,bool->E,slice->U,agg->T,pointer->an
open Go.IntKind renaming i64->I
open Bool renaming false->R,true->J
open Option renaming some->H,none->G
open Go.Ending renaming returned->Q
set_option maxRecDepth 100000
set_option maxHeartbeats 16000000
namespace Go.Proofs.YtecjfnkakodebaaGreatDoor
section
open Go.RowKit Go.Maps Go.Sort Go.Lib Go.Shelf
attribute [local go_sem] Oper.semAt_some
def hasL (L:List Cc) (x:Int×Int):Bool:=L.any fun y=>decide (y.1=x)
theorem j39 {L:List Cc}{x:Int×Int}:hasL L x=J↔∃a,(x,a)∈L:=by
 unfold hasL;rw[List.any_eq_true];constructor
 ·rintro⟨⟨k,a⟩,h1,h2⟩;have e:=of_decide_eq_true h2;simp only at e;subst e;exact⟨a,h1⟩
 ·rintro⟨a,h⟩;exact⟨_,h,by simp⟩
def uK (m1 m2 m3:Int) (L:List Cc) (k:Nat):List (Int×Int):=((List.range k).map (cK m1 m2 m3)).filter (hasL L)
theorem jES (m1 m2 m3:Int)(L:List Cc)(k:Nat):uK m1 m2 m3 L (k+1)=if hasL L (cK m1 m2 m3 k)=J then uK m1 m2 m3 L k++[cK m1 m2 m3 k] else uK m1 m2 m3 L k:=by
 unfold uK;rw[List.range_succ,List.map_append,List.filter_append];split
 ·rename_i h
  simp[h]
 ·rename_i h
  simp[h]
theorem jEQ (m1 m2 m3:Int)(L:List Cc)(k:Nat):(uK m1 m2 m3 L k).length<=k:=by
 unfold uK;exact Nat.le_trans (List.length_filter_le _ _) (by simp)
theorem j90 (m1 m2 m3:Int){i j:Nat}(h:i<j):ltOf cfA (cK m1 m2 m3 i) (cK m1 m2 m3 j)=J:=by
 rw[j1i];unfold cK;simp only;obtain⟨p,hp⟩:=e_ (wdA m1 m3);rw[hp];have hd:i/p<=j/p:=Nat.div_le_div_right (by omega);have e1:=Nat.div_add_mod i p;have e2:=Nat.div_add_mod j p;rcases Nat.lt_or_ge (i/p) (j/p) with q|q
 ·exact .inl (by omega)
 ·have e:=Nat.le_antisymm hd q;rw[e] at e1;exact .inr ⟨by rw[e],by omega⟩
theorem jET (m1 m2 m3:Int)(L:List Cc)(k:Nat):E9 (uK m1 m2 m3 L k):=by
 unfold E9 uK;refine List.Pairwise.filter _ ?_;rw[List.pairwise_map];exact List.pairwise_lt_range.imp fun h=>j90 m1 m2 m3 h
theorem j1f {m1 m2 m3 m4:Int}{x:Int×Int}:(∃k,k<szN m1 m2 m3 m4/\cK m1 m2 m3 k=x)↔inA m1 m2 m3 m4 x.1 x.2=J:=by
 unfold szN inA;cases hv:vA m1 m2 m3 m4 with
 | false=>simp
 | true=>
  obtain⟨b1,b2,b3,b4,b5,b6⟩:=(j0y m1 m2 m3 m4).1 hv;obtain⟨p,hp⟩:=e_ (wdA m1 m3);obtain⟨q,hq⟩:=e_ (wdA m2 m4);have hp':(p:Int)=m3-m1+1:=by rw[<- hp];unfold wdA;omega
  have hq':(q:Int)=m4-m2+1:=by rw[<- hq];unfold wdA;omega
  have hC:=fun x y hx=>j2t m1 m2 m3 x y hx
  rw[hp] at hC;rw[hp,hq];simp only[if_true,Bool.true_and,Bool.and_eq_true,decide_eq_true_eq];constructor
  ·rintro⟨k,hk,rfl⟩;have hm:k%p<p:=Nat.mod_lt _ (by omega);have hd:k/p<q:=by
    rw[Nat.div_lt_iff_lt_mul (by omega)];exact hk
   unfold cK;rw[hp];simp only;generalize k%p=x at *;generalize k/p=y at *;omega
  ·rintro⟨⟨⟨h1,h2⟩,h3⟩,h4⟩;refine⟨(x.2-m2).toNat*p+(x.1-m1).toNat,j5Z (by omega) (by omega),?_⟩;rw[hC _ _ (by omega)];refine Prod.ext ?_ ?_
   ·simp only;omega
   ·simp only;omega
theorem jER {m1 m2 m3 m4:Int}{L M:List Cc}(h:inL m1 m2 m3 m4 L=M)(x:Int×Int):x∈uK m1 m2 m3 L (szN m1 m2 m3 m4)↔∃a,(x,a)∈M:=by
 unfold uK;rw[List.mem_filter,j39,List.mem_map];constructor
 ·rintro⟨⟨k,hk,e⟩,a,ha⟩;exact⟨a,(Q6 h).2 ⟨ha,j1f.1 ⟨k,List.mem_range.1 hk,e⟩⟩⟩
 ·rintro⟨a,ha⟩;obtain⟨h1,h2⟩:=(Q6 h).1 ha;obtain⟨k,hk,e⟩:=j1f.2 h2;exact⟨⟨k,List.mem_range.2 hk,e⟩,a,h1⟩
theorem jE8 (m1 m2 m3 m4:Int):szN m1 m2 m3 m4<=1048576:=by
 unfold szN;split
 ·rename_i hv
  obtain⟨b1,b2,b3,b4,b5,b6⟩:=(j0y m1 m2 m3 m4).1 hv;have h1:wdA m2 m4<=4096:=by unfold wdA;omega
  have h2:wdA m1 m3<=256:=by unfold wdA;omega
  exact Nat.mul_le_mul h1 h2
 ·omega
theorem j8z {m1 m2 m3 m4:Int}{k:Nat}(h:k<szN m1 m2 m3 m4):I64 (cK m1 m2 m3 k).1/\I64 (cK m1 m2 m3 k).2:=by
 have:=j1f.1 ⟨k,h,rfl⟩;unfold inA at this;simp only[Bool.and_eq_true,decide_eq_true_eq] at this;obtain⟨⟨⟨⟨hv,h1⟩,h2⟩,h3⟩,h4⟩:=this;obtain⟨b1,b2,b3,b4,b5,b6⟩:=(j0y m1 m2 m3 m4).1 hv;unfold I64;omega
structure FcR (w Wc:World) (g b0 b2:Nat) (aj:List (Int×Int)) (Z:Nat->Prop) (W:World) (v:Value):Prop where
 bg:Blk W b0 [an (H ⟨g,0,G⟩)] 24
 box:Blk W b2 [v] 78
 row:W.ownsRow (Wc.heap.size+2) 32 2 v aj.length (flatK encA 2 aj.toArray).toList
 z:∀i,Z i↔i=b2∨v.ownBlock=H i
 kp:Kp w W Nul
theorem FcR.hI {w Wc:World}{g b0 b2:Nat}{aj:List (Int×Int)}{Z:Nat->Prop}{W W':World}{v:Value}(h:FcR w Wc g b0 b2 aj Z W v)(h0:b0<Wc.heap.size)(h2:b2<Wc.heap.size)(hw:w.heap.size<=Wc.heap.size)(q:Kp W W' (fun i=>i=Wc.heap.size∨i=Wc.heap.size+1)):FcR w Wc g b0 b2 aj Z W' v:=
 ⟨h.bg.kp q (fun e=>by rcases e with e|e <;> omega),h.box.kp q (fun e=>by rcases e with e|e <;> omega),j0u h.row q (fun i hi e=>by rcases e with e|e <;> omega),h.z,h.kp.trans' q (fun i hi e=>by rcases e with e|e <;> omega)⟩
theorem j9u (g:Nat)(m1 m2 m3 m4:Int)(L M:List Cc)(hM:inL m1 m2 m3 m4 L=M)(w:World)(hg:GI 0 w g L)(sz:Int)(hsz:j0w m1 m2 m3 m4=sz)(hnl:sz<(L.length:Int)):
 Calls prog 134 #[an (H ⟨g,0,G⟩),T #[O I m1,O I m2,O I m3,O I m4]] w fun e w'=>∃aj v',e=Q v'/\U8 w.heap.size w' v' aj/\E9 aj/\(∀x,x∈aj↔∃a,(x,a)∈M)/\Kp w w' Nul:=by
 obtain⟨mv,bg,hlen⟩:=j1H hg;obtain⟨i0,hi,hz0,hz1,hz2⟩:=j3J;obtain⟨W3,hW3⟩:=e_ (((w.alloc (.cells #[an (H ⟨g,0,G⟩)] 24)).alloc (.cells #[O I m1,O I m2,O I m3,O I m4] 34)).alloc (.cells #[U G 0 0] 78));have k3:Kp w W3 Nul:=by rw[<- hW3];exact(((Kp.refl w Nul).alloc _).alloc _).alloc _
 have s3:W3.heap.size=w.heap.size+1+1+1:=by rw[<- hW3,World.size_alloc,World.size_alloc,World.size_alloc]
 have B0:Blk W3 w.heap.size [an (H ⟨g,0,G⟩)] 24:=by rw[<- hW3];exact((Blk.new w [an (H ⟨g,0,G⟩)] _).alloc _).alloc _
 have B1:Blk W3 (w.heap.size+1) [O I m1,O I m2,O I m3,O I m4] 34:=by
  have:=Blk.new (w.alloc (.cells #[an (H ⟨g,0,G⟩)] 24)) [O I m1,O I m2,O I m3,O I m4] 34;rw[World.size_alloc] at this;rw[<- hW3];exact this.alloc _
 have B2:Blk W3 (w.heap.size+1+1) [U G 0 0] 78:=by
  have:=Blk.new ((w.alloc (.cells #[an (H ⟨g,0,G⟩)] 24)).alloc (.cells #[O I m1,O I m2,O I m3,O I m4] 34)) [U G 0 0] 78;rw[World.size_alloc,World.size_alloc] at this;rw[<- hW3];exact this
 have HS:Hid (∀wq,Kp W3 wq Nul->wq.cell? ⟨w.heap.size,0,G⟩=H (an (H ⟨g,0,G⟩))/\wq.cell? ⟨w.heap.size+1,0,G⟩=H (O I m1)/\wq.cell? ⟨w.heap.size+1,1,G⟩=H (O I m2)/\wq.cell? ⟨w.heap.size+1,2,G⟩=H (O I m3)/\wq.cell? ⟨w.heap.size+1,3,G⟩=H (O I m4)/\wq.cell? ⟨g,0,G⟩=H (.map mv)/\∀ty,(Builtin.len_ #[94] ty #[.map mv]).run prog wq=.ok (O I L.length) wq):=fun wq k=>
  ⟨(B0.kp k (fun x=>x)).cell rfl,(B1.kp k (fun x=>x)).cell rfl,(B1.kp k (fun x=>x)).cell rfl,(B1.kp k (fun x=>x)).cell rfl,(B1.kp k (fun x=>x)).cell rfl,(bg.kp (k3.trans k) (fun x=>x)).cell rfl,hlen wq (k3.trans k)⟩
 have HSize:Hid (∀wq,Kp W3 wq Nul->Calls prog 152 #[T #[O I m1,O I m2,O I m3,O I m4]] wq fun e w'=>e=Q (O I sz)/\Kp W3 w' Nul):=fun wq k=>(j6E m1 m2 m3 m4 wq).mono fun e w' ⟨q1,q2⟩=>⟨hsz ▸ q1,k.trans (Kp.of_gr q2)⟩
 have HG:=h_ hg;have HSZ:=h_ (jE8 m1 m2 m3 m4);have HUK:Hid (∀aj,uK m1 m2 m3 L (szN m1 m2 m3 m4)=aj->E9 aj/\∀x,x∈aj↔∃a,(x,a)∈M):=fun aj hU=>by
  subst hU;exact⟨jET _ _ _ _ _,fun x=>jER hM x⟩
 have HI64:=h_ fun k (hk:k<szN m1 m2 m3 m4)=>j8z hk
 have HW3:=h_ hW3;have HK3:=h_ k3;have HS3:=h_ s3;have HB0:=h_ B0;have HB1:=h_ B1;have HB2:=h_ B2;clear hg bg hlen hM hsz hW3 k3 s3 B0 B1 B2;refine(callsIn_wide (n:=12)).1 ?_;refine callsIn_of_wp_marks func134 rfl trivial ?_ rfl;simp only[ntmps134,List.size_toArray,List.length_cons,List.length_nil,Nat.reduceAdd,Nat.reduceSub,Array.replicate_succ,Array.replicate_zero,List.push_toArray,List.append_toArray,List.nil_append,List.cons_append];refine wpIn_wide.2 ?_;go_wp2_with fail;rw[HW3.o];clear HW3;refine wp_region_noPanic ?_;refine j7a (W:=W3) (Kp.refl _ _) (by kernel_rfl) (by kernel_rfl) ?_;refine Q9 (H 8) rfl ?_ (by rfl) ?_ ?_;rotate_left
 ·intro w' hk;obtain⟨s0,s1,s2,s3,s4,s5,s6⟩:=HS.o _ hk;clear hk;go_simp;try with_reducible rfl
 simp only[Act.put,Sz0,Sz1,Sz2];refine j6Q (H 9) rfl 152 #[T #[O I m1,O I m2,O I m3,O I m4]] (O I sz) (by rfl) (fun w'=>by go_simp) (fun w' hk=>HSize.o w' hk) ?_;simp only[Act.put,Sz0,Sz1,Sz2];refine Q9 (H 10) rfl ?_ (by rfl) ?_ ?_;rotate_left
 ·intro w' hk;obtain⟨s0,s1,s2,s3,s4,s5,s6⟩:=HS.o _ hk;clear hk;go_simp;try with_reducible rfl
 simp only[Act.put,Sz0,Sz1,Sz2];refine Q9 (H 11) rfl ?_ (by rfl) ?_ ?_;rotate_left
 ·intro w' hk;obtain⟨s0,s1,s2,s3,s4,s5,s6⟩:=HS.o _ hk;clear hk;go_simp;try with_reducible rfl
 simp only[Act.put,Sz0,Sz1,Sz2];refine Q9 (H 12) rfl ?_ (by rfl) ?_ ?_;rotate_left
 ·intro w' hk;obtain⟨s0,s1,s2,s3,s4,s5,s6⟩:=HS.o _ hk;clear hk;go_simp;try with_reducible rfl
 simp only[Act.put,Sz0,Sz1,Sz2];refine Q9 (H 13) rfl ?_ (by rfl) ?_ ?_;rotate_left
 ·intro w' hk;obtain⟨s0,s1,s2,s3,s4,s5,s6⟩:=HS.o _ hk;clear hk;go_simp;try with_reducible rfl
 simp only[Act.put,Sz0,Sz1,Sz2];refine Q9 (H 14) rfl ?_ (by rfl) ?_ ?_;rotate_left
 ·intro w' hk;obtain⟨s0,s1,s2,s3,s4,s5,s6⟩:=HS.o _ hk;clear hk;go_simp;try with_reducible rfl
 simp only[Act.put,Sz0,Sz1,Sz2];refine Q9 (H 15) rfl (E J) (by rfl) ?_ ?_
 ·intro w' hk;clear hk;go_simp;try simp[hnl]
 simp only[Act.put,Sz0,Sz1,Sz2];refine wpQuiet_nil ?_;intro w2 hk2;refine NoPanic.normal ?_;obtain⟨c0,c1,c2,c3,c4,c5,_⟩:=HS.o w2 hk2;have HK2:=h_ hk2;have HCl:=h_ fun wq=>j93 m1 m2 m3 m4 wq
 clear hk2 hnl HS HSize;go_wp2_with fail;refine(HCl.o _).mono ?_;rintro e Wc ⟨pc,rfl,hpc,hbc,hkc⟩;have HKc:=h_ (HK2.o.trans hkc);have s3c:w.heap.size+1+1+1<=Wc.heap.size:=by have:=HKc.o.size;have:=HS3.o;omega
 have hp2:pc≠w.heap.size+1+1:=by have:=HK2.o.size;have:=HS3.o;omega
 have HBc:=h_ hbc;clear hpc hbc hkc HCl c0 c1 c2 c3 c4 c5;go_wp2_with fail;generalize hact:Act.mk _ _=a0;refine jF2 (α:=Int×Int) (N:=szN m1 m2 m3 m4) (gf:=69) (lb:=#[an (H ⟨pc,0,G⟩)]) (by rw[<- hact];rfl) (enters_of func69 (by kernel_rfl) rfl) (encs:=j1m) (fun _=>rfl) (j1Z m1 m2 m3) (fun i=>i=w.heap.size+1+1) ?hseq (fun k Z W=>∃v,FcR w Wc g w.heap.size (w.heap.size+1+1) (uK m1 m2 m3 L k) Z W v) ?hZ ?hZl ?hI (fun i=>i=w.heap.size+1+1∨(U G 0 0).ownBlock=H i) ?h0 ?hround ?hdone
 case hseq=>exact j4c m1 m2 m3 m4 pc Wc HBc.o _ hp2
 case hZ=>
  rintro k Z W ⟨v,h⟩;refine⟨fun q=>?_,fun q=>?_⟩
  ·rcases(h.z _).1 q with e|e
   ·omega
   ·have:=j0p h.row _ e;omega
  ·rcases(h.z _).1 q with e|e
   ·omega
   ·have:=j0p h.row _ e;omega
 case hZl=>
  rintro k Z W ⟨v,h⟩;refine⟨fun i q=>?_,fun i hi q=>?_⟩
  ·rcases(h.z _).1 q with e|e
   ·subst e;exact h.box.lt
   ·exact(h.row.lt _ e).2
  ·rcases(h.z _).1 q with e|e
   ·exact e
   ·have:=j0p h.row _ e;omega
 case hI=>
  rintro k Z W W' ⟨v,h⟩ q;exact⟨v,h.hI (by omega) (by omega) (by omega) q⟩
 case h0=>exact⟨U G 0 0,HB0.o.kp HKc.o (fun x=>x),HB2.o.kp HKc.o (fun x=>x),⟨by simp[uK,flatK],.inl ⟨rfl,rfl⟩⟩,fun i=>Iff.rfl,HK3.o.trans HKc.o⟩
 case hround=>
  subst hact;rintro k x Z W KK hkN hsW ⟨v,hR⟩ hx hcont;unfold j1Z at hx;subst hx;obtain⟨hi1,hi2⟩:=HI64.o k hkN;have hnx:=jES m1 m2 m3 L k;obtain⟨aj,hU⟩:=e_ (uK m1 m2 m3 L k);have hUl:aj.length<1048576:=by have h1:=jEQ m1 m2 m3 L k;have h2:=HSZ.o;rw[hU] at h1;omega
  have HUL:=h_ hUl;obtain⟨⟨c,s⟩,hcs⟩:∃x,cK m1 m2 m3 k=x:=⟨_,rfl⟩;rw[hcs] at hi1 hi2 hnx ⊢;rw[hU] at hR hnx;have HR:=h_ hR;obtain⟨B,hB,hhas⟩:=j3A HG.o hi1 hi2;have HHas:=h_ hhas;have hBL:hasL L (c,s)=B:=by
   rcases hB with ⟨rfl,h⟩|⟨rfl,h⟩
   ·exact j39.2 h
   ·exact Bool.eq_false_iff.2 fun q=>by obtain⟨a,ha⟩:=j39.1 q;exact h a ha
  rw[hBL] at hnx;have HNx:=h_ hnx;have HSW:=h_ hsW;have HSC:=h_ s3c;generalize uK m1 m2 m3 L (k+1)=U1 at *;clear hR hB hhas hBL hnx hkN hsW hU hcs hi1 hi2 hUl s3c hp2 HBc HKc HK2 HB0 HB1 HB2 HS3 HK3 HI64 HUK HSZ;simp only[List.zip_toArray,List.zip_cons_cons,List.zip_nil_right,List.foldl_toArray',List.foldl_cons,List.foldl_nil]
  gi_wp2_with (fail)
  refine hcont _ _ ((Kp.refl W Nul).alloc _) (fun V hV=>?_);have hWl:Wc.heap.size+1<W.heap.size:=by have:=HSW.o;omega
  have hWV:Kp W V (fun i=>i=Wc.heap.size∨i=Wc.heap.size+1):=((Kp.refl W _).alloc _).trans (hV.mono (fun i _ e=>.inr e));have hRV:=HR.o.hI (by have:=HSC.o;omega) (by have:=HSC.o;omega) (by have:=HSC.o;omega) hWV;have bA:=(Blk.new W [O I c,O I s] 32).kp hV (fun e=>by have:W.heap.size=Wc.heap.size+1:=e;omega);have hsz:=bA.lt;have y0:=bA.c_ 0 rfl;have y1:=bA.c_ 1 rfl;have y2:=hRV.bg.c_ 0 rfl;have HRV:=h_ hRV;have HBA:=h_ bA;have HVS:=h_ hsz;clear hcont hV hWl hWV hRV bA hsz HR
  gi_wp2_with (fail)
  refine⟨trivial,(callsIn_wide.2 (HHas.o _ HRV.o.kp)).mono ?_⟩;rintro e V1 ⟨rfl,hk1⟩;have hb2:=HRV.o.box.kp hk1 (fun x=>x);have HB2:=h_ hb2;have y0:=(HBA.o.kp hk1 (fun x=>x)).c_ 0 rfl;have y1:=(HBA.o.kp hk1 (fun x=>x)).c_ 1 rfl;have y2:=hb2.c_ 0 rfl;have HK1:=h_ hk1;clear hk1 hb2 HHas HBA;cases B with
  | false=>
   have HE:Hid (Kp V V1 Z/\∃Z',(∃v,FcR w Wc g w.heap.size (w.heap.size+1+1) U1 Z' V1 v)/\More Z Z' W):=by
    rw[if_neg Bool.false_ne_true] at HNx;rw[HNx.o];refine⟨HK1.o.of_nul,Z,⟨v,HRV.o.bg.kp HK1.o (fun x=>x),HB2.o,j0u HRV.o.row HK1.o (fun _ _ e=>e),HRV.o.z,HRV.o.kp.trans HK1.o⟩,fun i q=>.inl q⟩
   gi_wp2_with (fail)
   first
   | exact⟨rfl,HE.o⟩
   | exact HE.o
  | true=>
   obtain⟨pv,nv,cv,rfl⟩:∃p n c,v=U p n c:=by
    rcases HRV.o.row.2 with ⟨rfl,_⟩|⟨g,c,cur,rfl,_⟩
    ·exact⟨_,_,_,rfl⟩
    ·exact⟨_,_,_,rfl⟩
   have HRow:Hid ((V1.alloc (.cells #[O I c,O I s] 32)).ownsRow (Wc.heap.size+2) 32 2 (U pv nv cv) aj.length (flatK encA 2 aj.toArray).toList):=(j0u HRV.o.row HK1.o (fun _ _ e=>e)).alloc _;have HB5:Hid (Blk (V1.alloc (.cells #[O I c,O I s] 32)) V1.heap.size [O I c,O I s] 32):=Blk.new V1 _ _;have HU1:Hid (U1=aj++[(c,s)]):=by
    rw[if_pos rfl] at HNx;exact HNx.o
   obtain⟨i0,hi,hz0,hz1,hz2⟩:=j3J
   gi_wp2_with (first
    | (refine jEz _ rfl (.tmp 22) (.tmp 24) 78 rfl (Wc.heap.size+2) 32 i0 _ 2 16 underlying78 hi hz0 hz1 hz2 rfl (by decide) (U pv nv cv) aj.length _ rfl HRow.o ⟨V1.heap.size,0,G⟩ 1 1 (encA (c,s)) rfl rfl ?c1 ?c2 (by decide) ?c3 ?c4 ?c5 ?_)
    | fail)
   case c1=>
    intro j u hj;rw[R5,Nat.zero_add];exact HB5.o.cell hj
   case c2=>exact j32 _
   case c3=>unfold maxLen;have:=HUL.o;omega
   case c4=>have:=HUL.o;omega
   case c5=>rw[World.size_alloc];have h1:=HSW.o;have h2:=HVS.o;have h3:=HK1.o.size;omega
   intro g6 c6 w7 hrow hgr htell;have hob:=j0p HRV.o.row;have k17:Kp V1 w7 (fun i=>(U pv nv cv).ownBlock=H i):=((Kp.refl V1 _).alloc _).trans (Kp.of_grown hgr (fun i e=>e));have HK17:=h_ k17;have HB7:=h_ (HB2.o.kp k17 (fun e=>by have h1:=hob _ e;have h2:=HSC.o;omega));have HRow7:=h_ hrow;have HTe:=h_ (htell.imp id (fun q=>by omega));clear hrow hgr htell hob k17 HRow HB5 y0 y1 y2 hz0 hz1 hz2 hi
   gi_wp2_with (first
    | (refine j0K rfl 78 (.tmp 5) (.tmp 25) rfl (w.heap.size+1+1) rfl (U (H ⟨g6,0,G⟩) (aj.length+1) c6) rfl rfl 78 (U pv nv cv) HB7.o (by kernel_rfl) ?_;intro X hbX hkX)
    | fail)
   have HE:Kp V X Z/\∃Z',(∃v,FcR w Wc g w.heap.size (w.heap.size+1+1) U1 Z' X v)/\More Z Z' W:=by
    have hob:=j0p HRV.o.row;have hz:=HRV.o.z;have kVX:Kp V X Z:=(HK1.o.of_nul.trans (HK17.o.mono (fun i _ e=>(hz i).2 (.inr e)))).trans (hkX.mono (fun i _ e=>(hz i).2 (.inl e)));have hsc:=HSC.o;refine⟨kVX,fun i=>i=w.heap.size+1+1∨(U (H ⟨g6,0,G⟩) (aj.length+1) c6).ownBlock=H i,⟨_,HRV.o.bg.kp kVX (fun q=>?_),hbX,?_,fun i=>Iff.rfl,HRV.o.kp.trans' kVX (fun i hi q=>?_)⟩,fun i q=>?_⟩
    ·rcases(hz _).1 q with e|e
     ·omega
     ·have:=hob _ e;omega
    ·rw[HU1.o,j37,List.length_append];exact j0u HRow7.o hkX (fun i hi e=>by have:i=w.heap.size+1+1:=e;omega)
    ·rcases(hz _).1 q with e|e
     ·omega
     ·have:=hob _ e;omega
    ·rcases q with q|q
     ·exact .inl ((hz i).2 (.inl q))
     ·have e':g6=i:=(by simpa [Value.ownBlock] using q);subst e';rcases HTe.o with q|q
      ·exact .inl ((hz _).2 (.inr q))
      ·exact .inr (by have:=HK1.o.size;have:=HVS.o;omega)
   first
   | exact⟨rfl,HE⟩
   | exact HE
 case hdone=>
  subst hact;rintro D Z W hD ⟨v,hR⟩ hdef;have HR:=h_ hR;have HDf:=h_ hdef;obtain⟨hu1,hu2⟩:=HUK.o _ rfl;have hw:w.heap.size<=D:=by omega
  have HE:Hid (U8 w.heap.size (W.putObj D (.deferred G)) v (uK m1 m2 m3 L (szN m1 m2 m3 m4))/\E9 (uK m1 m2 m3 L (szN m1 m2 m3 m4))/\(∀x,x∈uK m1 m2 m3 L (szN m1 m2 m3 m4)↔∃a,(x,a)∈M)/\Kp w (W.putObj D (.deferred G)) Nul):=by
   have hDr:∀i,v.ownBlock=H i->¬i=D:=fun i e q=>by
    subst q;rcases hR.row.2 with ⟨rfl,_⟩|⟨g',c',cur,rfl,_,h3,_⟩
    ·cases e
    ·have e':g'=i:=(by simpa [Value.ownBlock] using e);subst e';rw[h3] at hdef;cases hdef
   have hrow:(W.putObj D (.deferred G)).ownsRow (Wc.heap.size+2) 32 2 v (uK m1 m2 m3 L (szN m1 m2 m3 m4)).length (flatK encA 2 (uK m1 m2 m3 L (szN m1 m2 m3 m4)).toArray).toList:=by
    refine⟨hR.row.1,?_⟩;rcases hR.row.2 with q|⟨g',c',cur,e1,e2,e3,rest⟩
    ·exact .inl q
    ·exact .inr ⟨g',c',cur,e1,e2,(World.putObj_heap_other (fun q=>hDr g' (by rw[e1];rfl) q)).trans e3,rest⟩
   exact⟨(j69 (j6A rfl hrow)).down (by omega),hu1,hu2,X6 hR.kp hw⟩
  have y2:=hR.box.c_ 0 rfl;clear hR hdef hu1 hu2 HUK hw hp2;go_wp2_with fail;refine⟨by simp,.inl ⟨_,_,rfl,run_takeDeferred HDf.o,?_⟩⟩;refine⟨v,?_,_,v,rfl,HE.o⟩;rw[results_tmp rfl]
  rfl
theorem j9t (g:Nat)(m1 m2 m3 m4:Int)(L M:List Cc)(hM:inL m1 m2 m3 m4 L=M)(w:World)(hg:GI 0 w g L)(_:∀x∈L,vC x.1.1 x.1.2=J)(lL:L.length<=4096):
 Calls prog 134 #[an (H ⟨g,0,G⟩),T #[O I m1,O I m2,O I m3,O I m4]] w fun e w'=>∃aj v',e=Q v'/\U8 w.heap.size w' v' aj/\E9 aj/\(∀x,x∈aj↔∃a,(x,a)∈M)/\Kp w w' Nul:=by
 by_cases h:j0w m1 m2 m3 m4<(L.length:Int)
 ·exact j9u g m1 m2 m3 m4 L M hM w hg _ rfl h
 ·exact j9v g m1 m2 m3 m4 L M hM w hg lL _ rfl h
end
section
open Go.RowKit Go.Maps Go.Sort Go.Lib
theorem jEd (g:Nat)(F:Nat->Prop)(m1 m2 m3 m4:Int)(L M:List Cc)(hM:inL m1 m2 m3 m4 L=M)(w:World)(hg:GI 0 w g L)(hF:j6 w F g L)(gL:∀x∈L,Gd x.2)(hv:∀x∈L,vC x.1.1 x.1.2=J)(lL:L.length<=4096):
 Calls prog 98 #[an (H ⟨g,0,G⟩),T #[O I m1,O I m2,O I m3,O I m4]] w fun e w'=>∃b ys,e=Q (U (H ⟨b,0,G⟩) ys.length ys.length)/\WiR w w' F M b ys:=by
 obtain⟨mv,bg⟩:=hg.blk;have k1:Kp w (w.alloc (.cells #[O I m1,O I m2,O I m3,O I m4] 34)) Nul:=(Kp.refl w Nul).alloc _;have HFil:Hid (Calls prog 134 #[an (H ⟨g,0,G⟩),T #[O I m1,O I m2,O I m3,O I m4]] (w.alloc (.cells #[O I m1,O I m2,O I m3,O I m4] 34)) fun e w'=>∃aj v',e=Q v'/\U8 w.heap.size w' v' aj/\E9 aj/\(∀x,x∈aj↔∃a,(x,a)∈M)/\Kp w w' Nul):=
  (j9t g m1 m2 m3 m4 L M hM _ (hg.kp k1) hv lL).mono (by
   rintro e w' ⟨aj,v',h1,h2,h3,h4,h5⟩;exact⟨aj,v',h1,h2.down k1.size,h3,h4,k1.trans h5⟩)
 have HI:Hid (∀x∈L,I64 x.1.1/\I64 x.1.2):=by
  obtain⟨_,⟨_,rfl⟩|⟨m,D,_,_,_,_,hm⟩⟩:=hg
  ·intro x hx;simp at hx
  ·exact hm.rng
 have HLook:Hid (∀c s,(∃a,((c,s),a)∈M)->∃a sa,((c,s),a)∈M/\NdIn w F sa a.t/\∀wq,Kp w wq Nul->wq.cell? ⟨g,0,G⟩=H (.map mv)/\(Instr.lookup 94 (.map mv) (T #[O I c,O I s]) R).run prog wq=.ok (a.val sa) wq):=fun c s ⟨a0,h0⟩=>by
  have h0':=j5c hM h0;have hi2:=HI.o _ h0';obtain⟨a,sa,bb,hlk,hinA,hax,hao,_,_,hcase⟩:=jAv hF gL hi2.1 hi2.2 bg;rcases hcase with ⟨_,hm⟩|⟨_,_,_,hno⟩
  ·exact⟨a,sa,jAP hM hm h0,hinA,fun wq k=>⟨(bg.kp k (fun x=>x)).cell rfl,(jAq hlk k).one wq (fun _ _=>rfl)⟩⟩
  ·exact absurd h0' (hno a0)
 have HONCE:Hid (M.Pairwise (fun x y=>x.1≠y.1)):=j3G hM hg.once;have hML:M.length<=4096:=Nat.le_trans (j5b hM) lL;have HUL:Hid (∀aj,E9 aj->(∀x,x∈aj↔∃a,(x,a)∈M)->aj.length<=4096):=fun aj h1 h2=>by
  have hnd:aj.Nodup:=j3w h1;have hsub:∀x∈aj,x∈(M.map (·.1)):=fun x hx=>by
   obtain⟨a,h⟩:=(h2 x).1 hx;exact List.mem_map.2 ⟨_,h,rfl⟩
  have:=j0n _ _ hnd hsub;rw[List.length_map] at this;omega
 clear hg hF gL hv lL bg k1 hM hML;go_enter func98,ntmps98;go_wp2_with fail;refine HFil.o.mono ?_;rintro e w2 ⟨aj,v2,rfl,⟨ua,uc,rfl,hcell⟩,hst,hmem,hk2⟩;have HK2:Hid (Kp w w2 Nul):=hk2;have HST:Hid (E9 aj):=hst;have HMEM:Hid (∀x,x∈aj↔∃a,(x,a)∈M):=hmem;have HLU:Hid (aj.length<=4096):=HUL.o aj hst hmem;have HCell:Hid ((ua=G/\aj=[])∨∃b,ua=H ⟨b,0,G⟩/\w.heap.size<=b/\j0M w2 b 0 aj):=hcell;clear hk2 hst hmem hcell HFil HUL;generalize hn:aj.length=n at *;have HN:Hid (aj.length=n):=hn;obtain⟨cs,hcs,hmk⟩:=jBC n (by have:=HLU.o;omega);have HCS:Hid (cs.size=n*23):=hcs;clear hn hcs;go_wp2_with fail;clear hmk;have hW:∃W,w2.alloc (.cells cs 52)=W:=⟨_,rfl⟩;obtain⟨W,hW⟩:=hW;rw[hW];have HT:Hid (W.there w2.heap.size 0 (n*23)):=by rw[<- hW];exact J5 (heap_alloc_new w2 _) 0 (n*23) (by rw[HCS.o];omega)
 have HKW:Hid (Kp w2 W Nul):=by rw[<- hW];exact(Kp.refl w2 Nul).alloc _
 have HBL:Hid (w2.heap.size<W.heap.size):=by rw[<- hW,World.size_alloc];exact Nat.lt_succ_self _
 clear hW;obtain⟨b,hb⟩:∃b,w2.heap.size=b:=⟨_,rfl⟩;rw[hb] at HT HBL;have HB:Hid (w2.heap.size=b):=hb;rw[hb];clear hb HCS;go_loopw[17] (fun i wr=>∃(q:Nat) (ys:List (Cc×Value)),q<=n/\i=O I q/\ys.map (·.1.1)=aj.take q/\(∀y∈ys,y.1∈M)/\(∀y∈ys,NdIn w F y.2 y.1.2.t)/\(∀i y,ys[i]? = H y->wr.rangeAt b (i*23) (j8 y.1 y.2))/\wr.there b 0 (n*23)/\Kp W wr (fun i=>i=b)) (fun i _=>n-(RowKit.intOf i).toNat)
 case atStart=>exact⟨0,[],Nat.zero_le _,rfl,rfl,fun y h=>by simp at h,fun y h=>by simp at h,fun i y h=>by simp at h,HT.o,Kp.refl _ _⟩
 case round=>
  obtain⟨q,ys,hq,rfl,hmap,hin,htree,hrng,hth,hkq⟩:=hrel;have HMAP:Hid (ys.map (·.1.1)=aj.take q):=hmap;have HINL:Hid (∀y∈ys,y.1∈M):=hin;have HTREE:Hid (∀y∈ys,NdIn w F y.2 y.1.2.t):=htree;have HRNG:Hid (∀i y,ys[i]? = H y->wr.rangeAt b (i*23) (j8 y.1 y.2)):=hrng;have HTH:Hid (wr.there b 0 (n*23)):=hth;have HKQ:Hid (Kp W wr (fun i=>i=b)):=hkq;have hysl:ys.length=min q n:=by rw[<- HN.o];have:=congrArg List.length hmap;simpa using this
  have HYL:Hid (ys.length=q):=by show _=_;omega
  have HKR:Hid (Kp w wr Nul):=(HK2.o.trans HKW.o).trans' hkq (fun i hi e=>by have h1:=HK2.o.size;have h2:=HB.o;have:i=b:=e;omega);clear hmap hin htree hrng hth hkq hysl;by_cases hlt:q<n
  ·have hqt:q<aj.length:=(by rw[HN.o];exact hlt);obtain⟨bu,rfl,hbw,hca⟩:∃b,ua=H ⟨b,0,G⟩/\w.heap.size<=b/\j0M w2 b 0 aj:=by
    rcases HCell.o with ⟨_,h⟩|h
    ·rw[h] at hqt;simp at hqt
    ·exact h
   have hbu:bu<b:=by
    have:=J7 (hca q aj[q] (List.getElem?_eq_getElem hqt)).1;rw[HB.o] at this;exact this
   obtain⟨x0,x1⟩:=((hca.kp HKW.o (fun x=>x)).kp HKQ.o (fun e=>by have:bu=b:=e;omega)) q aj[q] (List.getElem?_eq_getElem hqt);obtain⟨⟨c,s⟩,hcs⟩:∃cs,aj[q]=cs:=⟨_,rfl⟩;rw[hcs] at x0 x1;simp only at x0 x1;obtain⟨a,sa,hmL,htr,hlk⟩:=HLook.o c s ((HMEM.o _).1 (hcs ▸ List.getElem_mem hqt));have HML:Hid (((c,s),a)∈M):=hmL;have HTR:Hid (NdIn w F sa a.t):=htr;have HTK:Hid (aj.take (q+1)=aj.take q++[(c,s)]):=(by show _=_;rw[List.take_add_one,List.getElem?_eq_getElem hqt,hcs];rfl);have hkb:(q:Int)+1<=9223372036854775807:=(by have:=HLU.o;omega);have hq0:(0:Int)<=(q:Int):=(by omega);have hqn:(q:Int)<(n:Int):=(by omega);have x0':wr.cell? ⟨bu,q*2,G⟩=H (O I c):=(by rw[Nat.zero_add] at x0;exact x0);have x1':wr.cell? ⟨bu,q*2+1,G⟩=H (O I s):=(by rw[Nat.zero_add] at x1;exact x1);have hA:Blk (wr.alloc (.cells #[O I c,O I s] 32)) wr.heap.size [O I c,O I s] 32:=Blk.new wr _ _
   have hgc:=hlk _ ((HKR.o.alloc (.cells #[O I c,O I s] 32)).drew);have HA:Hid (∀wq,Kp (wr.alloc (.cells #[O I c,O I s] 32)) wq (fun i=>i=b)->wq.cell? ⟨wr.heap.size,0,G⟩=H (O I c)/\wq.cell? ⟨wr.heap.size,1,G⟩=H (O I s)/\wq.cell? ⟨g,0,G⟩=H (.map mv)/\(Instr.lookup 94 (.map mv) (T #[O I c,O I s]) R).run prog wq=.ok (a.val sa) wq):=fun wq k=>by
    have hne:¬(wr.heap.size=b):=(fun e=>by have h1:=HKQ.o.size;have h2:=HBL.o;omega);have hkw:Kp w wq Nul:=(HKR.o.alloc _).trans' k (fun i hi e=>by have h1:=HK2.o.size;have h2:=HB.o;have:i=b:=e;omega);exact⟨(hA.kp k hne).cell rfl,(hA.kp k hne).cell rfl,(hlk wq hkw).1,(hlk wq hkw).2⟩
   clear hca hcs hqt x0 x1 hbw hA hlk hmL htr hbu hgc;go_wp2_with fail;clear x0' x1';refine wp_region_noPanic ?_;refine I0 (fun w':World=>w'.cell? ⟨wr.heap.size,0,G⟩=H (O I c)/\w'.cell? ⟨wr.heap.size,1,G⟩=H (O I s)/\w'.cell? ⟨g,0,G⟩=H (.map mv)/\(Instr.lookup 94 (.map mv) (T #[O I c,O I s]) R).run prog w'=.ok (a.val sa) w') (by kernel_rfl) (HA.o _ ((Kp.refl _ _).drew)) (fun hHeld=>?_);refine tk 0 22 hHeld ?_ (hy:=by intro w' hSw;obtain⟨s0,s1,s2,s3⟩:=hSw;go_simp;try with_reducible rfl);refine tk 1 23 hHeld ?_ (hy:=by intro w' hSw;obtain⟨s0,s1,s2,s3⟩:=hSw;go_simp;try with_reducible rfl);refine tk 2 24 hHeld ?_ (hy:=by intro w' hSw;obtain⟨s0,s1,s2,s3⟩:=hSw;go_simp;try with_reducible rfl);refine tk 3 25 hHeld ?_ (hy:=by intro w' hSw;obtain⟨s0,s1,s2,s3⟩:=hSw;go_simp;try with_reducible rfl);refine tk 4 26 hHeld ?_ (hy:=by intro w' hSw;obtain⟨s0,s1,s2,s3⟩:=hSw;go_simp;try with_reducible rfl)
   refine tk 5 27 hHeld ?_ (hy:=by intro w' hSw;obtain⟨s0,s1,s2,s3⟩:=hSw;go_simp;try with_reducible rfl);refine tk 6 28 hHeld ?_ (hy:=by intro w' hSw;obtain⟨s0,s1,s2,s3⟩:=hSw;go_simp;try with_reducible rfl);refine tk 7 29 hHeld ?_ (hy:=by intro w' hSw;obtain⟨s0,s1,s2,s3⟩:=hSw;go_simp;try with_reducible rfl);refine tk 8 30 hHeld ?_ (hy:=by intro w' hSw;obtain⟨s0,s1,s2,s3⟩:=hSw;go_simp;try with_reducible rfl);refine tk 9 31 hHeld ?_ (hy:=by intro w' hSw;obtain⟨s0,s1,s2,s3⟩:=hSw;go_simp;try with_reducible rfl);refine tk 10 32 hHeld ?_ (hy:=by intro w' hSw;obtain⟨s0,s1,s2,s3⟩:=hSw;go_simp;try with_reducible rfl);refine D6 (i:=11) (by kernel_rfl) rfl rfl (fun K hK=>?_);have T5:Hid ((wr.alloc (.cells #[O I c,O I s] 32)).drew.there b (q*23) 23):=by
    have h1:=World.there_alloc HTH.o (.cells #[O I c,O I s] 32);intro j hj;have:=h1 (q*23+j) (by omega);rw[Nat.zero_add] at this;exact this
   have O5:Hid ((j8 ((c,s),a) sa).toArray.all (·.oneCell')=J):=all_oneCell_toArray (j0r _ HTR.o.one);refine wp_store_mid 52 (.tmp 32) (.tmp 31) rfl b (q*23) (j8 ((c,s),a) sa).toArray rfl rfl T5.o j3L O5.o ?_;obtain⟨W6,hW6⟩:∃W6,(wr.alloc (.cells #[O I c,O I s] 32)).drew.setCells b (q*23) (j8 ((c,s),a) sa)=W6:=⟨_,rfl⟩;have k6:Kp (wr.alloc (.cells #[O I c,O I s] 32)) W6 (fun i=>i=b):=(Kp.refl _ _).drew.trans (hW6 ▸ O6 (fun i=>i=b) rfl _ _ _);have HK6:Hid (Kp W W6 (fun i=>i=b)):=(HKQ.o.alloc _).trans k6;have HR6:Hid (∀i y,(ys++[(((c,s),a),sa)])[i]? = H y->W6.rangeAt b (i*23) (j8 y.1 y.2)):=jCj (fun y:Cc×Value=>j8 y.1 y.2) (fun y=>j0U y.1 y.2) hW6 HYL.o T5.o (fun i y hy=>jCn (HRNG.o i y hy) _);have HT6:Hid (W6.there b 0 (n*23)):=jEA HTH.o hW6;have HM6:Hid ((ys++[(((c,s),a),sa)]).map (·.1.1)=aj.take (q+1)):=by show _=_;rw[List.map_append,HMAP.o,HTK.o];rfl
   have HL6:Hid (∀y∈ys++[(((c,s),a),sa)],y.1∈M):=fun y hy=>by
    rcases List.mem_append.1 hy with hy|hy
    ·exact HINL.o y hy
    ·rw[List.mem_singleton] at hy;subst hy;exact HML.o
   have HTR6:Hid (∀y∈ys++[(((c,s),a),sa)],NdIn w F y.2 y.1.2.t):=fun y hy=>by
    rcases List.mem_append.1 hy with hy|hy
    ·exact HTREE.o y hy
    ·rw[List.mem_singleton] at hy;subst hy;exact HTR.o
   have hS6:=HA.o W6 k6;show K _ ((wr.alloc (.cells #[O I c,O I s] 32)).drew.setCells b (q*23) (j8 ((c,s),a) sa));rw[hW6];refine hK.o _ _ hS6 (fun _=>?_);clear hK K k6 hW6 hS6 T5 O5 HA hHeld;refine wpAnyH_done (by kernel_rfl) ?_ _;refine NoPanic.normal ?_;go_wp2_with fail;go_roundw
   case rel=>exact⟨q+1,_,by omega,by go_num,HM6.o,HL6.o,HTR6.o,HR6.o,HT6.o,HK6.o⟩
   case measure=>simp only[RowKit.intOf];omega
  ·have hqe:q=n:=(by omega);subst hqe;have hqn:¬((q:Int)<(q:Int)):=(by omega);have hall:aj.take q=aj:=(by rw[List.take_of_length_le (by rw[HN.o];exact Nat.le_refl _)]);have HEND:Hid (WiR w wr F M b ys):=by
    refine⟨by have:=HK2.o.size;have:=HB.o;omega,HRNG.o,?_,fun x=>⟨fun h=>?_,fun h=>?_⟩,fun y hy=>(HTREE.o y hy).kp HKR.o (fun _ _ x=>x),HKR.o⟩
    ·rw[HMAP.o,hall];exact HST.o
    ·obtain⟨y,hy,rfl⟩:=List.mem_map.1 h;exact HINL.o y hy
    ·have h1:x.1∈ys.map (·.1.1):=(by rw[HMAP.o,hall];exact(HMEM.o x.1).2 ⟨x.2,h⟩);obtain⟨y,hy,e⟩:=List.mem_map.1 h1;have h2:=HINL.o y hy;refine List.mem_map.2 ⟨y,hy,Prod.ext e ?_⟩;have h3:(x.1,y.1.2)∈M:=(by rw[<- e];exact h2);exact(j0E HONCE.o h3 h)
   have HYQ:Hid (ys.length=q):=HYL.o;clear HRNG HMAP HTREE HINL hall;go_wp2_with fail;go_ret;exact⟨b,ys,by rw[HYQ.o];rfl,HEND.o⟩
end
section
open Go.RowKit Go.Maps Go.Sort Go.Lib Go.Shelf
attribute [local go_sem] Oper.semAt_some
structure InF (W:World) (F:Nat->Prop) (b:Nat) (ys:List (Cc×Value)) (Z:Nat->Prop) (wr:World):Prop where
 nz:¬Z b
 rng:∀(i:Nat) y,ys[i]? = H y->wr.rangeAt b (i*23) (j8 y.1 y.2)
 tree:∀y∈ys,NdIn wr F y.2 y.1.2.t
 size:W.heap.size<=wr.heap.size
theorem j3F (g x0 x1:Nat)(F:Nat->Prop)(m1 m2 m3 m4:Int)(L M K:List Cc)(hM:inL m1 m2 m3 m4 L=M)(w:World)(S:Nat->Prop)(hg:GI 0 w g L)(hF:j6 w F g L)(gL:∀x∈L,Gd x.2)(hv:∀x∈L,vC x.1.1 x.1.2=J)(lL:L.length<=4096)
 (hK:E9 (K.map (·.1))) (hKL:∀x,x∈K↔x∈M) (hA:∀i,F i->i<w.heap.size) (hS:∀i,S i->¬F i) (b0:Blk w x0 [an (H ⟨g,0,G⟩)] 24) (b1:Blk w x1 [O I m1,O I m2,O I m3,O I m4] 34) :
 j0Y prog 97 #[an (H ⟨x0,0,G⟩),an (H ⟨x1,0,G⟩)] encQ wtQ (j0Z w K) K.length S w:=by
 intro ai Jx Z W hkw hsz hJ _ hJz hY hj0;have c0:=(b0.kp hkw (fun x=>x)).c_ 0 rfl;have d0:=(b1.kp hkw (fun x=>x)).c_ 0 rfl;have d1:=(b1.kp hkw (fun x=>x)).c_ 1 rfl;have d2:=(b1.kp hkw (fun x=>x)).c_ 2 rfl;have d3:=(b1.kp hkw (fun x=>x)).c_ 3 rfl;have HWi:=h_ (jEd g _ m1 m2 m3 m4 L M hM W (hg.kp hkw) (hF.kp hkw) gL hv lL);have HSZ:=h_ hsz;have HJ:=h_ hJ;have HJZ:=h_ hJz;have HY:=h_ hY;have HJ0:=h_ hj0;have HGd:Hid (∀x∈M,Gd x.2):=fun x hx=>gL x (j5c hM hx)
 have HA:=h_ hA;have HS:=h_ hS;have HKK:Hid (∀ys:List (Cc×Value),E9 (ys.map (·.1.1))->(∀x,x∈ys.map (·.1)↔x∈M)->ys.map (·.1)=K):=fun ys h1 h2=>jDq (by rw[List.map_map];exact h1) hK (fun x=>(h2 x).trans (hKL x).symm)
 have HLK:Hid (K.length<=4096):=by
  have hnd:=j3w hK;have:=j0n _ (M.map (·.1)) hnd (fun x hx=>by
   obtain⟨y,hy,rfl⟩:=List.mem_map.1 hx;exact List.mem_map.2 ⟨y,(hKL y).1 hy,rfl⟩)
  rw[List.length_map,List.length_map] at this;have:=j5b hM;show _<=_;omega
 clear hkw hsz hJ hJz hY hj0 hg hF gL hv lL hK hKL hA hS b0 b1 hM;simp only[List.append_toArray,List.cons_append,List.nil_append];refine(callsIn_wide (n:=8)).1 ?_;refine callsIn_of_wp func97 rfl trivial ?_ rfl;simp only[ntmps97,List.size_toArray,List.length_cons,List.length_nil,Nat.reduceAdd,Nat.reduceSub,Array.replicate_succ,Array.replicate_zero,List.push_toArray,List.append_toArray,List.nil_append,List.cons_append]
 gi_wp2_with (fail)
 refine⟨trivial,(callsIn_wide.2 HWi.o).mono ?_⟩;rintro e w2 ⟨b,ys,rfl,hwi⟩;have HW2:=h_ hwi;have HYK:=h_ (HKK.o ys hwi.strict hwi.mem);have hlen:ys.length=K.length:=by rw[<- HYK.o,List.length_map]
 clear hwi c0 d0 d1 d2 d3 HKK;rw[hlen];generalize hn:K.length=n at *;have HLEN:=h_ hlen;have HN:=h_ hn;clear hn hlen
 gi_wp2_with (fail)
 gi_loopw [12] (fun i wr=>∃(q:Nat) (Z:Nat->Prop),q<=n/\i=O I q/\ai q Z wr/\InF W F b ys Z wr) (fun i _=>n-(RowKit.intOf i).toNat)
 case atStart=>
  refine⟨0,Z,Nat.zero_le _,rfl,HJ.o _ _ _ _ HJ0.o HW2.o.kp,?_⟩;exact⟨fun h=>by have h1:=(HJZ.o _ _ _ HJ0.o).1 b h;have h2:=HW2.o.low;omega,HW2.o.rng,HW2.o.tree,HW2.o.kp.size⟩
 case round=>
  obtain⟨q,Zq,hq,rfl,hjq,hin⟩:=hrel;have HJQ:=h_ hjq;have HIN:=h_ hin;clear hjq hin;by_cases hlt:q<n
  ·have hqt:q<ys.length:=(by rw[HLEN.o];exact hlt);obtain⟨⟨⟨⟨c,s⟩,a⟩,sa⟩,hys⟩:∃y,ys[q]=y:=⟨_,rfl⟩;have hget:ys[q]? = H (((c,s),a),sa):=(by rw[List.getElem?_eq_getElem hqt,hys]);have HR:=h_ (HIN.o.rng q _ hget);have htree:=HIN.o.tree _ (List.mem_of_getElem? hget);have O1:=h_ htree.one;have hKq:K[q]? = H ((c,s),a):=(by rw[<- HYK.o,List.getElem?_map,hget];rfl);have HKQ:=h_ hKq;have hgd:Gd a:=HGd.o _ ((HW2.o.mem _).1 (List.mem_map.2 ⟨_,List.mem_of_getElem? hget,rfl⟩));have hbl:=Q0 HR.o;have HBL:=h_ hbl;have B5:Blk (wr.alloc (.cells (j8 ((c,s),a) sa).toArray 52)) wr.heap.size (j8 ((c,s),a) sa) 52:=Blk.new wr _ _;have HAt:Hid (∀wq,Kp (wr.alloc (.cells (j8 ((c,s),a) sa).toArray 52)) wq Nul->wq.rangeAt wr.heap.size 0 [O I c,O I s]):=fun wq k j v hj=>by
    match j,hj with
    | 0,hj=>cases hj;exact(B5.kp k (fun x=>x)).cell rfl
    | 1,hj=>cases hj;exact(B5.kp k (fun x=>x)).cell rfl
   have HCo:Hid (∀wq,Kp (wr.alloc (.cells (j8 ((c,s),a) sa).toArray 52)) wq Nul->wq.rangeAt wr.heap.size 2 (a.cells sa)):=fun wq k j v hj=>by
    refine(B5.kp k (fun x=>x)).cell ?_;show (j8 ((c,s),a) sa)[2+j]? = H v;rw[Nat.add_comm 2 j];exact hj
   have HCp:Hid (∀wq,Kp (wr.alloc (.cells (j8 ((c,s),a) sa).toArray 52)) wq Nul->Calls prog 47 #[T (a.cells sa).toArray] wq fun e w'=>∃sl',e=Q (T (a.cells sl').toArray)/\(∃fp,Own w' wq.heap.size sl' a.t fp)/\Kp wq w' Nul):=fun wq k=>by
    have hk:Kp wr wq Nul:=((Kp.refl wr Nul).alloc _).trans k;refine(j0S a sa F wq hgd.x hgd.size hgd.ok (htree.kp hk (fun _ _ x=>x))).mono ?_;rintro e w' ⟨sl',fp,rfl,h1,h2⟩;rw[hgd.cp] at h1 ⊢;exact⟨sl',rfl,⟨fp,h1⟩,Kp.of_below h2⟩
   have hkb:(q:Int)+1<=9223372036854775807:=(by have:=HLK.o;omega);have hq0:(0:Int)<=(q:Int):=(by omega);have hqn:(q:Int)<(n:Int):=(by omega);clear hqt hys hget htree hKq hgd hbl B5
   gi_wp2_with (first
    | (refine jAu rfl (.tmp 14) rfl b (q*23) rfl (j8 ((c,s),a) sa) HR.o rfl ?_)
    | (refine j2Z rfl 52 (.tmp 5) (.tmp 15) rfl _ _ _ _ (by first|rfl|simp) rfl rfl rfl j3L (all_oneCell_toArray (j0r _ O1.o)) ?_)
    | fail)
   refine j1S ?_;refine wpIn_region_any (by kernel_rfl) ?_;refine j2r (i:=0) (.func (.yield (w.heap.size+1)) #[] #[]) (H 16) rfl rfl (by kernel_rfl) (by kernel_rfl) (by kernel_rfl) (fun _ _ _ h=>h) rfl (fun _=>rfl) (fun _=>by go_simp) ?_;simp only[Act.put,Sz0,Sz1,Sz2];refine j2r (i:=1) (an (H ⟨wr.heap.size,0,G⟩)) (H 17) rfl rfl (by kernel_rfl) (by kernel_rfl) (by kernel_rfl) (fun _ _ _ h=>h) rfl (fun _=>rfl) (fun _=>by go_simp) ?_;simp only[Act.put,Sz0,Sz1,Sz2];refine j2r (i:=3) (an (H ⟨wr.heap.size,2,G⟩)) (H 19) rfl rfl (by kernel_rfl) (by kernel_rfl) (by kernel_rfl) (fun _ _ _ h=>h) rfl (fun _=>rfl) (fun _=>by go_simp) ?_;simp only[Act.put,Sz0,Sz1,Sz2];refine wpAnyIn_ready (rs:=[2,4]) (by kernel_rfl) (by simp) ?_;intro i hi;rcases List.mem_cons.1 hi with rfl|hi
   ·clear hi;refine U4 (v:=T #[O I c,O I s]) (H 18) rfl rfl rfl rfl (fun c h=>by cases h) (w':=(wr.alloc (.cells (j8 ((c,s),a) sa).toArray 52)).drew) (q9 _ _ rfl _ _ rfl _ _ (HAt.o (wr.alloc (.cells (j8 ((c,s),a) sa).toArray 52)).drew ((Kp.refl _ _).drew)) underlying32 rfl O0) ?_;simp only[Act.put,Sz0,Sz1,Sz2];refine wpAnyIn_ready (rs:=[4]) (by kernel_rfl) (by simp) ?_;intro i hi;obtain rfl:=List.mem_singleton.1 hi;clear hi;refine U4 (v:=T (a.cells sa).toArray) (H 20) rfl rfl rfl rfl (fun c h=>by cases h) (w':=(wr.alloc (.cells (j8 ((c,s),a) sa).toArray 52)).drew) (q9 _ _ rfl _ _ rfl _ _ (HCo.o _ ((Kp.refl _ _).drew)) underlying50 rfl D9) ?_;simp only[Act.put,Sz0,Sz1,Sz2];refine wpAnyIn_ready (rs:=[5]) (by kernel_rfl) (by simp) ?_;intro i hi;obtain rfl:=List.mem_singleton.1 hi
    clear hi;refine j2p (f:=47) (args:=#[T (a.cells sa).toArray]) (H 21) rfl rfl rfl (by decide) (fun c h=>by cases h) (w':=(wr.alloc (.cells (j8 ((c,s),a) sa).toArray 52)).drew) (by go_simp) ?_;refine(HCp.o _ ((Kp.refl _ _).drew)).mono ?_;rintro e w4 ⟨s4,rfl,⟨f4,ho4⟩,hk4⟩;refine⟨_,rfl,?_⟩;simp only[Act.put,Sz0,Sz1,Sz2];refine wpAnyIn_ready (rs:=[6]) (by kernel_rfl) (by simp) ?_;intro i hi;obtain rfl:=List.mem_singleton.1 hi;clear hi;have hK4:Kp wr w4 Nul:=((Kp.refl wr Nul).alloc _).drew.trans hk4;have hs5:(wr.alloc (.cells (j8 ((c,s),a) sa).toArray 52)).drew.heap.size=wr.heap.size+1:=World.size_alloc _ _;obtain⟨fn,tms,asg,bod,hy,hR⟩:=HY.o 7 q ((((c,s),a),s4),f4) Zq w4 hlt (HJ.o _ _ _ _ HJQ.o hK4) ⟨HKQ.o,ho4.own,ho4.nodup,fun i hi=>by
     have h1:=(ho4.new i hi).1;have h2:=HSZ.o;have h3:=HIN.o.size;exact⟨by omega,fun hz=>by have:=(HJZ.o _ _ _ HJQ.o).1 i hz;omega⟩⟩
    refine j2q (l:=w.heap.size+1) (f:=fn) (tms:=tms) (asg:=asg) (bod:=bod) (H 22) rfl rfl rfl (by decide) (fun c h=>by cases h) (w':=w4) ?_ ?_
    ·first
     | (go_simp;done)
     | (go_simp;exact hy)
    refine hR.mono ?_;rintro e w6 (⟨rfl,⟨Z6,hj6,hm6⟩,hk6⟩|⟨rfl,hx6⟩);rotate_left
    ·have HX6:=h_ hx6;refine⟨_,rfl,?_⟩;simp only[Act.put,Sz0,Sz1,Sz2];clear hy hR hx6 hk4 ho4 hK4 hs5;refine wpAnyIn_ready (rs:=[7]) (by kernel_rfl) (by simp) ?_;intro i hi;obtain rfl:=List.mem_singleton.1 hi;clear hi;refine U4 (v:=E J) (H 23) rfl rfl rfl rfl (fun c h=>by cases h) (w':=w6) (by go_simp) ?_;simp only[Act.put,Sz0,Sz1,Sz2];refine wpAnyIn_done (by kernel_rfl) ?_ _;refine NoPanic.normal ?_
     gi_wp2_with (fail)
     refine bodyPost_ret (j1T rfl _ _) rfl ?_;exact⟨⟨_,rfl⟩,.inr HX6.o⟩
    refine⟨_,rfl,?_⟩;simp only[Act.put,Sz0,Sz1,Sz2];have HJ6:=h_ hj6;have HIN6:Hid (InF W F b ys Z6 w6):=by
     have k6:=hK4.of_nul.trans hk6;have hbl:=HBL.o;have hb2:=HW2.o.low;have hb3:=HSZ.o;refine⟨fun hz=>?_,fun i y hy=>U6 (HIN.o.rng i y hy) k6 (fun e=>?_),fun y hy=>(HIN.o.tree y hy).kp k6 (fun i hi e=>?_),Nat.le_trans HIN.o.size k6.size⟩
     ·rcases hm6 b hz with h|h
      ·exact HIN.o.nz h
      ·have h1:=HBL.o;have h2:=hK4.size;omega
     ·rcases e with (e|e)|e
      ·exact HIN.o.nz e
      ·have:=(ho4.new _ e).1;omega
      ·omega
     ·have hi':=HA.o i hi;rcases e with (e|e)|e
      ·exact HS.o i ((HJZ.o _ _ _ HJQ.o).2 i (by omega) e) hi
      ·have:=(ho4.new _ e).1;have:=HIN.o.size;omega
      ·omega
    clear hy hR hj6 hm6 hk6 hk4 ho4 hK4 hs5;refine wpAnyIn_ready (rs:=[7]) (by kernel_rfl) (by simp) ?_;intro i hi;obtain rfl:=List.mem_singleton.1 hi;clear hi;refine U4 (v:=E R) (H 23) rfl rfl rfl rfl (fun c h=>by cases h) (w':=w6) (by go_simp) ?_;simp only[Act.put,Sz0,Sz1,Sz2];refine wpAnyIn_done (by kernel_rfl) ?_ _;refine NoPanic.normal ?_
    gi_wp2_with (fail)
    exact⟨⟨q+1,Z6,by omega,by go_num,HJ6.o,HIN6.o⟩,by simp only[RowKit.intOf];omega⟩
   ·obtain rfl:=List.mem_singleton.1 hi;clear hi;refine U4 (v:=T (a.cells sa).toArray) (H 20) rfl rfl rfl rfl (fun c h=>by cases h) (w':=(wr.alloc (.cells (j8 ((c,s),a) sa).toArray 52)).drew) (q9 _ _ rfl _ _ rfl _ _ (HCo.o _ ((Kp.refl _ _).drew)) underlying50 rfl D9) ?_;simp only[Act.put,Sz0,Sz1,Sz2];refine wpAnyIn_ready (rs:=[2,5]) (by kernel_rfl) (by simp) ?_;intro i hi;rcases List.mem_cons.1 hi with rfl|hi
    ·clear hi;refine U4 (v:=T #[O I c,O I s]) (H 18) rfl rfl rfl rfl (fun c h=>by cases h) (w':=(wr.alloc (.cells (j8 ((c,s),a) sa).toArray 52)).drew) (q9 _ _ rfl _ _ rfl _ _ (HAt.o (wr.alloc (.cells (j8 ((c,s),a) sa).toArray 52)).drew ((Kp.refl _ _).drew)) underlying32 rfl O0) ?_;simp only[Act.put,Sz0,Sz1,Sz2];refine wpAnyIn_ready (rs:=[5]) (by kernel_rfl) (by simp) ?_;intro i hi;obtain rfl:=List.mem_singleton.1 hi;clear hi;refine j2p (f:=47) (args:=#[T (a.cells sa).toArray]) (H 21) rfl rfl rfl (by decide) (fun c h=>by cases h) (w':=(wr.alloc (.cells (j8 ((c,s),a) sa).toArray 52)).drew) (by go_simp) ?_;refine(HCp.o _ ((Kp.refl _ _).drew)).mono ?_;rintro e w4 ⟨s4,rfl,⟨f4,ho4⟩,hk4⟩;refine⟨_,rfl,?_⟩;simp only[Act.put,Sz0,Sz1,Sz2];refine wpAnyIn_ready (rs:=[6]) (by kernel_rfl) (by simp) ?_
     intro i hi;obtain rfl:=List.mem_singleton.1 hi;clear hi;have hK4:Kp wr w4 Nul:=((Kp.refl wr Nul).alloc _).drew.trans hk4;have hs5:(wr.alloc (.cells (j8 ((c,s),a) sa).toArray 52)).drew.heap.size=wr.heap.size+1:=World.size_alloc _ _;obtain⟨fn,tms,asg,bod,hy,hR⟩:=HY.o 7 q ((((c,s),a),s4),f4) Zq w4 hlt (HJ.o _ _ _ _ HJQ.o hK4) ⟨HKQ.o,ho4.own,ho4.nodup,fun i hi=>by
      have h1:=(ho4.new i hi).1;have h2:=HSZ.o;have h3:=HIN.o.size;exact⟨by omega,fun hz=>by have:=(HJZ.o _ _ _ HJQ.o).1 i hz;omega⟩⟩
     refine j2q (l:=w.heap.size+1) (f:=fn) (tms:=tms) (asg:=asg) (bod:=bod) (H 22) rfl rfl rfl (by decide) (fun c h=>by cases h) (w':=w4) ?_ ?_
     ·first
      | (go_simp;done)
      | (go_simp;exact hy)
     refine hR.mono ?_;rintro e w6 (⟨rfl,⟨Z6,hj6,hm6⟩,hk6⟩|⟨rfl,hx6⟩);rotate_left
     ·have HX6:=h_ hx6;refine⟨_,rfl,?_⟩;simp only[Act.put,Sz0,Sz1,Sz2];clear hy hR hx6 hk4 ho4 hK4 hs5;refine wpAnyIn_ready (rs:=[7]) (by kernel_rfl) (by simp) ?_;intro i hi;obtain rfl:=List.mem_singleton.1 hi;clear hi;refine U4 (v:=E J) (H 23) rfl rfl rfl rfl (fun c h=>by cases h) (w':=w6) (by go_simp) ?_;simp only[Act.put,Sz0,Sz1,Sz2];refine wpAnyIn_done (by kernel_rfl) ?_ _;refine NoPanic.normal ?_
      gi_wp2_with (fail)
      refine bodyPost_ret (j1T rfl _ _) rfl ?_;exact⟨⟨_,rfl⟩,.inr HX6.o⟩
     refine⟨_,rfl,?_⟩;simp only[Act.put,Sz0,Sz1,Sz2];have HJ6:=h_ hj6;have HIN6:Hid (InF W F b ys Z6 w6):=by
      have k6:=hK4.of_nul.trans hk6;have hbl:=HBL.o;have hb2:=HW2.o.low;have hb3:=HSZ.o;refine⟨fun hz=>?_,fun i y hy=>U6 (HIN.o.rng i y hy) k6 (fun e=>?_),fun y hy=>(HIN.o.tree y hy).kp k6 (fun i hi e=>?_),Nat.le_trans HIN.o.size k6.size⟩
      ·rcases hm6 b hz with h|h
       ·exact HIN.o.nz h
       ·have h1:=HBL.o;have h2:=hK4.size;omega
      ·rcases e with (e|e)|e
       ·exact HIN.o.nz e
       ·have:=(ho4.new _ e).1;omega
       ·omega
      ·have hi':=HA.o i hi;rcases e with (e|e)|e
       ·exact HS.o i ((HJZ.o _ _ _ HJQ.o).2 i (by omega) e) hi
       ·have:=(ho4.new _ e).1;have:=HIN.o.size;omega
       ·omega
     clear hy hR hj6 hm6 hk6 hk4 ho4 hK4 hs5;refine wpAnyIn_ready (rs:=[7]) (by kernel_rfl) (by simp) ?_;intro i hi;obtain rfl:=List.mem_singleton.1 hi;clear hi;refine U4 (v:=E R) (H 23) rfl rfl rfl rfl (fun c h=>by cases h) (w':=w6) (by go_simp) ?_;simp only[Act.put,Sz0,Sz1,Sz2];refine wpAnyIn_done (by kernel_rfl) ?_ _;refine NoPanic.normal ?_
     gi_wp2_with (fail)
     exact⟨⟨q+1,Z6,by omega,by go_num,HJ6.o,HIN6.o⟩,by simp only[RowKit.intOf];omega⟩
    ·obtain rfl:=List.mem_singleton.1 hi;clear hi;refine j2p (f:=47) (args:=#[T (a.cells sa).toArray]) (H 21) rfl rfl rfl (by decide) (fun c h=>by cases h) (w':=(wr.alloc (.cells (j8 ((c,s),a) sa).toArray 52)).drew) (by go_simp) ?_;refine(HCp.o _ ((Kp.refl _ _).drew)).mono ?_;rintro e w4 ⟨s4,rfl,⟨f4,ho4⟩,hk4⟩;refine⟨_,rfl,?_⟩;simp only[Act.put,Sz0,Sz1,Sz2];refine wpAnyIn_ready (rs:=[2]) (by kernel_rfl) (by simp) ?_;intro i hi;obtain rfl:=List.mem_singleton.1 hi;clear hi;refine U4 (v:=T #[O I c,O I s]) (H 18) rfl rfl rfl rfl (fun c h=>by cases h) (w':=w4) (q9 _ _ rfl _ _ rfl _ _ (HAt.o w4 (((Kp.refl _ _).drew).trans hk4)) underlying32 rfl O0) ?_;simp only[Act.put,Sz0,Sz1,Sz2];refine wpAnyIn_ready (rs:=[6]) (by kernel_rfl) (by simp) ?_;intro i hi;obtain rfl:=List.mem_singleton.1 hi;clear hi;have hK4:Kp wr w4 Nul:=((Kp.refl wr Nul).alloc _).drew.trans hk4
     have hs5:(wr.alloc (.cells (j8 ((c,s),a) sa).toArray 52)).drew.heap.size=wr.heap.size+1:=World.size_alloc _ _;obtain⟨fn,tms,asg,bod,hy,hR⟩:=HY.o 7 q ((((c,s),a),s4),f4) Zq w4 hlt (HJ.o _ _ _ _ HJQ.o hK4) ⟨HKQ.o,ho4.own,ho4.nodup,fun i hi=>by
      have h1:=(ho4.new i hi).1;have h2:=HSZ.o;have h3:=HIN.o.size;exact⟨by omega,fun hz=>by have:=(HJZ.o _ _ _ HJQ.o).1 i hz;omega⟩⟩
     refine j2q (l:=w.heap.size+1) (f:=fn) (tms:=tms) (asg:=asg) (bod:=bod) (H 22) rfl rfl rfl (by decide) (fun c h=>by cases h) (w':=w4) ?_ ?_
     ·first
      | (go_simp;done)
      | (go_simp;exact hy)
     refine hR.mono ?_;rintro e w6 (⟨rfl,⟨Z6,hj6,hm6⟩,hk6⟩|⟨rfl,hx6⟩);rotate_left
     ·have HX6:=h_ hx6;refine⟨_,rfl,?_⟩;simp only[Act.put,Sz0,Sz1,Sz2];clear hy hR hx6 hk4 ho4 hK4 hs5;refine wpAnyIn_ready (rs:=[7]) (by kernel_rfl) (by simp) ?_;intro i hi;obtain rfl:=List.mem_singleton.1 hi;clear hi;refine U4 (v:=E J) (H 23) rfl rfl rfl rfl (fun c h=>by cases h) (w':=w6) (by go_simp) ?_;simp only[Act.put,Sz0,Sz1,Sz2];refine wpAnyIn_done (by kernel_rfl) ?_ _;refine NoPanic.normal ?_
      gi_wp2_with (fail)
      refine bodyPost_ret (j1T rfl _ _) rfl ?_;exact⟨⟨_,rfl⟩,.inr HX6.o⟩
     refine⟨_,rfl,?_⟩;simp only[Act.put,Sz0,Sz1,Sz2];have HJ6:=h_ hj6;have HIN6:Hid (InF W F b ys Z6 w6):=by
      have k6:=hK4.of_nul.trans hk6;have hbl:=HBL.o;have hb2:=HW2.o.low;have hb3:=HSZ.o;refine⟨fun hz=>?_,fun i y hy=>U6 (HIN.o.rng i y hy) k6 (fun e=>?_),fun y hy=>(HIN.o.tree y hy).kp k6 (fun i hi e=>?_),Nat.le_trans HIN.o.size k6.size⟩
      ·rcases hm6 b hz with h|h
       ·exact HIN.o.nz h
       ·have h1:=HBL.o;have h2:=hK4.size;omega
      ·rcases e with (e|e)|e
       ·exact HIN.o.nz e
       ·have:=(ho4.new _ e).1;omega
       ·omega
      ·have hi':=HA.o i hi;rcases e with (e|e)|e
       ·exact HS.o i ((HJZ.o _ _ _ HJQ.o).2 i (by omega) e) hi
       ·have:=(ho4.new _ e).1;have:=HIN.o.size;omega
       ·omega
     clear hy hR hj6 hm6 hk6 hk4 ho4 hK4 hs5;refine wpAnyIn_ready (rs:=[7]) (by kernel_rfl) (by simp) ?_;intro i hi;obtain rfl:=List.mem_singleton.1 hi;clear hi;refine U4 (v:=E R) (H 23) rfl rfl rfl rfl (fun c h=>by cases h) (w':=w6) (by go_simp) ?_;simp only[Act.put,Sz0,Sz1,Sz2];refine wpAnyIn_done (by kernel_rfl) ?_ _;refine NoPanic.normal ?_
     gi_wp2_with (fail)
     exact⟨⟨q+1,Z6,by omega,by go_num,HJ6.o,HIN6.o⟩,by simp only[RowKit.intOf];omega⟩
  ·have hqe:q=n:=(by omega);subst hqe;have hqn:¬((q:Int)<(q:Int)):=(by omega);have HJN:Hid (∃Z',ai q Z' wr):=⟨_,HJQ.o⟩
   gi_wp2_with (fail)
   go_end0
   exact⟨⟨_,rfl⟩,.inl (by rw[HN.o];exact HJN.o)⟩
end
section
open Go.RowKit Go.Maps
theorem jEu {L K M:List Cc}{k:Nat}{x:Cc}(hL:∀y∈L,y.1=x.1->y=x)(hK:K[k]? = H x)(hm:∀y,y∈M↔y∈L/\y∉K.take k)(y:Cc):y∈delL M x.1↔y∈L/\y∉K.take (k+1):=by
 rw[Y4,hm,List.take_add_one,hK];simp only[Option.toList_some,List.mem_append,List.mem_singleton,not_or,and_assoc,and_congr_right_iff];intro h1 _;exact⟨fun h e=>h (e ▸ rfl),fun h e=>h (hL y h1 e)⟩
theorem jEt {L K M:List Cc}(hm:∀y,y∈M↔y∈L/\y∉K.take K.length)(y:Cc):y∈M↔y∈L/\y∉K:=by
 rw[hm,List.take_length]
end
section
open Go.RowKit Go.Maps Go.Sort Go.Lib Go.Shelf
theorem j5a (g x0 x1 A:Nat)(L K:List Cc)(w:World)(S:Nat->Prop)(hg:GI 0 w g L)(hF:j6 w (fun b=>b<A) g L)(gL:∀x∈L,Gd x.2)(hv:∀x∈L,vC x.1.1 x.1.2=J)(lL:L.length<=4096)
 (hK:E9 (K.map (·.1))) (hKL:∀x,x∈K↔x∈L) (hA:A<=w.heap.size) (hS:∀i,S i->A<=i) (b0:Blk w x0 [an (H ⟨g,0,G⟩)] 24) (b1:Blk w x1 [O I 1,O I 1,O I 256,O I 4096] 34) :
 j0Y prog 97 #[an (H ⟨x0,0,G⟩),an (H ⟨x1,0,G⟩)] encQ wtQ (j0Z w K) K.length S w:=
 j3F g x0 x1 (fun b=>b<A) 1 1 256 4096 L L K (List.filter_eq_self.2 (fun x hx=>by
  have h:=(G6 _ _).1 (hv x hx);unfold inA;simp only[show vA 1 1 256 4096=J from rfl,Bool.true_and,Bool.and_eq_true,decide_eq_true_eq];omega)) w S hg hF gL hv lL hK hKL (fun i h=>Nat.lt_of_lt_of_le h hA) (fun i h q=>absurd (hS i h) (Nat.not_le_of_lt q)) b0 b1
end
end Go.Proofs.YtecjfnkakodebaaGreatDoor
