/-move.Fill, all of it. -/
import Derived.Test.YtecjfnkakodebaaGreatDoorRmMyf
open Go.Proofs.Tryz
open Go.Value renaming int->O,bool->E,slice->U,agg->T,pointer->an,float->ap,string->aq,tuple->au
open Go.IntKind renaming i64->I
open Bool renaming false->R,true->J
open Option renaming some->H,none->G
open Go.Ending renaming returned->Q
open Go.FloatKind renaming f64->ao
set_option maxHeartbeats 40000000
set_option maxRecDepth 100000
namespace Go.Proofs.YtecjfnkakodebaaGreatDoor
section
open Go.RowKit Go.Maps
attribute [local go_sem] Oper.semAt_some
structure FyI (w:World) (B x6 g2:Nat) (G0:Nat->Prop) (M0 Ys:List Cc) (k:Nat) (Z:Nat->Prop) (W:World) (M:List Cc):Prop where
 gi:j6 W (fun i=>Z i/\i≠x6/\i≠x6+1) g2 M
 ok:Ok17 M
 put:pts M0 (Ys.take k)=H M
 r6:Blk W x6 [an G] 24
 r7:Blk W (x6+1) [O I 0] 39
 kp:Kp w W G0
 zl:∀i,Z i->i<W.heap.size/\((i=x6∨i=x6+1)∨G0 i∨B+2<=i)
 z6:Z x6/\Z (x6+1)
 g0:∀i,G0 i->i<B/\x6+1<i
 hB:x6+1<B/\w.heap.size<=B
section
variable {w W W':World} {B x6 g2:Nat} {G0:Nat->Prop} {M0 Ys:List Cc} {k:Nat} {Z:Nat->Prop} {M:List Cc}
theorem FyI.far {S:Nat->Prop}(h:FyI w B x6 g2 G0 M0 Ys k Z W M)(g:Kp W W' S)(hZ:∀i,Z i->¬S i)(hb:∀i,i<B->S i->False):FyI w B x6 g2 G0 M0 Ys k Z W' M:=by
 have hB:=h.hB;exact⟨h.gi.far' g (fun i hi=>hZ i hi.1),h.ok,h.put,h.r6.kp g (fun e=>hb _ (by omega) e),h.r7.kp g (fun e=>hb _ (by omega) e),h.kp.trans' g (fun i hi e=>(hb i (by omega) e).elim),fun i hi=>⟨Nat.lt_of_lt_of_le (h.zl i hi).1 g.size,(h.zl i hi).2⟩,h.z6,h.g0,hB⟩
theorem FyI.sm (h:FyI w B x6 g2 G0 M0 Ys k Z W M){i:Nat}(hs:Sm W g2 i):Z i/\i≠x6/\i≠x6+1:=by
 obtain⟨hF,⟨hb',_⟩|⟨m,D,hb',hm',_⟩⟩:=h.gi
 ·rcases hs with rfl|⟨e,_⟩
  ·exact hF
  ·rw[hb'] at e;simp at e
 ·rcases hs with rfl|⟨e,_⟩
  ·exact hF
  ·rw[hb'] at e;have em:m=i:=(by simpa using e);rw[<- em];exact hm'
theorem FyI.sm' (h:FyI w B x6 g2 G0 M0 Ys k Z W M){i:Nat}(hs:Sm W g2 i):G0 i∨B+2<=i:=by
 obtain⟨h1,h2,h3⟩:=h.sm hs;rcases(h.zl i h1).2 with (q|q)|q|q
 ·exact absurd q h2
 ·exact absurd q h3
 ·exact .inl q
 ·exact .inr q
theorem FyI.o (h:FyI w B x6 g2 G0 M0 Ys k Z W M){i:Nat}(h0:¬G0 i)(hi:i<B+2):¬Sm W g2 i:=fun e=>by
 rcases h.sm' e with q|q
 ·exact h0 q
 ·omega
theorem FyI.step {y:Cc}{X:World}(h:FyI w B x6 g2 G0 M0 Ys k Z W M)(hy:Ys[k]? = H y)(hgd:Gd y.2)(hv:vC y.1.1 y.1.2=J)(hr:G9 M y.1=J)(hBV:B+2<=W.heap.size)
 (hg:j6 X (fun i=>(Z i/\i≠x6/\i≠x6+1)∨W.heap.size<=i) g2 (putL M y.1 y.2)) (km:Km g2 W X) :
 ∃Z',FyI w B x6 g2 G0 M0 Ys (k+1) Z' X (putL M y.1 y.2)/\∀i,Z' i->Z i∨W.heap.size<=i:=by
 have hB:=h.hB;have hkp:=km.kp;have hsz:=hkp.size;have h6:¬G0 x6:=fun e=>by have:=(h.g0 _ e).2;omega
 have h7:¬G0 (x6+1):=fun e=>by have:=(h.g0 _ e).2;omega
 refine⟨fun i=>(Z i∨W.heap.size<=i)/\i<X.heap.size,⟨?_,Ok17.put h.ok h.gi.once' hv hgd (O4.1 hr),j3c h.put hy hr,h.r6.kp hkp (h.o h6 (by omega)),h.r7.kp hkp (h.o h7 (by omega)),h.kp.trans' hkp (fun i hi e=>?_),fun i hi=>⟨hi.2,?_⟩,⟨⟨.inl h.z6.1,?_⟩,⟨.inl h.z6.2,?_⟩⟩,h.g0,hB⟩,fun i hi=>hi.1⟩
 ·refine hg.lows.mono (fun i hi=>?_);rcases hi.1 with q|q
  ·exact⟨⟨.inl q.1,hi.2⟩,q.2⟩
  ·exact⟨⟨.inr q,hi.2⟩,by omega,by omega⟩
 ·rcases h.sm' e with q|q
  ·exact q
  ·omega
 ·rcases hi.1 with q|q
  ·exact(h.zl i q).2
  ·exact .inr (.inr (by omega))
 ·exact Nat.lt_of_lt_of_le (h.zl _ h.z6.1).1 hsz
 ·exact Nat.lt_of_lt_of_le (h.zl _ h.z6.2).1 hsz
theorem FyI.fail {y:Cc}(h:FyI w B x6 g2 G0 M0 Ys k Z W M)(hy:Ys[k]? = H y)(hr:¬G9 M y.1=J):pts M0 Ys=G:=j3b h.put hy hr
end
structure FlB (w W:World) (x8 x9 g2:Nat) (ah:Nat->Prop) (L M0:List Cc) (b1 b2 b3 b4:Int) (u:Ct) (sl:Value) (fp:List Nat):Prop where
 gi:j6 W ah g2 M0
 g0:∀i,ah i->w.heap.size<=i/\i<W.heap.size/\i≠x8/\i≠x9/\i∉fp
 mem:∀y,y∈M0↔y∈L/\y∉inL b1 b2 b3 b4 L
 ok:Ok17 M0
 nd:D2 W sl u.t fp
 c8:Blk W x8 [an (H ⟨g2,0,G⟩)] 24
 c9:Blk W x9 (u.cells sl) 50
 kp:Kp w W Nul
structure FlA (w aj:World) (p6 p7 g2 a b:Nat) (L M0:List Cc) (b1 b2 b3 b4:Int) (u:Ct) (sl:Value) (fp:List Nat):Prop where
 gi:j6 aj (fun i=>a<=i/\i<b) g2 M0
 nd:D2 aj sl u.t fp
 c6:Blk aj p6 [an G] 24
 c7:Blk aj p7 [O I 0,O I 0,ap ao 0,aq ⟨#[]⟩,E R,O I 0,O I 0,O I 0,ap ao 0,aq ⟨#[]⟩,E R,O I 0,O I 0,O I 0,E R,E R,O I 0,O I 0,E R,E R,U G 0 0] 50
 mem:∀y,y∈M0↔y∈L/\y∉inL b1 b2 b3 b4 L
 ok:Ok17 M0
 kp:Kp w aj Nul
 sz:w.heap.size<=p6/\w.heap.size<=p7/\p7≠p6/\w.heap.size<=a/\b<=aj.heap.size/\(p6<a∨b<=p6)/\(p7<a∨b<=p7)
 fp:∀i∈fp,i≠p6/\i≠p7/\(i<a∨b<=i)
theorem FlA.k6 {w aj Y:World}{p6 p7 g2 a b:Nat}{L M0:List Cc}{b1 b2 b3 b4:Int}{u:Ct}{sl:Value}{fp:List Nat}(h:FlA w aj p6 p7 g2 a b L M0 b1 b2 b3 b4 u sl fp)(hY:Kp aj Y (fun i=>i=p6)):Kp w Y Nul/\Blk Y p7 [O I 0,O I 0,ap ao 0,aq ⟨#[]⟩,E R,O I 0,O I 0,O I 0,ap ao 0,aq ⟨#[]⟩,E R,O I 0,O I 0,O I 0,E R,E R,O I 0,O I 0,E R,E R,U G 0 0] 50:=
 ⟨h.kp.trans' hY (fun i hi e=>by have e':i=p6:=e;have:=h.sz.1;omega),h.c7.kp hY h.sz.2.2.1⟩
theorem FlA.fin {w aj Y Y2:World}{p6 p7 g2 a b:Nat}{L M0:List Cc}{b1 b2 b3 b4:Int}{u:Ct}{sl:Value}{fp:List Nat}(h:FlA w aj p6 p7 g2 a b L M0 b1 b2 b3 b4 u sl fp)(hY:Kp aj Y (fun i=>i=p6))(hY2:Kp Y Y2 (fun i=>i=p7))(h6:Blk Y p6 [an (H ⟨g2,0,G⟩)] 24)(h7:Blk Y2 p7 (u.cells sl) 50):
 Kp w Y2 Nul/\FlB w Y2 p6 p7 g2 (fun i=>a<=i/\i<b) L M0 b1 b2 b3 b4 u sl fp:=by
 obtain⟨z1,z2,z3,z4,z5,z6,z7⟩:=h.sz;have s1:=hY.size;have s2:=hY2.size;have k2:=(h.k6 hY).1.trans' hY2 (fun i hi e=>by have e':i=p7:=e;omega);refine⟨k2,(h.gi.far' hY (fun i hi e=>by have e':i=p6:=e;omega)).far' hY2 (fun i hi e=>by have e':i=p7:=e;omega),fun i hi=>⟨by omega,by omega,by omega,by omega,fun e=>by have:=(h.fp i e).2.2;omega⟩,h.mem,h.ok,?_,h6.kp hY2 (fun e=>z3 e.symm),h7,k2⟩;exact(h.nd.mono (fun i hi=>hY.block i (F4 (h.nd.node i hi)) (h.fp i hi).1)).mono (fun i hi=>hY2.block i (Nat.lt_of_lt_of_le (F4 (h.nd.node i hi)) s1) (h.fp i hi).2.1)
theorem jDu {ak af:World->Nat->Nat->Nat->List Cc->Value->List Nat->Prop}{ah:Prop}(h1:(∀aj p6 p7 g2 M0 sl fp,af aj p6 p7 g2 M0 sl fp->ak aj p6 p7 g2 M0 sl fp)->ah)(h2:∀aj p6 p7 g2 M0 sl fp,af aj p6 p7 g2 M0 sl fp->ak aj p6 p7 g2 M0 sl fp):ah:=h1 h2
def flY (f1 f2 A1 A2 A3 A4:Int) (u:Ct):List Cc:=(List.range (szN A1 A2 A3 A4)).map fun k=>(cK A1 A2 A3 k,hmC (shH ((cK A1 A2 A3 k).1-f1) ((cK A1 A2 A3 k).2-f2)) u)
theorem j5G {f1 f2 A1 A2 A3 A4:Int}{u:Ct}{k:Nat}{p:Int×Int}(h:k<szN A1 A2 A3 A4)(hp:p=cK A1 A2 A3 k):(flY f1 f2 A1 A2 A3 A4 u)[k]? = H (p,hmC (shH (p.1-f1) (p.2-f2)) u):=by
 subst hp;unfold flY;rw[List.getElem?_map,List.getElem?_range h];rfl
theorem j95 (a b c d:Int)(w:World):Calls prog 36 #[T #[O I a,O I b,O I c,O I d]] w fun e w'=>e=Q (.func (.func 69) #[] #[an (H ⟨w.heap.size,0,G⟩)])/\Blk w' w.heap.size [O I a,O I b,O I c,O I d] 34/\Kp w w' Nul:=by
 go_enter func36,ntmps36;go_wp2_with fail;go_ret;exact⟨rfl,Blk.new w _ _,(Kp.refl _ _).alloc _⟩
theorem jBc (g:Nat)(w:World):(binOp .eql 24 (an (H ⟨g,0,G⟩)) (an G)).run prog w=.ok (E R) w:=by
 simp[go_sem]
theorem j9q (g:Nat)(L Ys:List Cc)(u:Ct)(A1 A2 A3 A4 f1 f2:Int)(w:World)(_:vC f1 f2=J)(hvA:vA A1 A2 A3 A4=J)(hgd:u.k≠0->Gd u)(hY:Ys=if u.k=0 then [] else flY f1 f2 A1 A2 A3 A4 u)
 (HVA:Hid (∀w,Calls prog 58 #[T #[O I A1,O I A2,O I A3,O I A4]] w fun e w'=>e=Q (E J)/\Kp w w' Nul))
 (HVF:Hid (∀w,Calls prog 44 #[T #[O I f1,O I f2]] w fun e w'=>e=Q (E J)/\Kp w w' Nul))
 (HWo:Hid (∀wq,Kp w wq Nul->Calls prog 53 #[an (H ⟨g,0,G⟩),T #[O I A1,O I A2,O I A3,O I A4]] wq fun e w'=>∃g2 M,e=Q (an (H ⟨g2,0,G⟩))/\j6 w' (fun i=>wq.heap.size<=i) g2 M/\Ok17 M/\(∀y,y∈M↔y∈L/\y∉inL A1 A2 A3 A4 L)/\wq.heap.size<=g2/\Kp wq w' Nul))
 (HGt:Hid (∀wq,Kp w wq Nul->Calls prog 19 #[an (H ⟨g,0,G⟩),T #[O I f1,O I f2]] wq fun e w'=>∃sl fp,e=Q (u.val sl)/\Own w' wq.heap.size sl u.t fp/\Kp wq w' Nul))
 (HPcd:Hid (∀(ah F:Nat->Prop) (g2:Nat) (c s:Int) (sl:Value) (M:List Cc) (wq:World),Kp w wq Nul->j6 wq ah g2 M->(∀i,wq.heap.size<=i->ah i)->Ok17 M->Gd u->vC c s=J->NdIn wq F sl u.t->Calls prog 55 #[an (H ⟨g2,0,G⟩),T #[O I c,O I s],u.val sl,T #[O I f1,O I f2]] wq fun e w'=>∃er,e=Q (O I er)/\∃M',j6 w' ah g2 M'/\PcR M (c,s) (hmC (shH (c-f1) (s-f2)) u) er M'/\Km g2 wq w')) :
 Calls prog 22 #[an (H ⟨g,0,G⟩),T #[O I f1,O I f2],T #[O I A1,O I A2,O I A3,O I A4]] w fun e w'=>∃v M0,e=Q v/\CpV w w' L M0 Ys A1 A2 A3 A4 v:=by
 have HvA:=h_ hvA;have HGd:=h_ hgd;have HY:=h_ hY;have hng:=jBc g;obtain⟨W0,hW0⟩:=e_ ((((w.alloc (.cells #[O I f1,O I f2] 32)).alloc (.cells #[O I A1,O I A2,O I A3,O I A4] 34)).alloc (.cells #[an G] 24)).alloc (.cells #[O I 0] 39));have HW0:=h_ hW0;have k0:Hid (Kp w W0 Nul):=by show Kp _ _ _;rw[<- hW0];exact((((Kp.refl w Nul).alloc _).alloc _).alloc _).alloc _
 have HB4:Hid (∀X,Kp W0 X Nul->Blk X w.heap.size [O I f1,O I f2] 32):=fun X k=>by
  have:Blk W0 w.heap.size [O I f1,O I f2] 32:=by rw[<- hW0];exact(((Blk.new w [O I f1,O I f2] _).alloc _).alloc _).alloc _
  exact this.kp k (fun x=>x)
 have HB5:Hid (∀X,Kp W0 X Nul->Blk X (w.heap.size+1) [O I A1,O I A2,O I A3,O I A4] 34):=fun X k=>by
  have:Blk W0 (w.heap.size+1) [O I A1,O I A2,O I A3,O I A4] 34:=by rw[<- hW0];exact((blkS (by simp) [O I A1,O I A2,O I A3,O I A4] _).alloc _).alloc _
  exact this.kp k (fun x=>x)
 have HB6:Hid (∀X,Kp W0 X Nul->Blk X (w.heap.size+2) [an G] 24):=fun X k=>by
  have:Blk W0 (w.heap.size+2) [an G] 24:=by rw[<- hW0];exact(blkS (by simp) [an G] _).alloc _
  exact this.kp k (fun x=>x)
 have HB7:Hid (∀X,Kp W0 X Nul->Blk X (w.heap.size+2+1) [O I 0] 39):=fun X k=>by
  have:Blk W0 (w.heap.size+2+1) [O I 0] 39:=by rw[<- hW0];exact blkS (by simp) [O I 0] _
  exact this.kp k (fun x=>x)
 have S0:Hid (W0.heap.size=w.heap.size+4):=by show _=_;rw[<- hW0];simp
 clear hW0 hvA hgd hY;refine(callsIn_wide (n:=12)).1 ?_;refine callsIn_of_wp_marks func22 rfl trivial ?_ rfl;simp only[ntmps22,List.size_toArray,List.length_cons,List.length_nil,Nat.reduceAdd,Nat.reduceSub,Array.replicate_succ,Array.replicate_zero,List.push_toArray,List.append_toArray,List.nil_append,List.cons_append];refine wpIn_wide.2 ?_;go_wp2_with fail;rw[HW0.o];clear HW0;refine(HVA.o _).mono ?_;rintro e w1 ⟨rfl,hk1⟩;have c0:=(HB4.o w1 hk1).c_ 0 rfl;have c1:=(HB4.o w1 hk1).c_ 1 rfl;have K1:=h_ hk1;clear hk1 HVA;go_wp2_with fail;clear c0 c1;refine(HVF.o _).mono ?_;rintro e w2 ⟨rfl,hk2⟩;have K2:=h_ (K1.o.trans hk2);clear hk2 HVF K1 hng;go_upto_region 5 with fail;obtain⟨WB,hWB⟩:=e_ w2;subst hWB;have KWB:=h_ K2;have HWB:=h_ (k0.o.trans K2.o);clear K2;go_cut[8,9] from 24 to 29 (fun s t wz=>∃x8 x9 g2 ah M0 sl fp,s=an (H ⟨x8,0,G⟩)/\t=an (H ⟨x9,0,G⟩)/\FlB w2 wz x8 x9 g2 ah L M0 A1 A2 A3 A4 u sl fp)
 case first=>
  refine wp_region_noPanic ?_;refine I0 (fun w':World=>Kp w2 w' Nul) (by kernel_rfl) ((Kp.refl _ _).drew) (fun hHeld=>?_);refine tk 0 24 hHeld ?_ (v:=an (H ⟨g,0,G⟩));refine tk 1 25 hHeld ?_ (v:=T ([O I A1,O I A2,O I A3,O I A4]:List Value).toArray) (hy:=by exact fun w' hSw=>q9 34 (.tmp 5) rfl (w.heap.size+1) 0 rfl [O I A1,O I A2,O I A3,O I A4] _ (j5 (HB5.o w' (KWB.o.trans hSw))) underlying34 rfl D7);refine tk 3 27 hHeld ?_ (v:=an (H ⟨g,0,G⟩));refine tk 4 28 hHeld ?_ (v:=T ([O I f1,O I f2]:List Value).toArray) (hy:=by exact fun w' hSw=>q9 32 (.tmp 4) rfl w.heap.size 0 rfl [O I f1,O I f2] _ (j5 (HB4.o w' (KWB.o.trans hSw))) underlying32 rfl F5);have KU0:Kp w2 w2.drew Nul:=(Kp.refl _ _).drew;generalize w2.drew=z0 at KU0 ⊢
  have KU:=h_ KU0;clear KU0;apply jDu (af:=fun aj p6 p7 g2 M0 sl fp=>∃a b,FlA w2 aj p6 p7 g2 a b L M0 A1 A2 A3 A4 u sl fp)
  ·intro HT;refine wpAnyH_all (rs:=[2,6,7]) (by kernel_rfl) (by simp) (fun j hj=>?_);rcases List.mem_cons.1 hj with rfl|hj
   ·clear hj;refine I6 (i:=2) rfl rfl (fun K hK=>?_);go_simp;refine(HWo.o _ (HWB.o.trans KU.o)).mono ?_;rintro e z1 ⟨g2,M0,rfl,hgi,hok,hmem,_,hk2⟩;have HMem:=h_ hmem;have HOkM:=h_ hok;have F1_2:=h_ hgi.lows;have Z1:=h_ hk2.size;have K1:=h_ (KU.o.trans hk2);refine hK.o _ _ K1.o (fun hHeld=>?_);clear hK K hk2 hgi hok hmem
    (try simp only[Act.put,Sz0,Sz1,Sz2])
    refine wpAnyH_all (rs:=[5,6,7]) (by kernel_rfl) (by simp) (fun j hj=>?_);rcases List.mem_cons.1 hj with rfl|hj
    ·clear hj;refine I6 (i:=5) rfl rfl (fun K hK=>?_);go_simp;refine(HGt.o _ (HWB.o.trans K1.o)).mono ?_;rintro e z2 ⟨sl,fp,rfl,hown,hk2⟩;have HOo:=h_ hown;have F2_5:=h_ hown.own;have Z2:Hid (z1.heap.size<=z2.heap.size/\∀i∈fp,z1.heap.size<=i/\i<z2.heap.size):=⟨hk2.size,hown.new⟩;have K2:=h_ (K1.o.trans hk2);have F2_2:=h_ (F1_2.o.kp hk2);refine hK.o _ _ K2.o (fun hHeld=>?_);clear hK K hk2 hown
     (try simp only[Act.put,Sz0,Sz1,Sz2])
     refine wpAnyH_all (rs:=[6,7]) (by kernel_rfl) (by simp) (fun j hj=>?_);rcases List.mem_cons.1 hj with rfl|hj
     ·clear hj;refine I6 (i:=6) rfl rfl (fun K hK=>?_);go_simp;have hk2:Kp z2 (z2.alloc (.cells #[an G] 24)) Nul:=(Kp.refl z2 Nul).alloc _;have hb2:=Blk.new z2 [an G] 24;have hs2:(z2.alloc (.cells #[an G] 24)).heap.size=z2.heap.size+1:=World.size_alloc _ _;generalize z2.alloc (.cells #[an G] 24)=z3 at hk2 hb2 hs2 ⊢;generalize hp6:z2.heap.size=p6 at hb2 hs2 ⊢;have P6:=h_ hp6;have F3_6:=h_ hb2;have Z3:=h_ hs2;have K3:=h_ (K2.o.trans hk2);have F3_2:=h_ (F2_2.o.kp hk2);have F3_5:=h_ (F2_5.o.mono (fun i hi=>hk2.block i (F4 (F2_5.o.node i hi)) (fun x=>x)));refine hK.o _ _ K3.o (fun hHeld=>?_);clear hK K hk2 hb2 hs2 hp6
      (try simp only[Act.put,Sz0,Sz1,Sz2])
      refine D6 (i:=7) (by kernel_rfl) rfl rfl (fun K hK=>?_);go_simp;have hk2:Kp z3 (z3.alloc (.cells #[O I 0,O I 0,ap ao 0,aq ⟨#[]⟩,E R,O I 0,O I 0,O I 0,ap ao 0,aq ⟨#[]⟩,E R,O I 0,O I 0,O I 0,E R,E R,O I 0,O I 0,E R,E R,U G 0 0] 50)) Nul:=(Kp.refl z3 Nul).alloc _;have hb2:=Blk.new z3 [O I 0,O I 0,ap ao 0,aq ⟨#[]⟩,E R,O I 0,O I 0,O I 0,ap ao 0,aq ⟨#[]⟩,E R,O I 0,O I 0,O I 0,E R,E R,O I 0,O I 0,E R,E R,U G 0 0] 50;have hs2:(z3.alloc (.cells #[O I 0,O I 0,ap ao 0,aq ⟨#[]⟩,E R,O I 0,O I 0,O I 0,ap ao 0,aq ⟨#[]⟩,E R,O I 0,O I 0,O I 0,E R,E R,O I 0,O I 0,E R,E R,U G 0 0] 50)).heap.size=z3.heap.size+1:=World.size_alloc _ _
      generalize z3.alloc (.cells #[O I 0,O I 0,ap ao 0,aq ⟨#[]⟩,E R,O I 0,O I 0,O I 0,ap ao 0,aq ⟨#[]⟩,E R,O I 0,O I 0,O I 0,E R,E R,O I 0,O I 0,E R,E R,U G 0 0] 50)=z4 at hk2 hb2 hs2 ⊢;generalize hp7:z3.heap.size=p7 at hb2 hs2 ⊢;have P7:=h_ hp7;have F4_7:=h_ hb2;have Z4:=h_ hs2;have K4:=h_ (K3.o.trans hk2);have F4_2:=h_ (F3_2.o.kp hk2);have F4_5:=h_ (F3_5.o.mono (fun i hi=>hk2.block i (F4 (F3_5.o.node i hi)) (fun x=>x)));have F4_6:=h_ (F3_6.o.kp hk2 (fun x=>x));refine hK.o _ _ K4.o (fun hHeld=>?_);clear hK K hk2 hb2 hs2 hp7
      (try simp only[Act.put,Sz0,Sz1,Sz2])
      have HSZ:Hid (z0.heap.size<=z1.heap.size/\z1.heap.size<=z2.heap.size/\z3.heap.size=p6+1/\z2.heap.size=p6/\z4.heap.size=p7+1/\z3.heap.size=p7/\w2.heap.size<=z0.heap.size):=⟨Z1.o,Z2.o.1,Z3.o,P6.o,Z4.o,P7.o,KU.o.size⟩;have hsz:=HSZ.o;exact HT z4 p6 p7 g2 M0 sl fp ⟨_,_,F4_2.o,F4_5.o,F4_6.o,F4_7.o,HMem.o,HOkM.o,K4.o,by omega,fun i hi=>by have:=HOo.o.new i hi;omega⟩
     obtain rfl:=List.mem_singleton.1 hj;clear hj;refine I6 (i:=7) rfl rfl (fun K hK=>?_);go_simp;have hk2:Kp z2 (z2.alloc (.cells #[O I 0,O I 0,ap ao 0,aq ⟨#[]⟩,E R,O I 0,O I 0,O I 0,ap ao 0,aq ⟨#[]⟩,E R,O I 0,O I 0,O I 0,E R,E R,O I 0,O I 0,E R,E R,U G 0 0] 50)) Nul:=(Kp.refl z2 Nul).alloc _;have hb2:=Blk.new z2 [O I 0,O I 0,ap ao 0,aq ⟨#[]⟩,E R,O I 0,O I 0,O I 0,ap ao 0,aq ⟨#[]⟩,E R,O I 0,O I 0,O I 0,E R,E R,O I 0,O I 0,E R,E R,U G 0 0] 50;have hs2:(z2.alloc (.cells #[O I 0,O I 0,ap ao 0,aq ⟨#[]⟩,E R,O I 0,O I 0,O I 0,ap ao 0,aq ⟨#[]⟩,E R,O I 0,O I 0,O I 0,E R,E R,O I 0,O I 0,E R,E R,U G 0 0] 50)).heap.size=z2.heap.size+1:=World.size_alloc _ _
     generalize z2.alloc (.cells #[O I 0,O I 0,ap ao 0,aq ⟨#[]⟩,E R,O I 0,O I 0,O I 0,ap ao 0,aq ⟨#[]⟩,E R,O I 0,O I 0,O I 0,E R,E R,O I 0,O I 0,E R,E R,U G 0 0] 50)=z5 at hk2 hb2 hs2 ⊢;generalize hp7:z2.heap.size=p7 at hb2 hs2 ⊢;have P7:=h_ hp7;have F5_7:=h_ hb2;have Z5:=h_ hs2;have K5:=h_ (K2.o.trans hk2);have F5_2:=h_ (F2_2.o.kp hk2);have F5_5:=h_ (F2_5.o.mono (fun i hi=>hk2.block i (F4 (F2_5.o.node i hi)) (fun x=>x)));refine hK.o _ _ K5.o (fun hHeld=>?_);clear hK K hk2 hb2 hs2 hp7
     (try simp only[Act.put,Sz0,Sz1,Sz2])
     refine D6 (i:=6) (by kernel_rfl) rfl rfl (fun K hK=>?_);go_simp;have hk2:Kp z5 (z5.alloc (.cells #[an G] 24)) Nul:=(Kp.refl z5 Nul).alloc _;have hb2:=Blk.new z5 [an G] 24;have hs2:(z5.alloc (.cells #[an G] 24)).heap.size=z5.heap.size+1:=World.size_alloc _ _;generalize z5.alloc (.cells #[an G] 24)=z6 at hk2 hb2 hs2 ⊢;generalize hp6:z5.heap.size=p6 at hb2 hs2 ⊢;have P6:=h_ hp6;have F6_6:=h_ hb2;have Z6:=h_ hs2;have K6:=h_ (K5.o.trans hk2);have F6_2:=h_ (F5_2.o.kp hk2);have F6_5:=h_ (F5_5.o.mono (fun i hi=>hk2.block i (F4 (F5_5.o.node i hi)) (fun x=>x)));have F6_7:=h_ (F5_7.o.kp hk2 (fun x=>x));refine hK.o _ _ K6.o (fun hHeld=>?_);clear hK K hk2 hb2 hs2 hp6
     (try simp only[Act.put,Sz0,Sz1,Sz2])
     have HSZ:Hid (z0.heap.size<=z1.heap.size/\z1.heap.size<=z2.heap.size/\z5.heap.size=p7+1/\z2.heap.size=p7/\z6.heap.size=p6+1/\z5.heap.size=p6/\w2.heap.size<=z0.heap.size):=⟨Z1.o,Z2.o.1,Z5.o,P7.o,Z6.o,P6.o,KU.o.size⟩;have hsz:=HSZ.o;exact HT z6 p6 p7 g2 M0 sl fp ⟨_,_,F6_2.o,F6_5.o,F6_6.o,F6_7.o,HMem.o,HOkM.o,K6.o,by omega,fun i hi=>by have:=HOo.o.new i hi;omega⟩
    rcases List.mem_cons.1 hj with rfl|hj
    ·clear hj;refine I6 (i:=6) rfl rfl (fun K hK=>?_);go_simp;have hk2:Kp z1 (z1.alloc (.cells #[an G] 24)) Nul:=(Kp.refl z1 Nul).alloc _;have hb2:=Blk.new z1 [an G] 24;have hs2:(z1.alloc (.cells #[an G] 24)).heap.size=z1.heap.size+1:=World.size_alloc _ _;generalize z1.alloc (.cells #[an G] 24)=z7 at hk2 hb2 hs2 ⊢;generalize hp6:z1.heap.size=p6 at hb2 hs2 ⊢;have P6:=h_ hp6;have F7_6:=h_ hb2;have Z7:=h_ hs2;have K7:=h_ (K1.o.trans hk2);have F7_2:=h_ (F1_2.o.kp hk2);refine hK.o _ _ K7.o (fun hHeld=>?_);clear hK K hk2 hb2 hs2 hp6
     (try simp only[Act.put,Sz0,Sz1,Sz2])
     refine wpAnyH_all (rs:=[5,7]) (by kernel_rfl) (by simp) (fun j hj=>?_);rcases List.mem_cons.1 hj with rfl|hj
     ·clear hj;refine I6 (i:=5) rfl rfl (fun K hK=>?_);go_simp;refine(HGt.o _ (HWB.o.trans K7.o)).mono ?_;rintro e z8 ⟨sl,fp,rfl,hown,hk2⟩;have HOo:=h_ hown;have F8_5:=h_ hown.own;have Z8:Hid (z7.heap.size<=z8.heap.size/\∀i∈fp,z7.heap.size<=i/\i<z8.heap.size):=⟨hk2.size,hown.new⟩;have K8:=h_ (K7.o.trans hk2);have F8_2:=h_ (F7_2.o.kp hk2);have F8_6:=h_ (F7_6.o.kp hk2 (fun x=>x));refine hK.o _ _ K8.o (fun hHeld=>?_);clear hK K hk2 hown
      (try simp only[Act.put,Sz0,Sz1,Sz2])
      refine D6 (i:=7) (by kernel_rfl) rfl rfl (fun K hK=>?_);go_simp;have hk2:Kp z8 (z8.alloc (.cells #[O I 0,O I 0,ap ao 0,aq ⟨#[]⟩,E R,O I 0,O I 0,O I 0,ap ao 0,aq ⟨#[]⟩,E R,O I 0,O I 0,O I 0,E R,E R,O I 0,O I 0,E R,E R,U G 0 0] 50)) Nul:=(Kp.refl z8 Nul).alloc _;have hb2:=Blk.new z8 [O I 0,O I 0,ap ao 0,aq ⟨#[]⟩,E R,O I 0,O I 0,O I 0,ap ao 0,aq ⟨#[]⟩,E R,O I 0,O I 0,O I 0,E R,E R,O I 0,O I 0,E R,E R,U G 0 0] 50;have hs2:(z8.alloc (.cells #[O I 0,O I 0,ap ao 0,aq ⟨#[]⟩,E R,O I 0,O I 0,O I 0,ap ao 0,aq ⟨#[]⟩,E R,O I 0,O I 0,O I 0,E R,E R,O I 0,O I 0,E R,E R,U G 0 0] 50)).heap.size=z8.heap.size+1:=World.size_alloc _ _
      generalize z8.alloc (.cells #[O I 0,O I 0,ap ao 0,aq ⟨#[]⟩,E R,O I 0,O I 0,O I 0,ap ao 0,aq ⟨#[]⟩,E R,O I 0,O I 0,O I 0,E R,E R,O I 0,O I 0,E R,E R,U G 0 0] 50)=z9 at hk2 hb2 hs2 ⊢;generalize hp7:z8.heap.size=p7 at hb2 hs2 ⊢;have P7:=h_ hp7;have F9_7:=h_ hb2;have Z9:=h_ hs2;have K9:=h_ (K8.o.trans hk2);have F9_2:=h_ (F8_2.o.kp hk2);have F9_5:=h_ (F8_5.o.mono (fun i hi=>hk2.block i (F4 (F8_5.o.node i hi)) (fun x=>x)));have F9_6:=h_ (F8_6.o.kp hk2 (fun x=>x));refine hK.o _ _ K9.o (fun hHeld=>?_);clear hK K hk2 hb2 hs2 hp7
      (try simp only[Act.put,Sz0,Sz1,Sz2])
      have HSZ:Hid (z0.heap.size<=z1.heap.size/\z7.heap.size=p6+1/\z1.heap.size=p6/\z7.heap.size<=z8.heap.size/\z9.heap.size=p7+1/\z8.heap.size=p7/\w2.heap.size<=z0.heap.size):=⟨Z1.o,Z7.o,P6.o,Z8.o.1,Z9.o,P7.o,KU.o.size⟩;have hsz:=HSZ.o;exact HT z9 p6 p7 g2 M0 sl fp ⟨_,_,F9_2.o,F9_5.o,F9_6.o,F9_7.o,HMem.o,HOkM.o,K9.o,by omega,fun i hi=>by have:=HOo.o.new i hi;omega⟩
     obtain rfl:=List.mem_singleton.1 hj;clear hj;refine I6 (i:=7) rfl rfl (fun K hK=>?_);go_simp;have hk2:Kp z7 (z7.alloc (.cells #[O I 0,O I 0,ap ao 0,aq ⟨#[]⟩,E R,O I 0,O I 0,O I 0,ap ao 0,aq ⟨#[]⟩,E R,O I 0,O I 0,O I 0,E R,E R,O I 0,O I 0,E R,E R,U G 0 0] 50)) Nul:=(Kp.refl z7 Nul).alloc _;have hb2:=Blk.new z7 [O I 0,O I 0,ap ao 0,aq ⟨#[]⟩,E R,O I 0,O I 0,O I 0,ap ao 0,aq ⟨#[]⟩,E R,O I 0,O I 0,O I 0,E R,E R,O I 0,O I 0,E R,E R,U G 0 0] 50;have hs2:(z7.alloc (.cells #[O I 0,O I 0,ap ao 0,aq ⟨#[]⟩,E R,O I 0,O I 0,O I 0,ap ao 0,aq ⟨#[]⟩,E R,O I 0,O I 0,O I 0,E R,E R,O I 0,O I 0,E R,E R,U G 0 0] 50)).heap.size=z7.heap.size+1:=World.size_alloc _ _
     generalize z7.alloc (.cells #[O I 0,O I 0,ap ao 0,aq ⟨#[]⟩,E R,O I 0,O I 0,O I 0,ap ao 0,aq ⟨#[]⟩,E R,O I 0,O I 0,O I 0,E R,E R,O I 0,O I 0,E R,E R,U G 0 0] 50)=z10 at hk2 hb2 hs2 ⊢;generalize hp7:z7.heap.size=p7 at hb2 hs2 ⊢;have P7:=h_ hp7;have F10_7:=h_ hb2;have Z10:=h_ hs2;have K10:=h_ (K7.o.trans hk2);have F10_2:=h_ (F7_2.o.kp hk2);have F10_6:=h_ (F7_6.o.kp hk2 (fun x=>x));refine hK.o _ _ K10.o (fun hHeld=>?_);clear hK K hk2 hb2 hs2 hp7
     (try simp only[Act.put,Sz0,Sz1,Sz2])
     refine D6 (i:=5) (by kernel_rfl) rfl rfl (fun K hK=>?_);go_simp;refine(HGt.o _ (HWB.o.trans K10.o)).mono ?_;rintro e z11 ⟨sl,fp,rfl,hown,hk2⟩;have HOo:=h_ hown;have F11_5:=h_ hown.own;have Z11:Hid (z10.heap.size<=z11.heap.size/\∀i∈fp,z10.heap.size<=i/\i<z11.heap.size):=⟨hk2.size,hown.new⟩;have K11:=h_ (K10.o.trans hk2);have F11_2:=h_ (F10_2.o.kp hk2);have F11_6:=h_ (F10_6.o.kp hk2 (fun x=>x));have F11_7:=h_ (F10_7.o.kp hk2 (fun x=>x));refine hK.o _ _ K11.o (fun hHeld=>?_);clear hK K hk2 hown
     (try simp only[Act.put,Sz0,Sz1,Sz2])
     have HSZ:Hid (z0.heap.size<=z1.heap.size/\z7.heap.size=p6+1/\z1.heap.size=p6/\z10.heap.size=p7+1/\z7.heap.size=p7/\z10.heap.size<=z11.heap.size/\w2.heap.size<=z0.heap.size):=⟨Z1.o,Z7.o,P6.o,Z10.o,P7.o,Z11.o.1,KU.o.size⟩;have hsz:=HSZ.o;exact HT z11 p6 p7 g2 M0 sl fp ⟨_,_,F11_2.o,F11_5.o,F11_6.o,F11_7.o,HMem.o,HOkM.o,K11.o,by omega,fun i hi=>by have:=HOo.o.new i hi;omega⟩
    obtain rfl:=List.mem_singleton.1 hj;clear hj;refine I6 (i:=7) rfl rfl (fun K hK=>?_);go_simp;have hk2:Kp z1 (z1.alloc (.cells #[O I 0,O I 0,ap ao 0,aq ⟨#[]⟩,E R,O I 0,O I 0,O I 0,ap ao 0,aq ⟨#[]⟩,E R,O I 0,O I 0,O I 0,E R,E R,O I 0,O I 0,E R,E R,U G 0 0] 50)) Nul:=(Kp.refl z1 Nul).alloc _;have hb2:=Blk.new z1 [O I 0,O I 0,ap ao 0,aq ⟨#[]⟩,E R,O I 0,O I 0,O I 0,ap ao 0,aq ⟨#[]⟩,E R,O I 0,O I 0,O I 0,E R,E R,O I 0,O I 0,E R,E R,U G 0 0] 50;have hs2:(z1.alloc (.cells #[O I 0,O I 0,ap ao 0,aq ⟨#[]⟩,E R,O I 0,O I 0,O I 0,ap ao 0,aq ⟨#[]⟩,E R,O I 0,O I 0,O I 0,E R,E R,O I 0,O I 0,E R,E R,U G 0 0] 50)).heap.size=z1.heap.size+1:=World.size_alloc _ _
    generalize z1.alloc (.cells #[O I 0,O I 0,ap ao 0,aq ⟨#[]⟩,E R,O I 0,O I 0,O I 0,ap ao 0,aq ⟨#[]⟩,E R,O I 0,O I 0,O I 0,E R,E R,O I 0,O I 0,E R,E R,U G 0 0] 50)=z12 at hk2 hb2 hs2 ⊢;generalize hp7:z1.heap.size=p7 at hb2 hs2 ⊢;have P7:=h_ hp7;have F12_7:=h_ hb2;have Z12:=h_ hs2;have K12:=h_ (K1.o.trans hk2);have F12_2:=h_ (F1_2.o.kp hk2);refine hK.o _ _ K12.o (fun hHeld=>?_);clear hK K hk2 hb2 hs2 hp7
    (try simp only[Act.put,Sz0,Sz1,Sz2])
    refine wpAnyH_all (rs:=[5,6]) (by kernel_rfl) (by simp) (fun j hj=>?_);rcases List.mem_cons.1 hj with rfl|hj
    ·clear hj;refine I6 (i:=5) rfl rfl (fun K hK=>?_);go_simp;refine(HGt.o _ (HWB.o.trans K12.o)).mono ?_;rintro e z13 ⟨sl,fp,rfl,hown,hk2⟩;have HOo:=h_ hown;have F13_5:=h_ hown.own;have Z13:Hid (z12.heap.size<=z13.heap.size/\∀i∈fp,z12.heap.size<=i/\i<z13.heap.size):=⟨hk2.size,hown.new⟩;have K13:=h_ (K12.o.trans hk2);have F13_2:=h_ (F12_2.o.kp hk2);have F13_7:=h_ (F12_7.o.kp hk2 (fun x=>x));refine hK.o _ _ K13.o (fun hHeld=>?_);clear hK K hk2 hown
     (try simp only[Act.put,Sz0,Sz1,Sz2])
     refine D6 (i:=6) (by kernel_rfl) rfl rfl (fun K hK=>?_);go_simp;have hk2:Kp z13 (z13.alloc (.cells #[an G] 24)) Nul:=(Kp.refl z13 Nul).alloc _;have hb2:=Blk.new z13 [an G] 24;have hs2:(z13.alloc (.cells #[an G] 24)).heap.size=z13.heap.size+1:=World.size_alloc _ _;generalize z13.alloc (.cells #[an G] 24)=z14 at hk2 hb2 hs2 ⊢;generalize hp6:z13.heap.size=p6 at hb2 hs2 ⊢;have P6:=h_ hp6;have F14_6:=h_ hb2;have Z14:=h_ hs2;have K14:=h_ (K13.o.trans hk2);have F14_2:=h_ (F13_2.o.kp hk2);have F14_5:=h_ (F13_5.o.mono (fun i hi=>hk2.block i (F4 (F13_5.o.node i hi)) (fun x=>x)));have F14_7:=h_ (F13_7.o.kp hk2 (fun x=>x));refine hK.o _ _ K14.o (fun hHeld=>?_);clear hK K hk2 hb2 hs2 hp6
     (try simp only[Act.put,Sz0,Sz1,Sz2])
     have HSZ:Hid (z0.heap.size<=z1.heap.size/\z12.heap.size=p7+1/\z1.heap.size=p7/\z12.heap.size<=z13.heap.size/\z14.heap.size=p6+1/\z13.heap.size=p6/\w2.heap.size<=z0.heap.size):=⟨Z1.o,Z12.o,P7.o,Z13.o.1,Z14.o,P6.o,KU.o.size⟩;have hsz:=HSZ.o;exact HT z14 p6 p7 g2 M0 sl fp ⟨_,_,F14_2.o,F14_5.o,F14_6.o,F14_7.o,HMem.o,HOkM.o,K14.o,by omega,fun i hi=>by have:=HOo.o.new i hi;omega⟩
    obtain rfl:=List.mem_singleton.1 hj;clear hj;refine I6 (i:=6) rfl rfl (fun K hK=>?_);go_simp;have hk2:Kp z12 (z12.alloc (.cells #[an G] 24)) Nul:=(Kp.refl z12 Nul).alloc _;have hb2:=Blk.new z12 [an G] 24;have hs2:(z12.alloc (.cells #[an G] 24)).heap.size=z12.heap.size+1:=World.size_alloc _ _;generalize z12.alloc (.cells #[an G] 24)=z15 at hk2 hb2 hs2 ⊢;generalize hp6:z12.heap.size=p6 at hb2 hs2 ⊢;have P6:=h_ hp6;have F15_6:=h_ hb2;have Z15:=h_ hs2;have K15:=h_ (K12.o.trans hk2);have F15_2:=h_ (F12_2.o.kp hk2);have F15_7:=h_ (F12_7.o.kp hk2 (fun x=>x));refine hK.o _ _ K15.o (fun hHeld=>?_);clear hK K hk2 hb2 hs2 hp6
    (try simp only[Act.put,Sz0,Sz1,Sz2])
    refine D6 (i:=5) (by kernel_rfl) rfl rfl (fun K hK=>?_);go_simp;refine(HGt.o _ (HWB.o.trans K15.o)).mono ?_;rintro e z16 ⟨sl,fp,rfl,hown,hk2⟩;have HOo:=h_ hown;have F16_5:=h_ hown.own;have Z16:Hid (z15.heap.size<=z16.heap.size/\∀i∈fp,z15.heap.size<=i/\i<z16.heap.size):=⟨hk2.size,hown.new⟩;have K16:=h_ (K15.o.trans hk2);have F16_2:=h_ (F15_2.o.kp hk2);have F16_6:=h_ (F15_6.o.kp hk2 (fun x=>x));have F16_7:=h_ (F15_7.o.kp hk2 (fun x=>x));refine hK.o _ _ K16.o (fun hHeld=>?_);clear hK K hk2 hown
    (try simp only[Act.put,Sz0,Sz1,Sz2])
    have HSZ:Hid (z0.heap.size<=z1.heap.size/\z12.heap.size=p7+1/\z1.heap.size=p7/\z15.heap.size=p6+1/\z12.heap.size=p6/\z15.heap.size<=z16.heap.size/\w2.heap.size<=z0.heap.size):=⟨Z1.o,Z12.o,P7.o,Z15.o,P6.o,Z16.o.1,KU.o.size⟩;have hsz:=HSZ.o;exact HT z16 p6 p7 g2 M0 sl fp ⟨_,_,F16_2.o,F16_5.o,F16_6.o,F16_7.o,HMem.o,HOkM.o,K16.o,by omega,fun i hi=>by have:=HOo.o.new i hi;omega⟩
   rcases List.mem_cons.1 hj with rfl|hj
   ·clear hj;refine I6 (i:=6) rfl rfl (fun K hK=>?_);go_simp;have hk2:Kp z0 (z0.alloc (.cells #[an G] 24)) Nul:=(Kp.refl z0 Nul).alloc _;have hb2:=Blk.new z0 [an G] 24;have hs2:(z0.alloc (.cells #[an G] 24)).heap.size=z0.heap.size+1:=World.size_alloc _ _;generalize z0.alloc (.cells #[an G] 24)=z17 at hk2 hb2 hs2 ⊢;generalize hp6:z0.heap.size=p6 at hb2 hs2 ⊢;have P6:=h_ hp6;have F17_6:=h_ hb2;have Z17:=h_ hs2;have K17:=h_ (KU.o.trans hk2);refine hK.o _ _ K17.o (fun hHeld=>?_);clear hK K hk2 hb2 hs2 hp6
    (try simp only[Act.put,Sz0,Sz1,Sz2])
    refine wpAnyH_all (rs:=[2,7]) (by kernel_rfl) (by simp) (fun j hj=>?_);rcases List.mem_cons.1 hj with rfl|hj
    ·clear hj;refine I6 (i:=2) rfl rfl (fun K hK=>?_);go_simp;refine(HWo.o _ (HWB.o.trans K17.o)).mono ?_;rintro e z18 ⟨g2,M0,rfl,hgi,hok,hmem,_,hk2⟩;have HMem:=h_ hmem;have HOkM:=h_ hok;have F18_2:=h_ hgi.lows;have Z18:=h_ hk2.size;have K18:=h_ (K17.o.trans hk2);have F18_6:=h_ (F17_6.o.kp hk2 (fun x=>x));refine hK.o _ _ K18.o (fun hHeld=>?_);clear hK K hk2 hgi hok hmem
     (try simp only[Act.put,Sz0,Sz1,Sz2])
     refine wpAnyH_all (rs:=[5,7]) (by kernel_rfl) (by simp) (fun j hj=>?_);rcases List.mem_cons.1 hj with rfl|hj
     ·clear hj;refine I6 (i:=5) rfl rfl (fun K hK=>?_);go_simp;refine(HGt.o _ (HWB.o.trans K18.o)).mono ?_;rintro e z19 ⟨sl,fp,rfl,hown,hk2⟩;have HOo:=h_ hown;have F19_5:=h_ hown.own;have Z19:Hid (z18.heap.size<=z19.heap.size/\∀i∈fp,z18.heap.size<=i/\i<z19.heap.size):=⟨hk2.size,hown.new⟩;have K19:=h_ (K18.o.trans hk2);have F19_2:=h_ (F18_2.o.kp hk2);have F19_6:=h_ (F18_6.o.kp hk2 (fun x=>x));refine hK.o _ _ K19.o (fun hHeld=>?_);clear hK K hk2 hown
      (try simp only[Act.put,Sz0,Sz1,Sz2])
      refine D6 (i:=7) (by kernel_rfl) rfl rfl (fun K hK=>?_);go_simp;have hk2:Kp z19 (z19.alloc (.cells #[O I 0,O I 0,ap ao 0,aq ⟨#[]⟩,E R,O I 0,O I 0,O I 0,ap ao 0,aq ⟨#[]⟩,E R,O I 0,O I 0,O I 0,E R,E R,O I 0,O I 0,E R,E R,U G 0 0] 50)) Nul:=(Kp.refl z19 Nul).alloc _;have hb2:=Blk.new z19 [O I 0,O I 0,ap ao 0,aq ⟨#[]⟩,E R,O I 0,O I 0,O I 0,ap ao 0,aq ⟨#[]⟩,E R,O I 0,O I 0,O I 0,E R,E R,O I 0,O I 0,E R,E R,U G 0 0] 50;have hs2:(z19.alloc (.cells #[O I 0,O I 0,ap ao 0,aq ⟨#[]⟩,E R,O I 0,O I 0,O I 0,ap ao 0,aq ⟨#[]⟩,E R,O I 0,O I 0,O I 0,E R,E R,O I 0,O I 0,E R,E R,U G 0 0] 50)).heap.size=z19.heap.size+1:=World.size_alloc _ _
      generalize z19.alloc (.cells #[O I 0,O I 0,ap ao 0,aq ⟨#[]⟩,E R,O I 0,O I 0,O I 0,ap ao 0,aq ⟨#[]⟩,E R,O I 0,O I 0,O I 0,E R,E R,O I 0,O I 0,E R,E R,U G 0 0] 50)=z20 at hk2 hb2 hs2 ⊢;generalize hp7:z19.heap.size=p7 at hb2 hs2 ⊢;have P7:=h_ hp7;have F20_7:=h_ hb2;have Z20:=h_ hs2;have K20:=h_ (K19.o.trans hk2);have F20_2:=h_ (F19_2.o.kp hk2);have F20_5:=h_ (F19_5.o.mono (fun i hi=>hk2.block i (F4 (F19_5.o.node i hi)) (fun x=>x)));have F20_6:=h_ (F19_6.o.kp hk2 (fun x=>x));refine hK.o _ _ K20.o (fun hHeld=>?_);clear hK K hk2 hb2 hs2 hp7
      (try simp only[Act.put,Sz0,Sz1,Sz2])
      have HSZ:Hid (z17.heap.size=p6+1/\z0.heap.size=p6/\z17.heap.size<=z18.heap.size/\z18.heap.size<=z19.heap.size/\z20.heap.size=p7+1/\z19.heap.size=p7/\w2.heap.size<=z0.heap.size):=⟨Z17.o,P6.o,Z18.o,Z19.o.1,Z20.o,P7.o,KU.o.size⟩;have hsz:=HSZ.o;exact HT z20 p6 p7 g2 M0 sl fp ⟨_,_,F20_2.o,F20_5.o,F20_6.o,F20_7.o,HMem.o,HOkM.o,K20.o,by omega,fun i hi=>by have:=HOo.o.new i hi;omega⟩
     obtain rfl:=List.mem_singleton.1 hj;clear hj;refine I6 (i:=7) rfl rfl (fun K hK=>?_);go_simp;have hk2:Kp z18 (z18.alloc (.cells #[O I 0,O I 0,ap ao 0,aq ⟨#[]⟩,E R,O I 0,O I 0,O I 0,ap ao 0,aq ⟨#[]⟩,E R,O I 0,O I 0,O I 0,E R,E R,O I 0,O I 0,E R,E R,U G 0 0] 50)) Nul:=(Kp.refl z18 Nul).alloc _;have hb2:=Blk.new z18 [O I 0,O I 0,ap ao 0,aq ⟨#[]⟩,E R,O I 0,O I 0,O I 0,ap ao 0,aq ⟨#[]⟩,E R,O I 0,O I 0,O I 0,E R,E R,O I 0,O I 0,E R,E R,U G 0 0] 50;have hs2:(z18.alloc (.cells #[O I 0,O I 0,ap ao 0,aq ⟨#[]⟩,E R,O I 0,O I 0,O I 0,ap ao 0,aq ⟨#[]⟩,E R,O I 0,O I 0,O I 0,E R,E R,O I 0,O I 0,E R,E R,U G 0 0] 50)).heap.size=z18.heap.size+1:=World.size_alloc _ _
     generalize z18.alloc (.cells #[O I 0,O I 0,ap ao 0,aq ⟨#[]⟩,E R,O I 0,O I 0,O I 0,ap ao 0,aq ⟨#[]⟩,E R,O I 0,O I 0,O I 0,E R,E R,O I 0,O I 0,E R,E R,U G 0 0] 50)=z21 at hk2 hb2 hs2 ⊢;generalize hp7:z18.heap.size=p7 at hb2 hs2 ⊢;have P7:=h_ hp7;have F21_7:=h_ hb2;have Z21:=h_ hs2;have K21:=h_ (K18.o.trans hk2);have F21_2:=h_ (F18_2.o.kp hk2);have F21_6:=h_ (F18_6.o.kp hk2 (fun x=>x));refine hK.o _ _ K21.o (fun hHeld=>?_);clear hK K hk2 hb2 hs2 hp7
     (try simp only[Act.put,Sz0,Sz1,Sz2])
     refine D6 (i:=5) (by kernel_rfl) rfl rfl (fun K hK=>?_);go_simp;refine(HGt.o _ (HWB.o.trans K21.o)).mono ?_;rintro e z22 ⟨sl,fp,rfl,hown,hk2⟩;have HOo:=h_ hown;have F22_5:=h_ hown.own;have Z22:Hid (z21.heap.size<=z22.heap.size/\∀i∈fp,z21.heap.size<=i/\i<z22.heap.size):=⟨hk2.size,hown.new⟩;have K22:=h_ (K21.o.trans hk2);have F22_2:=h_ (F21_2.o.kp hk2);have F22_6:=h_ (F21_6.o.kp hk2 (fun x=>x));have F22_7:=h_ (F21_7.o.kp hk2 (fun x=>x));refine hK.o _ _ K22.o (fun hHeld=>?_);clear hK K hk2 hown
     (try simp only[Act.put,Sz0,Sz1,Sz2])
     have HSZ:Hid (z17.heap.size=p6+1/\z0.heap.size=p6/\z17.heap.size<=z18.heap.size/\z21.heap.size=p7+1/\z18.heap.size=p7/\z21.heap.size<=z22.heap.size/\w2.heap.size<=z0.heap.size):=⟨Z17.o,P6.o,Z18.o,Z21.o,P7.o,Z22.o.1,KU.o.size⟩;have hsz:=HSZ.o;exact HT z22 p6 p7 g2 M0 sl fp ⟨_,_,F22_2.o,F22_5.o,F22_6.o,F22_7.o,HMem.o,HOkM.o,K22.o,by omega,fun i hi=>by have:=HOo.o.new i hi;omega⟩
    obtain rfl:=List.mem_singleton.1 hj;clear hj;refine I6 (i:=7) rfl rfl (fun K hK=>?_);go_simp;have hk2:Kp z17 (z17.alloc (.cells #[O I 0,O I 0,ap ao 0,aq ⟨#[]⟩,E R,O I 0,O I 0,O I 0,ap ao 0,aq ⟨#[]⟩,E R,O I 0,O I 0,O I 0,E R,E R,O I 0,O I 0,E R,E R,U G 0 0] 50)) Nul:=(Kp.refl z17 Nul).alloc _;have hb2:=Blk.new z17 [O I 0,O I 0,ap ao 0,aq ⟨#[]⟩,E R,O I 0,O I 0,O I 0,ap ao 0,aq ⟨#[]⟩,E R,O I 0,O I 0,O I 0,E R,E R,O I 0,O I 0,E R,E R,U G 0 0] 50;have hs2:(z17.alloc (.cells #[O I 0,O I 0,ap ao 0,aq ⟨#[]⟩,E R,O I 0,O I 0,O I 0,ap ao 0,aq ⟨#[]⟩,E R,O I 0,O I 0,O I 0,E R,E R,O I 0,O I 0,E R,E R,U G 0 0] 50)).heap.size=z17.heap.size+1:=World.size_alloc _ _
    generalize z17.alloc (.cells #[O I 0,O I 0,ap ao 0,aq ⟨#[]⟩,E R,O I 0,O I 0,O I 0,ap ao 0,aq ⟨#[]⟩,E R,O I 0,O I 0,O I 0,E R,E R,O I 0,O I 0,E R,E R,U G 0 0] 50)=z23 at hk2 hb2 hs2 ⊢;generalize hp7:z17.heap.size=p7 at hb2 hs2 ⊢;have P7:=h_ hp7;have F23_7:=h_ hb2;have Z23:=h_ hs2;have K23:=h_ (K17.o.trans hk2);have F23_6:=h_ (F17_6.o.kp hk2 (fun x=>x));refine hK.o _ _ K23.o (fun hHeld=>?_);clear hK K hk2 hb2 hs2 hp7
    (try simp only[Act.put,Sz0,Sz1,Sz2])
    refine D6 (i:=2) (by kernel_rfl) rfl rfl (fun K hK=>?_);go_simp;refine(HWo.o _ (HWB.o.trans K23.o)).mono ?_;rintro e z24 ⟨g2,M0,rfl,hgi,hok,hmem,_,hk2⟩;have HMem:=h_ hmem;have HOkM:=h_ hok;have F24_2:=h_ hgi.lows;have Z24:=h_ hk2.size;have K24:=h_ (K23.o.trans hk2);have F24_6:=h_ (F23_6.o.kp hk2 (fun x=>x));have F24_7:=h_ (F23_7.o.kp hk2 (fun x=>x));refine hK.o _ _ K24.o (fun hHeld=>?_);clear hK K hk2 hgi hok hmem
    (try simp only[Act.put,Sz0,Sz1,Sz2])
    refine D6 (i:=5) (by kernel_rfl) rfl rfl (fun K hK=>?_);go_simp;refine(HGt.o _ (HWB.o.trans K24.o)).mono ?_;rintro e z25 ⟨sl,fp,rfl,hown,hk2⟩;have HOo:=h_ hown;have F25_5:=h_ hown.own;have Z25:Hid (z24.heap.size<=z25.heap.size/\∀i∈fp,z24.heap.size<=i/\i<z25.heap.size):=⟨hk2.size,hown.new⟩;have K25:=h_ (K24.o.trans hk2);have F25_2:=h_ (F24_2.o.kp hk2);have F25_6:=h_ (F24_6.o.kp hk2 (fun x=>x));have F25_7:=h_ (F24_7.o.kp hk2 (fun x=>x));refine hK.o _ _ K25.o (fun hHeld=>?_);clear hK K hk2 hown
    (try simp only[Act.put,Sz0,Sz1,Sz2])
    have HSZ:Hid (z17.heap.size=p6+1/\z0.heap.size=p6/\z23.heap.size=p7+1/\z17.heap.size=p7/\z23.heap.size<=z24.heap.size/\z24.heap.size<=z25.heap.size/\w2.heap.size<=z0.heap.size):=⟨Z17.o,P6.o,Z23.o,P7.o,Z24.o,Z25.o.1,KU.o.size⟩;have hsz:=HSZ.o;exact HT z25 p6 p7 g2 M0 sl fp ⟨_,_,F25_2.o,F25_5.o,F25_6.o,F25_7.o,HMem.o,HOkM.o,K25.o,by omega,fun i hi=>by have:=HOo.o.new i hi;omega⟩
   obtain rfl:=List.mem_singleton.1 hj;clear hj;refine I6 (i:=7) rfl rfl (fun K hK=>?_);go_simp;have hk2:Kp z0 (z0.alloc (.cells #[O I 0,O I 0,ap ao 0,aq ⟨#[]⟩,E R,O I 0,O I 0,O I 0,ap ao 0,aq ⟨#[]⟩,E R,O I 0,O I 0,O I 0,E R,E R,O I 0,O I 0,E R,E R,U G 0 0] 50)) Nul:=(Kp.refl z0 Nul).alloc _;have hb2:=Blk.new z0 [O I 0,O I 0,ap ao 0,aq ⟨#[]⟩,E R,O I 0,O I 0,O I 0,ap ao 0,aq ⟨#[]⟩,E R,O I 0,O I 0,O I 0,E R,E R,O I 0,O I 0,E R,E R,U G 0 0] 50;have hs2:(z0.alloc (.cells #[O I 0,O I 0,ap ao 0,aq ⟨#[]⟩,E R,O I 0,O I 0,O I 0,ap ao 0,aq ⟨#[]⟩,E R,O I 0,O I 0,O I 0,E R,E R,O I 0,O I 0,E R,E R,U G 0 0] 50)).heap.size=z0.heap.size+1:=World.size_alloc _ _
   generalize z0.alloc (.cells #[O I 0,O I 0,ap ao 0,aq ⟨#[]⟩,E R,O I 0,O I 0,O I 0,ap ao 0,aq ⟨#[]⟩,E R,O I 0,O I 0,O I 0,E R,E R,O I 0,O I 0,E R,E R,U G 0 0] 50)=z26 at hk2 hb2 hs2 ⊢;generalize hp7:z0.heap.size=p7 at hb2 hs2 ⊢;have P7:=h_ hp7;have F26_7:=h_ hb2;have Z26:=h_ hs2;have K26:=h_ (KU.o.trans hk2);refine hK.o _ _ K26.o (fun hHeld=>?_);clear hK K hk2 hb2 hs2 hp7
   (try simp only[Act.put,Sz0,Sz1,Sz2])
   refine wpAnyH_all (rs:=[2,6]) (by kernel_rfl) (by simp) (fun j hj=>?_);rcases List.mem_cons.1 hj with rfl|hj
   ·clear hj;refine I6 (i:=2) rfl rfl (fun K hK=>?_);go_simp;refine(HWo.o _ (HWB.o.trans K26.o)).mono ?_;rintro e z27 ⟨g2,M0,rfl,hgi,hok,hmem,_,hk2⟩;have HMem:=h_ hmem;have HOkM:=h_ hok;have F27_2:=h_ hgi.lows;have Z27:=h_ hk2.size;have K27:=h_ (K26.o.trans hk2);have F27_7:=h_ (F26_7.o.kp hk2 (fun x=>x));refine hK.o _ _ K27.o (fun hHeld=>?_);clear hK K hk2 hgi hok hmem
    (try simp only[Act.put,Sz0,Sz1,Sz2])
    refine wpAnyH_all (rs:=[5,6]) (by kernel_rfl) (by simp) (fun j hj=>?_);rcases List.mem_cons.1 hj with rfl|hj
    ·clear hj;refine I6 (i:=5) rfl rfl (fun K hK=>?_);go_simp;refine(HGt.o _ (HWB.o.trans K27.o)).mono ?_;rintro e z28 ⟨sl,fp,rfl,hown,hk2⟩;have HOo:=h_ hown;have F28_5:=h_ hown.own;have Z28:Hid (z27.heap.size<=z28.heap.size/\∀i∈fp,z27.heap.size<=i/\i<z28.heap.size):=⟨hk2.size,hown.new⟩;have K28:=h_ (K27.o.trans hk2);have F28_2:=h_ (F27_2.o.kp hk2);have F28_7:=h_ (F27_7.o.kp hk2 (fun x=>x));refine hK.o _ _ K28.o (fun hHeld=>?_);clear hK K hk2 hown
     (try simp only[Act.put,Sz0,Sz1,Sz2])
     refine D6 (i:=6) (by kernel_rfl) rfl rfl (fun K hK=>?_);go_simp;have hk2:Kp z28 (z28.alloc (.cells #[an G] 24)) Nul:=(Kp.refl z28 Nul).alloc _;have hb2:=Blk.new z28 [an G] 24;have hs2:(z28.alloc (.cells #[an G] 24)).heap.size=z28.heap.size+1:=World.size_alloc _ _;generalize z28.alloc (.cells #[an G] 24)=z29 at hk2 hb2 hs2 ⊢;generalize hp6:z28.heap.size=p6 at hb2 hs2 ⊢;have P6:=h_ hp6;have F29_6:=h_ hb2;have Z29:=h_ hs2;have K29:=h_ (K28.o.trans hk2);have F29_2:=h_ (F28_2.o.kp hk2);have F29_5:=h_ (F28_5.o.mono (fun i hi=>hk2.block i (F4 (F28_5.o.node i hi)) (fun x=>x)));have F29_7:=h_ (F28_7.o.kp hk2 (fun x=>x));refine hK.o _ _ K29.o (fun hHeld=>?_);clear hK K hk2 hb2 hs2 hp6
     (try simp only[Act.put,Sz0,Sz1,Sz2])
     have HSZ:Hid (z26.heap.size=p7+1/\z0.heap.size=p7/\z26.heap.size<=z27.heap.size/\z27.heap.size<=z28.heap.size/\z29.heap.size=p6+1/\z28.heap.size=p6/\w2.heap.size<=z0.heap.size):=⟨Z26.o,P7.o,Z27.o,Z28.o.1,Z29.o,P6.o,KU.o.size⟩;have hsz:=HSZ.o;exact HT z29 p6 p7 g2 M0 sl fp ⟨_,_,F29_2.o,F29_5.o,F29_6.o,F29_7.o,HMem.o,HOkM.o,K29.o,by omega,fun i hi=>by have:=HOo.o.new i hi;omega⟩
    obtain rfl:=List.mem_singleton.1 hj;clear hj;refine I6 (i:=6) rfl rfl (fun K hK=>?_);go_simp;have hk2:Kp z27 (z27.alloc (.cells #[an G] 24)) Nul:=(Kp.refl z27 Nul).alloc _;have hb2:=Blk.new z27 [an G] 24;have hs2:(z27.alloc (.cells #[an G] 24)).heap.size=z27.heap.size+1:=World.size_alloc _ _;generalize z27.alloc (.cells #[an G] 24)=z30 at hk2 hb2 hs2 ⊢;generalize hp6:z27.heap.size=p6 at hb2 hs2 ⊢;have P6:=h_ hp6;have F30_6:=h_ hb2;have Z30:=h_ hs2;have K30:=h_ (K27.o.trans hk2);have F30_2:=h_ (F27_2.o.kp hk2);have F30_7:=h_ (F27_7.o.kp hk2 (fun x=>x));refine hK.o _ _ K30.o (fun hHeld=>?_);clear hK K hk2 hb2 hs2 hp6
    (try simp only[Act.put,Sz0,Sz1,Sz2])
    refine D6 (i:=5) (by kernel_rfl) rfl rfl (fun K hK=>?_);go_simp;refine(HGt.o _ (HWB.o.trans K30.o)).mono ?_;rintro e z31 ⟨sl,fp,rfl,hown,hk2⟩;have HOo:=h_ hown;have F31_5:=h_ hown.own;have Z31:Hid (z30.heap.size<=z31.heap.size/\∀i∈fp,z30.heap.size<=i/\i<z31.heap.size):=⟨hk2.size,hown.new⟩;have K31:=h_ (K30.o.trans hk2);have F31_2:=h_ (F30_2.o.kp hk2);have F31_6:=h_ (F30_6.o.kp hk2 (fun x=>x));have F31_7:=h_ (F30_7.o.kp hk2 (fun x=>x));refine hK.o _ _ K31.o (fun hHeld=>?_);clear hK K hk2 hown
    (try simp only[Act.put,Sz0,Sz1,Sz2])
    have HSZ:Hid (z26.heap.size=p7+1/\z0.heap.size=p7/\z26.heap.size<=z27.heap.size/\z30.heap.size=p6+1/\z27.heap.size=p6/\z30.heap.size<=z31.heap.size/\w2.heap.size<=z0.heap.size):=⟨Z26.o,P7.o,Z27.o,Z30.o,P6.o,Z31.o.1,KU.o.size⟩;have hsz:=HSZ.o;exact HT z31 p6 p7 g2 M0 sl fp ⟨_,_,F31_2.o,F31_5.o,F31_6.o,F31_7.o,HMem.o,HOkM.o,K31.o,by omega,fun i hi=>by have:=HOo.o.new i hi;omega⟩
   obtain rfl:=List.mem_singleton.1 hj;clear hj;refine I6 (i:=6) rfl rfl (fun K hK=>?_);go_simp;have hk2:Kp z26 (z26.alloc (.cells #[an G] 24)) Nul:=(Kp.refl z26 Nul).alloc _;have hb2:=Blk.new z26 [an G] 24;have hs2:(z26.alloc (.cells #[an G] 24)).heap.size=z26.heap.size+1:=World.size_alloc _ _;generalize z26.alloc (.cells #[an G] 24)=z32 at hk2 hb2 hs2 ⊢;generalize hp6:z26.heap.size=p6 at hb2 hs2 ⊢;have P6:=h_ hp6;have F32_6:=h_ hb2;have Z32:=h_ hs2;have K32:=h_ (K26.o.trans hk2);have F32_7:=h_ (F26_7.o.kp hk2 (fun x=>x));refine hK.o _ _ K32.o (fun hHeld=>?_);clear hK K hk2 hb2 hs2 hp6
   (try simp only[Act.put,Sz0,Sz1,Sz2])
   refine D6 (i:=2) (by kernel_rfl) rfl rfl (fun K hK=>?_);go_simp;refine(HWo.o _ (HWB.o.trans K32.o)).mono ?_;rintro e z33 ⟨g2,M0,rfl,hgi,hok,hmem,_,hk2⟩;have HMem:=h_ hmem;have HOkM:=h_ hok;have F33_2:=h_ hgi.lows;have Z33:=h_ hk2.size;have K33:=h_ (K32.o.trans hk2);have F33_6:=h_ (F32_6.o.kp hk2 (fun x=>x));have F33_7:=h_ (F32_7.o.kp hk2 (fun x=>x));refine hK.o _ _ K33.o (fun hHeld=>?_);clear hK K hk2 hgi hok hmem
   (try simp only[Act.put,Sz0,Sz1,Sz2])
   refine D6 (i:=5) (by kernel_rfl) rfl rfl (fun K hK=>?_);go_simp;refine(HGt.o _ (HWB.o.trans K33.o)).mono ?_;rintro e z34 ⟨sl,fp,rfl,hown,hk2⟩;have HOo:=h_ hown;have F34_5:=h_ hown.own;have Z34:Hid (z33.heap.size<=z34.heap.size/\∀i∈fp,z33.heap.size<=i/\i<z34.heap.size):=⟨hk2.size,hown.new⟩;have K34:=h_ (K33.o.trans hk2);have F34_2:=h_ (F33_2.o.kp hk2);have F34_6:=h_ (F33_6.o.kp hk2 (fun x=>x));have F34_7:=h_ (F33_7.o.kp hk2 (fun x=>x));refine hK.o _ _ K34.o (fun hHeld=>?_);clear hK K hk2 hown
   (try simp only[Act.put,Sz0,Sz1,Sz2])
   have HSZ:Hid (z26.heap.size=p7+1/\z0.heap.size=p7/\z32.heap.size=p6+1/\z26.heap.size=p6/\z32.heap.size<=z33.heap.size/\z33.heap.size<=z34.heap.size/\w2.heap.size<=z0.heap.size):=⟨Z26.o,P7.o,Z32.o,P6.o,Z33.o,Z34.o.1,KU.o.size⟩;have hsz:=HSZ.o;exact HT z34 p6 p7 g2 M0 sl fp ⟨_,_,F34_2.o,F34_5.o,F34_6.o,F34_7.o,HMem.o,HOkM.o,K34.o,by omega,fun i hi=>by have:=HOo.o.new i hi;omega⟩
  intro aj p6 p7 g2 M0 sl fp ⟨a,b,HA⟩;have HA:=h_ HA;refine D6 (i:=8) (by kernel_rfl) rfl rfl (fun K hK=>?_);refine j41 24 (.tmp 8) (.tmp 26) rfl p6 rfl (an (H ⟨g2,0,G⟩)) rfl rfl 24 _ HA.o.c6 (by kernel_rfl) ?_;intro Y hbY hkY;have HY:=h_ (HA.o.k6 hkY);refine hK.o _ _ HY.o.1 (fun hHeld=>?_);clear hK K
  (try simp only[Act.put])
  refine D6 (i:=9) (by kernel_rfl) rfl rfl (fun K hK=>?_);refine J2 50 (.tmp 9) (.tmp 29) rfl p7 _ (u.cells sl) _ HY.o.2 rfl rfl rfl D9 (u.one HA.o.nd.one) ?_;intro Y2 hbY2 hkY2;have HFin:=h_ (HA.o.fin hkY hkY2 hbY hbY2);refine hK.o _ _ HFin.o.1 (fun _=>?_);clear hK K hHeld hbY hkY hbY2 hkY2
  (try simp only[Act.put])
  refine wpAnyH_done (by kernel_rfl) ?_ _;refine NoPanic.normal ?_;go_wp2_with fail;go_meet
  case rel=>exact⟨_,_,g2,_,M0,sl,fp,rfl,rfl,HFin.o.2⟩
 case rest=>
  obtain⟨x8,x9,g2,ah,M0,sl,fp,rfl,rfl,hF⟩:=hcut
  rename World=>w5
  have HF:=h_ hF;have KW5:=h_ (KWB.o.trans hF.kp);have K05:=h_ (k0.o.trans KW5.o);have O1:=h_ hF.nd.one;have HOn0:=h_ hF.gi.once';have S2:Hid (w.heap.size+4<=w2.heap.size):=by show _<=_;have:=KWB.o.size;rw[S0.o] at this;exact this
  have HG0:Hid (∀i,ah i->w.heap.size+4<=i/\i<w5.heap.size/\i≠x8/\i≠x9/\i∉fp):=fun i hi=>by have h1:=hF.g0 i hi;exact⟨Nat.le_trans S2.o h1.1,h1.2⟩
  obtain⟨uk,huk⟩:=e_ u.k;have HUK:=h_ huk;have q0:w5.cell? ⟨x9,0,G⟩=H (O I uk):=by rw[<- huk];exact hF.c9.cell rfl
  have p0:=hF.c8.c_ 0 rfl;have H6:=h_ (HB6.o _ KW5.o);have H7:=h_ (HB7.o _ KW5.o);clear hF huk HWo HGt;by_cases hk:uk=0
  ·subst hk;go_wp2_with (first
    | (refine L9 rfl 24 (.tmp 6) (.tmp 33) rfl (w.heap.size+2) rfl (an (H ⟨g2,0,G⟩)) rfl rfl 24 _ H6.o (by kernel_rfl) ?_;intro Y hbY hkY;have HY6:Hid (Blk Y (w.heap.size+2) [an (H ⟨g2,0,G⟩)] 24):=hbY;have HY7:Hid (Blk Y (w.heap.size+2+1) [O I 0] 39):=H7.o.kp hkY (by show ¬_=_;omega);have KY:Hid (Kp w5 Y (fun i=>i=w.heap.size+2∨i=w.heap.size+2+1)):=hkY.mono (fun _ _ e=>.inl e);clear hbY hkY)
    | (refine L9 rfl 39 (.tmp 7) (.const (O I 0)) rfl (w.heap.size+2+1) rfl (O I 0) rfl rfl 39 _ HY7.o (by kernel_rfl) ?_;intro Y2 hb2 hk2;have HE6:Hid (Blk Y2 (w.heap.size+2) [an (H ⟨g2,0,G⟩)] 24):=HY6.o.kp hk2 (by show ¬_=_;omega);have HE7:Hid (Blk Y2 (w.heap.size+2+1) [O I 0] 39):=hb2;have KE:Hid (Kp w5 Y2 (fun i=>i=w.heap.size+2∨i=w.heap.size+2+1)):=KY.o.trans (hk2.mono (fun _ _ e=>.inr e));clear hb2 hk2)
    | fail)
   have c1:=HE6.o.c_ 0 rfl;have c2:=HE7.o.c_ 0 rfl;clear q0 p0;refine⟨_,X8 rfl _ _ (w.heap.size+2) (w.heap.size+2+1) (an (H ⟨g2,0,G⟩)) (O I 0) rfl rfl ?_ ?_,?_⟩
   ·clear c2;go_simp
   ·clear c1;go_simp
   ·have hYs:Ys=[]:=(by rw[HY.o,if_pos HUK.o]);refine⟨_,M0,rfl,HF.o.mem,HOn0.o,HF.o.ok,K05.o.trans' KE.o (fun i hi e=>by rcases e with e|e <;> omega),(fun e=>by rw[hYs] at e;cases e),fun M1 e=>?_⟩;rw[hYs] at e;cases e
    exact⟨g2,rfl,(HF.o.gi.far' KE.o (fun i hi e=>by have:=HG0.o i hi;rcases e with e|e <;> omega)).mono (fun i hi=>by have:=HG0.o i hi;show w.heap.size<=i;omega),HF.o.ok⟩
  ·have e0:(uk==0)=R:=(by simpa using hk);have HCe:=h_ (j95 A1 A2 A3 A4 w5);have hYe:Ys=flY f1 f2 A1 A2 A3 A4 u:=(by rw[HY.o,if_neg (by rw[HUK.o];exact hk)]);have HYe:=h_ hYe;have HGu:=h_ (HGd.o (by rw[HUK.o];exact hk));have HP0:=h_ p0;have d0:=(HB5.o _ KW5.o).c_ 0 rfl;have d1:=(HB5.o _ KW5.o).c_ 1 rfl;have d2:=(HB5.o _ KW5.o).c_ 2 rfl;have d3:=(HB5.o _ KW5.o).c_ 3 rfl;clear hYe p0 HY HGd;go_wp2_with fail;clear d0 d1 d2 d3 q0;refine HCe.o.mono ?_;rintro e w3 ⟨rfl,hb3,hk3⟩;have HP:=h_ hb3;have K3:=h_ hk3;have L3:=h_ hb3.lt;clear hb3 hk3 HCe;go_wp2_with fail;have hL3:=L3.o;have h52:=K05.o.size;have HZp:Hid (w.heap.size+4<=w5.heap.size):=(by show _<=_;have:=KW5.o.size;rw[S0.o] at this;exact this);have hZp:=HZp.o;generalize hact:Act.mk _ _=a0;refine j11 (α:=Int×Int) (N:=szN A1 A2 A3 A4) (gf:=69) (lb:=#[an (H ⟨w5.heap.size,0,G⟩)]) (by rw[<- hact];rfl) (enters_of func69 (by kernel_rfl) rfl) (encs:=j1m) (fun _ _=>False) (fun _=>rfl) (j1Z A1 A2 A3) ?hT (fun i=>(i=w.heap.size+2∨i=w.heap.size+2+1)∨ah i) ?hseq (fun k Z V=>∃M,FyI w3 w3.heap.size (w.heap.size+2) g2 ah M0 Ys k Z V M) ?hZ ?hZl ?hI (CyX w w3.heap.size (w.heap.size+2) M0 Ys) ?hIx (fun i=>(i=w.heap.size+2∨i=w.heap.size+2+1)∨ah i) ?h0 ?hround ?hdone ?hstop
   case hT=>exact fun _ _ _ _ _=>⟨fun e=>e,fun e=>e⟩
   case hseq=>exact j4c A1 A2 A3 A4 w5.heap.size w3 HP.o _ (fun e=>by rcases e with (e|e)|e;omega;omega;have:=HG0.o _ e;omega)
   case hZ=>
    rintro k Z V ⟨M',h⟩;exact⟨fun q=>by rcases(h.zl _ q).2 with e|e|e;omega;have:=(h.g0 _ e);omega;omega,fun q=>by rcases(h.zl _ q).2 with e|e|e;omega;have:=(h.g0 _ e);omega;omega⟩
   case hZl=>
    rintro k Z V ⟨M',h⟩;exact⟨fun i hi=>(h.zl i hi).1,fun i hlt hi=>by rcases(h.zl i hi).2 with e|e|e;exact .inl e;exact .inr e;omega⟩
   case hI=>
    rintro k Z V V' ⟨M',h⟩ q;exact⟨M',h.far q (fun i hi e=>by rcases(h.zl _ hi).2 with q|q|q <;> rcases e with e|e <;> first|omega|(have:=h.g0 _ q;omega)) (fun i hi e=>by rcases e with e|e <;> omega)⟩
   case hIx=>
    intro V V' h q;have hB:=h.hB;exact⟨h.full,h.r6.kp q (fun e=>by rcases e with e|e <;> omega),h.r7.kp q (fun e=>by rcases e with e|e <;> omega),h.kp.trans' q (fun i hi e=>by rcases e with e|e <;> omega),hB⟩
   case h0=>
    refine⟨M0,(HF.o.gi.kp K3.o).mono (fun i hi=>⟨.inr hi,by have:=HG0.o i hi;omega,by have:=HG0.o i hi;omega⟩),HF.o.ok,rfl,H6.o.kp K3.o (fun x=>x),H7.o.kp K3.o (fun x=>x),Kp.refl _ _,fun i hi=>?_,⟨.inl (.inl rfl),.inl (.inr rfl)⟩,fun i hi=>⟨by have:=HG0.o i hi;omega,by have:=HG0.o i hi;omega⟩,by omega,Nat.le_refl _⟩;rcases hi with e|e
    ·exact⟨by omega,.inl e⟩
    ·exact⟨by have:=HG0.o i e;omega,.inr (.inl e)⟩
   case hround=>
    subst hact;rintro k ⟨c,s⟩ Z V0 KK hkN hsW ⟨M',hI⟩ htell hcont;have HI:=h_ hI;have HSW:=h_ hsW;have htell':=htell;have HTl:=h_ htell';have HvC:Hid (vC c s=J):=by
     have h1:=(j1f (m4:=A4)).1 ⟨k,hkN,htell'.symm⟩;unfold inA at h1;simp only[Bool.and_eq_true,decide_eq_true_eq] at h1;have h2:=j7M _ _ _ _ h1.1.1.1.1;show vC c s=J;rw[G6];omega
    have HYk:Hid (Ys[k]? = H ((c,s),hmC (shH (c-f1) (s-f2)) u)):=(by show _=_;rw[HYe.o];exact j5G hkN htell');clear hI hsW htell htell';simp only[List.zip_toArray,List.zip_cons_cons,List.zip_nil_right,List.foldl_toArray',List.foldl_cons,List.foldl_nil]
    gi_wp2_with (fail)
    refine hcont _ _ ((Kp.refl V0 Nul).alloc _) (fun V hV _=>?_);have hWV:Kp V0 V (fun i=>i=w3.heap.size+1):=(((Kp.refl V0 Nul).alloc _).mono (fun _ _ q=>q.elim)).trans hV;have HIV:=h_ (HI.o.far hWV (fun i hi e=>by have e':i=w3.heap.size+1:=e;rcases(HI.o.zl i hi).2 with q|q|q <;> first|omega|(have:=HI.o.g0 _ q;omega)) (fun i hi e=>by have e':i=w3.heap.size+1:=e;omega));have HbA:=h_ ((Blk.new V0 [O I c,O I s] 32).kp hV (fun e=>by have e':V0.heap.size=w3.heap.size+1:=e;have:=HSW.o;omega));have HVV:=h_ HbA.o.lt;have KV:=h_ ((K05.o.trans K3.o).trans' HIV.o.kp (fun i hi e=>by have:=HG0.o i e;omega));have KW:=h_ ((KW5.o.trans K3.o).trans' HIV.o.kp (fun i hi e=>by have:=HG0.o i e;have:=S0.o;omega));have B8:=h_ ((HF.o.c8.kp K3.o (fun x=>x)).kp HIV.o.kp (fun e=>(HG0.o _ e).2.2.1 rfl));have B9:=h_ ((HF.o.c9.kp K3.o (fun x=>x)).kp HIV.o.kp (fun e=>(HG0.o _ e).2.2.2.1 rfl))
    have HNd:=h_ ((HF.o.nd.mono (fun i hi=>K3.o.block i (F4 (HF.o.nd.node i hi)) (fun x=>x))).mono (fun i hi=>HIV.o.kp.block i (Nat.lt_of_lt_of_le (F4 (HF.o.nd.node i hi)) K3.o.size) (fun e=>(HG0.o _ e).2.2.2.2 hi)));have HPc:Hid (Calls prog 55 #[an (H ⟨g2,0,G⟩),T #[O I c,O I s],u.val sl,T #[O I f1,O I f2]] V fun e w'=>∃er,e=Q (O I er)/\∃M2,j6 w' (fun i=>(Z i/\i≠w.heap.size+2/\i≠w.heap.size+2+1)∨V.heap.size<=i) g2 M2/\PcR M' (c,s) (hmC (shH (c-f1) (s-f2)) u) er M2/\Km g2 V w'):=
     HPcd.o (fun i=>(Z i/\i≠w.heap.size+2/\i≠w.heap.size+2+1)∨V.heap.size<=i) (fun _=>True) g2 c s sl M' V KV.o (HIV.o.gi.mono (fun i hi=>.inl hi)) (fun i hi=>.inr hi) HIV.o.ok HGu.o HvC.o (HNd.o.isIn (fun _ _=>trivial))
    have b0:=B8.o.c_ 0 rfl;have a0:=HbA.o.c_ 0 rfl;have a1:=HbA.o.c_ 1 rfl;have c0:=(HB4.o _ KW.o).c_ 0 rfl;have c1:=(HB4.o _ KW.o).c_ 1 rfl;clear hcont hV hWV HPcd HNd
    gi_wp2_with (first
     | (refine j20 rfl (.tmp 9) rfl x9 rfl (u.cells sl).toArray B9.o rfl ?_)
     | fail)
    clear b0 a0 a1 c0 c1;refine⟨trivial,(callsIn_wide.2 HPc.o).mono ?_⟩;rintro e X ⟨er,rfl,M2,hgX,hp,hkm⟩;have HKX:Hid (Kp V X (fun i=>Z i∨V0.heap.size<=i)):=hkm.kp.mono (fun i _ e=>.inl (HIV.o.sm e).1);by_cases hr:G9 M' (c,s)=J
    ·obtain⟨rfl,rfl⟩:=hp.yes hr;obtain⟨Z',hZ1,hZ2⟩:=HIV.o.step HYk.o (j1u (j2V _ _) HGu.o) HvC.o hr (Nat.le_trans HSW.o (Nat.le_of_lt HVV.o)) hgX hkm;have HZ:Hid (∃Z',(∃M,FyI w3 w3.heap.size (w.heap.size+2) g2 ah M0 Ys (k+1) Z' X M)/\More Z Z' V0):=⟨Z',⟨_,hZ1⟩,fun i hi=>(hZ2 i hi).imp id (fun q=>by have:=HVV.o;omega)⟩;clear hZ1 hZ2 hgX hkm hp
     gi_wp2_with (fail)
     exact⟨HKX.o,HZ.o⟩
    ·obtain⟨rfl,rfl⟩:=hp.no hr;have HFu:=h_ (HIV.o.fail HYk.o hr);have h6:¬ah (w.heap.size+2):=(fun e=>by have:=HG0.o _ e;omega);have h7:¬ah (w.heap.size+2+1):=(fun e=>by have:=HG0.o _ e;omega);have N6:=h_ (HIV.o.r6.kp hkm.kp (HIV.o.o h6 (by omega)));have N7:=h_ (HIV.o.r7.kp hkm.kp (HIV.o.o h7 (by omega)));have KwX:=h_ (KV.o.trans' hkm.kp (fun i hi e=>HIV.o.o (fun q=>by have:=HG0.o _ q;omega) (by omega) e));have HZ6:=h_ HIV.o.z6;clear hgX hkm hp h6 h7
     gi_wp2_with (first
      | (refine j0K rfl 24 (.tmp 6) (.const (an G)) rfl (w.heap.size+2) rfl (an G) rfl rfl 24 _ N6.o (by kernel_rfl) ?_;intro Y hbY hkY;have HY6:Hid (Blk Y (w.heap.size+2) [an G] 24):=hbY;have HY7:Hid (Blk Y (w.heap.size+2+1) [O I 0] 39):=N7.o.kp hkY (by show ¬_=_;omega);have KY:Hid (Kp X Y (fun i=>i=w.heap.size+2)):=hkY;clear hbY hkY)
      | (refine j0K rfl 39 (.tmp 7) (.tmp 44) rfl (w.heap.size+2+1) rfl (O I 41) rfl rfl 39 _ HY7.o (by kernel_rfl) ?_;intro Y2 hb2 hk2;have HE6:Hid (Blk Y2 (w.heap.size+2) [an G] 24):=HY6.o.kp hk2 (by show ¬_=_;omega);have HE7:Hid (Blk Y2 (w.heap.size+2+1) [O I 41] 39):=hb2;have KE:Hid (Kp Y Y2 (fun i=>i=w.heap.size+2+1)):=hk2;clear hb2 hk2)
      | fail)
     have q1:Kp V Y2 (fun i=>Z i∨V0.heap.size<=i):=(HKX.o.trans (KY.o.mono (fun i _ e=>.inl (by have e':i=w.heap.size+2:=e;rw[e'];exact HZ6.o.1)))).trans (KE.o.mono (fun i _ e=>.inl (by have e':i=w.heap.size+2+1:=e;rw[e'];exact HZ6.o.2)));have q2:CyX w w3.heap.size (w.heap.size+2) M0 Ys Y2:=⟨HFu.o,HE6.o,HE7.o,(KwX.o.trans' KY.o (fun i hi e=>by have e':i=w.heap.size+2:=e;omega)).trans' KE.o (fun i hi e=>by have e':i=w.heap.size+2+1:=e;omega),by omega⟩;exact⟨q1,q2⟩
   case hdone=>
    subst hact;rintro D Z V hD ⟨M',h⟩ hDf;have HI:=h_ h;have HPt:Hid (pts M0 Ys=H M'):=by
     have h1:=h.put;rw[show szN A1 A2 A3 A4=Ys.length by rw[HYe.o];simp[flY]] at h1;exact j6J h1
    have HDf:=h_ hDf;have HD:=h_ hD;have N6:=h_ h.r6;have N7:=h_ h.r7;have c0:=((HF.o.c8.kp K3.o (fun x=>x)).kp h.kp (fun e=>(HG0.o _ e).2.2.1 rfl)).c_ 0 rfl;clear h hDf hD;go_wp2_with (first
     | (refine L9 rfl 24 (.tmp 6) (.tmp 45) rfl (w.heap.size+2) rfl (an (H ⟨g2,0,G⟩)) rfl rfl 24 _ N6.o (by kernel_rfl) ?_;intro Y hbY hkY;have HY6:Hid (Blk Y (w.heap.size+2) [an (H ⟨g2,0,G⟩)] 24):=hbY;have HY7:Hid (Blk Y (w.heap.size+2+1) [O I 0] 39):=N7.o.kp hkY (by show ¬_=_;omega);have KY:Hid (Kp V Y (fun i=>i=w.heap.size+2∨i=w.heap.size+2+1)):=hkY.mono (fun _ _ e=>.inl e);clear hbY hkY)
     | (refine L9 rfl 39 (.tmp 7) (.const (O I 0)) rfl (w.heap.size+2+1) rfl (O I 0) rfl rfl 39 _ HY7.o (by kernel_rfl) ?_;intro Y2 hb2 hk2;have HE6:Hid (Blk Y2 (w.heap.size+2) [an (H ⟨g2,0,G⟩)] 24):=HY6.o.kp hk2 (by show ¬_=_;omega);have HE7:Hid (Blk Y2 (w.heap.size+2+1) [O I 0] 39):=hb2;have KE:Hid (Kp V Y2 (fun i=>i=w.heap.size+2∨i=w.heap.size+2+1)):=KY.o.trans (hk2.mono (fun _ _ e=>.inr e));clear hb2 hk2)
     | fail)
    have hd:=HD.o;have hD2:=(KE.o.block D (Array.getElem?_eq_some_iff.1 HDf.o).1 (fun e=>by rcases e with e|e <;> omega)).trans HDf.o;refine⟨by simp,.inl ⟨_,_,rfl,run_takeDeferred hD2,?_⟩⟩;have c1:(Y2.putObj D (.deferred G)).cell? ⟨w.heap.size+2,0,G⟩=H (an (H ⟨g2,0,G⟩)):=(HE6.o.kp J0 (by show ¬_=_;omega)).cell rfl;have c2:(Y2.putObj D (.deferred G)).cell? ⟨w.heap.size+2+1,0,G⟩=H (O I 0):=(HE7.o.kp J0 (by show ¬_=_;omega)).cell rfl;refine⟨_,X8 rfl _ _ (w.heap.size+2) (w.heap.size+2+1) (an (H ⟨g2,0,G⟩)) (O I 0) rfl rfl ?_ ?_,_,M0,rfl,?_⟩
    ·clear c2 hd c0;go_simp
    ·clear c1 hd c0;go_simp
    ·refine⟨HF.o.mem,HOn0.o,HF.o.ok,X6 (((K05.o.trans K3.o).trans' HI.o.kp (fun i hi e=>by have:=HG0.o i e;omega)).trans' KE.o (fun i hi e=>by rcases e with e|e <;> omega)) (by omega),(fun e=>by rw[HPt.o] at e;cases e),fun M1 e=>?_⟩;rw[HPt.o] at e;cases e
     refine⟨g2,rfl,((HI.o.gi.far' KE.o (fun i hi e=>by rcases e with e|e;exact hi.2.1 e;exact hi.2.2 e)).far' J0 (fun i hi e=>by have e':i=D:=e;rcases(HI.o.zl i hi.1).2 with q|q|q <;> first|omega|(have:=HI.o.g0 _ q;omega))).mono (fun i hi=>?_),HI.o.ok⟩;show w.heap.size<=i;rcases(HI.o.zl i hi.1).2 with q|q|q <;> first|omega|(have:=HG0.o _ q;omega)
   case hstop=>
    subst hact;rintro D V hD h hDf;have HI:=h_ h;have HDf:=h_ hDf;have HD:=h_ hD;clear h hDf hD;go_wp2_with fail;have hd:=HD.o;refine⟨by simp,.inl ⟨_,_,rfl,run_takeDeferred HDf.o,?_⟩⟩;have c1:(V.putObj D (.deferred G)).cell? ⟨w.heap.size+2,0,G⟩=H (an G):=(HI.o.r6.kp J0 (by show ¬_=_;omega)).cell rfl;have c2:(V.putObj D (.deferred G)).cell? ⟨w.heap.size+2+1,0,G⟩=H (O I 41):=(HI.o.r7.kp J0 (by show ¬_=_;omega)).cell rfl;refine⟨_,X8 rfl _ _ (w.heap.size+2) (w.heap.size+2+1) (an G) (O I 41) rfl rfl ?_ ?_,_,M0,rfl,?_⟩
    ·clear c2 hd;go_simp
    ·clear c1 hd;go_simp
    ·exact⟨HF.o.mem,HOn0.o,HF.o.ok,X6 HI.o.kp (by omega),fun _=>rfl,fun M1 e=>by rw[HI.o.full] at e;cases e⟩
end
section
open Go.RowKit Go.Maps
structure CpR (A:Ar4) (t:Int×Int) (L:List Cc) (w w':World) (v:Value):Prop where
 kp:Kp w w' Nul
 bad:¬Ar4.ok A=J->v=au #[an G,O I 1]
 off:Ar4.ok A=J->¬fits A t=J->v=au #[an G,O I 20]
 ok:Ar4.ok A=J->fits A t=J->∃K M0,E9 (K.map (·.1))/\(∀x,x∈K↔x∈inL A.1.1 A.1.2 A.2.1 A.2.2 L)/\CpV w w' L M0 (cpY A.1.1 A.1.2 t.1 t.2 K) (mvTo A t).1.1 (mvTo A t).1.2 (mvTo A t).2.1 (mvTo A t).2.2 v
theorem j9N {A:Ar4}{t:Int×Int}(hA:Ar4.ok A=J)(hf:fits A t=J){c s:Int}(h:inA A.1.1 A.1.2 A.2.1 A.2.2 c s=J):vC (c+t.1-A.1.1) (s+t.2-A.1.2)=J:=by
 have h1:=(I2 _).1 hA;have h2:=(I2 _).1 (show Ar4.ok (mvTo A t)=J from hf);unfold mvTo at h2;simp only at h2;unfold inA at h;simp only[Bool.and_eq_true,decide_eq_true_eq] at h;rw[G6];omega
theorem jBJ (g:Nat)(A:Ar4)(t:Int×Int)(L:List Cc)(w:World)(hg:GI 0 w g L)(hL:Ok17 L)(hv:VS w):
 Calls prog 16 #[an (H ⟨g,0,G⟩),T #[O I A.1.1,O I A.1.2,O I A.2.1,O I A.2.2],T #[O I t.1,O I t.2]] w fun e w'=>∃v,e=Q v/\CpR A t L w w' v:=by
 by_cases hA:Ar4.ok A=J
 ·by_cases hf:fits A t=J
  ·obtain⟨K,hKs,hKm⟩:=j3I (j3G (m1:=A.1.1) (m2:=A.1.2) (m3:=A.2.1) (m4:=A.2.2) (L:=L) rfl hg.once);refine(j9Q g L K _ A.1.1 A.1.2 A.2.1 A.2.2 t.1 t.2 (mvTo A t).1.1 (mvTo A t).1.2 (mvTo A t).2.1 (mvTo A t).2.2 w hg hL hKs hKm rfl (fun x hx=>j9N hA hf ((Q6 rfl).1 ((hKm x).1 hx)).2)
    (fun w=>?_) (fun wq k=>j3y g L _ _ _ _ wq (hg.kp k) hL (hv.kp k)) (fun w=>j5d g _ _ _ _ w) (fun c s w h1 h2=>?_)
    (fun ah F g2 c s c' s' a sl M wq k h1 h2 h3 h4 h5 h6 h7=>j6L ah g2 c' s' c s a sl F M wq h1 h2 h3 h4 h5 h6 h7 (hv.kp k))).mono ?_
   ·have h:=j1c g A t w;unfold agV at h;rw[if_pos hA,if_pos hf] at h;exact h
   ·have h:=j23 c s A.1.1 A.1.2 t.1 t.2 w;have hA':=(I2 _).1 hA;have ht:=(I2 _).1 (show Ar4.ok (mvTo A t)=J from hf);unfold mvTo at ht;simp only at ht;rw[G6] at h1 h2;rw[X5 (by unfold I64;omega),X5 (by unfold I64;omega)] at h;exact h
   ·rintro e w' ⟨v,M0,rfl,h⟩;exact⟨v,rfl,h.kp,fun q=>absurd hA q,fun _ q=>absurd hf q,fun _ _=>⟨K,M0,hKs,hKm,h⟩⟩
  ·refine(j9U g A t w hA hf).mono ?_;rintro e w' ⟨rfl,k⟩;exact⟨_,rfl,k,fun q=>absurd hA q,fun _ _=>rfl,fun _ q=>absurd q hf⟩
 ·refine(j9P g A t w hA).mono ?_;rintro e w' ⟨rfl,k⟩;exact⟨_,rfl,k,fun _=>rfl,fun q=>absurd q hA,fun q=>absurd q hA⟩
structure FiR (A:Ar4) (f:Int×Int) (L:List Cc) (w w':World) (v:Value):Prop where
 kp:Kp w w' Nul
 bad:¬Ar4.ok A=J->v=au #[an G,O I 1]
 off:Ar4.ok A=J->¬vC f.1 f.2=J->v=au #[an G,O I 20]
 ok:Ar4.ok A=J->vC f.1 f.2=J->∃u M0,Rd L f u/\CpV w w' L M0 (if u.k=0 then [] else flY f.1 f.2 A.1.1 A.1.2 A.2.1 A.2.2 u) A.1.1 A.1.2 A.2.1 A.2.2 v
theorem j6V {L:List Cc}{p:Int×Int}{u:Ct}(hL:Ok17 L)(h:Rd L p u)(hk:u.k≠0):Gd u:=by
 rcases h with h|⟨rfl,_⟩
 ·exact hL.gd _ h
 ·exact absurd rfl hk
theorem jBK (g:Nat)(A:Ar4)(f:Int×Int)(L:List Cc)(w:World)(hg:GI 0 w g L)(hL:Ok17 L)(hv:VS w):
 Calls prog 22 #[an (H ⟨g,0,G⟩),T #[O I f.1,O I f.2],T #[O I A.1.1,O I A.1.2,O I A.2.1,O I A.2.2]] w fun e w'=>∃v,e=Q v/\FiR A f L w w' v:=by
 by_cases hA:Ar4.ok A=J
 ·by_cases hf:vC f.1 f.2=J
  ·have hf':=(G6 _ _).1 hf;obtain⟨u,hr,hx,ho,hget⟩:=jA4 g L w hg hL f.1 f.2 (by unfold I64;omega) (by unfold I64;omega);refine(j9q g L _ u A.1.1 A.1.2 A.2.1 A.2.2 f.1 f.2 w hf hA (j6V hL hr) rfl
    (fun w=>(Y8 A.1.1 A.1.2 A.2.1 A.2.2 w).mono fun e w' q=>⟨by rw[q.1];exact congrArg (fun b=>Q (E b)) (show Ar4.ok A=J from hA),Kp.of_gr q.2⟩)
    (fun w=>(U5 f.1 f.2 w).mono fun e w' q=>⟨by rw[q.1,hf],by rw[q.2];exact(Kp.refl w Nul).alloc _⟩)
    (fun wq k=>j3y g L _ _ _ _ wq (hg.kp k) hL (hv.kp k)) hget
    (fun ah F g2 c s sl M wq k h1 h2 h3 h4 h5 h6=>j6L ah g2 c s f.1 f.2 u sl F M wq h1 h2 h3 h4 h5 hf h6 (hv.kp k))).mono ?_
   rintro e w' ⟨v,M0,rfl,h⟩;exact⟨v,rfl,h.kp,fun q=>absurd hA q,fun _ q=>absurd hf q,fun _ _=>⟨u,M0,hr,h⟩⟩
  ·have h:=j5C g A f w (fun _=>hf);rw[if_pos hA] at h;refine h.mono ?_;rintro e w' ⟨rfl,k⟩;exact⟨_,rfl,k,fun q=>absurd hA q,fun _ _=>rfl,fun _ q=>absurd q hf⟩
 ·have h:=j5C g A f w (fun q=>absurd q hA);rw[if_neg hA] at h;refine h.mono ?_;rintro e w' ⟨rfl,k⟩;exact⟨_,rfl,k,fun _=>rfl,fun q=>absurd q hA,fun q=>absurd q hA⟩
structure ClR (A:Ar4) (L:List Cc) (w w':World) (v:Value):Prop where
 kp:Kp w w' Nul
 bad:¬Ar4.ok A=J->v=au #[an G,O I 1]
 ok:Ar4.ok A=J->∃g2 M,v=au #[an (H ⟨g2,0,G⟩),O I 0]/\j6 w' (fun i=>w.heap.size<=i) g2 M/\Ok17 M/\∀y,y∈M↔y∈L/\y∉inL A.1.1 A.1.2 A.2.1 A.2.2 L
theorem j9E (g:Nat)(A1 A2 A3 A4:Int)(af:Nat->World->Prop)(w:World)
 (hng:∀(b:Nat) (wq:World),(binOp .eql 24 (an (H ⟨b,0,G⟩)) (an G)).run prog wq=.ok (E R) wq)
 (HV:Hid (∀w,Calls prog 58 #[T #[O I A1,O I A2,O I A3,O I A4]] w fun e w'=>e=Q (E J)/\Kp w w' Nul))
 (HWo:Hid (∀wq,Kp w wq Nul->Calls prog 53 #[an (H ⟨g,0,G⟩),T #[O I A1,O I A2,O I A3,O I A4]] wq fun e w'=>∃g2,e=Q (an (H ⟨g2,0,G⟩))/\af g2 w')) :
 Calls prog 23 #[an (H ⟨g,0,G⟩),T #[O I A1,O I A2,O I A3,O I A4]] w fun e w'=>∃g2,e=Q (au #[an (H ⟨g2,0,G⟩),O I 0])/\af g2 w':=by
 have kW:Hid (∀a,Kp w (w.alloc a) Nul):=fun a=>(Kp.refl w Nul).alloc _
 have HB:=h_ fun X (k:Kp (w.alloc (.cells #[O I A1,O I A2,O I A3,O I A4] 34)) X Nul)=>(Blk.new w _ _).kp k (fun x=>x)
 go_enter func23,ntmps23;go_wp2_with fail;refine(HV.o _).mono ?_;rintro e w1 ⟨rfl,hk1⟩;have K1:=h_ ((kW.o _).trans hk1);have a0:=(HB.o _ hk1).c_ 0 rfl;have a1:=(HB.o _ hk1).c_ 1 rfl;have a2:=(HB.o _ hk1).c_ 2 rfl;have a3:=(HB.o _ hk1).c_ 3 rfl;clear hk1;go_wp2_with fail;clear a0 a1 a2 a3;refine(HWo.o _ K1.o).mono ?_;rintro e w2 ⟨g2,rfl,hr⟩;have HR:=h_ hr;clear hr;go_wp2_with fail
 go_ret2
 first
 | exact⟨g2,rfl,HR.o⟩
 | exact⟨g2,⟨rfl,rfl⟩,HR.o⟩
 | exact HR.o
theorem jBI (g:Nat)(A:Ar4)(L:List Cc)(w:World)(hg:GI 0 w g L)(hL:Ok17 L)(hv:VS w):
 Calls prog 23 #[an (H ⟨g,0,G⟩),T #[O I A.1.1,O I A.1.2,O I A.2.1,O I A.2.2]] w fun e w'=>∃v,e=Q v/\ClR A L w w' v:=by
 by_cases hA:Ar4.ok A=J
 ·refine(j9E g A.1.1 A.1.2 A.2.1 A.2.2 (fun g2 w'=>∃M,j6 w' (fun i=>w.heap.size<=i) g2 M/\Ok17 M/\(∀y,y∈M↔y∈L/\y∉inL A.1.1 A.1.2 A.2.1 A.2.2 L)/\Kp w w' Nul) w j27
   (fun w=>(Y8 A.1.1 A.1.2 A.2.1 A.2.2 w).mono fun e w' q=>⟨by rw[q.1];exact congrArg (fun b=>Q (E b)) (show Ar4.ok A=J from hA),Kp.of_gr q.2⟩)
   (fun wq k=>(j3y g L A.1.1 A.1.2 A.2.1 A.2.2 wq (hg.kp k) hL (hv.kp k)).mono (by
    rintro e w' ⟨g2,M,rfl,h1,h2,h3,_,h5⟩;exact⟨g2,rfl,M,h1.mono (fun i hi=>Nat.le_trans k.size hi),h2,h3,k.trans h5⟩))).mono ?_
  rintro e w' ⟨g2,rfl,M,h1,h2,h3,h4⟩;exact⟨_,rfl,h4,fun q=>absurd hA q,fun _=>⟨g2,M,rfl,h1,h2,h3⟩⟩
 ·refine(j9B g A w hA).mono ?_;rintro e w' ⟨rfl,k⟩;exact⟨_,rfl,k,fun _=>rfl,fun q=>absurd q hA⟩
end
end Go.Proofs.YtecjfnkakodebaaGreatDoor
