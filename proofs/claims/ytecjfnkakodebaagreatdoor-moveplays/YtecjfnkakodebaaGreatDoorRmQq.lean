/-formula's firstError and Check. -/
import Derived.Test.YtecjfnkakodebaaGreatDoorRmQn
import Derived.Test.YtecjfnkakodebaaGreatDoorRmXq
import Derived.Shelf.Unicode.ValidAny
import Derived.Test.YtecjfnkakodebaaGreatDoorRmUb
import Derived.Test.YtecjfnkakodebaaGreatDoorRmEp
import Derived.Test.YtecjfnkakodebaaGreatDoorCards
import Derived.ProofKit
import Derived.SizedLaws
import Derived.Carry
open Go.Proofs.Tryz
open Go.Value renaming int->O,bool->E,slice->U,agg->T,pointer->an,float->ap,string->aq,tuple->au
open Go.IntKind renaming i64->I
open Bool renaming false->R,true->J
open Option renaming some->H,none->G
open Go.Ending renaming returned->Q
open Go.FloatKind renaming f64->ao
namespace Go.Proofs.YtecjfnkakodebaaGreatDoor
open Go.RowKit
attribute [local irreducible] Nd.fe feL
def Okto (ts:List Nd) (c:Bool) (q:Nat):Prop:=∀i (h:i<ts.length),i<q->(ts[i]).fe c=0
set_option maxRecDepth 20000 in
set_option maxHeartbeats 4000000 in
theorem j9x (N:Nat):∀(t:Nd) (sl:Value) (F:Nat->Prop) (called:Bool) (w:World),t.size<=N->t.ok->NdIn w F sl t->VS w ->
 Calls prog 121 #[t.hd.val sl,E called] w fun e w'=>e=Q (O I (t.fe called))/\Kp w w' Nul:=by
 induction N with
 | zero=>intro t sl F called w h;have:=L7 t;omega
 | succ N ih=>
  intro t sl F called w hN hok hin hU;obtain⟨hd,ts⟩:=t;rw[NdIn] at hin;obtain⟨a,c,rfl,h2,h3,h4⟩:=hin;have hsz:Hid ((Nd.mk hd ts).size=1+D3 ts):=by show _=_;rw[Nd.size]
  have hfe:Hid ((Nd.mk hd ts).fe called=if ownE hd ts.length called≠0 then ownE hd ts.length called else feL ts (hd.k==9)):=by show _=_;rw[Nd.fe]
  have HN:=h_ hN;have HOK:=h_ hok.l;have IH:Hid (∀(t:Nd) (sl:Value) (F:Nat->Prop) (called:Bool) (w:World),t.size<=N->t.ok->NdIn w F sl t->VS w ->
   Calls prog 121 #[t.hd.val sl,E called] w fun e w'=>e=Q (O I (t.fe called))/\Kp w w' Nul):=ih
  have hlen:ts.length<=9223372036854775807:=by unfold maxLen at h3;omega
  have H4:=h_ h4;have HO:=h_ fun wq (hq:Kp w wq Nul)=>jCC hd ts.length a c called hok.x wq (hU.kp hq)
  have HU:=h_ hU;clear ih hN h4 h2 h3 hok hU;generalize hn:ts.length=n at *;have HL:=h_ hn;have HLEN:=h_ hlen;clear hn hlen;generalize hSS:(Nd.mk hd ts).fe called=S at *;simp only[Nd.hd];obtain⟨W1,hW1⟩:=e_ (w.alloc (.cells (hd.cells (U a n c)).toArray 48));have k1:Kp w W1 Nul:=by rw[<- hW1];exact(Kp.refl w Nul).alloc _
  have b1:Blk W1 w.heap.size (hd.cells (U a n c)) 48:=by rw[<- hW1];exact Blk.new w _ _
  have HW1:=h_ hW1;have HO1:=h_ (HO.o W1 k1);have HB:=k_ b1;have HK1:=h_ k1;generalize hOE:ownE hd n called=OE at *;clear hW1 k1 b1 HO hSS hOE;go_enter func121,ntmps121;go_wp2_with fail;rw[HW1.o];refine HO1.o.mono ?_;rintro e w1 ⟨rfl,hk1⟩;have HK2:=h_ hk1;have x14:=(HB.o w1 hk1).c_ 14 rfl;clear hk1 HO1 HW1;by_cases h0:OE=0
  ·subst h0;have hS:Hid (S=feL ts (hd.k==9)):=(by show _=_;rw[hfe.o];rfl);clear hfe;go_wp2_with fail;clear x14;go_loopw[18] (fun i wr=>∃q:Nat,q<=n/\i=O I q/\Okto ts (hd.k==9) q/\Kp w1 wr Nul) (fun i _=>n-(RowKit.intOf i).toNat)
   case atStart=>exact⟨0,Nat.zero_le _,rfl,fun i h hi=>by omega,Kp.refl _ _⟩
   case round=>
    obtain⟨q,hq,rfl,hz,hkq⟩:=hrel;have HZ:=h_ hz;have KQ:=h_ hkq;have hkw:=(HK1.o.trans HK2.o).trans hkq;have HKW:=h_ hkw;have x0:=(HB.o wr (HK2.o.trans hkq)).c_ 0 rfl;have HBx:Hid (∀o,(wr.alloc o).cell? ⟨w.heap.size,0,G⟩=H (O I hd.k)):=(fun o=>((HB.o wr (HK2.o.trans hkq)).alloc o).cell rfl);clear hz hkq;by_cases hlt:q<n
    ·have hqt:q<ts.length:=(by rw[HL.o];exact hlt);obtain⟨b,o,rfl,hFb,hns⟩:∃b o,a=H ⟨b,o,G⟩/\F b/\F6 w F b o ts:=by
      rcases H4.o with h|h
      ·rw[h.1] at hqt;simp at hqt
      ·exact h
     obtain⟨s1,hr,hni⟩:=hns.get q hqt;have HR:=h_ (I7 hr (hkw.block b (Q0 hr) (fun x=>x)));have hni':=hni.kp hkw (fun _ _ x=>x);have O1:=h_ hni.one;have hs1:=Q4 ts q hqt;have HC:Hid (∀wq,Kp wr wq Nul->Calls prog 121 #[(ts[q]).hd.val s1,E (hd.k==9)] wq fun e w'=>e=Q (O I ((ts[q]).fe (hd.k==9)))/\Kp wq w' Nul):=(fun wq hq=>IH.o ts[q] s1 F _ wq (by have:=HN.o;have:=hsz.o;omega) (HOK.o.get q hqt) (hni'.kp hq (fun _ _ x=>x)) ((HU.o.kp hkw).kp hq));have hstep:Hid ((ts[q]).fe (hd.k==9)=0->Okto ts (hd.k==9) (q+1)):=fun h0 i h hi=>by
      rcases Nat.lt_or_ge i q with g|g
      ·exact HZ.o i h g
      ·have:i=q:=(by omega);subst this;exact h0
     have hend:Hid ((ts[q]).fe (hd.k==9)≠0->S=(ts[q]).fe (hd.k==9)):=(fun hne=>by rw[hS.o];exact j56 hqt HZ.o hne);clear hs1 hni hni' hr hns hkw;generalize (ts[q]).fe (hd.k==9)=z at *;generalize (ts[q]).hd=hh at *;have hkb:(q:Int)+1<=9223372036854775807:=(by have:=HLEN.o;omega);have hq0:(0:Int)<=(q:Int):=(by omega);have hqn:(q:Int)<(n:Int):=(by omega);have x0':=HBx.o;go_wp2_with (first|(refine wpList_load_mid rfl _ (.tmp 20) rfl _ (o+q*15) rfl _ _ HR.o underlying48 rfl j3 ?_)|(refine F9 rfl _ (.tmp 7) (.tmp 21) rfl _ _ _ _ _ (by first|rfl|simp) rfl rfl rfl j3 (hh.one O1.o) ?_)|(refine U0 rfl (.tmp 7) rfl wr.heap.size rfl (hh.cells s1).toArray (heap_alloc_new _ _) rfl ?_));refine(HC.o _ ((Kp.refl _ _).alloc _)).mono ?_;rintro e w2 ⟨rfl,hk2⟩;have HK3:=h_ ((KQ.o.alloc _).trans hk2);have HK4:=h_ ((HKW.o.alloc _).trans hk2);clear hk2 HC HR x0 x0'
     by_cases hz0:z=0
     ·subst hz0;go_wp2_with fail;go_roundw
      case rel=>exact⟨q+1,by omega,by go_num,hstep.o trivial,HK3.o⟩
      case measure=>simp only[RowKit.intOf];omega
     ·have HS0:=h_ (hend.o hz0);have hzb:(z==0)=R:=(by simpa using hz0);clear hend hstep HZ HKW KQ HK3 IH H4 HOK hq0 hqn hkb hlt hqt hFb hq hz0 HBx O1;go_wp21;go_ret;exact⟨rInt HS0.o.symm,HK4.o⟩
    ·have hqe:q=n:=(by omega);subst hqe;have hqn:¬((q:Int)<(q:Int)):=(by omega);have HS0:Hid (S=0):=by
      show _=_;rw[hS.o];exact j55 fun i h hi=>HZ.o i h (by rw[<- HL.o];exact h)
     as_aux_lemma=>
     go_wp2_with fail;go_ret;exact⟨rInt HS0.o.symm,HKW.o⟩
  ·have HS0:Hid (S=OE):=(by show _=_;rw[hfe.o,if_pos h0]);have hzb:(OE==0)=R:=(by simpa using h0);go_wp2_with fail;go_ret;exact⟨rInt HS0.o.symm,HK1.o.trans HK2.o⟩
set_option maxRecDepth 20000 in
set_option maxHeartbeats 4000000 in
theorem j4d (t:Nd)(sl:Value)(F:Nat->Prop)(w:World)(hok:t.ok)(hin:NdIn w F sl t)(hU:VS w):
 Calls prog 86 #[t.hd.val sl] w fun e w'=>e=Q (O I (chk t))/\Kp w w' Nul:=by
 obtain⟨W1,hW1⟩:=e_ (w.alloc (.cells (t.hd.cells sl).toArray 48));have k1:Kp w W1 Nul:=by rw[<- hW1];exact(Kp.refl w Nul).alloc _
 have b1:Blk W1 w.heap.size (t.hd.cells sl) 48:=by rw[<- hW1];exact Blk.new w _ _
 have HW1:=h_ hW1;have HT:=h_ fun wq (hq:Kp w wq Nul)=>jEL t sl F wq (hin.kp hq (fun _ _ x=>x))
 have HD:=h_ fun (h:t.size<=256) wq (hq:Kp w wq Nul)=>j9c t sl F wq (by omega) (hin.kp hq (fun _ _ x=>x))
 have HF:=h_ fun wq (hq:Kp w wq Nul)=>j9x t.size t sl F R wq (Nat.le_refl _) hok (hin.kp hq (fun _ _ x=>x)) (hU.kp hq)
 have hE:Hid (chk t=if 256<t.size then 34 else if 32<t.dep then 33 else t.fe R):=rfl;have HB:=h_ fun wq (hq:Kp W1 wq Nul)=>b1.kp hq (fun x=>x)
 have HK1:=h_ k1;clear hW1 k1 b1 hU hok hin;generalize chk t=ae at *;generalize t.size=sz at *;generalize t.dep=dp at *;generalize t.fe R=fe at *;generalize t.hd=h at *;go_enter func86,ntmps86;go_wp2_with fail;rw[HW1.o];refine(HT.o _ HK1.o).mono ?_;rintro e w1 ⟨rfl,hk1⟩;have HK2:=h_ hk1;have HB1:=h_ (HB.o w1 hk1);clear hk1 HT HW1;by_cases h1:256<sz
 ·rw[decide_eq_true h1];have HE:Hid (ae=34):=by show _=_;rw[hE.o,if_pos h1]
  go_wp2_with fail;go_ret;exact⟨rInt HE.o.symm,HK1.o.trans HK2.o⟩
 ·rw[decide_eq_false h1];have HD1:=h_ (HD.o (by omega));have hE2:Hid (ae=if 32<dp then 33 else fe):=by show _=_;rw[hE.o,if_neg h1]
  clear hE HD h1;go_wp2_with (first|(refine U0 rfl (.tmp 1) rfl w.heap.size rfl (h.cells sl).toArray HB1.o rfl ?_)|fail);refine(HD1.o _ (HK1.o.trans HK2.o)).mono ?_;rintro e w2 ⟨rfl,hg2⟩;have HK3:=h_ (HK2.o.trans (Kp.of_gr hg2));have HB2:=h_ (HB.o w2 HK3.o);clear hg2 HD1 HK2 HB1;by_cases h2:32<dp
  ·have j:(32:Int)<(dp:Int):=(by omega);have HE:Hid (ae=33):=(by show _=_;rw[hE2.o,if_pos h2]);go_wp2_with fail;go_ret;exact⟨rInt HE.o.symm,HK1.o.trans HK3.o⟩
  ·have j:¬(32:Int)<(dp:Int):=(by omega);have HE:Hid (ae=fe):=(by show _=_;rw[hE2.o,if_neg h2]);go_wp2_with (first|(refine U0 rfl (.tmp 1) rfl w.heap.size rfl (h.cells sl).toArray HB2.o rfl ?_)|fail);refine(HF.o _ (HK1.o.trans HK3.o)).mono ?_;rintro e w3 ⟨rfl,hk3⟩;have HK4:=h_ ((HK1.o.trans HK3.o).trans hk3);clear hk3 HF;go_wp2_with fail;go_ret;exact⟨rInt HE.o.symm,HK4.o⟩
end Go.Proofs.YtecjfnkakodebaaGreatDoor
namespace Go.Proofs.YtecjfnkakodebaaGreatDoor
open Go.RowKit
set_option maxRecDepth 20000 in
set_option maxHeartbeats 4000000 in
theorem jEY (v:Vl)(w:World)(aj:VS w):
 Calls prog 85 #[v.val] w fun e w'=>e=Q (E (J8 v (Lib.validD v.s.data.toList)))/\Kp w w' Nul:=by
 have H1:Hid (∀w,Calls prog 116 #[v.val] w fun e w'=>e=Q (E (J6 v))/\Gr w w'):=j4M v;have H2:Hid (∀w,Calls prog 118 #[O I v.f] w fun e w'=>e=Q (E (isF v.f))/\w'=w):=j5i v.f;have HU:Hid (v.s.size<=1024->∀wq,Kp w wq Nul->Calls prog 117 #[aq v.s] wq fun e w'=>e=Q (E (Lib.validD v.s.data.toList))/\Kp wq w' Nul):=fun hs wq hq=>aj v.s wq hs hq
 have hV:Hid (J8 v (Lib.validD v.s.data.toList)=(J6 v&&(v.k==0 || v.k==1 || v.k==3 || (v.k==2&&decide (v.s.size<=1024)&&Lib.validD v.s.data.toList)||(v.k==4&&isF v.f)))):=rfl;generalize J8 v (Lib.validD v.s.data.toList)=V at *;generalize J6 v=B at *;generalize isF v.f=ab at *;generalize Lib.validD v.s.data.toList=u at *;obtain⟨k,x,s,b,f⟩:=v;simp only at *;clear aj;go_enter func85,ntmps85;go_wp2_with fail;refine(H1.o _).mono ?_;rintro e w1 ⟨rfl,hg1⟩;have hcell:=hg1.ext.cell;have G1:Hid (Kp w w1 Nul):=((Kp.refl _ _).alloc _).trans (Kp.of_gr hg1);clear hg1 H1;cases B
 ·go_wp2_with fail;go_ret;exact⟨j4 (by rw[hV.o];rfl),G1.o⟩
 ·by_cases k2:k=2
  ·subst k2;by_cases hl:s.size<=1024
   ·have U2:Hid (∀wq,Kp w wq Nul->Calls prog 117 #[aq s] wq fun e w'=>e=Q (E u)/\Kp wq w' Nul):=HU.o hl;have HL:Hid (decide (s.size<=1024)=J):=(by show _=_;simp[hl]);have hl':(s.size:Int)<=1024:=(by omega);clear HU;go_wp2_with (go_at_call 117;refine(U2.o _ G1.o).mono ?_;rintro e w2 ⟨rfl,hg2⟩;have G2:=h_ (G1.o.trans hg2);clear hg2 hcell);all_goals
     go_ret;refine⟨j4 ?_,G2.o⟩;rw[hV.o,HL.o];cases u <;> simp
   ·have HL:Hid (decide (s.size<=1024)=R):=(by show _=_;simp[hl]);have hl':¬(s.size:Int)<=1024:=(by omega);have hl2:decide ((s.size:Int)<=1024)=R:=(by simp;omega);clear HU;go_wp2_with fail;all_goals
     go_ret;refine⟨j4 ?_,G1.o⟩;rw[hV.o,HL.o];simp
  ·clear HU;have HK2:Hid ((k==2)=R):=(by show _=_;simp[k2]);go_wp2_with (go_at_call 118;refine(H2.o _).mono ?_;rintro e w2 ⟨rfl,rfl⟩);all_goals
    go_ret;refine⟨j4 ?_,G1.o⟩;rw[hV.o];clear hV hcell H2;simp_all
def gv (c:Ct):Bool:=Q1 c (Lib.validD c.v.s.data.toList) (chk c.t)
set_option maxRecDepth 20000 in
set_option maxHeartbeats 8000000 in
theorem j1t (c:Ct)(sl:Value)(F:Nat->Prop)(w:World)(hok:c.t.ok)(hin:NdIn w F sl c.t)(aj:VS w):
 Calls prog 43 #[c.val sl] w fun e w'=>e=Q (E (gv c))/\Kp w w' Nul:=by
 have H1:Hid (∀w,Calls prog 83 #[c.v.val] w fun e w'=>e=Q (E (J9 c.v))/\Gr w w'):=jAZ c.v;have H2:Hid (∀wq,Kp w wq Nul->Calls prog 84 #[c.t.hd.val sl] wq fun e w'=>e=Q (E (I4 c.t))/\Gr wq w'):=fun wq hq=>jAY c.t sl F wq hok (hin.kp hq (fun _ _ x=>x))
 have H3:Hid (∀wq,Kp w wq Nul->Calls prog 85 #[c.v.val] wq fun e w'=>e=Q (E (J8 c.v (Lib.validD c.v.s.data.toList)))/\Kp wq w' Nul):=fun wq hq=>jEY c.v wq (aj.kp hq)
 have CK:Hid (∀wq,Kp w wq Nul->Calls prog 86 #[c.t.hd.val sl] wq fun e w'=>e=Q (O I (chk c.t))/\Kp wq w' Nul):=fun wq hq=>j4d c.t sl F wq hok (hin.kp hq (fun _ _ x=>x)) (aj.kp hq)
 have hV:Hid (gv c=((c.k==0&&(J9 c.v&&I4 c.t))||(c.k==1&&(c.v.k != 0&&J8 c.v (Lib.validD c.v.s.data.toList)&&I4 c.t))||(c.k==2&&(J9 c.v&&chk c.t==0)))):=rfl;generalize gv c=V at *;generalize J9 c.v=Z at *;generalize I4 c.t=ZN at *;generalize J8 c.v (Lib.validD c.v.s.data.toList)=VV at *;generalize chk c.t=ec at *;obtain⟨k,⟨vk,vx,vs,vb,vf⟩,t⟩:=c;simp only at *;clear aj hin hok;have GA:Hid (∀o,Kp w (w.alloc o) Nul):=fun o=>(Kp.refl w Nul).alloc _
 by_cases k0:k=0
 ·subst k0;clear H3 CK;go_enter func43,ntmps43;go_wp2_with fail;refine(H1.o _).mono ?_;rintro e w1 ⟨rfl,hg1⟩;have hcell:=hg1.ext.cell;have G1:Hid (Kp w w1 Nul):=(GA.o _).trans (Kp.of_gr hg1);clear hg1 H1;cases Z
  ·go_wp2_with fail;go_ret;exact⟨j4 (by rw[hV.o];rfl),G1.o⟩
  ·go_wp2_with fail;refine(H2.o _ G1.o).mono ?_;rintro e w2 ⟨rfl,hg2⟩;have G2:Hid (Kp w w2 Nul):=G1.o.trans (Kp.of_gr hg2);clear hg2 H2 hcell;go_wp2_with fail;go_ret;exact⟨j4 (by rw[hV.o];cases ZN <;> rfl),G2.o⟩
 ·by_cases k1:k=1
  ·have H4:Hid (∀wq,Kp w wq Nul->Calls prog 85 #[T #[O I vk,ap ao vx,aq vs,E vb,O I vf]] wq fun e w'=>e=Q (E VV)/\Kp wq w' Nul):=H3.o;subst k1;clear H3 CK H1;by_cases v0:vk=0
   ·subst v0;go_enter func43,ntmps43;go_wp2_with fail;go_ret;exact⟨j4 (by rw[hV.o];rfl),GA.o _⟩
   ·have hv0:(vk != 0)=J:=(by simpa using v0);go_enter func43,ntmps43;go_wp2_with fail;refine(H4.o _ (GA.o _)).mono ?_;rintro e w1 ⟨rfl,hg1⟩;have G1:Hid (Kp w w1 Nul):=(GA.o _).trans hg1;have hcell:∀a:Addr,a.block<w.heap.size+1->w1.cell? a=(w.alloc (.cells #[O I 1,O I vk,ap ao vx,aq vs,E vb,O I vf,O I t.hd.k,O I t.hd.o,ap ao t.hd.x,aq t.hd.s,E t.hd.b,O I t.hd.f,O I t.hd.c1,O I t.hd.r1,E t.hd.p1,E t.hd.q1,O I t.hd.c2,O I t.hd.r2,E t.hd.p2,E t.hd.q2,sl] 50)).cell? a:=fun a ha=>by
     have:=hg1.block a.block (by rw[World.size_alloc];exact ha) (fun x=>x);simp only[World.cell?,this]
    clear hg1 H4;cases VV
    ·go_wp2_with fail;go_ret;exact⟨j4 (by rw[hV.o,hv0];rfl),G1.o⟩
    ·go_wp2_with fail;refine(H2.o _ G1.o).mono ?_;rintro e w2 ⟨rfl,hg2⟩;have G2:Hid (Kp w w2 Nul):=G1.o.trans (Kp.of_gr hg2);clear hg2 H2 hcell;go_wp2_with fail;go_ret;exact⟨j4 (by rw[hV.o,hv0];cases ZN <;> rfl),G2.o⟩
  ·by_cases k2:k=2
   ·subst k2;clear H3 H2;go_enter func43,ntmps43;go_wp2_with fail;refine(H1.o _).mono ?_;rintro e w1 ⟨rfl,hg1⟩;have hcell:=hg1.ext.cell;have G1:Hid (Kp w w1 Nul):=(GA.o _).trans (Kp.of_gr hg1);clear hg1 H1;cases Z
    ·go_wp2_with fail;go_ret;exact⟨j4 (by rw[hV.o];rfl),G1.o⟩
    ·go_wp2_with fail;refine(CK.o _ G1.o).mono ?_;rintro e w2 ⟨rfl,hg2⟩;have G2:Hid (Kp w w2 Nul):=G1.o.trans hg2;clear hg2 CK hcell;go_wp2_with fail;all_goals
      go_ret;refine⟨j4 ?_,G2.o⟩;rw[hV.o];simp_all
   ·have h0:(k==0)=R:=(by simpa using k0);have h1:(k==1)=R:=(by simpa using k1);have h2:(k==2)=R:=(by simpa using k2);clear H1 H2 H3 CK;go_enter func43,ntmps43;go_wp2_with fail;go_ret;exact⟨j4 (by rw[hV.o,h0,h1,h2];rfl),GA.o _⟩
end Go.Proofs.YtecjfnkakodebaaGreatDoor
namespace Go.Proofs.YtecjfnkakodebaaGreatDoor
open Go.RowKit Go.Maps
mutual
theorem NdIn.monoC {w w':World}{F F':Nat->Prop}(hF:∀b,F b->(∃o k x,w.cell? ⟨b,o,G⟩=H (.int k x))->w'.heap[b]? = w.heap[b]? /\ F' b){sl:Value}:∀ {t:Nd},NdIn w F sl t->NdIn w' F' sl t
 | .mk _ ts,h=>by
  rw[NdIn] at h ⊢;obtain⟨a,c,h1,h2,h3,h4⟩:=h;refine⟨a,c,h1,h2,h3,?_⟩;rcases h4 with h4|⟨b,o,h4,h5,h6⟩
  ·exact .inl h4
  ·cases ts with
   | nil=>
    subst h4;exact .inl ⟨rfl,.inr (by simp)⟩
   | cons t ts=>
    have hb:∃o k x,w.cell? ⟨b,o,G⟩=H (.int k x):=by
     rw[F6] at h6;obtain⟨⟨_,h7,_⟩,_⟩:=h6;exact⟨o+0,_,_,h7 0 _ rfl⟩
    exact .inr ⟨b,o,h4,(hF b h5 hb).2,F6.monoC hF (hF b h5 hb).1 h6⟩
theorem F6.monoC {w w':World}{F F':Nat->Prop}(hF:∀b,F b->(∃o k x,w.cell? ⟨b,o,G⟩=H (.int k x))->w'.heap[b]? = w.heap[b]? /\ F' b){b:Nat}(hb:w'.heap[b]? = w.heap[b]?):∀ {ts:List Nd} {o:Nat},F6 w F b o ts->F6 w' F' b o ts
 | [],_,_=>by rw[F6];trivial
 | t::ts,o,h=>by
  rw[F6] at h ⊢;obtain⟨⟨sl,h1,h2⟩,h3⟩:=h;exact⟨⟨sl,I7 h1 hb,NdIn.monoC hF h2⟩,F6.monoC hF hb h3⟩
end
theorem j4b {w:World}{b o:Nat}{k:IntKind}{x:Int}(h:w.cell? ⟨b,o,G⟩=H (.int k x)):∃cs t f,w.heap[b]? = H (.cells cs t f)/\cs[o]? = H (.int k x):=by
 simp only[World.cell?] at h;cases e:w.heap[b]? with
 | none=>rw[e] at h;cases h
 | some ob=>
  rw[e] at h;cases ob <;> simp at h
  exact⟨_,_,_,rfl,h⟩
abbrev GI (B:Nat) (w:World) (g:Nat) (L:List Cc):Prop:=j6 w (fun i=>B<=i) g L
theorem GI.blk {B:Nat}{w:World}{g:Nat}{L:List Cc}(h:GI B w g L):∃mv,Blk w g [.map mv] 96:=by
 obtain⟨_,⟨hb,_⟩|⟨m,D,hb,_⟩⟩:=h
 ·exact⟨_,hb⟩
 ·exact⟨_,hb⟩
def delL (L:List Cc) (k:Int×Int):List Cc:=L.filter (fun x=>decide (x.1≠k))
theorem Y4 {L:List Cc}{k:Int×Int}(x:Cc):x∈delL L k↔x∈L/\x.1≠k:=by
 unfold delL;rw[List.mem_filter];simp
theorem jAD {w w':World}{F:Nat->Prop}{D:DataW Value}{L:List Cc}{m n:Nat}{c r:Int}(hown:w.ownsMap prog 32 rawE m n D)(hm:j0N w F D L)(hc:I64 c)(hr:I64 r)(hold:∀sl t,NdIn w F sl t->NdIn w' F sl t):
 j0N w' F (D.del (kl c r)) (delL L (c,r)):=by
 have hT:=hown.tidy Q2;have hne:∀x y,I64 x->I64 y->(x,y)≠(c,r)->kl x y≠kl c r:=fun x y hx hy h e=>h (by
  have:=j1x hx hy hc hr e;exact Prod.ext this.1 this.2)
 refine⟨?_,fun x hx=>hm.rng x ((Y4 x).1 hx).1,fun x y hx hy=>?_,fun x y ct' h=>?_,List.Pairwise.filter _ hm.once⟩
 ·have h1:=size_del (k:=kl c r) hT;rw[hm.size] at h1;unfold delL;by_cases hh:Maps.has D (kl c r)=J
  ·obtain⟨ct',hmem⟩:=(hm.keys c r hc hr).1 hh;have h2:=j1E hm.once hmem;rw[if_pos hh] at h1;omega
  ·rw[if_neg hh] at h1;rw[j1q (fun ct' hmem=>hh ((hm.keys c r hc hr).2 ⟨ct',hmem⟩))];omega
 ·by_cases e:(x,y)=(c,r)
  ·cases e
   rw[has_del_same];constructor
   ·intro h;cases h
   ·rintro⟨ct',h⟩;exact absurd rfl ((Y4 _).1 h).2
  ·rw[has_del_other (hne x y hx hy e),hm.keys x y hx hy];constructor
   ·rintro⟨ct',h⟩;exact⟨ct',(Y4 _).2 ⟨h,e⟩⟩
   ·rintro⟨ct',h⟩;exact⟨ct',((Y4 _).1 h).1⟩
 ·obtain⟨h,e⟩:=(Y4 _).1 h;have hxy:=hm.rng _ h;obtain⟨sl',e1,e2⟩:=hm.vals x y ct' h;exact⟨sl',by rw[atKey_del_other (hne x y hxy.1 hxy.2 e)];exact e1,hold _ _ e2⟩
theorem j1H {B:Nat}{w:World}{g:Nat}{L:List Cc}(h:GI B w g L):∃mv,Blk w g [.map mv] 96/\∀w',Kp w w' Nul->∀ty,(Builtin.len_ #[94] ty #[.map mv]).run prog w'=.ok (O I L.length) w':=by
 obtain⟨_,⟨hb,rfl⟩|⟨m,D,hb,_,hne,hown,hm⟩⟩:=h
 ·exact⟨G,hb,fun w' _ ty=>Maps.len_nil underlying94 ty⟩
 ·refine⟨H m,hb,fun w' k ty=>?_⟩;have:=(j0T hown (k.block m hown.lt (fun x=>x))).len underlying94 ty;rw[hm.size] at this;exact this
end Go.Proofs.YtecjfnkakodebaaGreatDoor
namespace Go.Proofs.YtecjfnkakodebaaGreatDoor
open Go.RowKit Go.Maps
set_option maxRecDepth 20000 in
set_option maxHeartbeats 8000000 in
theorem j5O (g:Nat)(c r:Int)(mv:Option Nat)(cs:Array Value)(B:Bool)(w:World)(hcs:cs.size=21)(hone:cs.all (·.oneCell')=J)(hlk:Lk w g c r mv (T cs) B):
 Calls prog 45 #[an (H ⟨g,0,G⟩),T #[O I c,O I r]] w fun e w'=>e=Q (E B)/\Kp w w' Nul:=by
 obtain⟨W1,hW1⟩:=e_ (w.alloc (.cells #[O I c,O I r] 32));have k1:Kp w W1 Nul:=by rw[<- hW1];exact(Kp.refl w Nul).alloc _
 have hA1:Blk W1 w.heap.size [O I c,O I r] 32:=by rw[<- hW1];exact Blk.new w [O I c,O I r] _
 have hglt:=(Array.getElem?_eq_some_iff.1 hlk.cell).1;have hg1:Blk W1 g [.map mv] 96:=(k1.block g hglt (fun x=>x)).trans hlk.cell;have HS:Hid (∀wq,Kp W1 wq Nul->(wq.cell? ⟨w.heap.size,0,G⟩=H (O I c)/\wq.cell? ⟨w.heap.size,1,G⟩=H (O I r)/\wq.cell? ⟨g,0,G⟩=H (.map mv)/\(Instr.lookup 94 (.map mv) (T #[O I c,O I r]) J).run prog wq=.ok (au #[T cs,E B]) wq)):=fun wq k=>⟨(hA1.kp k (fun x=>x)).cell rfl,(hA1.kp k (fun x=>x)).cell rfl,(hg1.kp k (fun x=>x)).cell rfl,hlk.two wq (fun m hm=>by
  have h2:=(hlk.ne m hm).2;have h3:=k1.size;exact(k.block m (by omega) (fun x=>x)).trans (k1.block m h2 (fun x=>x)))⟩
 have HW1:=h_ hW1;have HK1:=h_ k1;have HCS:=h_ hcs;have HONE:=h_ hone;clear hW1 k1 hA1 hg1 hlk hglt hcs hone;go_enter func45,ntmps45;go_wp2_with fail;rw[HW1.o];clear HW1;refine wp_region_noPanic ?_;refine I0 (fun w':World=>Kp W1 w' Nul) (by kernel_rfl) ((Kp.refl W1 _).drew) (fun hHeld=>?_);refine tk 0 8 hHeld ?_ (hy:=by intro w' hSw;obtain⟨s0,s1,s2,s3⟩:=HS.o _ hSw;clear hSw;go_simp;try with_reducible rfl);refine tk 1 9 hHeld ?_ (hy:=by intro w' hSw;obtain⟨s0,s1,s2,s3⟩:=HS.o _ hSw;clear hSw;go_simp;try with_reducible rfl);refine tk 2 10 hHeld ?_ (hy:=by intro w' hSw;obtain⟨s0,s1,s2,s3⟩:=HS.o _ hSw;clear hSw;go_simp;try with_reducible rfl);refine tk 3 11 hHeld ?_ (hy:=by intro w' hSw;obtain⟨s0,s1,s2,s3⟩:=HS.o _ hSw;clear hSw;go_simp;try with_reducible rfl);refine tk 4 12 hHeld ?_ (hy:=by intro w' hSw;obtain⟨s0,s1,s2,s3⟩:=HS.o _ hSw;clear hSw;go_simp;try with_reducible rfl)
 refine tk 5 13 hHeld ?_ (hy:=by intro w' hSw;obtain⟨s0,s1,s2,s3⟩:=HS.o _ hSw;clear hSw;go_simp;try with_reducible rfl);refine tk 6 7 hHeld ?_ (hy:=by intro w' hSw;obtain⟨s0,s1,s2,s3⟩:=HS.o _ hSw;clear hSw;go_simp;try with_reducible rfl);refine tk 7 14 hHeld ?_ (hy:=by intro w' hSw;obtain⟨s0,s1,s2,s3⟩:=HS.o _ hSw;clear hSw;go_simp;try with_reducible rfl);refine tk 8 15 hHeld ?_ (hy:=by intro w' hSw;obtain⟨s0,s1,s2,s3⟩:=HS.o _ hSw;clear hSw;go_simp;try with_reducible rfl);refine D6 (i:=9) (by kernel_rfl) rfl rfl (fun K hK=>?_);go_simp;obtain⟨W2,hW2⟩:=e_ ((W1.alloc (.cells #[O I 0,O I 0,ap ao 0,aq ⟨#[]⟩,E R,O I 0,O I 0,O I 0,ap ao 0,aq ⟨#[]⟩,E R,O I 0,O I 0,O I 0,E R,E R,O I 0,O I 0,E R,E R,U G 0 0] 50)).drew);have k12:Kp W1 W2 Nul:=by rw[<- hW2];exact((Kp.refl W1 Nul).alloc _).drew
 have hB2:W2.heap[W1.heap.size]? = H (.cells #[O I 0,O I 0,ap ao 0,aq ⟨#[]⟩,E R,O I 0,O I 0,O I 0,ap ao 0,aq ⟨#[]⟩,E R,O I 0,O I 0,O I 0,E R,E R,O I 0,O I 0,E R,E R,U G 0 0] 50 (0,0)):=by rw[<- hW2];exact heap_alloc_new W1 _
 rw[hW2];refine hK.o _ _ k12 (fun hHeld2=>?_);clear hK K hHeld hW2;refine D6 (i:=10) (by kernel_rfl) rfl rfl (fun K hK=>?_);refine wp_store_mid 50 (.tmp 5) (.tmp 14) rfl W1.heap.size 0 cs rfl rfl (J5 hB2 _ _ (by rw[HCS.o];simp)) (by rw[HCS.o];exact D9) HONE.o ?_;obtain⟨W5,hW5⟩:=e_ (W2.setCells W1.heap.size 0 cs.toList);have k25:Kp W2 W5 (fun i=>i=W1.heap.size):=by rw[<- hW5];exact O6 (fun i=>i=W1.heap.size) rfl _ _ _
 have k15:=k12.trans' k25 (fun i hi e=>by have:i=W1.heap.size:=e;omega);show K _ (W2.setCells W1.heap.size 0 cs.toList);rw[hW5];refine hK.o _ _ k15 (fun hHeld3=>?_);have HEND:=h_ (HK1.o.trans k15);clear hK K hHeld2 k12 k25 k15 hB2 hW5 HS HK1;refine G7 (i:=11) (v:=?_) (H 6) rfl rfl (by kernel_rfl) (fun _ _ _ h=>h) (Or.inl ⟨by rfl,?_⟩) hHeld3 ?_;rotate_left
 ·intro w' hSw;clear hSw;go_simp;try with_reducible rfl
 simp only[Act.put,List.setIfInBounds_toArray];refine wpAnyH_done (by kernel_rfl) ?_ _;refine NoPanic.normal ?_;clear hHeld3;go_wp2_with fail;go_ret;exact⟨rfl,HEND.o⟩
end Go.Proofs.YtecjfnkakodebaaGreatDoor
namespace Go.Proofs.YtecjfnkakodebaaGreatDoor
open Go.RowKit Go.Maps
theorem GI.once {B:Nat}{w:World}{g:Nat}{L:List Cc}(h:GI B w g L):L.Pairwise (fun x y=>x.1≠y.1):=by
 obtain⟨_,⟨_,rfl⟩|⟨m,D,_,_,_,_,hm⟩⟩:=h
 ·exact List.Pairwise.nil
 ·exact hm.once
theorem j6M {L:List Cc}{k:Int×Int}{ct:Ct}(ho:L.Pairwise (fun x y=>x.1≠y.1))(h:∃c',(k,c')∈L):(putL L k ct).length=L.length:=by
 obtain⟨c',hc⟩:=h;unfold putL;rw[List.length_cons,j1E ho hc]
theorem j6N {L:List Cc}{k:Int×Int}{ct:Ct}(h:∀c',(k,c')∉L):(putL L k ct).length=L.length+1:=by
 unfold putL;rw[List.length_cons,j1q h]
theorem j3A {B0:Nat}{w:World}{g:Nat}{L:List Cc}(h:GI B0 w g L){c r:Int}(hc:I64 c)(hr:I64 r):
 ∃B,((B=J/\∃ct,((c,r),ct)∈L)∨(B=R/\∀ct,((c,r),ct)∉L))/\∀wq,Kp w wq Nul->Calls prog 45 #[an (H ⟨g,0,G⟩),T #[O I c,O I r]] wq fun e w'=>e=Q (E B)/\Kp wq w' Nul:=by
 obtain⟨mv,v,B,hlk,hv⟩:=j3M h hc hr;have hlk':∀wq,Kp w wq Nul->Lk wq g c r mv v B:=fun wq k=>⟨(k.block g (Array.getElem?_eq_some_iff.1 hlk.cell).1 (fun x=>x)).trans hlk.cell,fun m hm=>⟨(hlk.ne m hm).1,Nat.lt_of_lt_of_le (hlk.ne m hm).2 k.size⟩,fun w' hw'=>hlk.two w' (fun m hm=>(hw' m hm).trans (k.block m (hlk.ne m hm).2 (fun x=>x))),fun w' hw'=>hlk.one w' (fun m hm=>(hw' m hm).trans (k.block m (hlk.ne m hm).2 (fun x=>x)))⟩
 rcases hv with ⟨rfl,ct,sl,h1,rfl,h3⟩|⟨rfl,rfl,h2⟩
 ·exact⟨J,.inl ⟨rfl,ct,h1⟩,fun wq k=>j5O g c r mv (ct.cells sl).toArray J wq rfl (ct.one h3.one) (hlk' wq k)⟩
 ·exact⟨R,.inr ⟨rfl,h2⟩,fun wq k=>j5O g c r mv _ R wq rfl (Ct.one ⟨0,⟨0,0,⟨#[]⟩,R,0⟩,zNd⟩ (sl:=U G 0 0) rfl) (hlk' wq k)⟩
set_option maxRecDepth 20000 in
set_option maxHeartbeats 8000000 in
theorem j3f (B g:Nat)(c r:Int)(hx:vC c r=J)(ct:Ct)(hct:ct.k≠0)(sl:Value)(L:List Cc)(w:World)(h:GI B w g L)(hlen:4096<=L.length)(hno:∀c',((c,r),c')∉L)
 (hval:∀wq,Kp w wq Nul->Calls prog 43 #[ct.val sl] wq fun e w'=>e=Q (E J)/\Kp wq w' Nul) :
 Calls prog 11 #[an (H ⟨g,0,G⟩),T #[O I c,O I r],ct.val sl] w fun e w'=>e=Q (O I 41)/\Kp w w' Nul:=by
 have hi:I64 c/\I64 r:=by
  have:=(G6 c r).1 hx;unfold I64;omega
 obtain⟨W1,hW1⟩:=e_ ((w.alloc (.cells #[O I c,O I r] 32)).alloc (.cells (ct.cells sl).toArray 50));have k1:Kp w W1 Nul:=by rw[<- hW1];exact((Kp.refl w Nul).alloc _).alloc _
 have hA1:Blk W1 w.heap.size [O I c,O I r] 32:=by rw[<- hW1];exact(Blk.new w [O I c,O I r] _).alloc _
 have hC1:Blk W1 (w.heap.size+1) (ct.cells sl) 50:=by
  have:=Blk.new (w.alloc (.cells #[O I c,O I r] 32)) (ct.cells sl) 50;rw[World.size_alloc] at this;rw[<- hW1];exact this
 have HC1:Hid (((w.alloc (.cells #[O I c,O I r] 32)).alloc (.cells (ct.cells sl).toArray 50)).heap[w.heap.size+1]? = H (.cells (ct.cells sl).toArray 50 (0,0))):=by show _=_;rw[hW1];exact hC1
 have HW1:=h_ hW1;obtain⟨mv,hgb⟩:=h.blk;have hglt0:=hgb.lt;have hgB:=h.1;have HS:Hid (∀wq,Kp W1 wq Nul->(wq.cell? ⟨w.heap.size,0,G⟩=H (O I c)/\wq.cell? ⟨w.heap.size,1,G⟩=H (O I r)/\wq.cell? ⟨w.heap.size+1,0,G⟩=H (O I ct.k))):=fun wq k=>⟨(hA1.kp k (fun x=>x)).cell rfl,(hA1.kp k (fun x=>x)).cell rfl,(hC1.kp k (fun x=>x)).cell (i:=0) rfl⟩
 have HV:=h_ (hval W1 k1);have HA:Hid (∀w,Calls prog 44 #[T #[O I c,O I r]] w fun e w'=>e=Q (E J)/\Kp w w' Nul):=fun w=>(U5 c r w).mono fun e w' ⟨h1,h2⟩=>⟨by rw[h1,hx],by rw[h2];exact(Kp.refl w Nul).alloc _⟩
 have HK1:=h_ k1;obtain⟨mv',hgb',hlenq⟩:=j1H h;have HG:Hid (∀wq,Kp W1 wq Nul->wq.cell? ⟨g,0,G⟩=H (.map mv')/\∀ty,(Builtin.len_ #[94] ty #[.map mv']).run prog wq=.ok (O I L.length) wq):=fun wq k=>⟨(hgb'.kp (k1.trans k) (fun x=>x)).cell rfl,hlenq wq (k1.trans k)⟩
 obtain⟨b0,hB,hhas⟩:=j3A h hi.1 hi.2;have hBf:b0=R:=by
  rcases hB with hB|hB
  ·obtain⟨_,c',hc'⟩:=hB;exact absurd hc' (hno c')
  ·exact hB.1
 subst hBf;have HH:=h_ fun wq (k:Kp W1 wq Nul)=>hhas wq (k1.trans k)
 have hk0:(ct.k==0)=R:=by simpa using hct
 have j:(4096:Int)<=(L.length:Int):=by omega
 clear hval hW1 k1 hA1 hC1 hx hi hct hglt0 hgB h hlen hno hgb hgb' hlenq hhas hB mv;go_enter func11,ntmps11;go_wp2_with (first|(refine j1O rfl (.tmp 5) rfl (w.heap.size+1) rfl _ HC1.o rfl ?_)|fail);rw[HW1.o];refine HV.o.mono ?_;rintro e w2 ⟨rfl,hk2⟩;obtain⟨a1,a2,a3⟩:=HS.o w2 hk2;have HK2:=h_ hk2;clear hk2 HV HC1 HW1;go_wp2_with fail;refine(HA.o _).mono ?_;rintro e w3 ⟨rfl,hk3⟩;obtain⟨b1,b2,b3⟩:=HS.o w3 (HK2.o.trans hk3);obtain⟨b4,hl3⟩:=HG.o w3 (HK2.o.trans hk3);have HK3:=h_ (HK2.o.trans hk3);clear hk3 HA a1 a2 a3 HK2;go_wp2_with fail;refine(HH.o _ HK3.o).mono ?_;rintro e w4 ⟨rfl,hk4⟩;have HK4:=h_ ((HK1.o.trans HK3.o).trans hk4);clear hk4 b1 b2 b3 b4 hl3 HK3;go_wp2_with fail;go_ret;exact⟨rfl,HK4.o⟩
end Go.Proofs.YtecjfnkakodebaaGreatDoor
namespace Go.Proofs.YtecjfnkakodebaaGreatDoor
open Go.RowKit Go.Maps
def Sm (w:World) (g:Nat):Nat->Prop:=fun i=>i=g∨(w.heap[g]? = H (.cells #[.map (H i)] 96 (0,0))/\∀cs t f,w.heap[i]? ≠ H (.cells cs t f))
structure Km (g:Nat) (w w':World):Prop where
 kp:Kp w w' (Sm w g)
 own:∀m,w'.heap[g]? = H (.cells #[.map (H m)] 96 (0,0))->w.heap[g]? = H (.cells #[.map (H m)] 96 (0,0))∨w.heap.size<=m
theorem Km.trans {g:Nat}{w w1 w2:World}(h:Km g w w1)(k:Km g w1 w2):Km g w w2:=by
 refine⟨⟨k.kp.os.trans h.kp.os,k.kp.tape.trans h.kp.tape,k.kp.output.trans h.kp.output,Nat.le_trans h.kp.size k.kp.size,fun i hi hs=>?_⟩,fun m hm=>?_⟩
 ·have h1:=h.kp.block i hi hs;refine(k.kp.block i (Nat.lt_of_lt_of_le hi h.kp.size) (fun q=>?_)).trans h1;rcases q with q|⟨q1,q2⟩
  ·exact hs (.inl q)
  ·rcases h.own i q1 with e|e
   ·exact hs (.inr ⟨e,fun cs t f q=>q2 cs t f (h1.trans q)⟩)
   ·omega
 ·rcases k.own m hm with e|e
  ·exact h.own m e
  ·exact .inr (Nat.le_trans h.kp.size e)
theorem Km.of_nul {g:Nat}{w w':World}(h:Kp w w' Nul)(hg:g<w.heap.size):Km g w w':=
 ⟨h.of_nul,fun m hm=>.inl (by rw[<- h.block g hg (fun x=>x)];exact hm)⟩
theorem j2Y {g b:Nat}{w w':World}{cs:List Value}{t:TypeId}(h:Kp w w' (Sm w g))(hb:Blk w b cs t)(hne:b≠g):Blk w' b cs t:=
 hb.kp h (fun q=>by
  rcases q with q|q
  ·exact hne q
  ·exact q.2 _ _ _ hb)
theorem Km.blk {g b:Nat}{w w':World}{cs:List Value}{t:TypeId}(h:Km g w w')(hb:Blk w b cs t)(hne:b≠g):Blk w' b cs t:=j2Y h.kp hb hne
theorem j63 {w:World}{g o:Nat}{mv:Option Nat}{k:IntKind}{x:Int}(hg:Blk w g [.map mv] 96)(hc:w.cell? ⟨g,o,G⟩=H (.int k x)):False:=by
 rw[hg.at'] at hc;cases o <;> simp at hc
theorem NdIn.km {g:Nat}{w w':World}{F:Nat->Prop}{sl:Value}{t:Nd}(h:NdIn w F sl t)(k:Km g w w'){mv:Option Nat}(hg:Blk w g [.map mv] 96):NdIn w' F sl t:=
 h.monoC fun b hb hc=>by
  obtain⟨o,q,x,hc⟩:=hc;obtain⟨cs,ty,f,e1,e2⟩:=j4b hc;refine⟨k.kp.block b (Array.getElem?_eq_some_iff.1 e1).1 (fun q=>?_),hb⟩;rcases q with q|q
  ·subst q;exact j63 hg hc
  ·exact q.2 _ _ _ e1
theorem j3V {w:World}{m n:Nat}{D:DataW Value}(hown:w.ownsMap prog 32 rawE m n D):∀cs t f,w.heap[m]? ≠ H (.cells cs t f):=fun cs t f q=>by
 obtain⟨es,clock,h1,_⟩:=hown;rw[h1] at q;cases q
theorem j6.mono {w:World}{F ah:Nat->Prop}{g:Nat}{L:List Cc}(h:j6 w F g L)(hFG:∀i,F i->ah i):j6 w ah g L:=by
 obtain⟨hg,⟨q1,q2⟩|⟨m,D,q1,q2,q3,q4,q5⟩⟩:=h
 ·exact⟨hFG _ hg,.inl ⟨q1,q2⟩⟩
 ·exact⟨hFG _ hg,.inr ⟨m,D,q1,hFG _ q2,q3,q4,⟨q5.size,q5.rng,q5.keys,fun c r ct hc=>by obtain⟨sl,e1,e2⟩:=q5.vals c r ct hc;exact⟨sl,e1,e2.mono (fun b hb _=>⟨rfl,hFG _ hb⟩)⟩,q5.once⟩⟩⟩
theorem j5k (ah:Nat->Prop)(g:Nat)(c r:Int)(hc:I64 c)(hr:I64 r)(ct:Ct)(sl:Value)(L:List Cc)(w:World)(h:j6 w ah g L)(hroom:(putL L (c,r) ct).length<=4096)(hin:NdIn w ah sl ct.t)(hnew:∀i,w.heap.size<=i->ah i):
 Calls prog 46 #[an (H ⟨g,0,G⟩),T #[O I c,O I r],ct.val sl] w fun e w'=>e=Q (au #[])/\j6 w' ah g (putL L (c,r) ct)/\Km g w w':=by
 obtain⟨hg,⟨hb,rfl⟩|⟨m,D,hb,hFm,hne,hown,hm⟩⟩:=h
 ·have hb':=hb;have hin':NdIn w (fun b=>((b=g∨(∃cs t f,w.heap[b]? = H (.cells cs t f))∨w.heap.size<=b)/\ah b)/\b≠g/\b<w.heap.size) sl ct.t:=hin.monoC fun b hG hc=>by
   obtain⟨o,q,x,hc⟩:=hc;obtain⟨cs,ty,f,e1,e2⟩:=j4b hc;exact⟨rfl,⟨.inr (.inl ⟨cs,ty,f,e1⟩),hG⟩,fun e=>by subst e;exact j63 hb' hc,(Array.getElem?_eq_some_iff.1 e1).1⟩
  refine(jAb g c r hc hr ct sl (fun b=>(b=g∨(∃cs t f,w.heap[b]? = H (.cells cs t f))∨w.heap.size<=b)/\ah b) w hb ⟨.inl rfl,hg⟩ (fun i hi=>⟨.inr (.inr hi),hnew i hi⟩) hin').mono ?_;rintro e w' ⟨rfl,h1,h2⟩;refine⟨rfl,j6.mono h1 (fun i q=>q.2),h2.mono (fun i _ e=>.inl e),fun m hm=>?_⟩
  ·obtain⟨_,⟨q1,q2⟩|⟨m',D,q1,q2,q3,q4,q5⟩⟩:=h1
   ·rw[q1] at hm;simp at hm
   ·rw[q1] at hm;have e:m'=m:=(by simpa using hm);subst e;rcases q2.1 with q|⟨cs,t,f,q⟩|q
    ·exact absurd q q3
    ·exfalso
     refine j3V q4 cs t f ((h2.block m' (Array.getElem?_eq_some_iff.1 q).1 q3).trans q)
    ·exact .inr q
 ·have hbk:Blk w g [.map (H m)] 96:=hb;have kmof:∀w',Kp w w' (fun i=>i=m)->Km g w w':=fun w' k=>⟨k.mono (fun i _ e=>by have e':i=m:=e;subst e';exact .inr ⟨hb,j3V hown⟩),fun m' hm'=>.inl (by rw[<- k.block g hbk.lt (fun e=>hne e.symm)];exact hm')⟩
  refine(jAc g m c r hc hr ct sl ah D L w hb hg hFm hne hown hm hroom hin (fun w' hk sl t ht=>ht.km (kmof w' hk) hbk)).mono ?_;rintro e w' ⟨rfl,h1,h2⟩;exact⟨rfl,h1,kmof w' h2⟩
theorem jA5 {w:World}{ah:Nat->Prop}{g:Nat}{L:List Cc}(h:j6 w ah g L){c r:Int}(hc:I64 c)(hr:I64 r):∃mv w',w.cell? ⟨g,0,G⟩=H (.map mv)/\(∀ty,(Builtin.delete_ #[94,32] ty #[.map mv,T #[O I c,O I r]]).run prog w=.ok (au #[]) w')/\j6 w' ah g (delL L (c,r))/\Km g w w':=by
 have hkey:=X0 hc hr;obtain⟨hg,⟨hb,rfl⟩|⟨m,D,hb,hFm,hne,hown,hm⟩⟩:=h
 ·have hbk:Blk w g [.map G] 96:=hb;exact⟨G,w,Blk.cell (cs:=[.map G]) hb rfl,fun ty=>Maps.drop_nil Q2 underlying94 hkey ty,⟨hg,.inl ⟨hb,rfl⟩⟩,Km.of_nul (Kp.refl _ _) hbk.lt⟩
 ·have hbk:Blk w g [.map (H m)] 96:=hb;obtain⟨w',h1,h2,h3⟩:=hown.drop Q2 underlying94 hkey 0;have k:=Kp.of_turned h3;have km:Km g w w':=⟨k.mono (fun i _ e=>by have e':i=m:=e;subst e';exact .inr ⟨hb,j3V hown⟩),fun m' hm'=>.inl (by rw[<- k.block g hbk.lt (fun e=>hne e.symm)];exact hm')⟩;have hd:=jAD hown hm hc hr (fun sl t ht=>ht.km km hbk);exact⟨H m,w',Blk.cell (cs:=[.map (H m)]) hb rfl,fun ty=>h1,⟨hg,.inr ⟨m,_,(k.block g hbk.lt (fun e=>hne e.symm)).trans hb,hFm,hne,h2,hd⟩⟩,km⟩
end Go.Proofs.YtecjfnkakodebaaGreatDoor
namespace Go.Proofs.YtecjfnkakodebaaGreatDoor
open Go.RowKit Go.Maps
set_option maxRecDepth 20000 in
set_option maxHeartbeats 8000000 in
theorem j3g (ah:Nat->Prop)(g:Nat)(c r:Int)(hx:vC c r=J)(ct:Ct)(hct:ct.k≠0)(sl:Value)(L:List Cc)(w:World)(h:GI 0 w g L)(hG:j6 w ah g L)(hnew:∀i,w.heap.size<=i->ah i)(hlen:L.length<=4096)(hroom:L.length<4096∨∃c',((c,r),c')∈L)
 (hval:∀wq,Kp w wq Nul->Calls prog 43 #[ct.val sl] wq fun e w'=>e=Q (E J)/\Kp wq w' Nul)
 (hcp:∀wq,Kp w wq Nul->Calls prog 47 #[ct.val sl] wq fun e w'=>∃sl' fp,e=Q ((cpC ct).val sl')/\Own w' wq.heap.size sl' (cpC ct).t fp/\Kp wq w' Nul) :
 Calls prog 11 #[an (H ⟨g,0,G⟩),T #[O I c,O I r],ct.val sl] w fun e w'=>e=Q (O I 0)/\j6 w' ah g (putL L (c,r) (cpC ct))/\Km g w w':=by
 have hi:I64 c/\I64 r:=by
  have:=(G6 c r).1 hx;unfold I64;omega
 obtain⟨W1,hW1⟩:=e_ ((w.alloc (.cells #[O I c,O I r] 32)).alloc (.cells (ct.cells sl).toArray 50));have k1:Kp w W1 Nul:=by rw[<- hW1];exact((Kp.refl w Nul).alloc _).alloc _
 have hA1:Blk W1 w.heap.size [O I c,O I r] 32:=by rw[<- hW1];exact(Blk.new w [O I c,O I r] _).alloc _
 have hC1:Blk W1 (w.heap.size+1) (ct.cells sl) 50:=by
  have:=Blk.new (w.alloc (.cells #[O I c,O I r] 32)) (ct.cells sl) 50;rw[World.size_alloc] at this;rw[<- hW1];exact this
 have HC1:Hid (((w.alloc (.cells #[O I c,O I r] 32)).alloc (.cells (ct.cells sl).toArray 50)).heap[w.heap.size+1]? = H (.cells (ct.cells sl).toArray 50 (0,0))):=by show _=_;rw[hW1];exact hC1
 have HW1:=h_ hW1;obtain⟨mv,hgb⟩:=h.blk;have hglt0:=hgb.lt;have HGL0:=h_ hglt0;have HGL:=h_ (Nat.lt_of_lt_of_le hglt0 k1.size);have HS:Hid (∀wq,Kp W1 wq Nul->(wq.cell? ⟨w.heap.size,0,G⟩=H (O I c)/\wq.cell? ⟨w.heap.size,1,G⟩=H (O I r)/\wq.cell? ⟨w.heap.size+1,0,G⟩=H (O I ct.k))):=fun wq k=>⟨(hA1.kp k (fun x=>x)).cell rfl,(hA1.kp k (fun x=>x)).cell rfl,(hC1.kp k (fun x=>x)).cell (i:=0) rfl⟩
 have HV:=h_ (hval W1 k1);have HA:Hid (∀w,Calls prog 44 #[T #[O I c,O I r]] w fun e w'=>e=Q (E J)/\Kp w w' Nul):=fun w=>(U5 c r w).mono fun e w' ⟨h1,h2⟩=>⟨by rw[h1,hx],by rw[h2];exact(Kp.refl w Nul).alloc _⟩
 have HK1:=h_ k1;have HS2:Hid (∀wq,Kp W1 wq (Sm W1 g)->(wq.cell? ⟨w.heap.size,0,G⟩=H (O I c)/\wq.cell? ⟨w.heap.size,1,G⟩=H (O I r)/\Blk wq (w.heap.size+1) (ct.cells sl) 50)):=fun wq k=>⟨(j2Y k hA1 (by omega)).cell rfl,(j2Y k hA1 (by omega)).cell rfl,j2Y k hC1 (by omega)⟩
 have HCp:=h_ fun wq (k:Kp W1 wq Nul)=>hcp wq (k1.trans k)
 have HKeep:Hid (∀wq sl',Kp W1 wq Nul->NdIn wq (fun b=>W1.heap.size<=b/\b<wq.heap.size) sl' (cpC ct).t->Calls prog 46 #[an (H ⟨g,0,G⟩),T #[O I c,O I r],(cpC ct).val sl'] wq fun e w'=>e=Q (au #[])/\j6 w' ah g (putL L (c,r) (cpC ct))/\Km g wq w'):=fun wq sl' k hin=>by
  refine j5k ah g c r hi.1 hi.2 (cpC ct) sl' L wq (hG.kp (k1.trans k)) ?_ (hin.mono (fun b hb _=>⟨rfl,hnew b (Nat.le_trans k1.size hb.1)⟩)) (fun i hi=>hnew i (Nat.le_trans (k1.trans k).size hi));by_cases hn:∃c',((c,r),c')∈L
  ·rw[j6M h.once hn];exact hlen
  ·rw[j6N (fun c' hc'=>hn ⟨c',hc'⟩)];rcases hroom with h|h
   ·omega
   ·exact absurd h hn
 obtain⟨mv',hgb',hlenq⟩:=j1H h;have HG:Hid (∀wq,Kp W1 wq Nul->wq.cell? ⟨g,0,G⟩=H (.map mv')/\∀ty,(Builtin.len_ #[94] ty #[.map mv']).run prog wq=.ok (O I L.length) wq):=fun wq k=>⟨(hgb'.kp (k1.trans k) (fun x=>x)).cell rfl,hlenq wq (k1.trans k)⟩
 obtain⟨b0,hB,hhas⟩:=j3A h hi.1 hi.2;have HH:=h_ fun wq (k:Kp W1 wq Nul)=>hhas wq (k1.trans k)
 have HRoom:Hid (¬L.length<4096->b0=J):=fun hn=>by
  rcases hroom with h|h
  ·exact absurd h hn
  ·rcases hB with hB|hB
   ·exact hB.1
   ·obtain⟨c',hc'⟩:=h;exact absurd hc' (hB.2 c')
 have hk0:(ct.k==0)=R:=by simpa using hct
 have HL:=h_ hlen;clear hval hcp hW1 k1 hA1 hC1 hx hi hct hglt0 h hlen hroom hgb hgb' hlenq hhas hB mv;go_enter func11,ntmps11;go_wp2_with (first|(refine j1O rfl (.tmp 5) rfl (w.heap.size+1) rfl _ HC1.o rfl ?_)|fail);rw[HW1.o];refine HV.o.mono ?_;rintro e w2 ⟨rfl,hk2⟩;obtain⟨a1,a2,a3⟩:=HS.o w2 hk2;have HK2:=h_ hk2;clear hk2 HV HC1 HW1;go_wp2_with fail;refine(HA.o _).mono ?_;rintro e w3 ⟨rfl,hk3⟩;obtain⟨b1,b2,b3⟩:=HS.o w3 (HK2.o.trans hk3);obtain⟨b4,hl3⟩:=HG.o w3 (HK2.o.trans hk3);have HK3:=h_ (HK2.o.trans hk3);clear hk3 HA a1 a2 a3 HK2;by_cases hl:L.length<4096
 ·have j:¬(4096:Int)<=(L.length:Int):=by omega
  have j2:decide ((4096:Int)<=(L.length:Int))=R:=by simp;omega
  go_wp2_with fail;refine wp_region_noPanic ?_;refine I0 (fun w':World=>Kp W1 w' (Sm W1 g)) (by kernel_rfl) (HK3.o.of_nul.drew) (fun hHeld=>?_);have tok0:True:=trivial;have tok1:True:=trivial
  iterate 2 ((first|(clear tok0;refine G7 (i:=0) (v:=?_) (H 41) rfl rfl (by kernel_rfl) (fun _ _ _ h=>h) (Or.inl ⟨by rfl,?_⟩) hHeld ?_)|(clear tok1;refine G7 (i:=1) (v:=?_) (H 42) rfl rfl (by kernel_rfl) (fun _ _ _ h=>h) (Or.inl ⟨by rfl,?_⟩) hHeld ?_));rotate_left;(· intro w hSw;obtain⟨s0,s1,_⟩:=HS2.o _ hSw;clear hSw;go_simp;try with_reducible rfl);simp only[Act.put,Sz0,Sz1,Sz2])
  refine tk 2 43 hHeld ?_ (v:=ct.val sl) (hy:=by exact fun w' hSw=>Y5 _ rfl rfl (HS2.o w' hSw).2.2 rfl);refine ts 3 fun K hK=>?_
  go_simp;refine(HCp.o _ HK3.o.drew).mono ?_;rintro e w4 ⟨sl',fp,rfl,hown,hk4⟩;have hk14:=HK3.o.drew.trans hk4;have hin4:=hown.isIn.mono (w':=w4) (F':=fun b=>W1.heap.size<=b/\b<w4.heap.size) (fun b hB _=>⟨rfl,by have h1:=hB.1;have h2:=HK3.o.size;have h3:w3.drew.heap.size=w3.heap.size:=rfl;omega,hB.2⟩);refine hK.o _ _ hk14.of_nul (fun hHeld2=>?_);clear hK K hown hk4;refine ts 4 fun K hK=>?_
  go_simp;refine(HKeep.o w4 sl' hk14 hin4).mono ?_;rintro e w5 ⟨rfl,hg5,hk5⟩;refine hK.o _ _ ((Km.of_nul hk14 HGL.o).trans hk5).kp (fun _=>?_);have HEND:Hid (j6 w5 ah g (putL L (c,r) (cpC ct))/\Km g w w5):=⟨hg5,(Km.of_nul (HK1.o.trans hk14) HGL0.o).trans hk5⟩;clear hK K hHeld hHeld2 hg5 hk5 hk14 hin4;refine wpAnyH_done (by kernel_rfl) ?_ _;refine NoPanic.normal ?_;go_wp2_with fail;go_ret;exact⟨rfl,HEND.o⟩
 ·have j:(4096:Int)<=(L.length:Int):=by omega
  have hBt:=HRoom.o hl;subst hBt;go_wp2_with fail;refine(HH.o _ HK3.o).mono ?_;rintro e w3' ⟨rfl,hk3'⟩;have HK3':=h_ (HK3.o.trans hk3');clear hk3' b1 b2 b3 b4 hl3 HK3;go_wp2_with fail;refine wp_region_noPanic ?_;refine I0 (fun w':World=>Kp W1 w' (Sm W1 g)) (by kernel_rfl) (HK3'.o.of_nul.drew) (fun hHeld=>?_);have tok0:True:=trivial;have tok1:True:=trivial
  iterate 2 ((first|(clear tok0;refine G7 (i:=0) (v:=?_) (H 41) rfl rfl (by kernel_rfl) (fun _ _ _ h=>h) (Or.inl ⟨by rfl,?_⟩) hHeld ?_)|(clear tok1;refine G7 (i:=1) (v:=?_) (H 42) rfl rfl (by kernel_rfl) (fun _ _ _ h=>h) (Or.inl ⟨by rfl,?_⟩) hHeld ?_));rotate_left;(· intro w hSw;obtain⟨s0,s1,_⟩:=HS2.o _ hSw;clear hSw;go_simp;try with_reducible rfl);simp only[Act.put,Sz0,Sz1,Sz2])
  refine tk 2 43 hHeld ?_ (v:=ct.val sl) (hy:=by exact fun w' hSw=>Y5 _ rfl rfl (HS2.o w' hSw).2.2 rfl);refine ts 3 fun K hK=>?_
  go_simp;refine(HCp.o _ HK3'.o.drew).mono ?_;rintro e w4 ⟨sl',fp,rfl,hown,hk4⟩;have hk14:=HK3'.o.drew.trans hk4;have hin4:=hown.isIn.mono (w':=w4) (F':=fun b=>W1.heap.size<=b/\b<w4.heap.size) (fun b hB _=>⟨rfl,by have h1:=hB.1;have h2:=HK3'.o.size;have h3:w3'.drew.heap.size=w3'.heap.size:=rfl;omega,hB.2⟩);refine hK.o _ _ hk14.of_nul (fun hHeld2=>?_);clear hK K hown hk4;refine ts 4 fun K hK=>?_
  go_simp;refine(HKeep.o w4 sl' hk14 hin4).mono ?_;rintro e w5 ⟨rfl,hg5,hk5⟩;refine hK.o _ _ ((Km.of_nul hk14 HGL.o).trans hk5).kp (fun _=>?_);have HEND:Hid (j6 w5 ah g (putL L (c,r) (cpC ct))/\Km g w w5):=⟨hg5,(Km.of_nul (HK1.o.trans hk14) HGL0.o).trans hk5⟩;clear hK K hHeld hHeld2 hg5 hk5 hk14 hin4;refine wpAnyH_done (by kernel_rfl) ?_ _;refine NoPanic.normal ?_;go_wp2_with fail;go_ret;exact⟨rfl,HEND.o⟩
set_option maxRecDepth 20000 in
set_option maxHeartbeats 8000000 in
theorem j3e (ah:Nat->Prop)(g:Nat)(c r:Int)(hx:vC c r=J)(ct:Ct)(hct:ct.k=0)(sl:Value)(L:List Cc)(w:World)(h:j6 w ah g L)
 (hval:∀wq,Kp w wq Nul->Calls prog 43 #[ct.val sl] wq fun e w'=>e=Q (E J)/\Kp wq w' Nul) :
 Calls prog 11 #[an (H ⟨g,0,G⟩),T #[O I c,O I r],ct.val sl] w fun e w'=>e=Q (O I 0)/\j6 w' ah g (delL L (c,r))/\Km g w w':=by
 have hi:I64 c/\I64 r:=by
  have:=(G6 c r).1 hx;unfold I64;omega
 obtain⟨W1,hW1⟩:=e_ ((w.alloc (.cells #[O I c,O I r] 32)).alloc (.cells (ct.cells sl).toArray 50));have k1:Kp w W1 Nul:=by rw[<- hW1];exact((Kp.refl w Nul).alloc _).alloc _
 have hA1:Blk W1 w.heap.size [O I c,O I r] 32:=by rw[<- hW1];exact(Blk.new w [O I c,O I r] _).alloc _
 have hC1:Blk W1 (w.heap.size+1) (ct.cells sl) 50:=by
  have:=Blk.new (w.alloc (.cells #[O I c,O I r] 32)) (ct.cells sl) 50;rw[World.size_alloc] at this;rw[<- hW1];exact this
 have HC1:Hid (((w.alloc (.cells #[O I c,O I r] 32)).alloc (.cells (ct.cells sl).toArray 50)).heap[w.heap.size+1]? = H (.cells (ct.cells sl).toArray 50 (0,0))):=by show _=_;rw[hW1];exact hC1
 have HW1:=h_ hW1;obtain⟨mv,hgb⟩:=GI.blk (B:=0) (j6.mono h (fun _ _=>Nat.zero_le _));have hglt0:=hgb.lt;have HGL0:=h_ hglt0;have HS:Hid (∀wq,Kp W1 wq Nul->(wq.cell? ⟨w.heap.size,0,G⟩=H (O I c)/\wq.cell? ⟨w.heap.size,1,G⟩=H (O I r)/\wq.cell? ⟨w.heap.size+1,0,G⟩=H (O I ct.k))):=fun wq k=>⟨(hA1.kp k (fun x=>x)).cell rfl,(hA1.kp k (fun x=>x)).cell rfl,(hC1.kp k (fun x=>x)).cell (i:=0) rfl⟩
 have HV:=h_ (hval W1 k1);have HA:Hid (∀w,Calls prog 44 #[T #[O I c,O I r]] w fun e w'=>e=Q (E J)/\Kp w w' Nul):=fun w=>(U5 c r w).mono fun e w' ⟨h1,h2⟩=>⟨by rw[h1,hx],by rw[h2];exact(Kp.refl w Nul).alloc _⟩
 have HK1:=h_ k1;have HD:=h_ fun wq (k:Kp W1 wq Nul)=>h.kp (k1.trans k)
 have HI:=h_ hi;rw[hct] at HS;clear hval hW1 k1 hA1 hC1 hx hi hct hglt0 h hgb mv;go_enter func11,ntmps11;go_wp2_with (first|(refine j1O rfl (.tmp 5) rfl (w.heap.size+1) rfl _ HC1.o rfl ?_)|fail);rw[HW1.o];refine HV.o.mono ?_;rintro e w2 ⟨rfl,hk2⟩;obtain⟨a1,a2,a3⟩:=HS.o w2 hk2;have HK2:=h_ hk2;clear hk2 HV HC1 HW1;go_wp2_with fail;refine(HA.o _).mono ?_;rintro e w3 ⟨rfl,hk3⟩;obtain⟨b1,b2,b3⟩:=HS.o w3 (HK2.o.trans hk3);have hk13:=HK2.o.trans hk3;obtain⟨mv,W4,hmc,hdel,hl4,hk4⟩:=jA5 (HD.o w3.drew hk13.drew) HI.o.1 HI.o.2;have HEND:Hid (j6 W4 ah g (delL L (c,r))/\Km g w W4):=⟨hl4,(Km.of_nul ((HK1.o.trans hk13).drew) HGL0.o).trans hk4⟩;have d2:=hmc;clear hk3 HA a1 a2 a3 HK2 hl4 hk4 hmc hk13 HD;go_wp2_with fail
 go_region
 all_goals
  go_wp2_with fail;go_ret;exact⟨rfl,HEND.o⟩
end Go.Proofs.YtecjfnkakodebaaGreatDoor
namespace Go.Proofs.YtecjfnkakodebaaGreatDoor
open Go.RowKit Go.Maps
def GRg (w:World) (A:Nat) (mv:Option Nat) (r:Nat) (rem:List Cc):Prop:=
 rem.Pairwise (fun x y=>x.1≠y.1)/\(∀x∈rem,I64 x.1.1/\I64 x.1.2) /\
 ((mv=G/\rem=[]/\w.heap[r]? = H (.mapIter G 0 #[] 0)) ∨
 ∃m D left cnt,mv=H m/\m<A/\w.ranges prog 32 rawE m r 4096 D left cnt/\(∀c s,I64 c->I64 s->(left (kl c s)=J↔∃ct,((c,s),ct)∈rem)) /\
  (∀c s ct,((c,s),ct)∈rem->∃sl,D.atKey (kl c s) (.held zCv)=.held (ct.val sl)/\NdIn w (fun b=>b<A) sl ct.t))
def glen (w:World) (mv:Option Nat) (r:Nat):Nat:=match mv with|none=>0|some m=>w.rangeLeft m r
theorem j6S {w w':World}{m r n cnt:Nat}{D:DataW Value}{left:Lit->Bool}(h:w.ranges prog 32 rawE m r n D left cnt)(hm:w'.heap[m]? = w.heap[m]?)(hr:w'.heap[r]? = w.heap[r]?):w'.ranges prog 32 rawE m r n D left cnt:=by
 obtain⟨es,clock,since,seen,c0,h1,h2,h3,h4,h5,h6⟩:=h;exact⟨es,clock,since,seen,c0,hm.trans h1,h2,h3,h4,hr.trans h5,h6⟩
theorem GRg.keep {w w':World}{A:Nat}{mv:Option Nat}{r:Nat}{rem:List Cc}(h:GRg w A mv r rem)(k:Below A w w')(hr:w'.heap[r]? = w.heap[r]?):GRg w' A mv r rem:=by
 obtain⟨h1,h2,h3⟩:=h;refine⟨h1,h2,?_⟩;rcases h3 with ⟨e1,e2,e3⟩|⟨m,D,left,cnt,e1,e2,e3,e4,e5⟩
 ·exact .inl ⟨e1,e2,hr.trans e3⟩
 ·exact .inr ⟨m,D,left,cnt,e1,e2,j6S e3 (k.block m e2) hr,e4,fun c s ct hc=>by obtain⟨sl,q1,q2⟩:=e5 c s ct hc;exact⟨sl,q1,q2.mono (fun b hb _=>⟨k.block b hb,hb⟩)⟩⟩
theorem GRg.glen {w w':World}{A:Nat}{mv:Option Nat}{r:Nat}{rem:List Cc}(h:GRg w A mv r rem)(k:Below A w w')(hr:w'.heap[r]? = w.heap[r]?):Go.Proofs.YtecjfnkakodebaaGreatDoor.glen w' mv r=Go.Proofs.YtecjfnkakodebaaGreatDoor.glen w mv r:=by
 obtain⟨_,_,h3⟩:=h;rcases h3 with ⟨e1,_⟩|⟨m,D,left,cnt,e1,e2,e3,_⟩
 ·subst e1;rfl
 ·subst e1;show w'.rangeLeft m r=w.rangeLeft m r;rw[(j6S e3 (k.block m e2) hr).left_eq,e3.left_eq]
theorem GI.low {w:World}{g:Nat}{L:List Cc}(h:GI 0 w g L):j6 w (fun b=>b<w.heap.size) g L:=by
 obtain⟨_,⟨hb,e⟩|⟨m,D,hb,_,hne,hown,hm⟩⟩:=h
 ·exact⟨(Array.getElem?_eq_some_iff.1 hb).1,.inl ⟨hb,e⟩⟩
 ·exact⟨(Array.getElem?_eq_some_iff.1 hb).1,.inr ⟨m,D,hb,hown.lt,hne,hown,⟨hm.size,hm.rng,hm.keys,fun c r ct hc=>by obtain⟨sl,e1,e2⟩:=hm.vals c r ct hc;exact⟨sl,e1,e2.mono (fun b _ hb=>⟨rfl,hb⟩)⟩,hm.once⟩⟩⟩
theorem j7Z (w:World){ops:Array Oper}{rest:List Oper}{o:Oper}{a:Act}{am:Exit->Act->World->Prop}(hg:o.guard=G)(x:Operand)(hop:o.op=Op.range 94 x)
 (g:Nat) (L:List Cc) (mv:Option Nat) (A:Nat) (hx:a.eval x=.map mv) (hL:j6 w (fun b=>b<A) g L) (hgb:Blk w g [.map mv] 96)
 (hK:∀w',GRg w' A mv w.heap.size L->w.grownBy w' G->w'.heap.size=w.heap.size+1->wpList prog ops am rest (a.put o.dst (an (H ⟨w.heap.size,0,G⟩))) w') :
 wpList prog ops am (o::rest) a w:=by
 obtain⟨_,⟨hb,rfl⟩|⟨m,D,hb,hFm,hne,hown,hmh⟩⟩:=hL
 ·have e:mv=G:=by
   have q:=hgb.symm.trans hb
   simpa using q
  subst e;refine wpList_plain hg fun K hK'=>?_
  have hrun:(Instr.range 94 (.map G)).run prog w=.ok (an (H ⟨w.heap.size,0,G⟩)) (w.alloc (.mapIter G 0 #[] 0)):=by
   simp[Instr.range,Sem.run_bind,run_underlying underlying94 w]
  unfold Oper.wp;simp[execOp,hop,hx,hrun,Result.andThen];exact hK' _ _ (hK _ ⟨List.Pairwise.nil,fun x hx=>by simp at hx,.inl ⟨rfl,rfl,heap_alloc_new _ _⟩⟩ (World.grownBy_alloc w _ G) (by rw[World.size_alloc]))
 ·have e:mv=H m:=by
   have q:=hgb.symm.trans hb
   simpa using q
  subst e;refine wpList_range_own w hg x 94 hop 32 50 Q2 underlying94 _ m 4096 D hx hown (fun w' h1 h2 h3=>?_);have k:Kp w w' Nul:=Kp.of_grown h2 (fun i e=>by cases e);exact hK w' ⟨hmh.once,hmh.rng,.inr ⟨m,D,_,_,rfl,hFm,h1,fun c s hc hs=>hmh.keys c s hc hs,fun c s ct hc=>by obtain⟨sl,q1,q2⟩:=hmh.vals c s ct hc;exact⟨sl,q1,q2.kp k (fun _ _ x=>x)⟩⟩⟩ h2 h3
set_option maxRecDepth 20000 in
theorem j7Y (w:World){ops:Array Oper}{rest:List Oper}{o:Oper}{a:Act}{am:Exit->Act->World->Prop}(hg:o.guard=G)(it:Operand)(hop:o.op=Op.next it R)
 (A:Nat) (mv:Option Nat) (r:Nat) (rem:List Cc) (hit:a.eval it=an (H ⟨r,0,G⟩)) (h:GRg w A mv r rem) (hA:A<=r)
 (hDone:rem=[]->wpList prog ops am rest (a.put o.dst (au #[E R])) w)
 (hMore:∀(c s:Int) (ct:Ct) (sl:Value) (w':World),((c,s),ct)∈rem->NdIn w' (fun b=>b<A) sl ct.t->GRg w' A mv r (rem.filter (fun x=>decide (x.1≠(c,s))))->glen w' mv r<glen w mv r->w.grownBy w' (H r)->w'.heap.size=w.heap.size ->
  (Instr.entry (an (H ⟨r,0,G⟩))).run prog w'=.ok (au #[T #[O I c,O I s],ct.val sl]) w'->wpList prog ops am rest (a.put o.dst (au #[E J,T #[O I c,O I s],ct.val sl])) w') :
 wpList prog ops am (o::rest) a w:=by
 obtain⟨h1,h2,h3⟩:=h;rcases h3 with ⟨rfl,rfl,e3⟩|⟨m,D,left,cnt,rfl,e2,e3,e4,e5⟩
 ·refine wpList_plain hg fun K hK'=>?_
  have hrun:(Instr.next (an (H ⟨r,0,G⟩)) R o.type).run prog w=.ok (au #[E R]) w:=by
   simp[Instr.next,getObj,Sem.run_bind,Sem.run,e3,Result.andThen]
  unfold Oper.wp;simp[execOp,hop,hit,hrun,Result.andThen];exact hK' _ _ (hDone rfl)
 ·refine jF0 w hg it hop m r 4096 D left cnt hit e3 (fun _ hl=>?_) (fun x cv w' cnt' hi hlx hat hrg hlt hgr hsz hen=>?_)
  ·refine hDone ?_;cases rem with
   | nil=>rfl
   | cons y ys=>
    exfalso
    obtain⟨⟨yc,ys'⟩,yt⟩:=y;have hy:=h2 _ (List.mem_cons_self);have:=(e4 yc ys' hy.1 hy.2).2 ⟨yt,List.mem_cons_self⟩;rw[hl] at this;cases this
  ·obtain⟨ct,hct⟩:=(e4 x.1 x.2 hi.1 hi.2).1 hlx;obtain⟨sl,q1,q2⟩:=e5 x.1 x.2 ct hct;have hcv:cv=ct.val sl:=by
    have:=(hat (.held zCv)).symm.trans q1;exact DataW.held.inj this
   subst hcv;have kb:Below A w w':=⟨hgr.os,hgr.tape,hgr.output,hgr.size,fun i hi'=>hgr.block i (by have:=e3.lt;omega) (fun e=>by have:=Option.some.inj e;omega)⟩;have hT:∀sl t,NdIn w (fun b=>b<A) sl t->NdIn w' (fun b=>b<A) sl t:=(fun sl t q=>q.mono (fun b hb _=>⟨kb.block b hb,hb⟩));refine hMore x.1 x.2 ct sl w' hct (hT _ _ q2) ⟨List.Pairwise.filter _ h1,fun y hy=>h2 y (List.mem_filter.1 hy).1,.inr ⟨m,D,_,cnt',rfl,e2,hrg,fun c s hc hs=>?_,fun c s ct' hc=>?_⟩⟩ ?_ hgr hsz hen
   ·have j9:(kl c s).sameKey (kl x.1 x.2)=J↔(c,s)=(x.1,x.2):=by
     constructor
     ·intro hk;by_cases e:(c,s)=(x.1,x.2)
      ·exact e
      ·have:kl c s≠kl x.1 x.2:=(fun e'=>e (by have:=j1x hc hs hi.1 hi.2 e';exact Prod.ext this.1 this.2));rw[Maps.sameKey_ne this] at hk;cases hk
     ·intro e;have e1:=congrArg Prod.fst e;have e2':=congrArg Prod.snd e;simp only at e1 e2';subst e1 e2';exact WideAt.sameKey_self (Q2.key (X0 hi.1 hi.2))
    simp only[Bool.and_eq_true,Bool.not_eq_true'];constructor
    ·rintro⟨q3,q4⟩;obtain⟨ct',hc'⟩:=(e4 c s hc hs).1 q3;refine⟨ct',List.mem_filter.2 ⟨hc',?_⟩⟩;have:(c,s)≠(x.1,x.2):=(fun e=>by rw[j9.2 e] at q4;cases q4);exact decide_eq_true this
    ·rintro⟨ct',hc'⟩;obtain⟨q3,q4⟩:=List.mem_filter.1 hc';refine⟨(e4 c s hc hs).2 ⟨ct',q3⟩,?_⟩;have hne:(c,s)≠(x.1,x.2):=of_decide_eq_true q4;cases hk:(kl c s).sameKey (kl x.1 x.2)
     ·rfl
     ·exact absurd (j9.1 hk) hne
   ·obtain⟨sl',p1,p2⟩:=e5 c s ct' (List.mem_filter.1 hc).1;exact⟨sl',p1,hT _ _ p2⟩
   ·show w'.rangeLeft m r<w.rangeLeft m r;rw[hrg.left_eq,e3.left_eq];exact hlt
end Go.Proofs.YtecjfnkakodebaaGreatDoor
namespace Go.Proofs
open Go.Shelf
def Tryz.laysValid_ren:Go.Shelf.Ren:=⟨fun|196=>117|259=>148|n=>n,fun|9=>9|4=>4|3=>3|5=>5|12=>12|119=>173|0=>0|46=>177|139=>176|138=>175|53=>151|n=>n,fun|3=>0|4=>1|n=>n⟩
theorem Tryz.laysValid:Go.Proofs.Lays.n196 Tryz.prog Tryz.laysValid_ren:={
 mixed:=by kernel_rfl
 f196:=Tryz.func117.trans (congrArg H (by kernel_rfl))
 f259:=Tryz.func148.trans (congrArg H (by kernel_rfl))
 t0:=Tryz.underlying0
 a0:=Tryz.isAgg0
 z0:=Tryz.sizeOf0
 v0:=Tryz.zeroValue0
 t3:=Tryz.underlying3
 a3:=Tryz.isAgg3
 z3:=Tryz.sizeOf3
 v3:=Tryz.zeroValue3
 t4:=Tryz.underlying4
 a4:=Tryz.isAgg4
 z4:=Tryz.sizeOf4
 v4:=Tryz.zeroValue4
 t5:=Tryz.underlying5
 a5:=Tryz.isAgg5
 z5:=Tryz.sizeOf5
 v5:=Tryz.zeroValue5
 t9:=Tryz.underlying9
 a9:=Tryz.isAgg9
 z9:=Tryz.sizeOf9
 v9:=Tryz.zeroValue9
 t12:=Tryz.underlying12
 a12:=Tryz.isAgg12
 z12:=Tryz.sizeOf12
 v12:=Tryz.zeroValue12
 t46:=Tryz.underlying177
 a46:=Tryz.isAgg177
 z46:=Tryz.sizeOf177
 v46:=Tryz.zeroValue177
 t53:=Tryz.underlying151
 a53:=Tryz.isAgg151
 z53:=Tryz.sizeOf151
 v53:=Tryz.zeroValue151
 t119:=Tryz.underlying173
 a119:=Tryz.isAgg173
 z119:=Tryz.sizeOf173
 t138:=Tryz.underlying175
 a138:=Tryz.isAgg175
 z138:=Tryz.sizeOf175
 v138:=Tryz.zeroValue175
 t139:=Tryz.underlying176
 a139:=Tryz.isAgg176
 z139:=Tryz.sizeOf176
 v139:=Tryz.zeroValue176
 g3:=by kernel_rfl
 g4:=by kernel_rfl }
end Go.Proofs
namespace Go.Proofs.YtecjfnkakodebaaGreatDoor
open Go.RowKit Go.Maps
theorem j7O {w:World}(hT:Lib.Utf8Tabs (laysValid_ren.g 3) (laysValid_ren.g 4) w):VS w:=fun s wq hs hk=>by
 have hc:∀ {b j:Nat} {v:Value},w.cell? ⟨b,j,G⟩=H v->wq.cell? ⟨b,j,G⟩=H v:=fun {b j v} h=>by
  have:=hk.block b (J7 h) (fun x=>x);simp only[World.cell?] at h ⊢;rw[this];exact h
 have hT':Lib.Utf8Tabs (laysValid_ren.g 3) (laysValid_ren.g 4) wq:=⟨fun c h=>hc (hT.1 c h),fun i h=>⟨hc (hT.2 i h).1,hc (hT.2 i h).2⟩⟩;refine(Any.utf8_ValidString laysValid s wq (by omega) hT').mono ?_;rintro e w' ⟨h1,h2⟩;exact⟨h1,Kp.of_below h2⟩
structure Cn (w:World) (ct:Ct) (sl:Value):Prop where
 ok:ct.t.ok
 vx:ct.v.x<18446744073709551616
 inn:NdIn w (fun _=>True) sl ct.t
def ct0:Ct:=⟨0,⟨0,0,⟨#[]⟩,R,0⟩,zNd⟩
theorem gv0:gv ct0=J:=by
 have h1:J9 ct0.v=J:=by simp[J9,J6,ct0]
 have h2:I4 ct0.t=J:=j7d;unfold gv Q1;rw[h1,h2]
 rfl
section
variable {w w2 u u':World} {g:Nat} {L L':List Cc}
end
end Go.Proofs.YtecjfnkakodebaaGreatDoor
namespace Go.Proofs.YtecjfnkakodebaaGreatDoor
open Go.RowKit Go.Maps
section
variable {w w2 u u':World} {g p1 p2:Nat} {x y:Int} {L L':List Cc}
end
end Go.Proofs.YtecjfnkakodebaaGreatDoor
namespace Go.Proofs.YtecjfnkakodebaaGreatDoor
open Go.ChangeShapes Go.WideShapes Go.RowKit Go.Deep
theorem j53 {b:Nat}(h:(Lit.float .f64 b).wf=J):b<18446744073709551616:=by
 simpa [Lit.wf] using h
theorem j67:∀ {ts:List Nd},(∀(i:Nat) (t:Nd),ts[i]? = H t->t.ok)->okL ts
 | [],_=>by rw[okL];trivial
 | t::ts,h=>by
  rw[okL];exact⟨h 0 t rfl,j67 fun i u hu=>h (i+1) u (by simpa using hu)⟩
theorem j7J:∀ {ts:List Nd},(∀(i:Nat) (t:Nd),ts[i]? = H t->t.txt)->txtL ts
 | [],_=>by rw[txtL];trivial
 | t::ts,h=>by
  rw[txtL];exact⟨h 0 t rfl,j7J fun i u hu=>h (i+1) u (by simpa using hu)⟩
section
variable {ag:Type} {P:Program}
theorem j0z {t:TypeId}{fs:Array Field}(hu:P.underlying t=H (.struct fs)){parts:List (DataW ag)}{j:Nat}{f:TypeId}{d:DataW ag}(hf:(fs.toList.map (·.type))[j]? = H f)(hd:parts[j]? = H d):∀n∈d.weights P f,n∈DataW.weights P t (DataW.agg parts):=by
 intro n hn;rw[DataW.weights,hu];exact DataW.weights_mem_each hf hd n hn
theorem j7P {e:TypeId}:∀ {ds:List (DataW ag)} {d:DataW ag},d∈ds->∀n∈d.weights P e,n∈DataW.weightsAll P e ds
 | [],_,h,_,_=>by simp at h
 | x::xs,d,h,n,hn=>by
  rw[DataW.weightsAll,List.mem_append];rcases List.mem_cons.1 h with rfl|h
  ·exact .inl hn
  ·exact .inr (j7P h n hn)
theorem j7Q {t e:TypeId}(hu:P.underlying t=H (.slice e)){elems spare:List (DataW ag)}{d:DataW ag}(hd:d∈elems):∀n∈d.weights P e,n∈DataW.weights P t (DataW.slice elems spare):=by
 intro n hn;rw[DataW.weights,hu];exact List.mem_cons_of_mem _ (List.mem_append_left _ (j7P hd n hn))
end
theorem j6z {ag:Type}:∀ {ts:List Nd} {ds:List (DataW ag)},ts.length=ds.length->(∀(i:Nat) (t:Nd) (d:DataW ag),ts[i]? = H t->ds[i]? = H d->t.size<=Rows.uptoBulk d)->D3 ts<=Rows.uptoBulkAll ds
 | [],_,_,_=>by rw[D3];omega
 | t::ts,[],h,_=>by simp at h
 | t::ts,d::ds,h,hh=>by
  rw[D3,Rows.uptoBulkAll];have h1:=hh 0 t d rfl rfl;have h2:=j6z (ts:=ts) (ds:=ds) (by simpa using h) (fun i u e hu he=>hh (i+1) u e (by simpa using hu) (by simpa using he));omega
theorem j05 {ag:Type}:∀ {ds:List (DataW ag)} {d:DataW ag},d∈ds->Rows.uptoBulk d<=Rows.uptoBulkAll ds
 | [],_,h=>by simp at h
 | x::xs,d,h=>by
  rw[Rows.uptoBulkAll];rcases List.mem_cons.1 h with rfl|h
  ·omega
  ·have:=j05 h;omega
section
variable {ag:Type} {enc:TypeId×Value->ag} {w:World} {base:Nat}
theorem jC8 {m:Nat}(ih:∀n,n<m->∀(cs:List Value) (x:DataW ag×List MemPlace),DataW.trod enc prog w base (fun _=>J) J n 48 cs=H x->(∀n∈x.1.weights prog 48,n<=reachBytes)->∃(t:Nd) (sl:Value),cs=t.hd.cells sl/\NdIn w (fun _=>True) sl t/\t.ok/\t.txt/\t.size<=Rows.uptoBulk x.1)
 {v:Value} {x:DataW ag×List MemPlace} (h:DataW.trod enc prog w base (fun _=>J) J m 46 [v]=H x) (hw:∀n∈x.1.weights prog 46,n<=reachBytes):∃ts:List Nd,(∀hd:Hd,NdIn w (fun _=>True) v (.mk hd ts))/\okL ts/\txtL ts/\D3 ts<=Rows.uptoBulk x.1:=by
 rcases DataW.trod_slice underlying46 h with ⟨hcs,_⟩|⟨a,len,cap,elems,rest,n,rfl,hcs,hxe,_,hl,hm,hel,hx,_,_⟩
 ·have hv:v=U G 0 0:=by simpa using hcs
  subst hv;refine⟨[],fun hd=>?_,by rw[okL];trivial,by rw[txtL];trivial,by rw[D3];omega⟩;rw[NdIn];exact⟨G,0,rfl,Nat.le_refl _,by decide,.inl ⟨rfl,.inl rfl⟩⟩
 ·have hv:v=U (H a) len cap:=by simpa using hcs
  subst hv;rw[j2u] at hx;have each:∀i,i<len->∃t:Nd,∃cs',∃sl,w.cells? base (a.add (i*15)) 15=H cs'/\cs'=t.hd.cells sl/\NdIn w (fun _=>True) sl t/\t.ok/\t.txt/\∀d,(elems.map (·.1))[i]? = H d->t.size<=Rows.uptoBulk d:=fun i hi=>by
   have h1:=hx i hi;rw[List.getElem?_eq_getElem (by omega)] at h1;obtain⟨cs',e1,e2⟩:=Option.bind_eq_some_iff.1 h1;obtain⟨t,sl,e3,e4,e5,e6,e7⟩:=ih n (by omega) cs' _ e2 (fun m hm=>hw m (by rw[hxe];exact j7Q underlying46 (List.mem_map_of_mem (List.getElem_mem _)) m hm));refine⟨t,cs',sl,e1,e3,e4,e5,e6,fun d hd=>?_⟩;rw[List.getElem?_map,List.getElem?_eq_getElem (by omega)] at hd;have hd':=Option.some.inj hd;rw[<- hd'];exact e7
  rcases Nat.eq_zero_or_pos len with h0|h0
  ·subst h0;refine⟨[],fun hd=>?_,by rw[okL];trivial,by rw[txtL];trivial,by rw[D3];omega⟩;rw[NdIn];exact⟨H a,cap,rfl,Nat.zero_le _,hm,.inl ⟨rfl,.inr (by simp)⟩⟩
  ·have hsp:a.spot=G:=by
    obtain⟨t,cs',sl,e1,e2,_⟩:=each 0 h0;obtain⟨_,hlen,hcell⟩:=World.cells?_some e1;have:=hcell 0 (by omega);rw[List.getElem?_eq_getElem (by omega)] at this
    simpa [Addr.add] using World.cell?_spot this
   obtain⟨b,o,sp⟩:=a;simp only at hsp;subst hsp;obtain⟨ts,hts,hat⟩:=j2s each;refine⟨ts,fun hd=>?_,j67 fun i t ht=>by obtain⟨_,_,_,_,_,q,_⟩:=hat i t ht;exact q,j7J fun i t ht=>by obtain⟨_,_,_,_,_,_,q,_⟩:=hat i t ht;exact q,?_⟩;rotate_left
   ·have hb:=j6z (ts:=ts) (ds:=elems.map (·.1)) (by rw[hts,List.length_map];omega) (fun i t d ht hd=>by obtain⟨_,_,_,_,_,_,_,q⟩:=hat i t ht;exact q d hd);rw[hxe,Rows.uptoBulk];omega
   rw[NdIn];refine⟨H ⟨b,o,G⟩,cap,by rw[hts],by omega,hm,.inr ⟨b,o,rfl,trivial,j5y ts o (fun i t ht=>?_)⟩⟩;obtain⟨cs',sl,e1,e2,e3,_⟩:=hat i t ht;obtain⟨_,hlen,hcell⟩:=World.cells?_some e1;refine⟨sl,fun j u hu=>?_,e3⟩;rw[<- e2] at hu;have hj:j<15:=(by rw[<- hlen];exact(List.getElem?_eq_some_iff.1 hu).1);have:=hcell j hj;rw[add_plain,add_plain,hu] at this;exact this
set_option maxRecDepth 100000 in
theorem jC7 (fuel:Nat):∀(cs:List Value) (x:DataW ag×List MemPlace),DataW.trod enc prog w base (fun _=>J) J fuel 48 cs=H x->(∀n∈x.1.weights prog 48,n<=reachBytes)->∃(t:Nd) (sl:Value),cs=t.hd.cells sl/\NdIn w (fun _=>True) sl t/\t.ok/\t.txt/\t.size<=Rows.uptoBulk x.1:=by
 induction fuel using Nat.strongRecOn with
 | _ fuel ih=>
  intro cs x h hw;obtain⟨xs,n,rfl,hxe,hl,hlen,hf⟩:=DataW.trod_struct underlying48 h;rw[j2u] at hl
  match xs,hlen,cs,hl with
  | [y0,y1,y2,y3,y4,y5,y6,y7,y8],_,[v0,v1,v2,v3,v4,v5,v6,v7,v8,v9,v10,v11,v12,v13,v14],_=>
   have g0:DataW.trod enc prog w base (fun _=>J) J n 3 [v0]=H y0:=(by simpa [R6] using hf 0 _ rfl);have g1:DataW.trod enc prog w base (fun _=>J) J n 3 [v1]=H y1:=(by simpa [R6] using hf 1 _ rfl);have g2:DataW.trod enc prog w base (fun _=>J) J n 41 [v2]=H y2:=(by simpa [j4W] using hf 2 _ rfl);have g3:DataW.trod enc prog w base (fun _=>J) J n 9 [v3]=H y3:=(by simpa [j4a] using hf 3 _ rfl);have g4:DataW.trod enc prog w base (fun _=>J) J n 4 [v4]=H y4:=(by simpa [j1h] using hf 4 _ rfl);have g5:DataW.trod enc prog w base (fun _=>J) J n 3 [v5]=H y5:=(by simpa [R6] using hf 5 _ rfl);have g6:DataW.trod enc prog w base (fun _=>J) J n 45 [v6,v7,v8,v9]=H y6:=(by simpa [j4Y] using hf 6 _ rfl);have g7:DataW.trod enc prog w base (fun _=>J) J n 45 [v10,v11,v12,v13]=H y7:=by simpa [j4Y] using hf 7 _ rfl
   have g8:DataW.trod enc prog w base (fun _=>J) J n 46 [v14]=H y8:=(by simpa [j96] using hf 8 _ rfl);obtain⟨k,rfl⟩:=Y3 g0;obtain⟨o,rfl⟩:=Y3 g1;obtain⟨xx,e2,wf2⟩:=j7F g2;obtain⟨s,e3,x3,_⟩:=DataW.trod_string underlying9 g3;obtain⟨b,e4,_⟩:=DataW.trod_bool underlying4 g4;obtain⟨f,rfl⟩:=Y3 g5;obtain⟨c1,r1,p1,q1,rfl,rfl,rfl,rfl⟩:=j7G g6;obtain⟨c2,r2,p2,q2,rfl,rfl,rfl,rfl⟩:=j7G g7;obtain⟨ts,hts,hok,htx,hsz⟩:=jC8 (m:=n) (fun n' hn'=>ih n' (by omega)) g8 (fun m hm=>hw m (by rw[hxe];exact j0z (j:=8) underlying48 rfl rfl m hm));have hs3:s.size<=140737488355328:=by
    have:=hw s.data.toList.length (by rw[hxe];exact j0z (j:=3) (f:=9) (d:=y3.1) underlying48 rfl rfl _ (by rw[x3,DataW.weights];simp));have h2:s.size=s.data.toList.length:=(by simp);rw[h2];unfold reachBytes at this;omega
   have f2:v2=ap ao xx:=(by simpa using e2);have f3:v3=aq s:=(by simpa using e3);have f4:v4=E b:=(by simpa using e4);subst f2 f3 f4;exact⟨.mk ⟨k,o,xx,s,b,f,c1,r1,p1,q1,c2,r2,p2,q2⟩ ts,v14,rfl,hts _,by rw[Nd.ok];exact⟨j53 wf2,hok⟩,by rw[Nd.txt];exact⟨hs3,htx⟩,by
    have h8:Rows.uptoBulk y8.1<=Rows.uptoBulkAll ([y0,y1,y2,y3,y4,y5,y6,y7,y8].map (·.1)):=j05 (by simp);rw[hxe,Rows.uptoBulk,Nd.size];omega⟩
end
end Go.Proofs.YtecjfnkakodebaaGreatDoor
