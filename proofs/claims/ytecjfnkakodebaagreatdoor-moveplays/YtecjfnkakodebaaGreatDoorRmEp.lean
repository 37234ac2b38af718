/-The document's first and Check (quadrilleref12). -/
import Derived.Test.YtecjfnkakodebaaGreatDoorRmEo
import Derived.Test.YtecjfnkakodebaaGreatDoorRmEb8
import Derived.Test.YtecjfnkakodebaaGreatDoorRmEb16
import Derived.Test.YtecjfnkakodebaaGreatDoorRmEb32
open Go.Proofs.Tryz
open Go.Value renaming int->O,bool->E,slice->U,agg->T,pointer->an
open Go.IntKind renaming i64->I
open Bool renaming false->R,true->J
open Option renaming some->H,none->G
open Go.Ending renaming returned->Q
set_option maxRecDepth 20000
set_option maxHeartbeats 16000000
namespace Go.Proofs.YtecjfnkakodebaaGreatDoor
section
open Go.RowKit Go.Lib
attribute [local irreducible] Nd.fe feL
theorem j33 {o:Oper}{a:Act}{x:Operand}{b p:Nat}{w:World}(cs:List Value)(ho:o.op=.load 48 x)(hx:a.eval x=an (H ⟨b,p,G⟩))(hc:w.rangeAt b p cs)(hcs:cs.length=15):(execOp a.eval o).run prog w=.ok (.value (T cs.toArray)) w:=by
 unfold execOp;simp only[ho,hx,Instr.loadAt,Instr.sureAddr,Sem.run_bind,Sem.run_pure,Result.andThen_ok,run_loadVar_mid w b p 48 cs _ hc underlying48 rfl (by rw[hcs];exact j3)]
def Okup (ts:List Nd) (c:Bool) (q:Nat):Prop:=∀i (h:i<ts.length),i<q->(ts[i]).fe c=0
mutual
def Nd.txt:Nd->Prop
 | .mk h ts=>h.s.size<=140737488355328/\txtL ts
def txtL:List Nd->Prop
 | []=>True
 | t::ts=>t.txt/\txtL ts
end
theorem txtL.get:∀ {ts:List Nd},txtL ts->∀i,(h:i<ts.length)->(ts[i]).txt
 | [],_,i,h=>absurd h (by simp)
 | t::ts,hk,i,h=>by
  rw[txtL] at hk;cases i with
  | zero=>exact hk.1
  | succ i=>exact hk.2.get i (by simpa using h)
theorem jDF (B:j14)(N:Nat):∀(t:Nd) (sl:Value) (F:Nat->Prop) (inside:Bool) (w:World),t.size<=N->t.ok->t.txt->NdIn w F sl t ->
 Calls prog 126 #[t.hd.val sl,E inside] w fun e w'=>e=Q (O I (t.fe inside))/\Kp w w' Nul:=by
 induction N with
 | zero=>intro t sl F inside w h;have:=L7 t;omega
 | succ N ih=>
  intro t sl F inside w hN hok htx hin;obtain⟨hd,ts⟩:=t;rw[NdIn] at hin;rw[Nd.txt] at htx;obtain⟨a,c,rfl,h2,h3,h4⟩:=hin;have hsz:Hid ((Nd.mk hd ts).size=1+D3 ts):=by show _=_;rw[Nd.size]
  have hfe:Hid ((Nd.mk hd ts).fe inside=if ownE hd ts.length inside≠0 then ownE hd ts.length inside else feL ts (hd.k==9)):=by show _=_;rw[Nd.fe]
  have HN:=h_ hN;have HOK:=h_ hok.l;have HTX:=h_ htx.2;have IH:Hid (∀(t:Nd) (sl:Value) (F:Nat->Prop) (inside:Bool) (w:World),t.size<=N->t.ok->t.txt->NdIn w F sl t ->
   Calls prog 126 #[t.hd.val sl,E inside] w fun e w'=>e=Q (O I (t.fe inside))/\Kp w w' Nul):=ih
  have hlen:ts.length<=9223372036854775807:=by unfold maxLen at h3;omega
  have H4:=h_ h4;have HO:=h_ fun wq=>jDa hd ts.length a c inside hok.x htx.1 wq B
  clear ih hN h4 h2 h3 hok htx;generalize hn:ts.length=n at *;have HL:=h_ hn;have HLEN:=h_ hlen;clear hn hlen;generalize hSS:(Nd.mk hd ts).fe inside=S at *;simp only[Nd.hd];obtain⟨W1,hW1⟩:=e_ (w.alloc (.cells (hd.cells (U a n c)).toArray 48));have k1:Kp w W1 Nul:=by rw[<- hW1];exact(Kp.refl w Nul).alloc _
  have b1:Blk W1 w.heap.size (hd.cells (U a n c)) 48:=by rw[<- hW1];exact Blk.new w _ _
  have HW1:=h_ hW1;have HB:=k_ b1;have HK1:=h_ k1;generalize hOE:ownE hd n inside=OE at *;clear hW1 k1 b1 hSS hOE B;go_enter func126,ntmps126;go_wp2_with fail;rw[HW1.o];refine(HO.o _).mono ?_;rintro e w1 ⟨rfl,hg1⟩;have HK2:Hid (Kp W1 w1 Nul):=Kp.of_gr hg1;clear hg1 HO HW1;go_wp2_with fail;go_loopw[5,6] (fun e i wr=>∃(q:Nat) (z:Int),q<=n/\e=O I z/\i=O I q/\Kp w1 wr Nul/\((z=0/\OE=0/\Okup ts (hd.k==9) q)∨(z≠0/\S=z))) (fun _ i _=>n-(RowKit.intOf i).toNat)
  case atStart=>
   refine⟨0,OE,Nat.zero_le _,rfl,rfl,Kp.refl _ _,?_⟩;by_cases h0:OE=0
   ·exact .inl ⟨h0,h0,fun i h hi=>by omega⟩
   ·exact .inr ⟨h0,by rw[hfe.o,if_pos h0]⟩
  case round=>
   obtain⟨q,z,hq,rfl,rfl,hkq,hz⟩:=hrel;have KQ:=h_ hkq;have hkw:=(HK1.o.trans HK2.o).trans hkq;have HKW:=h_ hkw;have HBk:=HB.o wr (HK2.o.trans hkq);have x14:=HBk.c_ 14 rfl;rcases hz with ⟨rfl,h0,hz⟩|⟨hz,hS⟩
   ·by_cases hlt:q<n
    ·have hqt:q<ts.length:=(by rw[HL.o];exact hlt);obtain⟨b,o,rfl,hFb,hns⟩:∃b o,a=H ⟨b,o,G⟩/\F b/\F6 w F b o ts:=by
      rcases H4.o with h|h
      ·rw[h.1] at hqt;simp at hqt
      ·exact h
     obtain⟨s1,hr,hni⟩:=hns.get q hqt;have hr':=I7 hr (hkw.block b (Q0 hr) (fun x=>x));have HR:=(h_ fun wq (hk:Kp wr wq Nul)=>I7 hr' (hk.block b (Q0 hr') (fun x=>x)));have hni':=hni.kp hkw (fun _ _ x=>x);have hs1:=Q4 ts q hqt;have HC:Hid (∀wq,Kp wr wq Nul->Calls prog 126 #[(ts[q]).hd.val s1,E (hd.k==9)] wq fun e w'=>e=Q (O I ((ts[q]).fe (hd.k==9)))/\Kp wq w' Nul):=(fun wq hq=>IH.o ts[q] s1 F _ wq (by have:=HN.o;have:=hsz.o;omega) (HOK.o.get q hqt) (HTX.o.get q hqt) (hni'.kp hq (fun _ _ x=>x)));have HS:Hid (∀wq,Kp wr wq Nul->wq.cell? ⟨w.heap.size,14,G⟩=H (U (H ⟨b,o,G⟩) n c)/\wq.cell? ⟨w.heap.size,0,G⟩=H (O I hd.k)):=(fun wq hk=>⟨(HBk.kp hk (fun x=>x)).cell rfl,(HBk.kp hk (fun x=>x)).cell rfl⟩);have hnext:Hid ((((ts[q]).fe (hd.k==9)=0/\OE=0/\Okup ts (hd.k==9) (q+1))∨((ts[q]).fe (hd.k==9)≠0/\S=(ts[q]).fe (hd.k==9)))):=by
      by_cases e:(ts[q]).fe (hd.k==9)=0
      ·refine .inl ⟨e,h0,fun i h hi=>?_⟩;rcases Nat.lt_or_ge i q with g|g
       ·exact hz i h g
       ·have:i=q:=(by omega);subst this;exact e
      ·refine .inr ⟨e,?_⟩;rw[hfe.o,h0];simp only[ne_eq,not_true_eq_false,if_false];exact j56 hqt hz e
     clear hs1 hni hni' hr hr' hns hkw hkq HBk hz h0 hfe;generalize (ts[q]).fe (hd.k==9)=z' at *;generalize (ts[q]).hd=hh at *;have hkb:(q:Int)+1<=9223372036854775807:=(by have:=HLEN.o;omega);have hq0:(0:Int)<=(q:Int):=(by omega);have hqn:(q:Int)<(n:Int):=(by omega);go_wp2_with fail;refine wp_region_noPanic ?_;refine I0 (fun w':World=>Kp wr w' Nul) (by kernel_rfl) ((Kp.refl wr Nul).drew) (fun hHeld=>?_);refine tk 0 21 hHeld ?_ (hy:=by intro w' hSw;obtain⟨s0,s1⟩:=HS.o _ hSw;clear hSw;go_simp;try with_reducible rfl);refine tk 1 22 hHeld ?_ (hy:=by intro w' hSw;obtain⟨s0,s1⟩:=HS.o _ hSw;clear hSw;go_simp;try with_reducible rfl);refine tk 2 23 hHeld ?_ (hy:=by intro w' hSw;obtain⟨s0,s1⟩:=HS.o _ hSw;clear hSw;go_simp;try with_reducible rfl);refine tk 3 24 hHeld ?_ (hy:=by intro w' hSw;obtain⟨s0,s1⟩:=HS.o _ hSw;clear hSw;go_simp;try with_reducible rfl);refine tk 4 25 hHeld ?_ (v:=hh.val s1) (hy:=by exact fun w' hSw=>j33 (hh.cells s1) rfl rfl (HR.o w' hSw) rfl)
     refine tk 5 26 hHeld ?_ (hy:=by intro w' hSw;obtain⟨s0,s1⟩:=HS.o _ hSw;clear hSw;go_simp;try with_reducible rfl);refine tk 6 27 hHeld ?_ (hy:=by intro w' hSw;obtain⟨s0,s1⟩:=HS.o _ hSw;clear hSw;go_simp;try with_reducible rfl);refine tk 7 28 hHeld ?_ (hy:=by intro w' hSw;obtain⟨s0,s1⟩:=HS.o _ hSw;clear hSw;go_simp;try with_reducible rfl);refine D6 (i:=8) (by kernel_rfl) rfl rfl (fun K hK=>?_);go_simp;refine(HC.o _ ((Kp.refl wr Nul).drew)).mono ?_;rintro e w2 ⟨rfl,hk2⟩;have hk2':Kp wr w2 Nul:=((Kp.refl wr Nul).drew).trans hk2;have HK3:=h_ (KQ.o.trans hk2');refine hK.o _ _ hk2' (fun hHeld2=>?_);clear hK K hHeld hk2 hk2' HC HS HR x14;refine tk 9 5 hHeld2 ?_;refine wpAnyH_done (by kernel_rfl) ?_ _;refine NoPanic.normal ?_;clear hHeld2;go_wp2_with fail;go_roundw
     case rel=>exact⟨q+1,z',by omega,rfl,by go_num,HK3.o,hnext.o⟩
     case measure=>simp only[RowKit.intOf];omega
    ·have hqe:q=n:=(by omega);subst hqe;have hqn:¬((q:Int)<(q:Int)):=(by omega);have HS0:Hid (S=0):=by
      show _=_;rw[hfe.o,h0];simp only[ne_eq,not_true_eq_false,if_false];exact j55 fun i h hi=>hz i h (by rw[<- HL.o];exact h)
     clear hz h0 hkw hkq HBk hfe;go_wp2_with fail;go_ret;exact⟨rInt HS0.o.symm,HKW.o⟩
   ·have HS0:=h_ hS;have hzb:(z==0)=R:=(by simpa using hz);have jj:((q:Int)<(n:Int))∨¬((q:Int)<(n:Int)):=Decidable.em _;clear hkw hkq HBk hfe hS;rcases jj with jj|jj;all_goals
     go_wp2_with fail;go_ret;exact⟨rInt HS0.o.symm,HKW.o⟩
end
section
open Go.RowKit Go.Lib
theorem j6U (B:j14)(t:Nd)(sl:Value)(F:Nat->Prop)(w:World)(hsz:t.size<=1048576)(hok:t.ok)(htx:t.txt)(hin:NdIn w F sl t):
 Calls prog 91 #[t.hd.val sl] w fun e w'=>e=Q (O I (chk t))/\Kp w w' Nul:=by
 obtain⟨W1,hW1⟩:=e_ (w.alloc (.cells (t.hd.cells sl).toArray 48));have k1:Kp w W1 Nul:=by rw[<- hW1];exact(Kp.refl w Nul).alloc _
 have b1:Blk W1 w.heap.size (t.hd.cells sl) 48:=by rw[<- hW1];exact Blk.new w _ _
 have HW1:=h_ hW1;have HT:=h_ fun wq (hq:Kp w wq Nul)=>jD5 t.size t sl F wq (Nat.le_refl _) hsz (hin.kp hq (fun _ _ x=>x))
 have HD:=h_ fun wq (hq:Kp w wq Nul)=>jD6 t.size t sl F wq (Nat.le_refl _) hsz (hin.kp hq (fun _ _ x=>x))
 have HF:=h_ fun wq (hq:Kp w wq Nul)=>jDF B t.size t sl F R wq (Nat.le_refl _) hok htx (hin.kp hq (fun _ _ x=>x))
 have hE:Hid (chk t=if 256<t.size then 34 else if 32<t.dep then 33 else t.fe R):=rfl;have HB:=h_ fun wq (hq:Kp W1 wq Nul)=>b1.kp hq (fun x=>x)
 have HK1:=h_ k1;clear hW1 k1 b1 hok hin hsz htx B;generalize chk t=ae at *;generalize t.size=sz at *;generalize t.dep=dp at *;generalize t.fe R=fe at *;generalize t.hd=h at *;go_enter func91,ntmps91;go_wp2_with fail;rw[HW1.o];refine(HT.o _ HK1.o).mono ?_;rintro e w1 ⟨rfl,hk1⟩;have HK2:Hid (Kp W1 w1 Nul):=Kp.of_gr hk1;have HB1:=h_ (HB.o w1 HK2.o);clear hk1 HT HW1;by_cases h1:256<sz
 ·have j:(256:Int)<(sz:Int):=by omega
  have HE:Hid (ae=34):=by show _=_;rw[hE.o,if_pos h1]
  go_wp2_with fail;go_ret;exact⟨rInt HE.o.symm,HK1.o.trans HK2.o⟩
 ·have j:¬(256:Int)<(sz:Int):=by omega
  have hE2:Hid (ae=if 32<dp then 33 else fe):=by show _=_;rw[hE.o,if_neg h1]
  clear hE h1;go_wp2_with (first|(refine U0 rfl (.tmp 1) rfl w.heap.size rfl (h.cells sl).toArray HB1.o rfl ?_)|fail);refine(HD.o _ (HK1.o.trans HK2.o)).mono ?_;rintro e w2 ⟨rfl,hg2⟩;have HK3:=h_ (HK2.o.trans (Kp.of_gr hg2));have HB2:=h_ (HB.o w2 HK3.o);clear hg2 HD HK2 HB1;by_cases h2:32<dp
  ·have j2:(32:Int)<(dp:Int):=(by omega);have HE:Hid (ae=33):=(by show _=_;rw[hE2.o,if_pos h2]);go_wp2_with fail;go_ret;exact⟨rInt HE.o.symm,HK1.o.trans HK3.o⟩
  ·have j2:¬(32:Int)<(dp:Int):=(by omega);have HE:Hid (ae=fe):=(by show _=_;rw[hE2.o,if_neg h2]);go_wp2_with (first|(refine U0 rfl (.tmp 1) rfl w.heap.size rfl (h.cells sl).toArray HB2.o rfl ?_)|fail);refine(HF.o _ (HK1.o.trans HK3.o)).mono ?_;rintro e w3 ⟨rfl,hk3⟩;have HK4:=h_ ((HK1.o.trans HK3.o).trans hk3);clear hk3 HF;go_wp2_with fail;go_ret;exact⟨rInt HE.o.symm,HK4.o⟩
theorem j25 (a b c d:Int)(p q s t:Bool)(ak:Bool)(hT:(a==c&&b==d&&p==s&&q==t)=ak)(w:World):(binOp .neq 45 (T #[O I a,O I b,E p,E q]) (T #[O I c,O I d,E s,E t])).run prog w=.ok (E (!ak)) w:=by
 subst hT;by_cases h1:a=c
 ·subst h1;by_cases h2:b=d
  ·subst h2;cases p <;> cases q <;> cases s <;> cases t <;> simp[go_sem]
  ·have h2':(b==d)=R:=(by simpa using h2);simp[go_sem,h2']
 ·have h1':(a==c)=R:=by simpa using h1
  simp[go_sem,h1']
theorem jDg (h g:Hd)(hx:h.x<18446744073709551616)(gx:g.x<18446744073709551616)(n m:Nat)(a b:Option Addr)(c d:Nat)(w:World)(hno:(j9 h g&&n==m)=R):
 Calls prog 82 #[h.val (U a n c),g.val (U b m d)] w fun e w'=>e=Q (E R)/\Kp w w' Nul:=by
 have H1:=h_ (j6o h.x g.x hx gx);have e1:=j25 h.c1 h.r1 g.c1 g.r1 h.p1 h.q1 g.p1 g.q1 _ rfl;have e2:=j25 h.c2 h.r2 g.c2 g.r2 h.p2 h.q2 g.p2 g.q2 _ rfl;have hV:Hid ((h.k==g.k&&h.o==g.o&&L0 h.x g.x&&decide (h.s.toList=g.s.toList)&&h.b==g.b&&h.f==g.f &&
  (h.c1==g.c1&&h.r1==g.r1&&h.p1==g.p1&&h.q1==g.q1)&&(h.c2==g.c2&&h.r2==g.r2&&h.p2==g.p2&&h.q2==g.q2)&&n==m)=R):=hno
 generalize L0 h.x g.x=fs at *;generalize (h.c1==g.c1&&h.r1==g.r1&&h.p1==g.p1&&h.q1==g.q1)=b1 at *;generalize (h.c2==g.c2&&h.r2==g.r2&&h.p2==g.p2&&h.q2==g.q2)=b2 at *;clear hx gx hno;obtain⟨k,o,x,s,b0,f,c1,r1,p1,q1,c2,r2,p2,q2⟩:=h;obtain⟨k',o',x',s',b',f',c1',r1',p1',q1',c2',r2',p2',q2'⟩:=g;simp only at *;have fin:Hid (∀o1 o2,Kp w ((w.alloc o1).alloc o2) Nul):=fun o1 o2=>((Kp.refl w Nul).alloc _).alloc _
 by_cases hk:k=k'
 rotate_left
 ·have nk:(k==k')=R:=by simpa using hk
  clear hV;go_enter func82,ntmps82;go_wp2_with fail;refine(H1.o _).mono ?_;rintro e w1 ⟨rfl,rfl⟩;go_wp21;go_ret;exact⟨rfl,fin.o _ _⟩
 subst hk;by_cases ho:o=o'
 rotate_left
 ·have no:(o==o')=R:=by simpa using ho
  clear hV;go_enter func82,ntmps82;go_wp2_with fail;refine(H1.o _).mono ?_;rintro e w1 ⟨rfl,rfl⟩;go_wp21;go_ret;exact⟨rfl,fin.o _ _⟩
 subst ho;cases fs
 ·skip
  clear hV;go_enter func82,ntmps82;go_wp2_with fail;refine(H1.o _).mono ?_;rintro e w1 ⟨rfl,rfl⟩;go_wp21;go_ret;exact⟨rfl,fin.o _ _⟩
 by_cases hs:s.toList=s'.toList
 rotate_left
 ·have ns:(s.toList==s'.toList)=R:=by simpa using hs
  clear hV;go_enter func82,ntmps82;go_wp2_with fail;refine(H1.o _).mono ?_;rintro e w1 ⟨rfl,rfl⟩;go_wp21;go_ret;exact⟨rfl,fin.o _ _⟩
 have ns:(s.toList==s'.toList)=J:=by simpa using hs
 by_cases hb:b0=b'
 rotate_left
 ·have nb:(b0==b')=R:=by simpa using hb
  clear hV;go_enter func82,ntmps82;go_wp2_with fail;refine(H1.o _).mono ?_;rintro e w1 ⟨rfl,rfl⟩;go_wp21;go_ret;exact⟨rfl,fin.o _ _⟩
 subst hb;by_cases hf:f=f'
 rotate_left
 ·have nf:(f==f')=R:=by simpa using hf
  clear hV;go_enter func82,ntmps82;go_wp2_with fail;refine(H1.o _).mono ?_;rintro e w1 ⟨rfl,rfl⟩;go_wp21;go_ret;exact⟨rfl,fin.o _ _⟩
 subst hf;cases b1
 ·skip
  clear hV;go_enter func82,ntmps82;go_wp2_with fail;refine(H1.o _).mono ?_;rintro e w1 ⟨rfl,rfl⟩;go_wp21;go_ret;exact⟨rfl,fin.o _ _⟩
 cases b2
 ·skip
  clear hV;go_enter func82,ntmps82;go_wp2_with fail;refine(H1.o _).mono ?_;rintro e w1 ⟨rfl,rfl⟩;go_wp21;go_ret;exact⟨rfl,fin.o _ _⟩
 by_cases hn:n=m
 rotate_left
 ·have nn:((n:Int)==(m:Int))=R:=by simp;omega
  clear hV;go_enter func82,ntmps82;go_wp2_with fail;refine(H1.o _).mono ?_;rintro e w1 ⟨rfl,rfl⟩;go_wp21;go_ret;exact⟨rfl,fin.o _ _⟩
 subst hn;exact absurd hV.o (by simp[hs])
end
section
open Go.RowKit Go.Lib
attribute [local irreducible] G8 F3
theorem j3E {h g:Hd}(e:j9 h g=J):h.k=g.k/\h.o=g.o/\L0 h.x g.x=J/\h.s.toList=g.s.toList/\h.b=g.b/\h.f=g.f/\(h.c1==g.c1&&h.r1==g.r1&&h.p1==g.p1&&h.q1==g.q1)=J/\(h.c2==g.c2&&h.r2==g.r2&&h.p2==g.p2&&h.q2==g.q2)=J:=by
 unfold j9 at e;simp only[Bool.and_eq_true] at e ⊢;obtain⟨⟨⟨⟨⟨⟨⟨e1,e2⟩,e3⟩,e4⟩,e5⟩,e6⟩,e7⟩,e8⟩:=e;exact⟨by simpa using e1,by simpa using e2,e3,by simpa using e4,by simpa using e5,by simpa using e6,e7,e8⟩
theorem jDf (N:Nat):∀(t u:Nd) (sl sg:Value) (F ah:Nat->Prop) (w:World),t.size<=N->t.ok->u.ok->NdIn w F sl t->NdIn w ah sg u ->
 Calls prog 82 #[t.hd.val sl,u.hd.val sg] w fun e w'=>e=Q (E (G8 t u))/\Kp w w' Nul:=by
 induction N with
 | zero=>intro t u sl sg F ah w h;have:=L7 t;omega
 | succ N ih=>
  intro t u sl sg F ah w hN hok gok hin gin;obtain⟨h,ts⟩:=t;obtain⟨g,us⟩:=u;rw[NdIn] at hin gin;obtain⟨a,c,rfl,_,h3,h4⟩:=hin;obtain⟨a',c',rfl,_,_,h4'⟩:=gin;have hts:G8 (.mk h ts) (.mk g us)=(j9 h g&&F3 ts us):=by rw[G8]
  have hsz:Hid ((Nd.mk h ts).size=1+D3 ts):=by show _=_;rw[Nd.size]
  have HN:=h_ hN;have hlen:ts.length<=9223372036854775807:=by unfold maxLen at h3;omega
  simp only[Nd.hd];by_cases hno:(j9 h g&&ts.length==us.length)=J
  rotate_left
  ·have hno':(j9 h g&&ts.length==us.length)=R:=(by simpa using hno);have e:G8 (.mk h ts) (.mk g us)=R:=by
    rw[hts];cases hq:j9 h g with
    | false=>rfl
    | true=>
     rw[hq] at hno';rw[j3R ts us (by simpa using hno')];rfl
   rw[e];exact jDg h g hok.x gok.x ts.length us.length a a' c c' w hno'
  rw[Bool.and_eq_true] at hno;obtain⟨hq,hl⟩:=hno;have hl':us.length=ts.length:=by have:=beq_iff_eq.1 hl;omega
  have HT:Hid (G8 (.mk h ts) (.mk g us)=F3 ts us):=by show _=_;rw[hts,hq];rfl
  have H1:=h_ (j6o h.x g.x hok.x gok.x);have IH:Hid (∀(t u:Nd) (sl sg:Value) (F ah:Nat->Prop) (w:World),t.size<=N->t.ok->u.ok->NdIn w F sl t->NdIn w ah sg u ->
   Calls prog 82 #[t.hd.val sl,u.hd.val sg] w fun e w'=>e=Q (E (G8 t u))/\Kp w w' Nul):=ih
  have H4:=h_ h4;have H4':=h_ h4';have HOK:Hid (okL ts/\okL us):=⟨hok.l,gok.l⟩;obtain⟨q1,q2,q3,q4,q5,q6,q7,q8⟩:=j3E hq;have e1:=j25 h.c1 h.r1 g.c1 g.r1 h.p1 h.q1 g.p1 g.q1 _ q7;have e2:=j25 h.c2 h.r2 g.c2 g.r2 h.p2 h.q2 g.p2 g.q2 _ q8;have ns:(h.s.toList==g.s.toList)=J:=by simpa using q4
  rw[q3] at H1;obtain⟨hk,ho,hx,hs,hb,hf,hc1,hr1,hp1,hq1,hc2,hr2,hp2,hq2⟩:=h;obtain⟨gk,go,gx,gs,gb,gf,gc1,gr1,gp1,gq1,gc2,gr2,gp2,gq2⟩:=g;simp only at q1 q2 q4 q5 q6 q7 q8 e1 e2 ns H1;subst q1 q2 q5 q6;rw[hl'];generalize hn:ts.length=n at *;have HL:Hid (ts.length=n/\us.length=n):=⟨hn,hl'⟩;have HLEN:=h_ hlen;rw[HT.o];obtain⟨A,hA⟩:=e_ (F3 ts us);have HA:=h_ hA;rw[hA];obtain⟨W1,hW1⟩:=e_ ((w.alloc (.cells ((⟨hk,ho,hx,hs,hb,hf,hc1,hr1,hp1,hq1,hc2,hr2,hp2,hq2⟩:Hd).cells (U a n c)).toArray 48)).alloc (.cells ((⟨hk,ho,gx,gs,hb,hf,gc1,gr1,gp1,gq1,gc2,gr2,gp2,gq2⟩:Hd).cells (U a' n c')).toArray 48));have k1:Kp w W1 Nul:=by rw[<- hW1];exact((Kp.refl w Nul).alloc _).alloc _
  have b1:Blk W1 w.heap.size ((⟨hk,ho,hx,hs,hb,hf,hc1,hr1,hp1,hq1,hc2,hr2,hp2,hq2⟩:Hd).cells (U a n c)) 48:=by rw[<- hW1];exact(Blk.new w _ _).alloc _
  have b2:Blk W1 (w.heap.size+1) ((⟨hk,ho,gx,gs,hb,hf,gc1,gr1,gp1,gq1,gc2,gr2,gp2,gq2⟩:Hd).cells (U a' n c')) 48:=by
   have:=Blk.new (w.alloc (.cells ((⟨hk,ho,hx,hs,hb,hf,hc1,hr1,hp1,hq1,hc2,hr2,hp2,hq2⟩:Hd).cells (U a n c)).toArray 48)) ((⟨hk,ho,gx,gs,hb,hf,gc1,gr1,gp1,gq1,gc2,gr2,gp2,gq2⟩:Hd).cells (U a' n c')) 48;rw[World.size_alloc] at this;rw[<- hW1];exact this
  have HB:Hid (∀wq,Kp W1 wq Nul->wq.cell? ⟨w.heap.size,14,G⟩=H (U a n c)/\wq.cell? ⟨w.heap.size+1,14,G⟩=H (U a' n c')):=fun wq hq=>⟨(b1.kp hq (fun x=>x)).cell rfl,(b2.kp hq (fun x=>x)).cell rfl⟩
  have HK1:=h_ k1;have HW1:=h_ hW1;clear ih hN h4 h4' h3 hok gok hts hq hl hl' hn hlen hA k1 b1 b2 hW1 q7 q8 q3 q4;go_enter func82,ntmps82;go_wp2_with fail;refine(H1.o _).mono ?_;rintro e w1 ⟨rfl,rfl⟩;go_wp2_with fail;rw[HW1.o];clear HW1 H1 e1 e2 ns;go_loopw[6] (fun i wr=>∃q:Nat,q<=n/\i=O I q/\Kp W1 wr Nul/\F3 (ts.take q) (us.take q)=J) (fun i _=>n-(RowKit.intOf i).toNat)
  case atStart=>exact⟨0,Nat.zero_le _,rfl,Kp.refl _ _,by rw[List.take_zero,List.take_zero,F3]⟩
  case round=>
   obtain⟨q,hq,rfl,hkq,hz⟩:=hrel;have KQ:=h_ hkq;have hkw:=HK1.o.trans hkq;have HKW:=h_ hkw;obtain⟨x14,y14⟩:=HB.o wr hkq;by_cases hlt:q<n
   ·have hqt:q<ts.length:=(by rw[HL.o.1];exact hlt);have hqu:q<us.length:=(by rw[HL.o.2];exact hlt);obtain⟨b,o,rfl,hFb,hns⟩:∃b o,a=H ⟨b,o,G⟩/\F b/\F6 w F b o ts:=by
     rcases H4.o with h|h
     ·rw[h.1] at hqt;simp at hqt
     ·exact h
    obtain⟨b',o',rfl,hGb,gns⟩:∃b o,a'=H ⟨b,o,G⟩/\ah b/\F6 w ah b o us:=by
     rcases H4'.o with h|h
     ·rw[h.1] at hqu;simp at hqu
     ·exact h
    obtain⟨s1,hr,hni⟩:=hns.get q hqt;obtain⟨s2,gr,gni⟩:=gns.get q hqu;have hr':=I7 hr (hkw.block b (Q0 hr) (fun x=>x));have gr':=I7 gr (hkw.block b' (Q0 gr) (fun x=>x));have HR:=(h_ fun wq (hk:Kp wr wq Nul)=>I7 hr' (hk.block b (Q0 hr') (fun x=>x)));have HR2:=(h_ fun wq (hk:Kp wr wq Nul)=>I7 gr' (hk.block b' (Q0 gr') (fun x=>x)));have hni':=hni.kp hkw (fun _ _ x=>x);have gni':=gni.kp hkw (fun _ _ x=>x);have hs1:=Q4 ts q hqt;have HC:=(h_ fun wq (hq:Kp wr wq Nul)=>IH.o ts[q] us[q] s1 s2 F ah wq (by have:=HN.o;have:=hsz.o;omega) (HOK.o.1.get q hqt) (HOK.o.2.get q hqu) (hni'.kp hq (fun _ _ x=>x)) (gni'.kp hq (fun _ _ x=>x)));have HS:=(h_ fun wq (hk:Kp wr wq Nul)=>HB.o wq (KQ.o.trans hk));have hnx:Hid (F3 (ts.take (q+1)) (us.take (q+1))=G8 ts[q] us[q]):=(by show _=_;rw[j3T ts us q hqt hqu,hz,Bool.true_and]);have hst:Hid (F3 (ts.take (q+1)) (us.take (q+1))=R->A=R):=fun e=>by rw[<- HA.o];exact j3S ts us (q+1) (by rw[HL.o.1,HL.o.2]) e
    clear hs1 hni hni' hr hr' hns gni gni' gr gr' gns hkw hkq hz;generalize G8 ts[q] us[q]=z at *;generalize (ts[q]).hd=hh at *;generalize (us[q]).hd=gg at *;have hkb:(q:Int)+1<=9223372036854775807:=(by have:=HLEN.o;omega);have hq0:(0:Int)<=(q:Int):=(by omega);have hqn:(q:Int)<(n:Int):=(by omega);go_wp2_with fail;refine wp_region_noPanic ?_;refine I0 (fun w':World=>Kp wr w' Nul) (by kernel_rfl) ((Kp.refl wr Nul).drew) (fun hHeld=>?_);refine tk 0 80 hHeld ?_ (hy:=by intro w' hSw;obtain⟨s0,s1⟩:=HS.o _ hSw;clear hSw;go_simp;try with_reducible rfl);refine tk 1 81 hHeld ?_ (hy:=by intro w' hSw;obtain⟨s0,s1⟩:=HS.o _ hSw;clear hSw;go_simp;try with_reducible rfl);refine tk 2 82 hHeld ?_ (hy:=by intro w' hSw;obtain⟨s0,s1⟩:=HS.o _ hSw;clear hSw;go_simp;try with_reducible rfl);refine tk 3 83 hHeld ?_ (hy:=by intro w' hSw;obtain⟨s0,s1⟩:=HS.o _ hSw;clear hSw;go_simp;try with_reducible rfl)
    refine tk 4 84 hHeld ?_ (v:=hh.val s1) (hy:=by exact fun w' hSw=>j33 (hh.cells s1) rfl rfl (HR.o w' hSw) rfl);refine tk 5 85 hHeld ?_ (hy:=by intro w' hSw;obtain⟨s0,s1⟩:=HS.o _ hSw;clear hSw;go_simp;try with_reducible rfl);refine tk 6 86 hHeld ?_ (hy:=by intro w' hSw;obtain⟨s0,s1⟩:=HS.o _ hSw;clear hSw;go_simp;try with_reducible rfl);refine tk 7 87 hHeld ?_ (hy:=by intro w' hSw;obtain⟨s0,s1⟩:=HS.o _ hSw;clear hSw;go_simp;try with_reducible rfl);refine tk 8 88 hHeld ?_ (hy:=by intro w' hSw;obtain⟨s0,s1⟩:=HS.o _ hSw;clear hSw;go_simp;try with_reducible rfl);refine tk 9 89 hHeld ?_ (v:=gg.val s2) (hy:=by exact fun w' hSw=>j33 (gg.cells s2) rfl rfl (HR2.o w' hSw) rfl);refine D6 (i:=10) (by kernel_rfl) rfl rfl (fun K hK=>?_);go_simp;refine(HC.o _ ((Kp.refl wr Nul).drew)).mono ?_;rintro e w2 ⟨rfl,hk2⟩;have hk2':Kp wr w2 Nul:=((Kp.refl wr Nul).drew).trans hk2;have HK3:=h_ (KQ.o.trans hk2')
    have HK4:=h_ (HKW.o.trans hk2');refine hK.o _ _ hk2' (fun hHeld2=>?_);clear hK K hHeld hk2 hk2' HC HS HR HR2 x14 y14;refine tk 11 7 hHeld2 ?_;refine wpAnyH_done (by kernel_rfl) ?_ _;refine NoPanic.normal ?_;clear hHeld2;cases z with
    | true=>
     go_wp2_with fail;go_roundw
     case rel=>exact⟨q+1,by omega,by go_num,HK3.o,hnx.o⟩
     case measure=>simp only[RowKit.intOf];omega
    | false=>
     have HE:=h_ (hst.o hnx.o);clear hnx hst;go_wp21;go_ret;exact⟨j4 HE.o.symm,HK4.o⟩
   ·have hqe:q=n:=(by omega);subst hqe;have hqn:¬((q:Int)<(q:Int)):=(by omega);have HE:Hid (A=J):=by
     show _=_;have h1:=HL.o.1;have h2:=HL.o.2;rw[<- HA.o,<- hz]
     congr 1
     ·rw[List.take_of_length_le (by omega)]
     ·rw[List.take_of_length_le (by omega)]
    clear hz hkw hkq;go_wp2_with fail;go_ret;exact⟨j4 HE.o.symm,HKW.o⟩
end
section
open Go.RowKit Go.Lib
attribute [local irreducible] G8 F3
def j0e (a b:Ct):Bool:=a.k==b.k&&(if a.k=1 then j0V a.v b.v else if a.k=2 then G8 a.t b.t else J)
theorem jCw (a b:Ct)(sl sg:Value)(F ah:Nat->Prop)(w:World)(ha:a.v.x<18446744073709551616)(hb:b.v.x<18446744073709551616)(hok:a.t.ok)(gok:b.t.ok)(hin:NdIn w F sl a.t)(gin:NdIn w ah sg b.t):
 Calls prog 42 #[a.val sl,b.val sg] w fun e w'=>e=Q (E (j0e a b))/\Kp w w' Nul:=by
 have H1:=h_ (jDn a.v b.v ha hb);have H2:=h_ fun wq (hq:Kp w wq Nul)=>jDf a.t.size a.t b.t sl sg F ah wq (Nat.le_refl _) hok gok (hin.kp hq (fun _ _ x=>x)) (gin.kp hq (fun _ _ x=>x))
 have hV:Hid (j0e a b=(a.k==b.k&&(if a.k=1 then j0V a.v b.v else if a.k=2 then G8 a.t b.t else J))):=rfl;generalize j0e a b=V at *;generalize j0V a.v b.v=VS1 at *;generalize G8 a.t b.t=TS1 at *;clear hin gin hok gok ha hb;have fin:Hid (∀o1 o2,Kp w ((w.alloc o1).alloc o2) Nul):=fun o1 o2=>((Kp.refl w Nul).alloc _).alloc _
 obtain⟨k,⟨vk,vx,vs,vb,vf⟩,t⟩:=a;obtain⟨k',⟨vk',vx',vs',vb',vf'⟩,t'⟩:=b;simp only at *;by_cases hk:k=k'
 rotate_left
 ·have nk:(k==k')=R:=by simpa using hk
  have HE:Hid (V=R):=by show _=_;rw[hV.o,nk];rfl
  clear hV H1 H2;go_enter func42,ntmps42;go_wp2_with fail;go_ret;exact⟨j4 HE.o.symm,fin.o _ _⟩
 subst hk;by_cases k1:k=1
 ·subst k1;have HE:Hid (V=VS1):=by show _=_;rw[hV.o];simp
  clear hV H2;go_enter func42,ntmps42;go_wp2_with fail;refine(H1.o _).mono ?_;rintro e w1 ⟨rfl,hk1⟩;have G1:=h_ ((fin.o _ _).trans hk1);clear hk1;go_wp2_with fail;go_ret;exact⟨j4 HE.o.symm,G1.o⟩
 by_cases k2:k=2
 ·subst k2;have HE:Hid (V=TS1):=by show _=_;rw[hV.o];simp
  clear hV H1;go_enter func42,ntmps42;go_wp2_with fail;refine(H2.o _ (fin.o _ _)).mono ?_;rintro e w1 ⟨rfl,hk1⟩;have G1:=h_ ((fin.o _ _).trans hk1);clear hk1;go_wp2_with fail;go_ret;exact⟨j4 HE.o.symm,G1.o⟩
 ·have e1:(k==1)=R:=by simpa using k1
  have e2:(k==2)=R:=by simpa using k2
  have HE:Hid (V=J):=by show _=_;rw[hV.o];simp[k1,k2]
  clear hV H1 H2;go_enter func42,ntmps42;go_wp2_with fail;go_ret;exact⟨j4 HE.o.symm,fin.o _ _⟩
end
section
open Go.RowKit Go.Lib
theorem j4N:j14:=⟨jCr,jCt,jCu,jCq,jCs,jCv,jCo,jCp⟩
theorem j3k (c:Ct)(sl:Value)(F:Nat->Prop)(w:World)(hsz:c.t.size<=1048576)(hok:c.t.ok)(htx:c.t.txt)(hs:c.v.s.size<=140737488355328)(hin:NdIn w F sl c.t):
 Calls prog 48 #[c.val sl] w fun e w'=>e=Q (E (Q1 c (validD c.v.s.data.toList) (chk c.t)))/\Kp w w' Nul:=
 jCx c sl F (chk c.t) w hin hs (fun wq hq=>j6U j4N c.t sl F wq hsz hok htx (hin.kp hq (fun _ _ x=>x)))
end
end Go.Proofs.YtecjfnkakodebaaGreatDoor
