/-sameFields: two nodes alike but for their lists. -/
import Derived.Test.YtecjfnkakodebaaGreatDoorRmPka
open Go.Proofs.Tryz
open Go.Value renaming int->O,bool->E,agg->T
open Go.IntKind renaming i64->I
open Bool renaming false->R,true->J
open Option renaming some->H,none->G
open Go.Ending renaming returned->Q
set_option maxRecDepth 20000
set_option maxHeartbeats 8000000
namespace Go.Proofs.YtecjfnkakodebaaGreatDoor
open Go.RowKit
theorem L4 (a b c d:Int)(p q s t:Bool)(ak:Bool)(hT:(a==c&&b==d&&p==s&&q==t)=ak)(w:World):(binOp .eql 45 (T #[O I a,O I b,E p,E q]) (T #[O I c,O I d,E s,E t])).run prog w=.ok (E ak) w:=by
 subst hT;by_cases h1:a=c
 ·subst h1;by_cases h2:b=d
  ·subst h2;cases p <;> cases q <;> cases s <;> cases t <;> simp[go_sem]
  ·have h2':(b==d)=R:=(by simpa using h2);simp[go_sem,h2']
 ·have h1':(a==c)=R:=by simpa using h1
  simp[go_sem,h1']
def j9 (h g:Hd):Bool:=h.k==g.k&&h.o==g.o&&L0 h.x g.x&&decide (h.s.toList=g.s.toList)&&h.b==g.b&&h.f==g.f &&
 (h.c1==g.c1&&h.r1==g.r1&&h.p1==g.p1&&h.q1==g.q1)&&(h.c2==g.c2&&h.r2==g.r2&&h.p2==g.p2&&h.q2==g.q2)
theorem Y0 (h g:Hd)(hx:h.x<18446744073709551616)(gx:g.x<18446744073709551616)(sl sg:Value)(w:World):
 Calls prog 101 #[h.val sl,g.val sg] w fun e w'=>e=Q (E (j9 h g))/\Gr w w':=by
 have H1:=h_ (jA0 h.x g.x hx gx);have e1:=L4 h.c1 h.r1 g.c1 g.r1 h.p1 h.q1 g.p1 g.q1 _ rfl;have e2:=L4 h.c2 h.r2 g.c2 g.r2 h.p2 h.q2 g.p2 g.q2 _ rfl;have hV:Hid (j9 h g=(h.k==g.k&&h.o==g.o&&L0 h.x g.x&&decide (h.s.toList=g.s.toList)&&h.b==g.b&&h.f==g.f &&
  (h.c1==g.c1&&h.r1==g.r1&&h.p1==g.p1&&h.q1==g.q1)&&(h.c2==g.c2&&h.r2==g.r2&&h.p2==g.p2&&h.q2==g.q2))):=rfl
 have G0:Hid (∀a b t u,Gr w ((w.alloc (.cells a t)).alloc (.cells b u))):=fun a b t u=>((Gr.refl w).alloc _ _).alloc _ _
 generalize j9 h g=V at *;generalize L0 h.x g.x=fs at *;generalize (h.c1==g.c1&&h.r1==g.r1&&h.p1==g.p1&&h.q1==g.q1)=b1 at *;generalize (h.c2==g.c2&&h.r2==g.r2&&h.p2==g.p2&&h.q2==g.q2)=b2 at *;clear hx gx;obtain⟨k,o,x,s,b,f,c1,r1,p1,q1,c2,r2,p2,q2⟩:=h;obtain⟨k',o',x',s',b',f',c1',r1',p1',q1',c2',r2',p2',q2'⟩:=g;simp only at *;go_enter func101,ntmps101;go_wp2_with (go_at_call 140;refine(H1.o _).mono ?_;rintro e w' ⟨rfl,rfl⟩);all_goals
  go_ret;refine⟨j4 ?_,G0.o _ _ _ _⟩;rw[hV.o];clear H1 hV G0 e1 e2;simp_all
mutual
def Nd.ok:Nd->Prop
 | .mk h ts=>h.x<18446744073709551616/\okL ts
def okL:List Nd->Prop
 | []=>True
 | t::ts=>t.ok/\okL ts
end
theorem okL.get:∀ {ts:List Nd},okL ts->∀i,(h:i<ts.length)->(ts[i]).ok
 | [],_,i,h=>absurd h (by simp)
 | t::ts,hk,i,h=>by
  rw[okL] at hk;cases i with
  | zero=>exact hk.1
  | succ i=>exact okL.get hk.2 i (by simpa using h)
theorem Nd.ok.x {t:Nd}(h:t.ok):t.hd.x<18446744073709551616:=by cases t;rw[Nd.ok] at h;exact h.1
theorem Nd.ok.l {t:Nd}(h:t.ok):okL t.ts:=by cases t;rw[Nd.ok] at h;exact h.2
mutual
def G8:Nd->Nd->Bool
 | .mk h ts,.mk g us=>j9 h g&&F3 ts us
def F3:List Nd->List Nd->Bool
 | [],[]=>J
 | t::ts,u::us=>G8 t u&&F3 ts us
 | [],_::_=>R
 | _::_,[]=>R
end
theorem j3R:∀(ts us:List Nd),ts.length≠us.length->F3 ts us=R
 | [],[],h=>absurd rfl h
 | [],_::_,_=>by rw[F3]
 | _::_,[],_=>by rw[F3]
 | t::ts,u::us,h=>by rw[F3,j3R ts us (by simpa using h),Bool.and_false]
theorem j3T:∀(ts us:List Nd) (k:Nat),(hk:k<ts.length)->(hu:k<us.length)->F3 (ts.take (k+1)) (us.take (k+1))=(F3 (ts.take k) (us.take k)&&G8 ts[k] us[k])
 | [],_,k,hk,_=>absurd hk (by simp)
 | _::_,[],k,_,hu=>absurd hu (by simp)
 | t::ts,u::us,0,_,_=>by simp[F3]
 | t::ts,u::us,k+1,hk,hu=>by
  have:=j3T ts us k (by simpa using hk) (by simpa using hu);rw[List.take_succ_cons,List.take_succ_cons,F3,this,List.take_succ_cons,List.take_succ_cons,F3,Bool.and_assoc];simp
theorem j3S:∀(ts us:List Nd) (k:Nat),ts.length=us.length->F3 (ts.take k) (us.take k)=R->F3 ts us=R
 | [],[],k,_,h=>by simp[F3] at h
 | [],_::_,_,e,_=>by simp at e
 | _::_,[],_,e,_=>by simp at e
 | t::ts,u::us,0,_,h=>by simp[F3] at h
 | t::ts,u::us,k+1,e,h=>by
  rw[List.take_succ_cons,List.take_succ_cons,F3] at h;rw[F3];by_cases ht:G8 t u=J
  ·rw[ht,Bool.true_and] at h ⊢;exact j3S ts us k (by simpa using e) h
  ·rw[Bool.not_eq_true] at ht;rw[ht,Bool.false_and]
theorem j9o (ts us:List Nd)(h g:Hd)(sl sg:Value)(F ah:Nat->Prop)(w:World)(hin:NdIn w F sl (.mk h ts))(gin:NdIn w ah sg (.mk g us))
 (ag:Hid (∀i,(hi:i<ts.length)->(gi:i<us.length)->∀(s1 s2:Value) (wq:World),Gr w wq->NdIn wq F s1 ts[i]->NdIn wq ah s2 us[i] ->
  Calls prog 60 #[(ts[i]).hd.val s1,(us[i]).hd.val s2] wq fun e w'=>e=Q (E (G8 ts[i] us[i]))/\Gr wq w')) :
 Calls prog 102 #[sl,sg,.func (.func 60) #[] #[]] w fun e w'=>e=Q (E (F3 ts us))/\Gr w w':=by
 rw[NdIn] at hin gin;obtain⟨a,c,rfl,_,hc,h4⟩:=hin;obtain⟨b,d,rfl,_,hd,g4⟩:=gin;have HL:Hid (ts.length<=9223372036854775807):=by show _<=_;unfold maxLen at hc;omega
 have H4:=h_ h4;have G4:=h_ g4;clear h4 g4 hc hd;by_cases he:ts.length=us.length
 ·obtain⟨n,hn⟩:=e_ ts.length;have H1:=h_ hn;have H2:=h_ (he.symm.trans hn);rw[<- he,hn];rw[hn] at HL;clear hn he;have hV:Hid (∀k,k=n->F3 (ts.take k) (us.take k)=F3 ts us):=by
   intro k hk;subst hk;rw[List.take_of_length_le (by rw[H1.o];exact Nat.le_refl _),List.take_of_length_le (by rw[H2.o];exact Nat.le_refl _)]
  have hS:=h_ fun k=>j3S ts us k (H1.o.trans H2.o.symm)
  generalize F3 ts us=V at *;go_enter func102,ntmps102;go_wp2_with fail;go_loopw[17] (fun i wr=>∃k:Nat,k<=n/\i=O I k/\F3 (ts.take k) (us.take k)=J/\Gr w wr) (fun i _=>n-(RowKit.intOf i).toNat)
  case atStart=>exact⟨0,Nat.zero_le _,by simp,by simp[F3],Gr.refl _⟩
  case round=>
   obtain⟨k,hk,rfl,hl,hg⟩:=hrel;have GR:=h_ hg;have HS:=h_ hl;clear hl hg;by_cases hlt:k<n
   ·have hkt:k<ts.length:=(by rw[H1.o];exact hlt);have hku:k<us.length:=(by rw[H2.o];exact hlt);obtain⟨b1,o1,rfl,hF,hns⟩:∃b o,a=H ⟨b,o,G⟩/\F b/\F6 w F b o ts:=by
     rcases H4.o with q|q
     ·rw[q.1] at hkt;simp at hkt
     ·exact q
    obtain⟨b2,o2,rfl,gF,gns⟩:∃b' o,b=H ⟨b',o,G⟩/\ah b'/\F6 w ah b' o us:=by
     rcases G4.o with q|q
     ·rw[q.1] at hku;simp at hku
     ·exact q
    obtain⟨s1,r1,n1⟩:=hns.get k hkt;obtain⟨s2,r2,n2⟩:=gns.get k hku;have R1:=(h_ fun wq (hq:Gr wr wq)=>j1R r1 (GR.o.trans hq));have R2:=(h_ fun wq (hq:Gr wr wq)=>j1R r2 (GR.o.trans hq));have HC:Hid (∀wq,Gr wr wq->Calls prog 60 #[(ts[k]).hd.val s1,(us[k]).hd.val s2] wq fun e w'=>e=Q (E (G8 ts[k] us[k]))/\Gr wq w'):=
     fun wq hq=>ag.o k hkt hku s1 s2 wq (GR.o.trans hq) (n1.gr (GR.o.trans hq)) (n2.gr (GR.o.trans hq))
    have O1:=h_ n1.one;have O2:=h_ n2.one;have HT:=j3T ts us k hkt hku;rw[HS.o,Bool.true_and] at HT;have HT':=h_ HT;have hkb:(k:Int)+1<=9223372036854775807:=(by have:=HL.o;omega);clear HT r1 r2 n1 n2 hns gns hF gF ag H4 G4 HS;generalize G8 ts[k] us[k]=B at *;generalize (ts[k]).hd=ha at *;generalize (us[k]).hd=hb at *;go_wp2_with (first|(refine wpList_load_mid rfl _ (.tmp 20) rfl _ (o1+k*15) rfl _ _ (R1.o _ (by repeat (first|exact Gr.refl _|refine Gr.drew ?_|refine Gr.alloc ?_ _ _))) underlying48 rfl j3 ?_)|(refine wpList_load_mid rfl _ (.tmp 24) rfl _ (o2+k*15) rfl _ _ (R2.o _ (by repeat (first|exact Gr.refl _|refine Gr.drew ?_|refine Gr.alloc ?_ _ _))) underlying48 rfl j3 ?_)|(refine F9 rfl _ (.tmp 8) (.tmp 21) rfl _ _ _ _ _ (by first|rfl|simp) rfl rfl rfl j3 (ha.one O1.o) ?_)|(refine F9 rfl _ (.tmp 9) (.tmp 25) rfl _ _ _ _ _ (by first|rfl|simp) rfl rfl rfl j3 (hb.one O2.o) ?_))
    refine(HC.o _ (((Gr.refl _).alloc _ _).alloc _ _)).mono ?_;rintro e w1 ⟨rfl,hg1⟩;have G2:=h_ ((GR.o.trans (((Gr.refl _).alloc _ _).alloc _ _)).trans hg1);clear hg1 HC R1 R2;cases B
    ·have hB:=h_ ((hS.o (k+1) HT'.o).symm);go_wp2_with fail;go_ret;exact⟨j4 hB.o,G2.o⟩
    ·go_wp2_with fail;go_roundw
     case rel=>exact⟨k+1,by omega,by go_num,HT'.o,G2.o⟩
     case measure=>simp only[RowKit.intOf];omega
   ·have hke:k=n:=(by omega);have hB:Hid (J=V):=(by show _=_;rw[<- hV.o k hke,HS.o]);subst hke;clear ag H4 G4 HS hV hS;go_wp2_with fail;go_ret;exact⟨j4 hB.o,GR.o⟩
 ·have hV:=h_ (j3R ts us he);clear ag H4 G4;generalize F3 ts us=V at *;generalize ts.length=n at *;generalize us.length=m at *;go_enter func102,ntmps102;go_wp2_with fail;go_ret;exact⟨j4 hV.o.symm,Gr.refl _⟩
theorem jEO (N:Nat):∀(t u:Nd) (sl sg:Value) (F ah:Nat->Prop) (w:World),t.size<=N->t.ok->u.ok->NdIn w F sl t->NdIn w ah sg u ->
 Calls prog 60 #[t.hd.val sl,u.hd.val sg] w fun e w'=>e=Q (E (G8 t u))/\Gr w w':=by
 induction N with
 | zero=>intro t u sl sg F ah w h;have:=L7 t;omega
 | succ N ih=>
  intro t u sl sg F ah w hN hok gok hin gin;have H1:=h_ (Y0 t.hd u.hd hok.x gok.x sl sg);have H2:Hid (∀wq,Gr w wq->Calls prog 102 #[sl,sg,.func (.func 60) #[] #[]] wq fun e w'=>e=Q (E (F3 t.ts u.ts))/\Gr wq w'):=by
   intro wq hq;refine j9o t.ts u.ts t.hd u.hd sl sg F ah wq (by rw[<- Nd.eta];exact hin.gr hq) (by rw[<- Nd.eta];exact gin.gr hq) ?_;intro i hi gi s1 s2 w2 h2 i1 i2;refine ih _ _ s1 s2 F ah w2 ?_ (hok.l.get i hi) (gok.l.get i gi) i1 i2;have:=Q4 t.ts i hi;have e:t.size=1+D3 t.ts:=(by rw[Nd.eta t,Nd.size];rfl);omega
  have hV:Hid (G8 t u=(j9 t.hd u.hd&&F3 t.ts u.ts)):=by
   show _=_;cases t;cases u;rw[G8];rfl
  generalize G8 t u=V at *;generalize j9 t.hd u.hd=A at *;generalize F3 t.ts u.ts=B at *;generalize t.hd=h at *;generalize u.hd=g at *;clear ih hin gin hok gok hN;go_enter func60,ntmps60;go_wp2_with fail;refine(H1.o _).mono ?_;rintro e w1 ⟨rfl,hg1⟩;have hcell:=hg1.ext.cell;have G1:=h_ ((((Gr.refl _).alloc _ _).alloc _ _).trans hg1);clear hg1 H1;cases A
  ·go_wp2_with fail;go_ret;exact⟨j4 (by rw[hV.o];rfl),G1.o⟩
  ·go_wp2_with fail;refine(H2.o _ G1.o).mono ?_;rintro e w2 ⟨rfl,hg2⟩;have G2:=h_ (G1.o.trans hg2);clear hg2 H2 hcell;go_wp2_with fail;go_ret;exact⟨j4 (by rw[hV.o,Bool.true_and]),G2.o⟩
theorem jEP (t u:Nd)(sl sg:Value)(F ah:Nat->Prop)(w:World)(hok:t.ok)(gok:u.ok)(hin:NdIn w F sl t)(gin:NdIn w ah sg u):
 Calls prog 60 #[t.hd.val sl,u.hd.val sg] w fun e w'=>e=Q (E (G8 t u))/\Gr w w':=
 jEO t.size t u sl sg F ah w (Nat.le_refl _) hok gok hin gin
end Go.Proofs.YtecjfnkakodebaaGreatDoor
