/-Same: two trees of nodes alike (slices.EqualFunc and Same call each ot. -/
import Derived.Test.YtecjfnkakodebaaGreatDoorQwXs
set_option maxRecDepth 20000
set_option maxHeartbeats 8000000
namespace Go.Proofs.YtecjfnkakodebaaGreatDoor
open Go.RowKit
mutual
def Nd.ok:Nd->Prop
 | .mk h ts=>h.x<18446744073709551616/\okL ts
def okL:List Nd->Prop
 | []=>True
 | t::ts=>t.ok/\okL ts
end
theorem okL.get:∀ {ts:List Nd},okL ts->∀i,(h:i<ts.length)->(ts[i]).ok
 | [],_,i,h=>absurd h (by simp)
 | t::ts,hk,i,h=>by
  rw[okL] at hk
  cases i with
  | zero=>exact hk.1
  | succ i=>exact okL.get hk.2 i (by simpa using h)
theorem Nd.ok.x {t:Nd} (h:t.ok):t.hd.x<18446744073709551616:=by cases t;rw[Nd.ok] at h;exact h.1
theorem Nd.ok.l {t:Nd} (h:t.ok):okL t.ts:=by cases t;rw[Nd.ok] at h;exact h.2
mutual
def tsame:Nd->Nd->Bool
 | .mk h ts,.mk g us=>hsame h g&&lsame ts us
def lsame:List Nd->List Nd->Bool
 | [],[]=>true
 | t::ts,u::us=>tsame t u&&lsame ts us
 | [],_::_=>false
 | _::_,[]=>false
end
theorem lsame_len:∀(ts us:List Nd),ts.length≠us.length->lsame ts us=false
 | [],[],h=>absurd rfl h
 | [],_::_,_=>by rw[lsame]
 | _::_,[],_=>by rw[lsame]
 | t::ts,u::us,h=>by rw[lsame,lsame_len ts us (by simpa using h),Bool.and_false]
theorem lsame_take:∀(ts us:List Nd) (k:Nat),(hk:k<ts.length)->(hu:k<us.length)->lsame (ts.take (k+1)) (us.take (k+1))=(lsame (ts.take k) (us.take k)&&tsame ts[k] us[k])
 | [],_,k,hk,_=>absurd hk (by simp)
 | _::_,[],k,_,hu=>absurd hu (by simp)
 | t::ts,u::us,0,_,_=>by simp[lsame]
 | t::ts,u::us,k+1,hk,hu=>by
  have:=lsame_take ts us k (by simpa using hk) (by simpa using hu)
  rw[List.take_succ_cons,List.take_succ_cons,lsame,this,List.take_succ_cons,List.take_succ_cons,lsame,Bool.and_assoc]
  simp
theorem lsame_stop:∀(ts us:List Nd) (k:Nat),ts.length=us.length->lsame (ts.take k) (us.take k)=false->lsame ts us=false
 | [],[],k,_,h=>by simp[lsame] at h
 | [],_::_,_,e,_=>by simp at e
 | _::_,[],_,e,_=>by simp at e
 | t::ts,u::us,0,_,h=>by simp[lsame] at h
 | t::ts,u::us,k+1,e,h=>by
  rw[List.take_succ_cons,List.take_succ_cons,lsame] at h
  rw[lsame]
  by_cases ht:tsame t u=true
  ·rw[ht,Bool.true_and] at h ⊢
   exact lsame_stop ts us k (by simpa using e) h
  ·rw[Bool.not_eq_true] at ht;rw[ht,Bool.false_and]
theorem equalFunc_of (ts us:List Nd) (h g:Hd) (sl sg:Value) (F G:Nat->Prop) (w:World) (hin:NdIn w F sl (.mk h ts)) (gin:NdIn w G sg (.mk g us))
  (H:Hid (∀i,(hi:i<ts.length)->(gi:i<us.length)->∀(s1 s2:Value) (wq:World),Gr w wq->NdIn wq F s1 ts[i]->NdIn wq G s2 us[i] ->
   Calls Tryz.prog 60 #[(ts[i]).hd.val s1,(us[i]).hd.val s2] wq fun e w'=>e=.returned (.bool (tsame ts[i] us[i]))/\Gr wq w')) :
  Calls Tryz.prog 102 #[sl,sg,.func (.func 60) #[] #[]] w fun e w'=>e=.returned (.bool (lsame ts us))/\Gr w w':=by
 rw[NdIn] at hin gin
 obtain⟨a,c,rfl,_,hc,h4⟩:=hin
 obtain⟨b,d,rfl,_,hd,g4⟩:=gin
 have HL:Hid (ts.length<=9223372036854775807):=by show _<=_;unfold maxLen at hc;omega
 have H4:Hid ((ts=[]/\(c=0∨a≠none))∨∃b o,a=some ⟨b,o,none⟩/\F b/\NdsIn w F b o ts):=h4
 have G4:Hid ((us=[]/\(d=0∨b≠none))∨∃b' o,b=some ⟨b',o,none⟩/\G b'/\NdsIn w G b' o us):=g4
 clear h4 g4 hc hd
 by_cases he:ts.length=us.length
 ·obtain⟨n,hn⟩:∃n,ts.length=n:=⟨_,rfl⟩
  have H1:Hid (ts.length=n):=hn
  have H2:Hid (us.length=n):=he.symm.trans hn
  rw[<- he,hn]
  rw[hn] at HL
  clear hn he
  have hV:Hid (∀k,k=n->lsame (ts.take k) (us.take k)=lsame ts us):=by
   intro k hk
   subst hk
   rw[List.take_of_length_le (by rw[H1.out];exact Nat.le_refl _),List.take_of_length_le (by rw[H2.out];exact Nat.le_refl _)]
  have hS:Hid (∀k,lsame (ts.take k) (us.take k)=false->lsame ts us=false):=fun k=>lsame_stop ts us k (H1.out.trans H2.out.symm)
  generalize lsame ts us=V at *
  go_enter Tryz.func102,Tryz.ntmps102
  go_wp2_with fail
  go_loopw[17] (fun i wr=>∃k:Nat,k<=n/\i=.int .i64 k/\lsame (ts.take k) (us.take k)=true/\Gr w wr) (fun i _=>n-(intOf i).toNat)
  case atStart=>exact⟨0,Nat.zero_le _,by simp,by simp[lsame],Gr.refl _⟩
  case round=>
   obtain⟨k,hk,rfl,hl,hg⟩:=hrel
   have GR:Hid (Gr w wr):=hg
   have HS:Hid (lsame (ts.take k) (us.take k)=true):=hl
   clear hl hg
   by_cases hlt:k<n
   ·have hkt:k<ts.length:=by rw[H1.out];exact hlt
    have hku:k<us.length:=by rw[H2.out];exact hlt
    obtain⟨b1,o1,rfl,hF,hns⟩:∃b o,a=some ⟨b,o,none⟩/\F b/\NdsIn w F b o ts:=by
     rcases H4.out with q|q
     ·rw[q.1] at hkt;simp at hkt
     ·exact q
    obtain⟨b2,o2,rfl,gF,gns⟩:∃b' o,b=some ⟨b',o,none⟩/\G b'/\NdsIn w G b' o us:=by
     rcases G4.out with q|q
     ·rw[q.1] at hku;simp at hku
     ·exact q
    obtain⟨s1,r1,n1⟩:=hns.get k hkt
    obtain⟨s2,r2,n2⟩:=gns.get k hku
    have R1:Hid (∀wq,Gr wr wq->wq.rangeAt b1 (o1+k*15) ((ts[k]).hd.cells s1)):=fun wq hq=>rangeAt_gr r1 (GR.out.trans hq)
    have R2:Hid (∀wq,Gr wr wq->wq.rangeAt b2 (o2+k*15) ((us[k]).hd.cells s2)):=fun wq hq=>rangeAt_gr r2 (GR.out.trans hq)
    have HC:Hid (∀wq,Gr wr wq->Calls Tryz.prog 60 #[(ts[k]).hd.val s1,(us[k]).hd.val s2] wq fun e w'=>e=.returned (.bool (tsame ts[k] us[k]))/\Gr wq w'):=
     fun wq hq=>H.out k hkt hku s1 s2 wq (GR.out.trans hq) (n1.gr (GR.out.trans hq)) (n2.gr (GR.out.trans hq))
    have O1:Hid (s1.oneCell'=true):=n1.one
    have O2:Hid (s2.oneCell'=true):=n2.one
    have HT:=lsame_take ts us k hkt hku
    rw[HS.out,Bool.true_and] at HT
    have HT':Hid (lsame (ts.take (k+1)) (us.take (k+1))=tsame ts[k] us[k]):=HT
    have hkb:(k:Int)+1<=9223372036854775807:=by have:=HL.out;omega
    clear HT r1 r2 n1 n2 hns gns hF gF H H4 G4 HS
    generalize tsame ts[k] us[k]=B at *
    generalize (ts[k]).hd=ha at *
    generalize (us[k]).hd=hb at *
    go_wp2_with (first|(refine wpList_load_mid rfl 48 (.tmp 20) rfl b1 (o1+k*15) rfl (ha.cells s1) _ (R1.out _ (by repeat (first|exact Gr.refl _|refine Gr.drew ?_|refine Gr.alloc ?_ _ _))) Tryz.underlying48 rfl infoNode ?_)|(refine wpList_load_mid rfl 48 (.tmp 24) rfl b2 (o2+k*15) rfl (hb.cells s2) _ (R2.out _ (by repeat (first|exact Gr.refl _|refine Gr.drew ?_|refine Gr.alloc ?_ _ _))) Tryz.underlying48 rfl infoNode ?_)|(refine wpList_store_new rfl 48 (.tmp 8) (.tmp 21) rfl _ _ _ _ _ (by first|rfl|simp) rfl rfl rfl infoNode (ha.one O1.out) ?_)|(refine wpList_store_new rfl 48 (.tmp 9) (.tmp 25) rfl _ _ _ _ _ (by first|rfl|simp) rfl rfl rfl infoNode (hb.one O2.out) ?_))
    refine(HC.out _ (((Gr.refl _).alloc _ _).alloc _ _)).mono ?_
    rintro e w1 ⟨rfl,hg1⟩
    have G2:Hid (Gr w w1):=(GR.out.trans (((Gr.refl _).alloc _ _).alloc _ _)).trans hg1
    clear hg1 HC R1 R2
    cases B
    ·have hB:Hid (false=V):=(hS.out (k+1) HT'.out).symm
     go_wp2_with fail
     go_ret
     exact⟨rBool hB.out,G2.out⟩
    ·go_wp2_with fail
     go_roundw
     case rel=>exact⟨k+1,by omega,by go_num,HT'.out,G2.out⟩
     case measure=>simp only[intOf];omega
   ·have hke:k=n:=by omega
    have hB:Hid (true=V):=by show _=_;rw[<- hV.out k hke,HS.out]
    subst hke
    clear H H4 G4 HS hV hS
    go_wp2_with fail
    go_ret
    exact⟨rBool hB.out,GR.out⟩
 ·have hV:Hid (lsame ts us=false):=lsame_len ts us he
  clear H H4 G4
  generalize lsame ts us=V at *
  generalize ts.length=n at *
  generalize us.length=m at *
  go_enter Tryz.func102,Tryz.ntmps102
  go_wp2_with fail
  go_ret
  exact⟨rBool hV.out.symm,Gr.refl _⟩
theorem tsame_any (N:Nat):∀(t u:Nd) (sl sg:Value) (F G:Nat->Prop) (w:World),t.size<=N->t.ok->u.ok->NdIn w F sl t->NdIn w G sg u ->
  Calls Tryz.prog 60 #[t.hd.val sl,u.hd.val sg] w fun e w'=>e=.returned (.bool (tsame t u))/\Gr w w':=by
 induction N with
 | zero=>intro t u sl sg F G w h;have:=size_pos t;omega
 | succ N ih=>
  intro t u sl sg F G w hN hok gok hin gin
  have H1:Hid (∀w,Calls Tryz.prog 101 #[t.hd.val sl,u.hd.val sg] w fun e w'=>e=.returned (.bool (hsame t.hd u.hd))/\Gr w w'):=sameFields_at t.hd u.hd hok.x gok.x sl sg
  have H2:Hid (∀wq,Gr w wq->Calls Tryz.prog 102 #[sl,sg,.func (.func 60) #[] #[]] wq fun e w'=>e=.returned (.bool (lsame t.ts u.ts))/\Gr wq w'):=by
   intro wq hq
   refine equalFunc_of t.ts u.ts t.hd u.hd sl sg F G wq (by rw[<- Nd.eta];exact hin.gr hq) (by rw[<- Nd.eta];exact gin.gr hq) ?_
   intro i hi gi s1 s2 w2 h2 i1 i2
   refine ih _ _ s1 s2 F G w2 ?_ (hok.l.get i hi) (gok.l.get i gi) i1 i2
   have:=size_get t.ts i hi
   have e:t.size=1+sizeL t.ts:=by rw[Nd.eta t,Nd.size];rfl
   omega
  have hV:Hid (tsame t u=(hsame t.hd u.hd&&lsame t.ts u.ts)):=by
   show _=_
   cases t;cases u;rw[tsame];rfl
  generalize tsame t u=V at *
  generalize hsame t.hd u.hd=A at *
  generalize lsame t.ts u.ts=B at *
  generalize t.hd=h at *
  generalize u.hd=g at *
  clear ih hin gin hok gok hN
  go_enter Tryz.func60,Tryz.ntmps60
  go_wp2_with fail
  refine(H1.out _).mono ?_
  rintro e w1 ⟨rfl,hg1⟩
  have hcell:=hg1.ext.cell
  have G1:Hid (Gr w w1):=(((Gr.refl _).alloc _ _).alloc _ _).trans hg1
  clear hg1 H1
  cases A
  ·go_wp2_with fail
   go_ret
   exact⟨rBool (by rw[hV.out];rfl),G1.out⟩
  ·go_wp2_with fail
   refine(H2.out _ G1.out).mono ?_
   rintro e w2 ⟨rfl,hg2⟩
   have G2:Hid (Gr w w2):=G1.out.trans hg2
   clear hg2 H2 hcell
   go_wp2_with fail
   go_ret
   exact⟨rBool (by rw[hV.out,Bool.true_and]),G2.out⟩
theorem tsame_at (t u:Nd) (sl sg:Value) (F G:Nat->Prop) (w:World) (hok:t.ok) (gok:u.ok) (hin:NdIn w F sl t) (gin:NdIn w G sg u) :
  Calls Tryz.prog 60 #[t.hd.val sl,u.hd.val sg] w fun e w'=>e=.returned (.bool (tsame t u))/\Gr w w':=
 tsame_any t.size t u sl sg F G w (Nat.le_refl _) hok gok hin gin
end Go.Proofs.YtecjfnkakodebaaGreatDoor
