/-What copying leaves: validity, sameness. -/
import Derived.Test.YtecjfnkakodebaaGreatDoorRmQq
import Derived.Test.YtecjfnkakodebaaGreatDoorRmJm
import Derived.Great.BuildSlice
open Go.Proofs.Tryz
open Go.Value renaming int->O,bool->E,slice->U,agg->T,pointer->an,float->ap,string->aq
open Go.IntKind renaming i64->I
open Bool renaming false->R,true->J
open Option renaming some->H,none->G
open Go.Ending renaming returned->Q
open Go.FloatKind renaming f64->ao
set_option maxRecDepth 20000
set_option maxHeartbeats 8000000
namespace Go.Proofs.YtecjfnkakodebaaGreatDoor
section
open Go.RowKit
theorem jCZ (x:Nat):O9 (one x)=O9 x:=by
 by_cases h:9218868437227405312<mag x
 ·have h1:one x=9221120237041090560:=by unfold one;rw[if_pos h]
  have hc:cls x=1:=by unfold cls;rw[if_pos h]
  have e1:O9 x=R:=by unfold O9;rw[hc];rfl
  have e2:O9 9221120237041090560=R:=by decide +kernel
  rw[h1,e1,e2]
 ·have h1:one x=x:=by unfold one;rw[if_neg h]
  rw[h1]
theorem jA1 (x y:Nat):L0 (one x) y=L0 x y:=by unfold L0;rw[j2C]
theorem jC5 (x:Nat):(((one x:Nat):Int)==0)=((x:Int)==0):=by
 unfold one;split
 ·rename_i h
  have hx:x≠0:=fun e=>by subst e;revert h;decide +kernel
  have h1:((x:Int)==0)=R:=by simpa using hx
  rw[h1];rfl
 ·rfl
theorem j5Y (h g:Hd):j9 { h with x:=one h.x } g=j9 h g:=by
 unfold j9;simp only[jA1]
theorem jEf (h:Hd):j9 { h with x:=one h.x } (wmJ { h with x:=one h.x })=j9 h (wmJ h):=by
 rw[j5Y];unfold wmJ;simp only;by_cases k1:h.k=1
 ·simp only[k1,if_true];unfold j9;simp only[L0,j2C]
 ·simp only[k1,if_false]
theorem jEq (h:Hd)(n:Nat):wm { h with x:=one h.x } n=wm h n:=by
 unfold wm;simp only[jEf,jCZ]
theorem jCB (h:Hd)(n:Nat)(c:Bool):ownE { h with x:=one h.x } n c=ownE h n c:=by
 unfold ownE;simp only[jEq]
mutual
theorem j5A:∀(t:Nd) (c:Bool),(cpy t).fe c=t.fe c
 | .mk h ts,c=>by
  rw[cpy,Nd.fe,Nd.fe,j4h,jCB,j57 ts]
theorem j57:∀(ts:List Nd) (c:Bool),feL (cpyL ts) c=feL ts c
 | [],c=>by rw[cpyL]
 | t::ts,c=>by rw[cpyL,feL,feL,j5A t c,j57 ts c]
end
mutual
theorem j4r:∀t:Nd,(cpy t).dep=t.dep
 | .mk h ts=>by rw[cpy,Nd.dep,Nd.dep,j4p ts]
theorem j4p:∀ts:List Nd,depL (cpyL ts)=depL ts
 | []=>by rw[cpyL]
 | t::ts=>by rw[cpyL,depL,depL,j4r t,j4p ts]
end
theorem j99 (t:Nd):chk (cpy t)=chk t:=by unfold chk;rw[j2y,j4r,j5A]
mutual
theorem j7H:∀(t u:Nd),G8 (cpy t) u=G8 t u
 | .mk h ts,.mk g us=>by rw[cpy,G8,G8,j5Y,j5o ts us]
theorem j5o:∀(ts us:List Nd),F3 (cpyL ts) us=F3 ts us
 | [],us=>by rw[cpyL]
 | t::ts,[]=>by rw[cpyL,F3,F3]
 | t::ts,u::us=>by rw[cpyL,F3,F3,j7H t u,j5o ts us]
end
theorem j4L (v:Vl):J6 { v with x:=one v.x }=J6 v:=by
 unfold J6;simp only[jC5]
theorem jF4 (v:Vl):J9 { v with x:=one v.x }=J9 v:=by
 unfold J9;rw[j4L]
theorem jEZ (v:Vl)(u:Bool):J8 { v with x:=one v.x } u=J8 v u:=by
 unfold J8;rw[j4L]
theorem jAG (c:Ct):gv (cpC c)=gv c:=by
 unfold gv Q1 cpC;simp only[jF4,jEZ,j99,I4,j7H]
mutual
theorem j4n:∀t:Nd,cpy (cpy t)=cpy t
 | .mk h ts=>by
  rw[cpy,cpy,j4j ts];simp only[j2C]
theorem j4j:∀ts:List Nd,cpyL (cpyL ts)=cpyL ts
 | []=>by rw[cpyL,cpyL]
 | t::ts=>by rw[cpyL,cpyL,j4n t,j4j ts]
end
theorem j9W (c:Ct):cpC (cpC c)=cpC c:=by
 unfold cpC;simp only[j2C,j4n]
theorem jAO (h:Hd):j9 h h=J:=by
 unfold j9;simp[j0f]
mutual
theorem j7I:∀t:Nd,G8 t t=J
 | .mk h ts=>by rw[G8,jAO,j5p ts];rfl
theorem j5p:∀ts:List Nd,F3 ts ts=J
 | []=>by rw[F3]
 | t::ts=>by rw[F3,j7I t,j5p ts];rfl
end
theorem j9Z (a:Ct):j0e a a=J:=by
 unfold j0e j0V;simp only[beq_self_eq_true,Bool.true_and,j0f,j7I,decide_true];repeat' split
 all_goals rfl
structure Gd (c:Ct):Prop where
 val:gv c=J
 k:c.k≠0
 ok:c.t.ok
 x:c.v.x<18446744073709551616
 size:c.t.size<=1048576
 cp:cpC c=c
theorem Gd.of {c:Ct}(hv:gv c=J)(hk:c.k≠0)(ho:c.t.ok)(hx:c.v.x<18446744073709551616)(hs:c.t.size<=1048576):Gd (cpC c):=
 ⟨by rw[jAG];exact hv,hk,j4m _ ho,j1Q _ hx,by show (cpy c.t).size<=_;rw[j2y];exact hs,j9W c⟩
abbrev Ar4:=(Int×Int)×(Int×Int)
abbrev Fate:=Ar4->Option Ar4
def Ar4.ok (a:Ar4):Bool:=vA a.1.1 a.1.2 a.2.1 a.2.2
def nmA (h:Hd):Ar4:=((h.c1,h.r1),if h.k=6 then (h.c2,h.r2) else (h.c1,h.r1))
def ndF:Nd:=.mk { zHd with k:=4,f:=4 } []
def toH (h:Hd) (a:Ar4):Hd:=if h.k=6 then { h with c1:=a.1.1,r1:=a.1.2,c2:=a.2.1,r2:=a.2.2 } else { h with c1:=a.1.1,r1:=a.1.2 }
def nmN (f:Fate) (t:Nd):Nd:=match f (nmA t.hd) with
 | none=>ndF
 | some a=>.mk (toH t.hd a) t.ts
mutual
def alN (f:Fate):Nd->Nd
 | .mk h ts=>if h.k=5∨h.k=6 then nmN f (.mk h ts) else .mk h (alL f ts)
def alL (f:Fate):List Nd->List Nd
 | []=>[]
 | t::ts=>alN f t::alL f ts
end
theorem j0a (f:Fate):∀ts:List Nd,alL f ts=ts.map (alN f)
 | []=>by rw[alL];rfl
 | t::ts=>by rw[alL,j0a f ts];rfl
theorem j0Q (f:Fate)(ts:List Nd):(alL f ts).length=ts.length:=by rw[j0a,List.length_map]
structure U3 (f:Fate):Prop where
 ok:∀a b,Ar4.ok a=J->f a=H b->Ar4.ok b=J
 cell:∀p b,f (p,p)=H b->b.1=b.2
theorem j3z {h:Hd}{n:Nat}(hk:h.k=5∨h.k=6)(hw:wm h n=J):n=0:=by
 unfold wm at hw;rcases hk with e|e <;> simp[e] at hw
 ·exact hw.1
 ·exact hw.1
theorem jEr {h:Hd}(hk:h.k=5∨h.k=6)(a:Ar4)(hw:wm h 0=J):wm (toH h a) 0=J:=by
 unfold toH;rcases hk with e|e
 ·rw[if_neg (by omega)];unfold wm at hw ⊢;simp only[e] at hw ⊢;simp[wmJ,e,j9] at hw ⊢;simp[hw]
 ·rw[if_pos e];unfold wm at hw ⊢;simp only[e] at hw ⊢;simp[wmJ,e,j9] at hw ⊢;simp[hw]
theorem jEJ (h:Hd)(a:Ar4):(toH h a).k=h.k:=by unfold toH;split <;> rfl
theorem j7E (h:Hd)(a:Ar4):(toH h a).x=h.x:=by unfold toH;split <;> rfl
theorem j5x (c:Bool):ndF.fe c=0:=by
 unfold ndF;rw[Nd.fe,feL];have:ownE { zHd with k:=4,f:=4 } 0 c=0:=by
  unfold ownE;have hw:wm { zHd with k:=4,f:=4 } 0=J:=by
   unfold wm;simp[wmJ,j9,zHd,j0f]
  simp[hw]
 simp[this]
theorem jBe {f:Fate}(hf:U3 f){h:Hd}{ts:List Nd}(hk:h.k=5∨h.k=6){c:Bool}(h0:(Nd.mk h ts).fe c=0):(nmN f (.mk h ts)).fe c=0:=by
 rw[Nd.fe] at h0;by_cases ho:ownE h ts.length c=0
 rotate_left
 ·rw[if_pos ho] at h0;exact absurd h0 ho
 have hw:wm h ts.length=J:=by
  cases q:wm h ts.length with
  | true=>rfl
  | false=>unfold ownE at ho;rw[if_pos q] at ho;omega
 have hl:=j3z hk hw;have hts:ts=[]:=List.length_eq_zero_iff.1 hl;subst hts;have hv:Ar4.ok (nmA h)=J:=by
  unfold ownE at ho;rw[if_neg (by rw[hw];decide)] at ho;unfold Ar4.ok nmA;rcases hk with e|e
  ·rw[if_pos e] at ho;simp only[if_neg (show ¬h.k=6 by omega)];split at ho
   ·assumption
   ·omega
  ·rw[if_neg (show ¬h.k=5 by omega),if_pos e] at ho;simp only[if_pos e];split at ho
   ·assumption
   ·omega
 unfold nmN;cases q:f (nmA (Nd.mk h []).hd) with
 | none=>exact j5x c
 | some b=>
  have hb:=hf.ok _ b hv q;show (Nd.mk (toH h b) []).fe c=0;rw[Nd.fe,feL];have ho':ownE (toH h b) 0 c=0:=by
   unfold ownE;rw[if_neg (by rw[jEr hk b hw];decide),jEJ];unfold ownE at ho;rw[if_neg (by rw[hw];decide)] at ho;rcases hk with e|e
   ·rw[if_pos e];have hc:b.1=b.2:=by
     have q':f ((h.c1,h.r1),(h.c1,h.r1))=H b:=by
      have:nmA h=((h.c1,h.r1),(h.c1,h.r1)):=(by unfold nmA;rw[if_neg (show ¬h.k=6 by omega)]);rw[<- this];exact q
     exact hf.cell _ _ q'
    unfold Ar4.ok at hb;rw[<- hc] at hb;have e1:(toH h b).c1=b.1.1:=(by unfold toH;rw[if_neg (show ¬h.k=6 by omega)]);have e2:(toH h b).r1=b.1.2:=(by unfold toH;rw[if_neg (show ¬h.k=6 by omega)]);rw[e1,e2,if_pos hb]
   ·rw[if_neg (show ¬h.k=5 by omega),if_pos e];rw[if_neg (show ¬h.k=5 by omega),if_pos e] at ho;unfold Ar4.ok at hb;have e1:(toH h b).c1=b.1.1:=(by unfold toH;rw[if_pos e]);have e2:(toH h b).r1=b.1.2:=(by unfold toH;rw[if_pos e]);have e3:(toH h b).c2=b.2.1:=(by unfold toH;rw[if_pos e]);have e4:(toH h b).r2=b.2.2:=(by unfold toH;rw[if_pos e]);rw[e1,e2,e3,e4,if_pos hb];split at ho
    ·exact ho
    ·omega
  rw[List.length_nil,if_neg (by rw[ho'];decide)]
mutual
theorem j4E {f:Fate}(hf:U3 f):∀(t:Nd) (c:Bool),t.fe c=0->(alN f t).fe c=0
 | .mk h ts,c,h0=>by
  rw[alN];by_cases hk:h.k=5∨h.k=6
  ·rw[if_pos hk];exact jBe hf hk h0
  ·rw[if_neg hk];rw[Nd.fe] at h0 ⊢;rw[j0Q];by_cases ho:ownE h ts.length c=0
   ·rw[if_neg (by rw[ho];decide)] at h0 ⊢;exact j48 hf ts _ h0
   ·rw[if_pos ho] at h0;exact absurd h0 ho
theorem j48 {f:Fate}(hf:U3 f):∀(ts:List Nd) (c:Bool),feL ts c=0->feL (alL f ts) c=0
 | [],c,_=>by rw[alL,feL]
 | t::ts,c,h0=>by
  rw[feL] at h0;rw[alL,feL];by_cases ht:t.fe c=0
  ·rw[if_neg (by rw[ht];decide)] at h0;rw[if_neg (by rw[j4E hf t c ht];decide)];exact j48 hf ts c h0
  ·rw[if_pos ht] at h0;exact absurd h0 ht
end
theorem jBg (f:Fate)(t:Nd):(nmN f t).size<=t.size:=by
 unfold nmN;split
 ·have:=L7 t;show ndF.size<=_;unfold ndF;rw[Nd.size,D3];omega
 ·rw[Nd.size]
  conv=>rhs;rw[Nd.eta t,Nd.size]
  exact Nat.le_refl _
mutual
theorem j2l (f:Fate):∀t:Nd,(alN f t).size<=t.size
 | .mk h ts=>by
  rw[alN];split
  ·exact jBg f _
  ·rw[Nd.size,Nd.size];have:=j4A f ts;omega
theorem j4A (f:Fate):∀ts:List Nd,D3 (alL f ts)<=D3 ts
 | []=>by rw[alL];exact Nat.le_refl _
 | t::ts=>by rw[alL,D3,D3];have:=j2l f t;have:=j4A f ts;omega
end
theorem jBd (f:Fate)(t:Nd):(nmN f t).dep<=t.dep:=by
 unfold nmN;split
 ·show ndF.dep<=_;unfold ndF;rw[Nd.dep,depL];cases t with
  | mk h ts=>rw[Nd.dep];omega
 ·rw[Nd.dep]
  conv=>rhs;rw[Nd.eta t,Nd.dep]
  exact Nat.le_refl _
mutual
theorem j4D (f:Fate):∀t:Nd,(alN f t).dep<=t.dep
 | .mk h ts=>by
  rw[alN];split
  ·exact jBd f _
  ·rw[Nd.dep,Nd.dep];have:=j47 f ts;omega
theorem j47 (f:Fate):∀ts:List Nd,depL (alL f ts)<=depL ts
 | []=>by rw[alL];exact Nat.le_refl _
 | t::ts=>by rw[alL,depL,depL];have:=j4D f t;have:=j47 f ts;omega
end
theorem j7g {f:Fate}(hf:U3 f){t:Nd}(h:chk t=0):chk (alN f t)=0:=by
 unfold chk at h ⊢;have h1:=j2l f t;have h2:=j4D f t;by_cases a1:256<t.size
 ·rw[if_pos a1] at h;omega
 ·rw[if_neg a1] at h;by_cases a2:32<t.dep
  ·rw[if_pos a2] at h;omega
  ·rw[if_neg a2] at h;rw[if_neg (by omega),if_neg (by omega)];exact j4E hf t R h
theorem jBf (f:Fate){t:Nd}(h:t.ok):(nmN f t).ok:=by
 unfold nmN;split
 ·unfold ndF;rw[Nd.ok,okL];exact⟨by show (0:Nat)<_;decide,trivial⟩
 ·rw[Nd.ok,j7E];rw[Nd.eta t,Nd.ok] at h;exact h
mutual
theorem j4F (f:Fate):∀t:Nd,t.ok->(alN f t).ok
 | .mk h ts,hk=>by
  rw[alN];split
  ·exact jBf f hk
  ·rw[Nd.ok] at hk ⊢;exact⟨hk.1,j49 f ts hk.2⟩
theorem j49 (f:Fate):∀ts:List Nd,okL ts->okL (alL f ts)
 | [],_=>by rw[alL,okL];trivial
 | t::ts,h=>by rw[okL] at h;rw[alL,okL];exact⟨j4F f t h.1,j49 f ts h.2⟩
end
theorem j5w:cpy ndF=ndF:=by
 unfold ndF;rw[cpy,cpyL];have:one 0=0:=by decide
 simp[zHd,this]
theorem jEK (h:Hd)(a:Ar4)(e:one h.x=h.x):{ toH h a with x:=one (toH h a).x }=toH h a:=by
 rw[j7E,e];unfold toH;split <;> rfl
mutual
theorem j4C (f:Fate):∀t:Nd,cpy t=t->cpy (alN f t)=alN f t
 | .mk h ts,e=>by
  rw[cpy] at e;have e1:{ h with x:=one h.x }=h:=(Nd.mk.injEq .. ▸ e).1;have e2:cpyL ts=ts:=(Nd.mk.injEq .. ▸ e).2;have e3:one h.x=h.x:=congrArg Hd.x e1;rw[alN];split
  ·unfold nmN;split
   ·exact j5w
   ·rw[cpy];show Nd.mk { toH h _ with x:=one (toH h _).x } (cpyL ts)=_;rw[jEK h _ e3,e2]
    rfl
  ·rw[cpy,e1,j46 f ts e2]
theorem j46 (f:Fate):∀ts:List Nd,cpyL ts=ts->cpyL (alL f ts)=alL f ts
 | [],_=>by rw[alL,cpyL]
 | t::ts,e=>by
  rw[cpyL] at e;rw[alL,cpyL,j4C f t (List.cons.inj e).1,j46 f ts (List.cons.inj e).2]
end
def alC (f:Fate) (c:Ct):Ct:=⟨c.k,c.v,alN f c.t⟩
theorem j7b {t:Nd}(h:I4 t=J):t.hd.k=0/\t.ts=[]:=by
 cases t with
 | mk h' ts=>
  unfold I4 zNd at h;rw[G8] at h;simp only[Bool.and_eq_true] at h;constructor
  ·have:=h.1;unfold j9 at this;simp[zHd] at this;exact this.1.1.1.1.1.1.1
  ·cases ts with
   | nil=>rfl
   | cons _ _=>simp[F3] at h
theorem j7h (f:Fate){t:Nd}(h:I4 t=J):alN f t=t:=by
 obtain⟨h1,h2⟩:=j7b h;cases t with
 | mk h' ts=>
  have e1:h'.k=0:=h1;have e2:ts=[]:=h2;subst e2;rw[alN,if_neg (by omega),alL]
theorem j16 (f:Fate){c:Ct}(h:gv c=J)(hk:c.k≠2):alC f c=c:=by
 have hz:I4 c.t=J:=by
  unfold gv Q1 at h;simp[hk] at h;rcases h with h|h
  ·exact h.2.2
  ·exact h.2.2
 unfold alC;rw[j7h f hz]
theorem j7f {f:Fate}(hf:U3 f){c:Ct}(h:gv c=J):gv (alC f c)=J:=by
 by_cases hk:c.k=2
 ·unfold gv Q1 at h ⊢;simp[alC,hk] at h ⊢;exact⟨h.1,j7g hf h.2⟩
 ·rw[j16 f h hk];exact h
theorem j0P {f:Fate}(hf:U3 f){c:Ct}(h:Gd c):Gd (alC f c):=by
 refine⟨j7f hf h.val,h.k,j4F f _ h.ok,h.x,Nat.le_trans (j2l f _) h.size,?_⟩;have hc:=h.cp;unfold cpC at hc;have e1:=congrArg Ct.v hc;have e2:=congrArg Ct.t hc;unfold cpC;show (⟨c.k,{ c.v with x:=one c.v.x },cpy (alN f c.t)⟩:Ct)=⟨c.k,c.v,alN f c.t⟩;rw[j4C f _ e2];exact congrArg (fun v=>(⟨c.k,v,alN f c.t⟩:Ct)) e1
def brL (f:Fate) (L:List Cc):List Cc:=L.filterMap fun x=>(f (x.1,x.1)).map fun b=>(b.1,alC f x.2)
def lnF (cols:Bool) (at' n:Int):Fate:=fun a=>
 match thr (if cols then at' else 1) (if cols then n else 0) 256 a.1.1 a.2.1,thr (if cols then 1 else at') (if cols then 0 else n) 4096 a.1.2 a.2.2 with
 | some x,H y=>H ((x.1,y.1),(x.2,y.2))
 | _,_=>G
theorem j1z {cols:Bool}{at' n:Int}{a b:Ar4}(e:lnF cols at' n a=H b):∃x y,thr (if cols then at' else 1) (if cols then n else 0) 256 a.1.1 a.2.1=H x/\thr (if cols then 1 else at') (if cols then 0 else n) 4096 a.1.2 a.2.2=H y/\b=((x.1,y.1),(x.2,y.2)):=by
 unfold lnF at e;split at e
 ·rename_i x y h1 h2
  injection e with e;exact⟨x,y,h1,h2,e.symm⟩
 ·cases e
def lnOk (cols:Bool) (at' n:Int):Prop:=LnOk at' n (if cols then 256 else 4096)
theorem j5n {cols:Bool}{at' n:Int}(h:lnOk cols at' n):LnOk (if cols then at' else 1) (if cols then n else 0) 256/\LnOk (if cols then 1 else at') (if cols then 0 else n) 4096:=by
 unfold lnOk at h;cases cols
 ·exact⟨⟨by simp,by simp,by simp,by simp⟩,h⟩
 ·exact⟨h,⟨by simp,by simp,by simp,by simp⟩⟩
theorem I2 (a:Ar4):Ar4.ok a=J↔1<=a.1.1/\a.1.1<=a.2.1/\a.2.1<=256/\1<=a.1.2/\a.1.2<=a.2.2/\a.2.2<=4096:=by
 unfold Ar4.ok vA vC;simp only[Bool.and_eq_true,decide_eq_true_eq];omega
theorem j1N {cols:Bool}{at' n:Int}(h:lnOk cols at' n):U3 (lnF cols at' n):=by
 obtain⟨h1,h2⟩:=j5n h;refine⟨fun a b ha e=>?_,fun p b e=>?_⟩
 ·obtain⟨x,y,e1,e2,rfl⟩:=j1z e;rw[I2] at ha ⊢;have q1:=j79 h1 ha.1 ha.2.1 ha.2.2.1 e1;have q2:=j79 h2 ha.2.2.2.1 ha.2.2.2.2.1 ha.2.2.2.2.2 e2;exact⟨q1.1,q1.2.1,q1.2.2,q2.1,q2.2.1,q2.2.2⟩
 ·obtain⟨x,y,e1,e2,rfl⟩:=j1z e;have q1:=(j2b e1).1;have q2:=(j2b e2).1;simp only[q1,q2]
def j15 (f:Fate):Prop:=∀p q b b',vC p.1 p.2=J->vC q.1 q.2=J->p≠q->f (p,p)=H b->f (q,q)=H b'->b.1≠b'.1
theorem j1M (cols:Bool)(at' n:Int):j15 (lnF cols at' n):=by
 intro p q b b' hp hq hne e e' heq;rw[G6] at hp hq;obtain⟨x,y,e1,e2,rfl⟩:=j1z e;obtain⟨x',y',e1',e2',rfl⟩:=j1z e';have q1:x.1=x'.1:=(Prod.mk.inj heq).1;have q2:y.1=y'.1:=(Prod.mk.inj heq).2;by_cases hc:p.1=q.1
 ·have hr:p.2≠q.2:=fun e=>hne (Prod.ext hc e)
  exact j77 hp.2.2.1 hq.2.2.1 hr e2 e2' q2
 ·exact j77 hp.1 hq.1 hc e1 e1' q1
theorem j1D {f:Fate}(hf:U3 f){p:Int×Int}{b:Ar4}(hp:vC p.1 p.2=J)(e:f (p,p)=H b):vC b.1.1 b.1.2=J:=by
 have hb:=hf.ok (p,p) b (by
  rw[I2];rw[G6] at hp;exact⟨hp.1,Int.le_refl _,hp.2.1,hp.2.2.1,Int.le_refl _,hp.2.2.2⟩) e
 rw[I2] at hb;rw[G6];omega
theorem T8 {f:Fate}{L:List Cc}{y:Cc}:y∈brL f L↔∃x∈L,∃b,f (x.1,x.1)=H b/\y=(b.1,alC f x.2):=by
 unfold brL;rw[List.mem_filterMap];constructor
 ·rintro⟨x,hx,h⟩;rw[Option.map_eq_some_iff] at h;obtain⟨b,h1,h2⟩:=h;exact⟨x,hx,b,h1,h2.symm⟩
 ·rintro⟨x,hx,b,h1,rfl⟩;exact⟨x,hx,by rw[h1];rfl⟩
theorem j4B (f:Fate)(ts:List Nd)(k:Nat)(h:k<ts.length):alL f (ts.take (k+1))=alL f (ts.take k)++[alN f ts[k]]:=by
 rw[j0a,j0a,List.take_add_one,List.getElem?_eq_getElem h,List.map_append]
 rfl
def goH (cols:Bool) (at' n:Int) (h:Hd):Option Hd:=
 if h.k=5 then
  (if cols then (if 0<pl at' n 256 h.c1 then H { h with c1:=pl at' n 256 h.c1 } else G)
  else (if 0<pl at' n 4096 h.r1 then H { h with r1:=pl at' n 4096 h.r1 } else G))
 else if h.k=6 then
  (if cols then (if 0<(spA at' n 256 h.c1 (h.c2+1)).1 then H { h with c1:=(spA at' n 256 h.c1 (h.c2+1)).1,c2:=(spA at' n 256 h.c1 (h.c2+1)).2 } else G)
  else (if 0<(spA at' n 4096 h.r1 (h.r2+1)).1 then H { h with r1:=(spA at' n 4096 h.r1 (h.r2+1)).1,r2:=(spA at' n 4096 h.r1 (h.r2+1)).2 } else G))
 else H h
def lnIn (h:Hd):Prop:=(h.k=5->1<=h.c1/\h.c1<=256/\1<=h.r1/\h.r1<=4096)/\(h.k=6->1<=h.c1/\h.c1<=h.c2/\h.c2<=256/\1<=h.r1/\h.r1<=h.r2/\h.r2<=4096)
theorem j1p {h:Hd}{ts:List Nd}{c:Bool}(h0:(Nd.mk h ts).fe c=0):ownE h ts.length c=0/\∃c',feL ts c'=0:=by
 rw[Nd.fe] at h0;by_cases ho:ownE h ts.length c=0
 ·rw[if_neg (by rw[ho];decide)] at h0;exact⟨ho,_,h0⟩
 ·rw[if_pos ho] at h0;exact absurd h0 ho
theorem j34 {ts:List Nd}{c:Bool}(h0:feL ts c=0):∀k,(h:k<ts.length)->(ts[k]).fe c=0:=by
 induction ts with
 | nil=>intro k h;simp at h
 | cons t ts ih=>
  rw[feL] at h0;by_cases ht:t.fe c=0
  ·rw[if_neg (by rw[ht];decide)] at h0;intro k h;cases k with
   | zero=>exact ht
   | succ k=>exact ih h0 k (by simpa using h)
  ·rw[if_pos ht] at h0;exact absurd h0 ht
theorem j35 {h:Hd}{ts:List Nd}{c:Bool}(h0:(Nd.mk h ts).fe c=0):lnIn h/\(h.k=5∨h.k=6->ts=[]):=by
 have ho:=(j1p h0).1;have hw:wm h ts.length=J:=by
  cases q:wm h ts.length with
  | true=>rfl
  | false=>unfold ownE at ho;rw[if_pos q] at ho;omega
 refine⟨⟨fun e=>?_,fun e=>?_⟩,fun hk=>List.length_eq_zero_iff.1 (j3z hk hw)⟩
 ·unfold ownE at ho;rw[if_neg (by rw[hw];decide),if_pos e] at ho;have hv:vA h.c1 h.r1 h.c1 h.r1=J:=by
   split at ho
   ·assumption
   ·omega
  have:=(I2 ((h.c1,h.r1),(h.c1,h.r1))).1 hv;simp only at this;omega
 ·unfold ownE at ho;rw[if_neg (by rw[hw];decide),if_neg (show ¬h.k=5 by omega),if_pos e] at ho;have hv:vA h.c1 h.r1 h.c2 h.r2=J:=by
   split at ho
   ·assumption
   ·omega
  have:=(I2 ((h.c1,h.r1),(h.c2,h.r2))).1 hv;simp only at this;omega
theorem jA6 {cols:Bool}{at' n:Int}(hl:lnOk cols at' n){h:Hd}{ts:List Nd}(hi:lnIn h)(hts:h.k=5∨h.k=6->ts=[]):alN (lnF cols at' n) (.mk h ts)=(match goH cols at' n h with|some g=>.mk g (alL (lnF cols at' n) ts)|none=>ndF):=by
 rw[alN];by_cases hk:h.k=5∨h.k=6
 rotate_left
 ·rw[if_neg hk];unfold goH;rw[if_neg (fun e=>hk (.inl e)),if_neg (fun e=>hk (.inr e))]
 rw[if_pos hk];obtain rfl:=hts hk;rw[alL];unfold nmN lnOk at *;rcases hk with e|e
 ·obtain⟨i1,i2,i3,i4⟩:=hi.1 e;have e6:¬h.k=6:=by omega
  have hA:nmA (Nd.mk h []).hd=((h.c1,h.r1),(h.c1,h.r1)):=by
   show nmA h=_;unfold nmA;rw[if_neg e6]
  rw[hA];unfold goH;rw[if_pos e];unfold lnF;cases cols
  ·simp only[Bool.false_eq_true,if_false] at hl ⊢;rw[j0x i1 (Int.le_refl _) i2,j2c hl i3 i4];by_cases q:0<pl at' n 4096 h.r1
   ·simp only[if_pos q];show Nd.mk (toH h _) []=_;unfold toH;rw[if_neg e6]
   ·simp only[if_neg q]
  ·simp only[if_true] at hl ⊢;rw[j0x i3 (Int.le_refl _) i4,j2c hl i1 i2];by_cases q:0<pl at' n 256 h.c1
   ·simp only[if_pos q];show Nd.mk (toH h _) []=_;unfold toH;rw[if_neg e6]
   ·simp only[if_neg q]
 ·obtain⟨i1,i2,i3,i4,i5,i6⟩:=hi.2 e;have e5:¬h.k=5:=by omega
  have hA:nmA (Nd.mk h []).hd=((h.c1,h.r1),(h.c2,h.r2)):=by
   show nmA h=_;unfold nmA;rw[if_pos e]
  rw[hA];unfold goH;rw[if_neg e5,if_pos e];unfold lnF;cases cols
  ·simp only[Bool.false_eq_true,if_false] at hl ⊢;rw[j0x i1 i2 i3];rcases j71 (a:=h.r1) (b:=h.r2) hl with ⟨q1,q2⟩|⟨r,q1,q2,q3⟩
   ·rw[q1,q2];rfl
   ·rw[q1,q2];simp only[if_pos q3];show Nd.mk (toH h _) []=_;unfold toH;rw[if_pos e]
  ·simp only[if_true] at hl ⊢;rw[j0x i4 i5 i6];rcases j71 (a:=h.c1) (b:=h.c2) hl with ⟨q1,q2⟩|⟨r,q1,q2,q3⟩
   ·rw[q1,q2];rfl
   ·rw[q1,q2];simp only[if_pos q3];show Nd.mk (toH h _) []=_;unfold toH;rw[if_pos e]
end
section
open Go.RowKit Go.Shelf
attribute [local go_sem] Oper.semAt_some
section
variable {n:Nat} {P:Program} {α:Type} {g:Operand} {ps:Array Tmp} {assign body:Code} {am:Exit->Act->World->Prop} {a:Act} {w:World}
end
end
section
open Go.RowKit Go.Shelf
attribute [local go_sem] Oper.semAt_some
section
variable {n:Nat} {P:Program} {α:Type} {g:Operand} {ps:Array Tmp} {assign body:Code} {am:Exit->Act->World->Prop} {a:Act} {w:World}
end
end
section
open Go.RowKit
mutual
theorem D2.node {w:World}{sl:Value}:∀ {t:Nd} {fp:List Nat},D2 w sl t fp->∀b∈fp,∃cs:Array Value,w.heap[b]? = H (.cells cs 48 (0,0))
 | .mk _ ts,fp,h,b,hb=>by
  rw[D2] at h;rcases h with ⟨_,_,rfl⟩|⟨b',c,fps,cs,_,_,_,_,h5,_,rfl,h8⟩
  ·simp at hb
  ·rcases List.mem_cons.1 hb with rfl|hb
   ·exact⟨cs,h5⟩
   ·exact D8.node h8 b hb
theorem D8.node {w:World}{b':Nat}:∀ {ts:List Nd} {o:Nat} {fp:List Nat},D8 w b' o ts fp->∀b∈fp,∃cs:Array Value,w.heap[b]? = H (.cells cs 48 (0,0))
 | [],_,fp,h,b,hb=>by rw[D8] at h;subst h;simp at hb
 | t::ts,o,fp,h,b,hb=>by
  rw[D8] at h;obtain⟨sl,f1,f2,_,h2,rfl,h4⟩:=h;rcases List.mem_append.1 hb with hb|hb
  ·exact D2.node h2 b hb
  ·exact D8.node h4 b hb
end
theorem F4 {w:World}{b:Nat}(h:∃cs:Array Value,w.heap[b]? = H (.cells cs 48 (0,0))):b<w.heap.size:=by
 obtain⟨cs,h⟩:=h;exact(Array.getElem?_eq_some_iff.1 h).1
structure AlAt (f:Fate) (w wr:World) (b c k:Nat) (ts:List Nd) (fps fa fb:List Nat):Prop where
 kp:Kp w wr (fun i=>i∈b::fps)
 row:∃cs:Array Value,wr.heap[b]? = H (.cells cs 48 (0,0))/\cs.size=c*15
 done:D8 wr b 0 (alL f (ts.take k)) fa
 rest:D8 wr b (k*15) (ts.drop k) fb
 sub:∃fA,fps=fA++fb/\fa.Sublist fA
theorem AlAt.start {f:Fate}{w:World}{b c:Nat}{ts:List Nd}{fps:List Nat}{cs:Array Value}(h1:w.heap[b]? = H (.cells cs 48 (0,0)))(h2:cs.size=c*15)(h:D8 w b 0 ts fps):AlAt f w w b c 0 ts fps [] fps:=
 ⟨Kp.refl _ _,⟨cs,h1,h2⟩,by rw[List.take_zero,alL,D8],by simpa using h,[],rfl,List.Sublist.refl _⟩
theorem AlAt.nul {f:Fate}{w wr w':World}{b c k:Nat}{ts:List Nd}{fps fa fb:List Nat}(h:AlAt f w wr b c k ts fps fa fb)(g:Kp wr w' Nul):AlAt f w w' b c k ts fps fa fb:=by
 have hb:w'.heap[b]? = wr.heap[b]?:=by
  obtain⟨cs,h1,_⟩:=h.row;exact g.block b (Array.getElem?_eq_some_iff.1 h1).1 (fun x=>x)
 refine⟨h.kp.trans (g.mono (fun _ _ x=>x.elim)),?_,?_,?_,h.sub⟩
 ·obtain⟨cs,h1,h2⟩:=h.row;exact⟨cs,hb.trans h1,h2⟩
 ·exact h.done.mono (fun o' cs' _ _ hr=>I7 hr hb) (fun i hi=>g.block i (F4 (h.done.node i hi)) (fun x=>x))
 ·exact h.rest.mono (fun o' cs' _ _ hr=>I7 hr hb) (fun i hi=>g.block i (F4 (h.rest.node i hi)) (fun x=>x))
theorem AlAt.next {f:Fate}{w wr:World}{b c k:Nat}{ts:List Nd}{fps fa fb:List Nat}(h:AlAt f w wr b c k ts fps fa fb)(hk:k<ts.length):∃sl f1 f2,wr.rangeAt b (k*15) ((ts[k]).hd.cells sl)/\D2 wr sl ts[k] f1/\fb=f1++f2/\D8 wr b ((k+1)*15) (ts.drop (k+1)) f2:=by
 have h1:=h.rest;rw[List.drop_eq_getElem_cons hk,D8] at h1;obtain⟨sl,f1,f2,h2,h3,h4,h5⟩:=h1;exact⟨sl,f1,f2,h2,h3,h4,by rw[show (k+1)*15=k*15+15 by omega];exact h5⟩
theorem AlAt.step {f:Fate}{w wr w1:World}{b c k:Nat}{ts:List Nd}{fps fa fb f1 f2 f1':List Nat}(h:AlAt f w wr b c k ts fps fa fb)(hk:k<ts.length)(hc:ts.length<=c)(hn:(b::fps).Nodup)(hfb:fb=f1++f2)(hrest:D8 wr b ((k+1)*15) (ts.drop (k+1)) f2)
 {sl':Value} (g:Kp wr w1 (fun i=>i∈f1)) (hu:D2 w1 sl' (alN f ts[k]) f1') (hs:f1'.Sublist f1) :
 AlAt f w (w1.setCells b (k*15) ((alN f ts[k]).hd.cells sl')) b c (k+1) ts fps (fa++f1') f2:=by
 obtain⟨fA,e1,e2⟩:=h.sub;obtain⟨cs,r1,r2⟩:=h.row;have hblt:=(Array.getElem?_eq_some_iff.1 r1).1;rw[List.nodup_cons] at hn;obtain⟨hb0,hn⟩:=hn;rw[e1,hfb] at hn hb0;have hbA:b∉fA:=fun q=>hb0 (List.mem_append_left _ q)
 have hb1:b∉f1:=fun q=>hb0 (List.mem_append_right _ (List.mem_append_left _ q))
 have hb2:b∉f2:=fun q=>hb0 (List.mem_append_right _ (List.mem_append_right _ q))
 rw[List.nodup_append] at hn;obtain⟨_,hn2,hn3⟩:=hn;rw[List.nodup_append] at hn2;have d1:∀i∈fa,i∉f1:=fun i hi q=>hn3 i (e2.subset hi) i (List.mem_append_left _ q) rfl
 have d2:∀i∈f2,i∉f1:=fun i hi q=>hn2.2.2 i q i hi rfl
 have hA:=(g.block b hblt hb1).trans r1;have hth:w1.there b (k*15) 15:=J5 hA _ _ (by omega);have hne:∀i,i≠b->(w1.setCells b (k*15) ((alN f ts[k]).hd.cells sl')).heap[i]? = w1.heap[i]?:=fun i hi=>L5 hi _ _ _
 refine⟨?_,?_,?_,?_,?_⟩
 ·refine(h.kp.trans (g.mono (fun i _ q=>?_))).trans (O6 _ (by show b∈b::fps;exact List.mem_cons_self) _ _ _);show i∈b::fps;rw[e1,hfb];exact List.mem_cons_of_mem _ (List.mem_append_right _ (List.mem_append_left _ q))
 ·exact⟨_,j08 _ _ _ _ hA,by rw[j2U,r2]⟩
 ·have o1:=h.done.mono (fun o' cs' _ _ hr=>I7 hr (hA.trans r1.symm)) (fun i hi=>g.block i (F4 (h.done.node i hi)) (d1 i hi));have hl:(alL f (ts.take k)).length=k:=by rw[j0Q,List.length_take];omega
  have o2:D8 (w1.setCells b (k*15) ((alN f ts[k]).hd.cells sl')) b 0 (alL f (ts.take k)) fa:=by
   refine o1.mono (fun o' cs' _ q hr=>?_) (fun i hi=>hne i (fun e=>hbA (e ▸ e2.subset hi)));exact World.rangeAt_setCells_apart hr _ _ _ (.inr (.inl (by rw[hl] at q;omega)))
  have e:alL f (ts.take (k+1))=alL f (ts.take k)++[alN f ts[k]]:=by
   rw[j0a,j0a,List.take_add_one,List.getElem?_eq_getElem hk,List.map_append];rfl
  rw[e];refine D8.snoc (sl:=sl') (hu.mono (fun i hi=>hne i (fun e=>hb1 (e ▸ hs.subset hi)))) o2 ?_;rw[hl,Nat.zero_add];exact World.rangeAt_setCells_same _ _ _ _ (by simpa using hth)
 ·have o1:=hrest.mono (fun o' cs' _ _ hr=>I7 hr (hA.trans r1.symm)) (fun i hi=>g.block i (F4 (hrest.node i hi)) (d2 i hi));refine o1.mono (fun o' cs' q _ hr=>?_) (fun i hi=>hne i (fun e=>hb2 (e ▸ hi)));exact World.rangeAt_setCells_apart hr _ _ _ (.inr (.inr (by simp;omega)))
 ·exact⟨fA++f1,by rw[e1,hfb,List.append_assoc],e2.append hs⟩
theorem AlAt.fin {f:Fate}{w wr:World}{b c:Nat}{ts:List Nd}{fps fa fb:List Nat}(h:AlAt f w wr b c ts.length ts fps fa fb)(hne:ts≠[])(hc:ts.length<=c)(hm:c<=maxLen)(hd:Hd):D2 wr (U (H ⟨b,0,G⟩) ts.length c) (.mk hd (alL f ts)) (b::fa)/\(b::fa).Sublist (b::fps):=by
 obtain⟨cs,h1,h2⟩:=h.row;have hd':=h.done;rw[List.take_length] at hd';obtain⟨fA,e1,e2⟩:=h.sub;constructor
 ·rw[D2];refine .inr ⟨b,c,fa,cs,by rw[j0Q],?_,by rw[j0Q];exact hc,hm,h1,h2,rfl,hd'⟩;intro e;have:=j0Q f ts;rw[e] at this;exact hne (List.length_eq_zero_iff.1 this.symm)
 ·rw[e1];exact(e2.trans (List.sublist_append_left _ _)).cons_cons _
abbrev Turn:=Hd->Option Hd
def tmN (f:Turn) (t:Nd):Nd:=match f t.hd with
 | none=>ndF
 | some h=>.mk h t.ts
mutual
def hmN (f:Turn):Nd->Nd
 | .mk h ts=>if h.k=5∨h.k=6 then tmN f (.mk h ts) else .mk h (hmL f ts)
def hmL (f:Turn):List Nd->List Nd
 | []=>[]
 | t::ts=>hmN f t::hmL f ts
end
theorem j0h (f:Turn):∀ts:List Nd,hmL f ts=ts.map (hmN f)
 | []=>by rw[hmL];rfl
 | t::ts=>by rw[hmL,j0h f ts];rfl
theorem j0g (f:Turn)(ts:List Nd):(hmL f ts).length=ts.length:=by rw[j0h,List.length_map]
structure T7 (f:Turn):Prop where
 k:∀h g,f h=H g->g.k=h.k
 x:∀h g,f h=H g->g.x=h.x
 wm:∀h g,h.k=5∨h.k=6->f h=H g->wm h 0=J->wm g 0=J
 one':∀h g,h.k=5->f h=H g->vA g.c1 g.r1 g.c1 g.r1=J
 two:∀h g,h.k=6->f h=H g->vA g.c1 g.r1 g.c2 g.r2=J
theorem jEG {f:Turn}(hf:T7 f){h:Hd}{ts:List Nd}(hk:h.k=5∨h.k=6){c:Bool}(h0:(Nd.mk h ts).fe c=0):(tmN f (.mk h ts)).fe c=0:=by
 rw[Nd.fe] at h0;by_cases ho:ownE h ts.length c=0
 rotate_left
 ·rw[if_pos ho] at h0;exact absurd h0 ho
 have hw:wm h ts.length=J:=by
  cases q:wm h ts.length with
  | true=>rfl
  | false=>unfold ownE at ho;rw[if_pos q] at ho;omega
 have hl:=j3z hk hw;have hts:ts=[]:=List.length_eq_zero_iff.1 hl;subst hts;unfold tmN;cases q:f (Nd.mk h []).hd with
 | none=>exact j5x c
 | some g=>
  have q':f h=H g:=q;show (Nd.mk g []).fe c=0;rw[Nd.fe,feL];have ho':ownE g 0 c=0:=by
   unfold ownE;rw[if_neg (by rw[hf.wm h g hk q' hw];decide),hf.k h g q'];unfold ownE at ho;rw[if_neg (by rw[hw];decide)] at ho;rcases hk with e|e
   ·rw[if_pos e,if_pos (hf.one' h g e q')]
   ·rw[if_neg (show ¬h.k=5 by omega),if_pos e];rw[if_neg (show ¬h.k=5 by omega),if_pos e] at ho;rw[if_pos (hf.two h g e q')];split at ho
    ·exact ho
    ·omega
  rw[List.length_nil,if_neg (by rw[ho'];decide)]
mutual
theorem j5W {f:Turn}(hf:T7 f):∀(t:Nd) (c:Bool),t.fe c=0->(hmN f t).fe c=0
 | .mk h ts,c,h0=>by
  rw[hmN];by_cases hk:h.k=5∨h.k=6
  ·rw[if_pos hk];exact jEG hf hk h0
  ·rw[if_neg hk];rw[Nd.fe] at h0 ⊢;rw[j0g];by_cases ho:ownE h ts.length c=0
   ·rw[if_neg (by rw[ho];decide)] at h0 ⊢;exact j5R hf ts _ h0
   ·rw[if_pos ho] at h0;exact absurd h0 ho
theorem j5R {f:Turn}(hf:T7 f):∀(ts:List Nd) (c:Bool),feL ts c=0->feL (hmL f ts) c=0
 | [],c,_=>by rw[hmL,feL]
 | t::ts,c,h0=>by
  rw[feL] at h0;rw[hmL,feL];by_cases ht:t.fe c=0
  ·rw[if_neg (by rw[ht];decide)] at h0;rw[if_neg (by rw[j5W hf t c ht];decide)];exact j5R hf ts c h0
  ·rw[if_pos ht] at h0;exact absurd h0 ht
end
theorem jEI (f:Turn)(t:Nd):(tmN f t).size<=t.size:=by
 unfold tmN;split
 ·have:=L7 t;show ndF.size<=_;unfold ndF;rw[Nd.size,D3];omega
 ·rw[Nd.size]
  conv=>rhs;rw[Nd.eta t,Nd.size]
  exact Nat.le_refl _
mutual
theorem j3D (f:Turn):∀t:Nd,(hmN f t).size<=t.size
 | .mk h ts=>by
  rw[hmN];split
  ·exact jEI f _
  ·rw[Nd.size,Nd.size];have:=j5T f ts;omega
theorem j5T (f:Turn):∀ts:List Nd,D3 (hmL f ts)<=D3 ts
 | []=>by rw[hmL];exact Nat.le_refl _
 | t::ts=>by rw[hmL,D3,D3];have:=j3D f t;have:=j5T f ts;omega
end
theorem jEF (f:Turn)(t:Nd):(tmN f t).dep<=t.dep:=by
 unfold tmN;split
 ·show ndF.dep<=_;unfold ndF;rw[Nd.dep,depL];cases t with
  | mk h ts=>rw[Nd.dep];omega
 ·rw[Nd.dep]
  conv=>rhs;rw[Nd.eta t,Nd.dep]
  exact Nat.le_refl _
mutual
theorem j5V (f:Turn):∀t:Nd,(hmN f t).dep<=t.dep
 | .mk h ts=>by
  rw[hmN];split
  ·exact jEF f _
  ·rw[Nd.dep,Nd.dep];have:=j5Q f ts;omega
theorem j5Q (f:Turn):∀ts:List Nd,depL (hmL f ts)<=depL ts
 | []=>by rw[hmL];exact Nat.le_refl _
 | t::ts=>by rw[hmL,depL,depL];have:=j5V f t;have:=j5Q f ts;omega
end
theorem jAL {f:Turn}(hf:T7 f){t:Nd}(h:chk t=0):chk (hmN f t)=0:=by
 unfold chk at h ⊢;have h1:=j3D f t;have h2:=j5V f t;by_cases a1:256<t.size
 ·rw[if_pos a1] at h;omega
 ·rw[if_neg a1] at h;by_cases a2:32<t.dep
  ·rw[if_pos a2] at h;omega
  ·rw[if_neg a2] at h;rw[if_neg (by omega),if_neg (by omega)];exact j5W hf t R h
theorem jEH {f:Turn}(hf:T7 f){t:Nd}(h:t.ok):(tmN f t).ok:=by
 unfold tmN;split
 ·unfold ndF;rw[Nd.ok,okL];exact⟨by show (0:Nat)<_;decide,trivial⟩
 ·rename_i g e
  rw[Nd.ok,hf.x _ _ e];rw[Nd.eta t,Nd.ok] at h;exact h
mutual
theorem j5X {f:Turn}(hf:T7 f):∀t:Nd,t.ok->(hmN f t).ok
 | .mk h ts,hk=>by
  rw[hmN];split
  ·exact jEH hf hk
  ·rw[Nd.ok] at hk ⊢;exact⟨hk.1,j5S hf ts hk.2⟩
theorem j5S {f:Turn}(hf:T7 f):∀ts:List Nd,okL ts->okL (hmL f ts)
 | [],_=>by rw[hmL,okL];trivial
 | t::ts,h=>by rw[okL] at h;rw[hmL,okL];exact⟨j5X hf t h.1,j5S hf ts h.2⟩
end
mutual
theorem j5U {f:Turn}(hf:T7 f):∀t:Nd,cpy t=t->cpy (hmN f t)=hmN f t
 | .mk h ts,e=>by
  rw[cpy] at e;have e1:{ h with x:=one h.x }=h:=(Nd.mk.injEq .. ▸ e).1;have e2:cpyL ts=ts:=(Nd.mk.injEq .. ▸ e).2;have e3:one h.x=h.x:=congrArg Hd.x e1;rw[hmN];split
  ·unfold tmN;split
   ·exact j5w
   ·rename_i g q
    have q1:g.x=h.x:=hf.x _ _ q;rw[cpy];show Nd.mk { g with x:=one g.x } (cpyL ts)=_;rw[show ({ g with x:=one g.x }:Hd)=g by rw[q1,e3,<- q1],e2]
    rfl
  ·rw[cpy,e1,j5P hf ts e2]
theorem j5P {f:Turn}(hf:T7 f):∀ts:List Nd,cpyL ts=ts->cpyL (hmL f ts)=hmL f ts
 | [],_=>by rw[hmL,cpyL]
 | t::ts,e=>by
  rw[cpyL] at e;rw[hmL,cpyL,j5U hf t (List.cons.inj e).1,j5P hf ts (List.cons.inj e).2]
end
def hmC (f:Turn) (c:Ct):Ct:=⟨c.k,c.v,hmN f c.t⟩
theorem jAM (f:Turn){t:Nd}(h:I4 t=J):hmN f t=t:=by
 obtain⟨h1,h2⟩:=j7b h;cases t with
 | mk h' ts=>
  have e1:h'.k=0:=h1;have e2:ts=[]:=h2;subst e2;rw[hmN,if_neg (by omega),hmL]
theorem j3C (f:Turn){c:Ct}(h:gv c=J)(hk:c.k≠2):hmC f c=c:=by
 have hz:I4 c.t=J:=by
  unfold gv Q1 at h;simp[hk] at h;rcases h with h|h
  ·exact h.2.2
  ·exact h.2.2
 unfold hmC;rw[jAM f hz]
theorem jAJ {f:Turn}(hf:T7 f){c:Ct}(h:gv c=J):gv (hmC f c)=J:=by
 by_cases hk:c.k=2
 ·unfold gv Q1 at h ⊢;simp[hmC,hk] at h ⊢;exact⟨h.1,jAL hf h.2⟩
 ·rw[j3C f h hk];exact h
theorem j1u {f:Turn}(hf:T7 f){c:Ct}(h:Gd c):Gd (hmC f c):=by
 refine⟨jAJ hf h.val,h.k,j5X hf _ h.ok,h.x,Nat.le_trans (j3D f _) h.size,?_⟩;have hc:=h.cp;unfold cpC at hc;have e1:=congrArg Ct.v hc;have e2:=congrArg Ct.t hc;unfold cpC;show (⟨c.k,{ c.v with x:=one c.v.x },cpy (hmN f c.t)⟩:Ct)=⟨c.k,c.v,hmN f c.t⟩;rw[j5U hf _ e2];exact congrArg (fun v=>(⟨c.k,v,hmN f c.t⟩:Ct)) e1
def shH (x y:Int):Turn:=fun h=>
 if h.k=6 then
  (if shOk h.c1 h.r1 h.p1 h.q1 x y=J/\shOk h.c2 h.r2 h.p2 h.q2 x y=J then
   (let a:=(shN h.c1 x 256 h.p1).1;let b:=(shN h.r1 y 4096 h.q1).1;let c:=(shN h.c2 x 256 h.p2).1;let d:=(shN h.r2 y 4096 h.q2).1
   H { h with c1:=if c<a then c else a,p1:=if c<a then h.p2 else h.p1,c2:=if c<a then a else c,p2:=if c<a then h.p1 else h.p2,r1:=if d<b then d else b,q1:=if d<b then h.q2 else h.q1,r2:=if d<b then b else d,q2:=if d<b then h.q1 else h.q2 })
  else G)
 else if shOk h.c1 h.r1 h.p1 h.q1 x y=J then H { h with c1:=(shN h.c1 x 256 h.p1).1,r1:=(shN h.r1 y 4096 h.q1).1 } else G
theorem j6v (x y:Int)(h:Hd)(hk:¬h.k=6):shH x y h=if shOk h.c1 h.r1 h.p1 h.q1 x y=J then H { h with c1:=(shN h.c1 x 256 h.p1).1,r1:=(shN h.r1 y 4096 h.q1).1 } else G:=by
 unfold shH;rw[if_neg hk]
theorem j6w (x y:Int)(h:Hd)(hk:h.k=6):shH x y h=if shOk h.c1 h.r1 h.p1 h.q1 x y=J/\shOk h.c2 h.r2 h.p2 h.q2 x y=J then
 (let a:=(shN h.c1 x 256 h.p1).1;let b:=(shN h.r1 y 4096 h.q1).1;let c:=(shN h.c2 x 256 h.p2).1;let d:=(shN h.r2 y 4096 h.q2).1
 H { h with c1:=if c<a then c else a,p1:=if c<a then h.p2 else h.p1,c2:=if c<a then a else c,p2:=if c<a then h.p1 else h.p2,r1:=if d<b then d else b,q1:=if d<b then h.q2 else h.q1,r2:=if d<b then b else d,q2:=if d<b then h.q1 else h.q2 })
 else G:=by
 unfold shH;rw[if_pos hk]
theorem j3t {c r x y:Int}{p q:Bool}(h:shOk c r p q x y=J):vC (shN c x 256 p).1 (shN r y 4096 q).1=J:=by
 unfold shOk at h;simp only[Bool.and_eq_true] at h;obtain⟨⟨h1,h2⟩,h3⟩:=h;rw[G6] at h1 ⊢;have a:1<=(shN c x 256 p).1/\(shN c x 256 p).1<=256:=by
  unfold shN at h2 ⊢;cases p with
  | true=>simp only[if_true];omega
  | false=>
   simp only[Bool.false_eq_true,if_false] at h2 ⊢;split at h2
   ·cases h2
   ·rename_i q;rw[if_neg q];simpa using h2
 have b:1<=(shN r y 4096 q).1/\(shN r y 4096 q).1<=4096:=by
  unfold shN at h3 ⊢;cases q with
  | true=>simp only[if_true];omega
  | false=>
   simp only[Bool.false_eq_true,if_false] at h3 ⊢;split at h3
   ·cases h3
   ·rename_i q;rw[if_neg q];simpa using h3
 omega
theorem jEW {c r:Int}(h:vC c r=J):vA c r c r=J:=by
 rw[G6] at h;rw[j0y];omega
theorem jEX {a b c d:Int}(h:vC a b=J)(h':vC c d=J):vA (if c<a then c else a) (if d<b then d else b) (if c<a then a else c) (if d<b then b else d)=J:=by
 rw[G6] at h h';rw[j0y];split <;> split <;> omega
theorem j2V (x y:Int):T7 (shH x y):=by
 refine⟨?_,?_,?_,?_,?_⟩
 ·intro h g e;unfold shH at e;split at e
  ·split at e
   ·cases e;rfl
   ·cases e
  ·split at e
   ·cases e;rfl
   ·cases e
 ·intro h g e;unfold shH at e;split at e
  ·split at e
   ·cases e;rfl
   ·cases e
  ·split at e
   ·cases e;rfl
   ·cases e
 ·intro h g hk e hw;unfold shH at e;rcases hk with k|k
  ·rw[if_neg (by omega)] at e;split at e
   ·cases e
    unfold wm at hw ⊢;simp only[k] at hw ⊢;simp[wmJ,k,j9] at hw ⊢;simp[hw]
   ·cases e
  ·rw[if_pos k] at e;split at e
   ·cases e
    unfold wm at hw ⊢;simp only[k] at hw ⊢;simp[wmJ,k,j9] at hw ⊢;simp[hw]
   ·cases e
 ·intro h g hk e;unfold shH at e;rw[if_neg (by omega)] at e;split at e
  ·rename_i q;cases e;exact jEW (j3t q)
  ·cases e
 ·intro h g hk e;unfold shH at e;rw[if_pos hk] at e;split at e
  ·rename_i q;cases e;exact jEX (j3t q.1) (j3t q.2)
  ·cases e
structure HmAt (f:Turn) (w wr:World) (b c k:Nat) (ts:List Nd) (fps fa fb:List Nat):Prop where
 kp:Kp w wr (fun i=>i∈b::fps)
 row:∃cs:Array Value,wr.heap[b]? = H (.cells cs 48 (0,0))/\cs.size=c*15
 done:D8 wr b 0 (hmL f (ts.take k)) fa
 rest:D8 wr b (k*15) (ts.drop k) fb
 sub:∃fA,fps=fA++fb/\fa.Sublist fA
theorem HmAt.start {f:Turn}{w:World}{b c:Nat}{ts:List Nd}{fps:List Nat}{cs:Array Value}(h1:w.heap[b]? = H (.cells cs 48 (0,0)))(h2:cs.size=c*15)(h:D8 w b 0 ts fps):HmAt f w w b c 0 ts fps [] fps:=
 ⟨Kp.refl _ _,⟨cs,h1,h2⟩,by rw[List.take_zero,hmL,D8],by simpa using h,[],rfl,List.Sublist.refl _⟩
theorem HmAt.nul {f:Turn}{w wr w':World}{b c k:Nat}{ts:List Nd}{fps fa fb:List Nat}(h:HmAt f w wr b c k ts fps fa fb)(g:Kp wr w' Nul):HmAt f w w' b c k ts fps fa fb:=by
 have hb:w'.heap[b]? = wr.heap[b]?:=by
  obtain⟨cs,h1,_⟩:=h.row;exact g.block b (Array.getElem?_eq_some_iff.1 h1).1 (fun x=>x)
 refine⟨h.kp.trans (g.mono (fun _ _ x=>x.elim)),?_,?_,?_,h.sub⟩
 ·obtain⟨cs,h1,h2⟩:=h.row;exact⟨cs,hb.trans h1,h2⟩
 ·exact h.done.mono (fun o' cs' _ _ hr=>I7 hr hb) (fun i hi=>g.block i (F4 (h.done.node i hi)) (fun x=>x))
 ·exact h.rest.mono (fun o' cs' _ _ hr=>I7 hr hb) (fun i hi=>g.block i (F4 (h.rest.node i hi)) (fun x=>x))
theorem HmAt.next {f:Turn}{w wr:World}{b c k:Nat}{ts:List Nd}{fps fa fb:List Nat}(h:HmAt f w wr b c k ts fps fa fb)(hk:k<ts.length):∃sl f1 f2,wr.rangeAt b (k*15) ((ts[k]).hd.cells sl)/\D2 wr sl ts[k] f1/\fb=f1++f2/\D8 wr b ((k+1)*15) (ts.drop (k+1)) f2:=by
 have h1:=h.rest;rw[List.drop_eq_getElem_cons hk,D8] at h1;obtain⟨sl,f1,f2,h2,h3,h4,h5⟩:=h1;exact⟨sl,f1,f2,h2,h3,h4,by rw[show (k+1)*15=k*15+15 by omega];exact h5⟩
theorem HmAt.step {f:Turn}{w wr w1:World}{b c k:Nat}{ts:List Nd}{fps fa fb f1 f2 f1':List Nat}(h:HmAt f w wr b c k ts fps fa fb)(hk:k<ts.length)(hc:ts.length<=c)(hn:(b::fps).Nodup)(hfb:fb=f1++f2)(hrest:D8 wr b ((k+1)*15) (ts.drop (k+1)) f2)
 {sl':Value} (g:Kp wr w1 (fun i=>i∈f1)) (hu:D2 w1 sl' (hmN f ts[k]) f1') (hs:f1'.Sublist f1) :
 HmAt f w (w1.setCells b (k*15) ((hmN f ts[k]).hd.cells sl')) b c (k+1) ts fps (fa++f1') f2:=by
 obtain⟨fA,e1,e2⟩:=h.sub;obtain⟨cs,r1,r2⟩:=h.row;have hblt:=(Array.getElem?_eq_some_iff.1 r1).1;rw[List.nodup_cons] at hn;obtain⟨hb0,hn⟩:=hn;rw[e1,hfb] at hn hb0;have hbA:b∉fA:=fun q=>hb0 (List.mem_append_left _ q)
 have hb1:b∉f1:=fun q=>hb0 (List.mem_append_right _ (List.mem_append_left _ q))
 have hb2:b∉f2:=fun q=>hb0 (List.mem_append_right _ (List.mem_append_right _ q))
 rw[List.nodup_append] at hn;obtain⟨_,hn2,hn3⟩:=hn;rw[List.nodup_append] at hn2;have d1:∀i∈fa,i∉f1:=fun i hi q=>hn3 i (e2.subset hi) i (List.mem_append_left _ q) rfl
 have d2:∀i∈f2,i∉f1:=fun i hi q=>hn2.2.2 i q i hi rfl
 have hA:=(g.block b hblt hb1).trans r1;have hth:w1.there b (k*15) 15:=J5 hA _ _ (by omega);have hne:∀i,i≠b->(w1.setCells b (k*15) ((hmN f ts[k]).hd.cells sl')).heap[i]? = w1.heap[i]?:=fun i hi=>L5 hi _ _ _
 refine⟨?_,?_,?_,?_,?_⟩
 ·refine(h.kp.trans (g.mono (fun i _ q=>?_))).trans (O6 _ (by show b∈b::fps;exact List.mem_cons_self) _ _ _);show i∈b::fps;rw[e1,hfb];exact List.mem_cons_of_mem _ (List.mem_append_right _ (List.mem_append_left _ q))
 ·exact⟨_,j08 _ _ _ _ hA,by rw[j2U,r2]⟩
 ·have o1:=h.done.mono (fun o' cs' _ _ hr=>I7 hr (hA.trans r1.symm)) (fun i hi=>g.block i (F4 (h.done.node i hi)) (d1 i hi));have hl:(hmL f (ts.take k)).length=k:=by rw[j0g,List.length_take];omega
  have o2:D8 (w1.setCells b (k*15) ((hmN f ts[k]).hd.cells sl')) b 0 (hmL f (ts.take k)) fa:=by
   refine o1.mono (fun o' cs' _ q hr=>?_) (fun i hi=>hne i (fun e=>hbA (e ▸ e2.subset hi)));exact World.rangeAt_setCells_apart hr _ _ _ (.inr (.inl (by rw[hl] at q;omega)))
  have e:hmL f (ts.take (k+1))=hmL f (ts.take k)++[hmN f ts[k]]:=by
   rw[j0h,j0h,List.take_add_one,List.getElem?_eq_getElem hk,List.map_append];rfl
  rw[e];refine D8.snoc (sl:=sl') (hu.mono (fun i hi=>hne i (fun e=>hb1 (e ▸ hs.subset hi)))) o2 ?_;rw[hl,Nat.zero_add];exact World.rangeAt_setCells_same _ _ _ _ (by simpa using hth)
 ·have o1:=hrest.mono (fun o' cs' _ _ hr=>I7 hr (hA.trans r1.symm)) (fun i hi=>g.block i (F4 (hrest.node i hi)) (d2 i hi));refine o1.mono (fun o' cs' q _ hr=>?_) (fun i hi=>hne i (fun e=>hb2 (e ▸ hi)));exact World.rangeAt_setCells_apart hr _ _ _ (.inr (.inr (by simp;omega)))
 ·exact⟨fA++f1,by rw[e1,hfb,List.append_assoc],e2.append hs⟩
theorem HmAt.fin {f:Turn}{w wr:World}{b c:Nat}{ts:List Nd}{fps fa fb:List Nat}(h:HmAt f w wr b c ts.length ts fps fa fb)(hne:ts≠[])(hc:ts.length<=c)(hm:c<=maxLen)(hd:Hd):D2 wr (U (H ⟨b,0,G⟩) ts.length c) (.mk hd (hmL f ts)) (b::fa)/\(b::fa).Sublist (b::fps):=by
 obtain⟨cs,h1,h2⟩:=h.row;have hd':=h.done;rw[List.take_length] at hd';obtain⟨fA,e1,e2⟩:=h.sub;constructor
 ·rw[D2];refine .inr ⟨b,c,fa,cs,by rw[j0g],?_,by rw[j0g];exact hc,hm,h1,h2,rfl,hd'⟩;intro e;have:=j0g f ts;rw[e] at this;exact hne (List.length_eq_zero_iff.1 this.symm)
 ·rw[e1];exact(e2.trans (List.sublist_append_left _ _)).cons_cons _
def tmS (f:Turn) (h:Hd) (sl:Value):Value:=match f h with
 | none=>U G 0 0
 | some _=>sl
def tmFp (f:Turn) (h:Hd) (fp:List Nat):List Nat:=match f h with
 | none=>[]
 | some _=>fp
structure HmR (f:Turn) (t:Nd) (fp:List Nat) (w w':World) (sl':Value) (fp':List Nat):Prop where
 own:D2 w' sl' (hmN f t) fp'
 sub:fp'.Sublist fp
 kp:Kp w w' (fun i=>i∈fp)
theorem j7D (f:Turn)(hd:Hd)(ts:List Nd)(sl:Value)(fp:List Nat)(w w':World)(h:D2 w sl (.mk hd ts) fp)(k:Kp w w' Nul)(hk:hd.k=5∨hd.k=6):HmR f (.mk hd ts) fp w w' (tmS f hd sl) (tmFp f hd fp):=by
 have h':=h.mono (fun b hb=>k.block b (F4 (h.node b hb)) (fun x=>x));have e:hmN f (.mk hd ts)=tmN f (.mk hd ts):=by rw[hmN,if_pos hk]
 unfold tmS tmFp;refine⟨?_,?_,k.mono (fun _ _ q=>q.elim)⟩
 ·rw[e];unfold tmN;simp only[Nd.hd,Nd.ts];cases f hd with
  | none=>exact .inl ⟨rfl,rfl,rfl⟩
  | some a=>rw[D2] at h' ⊢;exact h'
 ·cases f hd with
  | none=>exact List.nil_sublist _
  | some a=>exact List.Sublist.refl _
abbrev j8 (x:Cc) (sl:Value):List Value:=O I x.1.1 :: O I x.1.2::x.2.cells sl
def rowP:List (Cc×Value)->List Value
 | []=>[]
 | y::ys=>j8 y.1 y.2++rowP ys
theorem j0U (x:Cc)(sl:Value):(j8 x sl).length=23:=rfl
theorem j2R:∀ys:List (Cc×Value),(rowP ys).length=ys.length*23
 | []=>rfl
 | y::ys=>by rw[rowP,List.length_append,j2R ys,j0U,List.length_cons];omega
theorem j1V:∀(ys zs:List (Cc×Value)),rowP (ys++zs)=rowP ys++rowP zs
 | [],zs=>rfl
 | y::ys,zs=>by rw[List.cons_append,rowP,rowP,j1V ys zs,List.append_assoc]
theorem jDX (ys:List (Cc×Value))(y:Cc×Value):rowP (ys++[y])=rowP ys++j8 y.1 y.2:=by
 rw[j1V,rowP,rowP,List.append_nil]
theorem j6i:∀(ys:List (Cc×Value)) (i:Nat) (y:Cc×Value),ys[i]? = H y->∀j v,(j8 y.1 y.2)[j]? = H v->(rowP ys)[i*23+j]? = H v
 | [],i,y,h,_,_,_=>by simp at h
 | z::ys,0,y,h,j,v,hj=>by
  have e:z=y:=by simpa using h
  subst e;have hl:j<23:=by have:=(List.getElem?_eq_some_iff.1 hj).1;rw[j0U] at this;exact this
  rw[rowP,List.getElem?_append_left (by rw[j0U];omega),Nat.zero_mul,Nat.zero_add];exact hj
 | z::ys,i+1,y,h,j,v,hj=>by
  rw[rowP,List.getElem?_append_right (by rw[j0U];omega),j0U,show (i+1)*23+j-23=i*23+j by omega];exact j6i ys i y (by simpa using h) j v hj
structure Pts (w:World) (B:Nat) (F:Nat->Prop) (v:Value) (ys:List (Cc×Value)):Prop where
 row:w.ownsRow B 52 23 v ys.length (rowP ys)
 tree:∀y∈ys,NdIn w F y.2 y.1.2.t
theorem Pts.nil (w:World)(B:Nat)(F:Nat->Prop):Pts w B F (U G 0 0) []:=⟨World.ownsRow_nil _ _ _ _,fun y h=>by simp at h⟩
theorem Pts.slice {w:World}{B:Nat}{F:Nat->Prop}{v:Value}{ys:List (Cc×Value)}(h:Pts w B F v ys):∃p c,v=U p ys.length c/\(0<ys.length->∃b,p=H ⟨b,0,G⟩/\B<=b/\∀i y,ys[i]? = H y->w.rangeAt b (i*23) (j8 y.1 y.2)):=by
 rcases h.row.2 with ⟨rfl,e⟩|⟨g,c,cur,rfl,hB,_⟩
 ·exact⟨G,0,by rw[e],fun h=>by omega⟩
 ·refine⟨_,_,rfl,fun _=>⟨g,rfl,hB,fun i y hy j u hj=>?_⟩⟩;have:=h.row.cells (g:=g) rfl (i*23+j) u (j6i ys i y hy j u hj);rw[R5,Nat.zero_add] at this;exact this
theorem Pts.kp {w w':World}{B:Nat}{F:Nat->Prop}{v:Value}{ys:List (Cc×Value)}(h:Pts w B F v ys)(k:Kp w w' Nul):Pts w' B F v ys:=
 ⟨j0F h.row k.below,fun y hy=>(h.tree y hy).kp k (fun _ _ x=>x)⟩
theorem Pts.km {w w':World}{B g:Nat}{F:Nat->Prop}{v:Value}{ys:List (Cc×Value)}(h:Pts w B F v ys)(k:Km g w w'){mv:Option Nat}(hg:Blk w g [.map mv] 96):Pts w' B F v ys:=by
 refine⟨⟨h.row.1,?_⟩,fun y hy=>(h.tree y hy).km k hg⟩;rcases h.row.2 with e|⟨b,c,cur,e1,e2,e3,e4⟩
 ·exact .inl e
 ·have hne:b≠g:=fun e=>by
   subst e;unfold Blk at hg;rw[hg] at e3;simp at e3
  have e3':Blk w b cur.toList 52:=e3;exact .inr ⟨b,c,cur,e1,e2,k.blk e3' hne,e4⟩
theorem j3L:(prog.info? 52).map (·.size)=H 23:=by kernel_rfl
theorem j5f:∃i,prog.info? 52=H i/\i.zero=H (T (O I 0 :: O I 0::zC21).toArray)/\i.size=23/\i.bytes=200:=by
 have h:(prog.info? 52).map (fun i=>(i.zero,i.size,i.bytes))=H (H (T (O I 0 :: O I 0::zC21).toArray),23,200):=by kernel_rfl
 cases e:prog.info? 52 with
 | none=>rw[e] at h;cases h
 | some i=>
  rw[e] at h;simp only[Option.map_some,Option.some.injEq,Prod.mk.injEq] at h;exact⟨i,rfl,h⟩
theorem j0r (x:Cc){sl:Value}(hs:sl.oneCell'=J):∀u∈j8 x sl,u.oneCell'=J:=by
 intro u hu;have:=x.2.one hs;rw[Array.all_eq_true'] at this;rcases List.mem_cons.1 hu with rfl|hu
 ·rfl
 ·rcases List.mem_cons.1 hu with rfl|hu
  ·rfl
  ·exact this u (by simpa using hu)
end
section
open Go.RowKit Go.Maps
theorem j5K (g:Nat)(c r:Int)(mv:Option Nat)(V:Value)(bb:Bool)(u:Ct)(w:World)(hlk:Lk w g c r mv V bb)
 (hcp:∀wq,Kp w wq Nul->Calls prog 47 #[V] wq fun e w'=>∃sl' fp,e=Q (u.val sl')/\Own w' wq.heap.size sl' u.t fp/\Kp wq w' Nul) :
 Calls prog 19 #[an (H ⟨g,0,G⟩),T #[O I c,O I r]] w fun e w'=>∃sl' fp,e=Q (u.val sl')/\Own w' w.heap.size sl' u.t fp/\Kp w w' Nul:=by
 obtain⟨W1,hW1⟩:=e_ ((w.alloc (.cells #[O I c,O I r] 32)).alloc (.cells #[O I 0,O I 0,ap ao 0,aq ⟨#[]⟩,E R,O I 0,O I 0,O I 0,ap ao 0,aq ⟨#[]⟩,E R,O I 0,O I 0,O I 0,E R,E R,O I 0,O I 0,E R,E R,U G 0 0] 50));have k1:Kp w W1 Nul:=by rw[<- hW1];exact((Kp.refl w Nul).alloc _).alloc _
 have hA1:Blk W1 w.heap.size [O I c,O I r] 32:=by rw[<- hW1];exact(Blk.new w [O I c,O I r] _).alloc _
 have hZ1:Blk W1 (w.heap.size+1) [O I 0,O I 0,ap ao 0,aq ⟨#[]⟩,E R,O I 0,O I 0,O I 0,ap ao 0,aq ⟨#[]⟩,E R,O I 0,O I 0,O I 0,E R,E R,O I 0,O I 0,E R,E R,U G 0 0] 50:=by
  have:=Blk.new (w.alloc (.cells #[O I c,O I r] 32)) [O I 0,O I 0,ap ao 0,aq ⟨#[]⟩,E R,O I 0,O I 0,O I 0,ap ao 0,aq ⟨#[]⟩,E R,O I 0,O I 0,O I 0,E R,E R,O I 0,O I 0,E R,E R,U G 0 0] 50;rw[World.size_alloc] at this;rw[<- hW1];exact this
 have hglt:=(Array.getElem?_eq_some_iff.1 hlk.cell).1;have hg1:Blk W1 g [.map mv] 96:=(k1.block g hglt (fun x=>x)).trans hlk.cell;have HS:Hid (∀wq,Kp W1 wq (fun i=>i=w.heap.size+1)->(wq.cell? ⟨w.heap.size,0,G⟩=H (O I c)/\wq.cell? ⟨w.heap.size,1,G⟩=H (O I r)/\wq.cell? ⟨g,0,G⟩=H (.map mv)/\(Instr.lookup 94 (.map mv) (T #[O I c,O I r]) R).run prog wq=.ok V wq)):=fun wq k=>⟨(hA1.kp k (by show ¬w.heap.size=w.heap.size+1;omega)).cell rfl,(hA1.kp k (by show ¬w.heap.size=w.heap.size+1;omega)).cell rfl,(hg1.kp k (by show ¬g=w.heap.size+1;omega)).cell rfl,hlk.one wq (fun m hm=>by
  have h2:=(hlk.ne m hm).2;have h3:=k1.size;exact(k.block m (by omega) (by show ¬m=w.heap.size+1;omega)).trans (k1.block m h2 (fun x=>x)))⟩
 have HCp:=h_ fun wq (k:Kp W1 wq Nul)=>hcp wq (k1.trans k)
 have HZ:=h_ hZ1;have HW1:=h_ hW1;have HK1:=h_ k1;clear hW1 k1 hA1 hZ1 hg1 hlk hcp hglt;go_enter func19,ntmps19;go_wp2_with fail;rw[HW1.o];clear HW1;refine wp_region_noPanic ?_;refine I0 (fun w':World=>Kp W1 w' (fun i=>i=w.heap.size+1)) (by kernel_rfl) ((Kp.refl W1 _).drew) (fun hHeld=>?_);have tok0:True:=trivial;have tok1:True:=trivial;have tok2:True:=trivial;have tok3:True:=trivial;have tok4:True:=trivial;have tok5:True:=trivial
 iterate 6 ((first|(clear tok0;refine G7 (i:=0) (v:=?_) (H 8) rfl rfl (by kernel_rfl) (fun _ _ _ h=>h) (Or.inl ⟨by rfl,?_⟩) hHeld ?_)|(clear tok1;refine G7 (i:=1) (v:=?_) (H 9) rfl rfl (by kernel_rfl) (fun _ _ _ h=>h) (Or.inl ⟨by rfl,?_⟩) hHeld ?_)|(clear tok2;refine G7 (i:=2) (v:=?_) (H 10) rfl rfl (by kernel_rfl) (fun _ _ _ h=>h) (Or.inl ⟨by rfl,?_⟩) hHeld ?_)|(clear tok3;refine G7 (i:=3) (v:=?_) (H 11) rfl rfl (by kernel_rfl) (fun _ _ _ h=>h) (Or.inl ⟨by rfl,?_⟩) hHeld ?_)|(clear tok4;refine G7 (i:=4) (v:=?_) (H 12) rfl rfl (by kernel_rfl) (fun _ _ _ h=>h) (Or.inl ⟨by rfl,?_⟩) hHeld ?_)|(clear tok5;refine G7 (i:=5) (v:=?_) (H 13) rfl rfl (by kernel_rfl) (fun _ _ _ h=>h) (Or.inl ⟨by rfl,?_⟩) hHeld ?_));rotate_left;(· intro w hSw;obtain⟨s0,s1,s2,s3⟩:=HS.o _ hSw;clear hSw;go_simp;try with_reducible rfl);simp only[Act.put,Sz0,Sz1,Sz2])
 refine D6 (i:=6) (by kernel_rfl) rfl rfl (fun K hK=>?_);go_simp;refine(HCp.o _ (Kp.refl W1 Nul).drew).mono ?_;rintro e w4 ⟨sl',fp,rfl,hown,hk4⟩;have hk14:Kp W1 w4 Nul:=(Kp.refl W1 Nul).drew.trans hk4;have hone:=hown.own.one;refine hK.o _ _ hk14.of_nul (fun hHeld2=>?_);clear hK K hk4;have hZ4:=HZ.o.kp hk14 (fun x=>x);refine D6 (i:=7) (by kernel_rfl) rfl rfl (fun K hK=>?_);refine wp_store_mid 50 (.tmp 4) (.tmp 14) rfl (w.heap.size+1) 0 (u.cells sl').toArray rfl rfl (J5 hZ4 _ _ (by simp)) D9 (u.one hone) ?_;obtain⟨W5,hW5⟩:=e_ (w4.setCells (w.heap.size+1) 0 (u.cells sl'));have k45:Kp w4 W5 (fun i=>i=w.heap.size+1):=by rw[<- hW5];exact O6 (fun i=>i=w.heap.size+1) rfl _ _ _
 have hB5:W5.heap[w.heap.size+1]? = H (.cells (u.cells sl').toArray 50 (0,0)):=by
  rw[<- hW5];exact V9 (cs:=(u.cells sl').toArray) hZ4 rfl
 show K _ (w4.setCells (w.heap.size+1) 0 (u.cells sl'));rw[hW5];refine hK.o _ _ (hk14.of_nul.trans k45) (fun _=>?_);have HOW:Hid (Own W5 w.heap.size sl' u.t fp):=by
  have hz:=HZ.o.lt;have hnew:∀b∈fp,w.heap.size+1<b/\b<w4.heap.size:=fun b hb=>by
   have h1:=(hown.new b hb).1;have h2:W1.drew.heap.size=W1.heap.size:=rfl;exact⟨by omega,(hown.new b hb).2⟩
  refine⟨hown.own.mono (fun b hb=>?_),hown.nodup,fun b hb=>?_⟩
  ·rw[<- hW5,L5 (by have:=(hnew b hb).1;omega)]
  ·rw[<- hW5,T6];exact⟨by have:=(hnew b hb).1;omega,(hnew b hb).2⟩
 have HEND:=h_ ((HK1.o.trans hk14).trans' k45 (fun i hi e=>by have:i=w.heap.size+1:=e;omega));clear hK K hHeld hHeld2 hk14 k45 hone hZ4 hW5 hown;refine wpAnyH_done (by kernel_rfl) ?_ _;refine NoPanic.normal ?_;go_wp2_with fail;refine bodyPost_ret (results_cell_row rfl _ _ (w.heap.size+1) 50 _ (0,0) _ rfl hB5 underlying50 rfl D9) rfl ?_;exact⟨_,_,rfl,HOW.o,HEND.o⟩
end
section
open Go.RowKit Go.Maps
theorem j0E:∀ {L:List Cc},L.Pairwise (fun x y=>x.1≠y.1)->∀ {k:Int×Int} {a b:Ct},(k,a)∈L->(k,b)∈L->a=b
 | [],_,_,_,_,h,_=>by simp at h
 | x::L,hp,k,a,b,ha,hb=>by
  rw[List.pairwise_cons] at hp;rcases List.mem_cons.1 ha with ha|ha <;> rcases List.mem_cons.1 hb with hb|hb
  ·rw[<- ha] at hb;exact(congrArg Prod.snd hb).symm
  ·exact absurd (congrArg Prod.fst ha).symm (hp.1 (k,b) hb)
  ·exact absurd (congrArg Prod.fst hb).symm (hp.1 (k,a) ha)
  ·exact j0E hp.2 ha hb
theorem O0:(prog.info? 32).map (·.size)=H 2:=by kernel_rfl
section
variable {ops:Array Oper} {C:World->Prop} {am:Act->Prop} {o:Oper} {rest:List Oper} {a:Act}
theorem Q9 (d:Option Tmp)(hd:o.dst=d)(v:Value)(hw:Region.wanted o (yielded ops a.tmps)=J)(hr:∀w,C w->(execOp a.eval o).run prog w=.ok (.value v) w)
 (h:wpQuiet prog ops C am rest (a.put d v)):wpQuiet prog ops C am (o::rest) a:=by
 subst hd;refine wpQuiet_step fun K hK=>?_
 simp only[hw,if_true];refine⟨v,fun w hC=>?_,hK _ h⟩;unfold Oper.quietAt;rw[hr w hC];exact⟨rfl,rfl⟩
theorem j6Q (d:Option Tmp)(hd:o.dst=d)(f:FuncId)(args:Array Value)(v:Value)(hw:Region.wanted o (yielded ops a.tmps)=J)(hr:∀w,(execOp a.eval o).run prog w=.ok (.enter f args) w)(hc:∀w,C w->Calls prog f args w fun e w'=>e=Q v/\C w')
 (h:wpQuiet prog ops C am rest (a.put d v)):wpQuiet prog ops C am (o::rest) a:=by
 subst hd;refine wpQuiet_step fun K hK=>?_
 simp only[hw,if_true];refine⟨v,fun w hC=>?_,hK _ h⟩;unfold Oper.quietAt;rw[hr w];exact⟨rfl,hc w hC⟩
theorem j7a {id:Nat}{am:Exit->Act->World->Prop}{a:Act}{W w:World}{l:List Oper}(hw:Kp W w Nul)(hm:prog.follows .mixedOrders=J)(hB:Region.lexB .any l.toArray=J)
 (h:wpQuiet prog l.toArray (fun w'=>Kp W w' Nul) (fun a'=>∀w',Kp W w' Nul->am .normal a' w') l a):(Code.region id l.toArray J).wp prog am a w:=
 wp_region_quiet (C:=fun w'=>Kp W w' Nul) hm hB hw.drew (by simpa using h)
end
theorem jAq {w wq:World}{g:Nat}{c s:Int}{mv:Option Nat}{v:Value}{b:Bool}(h:Lk w g c s mv v b)(k:Kp w wq Nul):Lk wq g c s mv v b:=
 ⟨(k.block g (Array.getElem?_eq_some_iff.1 h.cell).1 (fun x=>x)).trans h.cell,fun m hm=>⟨(h.ne m hm).1,Nat.lt_of_lt_of_le (h.ne m hm).2 k.size⟩,fun w' hw'=>h.two w' (fun m hm=>(hw' m hm).trans (k.block m (h.ne m hm).2 (fun x=>x))),fun w' hw'=>h.one w' (fun m hm=>(hw' m hm).trans (k.block m (h.ne m hm).2 (fun x=>x)))⟩
end
section
open Go.RowKit Go.Maps Go.Sort Go.Lib
theorem GRg.lt {w:World}{A:Nat}{mv:Option Nat}{r:Nat}{rem:List Cc}(h:GRg w A mv r rem):r<w.heap.size:=by
 obtain⟨_,_,⟨_,_,q⟩|⟨m,D,left,cnt,_,_,q,_⟩⟩:=h
 ·exact(Array.getElem?_eq_some_iff.1 q).1
 ·exact q.lt
theorem GRg.no_cells {w:World}{A:Nat}{mv:Option Nat}{r:Nat}{rem:List Cc}(h:GRg w A mv r rem):∀cs t f,w.heap[r]? ≠ H (.cells cs t f):=fun cs t f q=>by
 obtain⟨_,_,⟨_,_,e⟩|⟨m,D,left,cnt,_,_,e,_⟩⟩:=h
 ·rw[e] at q;cases q
 ·obtain⟨es,clock,since,seen,c0,h1,h2,h3,h4,h5,h6⟩:=e;rw[h5] at q;cases q
def UnP (L:List Cc) (x:Int×Int) (b:Ct):Prop:=¬ ∃a,(x,a)∈L/\j0e a b=J
def Un (L M:List Cc) (x:Int×Int):Prop:=(∃b,(x,b)∈M/\UnP L x b)∨((∃a,(x,a)∈L)/\∀b,(x,b)∉M)
structure UnR (w:World) (A:Nat) (mv:Option Nat) (r n:Nat) (P:Cc->Prop) (base:(Int×Int)->Prop) (all:List Cc) (v:Value) (wr:World) (rem:List Cc) (acc:List (Int×Int)):Prop where
 rg:GRg wr A mv r rem
 row:wr.ownsRow A 32 2 v acc.length (flatK encA 2 acc.toArray).toList
 len:acc.length+rem.length<=n
 nodup:acc.Nodup
 mem:∀x,x∈acc↔base x∨∃b,(x,b)∈all/\(x,b)∉rem/\P (x,b)
 sub:∀x,x∈rem->x∈all
 kp:Kp w wr Nul
theorem j5D {rem:List Cc}{c s:Int}{ct:Ct}(ho:rem.Pairwise (fun x y=>x.1≠y.1))(h:((c,s),ct)∈rem):(rem.filter (fun x=>decide (x.1≠(c,s)))).length+1=rem.length:=j1E ho h
theorem UnR.skip {w:World}{A:Nat}{mv:Option Nat}{r n:Nat}{P:Cc->Prop}{base:(Int×Int)->Prop}{all:List Cc}{v:Value}{wr w2:World}{rem:List Cc}{acc:List (Int×Int)}(h:UnR w A mv r n P base all v wr rem acc){c s:Int}{ct:Ct}(hm:((c,s),ct)∈rem)
 (hp:¬P ((c,s),ct)) (hone:all.Pairwise (fun x y=>x.1≠y.1)) (hrg:GRg w2 A mv r (rem.filter (fun x=>decide (x.1≠(c,s))))) (hrow:w2.ownsRow A 32 2 v acc.length (flatK encA 2 acc.toArray).toList) (hk:Kp w w2 Nul) :
 UnR w A mv r n P base all v w2 (rem.filter (fun x=>decide (x.1≠(c,s)))) acc:=by
 refine⟨hrg,hrow,by have:=h.len;have:=j5D h.rg.1 hm;omega,h.nodup,fun x=>?_,fun x hx=>h.sub x (List.mem_filter.1 hx).1,hk⟩;rw[h.mem];constructor
 ·rintro(q|⟨b,q1,q2,q3⟩)
  ·exact .inl q
  ·exact .inr ⟨b,q1,fun q=>q2 (List.mem_filter.1 q).1,q3⟩
 ·rintro(q|⟨b,q1,q2,q3⟩)
  ·exact .inl q
  ·refine .inr ⟨b,q1,fun q=>?_,q3⟩;by_cases e:x=(c,s)
   ·subst e;rw[j0E hone q1 (h.sub _ hm)] at q3;exact hp q3
   ·exact q2 (List.mem_filter.2 ⟨q,decide_eq_true e⟩)
theorem UnR.take {w:World}{A:Nat}{mv:Option Nat}{r n:Nat}{P:Cc->Prop}{base:(Int×Int)->Prop}{all:List Cc}{v v2:Value}{wr w2:World}{rem:List Cc}{acc:List (Int×Int)}(h:UnR w A mv r n P base all v wr rem acc){c s:Int}{ct:Ct}(hm:((c,s),ct)∈rem)
 (hp:P ((c,s),ct)) (hone:all.Pairwise (fun x y=>x.1≠y.1)) (hb:¬base (c,s)) (hrg:GRg w2 A mv r (rem.filter (fun x=>decide (x.1≠(c,s))))) (hrow:w2.ownsRow A 32 2 v2 (acc.length+1) ((flatK encA 2 acc.toArray).toList++encA (c,s))) (hk:Kp w w2 Nul) :
 UnR w A mv r n P base all v2 w2 (rem.filter (fun x=>decide (x.1≠(c,s)))) (acc++[(c,s)]):=by
 have hx:(c,s)∉acc:=fun q=>by
  rcases(h.mem _).1 q with q|⟨b,q1,q2,_⟩
  ·exact hb q
  ·rw[j0E hone q1 (h.sub _ hm)] at q2;exact q2 hm
 refine⟨hrg,by rw[j37,List.length_append];exact hrow,by have:=h.len;have:=j5D h.rg.1 hm;simp only[List.length_append,List.length_singleton];omega,jBm h.nodup hx,fun x=>?_,fun x hx=>h.sub x (List.mem_filter.1 hx).1,hk⟩;rw[List.mem_append,List.mem_singleton,h.mem];constructor
 ·rintro((q|⟨b,q1,q2,q3⟩)|rfl)
  ·exact .inl q
  ·exact .inr ⟨b,q1,fun q=>q2 (List.mem_filter.1 q).1,q3⟩
  ·exact .inr ⟨ct,h.sub _ hm,fun q=>by have:=of_decide_eq_true (List.mem_filter.1 q).2;exact this rfl,hp⟩
 ·rintro(q|⟨b,q1,q2,q3⟩)
  ·exact .inl (.inl q)
  ·by_cases e:x=(c,s)
   ·exact .inr e
   ·exact .inl (.inr ⟨b,q1,fun q=>q2 (List.mem_filter.2 ⟨q,decide_eq_true e⟩),q3⟩)
theorem jDY {w:World}{A:Nat}{mv:Option Nat}{r:Nat}{rem:List Cc}{e:TypeId}{k n:Nat}{v:Value}{xs:List Value}(h:GRg w A mv r rem)(q:w.ownsRow A e k v n xs):v.ownBlock≠H r:=fun eq=>by
 obtain⟨_,⟨rfl,_⟩|⟨g,c,cur,rfl,_,h3,_⟩⟩:=q
 ·cases eq
 ·have:g=r:=by simpa [Value.ownBlock] using eq
  subst this;exact h.no_cells _ _ _ h3
theorem j3Q {w:World}{g:Nat}{L:List Cc}(h:GI 0 w g L)(gL:∀x∈L,Gd x.2){c s:Int}(hc:I64 c)(hs:I64 s){mv:Option Nat}(hb:Blk w g [.map mv] 96):
 ∃a sa b,Lk w g c s mv (a.val sa) b/\NdIn w (fun b=>0<=b) sa a.t/\a.v.x<18446744073709551616/\a.t.ok/\a.t.size<=1048576/\cpC a=a/\((b=J/\((c,s),a)∈L)∨(b=R/\a=ct0/\sa=U G 0 0/\∀a',((c,s),a')∉L)):=by
 obtain⟨mv',v,b,q1,q2⟩:=j3M h hc hs;have e:mv'=mv:=by
  have q:=q1.cell.symm.trans hb
  simpa using q
 subst e;rcases q2 with ⟨rfl,ct,sl,h1,rfl,h3⟩|⟨rfl,rfl,h2⟩
 ·have hgd:=gL _ h1;exact⟨ct,sl,J,q1,h3,hgd.x,hgd.ok,hgd.size,hgd.cp,.inl ⟨rfl,h1⟩⟩
 ·refine⟨ct0,U G 0 0,R,q1,j1X w _,by decide,j1Y,by show zNd.size<=_;rw[j42];decide,?_,.inr ⟨rfl,rfl,rfl,h2⟩⟩;unfold cpC ct0;simp only[j2z]
  rfl
theorem j0n {α:Type}[DecidableEq α]:∀(l m:List α),l.Nodup->(∀x∈l,x∈m)->l.length<=m.length
 | [],m,_,_=>Nat.zero_le _
 | x::l,m,hn,hs=>by
  rw[List.nodup_cons] at hn;have hx:x∈m:=hs x List.mem_cons_self;have h:=j0n l (m.erase x) hn.2 (fun y hy=>(List.mem_erase_of_ne (by rintro rfl;exact hn.1 hy)).2 (hs y (List.mem_cons_of_mem _ hy)));rw[List.length_erase_of_mem hx] at h;have:0<m.length:=List.length_pos_of_mem hx;rw[List.length_cons];omega
theorem j3w {aj:List (Int×Int)}(h:E9 aj):aj.Nodup:=h.imp (fun {x y} h e=>by subst e;rw[swoA.irrefl] at h;cases h)
theorem L9 {ops:Array Oper}{rest:List Oper}{o:Oper}{a:Act}{w:World}{am:Exit->Act->World->Prop}(hgd:o.guard=G)(ty:TypeId)(x y:Operand)(ho:o.op=.store ty x y)
 (b:Nat) (hx:a.eval x=an (H ⟨b,0,G⟩)) (v:Value) (hy:a.eval y=v) (h1:v.oneCell'=J) (t:TypeId) (old:Value) (hb:Blk w b [old] t) (hi:(prog.info? ty).map (·.size)=H 1)
 (h:∀W,Blk W b [v] t->Kp w W (fun i=>i=b)->wpList prog ops am rest (a.put o.dst undef) W):wpList prog ops am (o::rest) a w:=by
 subst hy;refine wpList_store_one hgd ty x y ho b hx h1 t old hb hi (h _ (setRow_heap w b #[old] #[a.eval y] t (0,0) hb) ?_);refine⟨rfl,rfl,rfl,?_,fun i _ hn=>?_⟩
 ·unfold World.setRow;simp
 ·unfold World.setRow;simp only[Array.getElem?_modify];rw[if_neg (fun e=>hn e.symm)]
theorem j6k {w:World}{B B':Nat}{e:TypeId}{k n:Nat}{v:Value}{xs:List Value}(h:w.ownsRow B e k v n xs)(hb:B'<=B):w.ownsRow B' e k v n xs:=by
 obtain⟨h0,h⟩:=h;refine⟨h0,?_⟩;rcases h with h|⟨g',c',cur,h1,h2,h3⟩
 ·exact .inl h
 ·exact .inr ⟨g',c',cur,h1,Nat.le_trans hb h2,h3⟩
theorem jDZ {w:World}{B:Nat}{e:TypeId}{k n:Nat}{v:Value}{xs:List Value}(h:w.ownsRow B e k v n xs):v.oneCell'=J:=by
 obtain⟨_,⟨rfl,_⟩|⟨g',c',cur,rfl,_⟩⟩:=h <;> rfl
theorem U8.down {B B':Nat}{w:World}{v:Value}{L:List (Int×Int)}(h:U8 B w v L)(hb:B'<=B):U8 B' w v L:=by
 obtain⟨a,c,h1,h2|⟨b,h2,h3,h4⟩⟩:=h
 ·exact⟨a,c,h1,.inl h2⟩
 ·exact⟨a,c,h1,.inr ⟨b,h2,Nat.le_trans hb h3,h4⟩⟩
theorem jBC (n:Nat)(hn:n<=1048576):∃cs:Array Value,cs.size=n*23 /\
 ∀w:World,(Instr.makeSlice 22 (O I (n:Int)) (O I (n:Int))).run prog w=.ok (U (H ⟨w.heap.size,0,G⟩) n n) (w.alloc (.cells cs 52)):=by
 obtain⟨i,hi,hz,hs,hb⟩:=j5f;have:=fun w=>run_make (P:=prog) w 22 52 i _ underlying22 hi hz .i64 .i64 n n (by omega) (Int.le_refl _) (by rw[hb];omega) (by omega)
 simp only[Int.toNat_natCast] at this;exact⟨_,by rw[size_madeCells,hs],this⟩
theorem jAv {w:World}{F:Nat->Prop}{g:Nat}{L:List Cc}(h:j6 w F g L)(gL:∀x∈L,Gd x.2){c s:Int}(hc:I64 c)(hs:I64 s){mv:Option Nat}(hb:Blk w g [.map mv] 96):
 ∃a sa b,Lk w g c s mv (a.val sa) b/\NdIn w F sa a.t/\a.v.x<18446744073709551616/\a.t.ok/\a.t.size<=1048576/\cpC a=a/\((b=J/\((c,s),a)∈L)∨(b=R/\a=ct0/\sa=U G 0 0/\∀a',((c,s),a')∉L)):=by
 obtain⟨mv',v,b,q1,q2⟩:=j3M h hc hs;have e:mv'=mv:=by
  have q:=q1.cell.symm.trans hb
  simpa using q
 subst e;rcases q2 with ⟨rfl,ct,sl,h1,rfl,h3⟩|⟨rfl,rfl,h2⟩
 ·have hgd:=gL _ h1;exact⟨ct,sl,J,q1,h3,hgd.x,hgd.ok,hgd.size,hgd.cp,.inl ⟨rfl,h1⟩⟩
 ·refine⟨ct0,U G 0 0,R,q1,j1X w _,by decide,j1Y,by show zNd.size<=_;rw[j42];decide,?_,.inr ⟨rfl,rfl,rfl,h2⟩⟩;unfold cpC ct0;simp only[j2z]
  rfl
structure WiR (w w':World) (F:Nat->Prop) (L:List Cc) (b:Nat) (ys:List (Cc×Value)):Prop where
 low:w.heap.size<=b
 rng:∀i y,ys[i]? = H y->w'.rangeAt b (i*23) (j8 y.1 y.2)
 strict:E9 (ys.map (·.1.1))
 mem:∀x,x∈ys.map (·.1)↔x∈L
 tree:∀y∈ys,NdIn w' F y.2 y.1.2.t
 kp:Kp w w' Nul
theorem U6 {w w':World}{S:Nat->Prop}{b o:Nat}{cs:List Value}(h:w.rangeAt b o cs)(k:Kp w w' S)(hb:¬S b):w'.rangeAt b o cs:=fun j v hj=>by
 have h1:=h j v hj;have e:=k.block b (J7 h1) hb;simp only[World.cell?] at h1 ⊢;rw[e];exact h1
theorem jCj {α:Type}(P:α->List Value)(hP:∀y,(P y).length=23){X W6:World}{b q:Nat}{ys:List α}{y0:α}(hW:X.setCells b (q*23) (P y0)=W6)(hl:ys.length=q)(ht:X.there b (q*23) 23)(h:∀(i:Nat) y,ys[i]? = H y->X.rangeAt b (i*23) (P y)):
 ∀(i:Nat) y,(ys++[y0])[i]? = H y->W6.rangeAt b (i*23) (P y):=fun i y hy=>by
 have hle:=(List.getElem?_eq_some_iff.1 hy).1;rw[List.length_append,List.length_singleton,hl] at hle;subst hW;rcases Nat.lt_or_ge i q with c' | c'
 ·rw[List.getElem?_append_left (by rw[hl];exact c')] at hy;exact World.rangeAt_setCells_apart (h i y hy) _ _ _ (.inr (.inl (by rw[hP];omega)))
 ·have e:i=q:=by omega
  subst e;rw[List.getElem?_append_right (by rw[hl];exact Nat.le_refl _),hl,Nat.sub_self] at hy;have e2:y=y0:=by simpa using hy.symm
  subst e2;exact World.rangeAt_setCells_same _ _ _ _ (by rw[hP];exact ht)
theorem jCn {w:World}{b o:Nat}{cs:List Value}(h:w.rangeAt b o cs)(ob:Obj):(w.alloc ob).drew.rangeAt b o cs:=U6 h (((Kp.refl w Nul).alloc ob).drew) (fun x=>x)
theorem jEA {w W6:World}{b o n o':Nat}{vs:List Value}{ob:Obj}(h:w.there b o n)(hW:(w.alloc ob).drew.setCells b o' vs=W6):W6.there b o n:=by
 subst hW;exact World.there_setCells ((World.there_drew _ _ _ _).2 (World.there_alloc h ob)) _ _ _
end
end Go.Proofs.YtecjfnkakodebaaGreatDoor
