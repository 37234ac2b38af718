/-What copying leaves: validity, sameness. -/
import Derived.Test.YtecjfnkakodebaaGreatDoorQwQu
import Derived.Test.YtecjfnkakodebaaGreatDoorQwEe
import Derived.Test.YtecjfnkakodebaaGreatDoorQwDc
set_option maxRecDepth 20000
set_option maxHeartbeats 8000000
namespace Go.Proofs.YtecjfnkakodebaaGreatDoor
open Go.RowKit
theorem plainX_one (x:Nat):plainX (one x)=plainX x:=by
  by_cases h:9218868437227405312<mag x
  · have h1:one x=9221120237041090560:=by unfold one;rw[if_pos h]
    have hc:cls x=1:=by unfold cls;rw[if_pos h]
    have e1:plainX x=false:=by unfold plainX;rw[hc];rfl
    have e2:plainX 9221120237041090560=false:=by decide +kernel
    rw[h1,e1,e2]
  · have h1:one x=x:=by unfold one;rw[if_neg h]
    rw[h1]
theorem fsame_one1 (x y:Nat):fsame (one x) y=fsame x y:=by unfold fsame;rw[one_self]
theorem one_zero (x:Nat):(((one x:Nat):Int)==0)=((x:Int)==0):=by
  unfold one
  split
  · rename_i h
    have hx:x≠0:=fun e=>by subst e;revert h;decide +kernel
    have h1:((x:Int)==0)=false:=by simpa using hx
    rw[h1];rfl
  · rfl
theorem hsame_one (h g:Hd):hsame { h with x:=one h.x } g=hsame h g:=by
  unfold hsame
  simp only[fsame_one1]
theorem wmJ_one (h:Hd):hsame { h with x:=one h.x } (wmJ { h with x:=one h.x })=hsame h (wmJ h):=by
  rw[hsame_one]
  unfold wmJ
  simp only
  by_cases k1:h.k=1
  · simp only[k1,if_true]
    unfold hsame
    simp only[fsame,one_self]
  · simp only[k1,if_false]
theorem wm_one (h:Hd) (n:Nat):wm { h with x:=one h.x } n=wm h n:=by
  unfold wm
  simp only[wmJ_one,plainX_one]
theorem ownE_one (h:Hd) (n:Nat) (c:Bool):ownE { h with x:=one h.x } n c=ownE h n c:=by
  unfold ownE
  simp only[wm_one]
mutual
theorem fe_cpy:∀(t:Nd) (c:Bool),(cpy t).fe c=t.fe c
  | .mk h ts,c=>by
    rw[cpy,Nd.fe,Nd.fe,cpyL_len,ownE_one,feL_cpy ts]
theorem feL_cpy:∀(ts:List Nd) (c:Bool),feL (cpyL ts) c=feL ts c
  | [],c=>by rw[cpyL]
  | t::ts,c=>by rw[cpyL,feL,feL,fe_cpy t c,feL_cpy ts c]
end
mutual
theorem dep_cpy:∀t:Nd,(cpy t).dep=t.dep
  | .mk h ts=>by rw[cpy,Nd.dep,Nd.dep,depL_cpy ts]
theorem depL_cpy:∀ts:List Nd,depL (cpyL ts)=depL ts
  | []=>by rw[cpyL]
  | t::ts=>by rw[cpyL,depL,depL,dep_cpy t,depL_cpy ts]
end
theorem chk_cpy (t:Nd):chk (cpy t)=chk t:=by unfold chk;rw[cpy_size,dep_cpy,fe_cpy]
mutual
theorem tsame_cpy:∀(t u:Nd),tsame (cpy t) u=tsame t u
  | .mk h ts,.mk g us=>by rw[cpy,tsame,tsame,hsame_one,lsame_cpy ts us]
theorem lsame_cpy:∀(ts us:List Nd),lsame (cpyL ts) us=lsame ts us
  | [],us=>by rw[cpyL]
  | t::ts,[]=>by rw[cpyL,lsame,lsame]
  | t::ts,u::us=>by rw[cpyL,lsame,lsame,tsame_cpy t u,lsame_cpy ts us]
end
theorem bareV_one (v:Vl):bareV { v with x:=one v.x }=bareV v:=by
  unfold bareV
  simp only[one_zero]
theorem zeroV_one (v:Vl):zeroV { v with x:=one v.x }=zeroV v:=by
  unfold zeroV
  rw[bareV_one]
theorem validV_one (v:Vl) (u:Bool):validV { v with x:=one v.x } u=validV v u:=by
  unfold validV
  rw[bareV_one]
theorem gv_cp (c:Ct):gv (cpC c)=gv c:=by
  unfold gv validC cpC
  simp only[zeroV_one,validV_one,chk_cpy,zeroN,tsame_cpy]
mutual
theorem cpy_self:∀t:Nd,cpy (cpy t)=cpy t
  | .mk h ts=>by
    rw[cpy,cpy,cpyL_self ts]
    simp only[one_self]
theorem cpyL_self:∀ts:List Nd,cpyL (cpyL ts)=cpyL ts
  | []=>by rw[cpyL,cpyL]
  | t::ts=>by rw[cpyL,cpyL,cpy_self t,cpyL_self ts]
end
theorem cpC_self (c:Ct):cpC (cpC c)=cpC c:=by
  unfold cpC
  simp only[one_self,cpy_self]
theorem hsame_refl (h:Hd):hsame h h=true:=by
  unfold hsame
  simp[fsame_self]
mutual
theorem tsame_refl:∀t:Nd,tsame t t=true
  | .mk h ts=>by rw[tsame,hsame_refl,lsame_refl ts];rfl
theorem lsame_refl:∀ts:List Nd,lsame ts ts=true
  | []=>by rw[lsame]
  | t::ts=>by rw[lsame,tsame_refl t,lsame_refl ts];rfl
end
theorem csame_refl (a:Ct):csame a a=true:=by
  unfold csame vsame
  simp only[beq_self_eq_true,Bool.true_and,fsame_self,tsame_refl,decide_true]
  repeat' split
  all_goals rfl
structure Gd (c:Ct):Prop where
  val:gv c=true
  k:c.k≠0
  ok:c.t.ok
  x:c.v.x<18446744073709551616
  size:c.t.size<=1048576
  cp:cpC c=c
theorem Gd.of {c:Ct} (hv:gv c=true) (hk:c.k≠0) (ho:c.t.ok) (hx:c.v.x<18446744073709551616) (hs:c.t.size<=1048576):Gd (cpC c):=
  ⟨by rw[gv_cp];exact hv,hk,cpy_ok _ ho,one_lt _ hx,by show (cpy c.t).size<=_;rw[cpy_size];exact hs,cpC_self c⟩
abbrev Ar4:=(Int×Int)×(Int×Int)
abbrev Fate:=Ar4->Option Ar4
def Ar4.ok (a:Ar4):Bool:=vA a.1.1 a.1.2 a.2.1 a.2.2
def nmA (h:Hd):Ar4:=((h.c1,h.r1),if h.k=6 then (h.c2,h.r2) else (h.c1,h.r1))
def ndF:Nd:=.mk { zHd with k:=4,f:=4 } []
def toH (h:Hd) (a:Ar4):Hd:=if h.k=6 then { h with c1:=a.1.1,r1:=a.1.2,c2:=a.2.1,r2:=a.2.2 } else { h with c1:=a.1.1,r1:=a.1.2 }
def nmN (f:Fate) (t:Nd):Nd:=match f (nmA t.hd) with
  | none=>ndF
  | some a=>.mk (toH t.hd a) t.ts
mutual
def alN (f:Fate):Nd->Nd
  | .mk h ts=>if h.k=5∨h.k=6 then nmN f (.mk h ts) else .mk h (alL f ts)
def alL (f:Fate):List Nd->List Nd
  | []=>[]
  | t::ts=>alN f t::alL f ts
end
theorem alL_map (f:Fate):∀ts:List Nd,alL f ts=ts.map (alN f)
  | []=>by rw[alL];rfl
  | t::ts=>by rw[alL,alL_map f ts];rfl
theorem alL_len (f:Fate) (ts:List Nd):(alL f ts).length=ts.length:=by rw[alL_map,List.length_map]
structure FateOk (f:Fate):Prop where
  ok:∀a b,Ar4.ok a=true->f a=some b->Ar4.ok b=true
  cell:∀p b,f (p,p)=some b->b.1=b.2
theorem wm_len {h:Hd} {n:Nat} (hk:h.k=5∨h.k=6) (hw:wm h n=true):n=0:=by
  unfold wm at hw
  rcases hk with e|e <;> simp[e] at hw
  · exact hw.1
  · exact hw.1
theorem wm_to {h:Hd} (hk:h.k=5∨h.k=6) (a:Ar4) (hw:wm h 0=true):wm (toH h a) 0=true:=by
  unfold toH
  rcases hk with e|e
  · rw[if_neg (by omega)]
    unfold wm at hw ⊢
    simp only[e] at hw ⊢
    simp[wmJ,e,hsame] at hw ⊢
    simp[hw]
  · rw[if_pos e]
    unfold wm at hw ⊢
    simp only[e] at hw ⊢
    simp[wmJ,e,hsame] at hw ⊢
    simp[hw]
theorem toH_k (h:Hd) (a:Ar4):(toH h a).k=h.k:=by unfold toH;split <;> rfl
theorem toH_x (h:Hd) (a:Ar4):(toH h a).x=h.x:=by unfold toH;split <;> rfl
theorem ndF_fe (c:Bool):ndF.fe c=0:=by
  unfold ndF
  rw[Nd.fe,feL]
  have:ownE { zHd with k:=4,f:=4 } 0 c=0:=by
    unfold ownE
    have hw:wm { zHd with k:=4,f:=4 } 0=true:=by
      unfold wm
      simp[wmJ,hsame,zHd,fsame_self]
    simp[hw]
  simp[this]
theorem nmN_fe {f:Fate} (hf:FateOk f) {h:Hd} {ts:List Nd} (hk:h.k=5∨h.k=6) {c:Bool} (h0:(Nd.mk h ts).fe c=0):(nmN f (.mk h ts)).fe c=0:=by
  rw[Nd.fe] at h0
  by_cases ho:ownE h ts.length c=0
  rotate_left
  · rw[if_pos ho] at h0;exact absurd h0 ho
  have hw:wm h ts.length=true:=by
    cases q:wm h ts.length with
    | true=>rfl
    | false=>unfold ownE at ho;rw[if_pos q] at ho;omega
  have hl:=wm_len hk hw
  have hts:ts=[]:=List.length_eq_zero_iff.1 hl
  subst hts
  have hv:Ar4.ok (nmA h)=true:=by
    unfold ownE at ho
    rw[if_neg (by rw[hw];decide)] at ho
    unfold Ar4.ok nmA
    rcases hk with e|e
    · rw[if_pos e] at ho
      simp only[if_neg (show ¬h.k=6 by omega)]
      split at ho
      · assumption
      · omega
    · rw[if_neg (show ¬h.k=5 by omega),if_pos e] at ho
      simp only[if_pos e]
      split at ho
      · assumption
      · omega
  unfold nmN
  cases q:f (nmA (Nd.mk h []).hd) with
  | none=>exact ndF_fe c
  | some b=>
    have hb:=hf.ok _ b hv q
    show (Nd.mk (toH h b) []).fe c=0
    rw[Nd.fe,feL]
    have ho':ownE (toH h b) 0 c=0:=by
      unfold ownE
      rw[if_neg (by rw[wm_to hk b hw];decide),toH_k]
      unfold ownE at ho
      rw[if_neg (by rw[hw];decide)] at ho
      rcases hk with e|e
      · rw[if_pos e]
        have hc:b.1=b.2:=by
          have q':f ((h.c1,h.r1),(h.c1,h.r1))=some b:=by
            have:nmA h=((h.c1,h.r1),(h.c1,h.r1)):=by unfold nmA;rw[if_neg (show ¬h.k=6 by omega)]
            rw[<- this];exact q
          exact hf.cell _ _ q'
        unfold Ar4.ok at hb
        rw[<- hc] at hb
        have e1:(toH h b).c1=b.1.1:=by unfold toH;rw[if_neg (show ¬h.k=6 by omega)]
        have e2:(toH h b).r1=b.1.2:=by unfold toH;rw[if_neg (show ¬h.k=6 by omega)]
        rw[e1,e2,if_pos hb]
      · rw[if_neg (show ¬h.k=5 by omega),if_pos e]
        rw[if_neg (show ¬h.k=5 by omega),if_pos e] at ho
        unfold Ar4.ok at hb
        have e1:(toH h b).c1=b.1.1:=by unfold toH;rw[if_pos e]
        have e2:(toH h b).r1=b.1.2:=by unfold toH;rw[if_pos e]
        have e3:(toH h b).c2=b.2.1:=by unfold toH;rw[if_pos e]
        have e4:(toH h b).r2=b.2.2:=by unfold toH;rw[if_pos e]
        rw[e1,e2,e3,e4,if_pos hb]
        split at ho
        · exact ho
        · omega
    rw[List.length_nil,if_neg (by rw[ho'];decide)]
mutual
theorem alN_fe {f:Fate} (hf:FateOk f):∀(t:Nd) (c:Bool),t.fe c=0->(alN f t).fe c=0
  | .mk h ts,c,h0=>by
    rw[alN]
    by_cases hk:h.k=5∨h.k=6
    · rw[if_pos hk];exact nmN_fe hf hk h0
    · rw[if_neg hk]
      rw[Nd.fe] at h0 ⊢
      rw[alL_len]
      by_cases ho:ownE h ts.length c=0
      · rw[if_neg (by rw[ho];decide)] at h0 ⊢
        exact alL_fe hf ts _ h0
      · rw[if_pos ho] at h0;exact absurd h0 ho
theorem alL_fe {f:Fate} (hf:FateOk f):∀(ts:List Nd) (c:Bool),feL ts c=0->feL (alL f ts) c=0
  | [],c,_=>by rw[alL,feL]
  | t::ts,c,h0=>by
    rw[feL] at h0
    rw[alL,feL]
    by_cases ht:t.fe c=0
    · rw[if_neg (by rw[ht];decide)] at h0
      rw[if_neg (by rw[alN_fe hf t c ht];decide)]
      exact alL_fe hf ts c h0
    · rw[if_pos ht] at h0;exact absurd h0 ht
end
theorem nmN_size (f:Fate) (t:Nd):(nmN f t).size<=t.size:=by
  unfold nmN
  split
  · have:=size_pos t
    show ndF.size<=_
    unfold ndF
    rw[Nd.size,sizeL];omega
  · rw[Nd.size]
    conv=>rhs;rw[Nd.eta t,Nd.size]
    exact Nat.le_refl _
mutual
theorem alN_size (f:Fate):∀t:Nd,(alN f t).size<=t.size
  | .mk h ts=>by
    rw[alN]
    split
    · exact nmN_size f _
    · rw[Nd.size,Nd.size];have:=alL_size f ts;omega
theorem alL_size (f:Fate):∀ts:List Nd,sizeL (alL f ts)<=sizeL ts
  | []=>by rw[alL];exact Nat.le_refl _
  | t::ts=>by rw[alL,sizeL,sizeL];have:=alN_size f t;have:=alL_size f ts;omega
end
theorem nmN_dep (f:Fate) (t:Nd):(nmN f t).dep<=t.dep:=by
  unfold nmN
  split
  · show ndF.dep<=_
    unfold ndF
    rw[Nd.dep,depL]
    cases t with
    | mk h ts=>rw[Nd.dep];omega
  · rw[Nd.dep]
    conv=>rhs;rw[Nd.eta t,Nd.dep]
    exact Nat.le_refl _
mutual
theorem alN_dep (f:Fate):∀t:Nd,(alN f t).dep<=t.dep
  | .mk h ts=>by
    rw[alN]
    split
    · exact nmN_dep f _
    · rw[Nd.dep,Nd.dep];have:=alL_dep f ts;omega
theorem alL_dep (f:Fate):∀ts:List Nd,depL (alL f ts)<=depL ts
  | []=>by rw[alL];exact Nat.le_refl _
  | t::ts=>by rw[alL,depL,depL];have:=alN_dep f t;have:=alL_dep f ts;omega
end
theorem alN_chk {f:Fate} (hf:FateOk f) {t:Nd} (h:chk t=0):chk (alN f t)=0:=by
  unfold chk at h ⊢
  have h1:=alN_size f t
  have h2:=alN_dep f t
  by_cases a1:256<t.size
  · rw[if_pos a1] at h;omega
  · rw[if_neg a1] at h
    by_cases a2:32<t.dep
    · rw[if_pos a2] at h;omega
    · rw[if_neg a2] at h
      rw[if_neg (by omega),if_neg (by omega)]
      exact alN_fe hf t false h
theorem nmN_ok (f:Fate) {t:Nd} (h:t.ok):(nmN f t).ok:=by
  unfold nmN
  split
  · unfold ndF;rw[Nd.ok,okL];exact⟨by show (0:Nat)<_;decide,trivial⟩
  · rw[Nd.ok,toH_x]
    rw[Nd.eta t,Nd.ok] at h
    exact h
mutual
theorem alN_ok (f:Fate):∀t:Nd,t.ok->(alN f t).ok
  | .mk h ts,hk=>by
    rw[alN]
    split
    · exact nmN_ok f hk
    · rw[Nd.ok] at hk ⊢;exact⟨hk.1,alL_ok f ts hk.2⟩
theorem alL_ok (f:Fate):∀ts:List Nd,okL ts->okL (alL f ts)
  | [],_=>by rw[alL,okL];trivial
  | t::ts,h=>by rw[okL] at h;rw[alL,okL];exact⟨alN_ok f t h.1,alL_ok f ts h.2⟩
end
theorem ndF_cpy:cpy ndF=ndF:=by
  unfold ndF
  rw[cpy,cpyL]
  have:one 0=0:=by decide
  simp[zHd,this]
theorem toH_one (h:Hd) (a:Ar4) (e:one h.x=h.x):{ toH h a with x:=one (toH h a).x }=toH h a:=by
  rw[toH_x,e]
  unfold toH
  split <;> rfl
mutual
theorem alN_cpy (f:Fate):∀t:Nd,cpy t=t->cpy (alN f t)=alN f t
  | .mk h ts,e=>by
    rw[cpy] at e
    have e1:{ h with x:=one h.x }=h:=(Nd.mk.injEq .. ▸ e).1
    have e2:cpyL ts=ts:=(Nd.mk.injEq .. ▸ e).2
    have e3:one h.x=h.x:=congrArg Hd.x e1
    rw[alN]
    split
    · unfold nmN
      split
      · exact ndF_cpy
      · rw[cpy]
        show Nd.mk { toH h _ with x:=one (toH h _).x } (cpyL ts)=_
        rw[toH_one h _ e3,e2]
        rfl
    · rw[cpy,e1,alL_cpy f ts e2]
theorem alL_cpy (f:Fate):∀ts:List Nd,cpyL ts=ts->cpyL (alL f ts)=alL f ts
  | [],_=>by rw[alL,cpyL]
  | t::ts,e=>by
    rw[cpyL] at e
    rw[alL,cpyL,alN_cpy f t (List.cons.inj e).1,alL_cpy f ts (List.cons.inj e).2]
end
def alC (f:Fate) (c:Ct):Ct:=⟨c.k,c.v,alN f c.t⟩
theorem zeroN_k {t:Nd} (h:zeroN t=true):t.hd.k=0/\t.ts=[]:=by
  cases t with
  | mk h' ts=>
    unfold zeroN zNd at h
    rw[tsame] at h
    simp only[Bool.and_eq_true] at h
    constructor
    · have:=h.1
      unfold hsame at this
      simp[zHd] at this
      exact this.1.1.1.1.1.1.1
    · cases ts with
      | nil=>rfl
      | cons _ _=>simp[lsame] at h
theorem alN_zero (f:Fate) {t:Nd} (h:zeroN t=true):alN f t=t:=by
  obtain⟨h1,h2⟩:=zeroN_k h
  cases t with
  | mk h' ts=>
    have e1:h'.k=0:=h1
    have e2:ts=[]:=h2
    subst e2
    rw[alN,if_neg (by omega),alL]
theorem alC_plain (f:Fate) {c:Ct} (h:gv c=true) (hk:c.k≠2):alC f c=c:=by
  have hz:zeroN c.t=true:=by
    unfold gv validC at h
    simp[hk] at h
    rcases h with h|h
    · exact h.2.2
    · exact h.2.2
  unfold alC
  rw[alN_zero f hz]
theorem alC_gv {f:Fate} (hf:FateOk f) {c:Ct} (h:gv c=true):gv (alC f c)=true:=by
  by_cases hk:c.k=2
  · unfold gv validC at h ⊢
    simp[alC,hk] at h ⊢
    exact⟨h.1,alN_chk hf h.2⟩
  · rw[alC_plain f h hk];exact h
theorem alC_gd {f:Fate} (hf:FateOk f) {c:Ct} (h:Gd c):Gd (alC f c):=by
  refine⟨alC_gv hf h.val,h.k,alN_ok f _ h.ok,h.x,Nat.le_trans (alN_size f _) h.size,?_⟩
  have hc:=h.cp
  unfold cpC at hc
  have e1:=congrArg Ct.v hc
  have e2:=congrArg Ct.t hc
  unfold cpC
  show (⟨c.k,{ c.v with x:=one c.v.x },cpy (alN f c.t)⟩:Ct)=⟨c.k,c.v,alN f c.t⟩
  rw[alN_cpy f _ e2]
  exact congrArg (fun v=>(⟨c.k,v,alN f c.t⟩:Ct)) e1
def brL (f:Fate) (L:List Cc):List Cc:=L.filterMap fun x=>(f (x.1,x.1)).map fun b=>(b.1,alC f x.2)
def lnF (cols:Bool) (at' n:Int):Fate:=fun a=>
  match thr (if cols then at' else 1) (if cols then n else 0) 256 a.1.1 a.2.1,thr (if cols then 1 else at') (if cols then 0 else n) 4096 a.1.2 a.2.2 with
  | some x,some y=>some ((x.1,y.1),(x.2,y.2))
  | _,_=>none
theorem lnF_some {cols:Bool} {at' n:Int} {a b:Ar4} (e:lnF cols at' n a=some b):∃x y,thr (if cols then at' else 1) (if cols then n else 0) 256 a.1.1 a.2.1=some x/\thr (if cols then 1 else at') (if cols then 0 else n) 4096 a.1.2 a.2.2=some y/\b=((x.1,y.1),(x.2,y.2)):=by
  unfold lnF at e
  split at e
  · rename_i x y h1 h2
    injection e with e
    exact⟨x,y,h1,h2,e.symm⟩
  · cases e
def lnOk (cols:Bool) (at' n:Int):Prop:=LnOk at' n (if cols then 256 else 4096)
theorem lnOk_two {cols:Bool} {at' n:Int} (h:lnOk cols at' n):LnOk (if cols then at' else 1) (if cols then n else 0) 256/\LnOk (if cols then 1 else at') (if cols then 0 else n) 4096:=by
  unfold lnOk at h
  cases cols
  · exact⟨⟨by simp,by simp,by simp,by simp⟩,h⟩
  · exact⟨h,⟨by simp,by simp,by simp,by simp⟩⟩
theorem ar_ok (a:Ar4):Ar4.ok a=true↔1<=a.1.1/\a.1.1<=a.2.1/\a.2.1<=256/\1<=a.1.2/\a.1.2<=a.2.2/\a.2.2<=4096:=by
  unfold Ar4.ok vA vC
  simp only[Bool.and_eq_true,decide_eq_true_eq]
  omega
theorem lnF_ok {cols:Bool} {at' n:Int} (h:lnOk cols at' n):FateOk (lnF cols at' n):=by
  obtain⟨h1,h2⟩:=lnOk_two h
  refine⟨fun a b ha e=>?_,fun p b e=>?_⟩
  · obtain⟨x,y,e1,e2,rfl⟩:=lnF_some e
    rw[ar_ok] at ha ⊢
    have q1:=thr_ok h1 ha.1 ha.2.1 ha.2.2.1 e1
    have q2:=thr_ok h2 ha.2.2.2.1 ha.2.2.2.2.1 ha.2.2.2.2.2 e2
    exact⟨q1.1,q1.2.1,q1.2.2,q2.1,q2.2.1,q2.2.2⟩
  · obtain⟨x,y,e1,e2,rfl⟩:=lnF_some e
    have q1:=(thr_cell e1).1
    have q2:=(thr_cell e2).1
    simp only[q1,q2]
def FateInj (f:Fate):Prop:=∀p q b b',vC p.1 p.2=true->vC q.1 q.2=true->p≠q->f (p,p)=some b->f (q,q)=some b'->b.1≠b'.1
theorem lnF_inj (cols:Bool) (at' n:Int):FateInj (lnF cols at' n):=by
  intro p q b b' hp hq hne e e' heq
  rw[vC_iff] at hp hq
  obtain⟨x,y,e1,e2,rfl⟩:=lnF_some e
  obtain⟨x',y',e1',e2',rfl⟩:=lnF_some e'
  have q1:x.1=x'.1:=(Prod.mk.inj heq).1
  have q2:y.1=y'.1:=(Prod.mk.inj heq).2
  by_cases hc:p.1=q.1
  · have hr:p.2≠q.2:=fun e=>hne (Prod.ext hc e)
    exact thr_inj hp.2.2.1 hq.2.2.1 hr e2 e2' q2
  · exact thr_inj hp.1 hq.1 hc e1 e1' q1
theorem fate_vC {f:Fate} (hf:FateOk f) {p:Int×Int} {b:Ar4} (hp:vC p.1 p.2=true) (e:f (p,p)=some b):vC b.1.1 b.1.2=true:=by
  have hb:=hf.ok (p,p) b (by
    rw[ar_ok];rw[vC_iff] at hp
    exact⟨hp.1,Int.le_refl _,hp.2.1,hp.2.2.1,Int.le_refl _,hp.2.2.2⟩) e
  rw[ar_ok] at hb
  rw[vC_iff]
  omega
theorem brL_mem {f:Fate} {L:List Cc} {y:Cc}:y∈brL f L↔∃x∈L,∃b,f (x.1,x.1)=some b/\y=(b.1,alC f x.2):=by
  unfold brL
  rw[List.mem_filterMap]
  constructor
  · rintro⟨x,hx,h⟩
    rw[Option.map_eq_some_iff] at h
    obtain⟨b,h1,h2⟩:=h
    exact⟨x,hx,b,h1,h2.symm⟩
  · rintro⟨x,hx,b,h1,rfl⟩
    exact⟨x,hx,by rw[h1];rfl⟩
end Go.Proofs.YtecjfnkakodebaaGreatDoor
namespace Go.Proofs.YtecjfnkakodebaaGreatDoor
open Go.RowKit Go.Shelf
attribute [local go_sem] Oper.semAt_some
section
variable {n:Nat} {P:Program} {α:Type} {g:Operand} {ps:Array Tmp} {assign body:Code} {Q:Exit->Act->World->Prop} {a:Act} {w:World}
end
end Go.Proofs.YtecjfnkakodebaaGreatDoor
namespace Go.Proofs.YtecjfnkakodebaaGreatDoor
open Go.RowKit Go.Shelf
attribute [local go_sem] Oper.semAt_some
section
variable {n:Nat} {P:Program} {α:Type} {g:Operand} {ps:Array Tmp} {assign body:Code} {Q:Exit->Act->World->Prop} {a:Act} {w:World}
end
end Go.Proofs.YtecjfnkakodebaaGreatDoor
namespace Go.Proofs.YtecjfnkakodebaaGreatDoor
open Go.RowKit
mutual
theorem NdOwn.node {w:World} {sl:Value}:∀ {t:Nd} {fp:List Nat},NdOwn w sl t fp->∀b∈fp,∃cs:Array Value,w.heap[b]? = some (.cells cs 48 (0,0))
  | .mk _ ts,fp,h,b,hb=>by
    rw[NdOwn] at h
    rcases h with ⟨_,_,rfl⟩|⟨b',c,fps,cs,_,_,_,_,h5,_,rfl,h8⟩
    · simp at hb
    · rcases List.mem_cons.1 hb with rfl|hb
      · exact⟨cs,h5⟩
      · exact NdsOwn.node h8 b hb
theorem NdsOwn.node {w:World} {b':Nat}:∀ {ts:List Nd} {o:Nat} {fp:List Nat},NdsOwn w b' o ts fp->∀b∈fp,∃cs:Array Value,w.heap[b]? = some (.cells cs 48 (0,0))
  | [],_,fp,h,b,hb=>by rw[NdsOwn] at h;subst h;simp at hb
  | t::ts,o,fp,h,b,hb=>by
    rw[NdsOwn] at h
    obtain⟨sl,f1,f2,_,h2,rfl,h4⟩:=h
    rcases List.mem_append.1 hb with hb|hb
    · exact NdOwn.node h2 b hb
    · exact NdsOwn.node h4 b hb
end
theorem node_lt {w:World} {b:Nat} (h:∃cs:Array Value,w.heap[b]? = some (.cells cs 48 (0,0))):b<w.heap.size:=by
  obtain⟨cs,h⟩:=h
  exact(Array.getElem?_eq_some_iff.1 h).1
structure AlAt (f:Fate) (w wr:World) (b c k:Nat) (ts:List Nd) (fps fa fb:List Nat):Prop where
  kp:Kp w wr (fun i=>i∈b::fps)
  row:∃cs:Array Value,wr.heap[b]? = some (.cells cs 48 (0,0))/\cs.size=c*15
  done:NdsOwn wr b 0 (alL f (ts.take k)) fa
  rest:NdsOwn wr b (k*15) (ts.drop k) fb
  sub:∃fA,fps=fA++fb/\fa.Sublist fA
theorem AlAt.start {f:Fate} {w:World} {b c:Nat} {ts:List Nd} {fps:List Nat} {cs:Array Value} (h1:w.heap[b]? = some (.cells cs 48 (0,0))) (h2:cs.size=c*15) (h:NdsOwn w b 0 ts fps):AlAt f w w b c 0 ts fps [] fps:=
  ⟨Kp.refl _ _,⟨cs,h1,h2⟩,by rw[List.take_zero,alL,NdsOwn],by simpa using h,[],rfl,List.Sublist.refl _⟩
theorem AlAt.nul {f:Fate} {w wr w':World} {b c k:Nat} {ts:List Nd} {fps fa fb:List Nat} (h:AlAt f w wr b c k ts fps fa fb) (g:Kp wr w' Nul):AlAt f w w' b c k ts fps fa fb:=by
  have hb:w'.heap[b]? = wr.heap[b]?:=by
    obtain⟨cs,h1,_⟩:=h.row
    exact g.block b (Array.getElem?_eq_some_iff.1 h1).1 (fun x=>x)
  refine⟨h.kp.trans (g.mono (fun _ _ x=>x.elim)),?_,?_,?_,h.sub⟩
  · obtain⟨cs,h1,h2⟩:=h.row
    exact⟨cs,hb.trans h1,h2⟩
  · exact h.done.mono (fun o' cs' _ _ hr=>rangeAt_block hr hb) (fun i hi=>g.block i (node_lt (h.done.node i hi)) (fun x=>x))
  · exact h.rest.mono (fun o' cs' _ _ hr=>rangeAt_block hr hb) (fun i hi=>g.block i (node_lt (h.rest.node i hi)) (fun x=>x))
theorem AlAt.next {f:Fate} {w wr:World} {b c k:Nat} {ts:List Nd} {fps fa fb:List Nat} (h:AlAt f w wr b c k ts fps fa fb) (hk:k<ts.length):∃sl f1 f2,wr.rangeAt b (k*15) ((ts[k]).hd.cells sl)/\NdOwn wr sl ts[k] f1/\fb=f1++f2/\NdsOwn wr b ((k+1)*15) (ts.drop (k+1)) f2:=by
  have h1:=h.rest
  rw[List.drop_eq_getElem_cons hk,NdsOwn] at h1
  obtain⟨sl,f1,f2,h2,h3,h4,h5⟩:=h1
  exact⟨sl,f1,f2,h2,h3,h4,by rw[show (k+1)*15=k*15+15 by omega];exact h5⟩
theorem AlAt.step {f:Fate} {w wr w1:World} {b c k:Nat} {ts:List Nd} {fps fa fb f1 f2 f1':List Nat} (h:AlAt f w wr b c k ts fps fa fb) (hk:k<ts.length) (hc:ts.length<=c) (hn:(b::fps).Nodup) (hfb:fb=f1++f2) (hrest:NdsOwn wr b ((k+1)*15) (ts.drop (k+1)) f2)
    {sl':Value} (g:Kp wr w1 (fun i=>i∈f1)) (hu:NdOwn w1 sl' (alN f ts[k]) f1') (hs:f1'.Sublist f1) :
    AlAt f w (w1.setCells b (k*15) ((alN f ts[k]).hd.cells sl')) b c (k+1) ts fps (fa++f1') f2:=by
  obtain⟨fA,e1,e2⟩:=h.sub
  obtain⟨cs,r1,r2⟩:=h.row
  have hblt:=(Array.getElem?_eq_some_iff.1 r1).1
  rw[List.nodup_cons] at hn
  obtain⟨hb0,hn⟩:=hn
  rw[e1,hfb] at hn hb0
  have hbA:b∉fA:=fun q=>hb0 (List.mem_append_left _ q)
  have hb1:b∉f1:=fun q=>hb0 (List.mem_append_right _ (List.mem_append_left _ q))
  have hb2:b∉f2:=fun q=>hb0 (List.mem_append_right _ (List.mem_append_right _ q))
  rw[List.nodup_append] at hn
  obtain⟨_,hn2,hn3⟩:=hn
  rw[List.nodup_append] at hn2
  have d1:∀i∈fa,i∉f1:=fun i hi q=>hn3 i (e2.subset hi) i (List.mem_append_left _ q) rfl
  have d2:∀i∈f2,i∉f1:=fun i hi q=>hn2.2.2 i q i hi rfl
  have hA:w1.heap[b]? = some (.cells cs 48 (0,0)):=(g.block b hblt hb1).trans r1
  have hth:w1.there b (k*15) 15:=there_of_block hA _ _ (by omega)
  have hne:∀i,i≠b->(w1.setCells b (k*15) ((alN f ts[k]).hd.cells sl')).heap[i]? = w1.heap[i]?:=fun i hi=>heap_setCells_ne hi _ _ _
  refine⟨?_,?_,?_,?_,?_⟩
  · refine(h.kp.trans (g.mono (fun i _ q=>?_))).trans (setCells_kp _ (by show b∈b::fps;exact List.mem_cons_self) _ _ _)
    show i∈b::fps
    rw[e1,hfb]
    exact List.mem_cons_of_mem _ (List.mem_append_right _ (List.mem_append_left _ q))
  · exact⟨_,heap_setCells_at _ _ _ _ hA,by rw[setAll_size,r2]⟩
  · have o1:NdsOwn w1 b 0 (alL f (ts.take k)) fa:=h.done.mono (fun o' cs' _ _ hr=>rangeAt_block hr (hA.trans r1.symm)) (fun i hi=>g.block i (node_lt (h.done.node i hi)) (d1 i hi))
    have hl:(alL f (ts.take k)).length=k:=by rw[alL_len,List.length_take];omega
    have o2:NdsOwn (w1.setCells b (k*15) ((alN f ts[k]).hd.cells sl')) b 0 (alL f (ts.take k)) fa:=by
      refine o1.mono (fun o' cs' _ q hr=>?_) (fun i hi=>hne i (fun e=>hbA (e ▸ e2.subset hi)))
      exact World.rangeAt_setCells_apart hr _ _ _ (.inr (.inl (by rw[hl] at q;omega)))
    have e:alL f (ts.take (k+1))=alL f (ts.take k)++[alN f ts[k]]:=by
      rw[alL_map,alL_map,List.take_add_one,List.getElem?_eq_getElem hk,List.map_append];rfl
    rw[e]
    refine NdsOwn.snoc (sl:=sl') (hu.mono (fun i hi=>hne i (fun e=>hb1 (e ▸ hs.subset hi)))) o2 ?_
    rw[hl,Nat.zero_add]
    exact World.rangeAt_setCells_same _ _ _ _ (by simpa using hth)
  · have o1:NdsOwn w1 b ((k+1)*15) (ts.drop (k+1)) f2:=hrest.mono (fun o' cs' _ _ hr=>rangeAt_block hr (hA.trans r1.symm)) (fun i hi=>g.block i (node_lt (hrest.node i hi)) (d2 i hi))
    refine o1.mono (fun o' cs' q _ hr=>?_) (fun i hi=>hne i (fun e=>hb2 (e ▸ hi)))
    exact World.rangeAt_setCells_apart hr _ _ _ (.inr (.inr (by simp;omega)))
  · exact⟨fA++f1,by rw[e1,hfb,List.append_assoc],e2.append hs⟩
theorem AlAt.fin {f:Fate} {w wr:World} {b c:Nat} {ts:List Nd} {fps fa fb:List Nat} (h:AlAt f w wr b c ts.length ts fps fa fb) (hne:ts≠[]) (hc:ts.length<=c) (hm:c<=maxLen) (hd:Hd):NdOwn wr (.slice (some ⟨b,0,none⟩) ts.length c) (.mk hd (alL f ts)) (b::fa)/\(b::fa).Sublist (b::fps):=by
  obtain⟨cs,h1,h2⟩:=h.row
  have hd':=h.done
  rw[List.take_length] at hd'
  obtain⟨fA,e1,e2⟩:=h.sub
  constructor
  · rw[NdOwn]
    refine .inr ⟨b,c,fa,cs,by rw[alL_len],?_,by rw[alL_len];exact hc,hm,h1,h2,rfl,hd'⟩
    intro e
    have:=alL_len f ts
    rw[e] at this
    exact hne (List.length_eq_zero_iff.1 this.symm)
  · rw[e1]
    exact(e2.trans (List.sublist_append_left _ _)).cons_cons _
abbrev ptCells (x:Cc) (sl:Value):List Value:=.int .i64 x.1.1 :: .int .i64 x.1.2::x.2.cells sl
theorem pt_len (x:Cc) (sl:Value):(ptCells x sl).length=23:=rfl
theorem infoPut:(Tryz.prog.info? 52).map (·.size)=some 23:=by kernel_rfl
theorem infoPutI:∃i,Tryz.prog.info? 52=some i/\i.zero=some (.agg (.int .i64 0 :: .int .i64 0::zC21).toArray)/\i.size=23/\i.bytes=200:=by
  have h:(Tryz.prog.info? 52).map (fun i=>(i.zero,i.size,i.bytes))=some (some (.agg (.int .i64 0 :: .int .i64 0::zC21).toArray),23,200):=by kernel_rfl
  cases e:Tryz.prog.info? 52 with
  | none=>rw[e] at h;cases h
  | some i=>
    rw[e] at h
    simp only[Option.map_some,Option.some.injEq,Prod.mk.injEq] at h
    exact⟨i,rfl,h⟩
theorem pt_one (x:Cc) {sl:Value} (hs:sl.oneCell'=true):∀u∈ptCells x sl,u.oneCell'=true:=by
  intro u hu
  have:=x.2.one hs
  rw[Array.all_eq_true'] at this
  rcases List.mem_cons.1 hu with rfl|hu
  · rfl
  · rcases List.mem_cons.1 hu with rfl|hu
    · rfl
    · exact this u (by simpa using hu)
end Go.Proofs.YtecjfnkakodebaaGreatDoor
namespace Go.Proofs.YtecjfnkakodebaaGreatDoor
open Go.RowKit Go.Maps
theorem get_own (g:Nat) (c r:Int) (mv:Option Nat) (V:Value) (bb:Bool) (u:Ct) (w:World) (hlk:Lk w g c r mv V bb)
    (hcp:∀wq,Kp w wq Nul->Calls Tryz.prog 47 #[V] wq fun e w'=>∃sl' fp,e=.returned (u.val sl')/\Own w' wq.heap.size sl' u.t fp/\Kp wq w' Nul) :
    Calls Tryz.prog 19 #[.pointer (some ⟨g,0,none⟩),.agg #[.int .i64 c,.int .i64 r]] w fun e w'=>∃sl' fp,e=.returned (u.val sl')/\Own w' w.heap.size sl' u.t fp/\Kp w w' Nul:=by
  obtain⟨W1,hW1⟩:∃W1,(w.alloc (.cells #[.int .i64 c,.int .i64 r] 32)).alloc (.cells #[.int .i64 0,.int .i64 0,.float .f64 0,.string ⟨#[]⟩,.bool false,.int .i64 0,.int .i64 0,.int .i64 0,.float .f64 0,.string ⟨#[]⟩,.bool false,.int .i64 0,.int .i64 0,.int .i64 0,.bool false,.bool false,.int .i64 0,.int .i64 0,.bool false,.bool false,.slice none 0 0] 50)=W1:=⟨_,rfl⟩
  have k1:Kp w W1 Nul:=by rw[<- hW1];exact((Kp.refl w Nul).alloc _).alloc _
  have hA1:Blk W1 w.heap.size [.int .i64 c,.int .i64 r] 32:=by rw[<- hW1];exact(Blk.new w [.int .i64 c,.int .i64 r] _).alloc _
  have hZ1:Blk W1 (w.heap.size+1) [.int .i64 0,.int .i64 0,.float .f64 0,.string ⟨#[]⟩,.bool false,.int .i64 0,.int .i64 0,.int .i64 0,.float .f64 0,.string ⟨#[]⟩,.bool false,.int .i64 0,.int .i64 0,.int .i64 0,.bool false,.bool false,.int .i64 0,.int .i64 0,.bool false,.bool false,.slice none 0 0] 50:=by
    have:=Blk.new (w.alloc (.cells #[.int .i64 c,.int .i64 r] 32)) [.int .i64 0,.int .i64 0,.float .f64 0,.string ⟨#[]⟩,.bool false,.int .i64 0,.int .i64 0,.int .i64 0,.float .f64 0,.string ⟨#[]⟩,.bool false,.int .i64 0,.int .i64 0,.int .i64 0,.bool false,.bool false,.int .i64 0,.int .i64 0,.bool false,.bool false,.slice none 0 0] 50
    rw[World.size_alloc] at this
    rw[<- hW1];exact this
  have hglt:g<w.heap.size:=(Array.getElem?_eq_some_iff.1 hlk.cell).1
  have hg1:Blk W1 g [.map mv] 96:=(k1.block g hglt (fun x=>x)).trans hlk.cell
  have HS:Hid (∀wq,Kp W1 wq (fun i=>i=w.heap.size+1)->(wq.cell? ⟨w.heap.size,0,none⟩=some (.int .i64 c)/\wq.cell? ⟨w.heap.size,1,none⟩=some (.int .i64 r)/\wq.cell? ⟨g,0,none⟩=some (.map mv)/\(Instr.lookup 94 (.map mv) (.agg #[.int .i64 c,.int .i64 r]) false).run Tryz.prog wq=.ok V wq)):=fun wq k=>⟨(hA1.kp k (by show ¬w.heap.size=w.heap.size+1;omega)).cell rfl,(hA1.kp k (by show ¬w.heap.size=w.heap.size+1;omega)).cell rfl,(hg1.kp k (by show ¬g=w.heap.size+1;omega)).cell rfl,hlk.one wq (fun m hm=>by
    have h2:=(hlk.ne m hm).2
    have h3:=k1.size
    exact(k.block m (by omega) (by show ¬m=w.heap.size+1;omega)).trans (k1.block m h2 (fun x=>x)))⟩
  have HCp:Hid (∀wq,Kp W1 wq Nul->Calls Tryz.prog 47 #[V] wq fun e w'=>∃sl' fp,e=.returned (u.val sl')/\Own w' wq.heap.size sl' u.t fp/\Kp wq w' Nul):=fun wq k=>hcp wq (k1.trans k)
  have HZ:Hid (Blk W1 (w.heap.size+1) [.int .i64 0,.int .i64 0,.float .f64 0,.string ⟨#[]⟩,.bool false,.int .i64 0,.int .i64 0,.int .i64 0,.float .f64 0,.string ⟨#[]⟩,.bool false,.int .i64 0,.int .i64 0,.int .i64 0,.bool false,.bool false,.int .i64 0,.int .i64 0,.bool false,.bool false,.slice none 0 0] 50):=hZ1
  have HW1:Hid ((w.alloc (.cells #[.int .i64 c,.int .i64 r] 32)).alloc (.cells #[.int .i64 0,.int .i64 0,.float .f64 0,.string ⟨#[]⟩,.bool false,.int .i64 0,.int .i64 0,.int .i64 0,.float .f64 0,.string ⟨#[]⟩,.bool false,.int .i64 0,.int .i64 0,.int .i64 0,.bool false,.bool false,.int .i64 0,.int .i64 0,.bool false,.bool false,.slice none 0 0] 50)=W1):=hW1
  have HK1:Hid (Kp w W1 Nul):=k1
  clear hW1 k1 hA1 hZ1 hg1 hlk hcp hglt
  go_enter Tryz.func19,Tryz.ntmps19
  go_wp2_with fail
  rw[HW1.out]
  clear HW1
  refine wp_region_noPanic ?_
  refine wp_region_hel (fun w':World=>Kp W1 w' (fun i=>i=w.heap.size+1)) (by kernel_rfl) ((Kp.refl W1 _).drew) (fun hHeld=>?_)
  have tok0:True:=trivial
  have tok1:True:=trivial
  have tok2:True:=trivial
  have tok3:True:=trivial
  have tok4:True:=trivial
  have tok5:True:=trivial
  iterate 6 ((first|(clear tok0;refine wpH_takes (i:=0) (v:=?_) (some 8) rfl rfl (by kernel_rfl) (fun _ _ _ h=>h) (Or.inl ⟨by rfl,?_⟩) hHeld ?_)|(clear tok1;refine wpH_takes (i:=1) (v:=?_) (some 9) rfl rfl (by kernel_rfl) (fun _ _ _ h=>h) (Or.inl ⟨by rfl,?_⟩) hHeld ?_)|(clear tok2;refine wpH_takes (i:=2) (v:=?_) (some 10) rfl rfl (by kernel_rfl) (fun _ _ _ h=>h) (Or.inl ⟨by rfl,?_⟩) hHeld ?_)|(clear tok3;refine wpH_takes (i:=3) (v:=?_) (some 11) rfl rfl (by kernel_rfl) (fun _ _ _ h=>h) (Or.inl ⟨by rfl,?_⟩) hHeld ?_)|(clear tok4;refine wpH_takes (i:=4) (v:=?_) (some 12) rfl rfl (by kernel_rfl) (fun _ _ _ h=>h) (Or.inl ⟨by rfl,?_⟩) hHeld ?_)|(clear tok5;refine wpH_takes (i:=5) (v:=?_) (some 13) rfl rfl (by kernel_rfl) (fun _ _ _ h=>h) (Or.inl ⟨by rfl,?_⟩) hHeld ?_));rotate_left;(· intro w hSw;obtain⟨s0,s1,s2,s3⟩:=HS.out _ hSw;clear hSw;go_simp;try with_reducible rfl);simp only[Act.put,Sz0,Sz1,Sz2])
  refine wpH_step (i:=6) (by kernel_rfl) rfl rfl (fun K hK=>?_)
  go_simp
  refine(HCp.out _ (Kp.refl W1 Nul).drew).mono ?_
  rintro e w4 ⟨sl',fp,rfl,hown,hk4⟩
  have hk14:Kp W1 w4 Nul:=(Kp.refl W1 Nul).drew.trans hk4
  have hone:=hown.own.one
  refine hK.out _ _ hk14.of_nul (fun hHeld2=>?_)
  clear hK K hk4
  have hZ4:=HZ.out.kp hk14 (fun x=>x)
  refine wpH_step (i:=7) (by kernel_rfl) rfl rfl (fun K hK=>?_)
  refine wp_store_mid 50 (.tmp 4) (.tmp 14) rfl (w.heap.size+1) 0 (u.cells sl').toArray rfl rfl (there_of_block hZ4 _ _ (by simp)) infoContent (u.one hone) ?_
  obtain⟨W5,hW5⟩:∃W5,w4.setCells (w.heap.size+1) 0 (u.cells sl')=W5:=⟨_,rfl⟩
  have k45:Kp w4 W5 (fun i=>i=w.heap.size+1):=by rw[<- hW5];exact setCells_kp (fun i=>i=w.heap.size+1) rfl _ _ _
  have hB5:W5.heap[w.heap.size+1]? = some (.cells (u.cells sl').toArray 50 (0,0)):=by
    rw[<- hW5]
    exact heap_setCells_whole (cs:=(u.cells sl').toArray) hZ4 rfl
  show K _ (w4.setCells (w.heap.size+1) 0 (u.cells sl'))
  rw[hW5]
  refine hK.out _ _ (hk14.of_nul.trans k45) (fun _=>?_)
  have HOW:Hid (Own W5 w.heap.size sl' u.t fp):=by
    have hz:w.heap.size+1<W1.heap.size:=HZ.out.lt
    have hnew:∀b∈fp,w.heap.size+1<b/\b<w4.heap.size:=fun b hb=>by
      have h1:=(hown.new b hb).1
      have h2:W1.drew.heap.size=W1.heap.size:=rfl
      exact⟨by omega,(hown.new b hb).2⟩
    refine⟨hown.own.mono (fun b hb=>?_),hown.nodup,fun b hb=>?_⟩
    · rw[<- hW5,heap_setCells_ne (by have:=(hnew b hb).1;omega)]
    · rw[<- hW5,size_setCells]
      exact⟨by have:=(hnew b hb).1;omega,(hnew b hb).2⟩
  have HEND:Hid (Kp w W5 Nul):=(HK1.out.trans hk14).trans' k45 (fun i hi e=>by have:i=w.heap.size+1:=e;omega)
  clear hK K hHeld hHeld2 hk14 k45 hone hZ4 hW5 hown
  refine wpAnyH_done (by kernel_rfl) ?_ _
  refine NoPanic.normal ?_
  go_wp2_with fail
  refine bodyPost_ret (results_cell_row rfl _ _ (w.heap.size+1) 50 _ (0,0) _ rfl hB5 Tryz.underlying50 rfl infoContent) rfl ?_
  exact⟨_,_,rfl,HOW.out,HEND.out⟩
end Go.Proofs.YtecjfnkakodebaaGreatDoor
namespace Go.Proofs.YtecjfnkakodebaaGreatDoor
open Go.RowKit
abbrev Turn:=Hd->Option Hd
def tmN (f:Turn) (t:Nd):Nd:=match f t.hd with
  | none=>ndF
  | some h=>.mk h t.ts
mutual
def hmN (f:Turn):Nd->Nd
  | .mk h ts=>if h.k=5∨h.k=6 then tmN f (.mk h ts) else .mk h (hmL f ts)
def hmL (f:Turn):List Nd->List Nd
  | []=>[]
  | t::ts=>hmN f t::hmL f ts
end
theorem hmL_map (f:Turn):∀ts:List Nd,hmL f ts=ts.map (hmN f)
  | []=>by rw[hmL];rfl
  | t::ts=>by rw[hmL,hmL_map f ts];rfl
theorem hmL_len (f:Turn) (ts:List Nd):(hmL f ts).length=ts.length:=by rw[hmL_map,List.length_map]
structure TurnOk (f:Turn):Prop where
  k:∀h g,f h=some g->g.k=h.k
  x:∀h g,f h=some g->g.x=h.x
  wm:∀h g,h.k=5∨h.k=6->f h=some g->wm h 0=true->wm g 0=true
  one':∀h g,h.k=5->f h=some g->vA g.c1 g.r1 g.c1 g.r1=true
  two:∀h g,h.k=6->f h=some g->vA g.c1 g.r1 g.c2 g.r2=true
theorem tmN_fe {f:Turn} (hf:TurnOk f) {h:Hd} {ts:List Nd} (hk:h.k=5∨h.k=6) {c:Bool} (h0:(Nd.mk h ts).fe c=0):(tmN f (.mk h ts)).fe c=0:=by
  rw[Nd.fe] at h0
  by_cases ho:ownE h ts.length c=0
  rotate_left
  · rw[if_pos ho] at h0;exact absurd h0 ho
  have hw:wm h ts.length=true:=by
    cases q:wm h ts.length with
    | true=>rfl
    | false=>unfold ownE at ho;rw[if_pos q] at ho;omega
  have hl:=wm_len hk hw
  have hts:ts=[]:=List.length_eq_zero_iff.1 hl
  subst hts
  unfold tmN
  cases q:f (Nd.mk h []).hd with
  | none=>exact ndF_fe c
  | some g=>
    have q':f h=some g:=q
    show (Nd.mk g []).fe c=0
    rw[Nd.fe,feL]
    have ho':ownE g 0 c=0:=by
      unfold ownE
      rw[if_neg (by rw[hf.wm h g hk q' hw];decide),hf.k h g q']
      unfold ownE at ho
      rw[if_neg (by rw[hw];decide)] at ho
      rcases hk with e|e
      · rw[if_pos e,if_pos (hf.one' h g e q')]
      · rw[if_neg (show ¬h.k=5 by omega),if_pos e]
        rw[if_neg (show ¬h.k=5 by omega),if_pos e] at ho
        rw[if_pos (hf.two h g e q')]
        split at ho
        · exact ho
        · omega
    rw[List.length_nil,if_neg (by rw[ho'];decide)]
mutual
theorem hmN_fe {f:Turn} (hf:TurnOk f):∀(t:Nd) (c:Bool),t.fe c=0->(hmN f t).fe c=0
  | .mk h ts,c,h0=>by
    rw[hmN]
    by_cases hk:h.k=5∨h.k=6
    · rw[if_pos hk];exact tmN_fe hf hk h0
    · rw[if_neg hk]
      rw[Nd.fe] at h0 ⊢
      rw[hmL_len]
      by_cases ho:ownE h ts.length c=0
      · rw[if_neg (by rw[ho];decide)] at h0 ⊢
        exact hmL_fe hf ts _ h0
      · rw[if_pos ho] at h0;exact absurd h0 ho
theorem hmL_fe {f:Turn} (hf:TurnOk f):∀(ts:List Nd) (c:Bool),feL ts c=0->feL (hmL f ts) c=0
  | [],c,_=>by rw[hmL,feL]
  | t::ts,c,h0=>by
    rw[feL] at h0
    rw[hmL,feL]
    by_cases ht:t.fe c=0
    · rw[if_neg (by rw[ht];decide)] at h0
      rw[if_neg (by rw[hmN_fe hf t c ht];decide)]
      exact hmL_fe hf ts c h0
    · rw[if_pos ht] at h0;exact absurd h0 ht
end
theorem tmN_size (f:Turn) (t:Nd):(tmN f t).size<=t.size:=by
  unfold tmN
  split
  · have:=size_pos t
    show ndF.size<=_
    unfold ndF
    rw[Nd.size,sizeL];omega
  · rw[Nd.size]
    conv=>rhs;rw[Nd.eta t,Nd.size]
    exact Nat.le_refl _
mutual
theorem hmN_size (f:Turn):∀t:Nd,(hmN f t).size<=t.size
  | .mk h ts=>by
    rw[hmN]
    split
    · exact tmN_size f _
    · rw[Nd.size,Nd.size];have:=hmL_size f ts;omega
theorem hmL_size (f:Turn):∀ts:List Nd,sizeL (hmL f ts)<=sizeL ts
  | []=>by rw[hmL];exact Nat.le_refl _
  | t::ts=>by rw[hmL,sizeL,sizeL];have:=hmN_size f t;have:=hmL_size f ts;omega
end
theorem tmN_dep (f:Turn) (t:Nd):(tmN f t).dep<=t.dep:=by
  unfold tmN
  split
  · show ndF.dep<=_
    unfold ndF
    rw[Nd.dep,depL]
    cases t with
    | mk h ts=>rw[Nd.dep];omega
  · rw[Nd.dep]
    conv=>rhs;rw[Nd.eta t,Nd.dep]
    exact Nat.le_refl _
mutual
theorem hmN_dep (f:Turn):∀t:Nd,(hmN f t).dep<=t.dep
  | .mk h ts=>by
    rw[hmN]
    split
    · exact tmN_dep f _
    · rw[Nd.dep,Nd.dep];have:=hmL_dep f ts;omega
theorem hmL_dep (f:Turn):∀ts:List Nd,depL (hmL f ts)<=depL ts
  | []=>by rw[hmL];exact Nat.le_refl _
  | t::ts=>by rw[hmL,depL,depL];have:=hmN_dep f t;have:=hmL_dep f ts;omega
end
theorem hmN_chk {f:Turn} (hf:TurnOk f) {t:Nd} (h:chk t=0):chk (hmN f t)=0:=by
  unfold chk at h ⊢
  have h1:=hmN_size f t
  have h2:=hmN_dep f t
  by_cases a1:256<t.size
  · rw[if_pos a1] at h;omega
  · rw[if_neg a1] at h
    by_cases a2:32<t.dep
    · rw[if_pos a2] at h;omega
    · rw[if_neg a2] at h
      rw[if_neg (by omega),if_neg (by omega)]
      exact hmN_fe hf t false h
theorem tmN_ok {f:Turn} (hf:TurnOk f) {t:Nd} (h:t.ok):(tmN f t).ok:=by
  unfold tmN
  split
  · unfold ndF;rw[Nd.ok,okL];exact⟨by show (0:Nat)<_;decide,trivial⟩
  · rename_i g e
    rw[Nd.ok,hf.x _ _ e]
    rw[Nd.eta t,Nd.ok] at h
    exact h
mutual
theorem hmN_ok {f:Turn} (hf:TurnOk f):∀t:Nd,t.ok->(hmN f t).ok
  | .mk h ts,hk=>by
    rw[hmN]
    split
    · exact tmN_ok hf hk
    · rw[Nd.ok] at hk ⊢;exact⟨hk.1,hmL_ok hf ts hk.2⟩
theorem hmL_ok {f:Turn} (hf:TurnOk f):∀ts:List Nd,okL ts->okL (hmL f ts)
  | [],_=>by rw[hmL,okL];trivial
  | t::ts,h=>by rw[okL] at h;rw[hmL,okL];exact⟨hmN_ok hf t h.1,hmL_ok hf ts h.2⟩
end
mutual
theorem hmN_cpy {f:Turn} (hf:TurnOk f):∀t:Nd,cpy t=t->cpy (hmN f t)=hmN f t
  | .mk h ts,e=>by
    rw[cpy] at e
    have e1:{ h with x:=one h.x }=h:=(Nd.mk.injEq .. ▸ e).1
    have e2:cpyL ts=ts:=(Nd.mk.injEq .. ▸ e).2
    have e3:one h.x=h.x:=congrArg Hd.x e1
    rw[hmN]
    split
    · unfold tmN
      split
      · exact ndF_cpy
      · rename_i g q
        have q1:g.x=h.x:=hf.x _ _ q
        rw[cpy]
        show Nd.mk { g with x:=one g.x } (cpyL ts)=_
        rw[show ({ g with x:=one g.x }:Hd)=g by rw[q1,e3,<- q1],e2]
        rfl
    · rw[cpy,e1,hmL_cpy hf ts e2]
theorem hmL_cpy {f:Turn} (hf:TurnOk f):∀ts:List Nd,cpyL ts=ts->cpyL (hmL f ts)=hmL f ts
  | [],_=>by rw[hmL,cpyL]
  | t::ts,e=>by
    rw[cpyL] at e
    rw[hmL,cpyL,hmN_cpy hf t (List.cons.inj e).1,hmL_cpy hf ts (List.cons.inj e).2]
end
def hmC (f:Turn) (c:Ct):Ct:=⟨c.k,c.v,hmN f c.t⟩
theorem hmN_zero (f:Turn) {t:Nd} (h:zeroN t=true):hmN f t=t:=by
  obtain⟨h1,h2⟩:=zeroN_k h
  cases t with
  | mk h' ts=>
    have e1:h'.k=0:=h1
    have e2:ts=[]:=h2
    subst e2
    rw[hmN,if_neg (by omega),hmL]
theorem hmC_plain (f:Turn) {c:Ct} (h:gv c=true) (hk:c.k≠2):hmC f c=c:=by
  have hz:zeroN c.t=true:=by
    unfold gv validC at h
    simp[hk] at h
    rcases h with h|h
    · exact h.2.2
    · exact h.2.2
  unfold hmC
  rw[hmN_zero f hz]
theorem hmC_gv {f:Turn} (hf:TurnOk f) {c:Ct} (h:gv c=true):gv (hmC f c)=true:=by
  by_cases hk:c.k=2
  · unfold gv validC at h ⊢
    simp[hmC,hk] at h ⊢
    exact⟨h.1,hmN_chk hf h.2⟩
  · rw[hmC_plain f h hk];exact h
theorem hmC_gd {f:Turn} (hf:TurnOk f) {c:Ct} (h:Gd c):Gd (hmC f c):=by
  refine⟨hmC_gv hf h.val,h.k,hmN_ok hf _ h.ok,h.x,Nat.le_trans (hmN_size f _) h.size,?_⟩
  have hc:=h.cp
  unfold cpC at hc
  have e1:=congrArg Ct.v hc
  have e2:=congrArg Ct.t hc
  unfold cpC
  show (⟨c.k,{ c.v with x:=one c.v.x },cpy (hmN f c.t)⟩:Ct)=⟨c.k,c.v,hmN f c.t⟩
  rw[hmN_cpy hf _ e2]
  exact congrArg (fun v=>(⟨c.k,v,hmN f c.t⟩:Ct)) e1
def shH (x y:Int):Turn:=fun h=>
  if h.k=6 then
    (if shOk h.c1 h.r1 h.p1 h.q1 x y=true/\shOk h.c2 h.r2 h.p2 h.q2 x y=true then
      (let a:=(shN h.c1 x 256 h.p1).1;let b:=(shN h.r1 y 4096 h.q1).1;let c:=(shN h.c2 x 256 h.p2).1;let d:=(shN h.r2 y 4096 h.q2).1
       some { h with c1:=if c<a then c else a,p1:=if c<a then h.p2 else h.p1,c2:=if c<a then a else c,p2:=if c<a then h.p1 else h.p2,
                     r1:=if d<b then d else b,q1:=if d<b then h.q2 else h.q1,r2:=if d<b then b else d,q2:=if d<b then h.q1 else h.q2 })
    else none)
  else if shOk h.c1 h.r1 h.p1 h.q1 x y=true then some { h with c1:=(shN h.c1 x 256 h.p1).1,r1:=(shN h.r1 y 4096 h.q1).1 } else none
theorem shH_one (x y:Int) (h:Hd) (hk:¬h.k=6):shH x y h=if shOk h.c1 h.r1 h.p1 h.q1 x y=true then some { h with c1:=(shN h.c1 x 256 h.p1).1,r1:=(shN h.r1 y 4096 h.q1).1 } else none:=by
  unfold shH
  rw[if_neg hk]
theorem shH_two (x y:Int) (h:Hd) (hk:h.k=6):shH x y h=if shOk h.c1 h.r1 h.p1 h.q1 x y=true/\shOk h.c2 h.r2 h.p2 h.q2 x y=true then
      (let a:=(shN h.c1 x 256 h.p1).1;let b:=(shN h.r1 y 4096 h.q1).1;let c:=(shN h.c2 x 256 h.p2).1;let d:=(shN h.r2 y 4096 h.q2).1
       some { h with c1:=if c<a then c else a,p1:=if c<a then h.p2 else h.p1,c2:=if c<a then a else c,p2:=if c<a then h.p1 else h.p2,
                     r1:=if d<b then d else b,q1:=if d<b then h.q2 else h.q1,r2:=if d<b then b else d,q2:=if d<b then h.q1 else h.q2 })
    else none:=by
  unfold shH
  rw[if_pos hk]
theorem shOk_vC {c r x y:Int} {p q:Bool} (h:shOk c r p q x y=true):vC (shN c x 256 p).1 (shN r y 4096 q).1=true:=by
  unfold shOk at h
  simp only[Bool.and_eq_true] at h
  obtain⟨⟨h1,h2⟩,h3⟩:=h
  rw[vC_iff] at h1 ⊢
  have a:1<=(shN c x 256 p).1/\(shN c x 256 p).1<=256:=by
    unfold shN at h2 ⊢
    cases p with
    | true=>simp only[if_true];omega
    | false=>
      simp only[Bool.false_eq_true,if_false] at h2 ⊢
      split at h2
      · cases h2
      · rename_i q;rw[if_neg q];simpa using h2
  have b:1<=(shN r y 4096 q).1/\(shN r y 4096 q).1<=4096:=by
    unfold shN at h3 ⊢
    cases q with
    | true=>simp only[if_true];omega
    | false=>
      simp only[Bool.false_eq_true,if_false] at h3 ⊢
      split at h3
      · cases h3
      · rename_i q;rw[if_neg q];simpa using h3
  omega
theorem vA_oneS {c r:Int} (h:vC c r=true):vA c r c r=true:=by
  rw[vC_iff] at h
  rw[vA_iff];omega
theorem vA_two {a b c d:Int} (h:vC a b=true) (h':vC c d=true):vA (if c<a then c else a) (if d<b then d else b) (if c<a then a else c) (if d<b then b else d)=true:=by
  rw[vC_iff] at h h'
  rw[vA_iff]
  split <;> split <;> omega
theorem shH_ok (x y:Int):TurnOk (shH x y):=by
  refine⟨?_,?_,?_,?_,?_⟩
  · intro h g e
    unfold shH at e
    split at e
    · split at e
      · cases e;rfl
      · cases e
    · split at e
      · cases e;rfl
      · cases e
  · intro h g e
    unfold shH at e
    split at e
    · split at e
      · cases e;rfl
      · cases e
    · split at e
      · cases e;rfl
      · cases e
  · intro h g hk e hw
    unfold shH at e
    rcases hk with k|k
    · rw[if_neg (by omega)] at e
      split at e
      · cases e
        unfold wm at hw ⊢
        simp only[k] at hw ⊢
        simp[wmJ,k,hsame] at hw ⊢
        simp[hw]
      · cases e
    · rw[if_pos k] at e
      split at e
      · cases e
        unfold wm at hw ⊢
        simp only[k] at hw ⊢
        simp[wmJ,k,hsame] at hw ⊢
        simp[hw]
      · cases e
  · intro h g hk e
    unfold shH at e
    rw[if_neg (by omega)] at e
    split at e
    · rename_i q;cases e;exact vA_oneS (shOk_vC q)
    · cases e
  · intro h g hk e
    unfold shH at e
    rw[if_pos hk] at e
    split at e
    · rename_i q;cases e;exact vA_two (shOk_vC q.1) (shOk_vC q.2)
    · cases e
structure HmAt (f:Turn) (w wr:World) (b c k:Nat) (ts:List Nd) (fps fa fb:List Nat):Prop where
  kp:Kp w wr (fun i=>i∈b::fps)
  row:∃cs:Array Value,wr.heap[b]? = some (.cells cs 48 (0,0))/\cs.size=c*15
  done:NdsOwn wr b 0 (hmL f (ts.take k)) fa
  rest:NdsOwn wr b (k*15) (ts.drop k) fb
  sub:∃fA,fps=fA++fb/\fa.Sublist fA
theorem HmAt.start {f:Turn} {w:World} {b c:Nat} {ts:List Nd} {fps:List Nat} {cs:Array Value} (h1:w.heap[b]? = some (.cells cs 48 (0,0))) (h2:cs.size=c*15) (h:NdsOwn w b 0 ts fps):HmAt f w w b c 0 ts fps [] fps:=
  ⟨Kp.refl _ _,⟨cs,h1,h2⟩,by rw[List.take_zero,hmL,NdsOwn],by simpa using h,[],rfl,List.Sublist.refl _⟩
theorem HmAt.nul {f:Turn} {w wr w':World} {b c k:Nat} {ts:List Nd} {fps fa fb:List Nat} (h:HmAt f w wr b c k ts fps fa fb) (g:Kp wr w' Nul):HmAt f w w' b c k ts fps fa fb:=by
  have hb:w'.heap[b]? = wr.heap[b]?:=by
    obtain⟨cs,h1,_⟩:=h.row
    exact g.block b (Array.getElem?_eq_some_iff.1 h1).1 (fun x=>x)
  refine⟨h.kp.trans (g.mono (fun _ _ x=>x.elim)),?_,?_,?_,h.sub⟩
  · obtain⟨cs,h1,h2⟩:=h.row
    exact⟨cs,hb.trans h1,h2⟩
  · exact h.done.mono (fun o' cs' _ _ hr=>rangeAt_block hr hb) (fun i hi=>g.block i (node_lt (h.done.node i hi)) (fun x=>x))
  · exact h.rest.mono (fun o' cs' _ _ hr=>rangeAt_block hr hb) (fun i hi=>g.block i (node_lt (h.rest.node i hi)) (fun x=>x))
theorem HmAt.next {f:Turn} {w wr:World} {b c k:Nat} {ts:List Nd} {fps fa fb:List Nat} (h:HmAt f w wr b c k ts fps fa fb) (hk:k<ts.length):∃sl f1 f2,wr.rangeAt b (k*15) ((ts[k]).hd.cells sl)/\NdOwn wr sl ts[k] f1/\fb=f1++f2/\NdsOwn wr b ((k+1)*15) (ts.drop (k+1)) f2:=by
  have h1:=h.rest
  rw[List.drop_eq_getElem_cons hk,NdsOwn] at h1
  obtain⟨sl,f1,f2,h2,h3,h4,h5⟩:=h1
  exact⟨sl,f1,f2,h2,h3,h4,by rw[show (k+1)*15=k*15+15 by omega];exact h5⟩
theorem HmAt.step {f:Turn} {w wr w1:World} {b c k:Nat} {ts:List Nd} {fps fa fb f1 f2 f1':List Nat} (h:HmAt f w wr b c k ts fps fa fb) (hk:k<ts.length) (hc:ts.length<=c) (hn:(b::fps).Nodup) (hfb:fb=f1++f2) (hrest:NdsOwn wr b ((k+1)*15) (ts.drop (k+1)) f2)
    {sl':Value} (g:Kp wr w1 (fun i=>i∈f1)) (hu:NdOwn w1 sl' (hmN f ts[k]) f1') (hs:f1'.Sublist f1) :
    HmAt f w (w1.setCells b (k*15) ((hmN f ts[k]).hd.cells sl')) b c (k+1) ts fps (fa++f1') f2:=by
  obtain⟨fA,e1,e2⟩:=h.sub
  obtain⟨cs,r1,r2⟩:=h.row
  have hblt:=(Array.getElem?_eq_some_iff.1 r1).1
  rw[List.nodup_cons] at hn
  obtain⟨hb0,hn⟩:=hn
  rw[e1,hfb] at hn hb0
  have hbA:b∉fA:=fun q=>hb0 (List.mem_append_left _ q)
  have hb1:b∉f1:=fun q=>hb0 (List.mem_append_right _ (List.mem_append_left _ q))
  have hb2:b∉f2:=fun q=>hb0 (List.mem_append_right _ (List.mem_append_right _ q))
  rw[List.nodup_append] at hn
  obtain⟨_,hn2,hn3⟩:=hn
  rw[List.nodup_append] at hn2
  have d1:∀i∈fa,i∉f1:=fun i hi q=>hn3 i (e2.subset hi) i (List.mem_append_left _ q) rfl
  have d2:∀i∈f2,i∉f1:=fun i hi q=>hn2.2.2 i q i hi rfl
  have hA:w1.heap[b]? = some (.cells cs 48 (0,0)):=(g.block b hblt hb1).trans r1
  have hth:w1.there b (k*15) 15:=there_of_block hA _ _ (by omega)
  have hne:∀i,i≠b->(w1.setCells b (k*15) ((hmN f ts[k]).hd.cells sl')).heap[i]? = w1.heap[i]?:=fun i hi=>heap_setCells_ne hi _ _ _
  refine⟨?_,?_,?_,?_,?_⟩
  · refine(h.kp.trans (g.mono (fun i _ q=>?_))).trans (setCells_kp _ (by show b∈b::fps;exact List.mem_cons_self) _ _ _)
    show i∈b::fps
    rw[e1,hfb]
    exact List.mem_cons_of_mem _ (List.mem_append_right _ (List.mem_append_left _ q))
  · exact⟨_,heap_setCells_at _ _ _ _ hA,by rw[setAll_size,r2]⟩
  · have o1:NdsOwn w1 b 0 (hmL f (ts.take k)) fa:=h.done.mono (fun o' cs' _ _ hr=>rangeAt_block hr (hA.trans r1.symm)) (fun i hi=>g.block i (node_lt (h.done.node i hi)) (d1 i hi))
    have hl:(hmL f (ts.take k)).length=k:=by rw[hmL_len,List.length_take];omega
    have o2:NdsOwn (w1.setCells b (k*15) ((hmN f ts[k]).hd.cells sl')) b 0 (hmL f (ts.take k)) fa:=by
      refine o1.mono (fun o' cs' _ q hr=>?_) (fun i hi=>hne i (fun e=>hbA (e ▸ e2.subset hi)))
      exact World.rangeAt_setCells_apart hr _ _ _ (.inr (.inl (by rw[hl] at q;omega)))
    have e:hmL f (ts.take (k+1))=hmL f (ts.take k)++[hmN f ts[k]]:=by
      rw[hmL_map,hmL_map,List.take_add_one,List.getElem?_eq_getElem hk,List.map_append];rfl
    rw[e]
    refine NdsOwn.snoc (sl:=sl') (hu.mono (fun i hi=>hne i (fun e=>hb1 (e ▸ hs.subset hi)))) o2 ?_
    rw[hl,Nat.zero_add]
    exact World.rangeAt_setCells_same _ _ _ _ (by simpa using hth)
  · have o1:NdsOwn w1 b ((k+1)*15) (ts.drop (k+1)) f2:=hrest.mono (fun o' cs' _ _ hr=>rangeAt_block hr (hA.trans r1.symm)) (fun i hi=>g.block i (node_lt (hrest.node i hi)) (d2 i hi))
    refine o1.mono (fun o' cs' q _ hr=>?_) (fun i hi=>hne i (fun e=>hb2 (e ▸ hi)))
    exact World.rangeAt_setCells_apart hr _ _ _ (.inr (.inr (by simp;omega)))
  · exact⟨fA++f1,by rw[e1,hfb,List.append_assoc],e2.append hs⟩
theorem HmAt.fin {f:Turn} {w wr:World} {b c:Nat} {ts:List Nd} {fps fa fb:List Nat} (h:HmAt f w wr b c ts.length ts fps fa fb) (hne:ts≠[]) (hc:ts.length<=c) (hm:c<=maxLen) (hd:Hd):NdOwn wr (.slice (some ⟨b,0,none⟩) ts.length c) (.mk hd (hmL f ts)) (b::fa)/\(b::fa).Sublist (b::fps):=by
  obtain⟨cs,h1,h2⟩:=h.row
  have hd':=h.done
  rw[List.take_length] at hd'
  obtain⟨fA,e1,e2⟩:=h.sub
  constructor
  · rw[NdOwn]
    refine .inr ⟨b,c,fa,cs,by rw[hmL_len],?_,by rw[hmL_len];exact hc,hm,h1,h2,rfl,hd'⟩
    intro e
    have:=hmL_len f ts
    rw[e] at this
    exact hne (List.length_eq_zero_iff.1 this.symm)
  · rw[e1]
    exact(e2.trans (List.sublist_append_left _ _)).cons_cons _
def tmS (f:Turn) (h:Hd) (sl:Value):Value:=match f h with
  | none=>.slice none 0 0
  | some _=>sl
def tmFp (f:Turn) (h:Hd) (fp:List Nat):List Nat:=match f h with
  | none=>[]
  | some _=>fp
structure HmR (f:Turn) (t:Nd) (fp:List Nat) (w w':World) (sl':Value) (fp':List Nat):Prop where
  own:NdOwn w' sl' (hmN f t) fp'
  sub:fp'.Sublist fp
  kp:Kp w w' (fun i=>i∈fp)
theorem tm_own (f:Turn) (hd:Hd) (ts:List Nd) (sl:Value) (fp:List Nat) (w w':World) (h:NdOwn w sl (.mk hd ts) fp) (k:Kp w w' Nul) (hk:hd.k=5∨hd.k=6):HmR f (.mk hd ts) fp w w' (tmS f hd sl) (tmFp f hd fp):=by
  have h':NdOwn w' sl (.mk hd ts) fp:=h.mono (fun b hb=>k.block b (node_lt (h.node b hb)) (fun x=>x))
  have e:hmN f (.mk hd ts)=tmN f (.mk hd ts):=by rw[hmN,if_pos hk]
  unfold tmS tmFp
  refine⟨?_,?_,k.mono (fun _ _ q=>q.elim)⟩
  · rw[e]
    unfold tmN
    simp only[Nd.hd,Nd.ts]
    cases f hd with
    | none=>exact .inl ⟨rfl,rfl,rfl⟩
    | some a=>rw[NdOwn] at h' ⊢;exact h'
  · cases f hd with
    | none=>exact List.nil_sublist _
    | some a=>exact List.Sublist.refl _
end Go.Proofs.YtecjfnkakodebaaGreatDoor
