/-Packed, the document's reader (quadrilleref24), plain: what it reads o. -/
import Derived.Test.YtnceajanlnnfoaaGreatDoorQrPoa
import Derived.Test.YtnceajanlnnfoaaGreatDoorQrPlg
set_option maxHeartbeats 4000000
set_option maxRecDepth 20000
namespace Go.Proofs.YtnceajanlnnfoaaGreatDoor
section
open Go.RowKit Go.Maps Go.Sort Go.Lib Go.Shelf
abbrev Sd:=Nat×Bool
def dB (b:List UInt8) (n:Nat) (s:Sd):List UInt8×Sd:=(smS b s.1 n s.2,(smP b s.1 n s.2,!smO b s.1 n s.2))
structure DAt (b:List UInt8) (s:Sd) (l:List UInt8):Prop where
 ok:s.2=false
 le:s.1<=b.length
 eq:b.drop s.1=l
theorem DAt.len {b l:List UInt8}{s:Sd}(h:DAt b s l):l.length=b.length-s.1:=by rw[<- h.eq,List.length_drop]
theorem j3y {b l:List UInt8}{s:Sd}{n:Nat}(h:DAt b s l)(hn:n<=l.length):(dB b n s).1=l.take n/\DAt b (dB b n s).2 (l.drop n):=by
 have h0:=h.len;have h1:=h.le;have ho:smO b s.1 n s.2=true:=by unfold smO;rw[h.ok,decide_eq_true (by omega)];rfl
 refine⟨?_,?_,?_,?_⟩
 ·show smS _ _ _ _=_;unfold smS;rw[if_pos ho,h.eq]
 ·show (!smO _ _ _ _)=false;rw[ho];rfl
 ·show smP _ _ _ _<=_;unfold smP;rw[if_pos ho];omega
 ·show b.drop (smP _ _ _ _)=_;unfold smP;rw[if_pos ho,<- h.eq,List.drop_drop]
structure Fw (b:List UInt8) (s s':Sd):Prop where
 le:s.1<=b.length->s'.1<=b.length
 fw:s.1<=s'.1
 bad:s'.2=false->s.2=false
theorem Fw.refl (b:List UInt8)(s:Sd):Fw b s s:=⟨fun h=>h,Nat.le_refl _,fun h=>h⟩
theorem Fw.trans {b:List UInt8}{s s' s'':Sd}(h:Fw b s s')(k:Fw b s' s''):Fw b s s'':=⟨fun q=>k.le (h.le q),Nat.le_trans h.fw k.fw,fun q=>h.bad (k.bad q)⟩
theorem Fw.spoil {b:List UInt8}{s s':Sd}(h:Fw b s s'):Fw b s (s'.1,true):=⟨h.le,h.fw,fun q=>by cases q⟩
theorem j3x {b:List UInt8}{s:Sd}{n:Nat}(h:(dB b n s).2.2=false):s.2=false/\(dB b n s).2.1=s.1+n:=by
 have h1:smO b s.1 n s.2=true:=by have h':(!smO b s.1 n s.2)=false:=h;simpa using h'
 refine⟨?_,?_⟩
 ·unfold smO at h1;rw[Bool.and_eq_true] at h1;have:=h1.1
  simpa using this
 ·show smP _ _ _ _=_;unfold smP;rw[if_pos h1]
theorem j22 (b:List UInt8)(n:Nat)(s:Sd):Fw b s (dB b n s).2:=by
 refine⟨fun h=>?_,?_,fun h=>(j3x h).1⟩
 ·show smP _ _ _ _<=_;unfold smP;by_cases ho:smO b s.1 n s.2=true
  ·rw[if_pos ho];unfold smO at ho;rw[Bool.and_eq_true] at ho;have:n<=b.length-s.1:=of_decide_eq_true ho.2;omega
  ·rw[if_neg ho];exact h
 ·show s.1<=smP _ _ _ _;unfold smP;split <;> omega
def dN (b:List UInt8) (n:Nat) (s:Sd):Nat×Sd:=(unle (dB b n s).1,(dB b n s).2)
theorem J0 (b:List UInt8)(n:Nat)(s:Sd):Fw b s (dN b n s).2:=j22 b n s
theorem X5 (b:List UInt8)(n:Nat)(s:Sd):(dN b n s).1<256^n:=Nat.lt_of_lt_of_le (j0s _) (Nat.pow_le_pow_right (by decide) (j32 b s.1 n s.2))
theorem I6 {b l l':List UInt8}{s:Sd}{n x:Nat}(h:DAt b s l)(e:rNum n l=some (x,l')):(dN b n s).1=x/\DAt b (dN b n s).2 l':=by
 unfold rNum at e;by_cases hn:n<=l.length
 ·rw[if_pos hn] at e;obtain⟨rfl,rfl⟩:=Prod.mk.inj (Option.some.inj e);obtain⟨h1,h2⟩:=j3y h hn;exact⟨by show unle (dB b n s).1=_;rw[h1],h2⟩
 ·rw[if_neg hn] at e;cases e
def dTxt (b:List UInt8) (s:Sd):ByteArray×Sd:=(⟨(dB b (dN b 2 s).1 (dN b 2 s).2).1.toArray⟩,(dB b (dN b 2 s).1 (dN b 2 s).2).2)
theorem j26 (b:List UInt8)(s:Sd):Fw b s (dTxt b s).2:=(J0 b 2 s).trans (j22 b _ _)
theorem j28 (b:List UInt8)(s:Sd):(dTxt b s).1.size<65536:=by
 show (dB b (dN b 2 s).1 (dN b 2 s).2).1.toArray.size<_;rw[List.size_toArray];have:=j32 b (dN b 2 s).2.1 (dN b 2 s).1 (dN b 2 s).2.2;have h2:=X5 b 2 s;exact Nat.lt_of_le_of_lt this h2
theorem j27 {b l l':List UInt8}{s:Sd}{t:ByteArray}(h:DAt b s l)(e:rTxt l=some (t,l')):(dTxt b s).1=t/\DAt b (dTxt b s).2 l':=by
 unfold rTxt at e;rw[Option.bind_eq_some_iff] at e;obtain⟨⟨n,l1⟩,e1,e2⟩:=e;obtain⟨h1,h2⟩:=I6 h e1;simp only at e2;by_cases hn:n<=l1.length
 ·rw[if_pos hn] at e2;obtain⟨rfl,rfl⟩:=Prod.mk.inj (Option.some.inj e2);obtain⟨h3,h4⟩:=j3y h2 hn;unfold dTxt;rw[h1];exact⟨by rw[h3],h4⟩
 ·rw[if_neg hn] at e2;cases e2
def dTr (b:List UInt8) (s:Sd):Bool×Sd:=(decide (¬(dN b 1 s).1=0),(dN b 1 s).2)
theorem j46 {b l l':List UInt8}{s:Sd}{t:Bool}(h:DAt b s l)(e:rTr l=some (t,l')):(dTr b s).1=t/\DAt b (dTr b s).2 l':=by
 unfold rTr at e;rw[Option.bind_eq_some_iff] at e;obtain⟨⟨n,l1⟩,e1,e2⟩:=e;obtain⟨h1,h2⟩:=I6 h e1;simp only at e2;by_cases hn:n<=1
 ·rw[if_pos hn] at e2;obtain⟨rfl,rfl⟩:=Prod.mk.inj (Option.some.inj e2);refine⟨?_,h2⟩;show decide (¬(dN b 1 s).1=0)=_;rw[h1];have:n=0∨n=1:=by omega
  rcases this with rfl|rfl <;> rfl
 ·rw[if_neg hn] at e2;cases e2
theorem j40 {b l l':List UInt8}{s:Sd}{x:Nat}(h:DAt b s l)(e:rDbl l=some (x,l')):(dN b 8 s).1=x/\DAt b (dN b 8 s).2 l':=by
 unfold rDbl at e;rw[Option.bind_eq_some_iff] at e;obtain⟨⟨n,l1⟩,e1,e2⟩:=e;simp only at e2;by_cases hn:one n=n
 ·rw[if_pos hn] at e2;obtain⟨rfl,rfl⟩:=Prod.mk.inj (Option.some.inj e2);exact I6 h e1
 ·rw[if_neg hn] at e2;cases e2
def dRef (b:List UInt8) (s:Sd):(Nat×Nat×Bool×Bool)×Sd:=
 (((dN b 2 s).1,(dN b 2 (dN b 2 s).2).1,decide ((dN b 1 (dN b 2 (dN b 2 s).2).2).1%2=1),decide ((dN b 1 (dN b 2 (dN b 2 s).2).2).1/2%2=1)),(dN b 1 (dN b 2 (dN b 2 s).2).2).2)
theorem j24 (b:List UInt8)(s:Sd):Fw b s (dRef b s).2:=((J0 b 2 s).trans (J0 b 2 _)).trans (J0 b 1 _)
theorem j25 {b l l':List UInt8}{s:Sd}{t:Nat×Nat×Bool×Bool}(h:DAt b s l)(e:rRef l=some (t,l')):(dRef b s).1=t/\DAt b (dRef b s).2 l':=by
 unfold rRef at e;rw[Option.bind_eq_some_iff] at e;obtain⟨⟨c,l1⟩,e1,e⟩:=e;rw[Option.bind_eq_some_iff] at e;obtain⟨⟨r,l2⟩,e2,e⟩:=e;rw[Option.bind_eq_some_iff] at e;obtain⟨⟨f,l3⟩,e3,e⟩:=e;simp only at e e2 e3;obtain⟨h1,h2⟩:=I6 h e1;obtain⟨h3,h4⟩:=I6 h2 e2;obtain⟨h5,h6⟩:=I6 h4 e3;by_cases hn:f<=3
 ·rw[if_pos hn] at e;obtain⟨rfl,rfl⟩:=Prod.mk.inj (Option.some.inj e);refine⟨?_,h6⟩;unfold dRef;simp only;rw[h1,h3,h5];have e5:decide (f/2%2=1)=decide (f/2=1):=decide_eq_decide.2 (by omega);rw[e5]
 ·rw[if_neg hn] at e;cases e
def dVf (b:List UInt8) (k:Nat) (s:Sd):Vl×Sd:=
 if k=1 then ({ zVl with k:=1,x:=(dN b 8 s).1 },(dN b 8 s).2) else if k=2 then ({ zVl with k:=2,s:=(dTxt b s).1 },(dTxt b s).2) else
 if k=3 then ({ zVl with k:=3,b:=(dTr b s).1 },(dTr b s).2) else if k=4 then ({ zVl with k:=4,f:=(dN b 1 s).1 },(dN b 1 s).2) else ({ zVl with k:=k },s)
def dVl (b:List UInt8) (s:Sd):Vl×Sd:=dVf b (dN b 1 s).1 (dN b 1 s).2
theorem j94 (b:List UInt8)(k:Nat)(s:Sd):Fw b s (dVf b k s).2:=by
 unfold dVf;split
 ·exact J0 b 8 s
 split
 ·exact j26 b s
 split
 ·exact J0 b 1 s
 split
 ·exact J0 b 1 s
 ·exact .refl b s
theorem j95 (b:List UInt8)(k:Nat)(s:Sd):(dVf b k s).1.x<18446744073709551616/\(dVf b k s).1.s.size<65536:=by
 unfold dVf;split
 ·exact⟨X5 b 8 s,s_0⟩
 split
 ·exact⟨x_0.1,j28 b s⟩
 split
 ·exact⟨x_0.1,s_0⟩
 split
 ·exact⟨x_0.1,s_0⟩
 ·exact⟨x_0.1,s_0⟩
theorem j96 {b l l':List UInt8}{s:Sd}{v:Vl}(h:DAt b s l)(e:rVl l=some (v,l')):(dVl b s).1=v/\DAt b (dVl b s).2 l':=by
 unfold rVl at e;rw[Option.bind_eq_some_iff] at e;obtain⟨⟨k,l1⟩,e1,e⟩:=e;obtain⟨h1,h2⟩:=I6 h e1;unfold dVl;rw[h1];simp only at e;unfold rVf at e;unfold dVf;split at e
 ·rename_i hk
  rw[if_pos hk];obtain⟨⟨x,l2⟩,e2,e3⟩:=Option.map_eq_some_iff.1 e;obtain⟨h3,h4⟩:=j40 h2 e2;obtain⟨rfl,rfl⟩:=Prod.mk.inj e3;exact⟨by rw[h3],h4⟩
 rename_i k1
 rw[if_neg k1];split at e
 ·rename_i hk
  rw[if_pos hk];obtain⟨⟨x,l2⟩,e2,e3⟩:=Option.map_eq_some_iff.1 e;obtain⟨h3,h4⟩:=j27 h2 e2;obtain⟨rfl,rfl⟩:=Prod.mk.inj e3;exact⟨by rw[h3],h4⟩
 rename_i k2
 rw[if_neg k2];split at e
 ·rename_i hk
  rw[if_pos hk];obtain⟨⟨x,l2⟩,e2,e3⟩:=Option.map_eq_some_iff.1 e;obtain⟨h3,h4⟩:=j46 h2 e2;obtain⟨rfl,rfl⟩:=Prod.mk.inj e3;exact⟨by rw[h3],h4⟩
 rename_i k3
 rw[if_neg k3];split at e
 ·rename_i hk
  rw[if_pos hk];obtain⟨⟨x,l2⟩,e2,e3⟩:=Option.map_eq_some_iff.1 e;obtain⟨h3,h4⟩:=I6 h2 e2;obtain⟨rfl,rfl⟩:=Prod.mk.inj e3;exact⟨by rw[h3],h4⟩
 rename_i k4
 rw[if_neg k4];obtain⟨rfl,rfl⟩:=Prod.mk.inj (Option.some.inj e);exact⟨rfl,h2⟩
def dFld (b:List UInt8) (k:Nat) (s:Sd):(Hd×Nat)×Sd:=
 if k=1 then (({ zHd with k:=1,x:=(dN b 8 s).1 },0),(dN b 8 s).2) else
 if k=2 then (({ zHd with k:=2,s:=(dTxt b s).1 },0),(dTxt b s).2) else
 if k=3 then (({ zHd with k:=3,b:=(dTr b s).1 },0),(dTr b s).2) else
 if k=4 then (({ zHd with k:=4,f:=(dN b 1 s).1 },0),(dN b 1 s).2) else
 if k=5 then (({ zHd with k:=5,c1:=(dRef b s).1.1,r1:=(dRef b s).1.2.1,p1:=(dRef b s).1.2.2.1,q1:=(dRef b s).1.2.2.2 },0),(dRef b s).2) else
 if k=6 then (({ zHd with k:=6,c1:=(dRef b s).1.1,r1:=(dRef b s).1.2.1,p1:=(dRef b s).1.2.2.1,q1:=(dRef b s).1.2.2.2,c2:=(dRef b (dRef b s).2).1.1,r2:=(dRef b (dRef b s).2).1.2.1,p2:=(dRef b (dRef b s).2).1.2.2.1,q2:=(dRef b (dRef b s).2).1.2.2.2 },0),(dRef b (dRef b s).2).2) else
 if k=7 then (({ zHd with k:=7,o:=(dN b 1 s).1 },1),(dN b 1 s).2) else
 if k=8 then (({ zHd with k:=8,o:=(dN b 1 s).1 },2),(dN b 1 s).2) else
 if k=9 then (({ zHd with k:=9,s:=(dTxt b s).1 },(dN b 1 (dTxt b s).2).1),(dN b 1 (dTxt b s).2).2) else (({ zHd with k:=k },0),(s.1,true))
theorem j41 (b:List UInt8)(k:Nat)(s:Sd):Fw b s (dFld b k s).2:=by
 unfold dFld;repeat' split
 ·exact J0 b 8 s
 ·exact j26 b s
 ·exact J0 b 1 s
 ·exact J0 b 1 s
 ·exact j24 b s
 ·exact(j24 b s).trans (j24 b _)
 ·exact J0 b 1 s
 ·exact J0 b 1 s
 ·exact(j26 b s).trans (J0 b 1 _)
 ·exact(Fw.refl b s).spoil
theorem T7:(0:Nat)<256/\(1:Nat)<256/\(2:Nat)<256:=by decide
theorem j23 (b:List UInt8)(k:Nat)(s:Sd):(dFld b k s).1.1.x<18446744073709551616/\(dFld b k s).1.1.s.size<65536/\(dFld b k s).1.2<256:=by
 unfold dFld;repeat' split
 ·exact⟨X5 b 8 s,s_0,T7.1⟩
 ·exact⟨x_0.1,j28 b s,T7.1⟩
 ·exact⟨x_0.1,s_0,T7.1⟩
 ·exact⟨x_0.1,s_0,T7.1⟩
 ·exact⟨x_0.1,s_0,T7.1⟩
 ·exact⟨x_0.1,s_0,T7.1⟩
 ·exact⟨x_0.1,s_0,T7.2.1⟩
 ·exact⟨x_0.1,s_0,T7.2.2⟩
 ·exact⟨x_0.1,j28 b s,X5 b 1 _⟩
 ·exact⟨x_0.1,s_0,T7.1⟩
theorem j92 {b l l':List UInt8}{s:Sd}{k:Nat}{h:Hd×Nat}(hk:k≠0)(hd:DAt b s l)(e:rFld k l=some (h,l')):(dFld b k s).1=h/\DAt b (dFld b k s).2 l':=by
 unfold rFld at e;rw[if_neg hk] at e;unfold dFld;split at e
 ·rename_i hk
  rw[if_pos hk];obtain⟨⟨x,l2⟩,e2,e3⟩:=Option.map_eq_some_iff.1 e;obtain⟨h3,h4⟩:=j40 hd e2;obtain⟨rfl,rfl⟩:=Prod.mk.inj e3;exact⟨by rw[h3],h4⟩
 rename_i k1
 rw[if_neg k1];split at e
 ·rename_i hk
  rw[if_pos hk];obtain⟨⟨x,l2⟩,e2,e3⟩:=Option.map_eq_some_iff.1 e;obtain⟨h3,h4⟩:=j27 hd e2;obtain⟨rfl,rfl⟩:=Prod.mk.inj e3;exact⟨by rw[h3],h4⟩
 rename_i k2
 rw[if_neg k2];split at e
 ·rename_i hk
  rw[if_pos hk];obtain⟨⟨x,l2⟩,e2,e3⟩:=Option.map_eq_some_iff.1 e;obtain⟨h3,h4⟩:=j46 hd e2;obtain⟨rfl,rfl⟩:=Prod.mk.inj e3;exact⟨by rw[h3],h4⟩
 rename_i k3
 rw[if_neg k3];split at e
 ·rename_i hk
  rw[if_pos hk];obtain⟨⟨x,l2⟩,e2,e3⟩:=Option.map_eq_some_iff.1 e;obtain⟨h3,h4⟩:=I6 hd e2;obtain⟨rfl,rfl⟩:=Prod.mk.inj e3;exact⟨by rw[h3],h4⟩
 rename_i k4
 rw[if_neg k4];split at e
 ·rename_i hk
  rw[if_pos hk];obtain⟨⟨x,l2⟩,e2,e3⟩:=Option.map_eq_some_iff.1 e;obtain⟨h3,h4⟩:=j25 hd e2;obtain⟨rfl,rfl⟩:=Prod.mk.inj e3;exact⟨by rw[h3],h4⟩
 rename_i k5
 rw[if_neg k5];split at e
 ·rename_i hk
  rw[if_pos hk];obtain⟨⟨x,l2⟩,e2,e⟩:=Option.bind_eq_some_iff.1 e;obtain⟨⟨y,l3⟩,e4,e3⟩:=Option.map_eq_some_iff.1 e;obtain⟨h3,h4⟩:=j25 hd e2;obtain⟨h5,h6⟩:=j25 h4 e4;obtain⟨rfl,rfl⟩:=Prod.mk.inj e3;exact⟨by rw[h3,h5],h6⟩
 rename_i k6
 rw[if_neg k6];split at e
 ·rename_i hk
  rw[if_pos hk];obtain⟨⟨x,l2⟩,e2,e3⟩:=Option.map_eq_some_iff.1 e;obtain⟨h3,h4⟩:=I6 hd e2;obtain⟨rfl,rfl⟩:=Prod.mk.inj e3;exact⟨by rw[h3],h4⟩
 rename_i k7
 rw[if_neg k7];split at e
 ·rename_i hk
  rw[if_pos hk];obtain⟨⟨x,l2⟩,e2,e3⟩:=Option.map_eq_some_iff.1 e;obtain⟨h3,h4⟩:=I6 hd e2;obtain⟨rfl,rfl⟩:=Prod.mk.inj e3;exact⟨by rw[h3],h4⟩
 rename_i k8
 rw[if_neg k8];split at e
 ·rename_i hk
  rw[if_pos hk];obtain⟨⟨x,l2⟩,e2,e⟩:=Option.bind_eq_some_iff.1 e;obtain⟨⟨y,l3⟩,e4,e3⟩:=Option.map_eq_some_iff.1 e;obtain⟨h3,h4⟩:=j27 hd e2;obtain⟨h5,h6⟩:=I6 h4 e4;obtain⟨rfl,rfl⟩:=Prod.mk.inj e3;exact⟨by rw[h3,h5],h6⟩
 ·cases e
def D4 (R:Sd->Nd×Sd):Nat->Sd->List Nd×Sd
 | 0,s=>([],s)
 | n+1,s=>if (D4 R n s).2.2=true then D4 R n s else ((D4 R n s).1++[(R (D4 R n s).2).1],(R (D4 R n s).2).2)
theorem j93 {R:Sd->Nd×Sd}{s:Sd}{k:Nat}(h:(D4 R k s).2.2=true):∀n,k<=n->D4 R n s=D4 R k s:=by
 intro n hn;induction n with
 | zero=>
  have:k=0:=by omega
  rw[this]
 | succ n ih=>
  by_cases hk:k=n+1
  ·rw[hk]
  ·have e:=ih (by omega);rw[D4,if_pos (by rw[e];exact h),e]
def dNd (b:List UInt8):Nat->Sd->Nd×Sd
 | 0,s=>(.mk (dFld b (dN b 1 s).1 (dN b 1 s).2).1.1 [],((dFld b (dN b 1 s).1 (dN b 1 s).2).2.1,true))
 | d+1,s=>(.mk (dFld b (dN b 1 s).1 (dN b 1 s).2).1.1 (D4 (dNd b d) (dFld b (dN b 1 s).1 (dN b 1 s).2).1.2 (dFld b (dN b 1 s).1 (dN b 1 s).2).2).1,(D4 (dNd b d) (dFld b (dN b 1 s).1 (dN b 1 s).2).1.2 (dFld b (dN b 1 s).1 (dN b 1 s).2).2).2)
theorem j50:∀ {ts us:List Nd},okL ts->okL us->okL (ts++us)
 | [],_,_,h=>h
 | t::ts,us,h,k=>by
  rw[okL] at h;rw[List.cons_append,okL];exact⟨h.1,j50 h.2 k⟩
theorem j6R:∀ {ts us:List Nd},txtL ts->txtL us->txtL (ts++us)
 | [],_,_,h=>h
 | t::ts,us,h,k=>by
  rw[txtL] at h;rw[List.cons_append,txtL];exact⟨h.1,j6R h.2 k⟩
theorem j6D:∀(ts us:List Nd),j5 (ts++us)=j5 ts+j5 us
 | [],us=>by rw[List.nil_append,j5];omega
 | t::ts,us=>by rw[List.cons_append,j5,j5,j6D ts us];omega
structure DW (b:List UInt8) (s:Sd) (t:Nd) (s':Sd):Prop where
 fw:Fw b s s'
 ok:t.ok
 txt:t.txt
 size:s'.2=false->s.1+t.size<=s'.1
structure DWL (b:List UInt8) (s:Sd) (n:Nat) (ts:List Nd) (s':Sd):Prop where
 fw:Fw b s s'
 ok:okL ts
 txt:txtL ts
 size:s'.2=false->s.1+j5 ts<=s'.1
 len:ts.length<=n
theorem j43 {b:List UInt8}{R:Sd->Nd×Sd}(hR:∀s,DW b s (R s).1 (R s).2):∀(n:Nat) (s:Sd),DWL b s n (D4 R n s).1 (D4 R n s).2
 | 0,s=>⟨.refl b s,by rw[D4,okL];trivial,by rw[D4,txtL];trivial,fun _=>by rw[D4,j5];exact Nat.le_refl _,Nat.le_refl _⟩
 | n+1,s=>by
  have h:=j43 hR n s;rw[D4];by_cases hb:(D4 R n s).2.2=true
  ·rw[if_pos hb];exact⟨h.fw,h.ok,h.txt,h.size,Nat.le_succ_of_le h.len⟩
  ·rw[if_neg hb];have k:=hR (D4 R n s).2;refine⟨h.fw.trans k.fw,j50 h.ok (by rw[okL,okL];exact⟨k.ok,trivial⟩),j6R h.txt (by rw[txtL,txtL];exact⟨k.txt,trivial⟩),fun q=>?_,by rw[List.length_append];exact Nat.succ_le_succ h.len⟩;have h1:=h.size (k.fw.bad q);have h2:=k.size q;rw[j6D,j5,j5];show s.1+(j5 (D4 R n s).1+((R (D4 R n s).2).1.size+0))<=(R (D4 R n s).2).2.1;omega
theorem j45 (b:List UInt8):∀(d:Nat) (s:Sd),DW b s (dNd b d s).1 (dNd b d s).2
 | 0,s=>by
  have hf:=(J0 b 1 s).trans (j41 b (dN b 1 s).1 (dN b 1 s).2);obtain⟨h1,h2,_⟩:=j23 b (dN b 1 s).1 (dN b 1 s).2;rw[dNd];exact⟨hf.spoil,by rw[Nd.ok,okL];exact⟨h1,trivial⟩,by rw[Nd.txt,txtL];exact⟨by omega,trivial⟩,fun q=>by cases q⟩
 | d+1,s=>by
  have hf:=j41 b (dN b 1 s).1 (dN b 1 s).2;obtain⟨h1,h2,_⟩:=j23 b (dN b 1 s).1 (dN b 1 s).2;have hm:=j43 (fun s=>j45 b d s) (dFld b (dN b 1 s).1 (dN b 1 s).2).1.2 (dFld b (dN b 1 s).1 (dN b 1 s).2).2;rw[dNd];refine⟨((J0 b 1 s).trans hf).trans hm.fw,by rw[Nd.ok];exact⟨h1,hm.ok⟩,by rw[Nd.txt];exact⟨by omega,hm.txt⟩,fun q=>?_⟩;have q1:=hm.size q;have q2:(dN b 1 s).2.1=s.1+1:=(j3x (hf.bad (hm.fw.bad q))).2;have q3:=hf.fw;show s.1+Nd.size (.mk _ _)<=_;rw[Nd.size];show _<=(D4 (dNd b d) _ _).2.1;omega
theorem jBY {h:Hd}{n:Nat}{c:Bool}(ho:ownE h n c=0):h.k≠0:=fun e=>by
 unfold ownE at ho;have:wm h n=false:=by
  unfold wm;rw[e]
  rfl
 rw[if_pos this] at ho;cases ho
theorem j42 {b:List UInt8}{R:Sd->Nd×Sd}{ts:List Nd}(hR:∀t∈ts,∀s l',DAt b s (ndB t++l')->(R s).1=t/\DAt b (R s).2 l')(s:Sd)(l':List UInt8)(h:DAt b s (ndsB ts++l')):∀k,k<=ts.length->(D4 R k s).1=ts.take k/\DAt b (D4 R k s).2 (ndsB (ts.drop k)++l')
 | 0,_=>⟨by rw[D4,List.take_zero],by rw[D4,List.drop_zero];exact h⟩
 | k+1,hk=>by
  obtain⟨h1,h2⟩:=j42 hR s l' h k (by omega);rw[D4,if_neg (by rw[h2.ok];exact Bool.false_ne_true)];have hk':k<ts.length:=by omega
  rw[List.drop_eq_getElem_cons hk',ndsB,List.append_assoc] at h2;obtain⟨h3,h4⟩:=hR ts[k] (List.getElem_mem _) _ _ h2;refine⟨?_,h4⟩;show (D4 R k s).1++[(R (D4 R k s).2).1]=_;rw[h1,h3,List.take_succ_eq_append_getElem hk']
theorem j4L:∀ {ts:List Nd} {c:Bool},feL ts c=0->∀t∈ts,t.fe c=0
 | [],_,_,t,h=>by simp at h
 | u::ts,c,h,t,ht=>by
  rw[feL] at h;by_cases hu:u.fe c=0
  ·rw[if_neg (by rw[hu];decide)] at h;rcases List.mem_cons.1 ht with rfl|ht
   ·exact hu
   ·exact j4L h t ht
  ·rw[if_pos hu] at h;exact absurd h hu
theorem j4i:∀ {ts:List Nd},KnL ts->∀t∈ts,KnN t
 | [],_,t,h=>by simp at h
 | u::ts,h,t,ht=>by
  rw[KnL] at h;rcases List.mem_cons.1 ht with rfl|ht
  ·exact h.1
  ·exact j4i h.2 t ht
theorem j48:∀ {ts:List Nd} {d:Nat},depL ts<=d->∀t∈ts,t.dep<=d
 | [],_,_,t,h=>by simp at h
 | u::ts,d,h,t,ht=>by
  rw[depL] at h;rcases List.mem_cons.1 ht with rfl|ht
  ·omega
  ·exact j48 (by omega) t ht
theorem j44 (b:List UInt8):∀(d:Nat) (t:Nd) (c:Bool) (s:Sd) (l':List UInt8),t.fe c=0->KnN t->t.dep<=d->DAt b s (ndB t++l')->(dNd b d s).1=t/\DAt b (dNd b d s).2 l'
 | 0,.mk h ts,c,s,l',_,_,hd,_=>by rw[Nd.dep] at hd;omega
 | d+1,.mk h ts,c,s,l',h0,hk,hd,ha=>by
  rw[Nd.dep] at hd;rw[KnN] at hk;rw[Nd.fe] at h0;by_cases ho:ownE h ts.length c=0
  ·rw[if_neg (by rw[ho];decide)] at h0;have hz:=jBY ho;obtain⟨k0,k1⟩:=hk.1.k;have e1:rNum 1 (ndB (.mk h ts)++l')=some (h.k.toNat,fldB h ts.length++(ndsB ts++l')):=E4.2 ⟨by omega,by rw[ndB,le1];simp only[List.cons_append,List.nil_append,List.append_assoc]⟩;have e2:rFld h.k.toNat (fldB h ts.length++(ndsB ts++l'))=some ((h,ts.length),ndsB ts++l'):=j2o.2 ⟨⟨hk.1,by omega⟩,rfl⟩;obtain⟨h1,h2⟩:=I6 ha e1;obtain⟨h3,h4⟩:=j92 (by omega) h2 e2;obtain⟨h5,h6⟩:=j42 (R:=dNd b d) (fun t ht s l' q=>j44 b d t _ s l' (j4L h0 t ht) (j4i hk.2 t ht) (j48 (by omega) t ht) q) _ l' h4 ts.length (Nat.le_refl _);rw[dNd,h1,h3];rw[List.take_length] at h5;rw[List.drop_length,ndsB,List.nil_append] at h6;exact⟨by rw[h5],h6⟩
  ·rw[if_pos ho] at h0;exact absurd h0 ho
structure RS (w:World) (r:Nat) (b:List UInt8) (s:Sd):Prop where
 blk:Rs w r b s.1 s.2
 le:s.1<=b.length
 mx:b.length<=9223372036854775807
theorem RS.kp {w w':World}{r:Nat}{b:List UInt8}{s:Sd}{S:Nat->Prop}(h:RS w r b s)(k:Kp w w' S)(hn:¬S r):RS w' r b s:=⟨h.blk.kp k hn,h.le,h.mx⟩
theorem jC2 (r:Nat)(b:List UInt8)(n:Nat)(s:Sd)(w:World)(h:RS w r b s):
 Calls Tryz.prog 138 #[.pointer (some ⟨r,0,none⟩),.int .i64 n] w fun e w'=>e=.returned (.string ⟨(dB b n s).1.toArray⟩)/\RS w' r b (dB b n s).2/\Kp w w' (fun i=>i=r):=
 (j5u r b s.1 n s.2 w h.blk h.le h.mx).mono fun _ _ q=>⟨q.1,⟨q.2.1,(j22 b n s).le h.le,h.mx⟩,q.2.2⟩
theorem j1R (r:Nat)(b:List UInt8)(n:Nat)(s:Sd)(w:World)(hn:n<=8)(h:RS w r b s):
 Calls Tryz.prog 84 #[.pointer (some ⟨r,0,none⟩),.int .i64 n] w fun e w'=>e=.returned (.int .u64 ((dN b n s).1:Nat))/\RS w' r b (dN b n s).2/\Kp w w' (fun i=>i=r):=
 (jCx r b s.1 n s.2 w h.blk h.le h.mx hn).mono fun _ _ q=>⟨q.1,⟨q.2.1,(J0 b n s).le h.le,h.mx⟩,q.2.2⟩
theorem jDa (n:Nat)(h:n<9223372036854775808)(w:World):(convert 80 3 (.int .u64 (n:Nat))).run Tryz.prog w=.ok (.int .i64 (n:Nat)) w:=by
 have h1:IntKind.i64.wrap (n:Int)=n:=by rw[IntKind.wrap_i64];omega
 simp[go_sem,h1]
theorem V4 (r:Nat)(b:List UInt8)(n:Nat)(s:Sd)(w:World)(hn:n<=2)(h:RS w r b s):
 Calls Tryz.prog 85 #[.pointer (some ⟨r,0,none⟩),.int .i64 n] w fun e w'=>e=.returned (.int .i64 ((dN b n s).1:Nat))/\RS w' r b (dN b n s).2/\Kp w w' (fun i=>i=r):=by
 have HN:Hid (Calls Tryz.prog 84 #[.pointer (some ⟨r,0,none⟩),.int .i64 n] w fun e w'=>e=.returned (.int .u64 ((dN b n s).1:Nat))/\RS w' r b (dN b n s).2/\Kp w w' (fun i=>i=r)):=j1R r b n s w (by omega) h;have hlt:=X5 b n s;have hp:256^n<=256^2:=Nat.pow_le_pow_right (by decide) hn;obtain⟨x,hx⟩:∃x,(dN b n s).1=x:=⟨_,rfl⟩;obtain⟨s',hs'⟩:∃s',(dN b n s).2=s':=⟨_,rfl⟩;rw[hx,hs'] at HN ⊢;rw[hx] at hlt;have HU:=jDa x (by omega);clear hlt hp hx hs' h hn;go_enter Tryz.func85,Tryz.ntmps85;go_wp2_with fail;refine HN.out.mono ?_;rintro e w1 ⟨rfl,h1,kp1⟩;have H1:Hid (RS w1 r b s'/\Kp w w1 (fun i=>i=r)):=⟨h1,kp1⟩;clear h1 kp1;go_wp2_with (first|rw[HU] | fail);go_ret;exact⟨rfl,H1.out⟩
theorem j5w (r:Nat)(b:List UInt8)(s:Sd)(w:World)(h:RS w r b s):
 Calls Tryz.prog 141 #[.pointer (some ⟨r,0,none⟩)] w fun e w'=>e=.returned (.bool (dTr b s).1)/\RS w' r b (dTr b s).2/\Kp w w' (fun i=>i=r):=by
 have HN:Hid (Calls Tryz.prog 84 #[.pointer (some ⟨r,0,none⟩),.int .i64 1] w fun e w'=>e=.returned (.int .u64 ((dN b 1 s).1:Nat))/\RS w' r b (dN b 1 s).2/\Kp w w' (fun i=>i=r)):=j1R r b 1 s w (by decide) h;have e1:(dTr b s).1=decide (¬(dN b 1 s).1=0):=rfl;have e2:(dTr b s).2=(dN b 1 s).2:=rfl;obtain⟨x,hx⟩:∃x,(dN b 1 s).1=x:=⟨_,rfl⟩;obtain⟨s',hs'⟩:∃s',(dN b 1 s).2=s':=⟨_,rfl⟩;rw[hx,hs'] at HN;rw[e1,e2,hx,hs'];clear e1 e2 hx hs' h;go_enter Tryz.func141,Tryz.ntmps141;go_wp2_with fail;refine HN.out.mono ?_;rintro e w1 ⟨rfl,h1,kp1⟩;have H1:Hid (RS w1 r b s'/\Kp w w1 (fun i=>i=r)):=⟨h1,kp1⟩;clear h1 kp1;go_wp2_with fail;go_ret;refine⟨?_,H1.out⟩;by_cases hz:x=0
 ·subst hz;rfl
 ·simp[hz]
theorem j5T (r:Nat)(b:List UInt8)(s:Sd)(w:World)(h:RS w r b s):
 Calls Tryz.prog 139 #[.pointer (some ⟨r,0,none⟩)] w fun e w'=>e=.returned (.float .f64 (dN b 8 s).1)/\RS w' r b (dN b 8 s).2/\Kp w w' (fun i=>i=r):=by
 have HN:Hid (Calls Tryz.prog 84 #[.pointer (some ⟨r,0,none⟩),.int .i64 8] w fun e w'=>e=.returned (.int .u64 ((dN b 8 s).1:Nat))/\RS w' r b (dN b 8 s).2/\Kp w w' (fun i=>i=r)):=j1R r b 8 s w (by decide) h;obtain⟨x,hx⟩:∃x,(dN b 8 s).1=x:=⟨_,rfl⟩;obtain⟨s',hs'⟩:∃s',(dN b 8 s).2=s':=⟨_,rfl⟩;rw[hx,hs'] at HN ⊢;clear hx hs' h;go_enter Tryz.func139,Tryz.ntmps139;go_wp2_with fail;refine HN.out.mono ?_;rintro e w1 ⟨rfl,h1,kp1⟩;have H1:Hid (RS w1 r b s'/\Kp w w1 (fun i=>i=r)):=⟨h1,kp1⟩;clear h1 kp1;go_wp2_with fail;go_ret;exact⟨rfl,H1.out⟩
theorem jEI (l:List UInt8)(w:World):∃v W,(convert 9 70 (.string ⟨l.toArray⟩)).run Tryz.prog w=.ok v W/\Kp w W Nul/\(convert 70 9 v).run Tryz.prog W=.ok (.string ⟨l.toArray⟩) W:=by
 have hs:(ByteArray.mk l.toArray).size=l.length:=by show l.toArray.size=_;rw[List.size_toArray]
 have hcv:=run_bytes_of_string (P:=Tryz.prog) w 9 70 5 ⟨l.toArray⟩ Tryz.underlying9 Tryz.underlying70 Tryz.underlying5;rw[hs] at hcv;obtain⟨cap,hcap⟩:∃cap,grownCap w l.length 0 5=cap:=⟨_,rfl⟩;rw[hcap] at hcv;obtain⟨row,hrow⟩:∃row,bytesRow ⟨l.toArray⟩ cap=row:=⟨_,rfl⟩;rw[hrow] at hcv;have hcell:∀j x,l[j]? = some x->row[j]? = some (Value.int .u8 (UInt8.toNat x)):=fun j x hx=>by
  rw[<- hrow];unfold bytesRow;have hj:=(List.getElem?_eq_some_iff.1 hx).1;rw[Array.getElem?_append_left (by simpa using hj)];simp[hx]
 obtain⟨W1,hW1⟩:∃W1,w.drew.alloc (.cells row 5 (row.size,row.size+1))=W1:=⟨_,rfl⟩;rw[hW1] at hcv;have k1:Kp w W1 Nul:=by rw[<- hW1];exact((Kp.refl w Nul).drew).alloc _
 have hb1:W1.heap[w.heap.size]? = some (.cells row 5 (row.size,row.size+1)):=by rw[<- hW1];exact World.alloc_heap_new w.drew _
 have hc1:∀j,W1.cell? ⟨w.heap.size,j,none⟩=row[j]?:=fun j=>cell_of_row W1 w.heap.size j row 5 (row.size,row.size+1) hb1
 have hbk:=run_convert_bytes_back (P:=Tryz.prog) W1 70 9 5 ⟨w.heap.size,0,none⟩ cap l Tryz.underlying70 Tryz.underlying5 Tryz.underlying9 (fun j hj=>by
  have hadd:(⟨w.heap.size,0,none⟩:Addr).add j=⟨w.heap.size,j,none⟩:=by unfold Addr.add;split <;> simp_all
  rw[hadd,hc1];exact hcell j _ (List.getElem?_eq_getElem hj))
 exact⟨_,W1,hcv,k1,hbk⟩
theorem j5y (r:Nat)(b:List UInt8)(s:Sd)(w:World)(h:RS w r b s):
 Calls Tryz.prog 140 #[.pointer (some ⟨r,0,none⟩)] w fun e w'=>e=.returned (.string (dTxt b s).1)/\RS w' r b (dTxt b s).2/\Kp w w' (fun i=>i=r):=by
 have HN:Hid (Calls Tryz.prog 85 #[.pointer (some ⟨r,0,none⟩),.int .i64 2] w fun e w'=>e=.returned (.int .i64 ((dN b 2 s).1:Nat))/\RS w' r b (dN b 2 s).2/\Kp w w' (fun i=>i=r)):=V4 r b 2 s w (by decide) h;have HB:Hid (∀n t w,RS w r b t->Calls Tryz.prog 138 #[.pointer (some ⟨r,0,none⟩),.int .i64 (n:Nat)] w fun e w'=>e=.returned (.string ⟨(dB b n t).1.toArray⟩)/\RS w' r b (dB b n t).2/\Kp w w' (fun i=>i=r)):=fun n t w h=>jC2 r b n t w h
 have e1:(dTxt b s).1=⟨(dB b (dN b 2 s).1 (dN b 2 s).2).1.toArray⟩:=rfl;have e2:(dTxt b s).2=(dB b (dN b 2 s).1 (dN b 2 s).2).2:=rfl;obtain⟨x,hx⟩:∃x,(dN b 2 s).1=x:=⟨_,rfl⟩;obtain⟨s1,hs1⟩:∃s1,(dN b 2 s).2=s1:=⟨_,rfl⟩;rw[hx,hs1] at HN;rw[e1,e2,hx,hs1];have HB1:=HB.out x s1;obtain⟨l,hl⟩:∃l,(dB b x s1).1=l:=⟨_,rfl⟩;obtain⟨s2,hs2⟩:∃s2,(dB b x s1).2=s2:=⟨_,rfl⟩;rw[hl,hs2] at HB1 ⊢;have HB2:Hid (∀w,RS w r b s1->Calls Tryz.prog 138 #[.pointer (some ⟨r,0,none⟩),.int .i64 (x:Nat)] w fun e w'=>e=.returned (.string ⟨l.toArray⟩)/\RS w' r b s2/\Kp w w' (fun i=>i=r)):=HB1;clear e1 e2 hx hs1 hl hs2 h HB HB1;go_enter Tryz.func140,Tryz.ntmps140;go_wp2_with fail;refine HN.out.mono ?_;rintro e w1 ⟨rfl,h1,kp1⟩;have H1:Hid (RS w1 r b s1/\Kp w w1 (fun i=>i=r)):=⟨h1,kp1⟩;clear h1 kp1;go_wp2_with fail;refine(HB2.out _ H1.out.1).mono ?_
 rintro e w2 ⟨rfl,h2,kp2⟩;have H2:Hid (RS w2 r b s2/\Kp w w2 (fun i=>i=r)):=⟨h2,H1.out.2.trans kp2⟩;clear h2 kp2 H1 HB2 HN;obtain⟨v,W,hc1,hk1,hc2⟩:=jEI l w2;have H3:Hid (RS W r b s2/\Kp w W (fun i=>i=r)):=⟨H2.out.1.kp hk1 (fun x=>x),H2.out.2.trans hk1.of_nul⟩;clear H2 hk1;go_wp2_with (first|rw[hc1] | rw[hc2] | fail);go_ret;exact⟨rfl,H3.out⟩
theorem jDI (r:Nat)(b:List UInt8)(s:Sd)(w:World)(h:RS w r b s):
 Calls Tryz.prog 142 #[.pointer (some ⟨r,0,none⟩)] w fun e w'=>e=.returned (.agg #[.int .i64 ((dRef b s).1.1:Nat),.int .i64 ((dRef b s).1.2.1:Nat),.bool (dRef b s).1.2.2.1,.bool (dRef b s).1.2.2.2])/\RS w' r b (dRef b s).2/\Kp w w' (fun i=>i=r):=by
 have HN:Hid (∀t w,RS w r b t->Calls Tryz.prog 85 #[.pointer (some ⟨r,0,none⟩),.int .i64 2] w fun e w'=>e=.returned (.int .i64 ((dN b 2 t).1:Nat))/\RS w' r b (dN b 2 t).2/\Kp w w' (fun i=>i=r)):=fun t w h=>V4 r b 2 t w (by decide) h
 have HM:Hid (∀t w,RS w r b t->Calls Tryz.prog 85 #[.pointer (some ⟨r,0,none⟩),.int .i64 1] w fun e w'=>e=.returned (.int .i64 ((dN b 1 t).1:Nat))/\RS w' r b (dN b 1 t).2/\Kp w w' (fun i=>i=r)):=fun t w h=>V4 r b 1 t w (by decide) h
 unfold dRef;simp only;have hlt:=X5 b 1 (dN b 2 (dN b 2 s).2).2;obtain⟨x,hx⟩:∃x,(dN b 2 s).1=x:=⟨_,rfl⟩;obtain⟨s1,hs1⟩:∃s1,(dN b 2 s).2=s1:=⟨_,rfl⟩;rw[hs1] at hlt;rw[hx,hs1];obtain⟨y,hy⟩:∃y,(dN b 2 s1).1=y:=⟨_,rfl⟩;obtain⟨s2,hs2⟩:∃s2,(dN b 2 s1).2=s2:=⟨_,rfl⟩;rw[hs2] at hlt;rw[hy,hs2];obtain⟨m,hm⟩:∃m,(dN b 1 s2).1=m:=⟨_,rfl⟩;obtain⟨s3,hs3⟩:∃s3,(dN b 1 s2).2=s3:=⟨_,rfl⟩;rw[hm] at hlt;rw[hm,hs3];have HN0:Hid (∀w,RS w r b s->Calls Tryz.prog 85 #[.pointer (some ⟨r,0,none⟩),.int .i64 2] w fun e w'=>e=.returned (.int .i64 (x:Nat))/\RS w' r b s1/\Kp w w' (fun i=>i=r)):=fun w h=>by have:=HN.out s w h;rw[hx,hs1] at this;exact this
 obtain⟨W,hW⟩:∃W,w.alloc (.cells #[.int .i64 0,.int .i64 0,.bool false,.bool false] 61)=W:=⟨_,rfl⟩;have kp0:Kp w W Nul:=by rw[<- hW];exact(Kp.refl w Nul).alloc _
 have HBA:Hid (Blk W w.heap.size [.int .i64 0,.int .i64 0,.bool false,.bool false] 61):=by show Blk _ _ _ _;rw[<- hW];exact Blk.new w [.int .i64 0,.int .i64 0,.bool false,.bool false] _
 have HS0:Hid (RS W r b s):=h.kp kp0 (fun x=>x);have HNe:Hid (¬w.heap.size=r):=by show ¬_;have:=h.blk.lt;omega
 have HK0:Hid (Kp w W (fun i=>i=r)):=kp0.of_nul;have HW:Hid (w.alloc (.cells #[.int .i64 0,.int .i64 0,.bool false,.bool false] 61)=W):=hW;clear hW kp0;have HN1:Hid (∀w,RS w r b s1->Calls Tryz.prog 85 #[.pointer (some ⟨r,0,none⟩),.int .i64 2] w fun e w'=>e=.returned (.int .i64 (y:Nat))/\RS w' r b s2/\Kp w w' (fun i=>i=r)):=fun w h=>by have:=HN.out s1 w h;rw[hy,hs2] at this;exact this
 have HN2:Hid (∀w,RS w r b s2->Calls Tryz.prog 85 #[.pointer (some ⟨r,0,none⟩),.int .i64 1] w fun e w'=>e=.returned (.int .i64 (m:Nat))/\RS w' r b s3/\Kp w w' (fun i=>i=r)):=fun w h=>by have:=HM.out s2 w h;rw[hm,hs3] at this;exact this
 have HM8:Hid (m<256):=hlt;clear HN HM hx hs1 hy hs2 hm hs3 h hlt;go_enter Tryz.func142,Tryz.ntmps142;go_wp2_with (first|(rw[HW.out])|fail);refine(HN0.out _ HS0.out).mono ?_;rintro e w1 ⟨rfl,h1,kp1⟩;have H1:Hid (RS w1 r b s1/\Kp w w1 (fun i=>i=r)):=⟨h1,HK0.out.trans kp1⟩;have HA1:Hid (Blk w1 w.heap.size [.int .i64 0,.int .i64 0,.bool false,.bool false] 61):=HBA.out.kp kp1 (fun e=>HNe.out e);clear h1 kp1 HBA HK0 HS0 HW;go_wp2_with fail;refine(HN1.out _ H1.out.1).mono ?_;rintro e w2 ⟨rfl,h2,kp2⟩;have H2:Hid (RS w2 r b s2/\Kp w w2 (fun i=>i=r)):=⟨h2,H1.out.2.trans kp2⟩;have HA2:Hid (Blk w2 w.heap.size [.int .i64 0,.int .i64 0,.bool false,.bool false] 61):=HA1.out.kp kp2 (fun e=>HNe.out e);clear h2 kp2 H1 HA1;go_wp2_with fail;refine(HN2.out _ H2.out.1).mono ?_;rintro e w3 ⟨rfl,h3,kp3⟩;have H3:Hid (RS w3 r b s3/\Kp w w3 (fun i=>i=r)):=⟨h3,H2.out.2.trans kp3⟩
 have HA3:Hid (Blk w3 w.heap.size [.int .i64 0,.int .i64 0,.bool false,.bool false] 61):=HA2.out.kp kp3 (fun e=>HNe.out e);clear h3 kp3 H2 HA2 HN0 HN1 HN2;go_wp2_with (first|(refine G6 rfl 61 (.tmp 2) (.tmp 22) rfl w.heap.size _ [.int .i64 (x:Nat),.int .i64 (y:Nat),.bool ((m:Int)%2==1),.bool ((wrap64 ((m:Int)/2)).tmod 2==1)] 61 HA3.out rfl rfl rfl j05 (by simp[Value.oneCell']) ?_;intro X hbX hkX)|fail);refine bodyPost_ret (results_cell_row rfl _ _ w.heap.size 61 _ (0,0) _ rfl hbX Tryz.underlying61 rfl j05) rfl ?_;have q1:decide (m%2=1)=((m:Int)%2==1):=by
  rw[Bool.eq_iff_iff,decide_eq_true_iff,beq_iff_eq];omega
 have q2:decide (m/2%2=1)=((wrap64 ((m:Int)/2)).tmod 2==1):=by
  have:=HM8.out;have e3:wrap64 ((m:Int)/2)=(m:Int)/2:=by unfold wrap64;omega
  rw[Bool.eq_iff_iff,decide_eq_true_iff,beq_iff_eq,e3,Int.tmod_eq_emod_of_nonneg (by omega)];omega
 rw[q1,q2];exact⟨rfl,H3.out.1.kp hkX (fun e=>HNe.out e.symm),H3.out.2.trans' hkX (fun i hi e=>by have e':i=w.heap.size:=e;omega)⟩
end
section
open Go.RowKit Go.Shelf
theorem jDj (r:Nat)(b:List UInt8)(s:Sd)(w:World)(h:RS w r b s):
 Calls Tryz.prog 86 #[.pointer (some ⟨r,0,none⟩)] w fun e w'=>e=.returned (dVl b s).1.val/\RS w' r b (dVl b s).2/\Kp w w' (fun i=>i=r):=by
 obtain⟨W,hW⟩:∃W,w.alloc (.cells #[.int .i64 0,.float .f64 0,.string ⟨#[]⟩,.bool false,.int .i64 0] 59)=W:=⟨_,rfl⟩;have kp0:Kp w W Nul:=by rw[<- hW];exact(Kp.refl w Nul).alloc _
 have HBA:Hid (Blk W w.heap.size zVl.cells 59):=by show Blk _ _ _ _;rw[<- hW];exact Blk.new w zVl.cells _
 have HN:Hid (∀t w,RS w r b t->Calls Tryz.prog 85 #[.pointer (some ⟨r,0,none⟩),.int .i64 1] w fun e w'=>e=.returned (.int .i64 ((dN b 1 t).1:Nat))/\RS w' r b (dN b 1 t).2/\Kp w w' (fun i=>i=r)):=fun t w h=>V4 r b 1 t w (by decide) h
 have HD1:Hid (∀t w,RS w r b t->Calls Tryz.prog 139 #[.pointer (some ⟨r,0,none⟩)] w fun e w'=>e=.returned (.float .f64 (dN b 8 t).1)/\RS w' r b (dN b 8 t).2/\Kp w w' (fun i=>i=r)):=fun t w h=>j5T r b t w h
 have HD2:Hid (∀t w,RS w r b t->Calls Tryz.prog 140 #[.pointer (some ⟨r,0,none⟩)] w fun e w'=>e=.returned (.string (dTxt b t).1)/\RS w' r b (dTxt b t).2/\Kp w w' (fun i=>i=r)):=fun t w h=>j5y r b t w h
 have HD3:Hid (∀t w,RS w r b t->Calls Tryz.prog 141 #[.pointer (some ⟨r,0,none⟩)] w fun e w'=>e=.returned (.bool (dTr b t).1)/\RS w' r b (dTr b t).2/\Kp w w' (fun i=>i=r)):=fun t w h=>j5w r b t w h
 have HD4:Hid (∀t w,RS w r b t->Calls Tryz.prog 85 #[.pointer (some ⟨r,0,none⟩),.int .i64 1] w fun e w'=>e=.returned (.int .i64 ((dN b 1 t).1:Nat))/\RS w' r b (dN b 1 t).2/\Kp w w' (fun i=>i=r)):=fun t w h=>V4 r b 1 t w (by decide) h
 have HR0:Hid (RS W r b s):=h.kp kp0 (fun x=>x);have HNe:Hid (¬w.heap.size=r):=by show ¬_;have:=h.blk.lt;omega
 have HK0:Hid (Kp w W (fun i=>i=r)):=kp0.of_nul;have HW:Hid (w.alloc (.cells #[.int .i64 0,.float .f64 0,.string ⟨#[]⟩,.bool false,.int .i64 0] 59)=W):=hW;obtain⟨V,hV⟩:∃V,(dVl b s).1=V:=⟨_,rfl⟩;obtain⟨S,hS⟩:∃S,(dVl b s).2=S:=⟨_,rfl⟩;rw[hV,hS];have HO:Hid ((dVl b s).1=V/\(dVl b s).2=S):=⟨hV,hS⟩;clear h hV hS hW kp0;go_enter Tryz.func86,Tryz.ntmps86;go_wp2_with (first|(rw[HW.out])|fail);refine(HN.out s W HR0.out).mono ?_;have HO1:Hid ((dVf b (dN b 1 s).1 (dN b 1 s).2).1=V/\(dVf b (dN b 1 s).1 (dN b 1 s).2).2=S):=HO.out;obtain⟨kn,hkn⟩:∃kn,(dN b 1 s).1=kn:=⟨_,rfl⟩;obtain⟨t,ht⟩:∃t,(dN b 1 s).2=t:=⟨_,rfl⟩;rw[hkn,ht] at HO1 ⊢;rintro e w1 ⟨rfl,h1,kp1⟩;have hA1:Blk w1 w.heap.size zVl.cells 59:=HBA.out.kp kp1 (fun e=>HNe.out e);obtain⟨w2,hw2⟩:∃w2,w1.alloc (.cells #[.int .i64 (kn:Nat),.float .f64 0,.string ⟨#[]⟩,.bool false,.int .i64 0] 59)=w2:=⟨_,rfl⟩
 have kp2:Kp w1 w2 Nul:=by rw[<- hw2];exact(Kp.refl w1 Nul).alloc _
 have HB2:Hid (RS w2 r b t/\Kp w w2 (fun i=>i=r)):=⟨h1.kp kp2 (fun x=>x),(HK0.out.trans kp1).trans kp2.of_nul⟩;have HA2:Hid (Blk w2 w.heap.size zVl.cells 59):=hA1.kp kp2 (fun x=>x);have HV2:Hid (Blk w2 w1.heap.size [.int .i64 (kn:Nat),.float .f64 0,.string ⟨#[]⟩,.bool false,.int .i64 0] 59):=by show Blk _ _ _ _;rw[<- hw2];exact Blk.new w1 _ _
 have HNv:Hid (¬w1.heap.size=r/\¬w1.heap.size=w.heap.size/\w.heap.size<=w1.heap.size):=by show ¬_/\¬_/\_;have:=h1.blk.lt;have:=hA1.lt;omega
 have HWv:Hid (w1.alloc (.cells #[.int .i64 (kn:Nat),.float .f64 0,.string ⟨#[]⟩,.bool false,.int .i64 0] 59)=w2):=hw2;have l0:w2.cell? ⟨w1.heap.size,0,none⟩=some (.int .i64 (kn:Nat)):=HV2.out.cell rfl;have HEND:Hid (∀(v:Vl) X Y,v=V->RS X r b S->Kp w X (fun i=>i=r∨i=w1.heap.size)->Kp X Y (fun i=>i=w.heap.size)->Ending.returned v.val=.returned V.val/\RS Y r b S/\Kp w Y (fun i=>i=r)):=fun v X Y e1 e2 e3 e4=>⟨by rw[e1],e2.kp e4 (fun e=>HNe.out e.symm),(e3.mono (fun i hi e=>by rcases e with e|e;exact e;have:=HNv.out;omega)).trans' e4 (fun i hi e=>by have e':i=w.heap.size:=e;omega)⟩
 clear h1 kp1 hkn ht HBA HR0 HW hA1 hw2 kp2 HO HN
 go_upto_if 9 with (first|(rw[HWv.out])|fail)
 have hkc:kn=1∨kn=2∨kn=3∨kn=4∨(¬kn=1/\¬kn=2/\¬kn=3/\¬kn=4):=by omega
 rcases hkc with rfl|rfl|rfl|rfl|⟨n1,n2,n3,n4⟩
 ·clear HD2 HD3 HD4;rw[dVf,if_pos rfl] at HO1;go_wp2_with fail;refine(HD1.out t w2 HB2.out.1).mono ?_;obtain⟨x,hx⟩:∃x,(dN b 8 t).1=x:=⟨_,rfl⟩;obtain⟨t3,ht3⟩:∃t3,(dN b 8 t).2=t3:=⟨_,rfl⟩;rw[hx,ht3] at HO1 ⊢;rintro e w3 ⟨rfl,h3,kp3⟩;have hV3:Blk w3 w1.heap.size [.int .i64 ((1:Nat):Int),.float .f64 0,.string ⟨#[]⟩,.bool false,.int .i64 0] 59:=HV2.out.kp kp3 (fun e=>HNv.out.1 e);have HA3:Hid (Blk w3 w.heap.size zVl.cells 59):=HA2.out.kp kp3 (fun e=>HNe.out e);have c3:w3.cell? ⟨w1.heap.size,1,none⟩=some (.float .f64 0):=hV3.cell rfl;have f3:w3.frozen? ⟨w1.heap.size,1,none⟩=false:=hV3.froz 1;have HX3:Hid (Blk (w3.setCell ⟨w1.heap.size,1,none⟩ (.float .f64 x)) w1.heap.size (Vl.cells ({ zVl with k:=1,x:=x })) 59):=hV3.set 1 _;have HAX:Hid (Blk (w3.setCell ⟨w1.heap.size,1,none⟩ (.float .f64 x)) w.heap.size zVl.cells 59):=HA3.out.other _ _ (fun e=>HNv.out.2.1 e.symm)
  have HKX:Hid (Kp w (w3.setCell ⟨w1.heap.size,1,none⟩ (.float .f64 x)) (fun i=>i=r∨i=w1.heap.size)):=((HB2.out.2.trans kp3).mono (fun i _ e=>.inl e)).setCell _ _ (.inr (.inr rfl));have HRX:Hid (RS (w3.setCell ⟨w1.heap.size,1,none⟩ (.float .f64 x)) r b t3):=⟨h3.blk.other _ _ (fun e=>HNv.out.1 e.symm),h3.le,h3.mx⟩;have HRG:Hid ((w3.setCell ⟨w1.heap.size,1,none⟩ (.float .f64 x)).rangeAt w1.heap.size 0 (Vl.cells ({ zVl with k:=1,x:=x }))):=J6 (pre:=[]) (post:=[]) (by rw[List.append_nil];exact HX3.out);clear h3 kp3 hV3 l0 hx ht3;go_wp2_with (first
   | (refine wpList_load_mid rfl 59 (.tmp 3) rfl w1.heap.size 0 rfl (Vl.cells ({ zVl with k:=1,x:=x })) _ HRG.out Tryz.underlying59 rfl E7 ?_)
   | (refine G6 rfl 59 (.tmp 2) (.tmp 29) rfl w.heap.size zVl.cells (Vl.cells ({ zVl with k:=1,x:=x })) 59 HAX.out rfl rfl rfl E7 (Vl.one24 _) ?_;intro Y hbY hkY)
   | fail)
  refine bodyPost_ret (results_cell_row rfl _ _ w.heap.size 59 _ (0,0) _ rfl hbY Tryz.underlying59 rfl E7) rfl ?_;exact HEND.out _ _ Y HO1.out.1 (by rw[<- HO1.out.2];exact HRX.out) HKX.out hkY
 ·clear HD1 HD3 HD4;rw[dVf,if_neg (by decide),if_pos rfl] at HO1;go_wp2_with fail;refine(HD2.out t w2 HB2.out.1).mono ?_;obtain⟨x,hx⟩:∃x,(dTxt b t).1=x:=⟨_,rfl⟩;obtain⟨t3,ht3⟩:∃t3,(dTxt b t).2=t3:=⟨_,rfl⟩;rw[hx,ht3] at HO1 ⊢;rintro e w3 ⟨rfl,h3,kp3⟩;have hV3:Blk w3 w1.heap.size [.int .i64 ((2:Nat):Int),.float .f64 0,.string ⟨#[]⟩,.bool false,.int .i64 0] 59:=HV2.out.kp kp3 (fun e=>HNv.out.1 e);have HA3:Hid (Blk w3 w.heap.size zVl.cells 59):=HA2.out.kp kp3 (fun e=>HNe.out e);have c3:w3.cell? ⟨w1.heap.size,2,none⟩=some (.string ⟨#[]⟩):=hV3.cell rfl;have f3:w3.frozen? ⟨w1.heap.size,2,none⟩=false:=hV3.froz 2;have HX3:Hid (Blk (w3.setCell ⟨w1.heap.size,2,none⟩ (.string x)) w1.heap.size (Vl.cells ({ zVl with k:=2,s:=x })) 59):=hV3.set 2 _;have HAX:Hid (Blk (w3.setCell ⟨w1.heap.size,2,none⟩ (.string x)) w.heap.size zVl.cells 59):=HA3.out.other _ _ (fun e=>HNv.out.2.1 e.symm)
  have HKX:Hid (Kp w (w3.setCell ⟨w1.heap.size,2,none⟩ (.string x)) (fun i=>i=r∨i=w1.heap.size)):=((HB2.out.2.trans kp3).mono (fun i _ e=>.inl e)).setCell _ _ (.inr (.inr rfl));have HRX:Hid (RS (w3.setCell ⟨w1.heap.size,2,none⟩ (.string x)) r b t3):=⟨h3.blk.other _ _ (fun e=>HNv.out.1 e.symm),h3.le,h3.mx⟩;have HRG:Hid ((w3.setCell ⟨w1.heap.size,2,none⟩ (.string x)).rangeAt w1.heap.size 0 (Vl.cells ({ zVl with k:=2,s:=x }))):=J6 (pre:=[]) (post:=[]) (by rw[List.append_nil];exact HX3.out);clear h3 kp3 hV3 l0 hx ht3;go_wp2_with (first
   | (refine wpList_load_mid rfl 59 (.tmp 3) rfl w1.heap.size 0 rfl (Vl.cells ({ zVl with k:=2,s:=x })) _ HRG.out Tryz.underlying59 rfl E7 ?_)
   | (refine G6 rfl 59 (.tmp 2) (.tmp 29) rfl w.heap.size zVl.cells (Vl.cells ({ zVl with k:=2,s:=x })) 59 HAX.out rfl rfl rfl E7 (Vl.one24 _) ?_;intro Y hbY hkY)
   | fail)
  refine bodyPost_ret (results_cell_row rfl _ _ w.heap.size 59 _ (0,0) _ rfl hbY Tryz.underlying59 rfl E7) rfl ?_;exact HEND.out _ _ Y HO1.out.1 (by rw[<- HO1.out.2];exact HRX.out) HKX.out hkY
 ·clear HD1 HD2 HD4;rw[dVf,if_neg (by decide),if_neg (by decide),if_pos rfl] at HO1;go_wp2_with fail;refine(HD3.out t w2 HB2.out.1).mono ?_;obtain⟨x,hx⟩:∃x,(dTr b t).1=x:=⟨_,rfl⟩;obtain⟨t3,ht3⟩:∃t3,(dTr b t).2=t3:=⟨_,rfl⟩;rw[hx,ht3] at HO1 ⊢;rintro e w3 ⟨rfl,h3,kp3⟩;have hV3:Blk w3 w1.heap.size [.int .i64 ((3:Nat):Int),.float .f64 0,.string ⟨#[]⟩,.bool false,.int .i64 0] 59:=HV2.out.kp kp3 (fun e=>HNv.out.1 e);have HA3:Hid (Blk w3 w.heap.size zVl.cells 59):=HA2.out.kp kp3 (fun e=>HNe.out e);have c3:w3.cell? ⟨w1.heap.size,3,none⟩=some (.bool false):=hV3.cell rfl;have f3:w3.frozen? ⟨w1.heap.size,3,none⟩=false:=hV3.froz 3;have HX3:Hid (Blk (w3.setCell ⟨w1.heap.size,3,none⟩ (.bool x)) w1.heap.size (Vl.cells ({ zVl with k:=3,b:=x })) 59):=hV3.set 3 _;have HAX:Hid (Blk (w3.setCell ⟨w1.heap.size,3,none⟩ (.bool x)) w.heap.size zVl.cells 59):=HA3.out.other _ _ (fun e=>HNv.out.2.1 e.symm)
  have HKX:Hid (Kp w (w3.setCell ⟨w1.heap.size,3,none⟩ (.bool x)) (fun i=>i=r∨i=w1.heap.size)):=((HB2.out.2.trans kp3).mono (fun i _ e=>.inl e)).setCell _ _ (.inr (.inr rfl));have HRX:Hid (RS (w3.setCell ⟨w1.heap.size,3,none⟩ (.bool x)) r b t3):=⟨h3.blk.other _ _ (fun e=>HNv.out.1 e.symm),h3.le,h3.mx⟩;have HRG:Hid ((w3.setCell ⟨w1.heap.size,3,none⟩ (.bool x)).rangeAt w1.heap.size 0 (Vl.cells ({ zVl with k:=3,b:=x }))):=J6 (pre:=[]) (post:=[]) (by rw[List.append_nil];exact HX3.out);clear h3 kp3 hV3 l0 hx ht3;go_wp2_with (first
   | (refine wpList_load_mid rfl 59 (.tmp 3) rfl w1.heap.size 0 rfl (Vl.cells ({ zVl with k:=3,b:=x })) _ HRG.out Tryz.underlying59 rfl E7 ?_)
   | (refine G6 rfl 59 (.tmp 2) (.tmp 29) rfl w.heap.size zVl.cells (Vl.cells ({ zVl with k:=3,b:=x })) 59 HAX.out rfl rfl rfl E7 (Vl.one24 _) ?_;intro Y hbY hkY)
   | fail)
  refine bodyPost_ret (results_cell_row rfl _ _ w.heap.size 59 _ (0,0) _ rfl hbY Tryz.underlying59 rfl E7) rfl ?_;exact HEND.out _ _ Y HO1.out.1 (by rw[<- HO1.out.2];exact HRX.out) HKX.out hkY
 ·clear HD1 HD2 HD3;rw[dVf,if_neg (by decide),if_neg (by decide),if_neg (by decide),if_pos rfl] at HO1;go_wp2_with fail;refine(HD4.out t w2 HB2.out.1).mono ?_;obtain⟨x,hx⟩:∃x,(dN b 1 t).1=x:=⟨_,rfl⟩;obtain⟨t3,ht3⟩:∃t3,(dN b 1 t).2=t3:=⟨_,rfl⟩;rw[hx,ht3] at HO1 ⊢;rintro e w3 ⟨rfl,h3,kp3⟩;have hV3:Blk w3 w1.heap.size [.int .i64 ((4:Nat):Int),.float .f64 0,.string ⟨#[]⟩,.bool false,.int .i64 0] 59:=HV2.out.kp kp3 (fun e=>HNv.out.1 e);have HA3:Hid (Blk w3 w.heap.size zVl.cells 59):=HA2.out.kp kp3 (fun e=>HNe.out e);have c3:w3.cell? ⟨w1.heap.size,4,none⟩=some (.int .i64 0):=hV3.cell rfl;have f3:w3.frozen? ⟨w1.heap.size,4,none⟩=false:=hV3.froz 4;have HX3:Hid (Blk (w3.setCell ⟨w1.heap.size,4,none⟩ (.int .i64 (x:Nat))) w1.heap.size (Vl.cells ({ zVl with k:=4,f:=x })) 59):=hV3.set 4 _;have HAX:Hid (Blk (w3.setCell ⟨w1.heap.size,4,none⟩ (.int .i64 (x:Nat))) w.heap.size zVl.cells 59):=HA3.out.other _ _ (fun e=>HNv.out.2.1 e.symm)
  have HKX:Hid (Kp w (w3.setCell ⟨w1.heap.size,4,none⟩ (.int .i64 (x:Nat))) (fun i=>i=r∨i=w1.heap.size)):=((HB2.out.2.trans kp3).mono (fun i _ e=>.inl e)).setCell _ _ (.inr (.inr rfl));have HRX:Hid (RS (w3.setCell ⟨w1.heap.size,4,none⟩ (.int .i64 (x:Nat))) r b t3):=⟨h3.blk.other _ _ (fun e=>HNv.out.1 e.symm),h3.le,h3.mx⟩;have HRG:Hid ((w3.setCell ⟨w1.heap.size,4,none⟩ (.int .i64 (x:Nat))).rangeAt w1.heap.size 0 (Vl.cells ({ zVl with k:=4,f:=x }))):=J6 (pre:=[]) (post:=[]) (by rw[List.append_nil];exact HX3.out);clear h3 kp3 hV3 l0 hx ht3;go_wp2_with (first
   | (refine wpList_load_mid rfl 59 (.tmp 3) rfl w1.heap.size 0 rfl (Vl.cells ({ zVl with k:=4,f:=x })) _ HRG.out Tryz.underlying59 rfl E7 ?_)
   | (refine G6 rfl 59 (.tmp 2) (.tmp 29) rfl w.heap.size zVl.cells (Vl.cells ({ zVl with k:=4,f:=x })) 59 HAX.out rfl rfl rfl E7 (Vl.one24 _) ?_;intro Y hbY hkY)
   | fail)
  refine bodyPost_ret (results_cell_row rfl _ _ w.heap.size 59 _ (0,0) _ rfl hbY Tryz.underlying59 rfl E7) rfl ?_;exact HEND.out _ _ Y HO1.out.1 (by rw[<- HO1.out.2];exact HRX.out) HKX.out hkY
 ·clear HD1 HD2 HD3 HD4;have m1:¬(kn:Int)=1:=by omega
  have m2:¬(kn:Int)=2:=by omega
  have m3:¬(kn:Int)=3:=by omega
  have m4:¬(kn:Int)=4:=by omega
  rw[dVf,if_neg n1,if_neg n2,if_neg n3,if_neg n4] at HO1;have HRG:Hid (w2.rangeAt w1.heap.size 0 (Vl.cells { zVl with k:=(kn:Nat) })):=J6 (pre:=[]) (post:=[]) (by rw[List.append_nil];exact HV2.out);clear n1 n2 n3 n4;go_wp2_with (first
   | (refine wpList_load_mid rfl 59 (.tmp 3) rfl w1.heap.size 0 rfl (Vl.cells { zVl with k:=(kn:Nat) }) _ HRG.out Tryz.underlying59 rfl E7 ?_)
   | (refine G6 rfl 59 (.tmp 2) (.tmp 29) rfl w.heap.size zVl.cells (Vl.cells { zVl with k:=(kn:Nat) }) 59 HA2.out rfl rfl rfl E7 (Vl.one24 _) ?_;intro Y hbY hkY)
   | fail)
  refine bodyPost_ret (results_cell_row rfl _ _ w.heap.size 59 _ (0,0) _ rfl hbY Tryz.underlying59 rfl E7) rfl ?_;exact HEND.out _ w2 Y HO1.out.1 (by rw[<- HO1.out.2];exact HB2.out.1) (HB2.out.2.mono (fun i _ e=>.inl e)) hkY
end
end Go.Proofs.YtnceajanlnnfoaaGreatDoor
