/-Packed, plain: a node's and a content's bytes; reading them. -/
import Derived.Test.YtnceajanlnnfoaaGreatDoorQrQa
set_option maxRecDepth 20000
set_option maxHeartbeats 4000000
namespace Go.Proofs.YtnceajanlnnfoaaGreatDoor
section
def tb (b:Bool):UInt8:=if b then 1 else 0
def txtB (s:ByteArray):List UInt8:=le 2 s.size++s.data.toList
def refB (c r:Nat) (p q:Bool):List UInt8:=le 2 c++(le 2 r++[UInt8.ofNat ((if p then 1 else 0)+(if q then 2 else 0))])
def fldB (h:Hd) (n:Nat):List UInt8:=
 if h.k=1 then le 8 h.x else if h.k=2 then txtB h.s else if h.k=3 then [tb h.b] else if h.k=4 then [UInt8.ofNat h.f.toNat] else
 if h.k=5 then refB h.c1.toNat h.r1.toNat h.p1 h.q1 else if h.k=6 then refB h.c1.toNat h.r1.toNat h.p1 h.q1++refB h.c2.toNat h.r2.toNat h.p2 h.q2 else
 if h.k=7 then [UInt8.ofNat h.o.toNat] else if h.k=8 then [UInt8.ofNat h.o.toNat] else if h.k=9 then txtB h.s++[UInt8.ofNat n] else []
mutual
def ndB:Nd->List UInt8
 | .mk h ts=>UInt8.ofNat h.k.toNat::(fldB h ts.length++ndsB ts)
def ndsB:List Nd->List UInt8
 | []=>[]
 | t::ts=>ndB t++ndsB ts
end
def vlF (v:Vl):List UInt8:=if v.k=1 then le 8 v.x else if v.k=2 then txtB v.s else if v.k=3 then [tb v.b] else if v.k=4 then [UInt8.ofNat v.f.toNat] else []
def vlB (v:Vl):List UInt8:=UInt8.ofNat v.k.toNat::vlF v
def ctB (c:Ct):List UInt8:=UInt8.ofNat c.k.toNat::(if c.k=2 then ndB c.t else vlB c.v)
def rNum (n:Nat) (l:List UInt8):Option (Nat×List UInt8):=if n<=l.length then some (unle (l.take n),l.drop n) else none
theorem E4 {n x:Nat}{l l':List UInt8}:rNum n l=some (x,l')↔x<256^n/\l=le n x++l':=by
 unfold rNum;constructor
 ·intro h;split at h
  ·rename_i hn
   injection h with h;obtain⟨h1,h2⟩:=Prod.mk.inj h;have hl:(l.take n).length=n:=(by rw[List.length_take];omega);have h3:=j0s (l.take n);rw[hl,h1] at h3;refine⟨h3,?_⟩;rw[<- h1,<- h2];have h4:=j2N (l.take n);rw[hl] at h4;rw[h4,List.take_append_drop]
  ·cases h
 ·rintro⟨h1,rfl⟩;have hl:=D8 n x;rw[if_pos (by rw[List.length_append];omega)];rw[List.take_append_of_le_length (by omega),List.drop_append_of_le_length (by omega),List.take_of_length_le (by omega),List.drop_of_length_le (by omega),j37,Nat.mod_eq_of_lt h1,List.nil_append]
def rTxt (l:List UInt8):Option (ByteArray×List UInt8):=(rNum 2 l).bind fun p=>if p.1<=p.2.length then some (⟨(p.2.take p.1).toArray⟩,p.2.drop p.1) else none
theorem j0F {s:ByteArray}{l l':List UInt8}:rTxt l=some (s,l')↔s.size<65536/\l=txtB s++l':=by
 unfold rTxt txtB;rw[Option.bind_eq_some_iff];constructor
 ·rintro⟨⟨n,m⟩,h1,h2⟩;obtain⟨h3,rfl⟩:=E4.1 h1;simp only at h2;split at h2
  ·rename_i hn
   injection h2 with h2;obtain⟨rfl,rfl⟩:=Prod.mk.inj h2;have hs:(ByteArray.mk (m.take n).toArray).size=n:=by
    show (m.take n).toArray.size=n;rw[List.size_toArray,List.length_take];omega
   rw[hs];exact⟨h3,by rw[List.append_assoc];congr 1;exact(List.take_append_drop n m).symm⟩
  ·cases h2
 ·rintro⟨h1,rfl⟩;refine⟨(s.size,s.data.toList++l'),E4.2 ⟨h1,by rw[List.append_assoc]⟩,?_⟩;have hl:s.data.toList.length=s.size:=by rw[Array.length_toList];rfl
  simp only;rw[if_pos (by rw[List.length_append];omega),List.take_append_of_le_length (by omega),List.drop_append_of_le_length (by omega),List.take_of_length_le (by omega),List.drop_of_length_le (by omega),List.nil_append]
def rDbl (l:List UInt8):Option (Nat×List UInt8):=(rNum 8 l).bind fun p=>if one p.1=p.1 then some p else none
theorem j0j {x:Nat}{l l':List UInt8}:rDbl l=some (x,l')↔(x<18446744073709551616/\one x=x)/\l=le 8 x++l':=by
 unfold rDbl;rw[Option.bind_eq_some_iff];constructor
 ·rintro⟨⟨n,m⟩,h1,h2⟩;obtain⟨h3,rfl⟩:=E4.1 h1;simp only at h2;split at h2
  ·rename_i hn
   injection h2 with h2;obtain⟨rfl,rfl⟩:=Prod.mk.inj h2;exact⟨⟨h3,hn⟩,rfl⟩
  ·cases h2
 ·rintro⟨⟨h1,h2⟩,rfl⟩;exact⟨(x,l'),E4.2 ⟨h1,rfl⟩,by simp only;rw[if_pos h2]⟩
theorem le1 (n:Nat):le 1 n=[UInt8.ofNat n]:=rfl
def rTr (l:List UInt8):Option (Bool×List UInt8):=(rNum 1 l).bind fun p=>if p.1<=1 then some (decide (p.1=1),p.2) else none
theorem j1S {b:Bool}{l l':List UInt8}:rTr l=some (b,l')↔l=[tb b]++l':=by
 unfold rTr;rw[Option.bind_eq_some_iff];constructor
 ·rintro⟨⟨n,m⟩,h1,h2⟩;obtain⟨h3,rfl⟩:=E4.1 h1;simp only at h2;split at h2
  ·rename_i hn
   injection h2 with h2;obtain⟨rfl,rfl⟩:=Prod.mk.inj h2;rw[le1]
   match n,hn with
   | 0,_=>rfl
   | 1,_=>rfl
  ·cases h2
 ·rintro rfl;refine⟨((tb b).toNat,l'),E4.2 ⟨by cases b <;> decide,by cases b <;> rfl⟩,?_⟩;cases b <;> rfl
theorem j9R:∀f,f<4->UInt8.ofNat f=UInt8.ofNat ((if decide (f%2=1)=true then 1 else 0)+if decide (f/2=1)=true then 2 else 0):=by decide
def rRef (l:List UInt8):Option ((Nat×Nat×Bool×Bool)×List UInt8):=(rNum 2 l).bind fun c=>(rNum 2 c.2).bind fun r=>(rNum 1 r.2).bind fun f=>if f.1<=3 then some ((c.1,r.1,decide (f.1%2=1),decide (f.1/2=1)),f.2) else none
theorem j0E {c r:Nat}{p q:Bool}{l l':List UInt8}:rRef l=some ((c,r,p,q),l')↔(c<65536/\r<65536)/\l=refB c r p q++l':=by
 unfold rRef refB;rw[Option.bind_eq_some_iff];constructor
 ·rintro⟨⟨c1,m⟩,h1,h2⟩;obtain⟨h3,rfl⟩:=E4.1 h1;rw[Option.bind_eq_some_iff] at h2;obtain⟨⟨r1,m1⟩,h4,h5⟩:=h2;obtain⟨h6,h7⟩:=E4.1 h4;simp only at h7;subst h7;rw[Option.bind_eq_some_iff] at h5;obtain⟨⟨f1,m2⟩,h8,h9⟩:=h5;obtain⟨_,h10⟩:=E4.1 h8;simp only at h10;subst h10;simp only at h9;split at h9
  ·rename_i hn
   injection h9 with h9;obtain⟨h11,rfl⟩:=Prod.mk.inj h9;obtain⟨rfl,h12⟩:=Prod.mk.inj h11;obtain⟨rfl,h13⟩:=Prod.mk.inj h12;obtain⟨rfl,rfl⟩:=Prod.mk.inj h13;refine⟨⟨h3,h6⟩,?_⟩;rw[le1,List.append_assoc,List.append_assoc,j9R f1 (by omega)]
  ·cases h9
 ·rintro⟨⟨h1,h2⟩,rfl⟩;refine⟨(c,_),E4.2 ⟨h1,List.append_assoc _ _ _⟩,?_⟩;rw[Option.bind_eq_some_iff];refine⟨(r,_),E4.2 ⟨h2,List.append_assoc _ _ _⟩,?_⟩;rw[Option.bind_eq_some_iff];refine⟨((if p then 1 else 0)+(if q then 2 else 0),l'),E4.2 ⟨by cases p <;> cases q <;> decide,rfl⟩,?_⟩;cases p <;> cases q <;> simp
structure Kn (h:Hd) (n:Nat):Prop where
 k:0<=h.k/\h.k<10
 j:h=wmJ h
 x:h.x<18446744073709551616/\one h.x=h.x
 s:h.s.size<65536
 o:0<=h.o/\h.o<256
 f:0<=h.f/\h.f<256
 c1:0<=h.c1/\h.c1<65536
 r1:0<=h.r1/\h.r1<65536
 c2:0<=h.c2/\h.c2<65536
 r2:0<=h.r2/\h.r2<65536
 n:if h.k=7 then n=1 else if h.k=8 then n=2 else if h.k=9 then n<256 else n=0
 z:h.k=0->h.s=⟨#[]⟩
def rFld (k:Nat) (l:List UInt8):Option ((Hd×Nat)×List UInt8):=
 if k=0 then some ((zHd,0),l) else
 if k=1 then (rDbl l).map fun p=>(({ zHd with k:=1,x:=p.1 },0),p.2) else
 if k=2 then (rTxt l).map fun p=>(({ zHd with k:=2,s:=p.1 },0),p.2) else
 if k=3 then (rTr l).map fun p=>(({ zHd with k:=3,b:=p.1 },0),p.2) else
 if k=4 then (rNum 1 l).map fun p=>(({ zHd with k:=4,f:=p.1 },0),p.2) else
 if k=5 then (rRef l).map fun p=>(({ zHd with k:=5,c1:=p.1.1,r1:=p.1.2.1,p1:=p.1.2.2.1,q1:=p.1.2.2.2 },0),p.2) else
 if k=6 then (rRef l).bind fun p=>(rRef p.2).map fun q=>(({ zHd with k:=6,c1:=p.1.1,r1:=p.1.2.1,p1:=p.1.2.2.1,q1:=p.1.2.2.2,c2:=q.1.1,r2:=q.1.2.1,p2:=q.1.2.2.1,q2:=q.1.2.2.2 },0),q.2) else
 if k=7 then (rNum 1 l).map fun p=>(({ zHd with k:=7,o:=p.1 },1),p.2) else
 if k=8 then (rNum 1 l).map fun p=>(({ zHd with k:=8,o:=p.1 },2),p.2) else
 if k=9 then (rTxt l).bind fun p=>(rNum 1 p.2).map fun q=>(({ zHd with k:=9,s:=p.1 },q.1),q.2) else none
theorem j2h:one 0=0:=by decide
theorem x_0:(0:Nat)<18446744073709551616/\one 0=0:=⟨by decide,j2h⟩
theorem E9:(0:Int)<=0/\(0:Int)<256:=by decide
theorem z7:(0:Int)<=0/\(0:Int)<65536:=by decide
theorem s_0:(ByteArray.mk #[]).size<65536:=by decide
theorem j2o {k n:Nat}{h:Hd}{l l':List UInt8}:rFld k l=some ((h,n),l')↔(Kn h n/\h.k=k)/\l=fldB h n++l':=by
 constructor
 ·intro e;unfold rFld at e;by_cases k0:k=0
  ·subst k0;rw[if_pos rfl] at e;injection e with e;obtain⟨e1,rfl⟩:=Prod.mk.inj e;obtain⟨rfl,rfl⟩:=Prod.mk.inj e1;exact⟨⟨⟨(by decide:(0:Int)<=0/\(0:Int)<10),rfl,x_0,s_0,E9,E9,z7,z7,z7,z7,rfl,fun _=>rfl⟩,rfl⟩,rfl⟩
  rw[if_neg k0] at e;by_cases k1:k=1
  ·subst k1;rw[if_pos rfl,Option.map_eq_some_iff] at e;obtain⟨⟨x,m⟩,h1,h2⟩:=e;obtain⟨h3,rfl⟩:=j0j.1 h1;obtain⟨h4,rfl⟩:=Prod.mk.inj h2;obtain⟨rfl,rfl⟩:=Prod.mk.inj h4;exact⟨⟨⟨(by decide:(0:Int)<=1/\(1:Int)<10),rfl,h3,s_0,E9,E9,z7,z7,z7,z7,rfl,fun q=>absurd q (by decide:¬(1:Int)=0)⟩,rfl⟩,rfl⟩
  rw[if_neg k1] at e;by_cases k2:k=2
  ·subst k2;rw[if_pos rfl,Option.map_eq_some_iff] at e;obtain⟨⟨x,m⟩,h1,h2⟩:=e;obtain⟨h3,rfl⟩:=j0F.1 h1;obtain⟨h4,rfl⟩:=Prod.mk.inj h2;obtain⟨rfl,rfl⟩:=Prod.mk.inj h4;exact⟨⟨⟨(by decide:(0:Int)<=2/\(2:Int)<10),rfl,x_0,h3,E9,E9,z7,z7,z7,z7,rfl,fun q=>absurd q (by decide:¬(2:Int)=0)⟩,rfl⟩,rfl⟩
  rw[if_neg k2] at e;by_cases k3:k=3
  ·subst k3;rw[if_pos rfl,Option.map_eq_some_iff] at e;obtain⟨⟨x,m⟩,h1,h2⟩:=e;have h3:=j1S.1 h1;subst h3;obtain⟨h4,rfl⟩:=Prod.mk.inj h2;obtain⟨rfl,rfl⟩:=Prod.mk.inj h4;exact⟨⟨⟨(by decide:(0:Int)<=3/\(3:Int)<10),rfl,x_0,s_0,E9,E9,z7,z7,z7,z7,rfl,fun q=>absurd q (by decide:¬(3:Int)=0)⟩,rfl⟩,rfl⟩
  rw[if_neg k3] at e;by_cases k4:k=4
  ·subst k4;rw[if_pos rfl,Option.map_eq_some_iff] at e;obtain⟨⟨x,m⟩,h1,h2⟩:=e;obtain⟨h3,rfl⟩:=E4.1 h1;obtain⟨h4,rfl⟩:=Prod.mk.inj h2;obtain⟨rfl,rfl⟩:=Prod.mk.inj h4;exact⟨⟨⟨(by decide:(0:Int)<=4/\(4:Int)<10),rfl,x_0,s_0,E9,⟨Int.natCast_nonneg _,by show (x:Int)<256;omega⟩,z7,z7,z7,z7,rfl,fun q=>absurd q (by decide:¬(4:Int)=0)⟩,rfl⟩,by rw[le1];rfl⟩
  rw[if_neg k4] at e;by_cases k5:k=5
  ·subst k5;rw[if_pos rfl,Option.map_eq_some_iff] at e;obtain⟨⟨⟨c,r,p,q⟩,m⟩,h1,h2⟩:=e;obtain⟨⟨h3,h3'⟩,rfl⟩:=j0E.1 h1;obtain⟨h4,rfl⟩:=Prod.mk.inj h2;obtain⟨rfl,rfl⟩:=Prod.mk.inj h4;exact⟨⟨⟨(by decide:(0:Int)<=5/\(5:Int)<10),rfl,x_0,s_0,E9,E9,⟨Int.natCast_nonneg _,by show (c:Int)<65536;omega⟩,⟨Int.natCast_nonneg _,by show (r:Int)<65536;omega⟩,z7,z7,rfl,fun q=>absurd q (by decide:¬(5:Int)=0)⟩,rfl⟩,rfl⟩
  rw[if_neg k5] at e;by_cases k6:k=6
  ·subst k6;rw[if_pos rfl,Option.bind_eq_some_iff] at e;obtain⟨⟨⟨c,r,p,q⟩,m⟩,h1,h2⟩:=e;obtain⟨⟨h3,h3'⟩,rfl⟩:=j0E.1 h1;rw[Option.map_eq_some_iff] at h2;obtain⟨⟨⟨c',r',p',q'⟩,m'⟩,h5,h2⟩:=h2;obtain⟨⟨h6,h6'⟩,h7⟩:=j0E.1 h5;simp only at h7;subst h7;obtain⟨h4,rfl⟩:=Prod.mk.inj h2;obtain⟨rfl,rfl⟩:=Prod.mk.inj h4;exact⟨⟨⟨(by decide:(0:Int)<=6/\(6:Int)<10),rfl,x_0,s_0,E9,E9,⟨Int.natCast_nonneg _,by show (c:Int)<65536;omega⟩,⟨Int.natCast_nonneg _,by show (r:Int)<65536;omega⟩,⟨Int.natCast_nonneg _,by show (c':Int)<65536;omega⟩,⟨Int.natCast_nonneg _,by show (r':Int)<65536;omega⟩,rfl,fun q=>absurd q (by decide:¬(6:Int)=0)⟩,rfl⟩,by rw[<- List.append_assoc];rfl⟩
  rw[if_neg k6] at e;by_cases k7:k=7
  ·subst k7;rw[if_pos rfl,Option.map_eq_some_iff] at e;obtain⟨⟨x,m⟩,h1,h2⟩:=e;obtain⟨h3,rfl⟩:=E4.1 h1;obtain⟨h4,rfl⟩:=Prod.mk.inj h2;obtain⟨rfl,rfl⟩:=Prod.mk.inj h4;exact⟨⟨⟨(by decide:(0:Int)<=7/\(7:Int)<10),rfl,x_0,s_0,⟨Int.natCast_nonneg _,by show (x:Int)<256;omega⟩,E9,z7,z7,z7,z7,rfl,fun q=>absurd q (by decide:¬(7:Int)=0)⟩,rfl⟩,by rw[le1];rfl⟩
  rw[if_neg k7] at e;by_cases k8:k=8
  ·subst k8;rw[if_pos rfl,Option.map_eq_some_iff] at e;obtain⟨⟨x,m⟩,h1,h2⟩:=e;obtain⟨h3,rfl⟩:=E4.1 h1;obtain⟨h4,rfl⟩:=Prod.mk.inj h2;obtain⟨rfl,rfl⟩:=Prod.mk.inj h4;exact⟨⟨⟨(by decide:(0:Int)<=8/\(8:Int)<10),rfl,x_0,s_0,⟨Int.natCast_nonneg _,by show (x:Int)<256;omega⟩,E9,z7,z7,z7,z7,rfl,fun q=>absurd q (by decide:¬(8:Int)=0)⟩,rfl⟩,by rw[le1];rfl⟩
  rw[if_neg k8] at e;by_cases k9:k=9
  ·subst k9;rw[if_pos rfl,Option.bind_eq_some_iff] at e;obtain⟨⟨x,m⟩,h1,h2⟩:=e;obtain⟨h3,rfl⟩:=j0F.1 h1;rw[Option.map_eq_some_iff] at h2;obtain⟨⟨y,m'⟩,h5,h2⟩:=h2;obtain⟨h6,h7⟩:=E4.1 h5;simp only at h7;subst h7;obtain⟨h4,rfl⟩:=Prod.mk.inj h2;obtain⟨rfl,rfl⟩:=Prod.mk.inj h4;exact⟨⟨⟨(by decide:(0:Int)<=9/\(9:Int)<10),rfl,x_0,h3,E9,E9,z7,z7,z7,z7,(by show y<256;omega),fun q=>absurd q (by decide:¬(9:Int)=0)⟩,rfl⟩,by rw[<- List.append_assoc];rfl⟩
  rw[if_neg k9] at e;cases e
 ·rintro⟨⟨hc,hk⟩,rfl⟩;obtain⟨b1,b2⟩:=hc.k;have hj:=hc.j;have hn:=hc.n;have hk':h.k.toNat=k:=by omega
  have cases10:h.k=0∨h.k=1∨h.k=2∨h.k=3∨h.k=4∨h.k=5∨h.k=6∨h.k=7∨h.k=8∨h.k=9:=by omega
  obtain⟨_,hx⟩:=hc.x;have hs:=hc.s;obtain⟨o0,o1⟩:=hc.o;obtain⟨f0,f1⟩:=hc.f;obtain⟨c0,c1⟩:=hc.c1;obtain⟨r0,r1⟩:=hc.r1;obtain⟨d0,d1⟩:=hc.c2;obtain⟨s0,s1⟩:=hc.r2;unfold rFld fldB;unfold wmJ at hj;rcases cases10 with q|q|q|q|q|q|q|q|q|q
  ·obtain rfl:k=0:=(by omega);simp only[q] at hj hn ⊢;simp only[if_pos] at hn ⊢;have hz:=hc.z q;simp only[Int.reduceEq,if_false] at hj hn ⊢;subst hn;rw[hz] at hj;rw[hj]
   rfl
  ·obtain rfl:k=1:=(by omega);simp only[q] at hj hn ⊢;simp only[Int.reduceEq,Nat.reduceEqDiff,if_false,if_true,Nat.one_ne_zero] at hj hn ⊢;subst hn;rw[(j0j (x:=h.x) (l':=l')).2 ⟨hc.x,rfl⟩,Option.map_some];simp only;rw[<- hj]
  ·obtain rfl:k=2:=(by omega);simp only[q] at hj hn ⊢;simp only[Int.reduceEq,Nat.reduceEqDiff,if_false,if_true] at hj hn ⊢;subst hn;rw[(j0F (s:=h.s) (l':=l')).2 ⟨hs,rfl⟩];simp only[Option.map_some];rw[<- hj]
  ·obtain rfl:k=3:=(by omega);simp only[q] at hj hn ⊢;simp only[Int.reduceEq,Nat.reduceEqDiff,if_false,if_true] at hj hn ⊢;subst hn;rw[(j1S (b:=h.b) (l':=l')).2 rfl];simp only[Option.map_some];rw[<- hj]
  ·obtain rfl:k=4:=(by omega);simp only[q] at hj hn ⊢;simp only[Int.reduceEq,Nat.reduceEqDiff,if_false,if_true] at hj hn ⊢;subst hn;rw[<- le1,(E4 (n:=1) (x:=h.f.toNat) (l':=l')).2 ⟨by omega,rfl⟩];simp only[Option.map_some,Int.toNat_of_nonneg f0];rw[<- hj]
  ·obtain rfl:k=5:=(by omega);simp only[q] at hj hn ⊢;simp only[Int.reduceEq,Nat.reduceEqDiff,if_false,if_true] at hj hn ⊢;subst hn;rw[(j0E (c:=h.c1.toNat) (r:=h.r1.toNat) (p:=h.p1) (q:=h.q1) (l':=l')).2 ⟨⟨by omega,by omega⟩,rfl⟩];simp only[Option.map_some,Int.toNat_of_nonneg c0,Int.toNat_of_nonneg r0];rw[<- hj]
  ·obtain rfl:k=6:=(by omega);simp only[q] at hj hn ⊢;simp only[Int.reduceEq,Nat.reduceEqDiff,if_false,if_true] at hj hn ⊢;subst hn;rw[(j0E (c:=h.c1.toNat) (r:=h.r1.toNat) (p:=h.p1) (q:=h.q1)).2 ⟨⟨by omega,by omega⟩,List.append_assoc _ _ _⟩,Option.bind_some];simp only;rw[(j0E (c:=h.c2.toNat) (r:=h.r2.toNat) (p:=h.p2) (q:=h.q2) (l':=l')).2 ⟨⟨by omega,by omega⟩,rfl⟩];simp only[Option.map_some,Int.toNat_of_nonneg c0,Int.toNat_of_nonneg r0,Int.toNat_of_nonneg d0,Int.toNat_of_nonneg s0];rw[<- hj]
  ·obtain rfl:k=7:=(by omega);simp only[q] at hj hn ⊢;simp only[Int.reduceEq,Nat.reduceEqDiff,if_false,if_true] at hj hn ⊢;subst hn;rw[<- le1,(E4 (n:=1) (x:=h.o.toNat) (l':=l')).2 ⟨by omega,rfl⟩];simp only[Option.map_some,Int.toNat_of_nonneg o0];rw[<- hj]
  ·obtain rfl:k=8:=(by omega);simp only[q] at hj hn ⊢;simp only[Int.reduceEq,Nat.reduceEqDiff,if_false,if_true] at hj hn ⊢;subst hn;rw[<- le1,(E4 (n:=1) (x:=h.o.toNat) (l':=l')).2 ⟨by omega,rfl⟩];simp only[Option.map_some,Int.toNat_of_nonneg o0];rw[<- hj]
  ·obtain rfl:k=9:=(by omega);simp only[q] at hj hn ⊢;simp only[Int.reduceEq,Nat.reduceEqDiff,if_false,if_true] at hj hn ⊢;rw[(j0F (s:=h.s)).2 ⟨hs,List.append_assoc _ _ _⟩,Option.bind_some];simp only;rw[<- le1,(E4 (n:=1) (x:=n) (l':=l')).2 ⟨by omega,rfl⟩];simp only[Option.map_some];rw[<- hj]
def F2 (R:Nat->List UInt8->Option (Nd×Nat×List UInt8)):Nat->Nat->List UInt8->Option (List Nd×Nat×List UInt8)
 | 0,f,l=>some ([],f,l)
 | c+1,f,l=>(R f l).bind fun p=>(F2 R c p.2.1 p.2.2).map fun q=>(p.1::q.1,q.2.1,q.2.2)
def rNd:Nat->Nat->List UInt8->Option (Nd×Nat×List UInt8)
 | 0,_,_=>none
 | d+1,f,l=>if f=0 then none else (rNum 1 l).bind fun p=>(rFld p.1 p.2).bind fun q=>(F2 (rNd d) q.1.2 (f-1) q.2).map fun r=>(.mk q.1.1 r.1,r.2.1,r.2.2)
mutual
def KnN:Nd->Prop
 | .mk h ts=>Kn h ts.length/\KnL ts
def KnL:List Nd->Prop
 | []=>True
 | t::ts=>KnN t/\KnL ts
end
theorem j1Q {R:Nat->List UInt8->Option (Nd×Nat×List UInt8)}{d:Nat}(hR:∀ {f f' l l' t},f<=d->(R f l=some (t,f',l')↔KnN t/\t.size+f'=f/\l=ndB t++l')):
 ∀(c:Nat) {f f':Nat} {l l':List UInt8} {ts:List Nd},f<=d->(F2 R c f l=some (ts,f',l')↔ts.length=c/\KnL ts/\j5 ts+f'=f/\l=ndsB ts++l')
 | 0,f,f',l,l',ts,_=>by
  rw[F2];constructor
  ·intro e;injection e with e;obtain⟨rfl,e2⟩:=Prod.mk.inj e;obtain⟨rfl,rfl⟩:=Prod.mk.inj e2;refine⟨rfl,?_,?_,?_⟩
   ·rw[KnL];trivial
   ·rw[j5,Nat.zero_add]
   ·rw[ndsB,List.nil_append]
  ·rintro⟨h1,_,h3,h4⟩;obtain rfl:=List.length_eq_zero_iff.1 h1;rw[j5,Nat.zero_add] at h3;rw[ndsB,List.nil_append] at h4;rw[h3,h4]
 | c+1,f,f',l,l',ts,hf=>by
  rw[F2,Option.bind_eq_some_iff];constructor
  ·rintro⟨⟨t,f1,l1⟩,h1,h2⟩;obtain⟨a1,a2,rfl⟩:=(hR hf).1 h1;rw[Option.map_eq_some_iff] at h2;obtain⟨⟨us,f2,l2⟩,h3,h4⟩:=h2;have hf1:f1<=d:=(by omega);obtain⟨b1,b2,b3,b4⟩:=(j1Q hR c hf1).1 h3;obtain⟨rfl,h5⟩:=Prod.mk.inj h4;obtain⟨rfl,rfl⟩:=Prod.mk.inj h5;simp only at b4;subst b4;refine⟨by rw[List.length_cons,b1],?_,?_,?_⟩
   ·rw[KnL];exact⟨a1,b2⟩
   ·rw[j5];show t.size+j5 us+f2=f;omega
   ·rw[ndsB,List.append_assoc]
  ·rintro⟨h1,h2,h3,rfl⟩;cases ts with
   | nil=>simp at h1
   | cons t ts=>
    rw[KnL] at h2;rw[j5] at h3;rw[ndsB];refine⟨(t,f-t.size,ndsB ts++l'),(hR hf).2 ⟨h2.1,by omega,List.append_assoc _ _ _⟩,?_⟩;rw[Option.map_eq_some_iff];have hf1:f-t.size<=d:=(by omega);exact⟨(ts,f',l'),(j1Q hR c hf1).2 ⟨by simpa using h1,h2.2,by omega,rfl⟩,rfl⟩
theorem Y7:∀(d:Nat) {f f':Nat} {l l':List UInt8} {t:Nd},f<=d->(rNd d f l=some (t,f',l')↔KnN t/\t.size+f'=f/\l=ndB t++l')
 | 0,f,f',l,l',t,hf=>by
  rw[rNd];refine⟨fun e=>by (cases e),fun h=>?_⟩;have:=J3 t;omega
 | d+1,f,f',l,l',t,hf=>by
  rw[rNd];by_cases h0:f=0
  ·rw[if_pos h0];refine⟨fun e=>by (cases e),fun h=>?_⟩;have:=J3 t;omega
  rw[if_neg h0,Option.bind_eq_some_iff];constructor
  ·rintro⟨⟨k,l1⟩,h1,h2⟩;obtain⟨h3,rfl⟩:=E4.1 h1;rw[Option.bind_eq_some_iff] at h2;obtain⟨⟨⟨h,n⟩,l2⟩,h4,h5⟩:=h2;obtain⟨⟨h6,h7⟩,h8⟩:=j2o.1 h4;simp only at h7 h8;subst h8;rw[Option.map_eq_some_iff] at h5;obtain⟨⟨ts,f1,l3⟩,h9,h10⟩:=h5;have hf1:f-1<=d:=(by omega);obtain⟨b1,b2,b3,b4⟩:=(j1Q (fun {f f' l l' t} hf=>Y7 d hf) n hf1).1 h9;simp only at b4;subst b4;obtain⟨rfl,h11⟩:=Prod.mk.inj h10;obtain⟨rfl,rfl⟩:=Prod.mk.inj h11;refine⟨?_,?_,?_⟩
   ·rw[KnN,b1];exact⟨h6,b2⟩
   ·rw[Nd.size];show 1+j5 ts+f1=f;omega
   ·have e:h.k.toNat=k:=(by omega);rw[ndB,b1,e,le1];simp only[List.cons_append,List.nil_append,List.append_assoc]
  ·rintro⟨h1,h2,rfl⟩;obtain⟨h,ts⟩:=t;rw[KnN] at h1;rw[Nd.size] at h2;obtain⟨hc,hts⟩:=h1;obtain⟨k0,k1⟩:=hc.k;refine⟨(h.k.toNat,fldB h ts.length++(ndsB ts++l')),E4.2 ⟨by omega,by rw[ndB,le1];simp only[List.cons_append,List.nil_append,List.append_assoc]⟩,?_⟩;rw[Option.bind_eq_some_iff];refine⟨((h,ts.length),ndsB ts++l'),j2o.2 ⟨⟨hc,by simp only;omega⟩,rfl⟩,?_⟩;rw[Option.map_eq_some_iff];have hf1:f-1<=d:=(by omega);exact⟨(ts,f',l'),(j1Q (fun {f f' l l' t} hf=>Y7 d hf) ts.length hf1).2 ⟨rfl,hts,by omega,rfl⟩,rfl⟩
end
section
open Go.RowKit Go.Shelf
theorem le_succ:∀(i n:Nat),le (i+1) n=le i n++[UInt8.ofNat (n/256^i)]
 | 0,n=>by rw[le,le,le,Nat.pow_zero,Nat.div_one];rfl
 | i+1,n=>by
  rw[le,le_succ i,le,List.cons_append,Nat.div_div_eq_div_mul,Nat.pow_succ,Nat.mul_comm 256]
def WrR (b:Nat) (l:List UInt8) (w:World) (g:Option Nat) (e:Ending) (w':World):Prop:=e=.returned (.tuple #[])/\∃g',Bw w' b g' l/\Wr b w w' g g'
theorem jDb (x:Nat)(w:World):(convert 80 5 (.int .u64 x)).run Tryz.prog w=.ok (.int .u8 (UInt8.ofNat x).toNat) w:=by
 have e:((UInt8.ofNat x).toNat:Int)=(x:Int)%256:=by rw[UInt8.toNat_ofNat'];omega
 rw[e];simp[go_sem,convert,run_underlying Tryz.underlying80,run_underlying Tryz.underlying5,IntKind.wrap,IntKind.signed]
theorem V7 (b:Nat)(g:Option Nat)(l:List UInt8)(n k:Nat)(w:World)(hn:n<18446744073709551616)(h:Bw w b g l)(hl:l.length+k<=140737488355328):
 Calls Tryz.prog 28 #[.pointer (some ⟨b,0,none⟩),.int .u64 n,.int .i64 k] w fun e w'=>WrR b (l++le k n) w g e w':=by
 have H:Hid (∀c g l w,Bw w b g l->l.length+1<=140737488355328->Calls Tryz.prog 67 #[.pointer (some ⟨b,0,none⟩),.int .u8 (UInt8.toNat c)] w fun e w'=>e=.returned .nilIface/\∃g',Bw w' b g' (l++[c])/\Wr b w w' g g'):=fun c g l w h hl=>jEq b g l c w h hl
 have HB:Hid (Bw w b g l):=h;have HL:Hid (l.length+k<=140737488355328):=hl;have HN:Hid (n<18446744073709551616):=hn;have hk:(k:Int)<=9223372036854775806:=by omega
 clear h hl hn;go_enter Tryz.func28,Tryz.ntmps28;go_wp2_with fail;go_loopw[1,7] (fun sn si wr=>∃i:Nat,i<=k/\sn=.int .u64 ((n/256^i:Nat):Int)/\si=.int .i64 i/\∃g',Bw wr b g' (l++le i n)/\Wr b w wr g g') (fun _ si _=>((k:Int)-RowKit.intOf si).toNat)
 case atStart=>exact⟨0,Nat.zero_le _,by simp,by simp,g,by rw[le,List.append_nil];exact HB.out,Wr.refl _ _ _⟩
 case round=>
  obtain⟨i,hi,rfl,rfl,g1,hb1,hw1⟩:=hrel;have HB1:Hid (Bw wr b g1 (l++le i n)):=hb1;have HW1:Hid (Wr b w wr g g1):=hw1;clear hb1 hw1;by_cases hlt:i<k
  ·have hlt':(i:Int)<(k:Int):=(by omega);obtain⟨x,hx⟩:∃x,n/256^i=x:=⟨_,rfl⟩;have HX:Hid (n/256^i=x):=hx;have hxl:x<18446744073709551616:=(by rw[<- hx];exact Nat.lt_of_le_of_lt (Nat.div_le_self _ _) HN.out);rw[hx];have hcv:=jDb x;clear hx;go_wp2_with fail;refine(H.out (UInt8.ofNat x) g1 _ _ HB1.out (by rw[List.length_append,D8];have:=HL.out;omega)).mono ?_;rintro e w2 ⟨rfl,g2,hb2,hw2⟩;have HB2:Hid (Bw w2 b g2 (l++le (i+1) n)):=(by show Bw _ _ _ _;rw[le_succ,HX.out,<- List.append_assoc];exact hb2);have HW2:Hid (Wr b w w2 g g2):=HW1.out.trans hw2;have HX2:Hid (((n/256^(i+1):Nat):Int)=(x:Int)/256):=(by show _=_;rw[Nat.pow_succ,<- Nat.div_div_eq_div_mul,HX.out];omega);clear hb2 hw2 hcv;go_wp2_with fail;go_roundw
   case rel=>exact⟨i+1,by omega,by rw[HX2.out],by go_num,g2,HB2.out,HW2.out⟩
   case measure=>simp only[RowKit.intOf];omega
  ·have hie:i=k:=(by omega);subst hie;go_wp2_with fail
   go_end0
   exact⟨rfl,g1,HB1.out,HW1.out⟩
theorem Q6 (n:Nat)(hn:n<9223372036854775808)(w:World):(convert 3 80 (.int .i64 n)).run Tryz.prog w=.ok (.int .u64 n) w:=by
 have e:(n:Int)%18446744073709551616=n:=by omega
 simp[go_sem,convert,run_underlying Tryz.underlying80,run_underlying Tryz.underlying3,IntKind.wrap,IntKind.signed,e]
theorem V8 (b:Nat)(g:Option Nat)(l:List UInt8)(n:Nat)(w:World)(hn:n<9223372036854775808)(h:Bw w b g l)(hl:l.length+1<=140737488355328):
 Calls Tryz.prog 70 #[.pointer (some ⟨b,0,none⟩),.int .i64 n] w fun e w'=>WrR b (l++[UInt8.ofNat n]) w g e w':=by
 have H:Hid (Calls Tryz.prog 28 #[.pointer (some ⟨b,0,none⟩),.int .u64 n,.int .i64 1] w fun e w'=>WrR b (l++le 1 n) w g e w'):=V7 b g l n 1 w (by omega) h hl;have hc:=Q6 n hn;clear h hl hn;go_enter Tryz.func70,Tryz.ntmps70;go_wp2_with fail;refine H.out.mono ?_;rintro e w1 ⟨rfl,h⟩;have HH:Hid (∃g',Bw w1 b g' (l++le 1 n)/\Wr b w w1 g g'):=h;clear h H hc;go_wp2_with fail
 go_end0
 exact⟨rfl,HH.out⟩
theorem j6x (b:Nat)(g:Option Nat)(l:List UInt8)(s:ByteArray)(w:World)(hs:s.size<65536)(h:Bw w b g l)(hl:l.length+(2+s.size)<=140737488355328):
 Calls Tryz.prog 126 #[.pointer (some ⟨b,0,none⟩),.string s] w fun e w'=>WrR b (l++txtB s) w g e w':=by
 have H:Hid (Calls Tryz.prog 28 #[.pointer (some ⟨b,0,none⟩),.int .u64 s.size,.int .i64 2] w fun e w'=>WrR b (l++le 2 s.size) w g e w'):=V7 b g l s.size 2 w (by omega) h (by omega);have H2:Hid (∀g' w',Bw w' b g' (l++le 2 s.size)->Calls Tryz.prog 27 #[.pointer (some ⟨b,0,none⟩),.string s] w' fun e w2=>(∃v,e=.returned v)/\∃g2,Bw w2 b g2 (l++txtB s)/\Wr b w' w2 g' g2):=fun g' w' h'=>by
  have:=j6w b g' (l++le 2 s.size) s w' h' (by rw[List.length_append,D8];omega);rw[List.append_assoc] at this;exact this
 have hc:=Q6 s.size (by omega);clear h hl hs;go_enter Tryz.func126,Tryz.ntmps126;go_wp2_with fail;refine H.out.mono ?_;rintro e w1 ⟨rfl,g1,hb1,hw1⟩;have HB:Hid (Bw w1 b g1 (l++le 2 s.size)):=hb1;have HW:Hid (Wr b w w1 g g1):=hw1;clear hb1 hw1 H hc;go_wp2_with fail;refine(H2.out _ _ HB.out).mono ?_;rintro e w2 ⟨⟨v,rfl⟩,g2,hb2,hw2⟩;have HH:Hid (∃g',Bw w2 b g' (l++txtB s)/\Wr b w w2 g g'):=⟨g2,hb2,HW.out.trans hw2⟩;clear hb2 hw2 H2 HB HW;go_wp2_with fail
 go_end0
 exact⟨rfl,HH.out⟩
theorem j6y (b:Nat)(g:Option Nat)(l:List UInt8)(t:Bool)(w:World)(h:Bw w b g l)(hl:l.length+1<=140737488355328):
 Calls Tryz.prog 127 #[.pointer (some ⟨b,0,none⟩),.bool t] w fun e w'=>WrR b (l++[tb t]) w g e w':=by
 have H:Hid (∀n:Nat,n<2->Calls Tryz.prog 70 #[.pointer (some ⟨b,0,none⟩),.int .i64 n] w fun e w'=>WrR b (l++[UInt8.ofNat n]) w g e w'):=fun n hn=>V8 b g l n w (by omega) h hl
 clear h hl;go_enter Tryz.func127,Tryz.ntmps127;cases t
 ·go_wp2_with fail;refine(H.out 0 (by decide)).mono ?_;rintro e w1 ⟨rfl,h⟩;have HH:Hid (∃g',Bw w1 b g' (l++[tb false])/\Wr b w w1 g g'):=h;clear h H;go_wp2_with fail
  go_end0
  exact⟨rfl,HH.out⟩
 ·go_wp2_with fail;refine(H.out 1 (by decide)).mono ?_;rintro e w1 ⟨rfl,h⟩;have HH:Hid (∃g',Bw w1 b g' (l++[tb true])/\Wr b w w1 g g'):=h;clear h H;go_wp2_with fail
  go_end0
  exact⟨rfl,HH.out⟩
theorem j6v (b:Nat)(g:Option Nat)(l:List UInt8)(c r:Nat)(w:World)(hc:c<65536)(hr:r<65536)(h:Bw w b g l)(hl:l.length+4<=140737488355328):
 Calls Tryz.prog 69 #[.pointer (some ⟨b,0,none⟩),.agg #[.int .i64 c,.int .i64 r]] w fun e w'=>WrR b (l++(le 2 c++le 2 r)) w g e w':=by
 obtain⟨W,hW⟩:∃W,w.alloc (.cells #[.int .i64 c,.int .i64 r] 57)=W:=⟨_,rfl⟩;have k0:Kp w W Nul:=by rw[<- hW];exact(Kp.refl w Nul).alloc _
 have HBk:Hid (Blk W w.heap.size [.int .i64 c,.int .i64 r] 57):=by show Blk _ _ _ _;rw[<- hW];exact Blk.new w _ _
 have H:Hid (Calls Tryz.prog 28 #[.pointer (some ⟨b,0,none⟩),.int .u64 c,.int .i64 2] W fun e w'=>WrR b (l++le 2 c) W g e w'):=V7 b g l c 2 W (by omega) (h.kp k0) (by omega);have H2:Hid (∀g' w',Bw w' b g' (l++le 2 c)->Calls Tryz.prog 28 #[.pointer (some ⟨b,0,none⟩),.int .u64 r,.int .i64 2] w' fun e w2=>WrR b (l++(le 2 c++le 2 r)) w' g' e w2):=fun g' w' h'=>by
  have:=V7 b g' (l++le 2 c) r 2 w' (by omega) h' (by rw[List.length_append,D8];omega);rw[List.append_assoc] at this;exact this
 have HK0:Hid (Kp w W Nul):=k0;have HNb:Hid (¬w.heap.size=b/\¬g=some w.heap.size):=by
  obtain⟨p,v,hp,hb,ho,hg,hne⟩:=h;have h1:b<w.heap.size:=(Array.getElem?_eq_some_iff.1 hb).1;refine⟨by omega,fun e=>?_⟩;obtain⟨c',fz,hc'⟩:=Lib.ownsRowF_kind ho w.heap.size (hg.trans e);have:=(Array.getElem?_eq_some_iff.1 hc').1;omega
 have hcc:=Q6 c (by omega);have hcr:=Q6 r (by omega);have HW:Hid (w.alloc (.cells #[.int .i64 c,.int .i64 r] 57)=W):=hW;clear hW h hl k0 hc hr;have l0:W.cell? ⟨w.heap.size,0,none⟩=some (.int .i64 c):=HBk.out.cell rfl;go_enter Tryz.func69,Tryz.ntmps69;go_wp2_with (first|(rw[HW.out])|fail);refine H.out.mono ?_;rintro e w1 ⟨rfl,g1,hb1,hw1⟩;have HB:Hid (Bw w1 b g1 (l++le 2 c)):=hb1;have HW1:Hid (Wr b w w1 g g1):=(Wr.nul HK0.out).trans hw1;have l1:w1.cell? ⟨w.heap.size,1,none⟩=some (.int .i64 r):=(HBk.out.kp hw1.kp (fun e=>by
  rcases e with e|e
  ·exact HNb.out.1 e
  ·exact HNb.out.2 e)).cell rfl
 clear hb1 hw1 H hcc l0;go_wp2_with fail;refine(H2.out _ _ HB.out).mono ?_;rintro e w2 ⟨rfl,g2,hb2,hw2⟩;have HH:Hid (∃g',Bw w2 b g' (l++(le 2 c++le 2 r))/\Wr b w w2 g g'):=⟨g2,hb2,HW1.out.trans hw2⟩;clear hb2 hw2 H2 HB HW1 l1;go_wp2_with fail
 go_end0
 exact⟨rfl,HH.out⟩
def Apt (F:Nat->Prop) (b:Nat) (g:Option Nat) (w:World):Prop:=∀i,F i->i≠b/\g≠some i/\i<w.heap.size
theorem Apt.wr {F:Nat->Prop}{b:Nat}{g g':Option Nat}{w w':World}(h:Apt F b g w)(k:Wr b w w' g g'):Apt F b g' w':=fun i hi=>by
 obtain⟨h1,h2,h3⟩:=h i hi;refine⟨h1,fun e=>?_,Nat.lt_of_lt_of_le h3 k.kp.size⟩;rcases k.row with r|⟨j,r,hj⟩
 ·exact h2 (r.symm.trans e)
 ·rw[r] at e;injection e with e;omega
theorem Apt.kp {F:Nat->Prop}{b:Nat}{g:Option Nat}{w w':World}(h:Apt F b g w)(k:Kp w w' Nul):Apt F b g w':=fun i hi=>⟨(h i hi).1,(h i hi).2.1,Nat.lt_of_lt_of_le (h i hi).2.2 k.size⟩
theorem Wr.not {F:Nat->Prop}{b:Nat}{g:Option Nat}{w:World}(h:Apt F b g w):∀i,F i->¬(i=b∨g=some i):=fun i hi e=>by
 rcases e with e|e
 ·exact(h i hi).1 e
 ·exact(h i hi).2.1 e
theorem Bw.new {w:World}{b:Nat}{g:Option Nat}{l:List UInt8}(h:Bw w b g l){W:World}(hW:w.heap.size<W.heap.size):Apt (fun i=>i=w.heap.size) b g W:=by
 obtain⟨p,v,hp,hb,ho,hg,hne⟩:=h;have h1:b<w.heap.size:=(Array.getElem?_eq_some_iff.1 hb).1;intro i hi;have hi':i=w.heap.size:=hi;refine⟨by omega,fun e=>?_,by omega⟩;obtain⟨c',fz,hc'⟩:=Lib.ownsRowF_kind ho i (hg.trans e);have:=(Array.getElem?_eq_some_iff.1 hc').1;omega
theorem Blk.wr {w w':World}{N b:Nat}{g g':Option Nat}{cs:List Value}{T:TypeId}(h:Blk w N cs T)(k:Wr b w w' g g')(a:Apt (fun i=>i=N) b g w):Blk w' N cs T:=h.kp k.kp (Wr.not a N rfl)
theorem j6e (b:Nat)(g:Option Nat)(l:List UInt8)(x:Nat)(w:World)(hx:x<18446744073709551616)(h1:one x=x)(h:Bw w b g l)(hl:l.length+8<=140737488355328):
 Calls Tryz.prog 47 #[.pointer (some ⟨b,0,none⟩),.float .f64 x] w fun e w'=>WrR b (l++le 8 x) w g e w':=by
 have H:Hid (Calls Tryz.prog 28 #[.pointer (some ⟨b,0,none⟩),.int .u64 x,.int .i64 8] w fun e w'=>WrR b (l++le 8 x) w g e w'):=V7 b g l x 8 w hx h hl;have HO:Hid (∀w,Calls Tryz.prog 55 #[.float .f64 x] w fun e w'=>e=.returned (.float .f64 x)/\w'=w):=fun w=>by
  have:=j08 x hx w;rw[h1] at this;exact this
 clear h hl hx h1;go_enter Tryz.func47,Tryz.ntmps47;go_wp2_with fail;refine(HO.out _).mono ?_;rintro e w1 ⟨rfl,hz⟩;replace hz:=hz.symm;subst hz;go_wp2_with fail;refine H.out.mono ?_;rintro e w1 ⟨rfl,h⟩;have HH:Hid (∃g',Bw w1 b g' (l++le 8 x)/\Wr b w w1 g g'):=h;clear h H HO;go_wp2_with fail
 go_end0
 exact⟨rfl,HH.out⟩
theorem jFM (b:Nat)(g:Option Nat)(l:List UInt8)(c r:Nat)(p q:Bool)(w:World)(hc:c<65536)(hr:r<65536)(h:Bw w b g l)(hl:l.length+5<=140737488355328):
 Calls Tryz.prog 170 #[.pointer (some ⟨b,0,none⟩),.agg #[.int .i64 c,.int .i64 r,.bool p,.bool q]] w fun e w'=>WrR b (l++refB c r p q) w g e w':=by
 obtain⟨W,hW⟩:∃W,w.alloc (.cells #[.int .i64 c,.int .i64 r,.bool p,.bool q] 61)=W:=⟨_,rfl⟩;have k0:Kp w W Nul:=by rw[<- hW];exact(Kp.refl w Nul).alloc _
 have HBk:Hid (Blk W w.heap.size [.int .i64 c,.int .i64 r,.bool p,.bool q] 61):=by show Blk _ _ _ _;rw[<- hW];exact Blk.new w _ _
 have HA:Hid (Apt (fun i=>i=w.heap.size) b g W):=h.new HBk.out.lt;have H:Hid (Calls Tryz.prog 69 #[.pointer (some ⟨b,0,none⟩),.agg #[.int .i64 c,.int .i64 r]] W fun e w'=>WrR b (l++(le 2 c++le 2 r)) W g e w'):=j6v b g l c r W hc hr (h.kp k0) (by omega);have H2:Hid (∀(n:Nat) g' w',n<256->Bw w' b g' (l++(le 2 c++le 2 r))->Calls Tryz.prog 70 #[.pointer (some ⟨b,0,none⟩),.int .i64 n] w' fun e w2=>WrR b (l++(le 2 c++le 2 r)++[UInt8.ofNat n]) w' g' e w2):=fun n g' w' hn h'=>V8 b g' _ n w' (by omega) h' (by rw[List.length_append,List.length_append,D8,D8];omega)
 have HK0:Hid (Kp w W Nul):=k0;have HW:Hid (w.alloc (.cells #[.int .i64 c,.int .i64 r,.bool p,.bool q] 61)=W):=hW;clear hW h hl k0 hc hr;have l0:W.cell? ⟨w.heap.size,0,none⟩=some (.int .i64 c):=HBk.out.cell rfl;have l1:W.cell? ⟨w.heap.size,1,none⟩=some (.int .i64 r):=HBk.out.cell rfl;go_enter Tryz.func170,Tryz.ntmps170;go_wp2_with (first|(rw[HW.out])|fail);refine H.out.mono ?_;rintro e w1 ⟨rfl,g1,hb1,hw1⟩;have HB:Hid (Bw w1 b g1 (l++(le 2 c++le 2 r))):=hb1;have HW1:Hid (Wr b w w1 g g1):=(Wr.nul HK0.out).trans hw1;have l2:w1.cell? ⟨w.heap.size,2,none⟩=some (.bool p):=(HBk.out.wr hw1 HA.out).cell rfl;have l3:w1.cell? ⟨w.heap.size,3,none⟩=some (.bool q):=(HBk.out.wr hw1 HA.out).cell rfl;clear hb1 hw1 H l0 l1 HW HBk HA HK0;have fin:∀n:Nat,n=(if p then 1 else 0)+(if q then 2 else 0)->∀w2,WrR b (l++(le 2 c++le 2 r)++[UInt8.ofNat n]) w1 g1 (.returned (.tuple #[])) w2->WrR b (l++refB c r p q) w g (.returned (.tuple #[])) w2:=by
  rintro n rfl w2 ⟨_,g2,h1,h2⟩;refine⟨rfl,g2,?_,HW1.out.trans h2⟩;unfold refB;rw[<- List.append_assoc (le 2 c),<- List.append_assoc l];exact h1
 have FIN:Hid (∀n:Nat,n=(if p then 1 else 0)+(if q then 2 else 0)->∀w2,WrR b (l++(le 2 c++le 2 r)++[UInt8.ofNat n]) w1 g1 (.returned (.tuple #[])) w2->WrR b (l++refB c r p q) w g (.returned (.tuple #[])) w2):=fin;clear fin;cases p <;> cases q
 ·go_wp2_with fail;refine(H2.out 0 _ _ (by decide) HB.out).mono ?_;rintro e w2 ⟨rfl,hh⟩;have HH:Hid (WrR b (l++(le 2 c++le 2 r)++[UInt8.ofNat 0]) w1 g1 (.returned (.tuple #[])) w2):=⟨rfl,hh⟩;clear hh;go_wp2_with fail
  go_end0
  exact FIN.out 0 (by simp) _ HH.out
 ·go_wp2_with fail;refine(H2.out 2 _ _ (by decide) HB.out).mono ?_;rintro e w2 ⟨rfl,hh⟩;have HH:Hid (WrR b (l++(le 2 c++le 2 r)++[UInt8.ofNat 2]) w1 g1 (.returned (.tuple #[])) w2):=⟨rfl,hh⟩;clear hh;go_wp2_with fail
  go_end0
  exact FIN.out 2 (by simp) _ HH.out
 ·go_wp2_with fail;refine(H2.out 1 _ _ (by decide) HB.out).mono ?_;rintro e w2 ⟨rfl,hh⟩;have HH:Hid (WrR b (l++(le 2 c++le 2 r)++[UInt8.ofNat 1]) w1 g1 (.returned (.tuple #[])) w2):=⟨rfl,hh⟩;clear hh;go_wp2_with fail
  go_end0
  exact FIN.out 1 (by simp) _ HH.out
 ·go_wp2_with fail;refine(H2.out 3 _ _ (by decide) HB.out).mono ?_;rintro e w2 ⟨rfl,hh⟩;have HH:Hid (WrR b (l++(le 2 c++le 2 r)++[UInt8.ofNat 3]) w1 g1 (.returned (.tuple #[])) w2):=⟨rfl,hh⟩;clear hh;go_wp2_with fail
  go_end0
  exact FIN.out 3 (by simp) _ HH.out
structure KnV (v:Vl):Prop where
 k:1<=v.k/\v.k<=4
 x:v.x<18446744073709551616/\one v.x=v.x
 s:v.s.size<65536
 f:0<=v.f/\v.f<256
theorem jFN (b:Nat)(g:Option Nat)(l:List UInt8)(v:Vl)(w:World)(hv:KnV v)(h:Bw w b g l)(hl:l.length+70000<=140737488355328):
 Calls Tryz.prog 72 #[.pointer (some ⟨b,0,none⟩),v.val] w fun e w'=>WrR b (l++vlB v) w g e w':=by
 obtain⟨vk,x,s,t,f⟩:=v;obtain⟨⟨hk0,hk1⟩,⟨hx,hx1⟩,hs,⟨hf0,hf1⟩⟩:=hv;simp only at hk0 hk1 hx hx1 hs hf0 hf1;obtain⟨fn,rfl⟩:∃fn:Nat,f=fn:=⟨f.toNat,by omega⟩;obtain⟨kn,rfl⟩:∃kn:Nat,vk=kn:=⟨vk.toNat,by omega⟩;obtain⟨W,hW⟩:∃W,w.alloc (.cells #[.int .i64 kn,.float .f64 x,.string s,.bool t,.int .i64 fn] 59)=W:=⟨_,rfl⟩;have k0:Kp w W Nul:=by rw[<- hW];exact(Kp.refl w Nul).alloc _
 have HBk:Hid (Blk W w.heap.size [.int .i64 kn,.float .f64 x,.string s,.bool t,.int .i64 fn] 59):=by show Blk _ _ _ _;rw[<- hW];exact Blk.new w _ _
 have HA:Hid (Apt (fun i=>i=w.heap.size) b g W):=h.new HBk.out.lt;have H:Hid (Calls Tryz.prog 70 #[.pointer (some ⟨b,0,none⟩),.int .i64 kn] W fun e w'=>WrR b (l++[UInt8.ofNat kn]) W g e w'):=V8 b g l kn W (by omega) (h.kp k0) (by omega);have bd:(l++[UInt8.ofNat kn]).length=l.length+1:=by simp
 have H1:Hid (∀g' w',Bw w' b g' (l++[UInt8.ofNat kn])->Calls Tryz.prog 47 #[.pointer (some ⟨b,0,none⟩),.float .f64 x] w' fun e w2=>WrR b (l++[UInt8.ofNat kn]++le 8 x) w' g' e w2):=fun g' w' h'=>j6e b g' _ x w' hx hx1 h' (by omega)
 have H2:Hid (∀g' w',Bw w' b g' (l++[UInt8.ofNat kn])->Calls Tryz.prog 126 #[.pointer (some ⟨b,0,none⟩),.string s] w' fun e w2=>WrR b (l++[UInt8.ofNat kn]++txtB s) w' g' e w2):=fun g' w' h'=>j6x b g' _ s w' hs h' (by omega)
 have H3:Hid (∀g' w',Bw w' b g' (l++[UInt8.ofNat kn])->Calls Tryz.prog 127 #[.pointer (some ⟨b,0,none⟩),.bool t] w' fun e w2=>WrR b (l++[UInt8.ofNat kn]++[tb t]) w' g' e w2):=fun g' w' h'=>j6y b g' _ t w' h' (by omega)
 have H4:Hid (∀g' w',Bw w' b g' (l++[UInt8.ofNat kn])->Calls Tryz.prog 70 #[.pointer (some ⟨b,0,none⟩),.int .i64 fn] w' fun e w2=>WrR b (l++[UInt8.ofNat kn]++[UInt8.ofNat fn]) w' g' e w2):=fun g' w' h'=>V8 b g' _ fn w' (by omega) h' (by omega)
 have HK0:Hid (Kp w W Nul):=k0;have HW:Hid (w.alloc (.cells #[.int .i64 kn,.float .f64 x,.string s,.bool t,.int .i64 fn] 59)=W):=hW;have hkc:kn=1∨kn=2∨kn=3∨kn=4:=by omega
 clear hW h hl k0 bd hs hx hx1 hf0 hf1 hk0 hk1;have l0:W.cell? ⟨w.heap.size,0,none⟩=some (.int .i64 kn):=HBk.out.cell rfl;go_enter Tryz.func72,Tryz.ntmps72;go_wp2_with (first|(rw[HW.out])|fail);refine H.out.mono ?_;rintro e w1 ⟨rfl,g1,hb1,hw1⟩;have HB:Hid (Bw w1 b g1 (l++[UInt8.ofNat kn])):=hb1;have HW1:Hid (Wr b w w1 g g1):=(Wr.nul HK0.out).trans hw1;have HBk1:Hid (Blk w1 w.heap.size [.int .i64 kn,.float .f64 x,.string s,.bool t,.int .i64 fn] 59):=HBk.out.wr hw1 HA.out;clear hb1 hw1 H l0 HW HBk HA HK0;have l0:w1.cell? ⟨w.heap.size,0,none⟩=some (.int .i64 kn):=HBk1.out.cell rfl;have l1:w1.cell? ⟨w.heap.size,1,none⟩=some (.float .f64 x):=HBk1.out.cell rfl;have l2:w1.cell? ⟨w.heap.size,2,none⟩=some (.string s):=HBk1.out.cell rfl;have l3:w1.cell? ⟨w.heap.size,3,none⟩=some (.bool t):=HBk1.out.cell rfl;have l4:w1.cell? ⟨w.heap.size,4,none⟩=some (.int .i64 fn):=HBk1.out.cell rfl
 have FIN:Hid (∀m w2,vlF ⟨kn,x,s,t,fn⟩=m->WrR b (l++[UInt8.ofNat kn]++m) w1 g1 (.returned (.tuple #[])) w2->WrR b (l++vlB ⟨kn,x,s,t,fn⟩) w g (.returned (.tuple #[])) w2):=by
  rintro m w2 rfl ⟨_,g2,h1,h2⟩;refine⟨rfl,g2,?_,HW1.out.trans h2⟩;unfold vlB;simp only[Int.toNat_natCast];rw[List.append_assoc] at h1;exact h1
 rcases hkc with rfl|rfl|rfl|rfl
 ·clear H2 H3 H4;go_wp2_with fail;refine(H1.out _ _ HB.out).mono ?_;rintro e w2 ⟨rfl,hh⟩;have HH:Hid (WrR b (l++[UInt8.ofNat 1]++le 8 x) w1 g1 (.returned (.tuple #[])) w2):=⟨rfl,hh⟩;clear hh;go_wp2_with fail
  go_end0
  exact FIN.out _ _ rfl HH.out
 ·clear H1 H3 H4;go_wp2_with fail;refine(H2.out _ _ HB.out).mono ?_;rintro e w2 ⟨rfl,hh⟩;have HH:Hid (WrR b (l++[UInt8.ofNat 2]++txtB s) w1 g1 (.returned (.tuple #[])) w2):=⟨rfl,hh⟩;clear hh;go_wp2_with fail
  go_end0
  exact FIN.out _ _ rfl HH.out
 ·clear H1 H2 H4;go_wp2_with fail;refine(H3.out _ _ HB.out).mono ?_;rintro e w2 ⟨rfl,hh⟩;have HH:Hid (WrR b (l++[UInt8.ofNat 3]++[tb t]) w1 g1 (.returned (.tuple #[])) w2):=⟨rfl,hh⟩;clear hh;go_wp2_with fail
  go_end0
  exact FIN.out _ _ rfl HH.out
 ·clear H1 H2 H3;go_wp2_with fail;refine(H4.out _ _ HB.out).mono ?_;rintro e w2 ⟨rfl,hh⟩;have HH:Hid (WrR b (l++[UInt8.ofNat 4]++[UInt8.ofNat fn]) w1 g1 (.returned (.tuple #[])) w2):=⟨rfl,hh⟩;clear hh;go_wp2_with fail
  go_end0
  exact FIN.out _ _ rfl HH.out
def fB (h:Hd) (i:Nat):List UInt8:=
 if i=1 then le 8 h.x else if i=2 then txtB h.s else if i=3 then [tb h.b] else if i=4 then [UInt8.ofNat h.f.toNat] else
 if i=5 then refB h.c1.toNat h.r1.toNat h.p1 h.q1 else if i=6 then refB h.c2.toNat h.r2.toNat h.p2 h.q2 else if i=7 then [UInt8.ofNat h.o.toNat] else []
def sh0 (k:Nat):Nat:=[0,1,2,3,4,5,5,7,7,2].getD k 0
def sh1 (k:Nat):Nat:=if k=6 then 6 else 0
def shP (k:Nat):Nat:=if k=7 then 1 else if k=8 then 2 else 0
def shC (k:Nat):Bool:=k==9
theorem j4Q {h:Hd}{n:Nat}(hk:0<=h.k/\h.k<10):fldB h n=fB h (sh0 h.k.toNat)++(fB h (sh1 h.k.toNat)++(if shC h.k.toNat then [UInt8.ofNat n] else [])):=by
 obtain⟨b1,b2⟩:=hk;have cases10:h.k=0∨h.k=1∨h.k=2∨h.k=3∨h.k=4∨h.k=5∨h.k=6∨h.k=7∨h.k=8∨h.k=9:=by omega
 unfold fldB;rcases cases10 with q|q|q|q|q|q|q|q|q|q;all_goals
  rw[q];simp[sh0,sh1,shC,fB]
def Z1:List Value:=[.int .i64 0,.int .i64 0,.int .i64 0,.bool false,.int .i64 1,.int .i64 0,.int .i64 0,.bool false,.int .i64 2,.int .i64 0,.int .i64 0,.bool false,.int .i64 3,.int .i64 0,.int .i64 0,.bool false,.int .i64 4,.int .i64 0,.int .i64 0,.bool false,
 .int .i64 5,.int .i64 0,.int .i64 0,.bool false,.int .i64 5,.int .i64 6,.int .i64 0,.bool false,.int .i64 7,.int .i64 0,.int .i64 1,.bool false,.int .i64 7,.int .i64 0,.int .i64 2,.bool false,.int .i64 2,.int .i64 0,.int .i64 0,.bool true]
theorem j6A (k:Nat)(hk:k<10):Z1[k*4]? = some (.int .i64 (sh0 k))/\Z1[k*4+1]? = some (.int .i64 (sh1 k))/\Z1[k*4+2]? = some (.int .i64 (shP k))/\Z1[k*4+3]? = some (.bool (shC k)):=by
 match k,hk with
 | 0,_=>exact⟨rfl,rfl,rfl,rfl⟩
 | 1,_=>exact⟨rfl,rfl,rfl,rfl⟩
 | 2,_=>exact⟨rfl,rfl,rfl,rfl⟩
 | 3,_=>exact⟨rfl,rfl,rfl,rfl⟩
 | 4,_=>exact⟨rfl,rfl,rfl,rfl⟩
 | 5,_=>exact⟨rfl,rfl,rfl,rfl⟩
 | 6,_=>exact⟨rfl,rfl,rfl,rfl⟩
 | 7,_=>exact⟨rfl,rfl,rfl,rfl⟩
 | 8,_=>exact⟨rfl,rfl,rfl,rfl⟩
 | 9,_=>exact⟨rfl,rfl,rfl,rfl⟩
def Sh (w:World):Prop:=∃T fr,w.heap[1]? = some (.cells Z1.toArray T fr)
theorem Sh.kp {w w':World}{S:Nat->Prop}(h:Sh w)(k:Kp w w' S)(hn:¬S 1):Sh w':=by
 obtain⟨T,fr,h⟩:=h;exact⟨T,fr,(k.block _ (Array.getElem?_eq_some_iff.1 h).1 hn).trans h⟩
theorem Sh.cell {w:World}(h:Sh w){i:Nat}{v:Value}(hi:Z1[i]? = some v):w.cell? ⟨1,i,none⟩=some v:=by
 obtain⟨T,fr,h⟩:=h;rw[Lib.cell_of_heap h]
 simpa using hi
theorem jEt (b:Nat)(g:Option Nat)(l:List UInt8)(h:Hd)(n i:Nat)(sa:Option Addr)(sm sc:Nat)(w:World)(hc:Kn h n)(hi:i<8)(hb:Bw w b g l)(hl:l.length+70000<=140737488355328):
 Calls Tryz.prog 125 #[.pointer (some ⟨b,0,none⟩),h.val (.slice sa sm sc),.int .i64 i] w fun e w'=>WrR b (l++fB h i) w g e w':=by
 obtain⟨-,-,⟨hx,hx1⟩,hs,⟨o0,o1⟩,⟨f0,f1⟩,⟨c0,c1⟩,⟨r0,r1⟩,⟨d0,d1⟩,⟨s0,s1⟩,-,-⟩:=hc;obtain⟨k,o,x,s,t,f,c1',r1',p1,q1,c2',r2',p2,q2⟩:=h;simp only at hx hx1 hs o0 o1 f0 f1 c0 c1 r0 r1 d0 d1 s0 s1;obtain⟨on,rfl⟩:∃m:Nat,o=m:=⟨o.toNat,by omega⟩;obtain⟨fn,rfl⟩:∃m:Nat,f=m:=⟨f.toNat,by omega⟩;obtain⟨c1n,rfl⟩:∃m:Nat,c1'=m:=⟨c1'.toNat,by omega⟩;obtain⟨r1n,rfl⟩:∃m:Nat,r1'=m:=⟨r1'.toNat,by omega⟩;obtain⟨c2n,rfl⟩:∃m:Nat,c2'=m:=⟨c2'.toNat,by omega⟩;obtain⟨r2n,rfl⟩:∃m:Nat,r2'=m:=⟨r2'.toNat,by omega⟩;obtain⟨W,hW⟩:∃W,w.alloc (.cells #[.int .i64 k,.int .i64 on,.float .f64 x,.string s,.bool t,.int .i64 fn,.int .i64 c1n,.int .i64 r1n,.bool p1,.bool q1,.int .i64 c2n,.int .i64 r2n,.bool p2,.bool q2,.slice sa sm sc] 64)=W:=⟨_,rfl⟩;have k0:Kp w W Nul:=by rw[<- hW];exact(Kp.refl w Nul).alloc _
 have hBk:Blk W w.heap.size [.int .i64 k,.int .i64 on,.float .f64 x,.string s,.bool t,.int .i64 fn,.int .i64 c1n,.int .i64 r1n,.bool p1,.bool q1,.int .i64 c2n,.int .i64 r2n,.bool p2,.bool q2,.slice sa sm sc] 64:=by rw[<- hW];exact Blk.new w _ _
 have HB:Hid (Bw W b g l):=hb.kp k0;have H1:Hid (Calls Tryz.prog 47 #[.pointer (some ⟨b,0,none⟩),.float .f64 x] W fun e w2=>WrR b (l++le 8 x) W g e w2):=j6e b g _ x W hx hx1 HB.out (by omega);have H2:Hid (Calls Tryz.prog 126 #[.pointer (some ⟨b,0,none⟩),.string s] W fun e w2=>WrR b (l++txtB s) W g e w2):=j6x b g _ s W hs HB.out (by omega);have H3:Hid (Calls Tryz.prog 127 #[.pointer (some ⟨b,0,none⟩),.bool t] W fun e w2=>WrR b (l++[tb t]) W g e w2):=j6y b g _ t W HB.out (by omega);have H4:Hid (∀fn:Nat,fn<256->Calls Tryz.prog 70 #[.pointer (some ⟨b,0,none⟩),.int .i64 fn] W fun e w2=>WrR b (l++[UInt8.ofNat fn]) W g e w2):=fun fn hf=>V8 b g _ fn W (by omega) HB.out (by omega)
 have H5:Hid (∀(c r:Nat) p q,c<65536->r<65536->Calls Tryz.prog 170 #[.pointer (some ⟨b,0,none⟩),.agg #[.int .i64 c,.int .i64 r,.bool p,.bool q]] W fun e w2=>WrR b (l++refB c r p q) W g e w2):=fun c r p q hc hr=>jFM b g _ c r p q W hc hr HB.out (by omega)
 have HK0:Hid (Kp w W Nul):=k0;have HW:Hid (w.alloc (.cells #[.int .i64 k,.int .i64 on,.float .f64 x,.string s,.bool t,.int .i64 fn,.int .i64 c1n,.int .i64 r1n,.bool p1,.bool q1,.int .i64 c2n,.int .i64 r2n,.bool p2,.bool q2,.slice sa sm sc] 64)=W):=hW;have FIN:Hid (∀m e w2,fB ⟨k,on,x,s,t,fn,c1n,r1n,p1,q1,c2n,r2n,p2,q2⟩ i=m->WrR b (l++m) W g e w2->WrR b (l++fB ⟨k,on,x,s,t,fn,c1n,r1n,p1,q1,c2n,r2n,p2,q2⟩ i) w g e w2):=by
  rintro m e w2 rfl ⟨h0,g2,h1,h2⟩;exact⟨h0,g2,h1,(Wr.nul HK0.out).trans h2⟩
 have HON:Hid (on<256):=by show _<_;omega
 have HFN:Hid (fn<256):=by show _<_;omega
 have HC1:Hid (c1n<65536):=by show _<_;omega
 have HR1:Hid (r1n<65536):=by show _<_;omega
 have HC2:Hid (c2n<65536):=by show _<_;omega
 have HR2:Hid (r2n<65536):=by show _<_;omega
 have l1:W.cell? ⟨w.heap.size,1,none⟩=some (.int .i64 on):=hBk.cell rfl;have l2:W.cell? ⟨w.heap.size,2,none⟩=some (.float .f64 x):=hBk.cell rfl;have l3:W.cell? ⟨w.heap.size,3,none⟩=some (.string s):=hBk.cell rfl;have l4:W.cell? ⟨w.heap.size,4,none⟩=some (.bool t):=hBk.cell rfl;have l5:W.cell? ⟨w.heap.size,5,none⟩=some (.int .i64 fn):=hBk.cell rfl;have l6:W.cell? ⟨w.heap.size,6,none⟩=some (.int .i64 c1n):=hBk.cell rfl;have l7:W.cell? ⟨w.heap.size,7,none⟩=some (.int .i64 r1n):=hBk.cell rfl;have l8:W.cell? ⟨w.heap.size,8,none⟩=some (.bool p1):=hBk.cell rfl;have l9:W.cell? ⟨w.heap.size,9,none⟩=some (.bool q1):=hBk.cell rfl;have l10:W.cell? ⟨w.heap.size,10,none⟩=some (.int .i64 c2n):=hBk.cell rfl;have l11:W.cell? ⟨w.heap.size,11,none⟩=some (.int .i64 r2n):=hBk.cell rfl;have l12:W.cell? ⟨w.heap.size,12,none⟩=some (.bool p2):=hBk.cell rfl;have l13:W.cell? ⟨w.heap.size,13,none⟩=some (.bool q2):=hBk.cell rfl
 have hic:i=0∨i=1∨i=2∨i=3∨i=4∨i=5∨i=6∨i=7:=by omega
 clear hW hb hl k0 hs hx hx1 f0 f1 o0 o1 c0 c1 r0 r1 d0 d1 s0 s1 hBk hi;go_enter Tryz.func125,Tryz.ntmps125;rcases hic with rfl|rfl|rfl|rfl|rfl|rfl|rfl|rfl
 ·go_wp2_with (first|(rw[HW.out])|fail)
  go_end0
  exact FIN.out [] _ _ rfl ⟨rfl,g,by rw[List.append_nil];exact HB.out,Wr.refl _ _ _⟩
 ·go_wp2_with (first|(rw[HW.out])|fail);refine H1.out.mono ?_;rintro e w2 ⟨rfl,hh⟩;have HH:Hid (WrR b (l++le 8 x) W g (.returned (.tuple #[])) w2):=⟨rfl,hh⟩;clear hh;go_wp2_with fail
  go_end0
  exact FIN.out _ _ _ rfl HH.out
 ·go_wp2_with (first|(rw[HW.out])|fail);refine H2.out.mono ?_;rintro e w2 ⟨rfl,hh⟩;have HH:Hid (WrR b (l++txtB s) W g (.returned (.tuple #[])) w2):=⟨rfl,hh⟩;clear hh;go_wp2_with fail
  go_end0
  exact FIN.out _ _ _ rfl HH.out
 ·go_wp2_with (first|(rw[HW.out])|fail);refine H3.out.mono ?_;rintro e w2 ⟨rfl,hh⟩;have HH:Hid (WrR b (l++[tb t]) W g (.returned (.tuple #[])) w2):=⟨rfl,hh⟩;clear hh;go_wp2_with fail
  go_end0
  exact FIN.out _ _ _ rfl HH.out
 ·go_wp2_with (first|(rw[HW.out])|fail);refine(H4.out fn HFN.out).mono ?_;rintro e w2 ⟨rfl,hh⟩;have HH:Hid (WrR b (l++[UInt8.ofNat fn]) W g (.returned (.tuple #[])) w2):=⟨rfl,hh⟩;clear hh;go_wp2_with fail
  go_end0
  exact FIN.out _ _ _ rfl HH.out
 ·go_wp2_with (first|(rw[HW.out])|fail);refine(H5.out c1n r1n p1 q1 HC1.out HR1.out).mono ?_;rintro e w2 ⟨rfl,hh⟩;have HH:Hid (WrR b (l++refB c1n r1n p1 q1) W g (.returned (.tuple #[])) w2):=⟨rfl,hh⟩;clear hh;go_wp2_with fail
  go_end0
  exact FIN.out _ _ _ rfl HH.out
 ·go_wp2_with (first|(rw[HW.out])|fail);refine(H5.out c2n r2n p2 q2 HC2.out HR2.out).mono ?_;rintro e w2 ⟨rfl,hh⟩;have HH:Hid (WrR b (l++refB c2n r2n p2 q2) W g (.returned (.tuple #[])) w2):=⟨rfl,hh⟩;clear hh;go_wp2_with fail
  go_end0
  exact FIN.out _ _ _ rfl HH.out
 ·go_wp2_with (first|(rw[HW.out])|fail);refine(H4.out on HON.out).mono ?_;rintro e w2 ⟨rfl,hh⟩;have HH:Hid (WrR b (l++[UInt8.ofNat on]) W g (.returned (.tuple #[])) w2):=⟨rfl,hh⟩;clear hh;go_wp2_with fail
  go_end0
  exact FIN.out _ _ _ rfl HH.out
end
end Go.Proofs.YtnceajanlnnfoaaGreatDoor
