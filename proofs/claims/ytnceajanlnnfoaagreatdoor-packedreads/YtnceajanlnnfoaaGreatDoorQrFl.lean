/-Binary64 as the model has it: what a word stands for, and when a numbe. -/
import Ieee.Arith
import GoSem.Core.Float
import Derived.Laws.BitsAllLaws
import Derived.Laws.Bits64
import Derived.Below
import Derived.Test.YtnceajanlnnfoaaGreatDoorRows
import Derived.WalkKit
import Derived.WalkSpells
import Derived.WalkLawsBesides
import Derived.Lib.BitFns
import Derived.Lib.TrailingZeros
import Derived.Laws.Bits64b
import Derived.Laws.FloatArith
set_option maxHeartbeats 4000000
set_option maxRecDepth 100000
namespace Go.Proofs.YtnceajanlnnfoaaGreatDoor
section
open Ieee
namespace Fl
theorem sw:double.signWeight=9223372036854775808:=rfl
theorem bn:double.binade=4503599627370496:=rfl
theorem ir:double.infRung=9218868437227405312:=rfl
theorem lp:double.leastPlace=-1074:=rfl
theorem fb:double.fractionBits=52:=rfl
def rne (n d:Nat):Nat:=n/2^d+(if 2^d<2*(n%2^d)∨(2^d=2*(n%2^d)/\n/2^d%2=1) then 1 else 0)
theorem j21 (neg:Bool)(n d:Nat):Toward.even.cut neg n d=rne n d:=by
 have key:∀g:Nat,n/g+(decide (g<2*(n%g))||(g==2*(n%g)&&n/g%2==1)).toNat =
  n/g+(if g<2*(n%g)∨(g=2*(n%g)/\n/g%2=1) then 1 else 0):=by
  intro g
  congr 1
  by_cases h:g<2*(n%g)∨(g=2*(n%g)/\n/g%2=1)
  ·rw[if_pos h];rcases h with h|⟨h1,h2⟩
   ·simp[h]
   ·have e:(g==2*(n%g))=true:=beq_iff_eq.2 h1;simp[e,h2]
  ·rw[if_neg h];have h1:¬g<2*(n%g):=(fun c=>h (Or.inl c));have h2:(g==2*(n%g)&&n/g%2==1)=false:=by
    rw[Bool.eq_false_iff];intro c;simp only[Bool.and_eq_true,beq_iff_eq] at c;exact h (Or.inr c)
   rw[h2];simp[h1]
 have h0:Toward.even.cut neg n d=n/(1 <<< min d (n.log2+2))+(decide ((1 <<< min d (n.log2+2))<2*(n%(1 <<< min d (n.log2+2))))||((1 <<< min d (n.log2+2))==2*(n%(1 <<< min d (n.log2+2)))&&n/(1 <<< min d (n.log2+2))%2==1)).toNat:=rfl;rw[h0,key];by_cases hd:d<=n.log2+2
 ·rw[Nat.min_eq_left hd,Nat.one_shiftLeft];rfl
 ·have hd':n.log2+2<=d:=by omega
  rw[Nat.min_eq_right hd',Nat.one_shiftLeft];have hn:n<2^(n.log2+1):=Nat.lt_log2_self;have e1:2^(n.log2+2)=2*2^(n.log2+1):=by rw[Nat.pow_succ,Nat.mul_comm]
  have e2:2^(n.log2+2)<=2^d:=Nat.pow_le_pow_right (by decide) hd';unfold rne;have q1:n/2^(n.log2+2)=0:=Nat.div_eq_of_lt (by omega);have q2:n/2^d=0:=Nat.div_eq_of_lt (by omega);have r1:n%2^(n.log2+2)=n:=Nat.mod_eq_of_lt (by omega);have r2:n%2^d=n:=Nat.mod_eq_of_lt (by omega);rw[q1,q2,r1,r2,if_neg (by omega),if_neg (by omega)]
theorem R6 (n:Nat):rne n 0=n:=by
 unfold rne;simp[Nat.mod_one]
theorem j1W (n d j:Nat):rne (n*2^j) (d+j)=rne n d:=by
 have hp:0<2^j:=Nat.two_pow_pos j;have e:2^(d+j)=2^d*2^j:=Nat.pow_add ..;unfold rne;rw[e,Nat.mul_div_mul_right _ _ hp,Nat.mul_mod_mul_right];have c:(2^d*2^j<2*(n%2^d*2^j)∨2^d*2^j=2*(n%2^d*2^j)/\n/2^d%2=1)↔(2^d<2*(n%2^d)∨2^d=2*(n%2^d)/\n/2^d%2=1):=by
  rw[<- Nat.mul_assoc 2];constructor
  ·rintro(h|⟨h1,h2⟩)
   ·exact Or.inl (Nat.lt_of_mul_lt_mul_right h)
   ·exact Or.inr ⟨Nat.eq_of_mul_eq_mul_right hp h1,h2⟩
  ·rintro(h|⟨h1,h2⟩)
   ·exact Or.inl (Nat.mul_lt_mul_of_pos_right h hp)
   ·exact Or.inr ⟨by rw[<- h1],h2⟩
 by_cases h:2^d<2*(n%2^d)∨2^d=2*(n%2^d)/\n/2^d%2=1
 ·rw[if_pos h,if_pos (c.2 h)]
 ·rw[if_neg h,if_neg (fun x=>h (c.1 x))]
theorem j2u (n j:Nat):rne (n*2^j) j=n:=by
 have:=j1W n 0 j
 rwa [Nat.zero_add,R6] at this
theorem log2_mul_pow (m k:Nat)(hm:m≠0):(m*2^k).log2=m.log2+k:=by
 have h1:=Nat.log2_self_le hm;have h2:m<2^(m.log2+1):=Nat.lt_log2_self;have hp:0<2^k:=Nat.two_pow_pos k;refine(Nat.log2_eq_iff (Nat.mul_ne_zero hm (by omega))).2 ⟨?_,?_⟩
 ·rw[Nat.pow_add];exact Nat.mul_le_mul_right _ h1
 ·rw[show m.log2+k+1=(m.log2+1)+k by omega,Nat.pow_add];exact Nat.mul_lt_mul_of_pos_right h2 hp
def lastOf (m:Nat) (p:Int):Int:=max (p+m.log2-52) (-1074)
theorem nearest_eq (neg:Bool)(m:Nat)(p:Int)(hm:m≠0):
 double.nearest neg m p=double.word neg (min ((lastOf m p+1074).toNat*4503599627370496+rne (m*2^(p-lastOf m p).toNat) (lastOf m p-p).toNat) 9218868437227405312):=by
 unfold Format.nearest;rw[if_neg hm];simp only[fb,lp,bn,ir,j21,Nat.shiftLeft_eq]
 rfl
theorem nearest_shift (neg:Bool)(m:Nat)(p:Int)(k:Nat):double.nearest neg (m*2^k) (p-k)=double.nearest neg m p:=by
 by_cases hm:m=0
 ·subst hm;simp[Format.nearest]
 ·have hm':m*2^k≠0:=Nat.mul_ne_zero hm (by have:=Nat.two_pow_pos k;omega);rw[nearest_eq neg _ _ hm',nearest_eq neg _ _ hm];have hl:lastOf (m*2^k) (p-k)=lastOf m p:=by
   unfold lastOf;rw[log2_mul_pow m k hm];congr 1;omega
  rw[hl];generalize lastOf m p=L
  congr 3
  by_cases h1:L<=p-k
  ·have a1:(L-(p-k)).toNat=0:=(by omega);have a2:(L-p).toNat=0:=(by omega);rw[a1,a2,R6,R6,Nat.mul_assoc,<- Nat.pow_add]
   congr 2;omega
  ·by_cases h2:L<=p
   ·have a1:(p - ↑k-L).toNat=0:=(by omega);have a2:(L-p).toNat=0:=(by omega);rw[a1,a2,R6,Nat.pow_zero,Nat.mul_one];have e:m*2^k=m*2^(p-L).toNat*2^(L-(p - ↑k)).toNat:=by
     rw[Nat.mul_assoc,<- Nat.pow_add];congr 2;omega
    rw[e,j2u]
   ·have a1:(p - ↑k-L).toNat=0:=(by omega);have a2:(p-L).toNat=0:=(by omega);have a3:(L-(p - ↑k)).toNat=(L-p).toNat+k:=(by omega);rw[a1,a2,a3,Nat.pow_zero,Nat.mul_one,Nat.mul_one,j1W]
def canon (M:Nat) (E:Int):Prop:=M<9007199254740992 /\ -1074<=E/\(4503599627370496<=M∨E=-1074)
def rungOf (M:Nat) (E:Int):Nat:=(E+1074).toNat*4503599627370496+M
theorem j4n {M:Nat}(h:M<9007199254740992)(h0:M≠0):M.log2<=52:=by
 have:=(Nat.log2_lt h0).2 (show M<2^53 from h);omega
theorem jAT {M:Nat}(h:M<9007199254740992)(h1:4503599627370496<=M):M.log2=52:=
 (Nat.log2_eq_iff (by omega)).2 ⟨h1,h⟩
theorem j2M {M:Nat}{E:Int}(c:canon M E)(h0:M≠0):lastOf M E=E:=by
 obtain⟨c1,c2,c3⟩:=c;have:=j4n c1 h0;unfold lastOf;rcases c3 with c3|c3
 ·rw[jAT c1 c3];omega
 ·omega
theorem nearest_canon (neg:Bool){M:Nat}{E:Int}(c:canon M E):double.nearest neg M E=double.word neg (min (rungOf M E) 9218868437227405312):=by
 by_cases h0:M=0
 ·have hE:E=-1074:=by obtain⟨_,_,c3⟩:=c;omega
  subst h0;subst hE;simp[Format.nearest,rungOf]
 ·rw[nearest_eq neg _ _ h0,j2M c h0];have a:(E-E).toNat=0:=by omega
  rw[a,R6,Nat.pow_zero,Nat.mul_one]
  rfl
theorem read_word (neg:Bool)(r:Nat)(h:r<9223372036854775808):double.read (double.word neg r) =
 if r<4503599627370496 then .number neg r (-1074) else if r<9218868437227405312 then .number neg (4503599627370496+r%4503599627370496) (-1074+(r/4503599627370496-1:Nat)) else if r=9218868437227405312 then .infinity neg else .nan neg (r-9218868437227405312):=by
 unfold Format.read Format.word;have e1:(if neg=true then 9223372036854775808+r else r)%9223372036854775808=r:=by split <;> omega
 have e2:((if neg=true then 9223372036854775808+r else r)/9223372036854775808%2==1)=neg:=by
  cases neg
  ·simp;omega
  ·simp only[if_true];rw[beq_iff_eq];omega
 simp only[sw,bn,ir,lp,e1,e2]
theorem j0l (neg:Bool){M:Nat}{E:Int}(c:canon M E)(h:rungOf M E<9218868437227405312):double.read (double.word neg (rungOf M E))=.number neg M E:=by
 rw[read_word _ _ (by omega)];obtain⟨c1,c2,c3⟩:=c;unfold rungOf at *;by_cases hM:M<4503599627370496
 ·have hE:E=-1074:=by omega
  have h0:(E+1074).toNat*4503599627370496+M=M:=by omega
  rw[h0,if_pos hM,hE]
 ·have hq:((E+1074).toNat*4503599627370496+M)/4503599627370496=(E+1074).toNat+1:=by omega
  have hr:((E+1074).toNat*4503599627370496+M)%4503599627370496=M-4503599627370496:=by omega
  have eM:4503599627370496+(M-4503599627370496)=M:=by omega
  have eE:-1074+(((E+1074).toNat+1-1:Nat):Int)=E:=by omega
  rw[if_neg (by omega),if_pos h,hq,hr,eM,eE]
def Q4 (r:Nat):Nat:=if r<4503599627370496 then r else 4503599627370496+r%4503599627370496
def Q5 (r:Nat):Int:=-1074+(r/4503599627370496-1:Nat)
theorem j1v (r:Nat):canon (Q4 r) (Q5 r):=by
 unfold canon Q4 Q5;split <;> omega
theorem j0p (r:Nat):rungOf (Q4 r) (Q5 r)=r:=by
 unfold rungOf Q4 Q5;split <;> omega
theorem read_fin (neg:Bool)(r:Nat)(h:r<9218868437227405312):double.read (double.word neg r)=.number neg (Q4 r) (Q5 r):=by
 have:=j0l neg (j1v r) (by rw[j0p];exact h)
 rwa [j0p] at this
def Fits (m:Nat) (p:Int):Prop:=m≠0/\m<9007199254740992 /\ -1074<=p/\p+m.log2<=1023
theorem fit (neg:Bool){m:Nat}{p:Int}(f:Fits m p):∃k:Nat,canon (m*2^k) (p-k)/\rungOf (m*2^k) (p-k)<9218868437227405312 /\
 double.nearest neg m p=double.word neg (rungOf (m*2^k) (p-k))/\double.read (double.nearest neg m p)=.number neg (m*2^k) (p-k):=by
 obtain⟨h0,h1,h2,h3⟩:=f;have hl:=j4n h1 h0
 suffices h:∃k:Nat,canon (m*2^k) (p-k)/\rungOf (m*2^k) (p-k)<9218868437227405312 by
  obtain⟨k,c,r⟩:=h;have e:double.nearest neg m p=double.word neg (rungOf (m*2^k) (p-k)):=by
   rw[<- nearest_shift neg m p k,nearest_canon neg c,Nat.min_eq_left (Nat.le_of_lt r)]
  exact⟨k,c,r,e,by rw[e];exact j0l neg c r⟩
 by_cases hc:-1074<=p+m.log2-52
 ·obtain⟨k,hk⟩:∃k:Nat,k=52-m.log2:=⟨_,rfl⟩;have hM0:m*2^k≠0:=Nat.mul_ne_zero h0 (by have:=Nat.two_pow_pos k;omega);have hlog:(m*2^k).log2=52:=by rw[log2_mul_pow m k h0];omega
  have hb:=(Nat.log2_eq_iff hM0).1 hlog;have b1:4503599627370496<=m*2^k:=hb.1;have b2:m*2^k<9007199254740992:=hb.2;refine⟨k,⟨b2,by omega,Or.inl b1⟩,?_⟩;unfold rungOf;generalize m*2^k=M at *;omega
 ·obtain⟨k,hk⟩:∃k:Nat,k=(p+1074).toNat:=⟨_,rfl⟩;have hM0:m*2^k≠0:=Nat.mul_ne_zero h0 (by have:=Nat.two_pow_pos k;omega);have hlog:(m*2^k).log2<=52:=by rw[log2_mul_pow m k h0];omega
  have b2:m*2^k<9007199254740992:=(Nat.log2_lt hM0).1 (show (m*2^k).log2<53 by omega);have hp:p-k=-1074:=by omega
  refine⟨k,⟨b2,by omega,Or.inr hp⟩,?_⟩;unfold rungOf;rw[hp];generalize m*2^k=M at *;omega
theorem mul_fit {s t:Bool}{m n:Nat}{p q:Int}(f:Fits m p)(g:Fits n q):double.mul (double.nearest s m p) (double.nearest t n q)=some (double.nearest (s ^^ t) (m*n) (p+q)):=by
 obtain⟨k,_,_,_,hk⟩:=fit s f;obtain⟨j,_,_,_,hj⟩:=fit t g;unfold Format.mul;rw[hk,hj];simp only[Datum.product,Option.map_some,Format.write,Option.some.injEq];rw[<- nearest_shift (s ^^ t) (m*n) (p+q) (k+j)]
 congr 1
 ·rw[Nat.pow_add];ac_rfl
 ·omega
theorem word_nearest (neg:Bool){m:Nat}{p:Int}(f:Fits m p):double.word neg (double.nearest false m p)=double.nearest neg m p/\double.nearest false m p<9218868437227405312:=by
 obtain⟨k,c,r,_,_⟩:=fit false f;have e:∀s,double.nearest s m p=double.word s (rungOf (m*2^k) (p-k)):=fun s=>by
  rw[<- nearest_shift s m p k,nearest_canon s c,Nat.min_eq_left (Nat.le_of_lt r)]
 rw[e neg,e false];exact⟨rfl,r⟩
theorem jAU:Nat.log2 1=0:=by decide
theorem fits_pow {a:Int}(h1:-1074<=a)(h2:a<=1023):Fits 1 a:=⟨by decide,by decide,h1,by rw[jAU];omega⟩
def pw (a:Int):Nat:=double.nearest false 1 a
theorem mul_pw {a b:Int}(ha:-1074<=a)(ha':a<=1023)(hb:-1074<=b)(hb':b<=1023):double.mul (pw a) (pw b)=some (pw (a+b)):=by
 have:=mul_fit (s:=false) (t:=false) (fits_pow ha ha') (fits_pow hb hb')
 simpa [pw] using this
theorem sq_up:∀i,i<11->double.mul (pw (2^i)) (pw (2^i))=some (pw (2^(i+1))):=by decide +kernel
theorem sq_dn:∀i,i<11->double.mul (pw (-2^i)) (pw (-2^i))=some (pw (-2^(i+1))):=by decide +kernel
theorem pw_consts:pw 0=4607182418800017408/\pw (2^0)=4611686018427387904/\pw (-2^0)=4602678819172646912:=by decide +kernel
end Fl
end
section
namespace Rn
def upw (mode:Int) (neg odd:Bool) (r g:Nat):Bool:=
 if mode=1 then decide (g<2*r)||(decide (g=2*r)&&odd)
 else if mode=2 then decide (g<=2*r)
 else if mode=3 then decide (r≠0) && !neg
 else if mode=4 then decide (r≠0)&&neg
 else if mode=6 then decide (r≠0) && !odd
 else false
def rnd (mode:Int) (neg:Bool) (m n:Nat):Nat:=m/2^n+(upw mode neg (m/2^n%2==1) (m%2^n) (2^n)).toNat
theorem jEc (mode:Int)(neg odd:Bool)(g:Nat)(hg:0<g):upw mode neg odd 0 g=false:=by
 unfold upw;split
 ·have h1:¬g<2*0:=by omega
  have h2:¬g=2*0:=by omega
  rw[decide_eq_false h1,decide_eq_false h2];rfl
 ·split
  ·exact decide_eq_false (by omega)
  ·split
   ·rfl
   ·split
    ·rfl
    ·split <;> rfl
theorem j6W (mode:Int)(neg odd:Bool)(r g c:Nat)(hc:0<c):upw mode neg odd (r*c) (g*c)=upw mode neg odd r g:=by
 unfold upw;have e1:(g*c<2*(r*c))↔(g<2*r):=by
  rw[<- Nat.mul_assoc];exact⟨fun h=>Nat.lt_of_mul_lt_mul_right h,fun h=>Nat.mul_lt_mul_of_pos_right h hc⟩
 have e2:(g*c=2*(r*c))↔(g=2*r):=by
  rw[<- Nat.mul_assoc];exact⟨fun h=>Nat.eq_of_mul_eq_mul_right hc h,fun h=>by rw[h]⟩
 have e3:(g*c<=2*(r*c))↔(g<=2*r):=by
  rw[<- Nat.mul_assoc];exact⟨fun h=>Nat.le_of_mul_le_mul_right h hc,fun h=>Nat.mul_le_mul_right c h⟩
 have e4:(r*c≠0)↔(r≠0):=by
  rw[Ne,Nat.mul_eq_zero];omega
 rw[decide_eq_decide.2 e1,decide_eq_decide.2 e2,decide_eq_decide.2 e3,decide_eq_decide.2 e4]
theorem jCu (mode:Int)(neg:Bool)(m:Nat):rnd mode neg m 0=m:=by
 unfold rnd;rw[Nat.pow_zero,Nat.mod_one,jEc _ _ _ _ (by decide),Nat.div_one];rfl
theorem jCt (mode:Int)(neg:Bool)(m n j:Nat):rnd mode neg (m*2^j) (n+j)=rnd mode neg m n:=by
 have hp:0<2^j:=Nat.two_pow_pos j;unfold rnd;rw[Nat.pow_add,Nat.mul_div_mul_right _ _ hp,Nat.mul_mod_mul_right,j6W _ _ _ _ _ _ hp]
theorem j5e (mode:Int)(neg:Bool)(m j:Nat):rnd mode neg (m*2^j) j=m:=by
 have:=jCt mode neg m 0 j
 rwa [Nat.zero_add,jCu] at this
theorem j5d (mode:Int)(neg:Bool)(m n:Nat):m/2^n<=rnd mode neg m n/\rnd mode neg m n<=m/2^n+1:=by
 unfold rnd;have:=Bool.toNat_le (upw mode neg (m/2^n%2==1) (m%2^n) (2^n));omega
theorem jEa (mode:Int)(neg odd:Bool)(r r' g:Nat)(h:r<=r'):(upw mode neg odd r g).toNat<=(upw mode neg odd r' g).toNat:=by
 cases hu:upw mode neg odd r g
 ·simp
 ·suffices hs:upw mode neg odd r' g=true by rw[hs];exact Nat.le_refl _
  unfold upw at *;split at hu
  ·rw[if_pos ‹_›];simp only[Bool.or_eq_true,Bool.and_eq_true,decide_eq_true_eq] at hu ⊢;rcases hu with hu|⟨hu,ho⟩
   ·left;omega
   ·by_cases e:g=2*r'
    ·exact Or.inr ⟨e,ho⟩
    ·left;omega
  ·rw[if_neg ‹_›];split at hu
   ·rw[if_pos ‹_›];simp only[decide_eq_true_eq] at hu ⊢;omega
   ·rw[if_neg ‹_›];split at hu
    ·rw[if_pos ‹_›];simp only[Bool.and_eq_true,decide_eq_true_eq] at hu ⊢;exact⟨by omega,hu.2⟩
    ·rw[if_neg ‹_›];split at hu
     ·rw[if_pos ‹_›];simp only[Bool.and_eq_true,decide_eq_true_eq] at hu ⊢;exact⟨by omega,hu.2⟩
     ·rw[if_neg ‹_›];split at hu
      ·rw[if_pos ‹_›];simp only[Bool.and_eq_true,decide_eq_true_eq] at hu ⊢;exact⟨by omega,hu.2⟩
      ·cases hu
theorem j5f (mode:Int)(neg:Bool){m m':Nat}(n:Nat)(h:m<=m'):rnd mode neg m n<=rnd mode neg m' n:=by
 have hq:m/2^n<=m'/2^n:=Nat.div_le_div_right h;by_cases e:m/2^n=m'/2^n
 ·unfold rnd;rw[e];have d1:=Nat.div_add_mod m (2^n);have d2:=Nat.div_add_mod m' (2^n);rw[e] at d1;have:=jEa mode neg (m'/2^n%2==1) (m%2^n) (m'%2^n) (2^n) (by omega);omega
 ·have b1:=j5d mode neg m n;have b2:=j5d mode neg m' n;omega
theorem rnd_le (mode:Int)(neg:Bool){m q:Nat}(n:Nat)(h:m<=q*2^n):rnd mode neg m n<=q:=by
 have:=j5f mode neg n h
 rwa [j5e] at this
theorem jAJ (mode:Int)(neg:Bool){m q:Nat}(n:Nat)(h:q*2^n<=m):q<=rnd mode neg m n:=by
 have:=j5f mode neg n h
 rwa [j5e] at this
theorem jCs (neg:Bool)(m n:Nat):rnd 1 neg m n=Fl.rne m n:=by
 unfold rnd Fl.rne upw;rw[if_pos rfl]
 congr 1
 by_cases h:2^n<2*(m%2^n)∨(2^n=2*(m%2^n)/\m/2^n%2=1)
 ·rw[if_pos h];have:(decide (2^n<2*(m%2^n))||(decide (2^n=2*(m%2^n))&&(m/2^n%2==1)))=true:=by
   simp only[Bool.or_eq_true,Bool.and_eq_true,decide_eq_true_eq,beq_iff_eq];exact h
  rw[this];rfl
 ·rw[if_neg h];have:(decide (2^n<2*(m%2^n))||(decide (2^n=2*(m%2^n))&&(m/2^n%2==1)))=false:=by
   rw[Bool.eq_false_iff];intro c;simp only[Bool.or_eq_true,Bool.and_eq_true,decide_eq_true_eq,beq_iff_eq] at c;exact h c
  rw[this];rfl
end Rn
end
section
open Go.RowKit
def mag (b:Nat):Nat:=b%9223372036854775808
def sgb (b:Nat):Bool:=decide (9223372036854775808<=b)
def cls (b:Nat):Int:=
 if 9218868437227405312<mag b then 1 else if mag b=9218868437227405312 then 2 else if mag b=0 then 3 else if mag b<4503599627370496 then 4 else 5
def isN (b:Nat):Bool:=decide (9218868437227405312<mag b)
def one (b:Nat):Nat:=if 9218868437227405312<mag b then 9221120237041090560 else b
def ngt (b:Nat):Bool:=!isN b&&sgb b
def spM (b:Nat):Nat:=if 9218868437227405312<=mag b then 0 else if mag b<4503599627370496 then mag b else mag b%4503599627370496+4503599627370496
def spMz (b:Nat):Int:=(spM b:Int)
def spE (b:Nat):Int:=if 9218868437227405312<=mag b then 0 else if mag b=0 then 0 else if mag b<4503599627370496 then -1074 else (mag b/4503599627370496:Nat)-1075
def spN (b:Nat):Bool:=if 9218868437227405312<=mag b then false else sgb b
def spR (b:Nat):Int:=if 9218868437227405312<=mag b then 10 else 0
def magZ (b:Nat):Int:=(mag b:Int)
theorem j0e (b:Nat):0<=magZ b/\magZ b<9223372036854775808:=by
 have:mag b<9223372036854775808:=Nat.mod_lt _ (by decide);unfold magZ;omega
theorem jAi (b:Nat):mag b<9223372036854775808:=Nat.mod_lt _ (by decide)
theorem j2V (b:Nat)(h:b<18446744073709551616):b=mag b+(if sgb b then 9223372036854775808 else 0):=by
 unfold mag sgb;by_cases c:9223372036854775808<=b
 ·simp only[c,decide_true,if_true];omega
 ·simp only[c,decide_false,Bool.false_eq_true,if_false];omega
theorem j8G (b:Nat):b &&& 9223372036854775807=b%9223372036854775808:=Nat.and_two_pow_sub_one_eq_mod b 63
theorem j7D (b:Nat)(h:b<18446744073709551616):bits .andNot .u64 (b:Int) 9223372036854775808=(mag b:Int):=by
 have:=u64_andNot_nat b 9223372036854775808 h (by decide);rw[show ((9223372036854775808:Nat):Int)=9223372036854775808 from rfl] at this;rw[this,show 18446744073709551615-9223372036854775808=9223372036854775807 from rfl,j8G]
 rfl
theorem j3P (b:Nat)(h:b<18446744073709551616):bits .andNot .u64 (b:Int) 9223372036854775808=magZ b:=j7D b h
theorem j3O (a:Int)(h0:0<=a)(h:a<18446744073709551616):bits .andNot .u64 a 9223372036854775808=magZ a.toNat:=by
 have:=j3P a.toNat (by omega)
 rwa [Int.toNat_of_nonneg h0] at this
theorem j7A (b:Nat)(h:b<18446744073709551616):bits .and .u64 (b:Int) 9223372036854775808=if sgb b then 9223372036854775808 else 0:=by
 have:=u64_and_nat b 9223372036854775808 h (by decide);rw[show ((9223372036854775808:Nat):Int)=9223372036854775808 from rfl] at this;rw[this,nat_bit 63 b];unfold sgb;by_cases c:9223372036854775808<=b
 ·simp only[c,decide_true,if_true];omega
 ·simp only[c,decide_false,Bool.false_eq_true,if_false];omega
theorem j7B (b:Nat)(h:b<18446744073709551616):(bits .and .u64 (b:Int) 9223372036854775808 != 0)=sgb b:=by
 rw[j7A b h];cases sgb b <;> rfl
theorem j0G {k:IntKind}{a b:Int}(h:a=b):Ending.returned (.int k a)=.returned (.int k b):=by rw[h]
theorem V1 {a b:Bool}(h:a=b):Ending.returned (.bool a)=.returned (.bool b):=by rw[h]
theorem j1V {a b:Nat}(h:a=b):Ending.returned (.float .f64 a)=.returned (.float .f64 b):=by rw[h]
theorem j8d (b:Nat)(z:Int)(hz:Hid (magZ b=z))(h:9218868437227405312<z):1=cls b:=by have:=hz.out;unfold magZ at this;unfold cls;rw[if_pos (by omega)]
theorem j8e (b:Nat)(z:Int)(hz:Hid (magZ b=z))(h2:(z==9218868437227405312)=true):2=cls b:=by
 have h2':=eq_of_beq h2;have:=hz.out;unfold magZ at this;unfold cls;rw[if_neg (by omega),if_pos (by omega)]
theorem j8f (b:Nat)(z:Int)(hz:Hid (magZ b=z))(h2:(z==0)=true):3=cls b:=by
 have h2':=eq_of_beq h2;have:=hz.out;unfold magZ at this;unfold cls;rw[if_neg (by omega),if_neg (by omega),if_pos (by omega)]
theorem j8g (b:Nat)(z:Int)(hz:Hid (magZ b=z))(h2:(z==0)=false)(h:z<4503599627370496):4=cls b:=by
 have h2':z≠0:=by simpa using h2
 have:=hz.out;unfold magZ at this;unfold cls;rw[if_neg (by omega),if_neg (by omega),if_neg (by omega),if_pos (by omega)]
theorem j8h (b:Nat)(z:Int)(hz:Hid (magZ b=z))(h1:z<=9218868437227405312)(h2:(z==9218868437227405312)=false)(h:4503599627370496<=z):5=cls b:=by
 have h2':z≠9218868437227405312:=by simpa using h2
 have:=hz.out;unfold magZ at this;unfold cls;rw[if_neg (by omega),if_neg (by omega),if_neg (by omega),if_neg (by omega)]
theorem cls1 (b:Nat):(cls b==1)=isN b:=by
 unfold cls isN;split
 ·simp_all
 ·split <;> (try split) <;> (try split) <;> simp_all
theorem ret2 {a b c d:Value}(h1:a=c)(h2:b=d):Ending.returned (.tuple #[a,b])=.returned (.tuple #[c,d]):=by rw[h1,h2]
theorem I2 {k:IntKind}{a b:Int}(h:a=b):Value.int k a=.int k b:=by rw[h]
theorem R9 {a b:Bool}(h:a=b):Value.bool a=.bool b:=by rw[h]
theorem j06 {b:Nat}(h:isN b=true):9218868437227405312<mag b:=of_decide_eq_true h
theorem X8 {b:Nat}(h:isN b=false):¬9218868437227405312<mag b:=of_decide_eq_false h
theorem jD2 (a:Int)(h:isN a.toNat=true):9221120237041090560=(one a.toNat:Int):=by
 unfold one;rw[if_pos (j06 h)];rfl
theorem jD0 (a:Int)(h0:0<=a)(h:isN a.toNat=false):a=(one a.toNat:Int):=by
 unfold one;rw[if_neg (X8 h)];omega
theorem jB4 (b:Nat)(h:isN b=true):false=ngt b:=by unfold ngt;rw[h];rfl
theorem j1J (b:Nat)(h:isN b=false):sgb b=ngt b:=by unfold ngt;rw[h];rfl
theorem j0U {b:Nat}{c:Int}(hc:Hid (cls b=c)):isN b=(c==1):=by rw[<- cls1,hc.out]
theorem ret4 {a b c d a' b' c' d':Value}(h1:a=a')(h2:b=b')(h3:c=c')(h4:d=d'):Ending.returned (.tuple #[a,b,c,d])=.returned (.tuple #[a',b',c',d']):=by rw[h1,h2,h3,h4]
theorem j6H (b:Nat)(h:9218868437227405312<=mag b):false=spN b/\0=spMz b/\0=spE b/\10=spR b:=by
 refine⟨?_,?_,?_,?_⟩
 ·unfold spN;rw[if_pos h]
 ·unfold spMz spM;rw[if_pos h];rfl
 ·unfold spE;rw[if_pos h]
 ·unfold spR;rw[if_pos h]
theorem jE9 (b:Nat)(h:mag b=0):sgb b=spN b/\0=spMz b/\0=spE b/\0=spR b:=by
 have h1:¬9218868437227405312<=mag b:=by omega
 have h2:mag b<4503599627370496:=by omega
 refine⟨?_,?_,?_,?_⟩
 ·unfold spN;rw[if_neg h1]
 ·unfold spMz spM;rw[if_neg h1,if_pos h2,h];rfl
 ·unfold spE;rw[if_neg h1,if_pos h]
 ·unfold spR;rw[if_neg h1]
theorem jEB (b:Nat)(h:mag b≠0)(h2:mag b<4503599627370496):sgb b=spN b/\magZ b=spMz b /\ -1074=spE b/\0=spR b:=by
 have h1:¬9218868437227405312<=mag b:=by omega
 refine⟨?_,?_,?_,?_⟩
 ·unfold spN;rw[if_neg h1]
 ·unfold spMz spM;rw[if_neg h1,if_pos h2];rfl
 ·unfold spE;rw[if_neg h1,if_neg h,if_pos h2]
 ·unfold spR;rw[if_neg h1]
theorem jEA (b:Nat)(h1:mag b<9218868437227405312)(h2:4503599627370496<=mag b):sgb b=spN b/\magZ b%4503599627370496+4503599627370496=spMz b/\magZ b/4503599627370496-1075=spE b/\0=spR b:=by
 have h1':¬9218868437227405312<=mag b:=by omega
 have h2':¬mag b<4503599627370496:=by omega
 have h3:¬mag b=0:=by omega
 refine⟨?_,?_,?_,?_⟩
 ·unfold spN;rw[if_neg h1']
 ·unfold spMz spM magZ;rw[if_neg h1',if_neg h2'];omega
 ·unfold spE magZ;rw[if_neg h1',if_neg h3,if_neg h2'];omega
 ·unfold spR;rw[if_neg h1']
theorem j0V {b:Nat}{c:Int}(hc:Hid (cls b=c)):((c==1)=true->9218868437227405312<=mag b)/\((c==2)=true->9218868437227405312<=mag b) /\
 ((c==3)=true->mag b=0)/\((c==4)=true->mag b≠0/\mag b<4503599627370496) /\
 ((c==1)=false->(c==2)=false->(c==3)=false->(c==4)=false->mag b<9218868437227405312/\4503599627370496<=mag b):=by
 have e:=hc.out;clear hc;simp only[beq_iff_eq,beq_eq_false_iff_ne,ne_eq];unfold cls at e;split at e
 ·subst e;refine⟨?_,?_,?_,?_,?_⟩ <;> omega
 ·split at e
  ·subst e;refine⟨?_,?_,?_,?_,?_⟩ <;> omega
  ·split at e
   ·subst e;refine⟨?_,?_,?_,?_,?_⟩ <;> omega
   ·split at e
    ·subst e;refine⟨?_,?_,?_,?_,?_⟩ <;> omega
    ·subst e;refine⟨?_,?_,?_,?_,?_⟩ <;> omega
theorem jBO (b:Nat)(z:Int)(hz:Hid (cls b=z))(h:(z==1)=true):9221120237041090560=one b:=by
 have e:=cls1 b;rw[hz.out,h] at e;have:9218868437227405312<mag b:=of_decide_eq_true e.symm;unfold one;rw[if_pos this]
theorem jBM (b:Nat)(z:Int)(hz:Hid (cls b=z))(h:(z==1)=false):b=one b:=by
 have e:=cls1 b;rw[hz.out,h] at e;have:¬9218868437227405312<mag b:=of_decide_eq_false e.symm;unfold one;rw[if_neg this]
end
section
open Ieee
namespace Fl
def ordW (s t:Bool) (r r':Nat):Ordering:=
 if r=0/\r'=0 then .eq else
 match s,t with
 | false,false=>if r<r' then .lt else if r=r' then .eq else .gt
 | true,true=>if r'<r then .lt else if r=r' then .eq else .gt
 | true,false=>.lt
 | false,true=>.gt
end Fl
theorem j6j (b:Nat)(h:b<18446744073709551616):Ieee.double.word (sgb b) (mag b)=b:=by
 have:=j2V b h;unfold Ieee.Format.word;rw[Fl.sw];cases hs:sgb b
 ·rw[hs] at this;simp only[Bool.false_eq_true,if_false] at this ⊢;omega
 ·rw[hs] at this;simp only[if_true] at this ⊢;omega
end
section
open Ieee
open Fl (rne j21 R6 j1W j2u log2_mul_pow ordW)
namespace Fs
theorem sw:single.signWeight=2147483648:=rfl
theorem bn:single.binade=8388608:=rfl
theorem ir:single.infRung=2139095040:=rfl
theorem lp:single.leastPlace=-149:=rfl
theorem fb:single.fractionBits=23:=rfl
def lastOf (m:Nat) (p:Int):Int:=max (p+m.log2-23) (-149)
theorem nearest_eq (neg:Bool)(m:Nat)(p:Int)(hm:m≠0):
 single.nearest neg m p=single.word neg (min ((lastOf m p+149).toNat*8388608+rne (m*2^(p-lastOf m p).toNat) (lastOf m p-p).toNat) 2139095040):=by
 unfold Format.nearest;rw[if_neg hm];simp only[fb,lp,bn,ir,j21,Nat.shiftLeft_eq]
 rfl
theorem nearest_shift (neg:Bool)(m:Nat)(p:Int)(k:Nat):single.nearest neg (m*2^k) (p-k)=single.nearest neg m p:=by
 by_cases hm:m=0
 ·subst hm;simp[Format.nearest]
 ·have hm':m*2^k≠0:=Nat.mul_ne_zero hm (by have:=Nat.two_pow_pos k;omega);rw[nearest_eq neg _ _ hm',nearest_eq neg _ _ hm];have hl:lastOf (m*2^k) (p-k)=lastOf m p:=by
   unfold lastOf;rw[log2_mul_pow m k hm];congr 1;omega
  rw[hl];generalize lastOf m p=L
  congr 3
  by_cases h1:L<=p-k
  ·have a1:(L-(p-k)).toNat=0:=(by omega);have a2:(L-p).toNat=0:=(by omega);rw[a1,a2,R6,R6,Nat.mul_assoc,<- Nat.pow_add]
   congr 2;omega
  ·by_cases h2:L<=p
   ·have a1:(p - ↑k-L).toNat=0:=(by omega);have a2:(L-p).toNat=0:=(by omega);rw[a1,a2,R6,Nat.pow_zero,Nat.mul_one];have e:m*2^k=m*2^(p-L).toNat*2^(L-(p - ↑k)).toNat:=by
     rw[Nat.mul_assoc,<- Nat.pow_add];congr 2;omega
    rw[e,j2u]
   ·have a1:(p - ↑k-L).toNat=0:=(by omega);have a2:(p-L).toNat=0:=(by omega);have a3:(L-(p - ↑k)).toNat=(L-p).toNat+k:=(by omega);rw[a1,a2,a3,Nat.pow_zero,Nat.mul_one,Nat.mul_one,j1W]
def canon (M:Nat) (E:Int):Prop:=M<16777216 /\ -149<=E/\(8388608<=M∨E=-149)
def rungOf (M:Nat) (E:Int):Nat:=(E+149).toNat*8388608+M
theorem j4m {M:Nat}(h:M<16777216)(h0:M≠0):M.log2<=23:=by
 have:=(Nat.log2_lt h0).2 (show M<2^24 from h);omega
theorem jAS {M:Nat}(h:M<16777216)(h1:8388608<=M):M.log2=23:=
 (Nat.log2_eq_iff (by omega)).2 ⟨h1,h⟩
theorem j2M {M:Nat}{E:Int}(c:canon M E)(h0:M≠0):lastOf M E=E:=by
 obtain⟨c1,c2,c3⟩:=c;have:=j4m c1 h0;unfold lastOf;rcases c3 with c3|c3
 ·rw[jAS c1 c3];omega
 ·omega
theorem nearest_canon (neg:Bool){M:Nat}{E:Int}(c:canon M E):single.nearest neg M E=single.word neg (min (rungOf M E) 2139095040):=by
 by_cases h0:M=0
 ·have hE:E=-149:=by obtain⟨_,_,c3⟩:=c;omega
  subst h0;subst hE;simp[Format.nearest,rungOf]
 ·rw[nearest_eq neg _ _ h0,j2M c h0];have a:(E-E).toNat=0:=by omega
  rw[a,R6,Nat.pow_zero,Nat.mul_one]
  rfl
theorem read_word (neg:Bool)(r:Nat)(h:r<2147483648):single.read (single.word neg r) =
 if r<8388608 then .number neg r (-149) else if r<2139095040 then .number neg (8388608+r%8388608) (-149+(r/8388608-1:Nat)) else if r=2139095040 then .infinity neg else .nan neg (r-2139095040):=by
 unfold Format.read Format.word;have e1:(if neg=true then 2147483648+r else r)%2147483648=r:=by split <;> omega
 have e2:((if neg=true then 2147483648+r else r)/2147483648%2==1)=neg:=by
  cases neg
  ·simp;omega
  ·simp only[if_true];rw[beq_iff_eq];omega
 simp only[sw,bn,ir,lp,e1,e2]
theorem j0l (neg:Bool){M:Nat}{E:Int}(c:canon M E)(h:rungOf M E<2139095040):single.read (single.word neg (rungOf M E))=.number neg M E:=by
 rw[read_word _ _ (by omega)];obtain⟨c1,c2,c3⟩:=c;unfold rungOf at *;by_cases hM:M<8388608
 ·have hE:E=-149:=by omega
  have h0:(E+149).toNat*8388608+M=M:=by omega
  rw[h0,if_pos hM,hE]
 ·have hq:((E+149).toNat*8388608+M)/8388608=(E+149).toNat+1:=by omega
  have hr:((E+149).toNat*8388608+M)%8388608=M-8388608:=by omega
  have eM:8388608+(M-8388608)=M:=by omega
  have eE:-149+(((E+149).toNat+1-1:Nat):Int)=E:=by omega
  rw[if_neg (by omega),if_pos h,hq,hr,eM,eE]
def Q4 (r:Nat):Nat:=if r<8388608 then r else 8388608+r%8388608
def Q5 (r:Nat):Int:=-149+(r/8388608-1:Nat)
theorem j1v (r:Nat):canon (Q4 r) (Q5 r):=by
 unfold canon Q4 Q5;split <;> omega
theorem j0p (r:Nat):rungOf (Q4 r) (Q5 r)=r:=by
 unfold rungOf Q4 Q5;split <;> omega
theorem read_fin (neg:Bool)(r:Nat)(h:r<2139095040):single.read (single.word neg r)=.number neg (Q4 r) (Q5 r):=by
 have:=j0l neg (j1v r) (by rw[j0p];exact h)
 rwa [j0p] at this
def Fits (m:Nat) (p:Int):Prop:=m≠0/\m<16777216 /\ -149<=p/\p+m.log2<=127
theorem fit (neg:Bool){m:Nat}{p:Int}(f:Fits m p):∃k:Nat,canon (m*2^k) (p-k)/\rungOf (m*2^k) (p-k)<2139095040 /\
 single.nearest neg m p=single.word neg (rungOf (m*2^k) (p-k))/\single.read (single.nearest neg m p)=.number neg (m*2^k) (p-k):=by
 obtain⟨h0,h1,h2,h3⟩:=f;have hl:=j4m h1 h0
 suffices h:∃k:Nat,canon (m*2^k) (p-k)/\rungOf (m*2^k) (p-k)<2139095040 by
  obtain⟨k,c,r⟩:=h;have e:single.nearest neg m p=single.word neg (rungOf (m*2^k) (p-k)):=by
   rw[<- nearest_shift neg m p k,nearest_canon neg c,Nat.min_eq_left (Nat.le_of_lt r)]
  exact⟨k,c,r,e,by rw[e];exact j0l neg c r⟩
 by_cases hc:-149<=p+m.log2-23
 ·obtain⟨k,hk⟩:∃k:Nat,k=23-m.log2:=⟨_,rfl⟩;have hM0:m*2^k≠0:=Nat.mul_ne_zero h0 (by have:=Nat.two_pow_pos k;omega);have hlog:(m*2^k).log2=23:=by rw[log2_mul_pow m k h0];omega
  have hb:=(Nat.log2_eq_iff hM0).1 hlog;have b1:8388608<=m*2^k:=hb.1;have b2:m*2^k<16777216:=hb.2;refine⟨k,⟨b2,by omega,Or.inl b1⟩,?_⟩;unfold rungOf;generalize m*2^k=M at *;omega
 ·obtain⟨k,hk⟩:∃k:Nat,k=(p+149).toNat:=⟨_,rfl⟩;have hM0:m*2^k≠0:=Nat.mul_ne_zero h0 (by have:=Nat.two_pow_pos k;omega);have hlog:(m*2^k).log2<=23:=by rw[log2_mul_pow m k h0];omega
  have b2:m*2^k<16777216:=(Nat.log2_lt hM0).1 (show (m*2^k).log2<24 by omega);have hp:p-k=-149:=by omega
  refine⟨k,⟨b2,by omega,Or.inr hp⟩,?_⟩;unfold rungOf;rw[hp];generalize m*2^k=M at *;omega
theorem mul_fit {s t:Bool}{m n:Nat}{p q:Int}(f:Fits m p)(g:Fits n q):single.mul (single.nearest s m p) (single.nearest t n q)=some (single.nearest (s ^^ t) (m*n) (p+q)):=by
 obtain⟨k,_,_,_,hk⟩:=fit s f;obtain⟨j,_,_,_,hj⟩:=fit t g;unfold Format.mul;rw[hk,hj];simp only[Datum.product,Option.map_some,Format.write,Option.some.injEq];rw[<- nearest_shift (s ^^ t) (m*n) (p+q) (k+j)]
 congr 1
 ·rw[Nat.pow_add];ac_rfl
 ·omega
theorem word_nearest (neg:Bool){m:Nat}{p:Int}(f:Fits m p):single.word neg (single.nearest false m p)=single.nearest neg m p/\single.nearest false m p<2139095040:=by
 obtain⟨k,c,r,_,_⟩:=fit false f;have e:∀s,single.nearest s m p=single.word s (rungOf (m*2^k) (p-k)):=fun s=>by
  rw[<- nearest_shift s m p k,nearest_canon s c,Nat.min_eq_left (Nat.le_of_lt r)]
 rw[e neg,e false];exact⟨rfl,r⟩
end Fs
end
section
open Ieee
namespace Rn
def rungs (L K:Int) (B:Nat) (mode:Int) (neg:Bool) (m:Nat) (e:Int):Nat:=(L-K).toNat*B+rnd mode neg (m*2^(e-L).toNat) (L-e).toNat
def rung32 (mode:Int) (neg:Bool) (m:Nat) (e:Int):Nat:=rungs (Fs.lastOf m e) (-149) 8388608 mode neg m e
theorem rnd32_bd (mode:Int)(neg:Bool)(m:Nat)(e:Int)(hm:m≠0):
 rnd mode neg (m*2^(e-Fs.lastOf m e).toNat) (Fs.lastOf m e-e).toNat<=16777216 /\
 (-149<Fs.lastOf m e->8388608<=rnd mode neg (m*2^(e-Fs.lastOf m e).toNat) (Fs.lastOf m e-e).toNat):=by
 have h1:=Nat.log2_self_le hm;have h2:m<2^(m.log2+1):=Nat.lt_log2_self;have hL:Fs.lastOf m e=max (e+m.log2-23) (-149):=rfl;generalize Fs.lastOf m e=L at *;constructor
 ·refine rnd_le mode neg _ ?_;have:m*2^(e-L).toNat<=2^(m.log2+1+(e-L).toNat):=by
   rw[Nat.pow_add];exact Nat.mul_le_mul_right _ (Nat.le_of_lt h2)
  refine Nat.le_trans this ?_;rw[show (16777216:Nat)=2^24 from rfl,<- Nat.pow_add];exact Nat.pow_le_pow_right (by decide) (by omega)
 ·intro hl;refine jAJ mode neg _ ?_;have:2^(m.log2+(e-L).toNat)<=m*2^(e-L).toNat:=by
   rw[Nat.pow_add];exact Nat.mul_le_mul_right _ h1
  refine Nat.le_trans ?_ this;rw[show (8388608:Nat)=2^23 from rfl,<- Nat.pow_add];exact Nat.pow_le_pow_right (by decide) (by omega)
def far (mode:Int) (neg:Bool):Bool:=decide (mode=1)||decide (mode=2)||(decide (mode=3) && !neg)||(decide (mode=4)&&neg)
def cap32 (mode:Int) (neg:Bool) (r:Nat):Nat:=if r<2139095040 then r else if far mode neg then 2139095040 else 2139095039
def word32 (mode:Int) (neg:Bool) (m:Nat) (e:Int):Nat:=single.word neg (cap32 mode neg (rung32 mode neg m e))
theorem cap32_le (mode:Int)(neg:Bool)(r:Nat):cap32 mode neg r<=2139095040:=by
 unfold cap32;split
 ·omega
 ·split <;> omega
theorem nearest32 (neg:Bool)(m:Nat)(e:Int)(hm:m≠0):single.nearest neg m e=word32 1 neg m e:=by
 rw[Fs.nearest_eq neg m e hm];unfold word32 cap32 rung32 rungs;rw[jCs];have:far 1 neg=true:=rfl;rw[this,if_pos rfl,show Fs.lastOf m e - -149=Fs.lastOf m e+149 by omega]
 congr 1
 split <;> omega
theorem single_front (neg:Bool)(q:Nat)(L:Int)(hq:q<=16777216)(hL:-149<=L)(hn:-149<L->8388608<=q):
 single.nearest neg q L=single.word neg (min ((L+149).toNat*8388608+q) 2139095040):=by
 by_cases h:q=16777216
 ·have c:Fs.canon 8388608 (L+1):=⟨by decide,by omega,Or.inl (by decide)⟩;have s:=Fs.nearest_shift neg 8388608 (L+1) 1;rw[show (8388608*2^1:Nat)=16777216 from rfl,show L+1-((1:Nat):Int)=L by omega] at s;have e:Fs.rungOf 8388608 (L+1)=(L+149).toNat*8388608+16777216:=by unfold Fs.rungOf;omega
  rw[h,s,Fs.nearest_canon neg c,e]
 ·have c:Fs.canon q L:=⟨by omega,hL,by omega⟩;rw[Fs.nearest_canon neg c]
  rfl
end Rn
end
section
namespace Rn
theorem jEb (mode:Int)(neg odd:Bool)(r g g':Nat)(h:2*r<g)(h':2*r<g'):upw mode neg odd r g=upw mode neg odd r g':=by
 unfold upw;rw[decide_eq_false (show ¬g<2*r by omega),decide_eq_false (show ¬g'<2*r by omega),decide_eq_false (show ¬g=2*r by omega),decide_eq_false (show ¬g'=2*r by omega),decide_eq_false (show ¬g<=2*r by omega),decide_eq_false (show ¬g'<=2*r by omega)]
theorem jCl (m n:Nat)(hn:n<=64):m*2^(64-n)%18446744073709551616=m%2^n*2^(64-n):=by
 have e:(18446744073709551616:Nat)=2^n*2^(64-n):=by
  rw[<- Nat.pow_add,show n+(64-n)=64 by omega]
 rw[e,Nat.mul_mod_mul_right]
theorem code_rnd (mode:Int)(neg:Bool)(m n:Nat)(hm:m<18446744073709551616)(h:n<=64∨m<9223372036854775808):
 m/2^min n 64=m/2^n /\
 upw mode neg (m/2^min n 64%2==1) (m*2^(64-min n 64)%18446744073709551616) 18446744073709551616=upw mode neg (m/2^n%2==1) (m%2^n) (2^n) /\
 (m*2^(64-min n 64)%18446744073709551616=0↔m%2^n=0):=by
 by_cases hn:n<=64
 ·rw[Nat.min_eq_left hn,jCl m n hn];have hp:0<2^(64-n):=Nat.two_pow_pos _;have e:(18446744073709551616:Nat)=2^n*2^(64-n):=by
   rw[<- Nat.pow_add,show n+(64-n)=64 by omega]
  refine⟨rfl,?_,?_⟩
  ·rw[e,j6W _ _ _ _ _ _ hp]
  ·rw[Nat.mul_eq_zero];omega
 ·have hm':m<9223372036854775808:=by omega
  have hN:18446744073709551616<=2^n:=by
   rw[show (18446744073709551616:Nat)=2^64 from rfl];exact Nat.pow_le_pow_right (by decide) (by omega)
  rw[Nat.min_eq_right (by omega),Nat.sub_self,Nat.pow_zero,Nat.mul_one,show (2:Nat)^64=18446744073709551616 from rfl,Nat.mod_eq_of_lt hm,Nat.div_eq_of_lt hm,Nat.div_eq_of_lt (show m<2^n by omega),Nat.mod_eq_of_lt (show m<2^n by omega)];exact⟨rfl,jEb _ _ _ _ _ _ (by omega) (by omega),Iff.rfl⟩
end Rn
end
section
open Go.RowKit
theorem j3U (x:Int)(h0:0<=x)(h:x<9223372036854775808):bits .and .i64 x 1=x%2:=by
 obtain⟨n,rfl⟩:=Int.eq_ofNat_of_zero_le h0;have h1:(BitVec.ofInt 64 (n:Int)).toNat=n:=by
  rw[BitVec.ofInt_natCast,BitVec.toNat_ofNat];exact Nat.mod_eq_of_lt (by omega)
 show IntKind.i64.wrap ((BitVec.ofInt 64 (n:Int) &&& BitVec.ofInt 64 1).toNat:Int)=_;rw[BitVec.toNat_and,h1,show (BitVec.ofInt 64 1).toNat=1 by decide,Nat.and_one_is_mod,IntKind.wrap_i64];omega
theorem j4r (f:Int)(h0:0<=f)(i:Nat):f%2^(i+1)=f%2^i+2^i*(f/2^i%2):=by
 obtain⟨n,rfl⟩:=Int.eq_ofNat_of_zero_le h0;have:=Nat.mod_mul (a:=2^i) (b:=2) (x:=n);rw[<- Nat.pow_succ] at this
 exact_mod_cast this
theorem j1O (i:Nat):(0:Int)<2^i:=by
 have:=Nat.two_pow_pos i
 exact_mod_cast this
theorem j4B (f:Int)(h0:0<=f)(i:Nat):0<=f/2^i/\f/2^i<=f:=by
 have hp:=j1O i;exact⟨Int.ediv_nonneg h0 (by omega),Int.ediv_le_self _ h0⟩
theorem j4q (f:Int)(h0:0<=f)(i:Nat):0<=f%2^i/\f%2^i<=f:=by
 have hp:=j1O i;refine⟨Int.emod_nonneg _ (by omega),?_⟩;obtain⟨n,rfl⟩:=Int.eq_ofNat_of_zero_le h0;have:=Nat.mod_le n (2^i)
 exact_mod_cast this
theorem j3V (f:Int)(h0:0<=f)(h1:f<9223372036854775808)(i:Nat)(h:f/2^i%2=1):
 (bits .and .i64 (f/2^i) 1==1)=true/\f%2^(i+1)=f%2^i+2^i/\0<=f%2^i/\f%2^i+2^i<=f:=by
 have d:=j4B f h0 i;have m:=j4r f h0 i;rw[h] at m;have b:=j4q f h0 (i+1);have c:=j4q f h0 i;refine⟨by rw[j3U _ d.1 (by omega),h];rfl,by omega,c.1,by omega⟩
theorem j3T (f:Int)(h0:0<=f)(h1:f<9223372036854775808)(i:Nat)(h:¬f/2^i%2=1):
 (bits .and .i64 (f/2^i) 1==1)=false/\f%2^(i+1)=f%2^i:=by
 have d:=j4B f h0 i;have m:=j4r f h0 i;have z:f/2^i%2=0:=by omega
 rw[z] at m;refine⟨by rw[j3U _ d.1 (by omega),z];rfl,by omega⟩
theorem jBt (e0:Int)(h0:0<=e0)(h1:e0<=1023)(w:World):
 Calls Tryz.prog 151 #[.int .i64 e0] w fun e w'=>e=.returned (.float .f64 (Fl.pw e0))/\w'=w:=by
 go_enter Tryz.func151,Tryz.ntmps151;go_wp2
 go_loop [3,4,10] (fun sq p c=>∃i:Nat,i<=11/\c=.int .i64 i/\sq=.float .f64 (Fl.pw (2^i))/\p=.float .f64 (Fl.pw (e0%2^i))) (fun _ _ c=>11-(RowKit.intOf c).toNat)
 case atStart=>exact⟨0,by omega,rfl,by rw[Fl.pw_consts.2.1],by rw[show e0%2^0=0 by omega,Fl.pw_consts.1]⟩
 case round=>
  obtain⟨i,hi,rfl,rfl,rfl⟩:=hrel;by_cases hlt:i<11
  ·have m1:∀w,(binOp .mul 50 (.float .f64 (Fl.pw (2^i))) (.float .f64 (Fl.pw (2^i)))).run Tryz.prog w=.ok (.float .f64 (Fl.pw (2^(i+1)))) w:=
    fun w=>run_float_arith w .mul 50 .f64 _ _ _ (Fl.sq_up i hlt)
   by_cases hb:e0/2^i%2=1
   ·obtain⟨hbt,hs,hs0,hs1⟩:=j3V e0 h0 (by omega) i hb;have m2:∀w,(binOp .mul 50 (.float .f64 (Fl.pw (e0%2^i))) (.float .f64 (Fl.pw (2^i)))).run Tryz.prog w=.ok (.float .f64 (Fl.pw (e0%2^(i+1)))) w:=
     fun w=>run_float_arith w .mul 50 .f64 _ _ _ (by rw[hs];have:=j1O i;exact Fl.mul_pw (by omega) (by omega) (by omega) (by omega))
    clear hs hs0 hs1 hb;go_wp2
    go_round
    case rel=>exact⟨i+1,by omega,by go_num,rfl,rfl⟩
    case measure=>simp[RowKit.intOf];omega
   ·obtain⟨hbt,hs⟩:=j3T e0 h0 (by omega) i hb;have HS:Hid (e0%2^(i+1)=e0%2^i):=hs;clear hs hb;go_wp2
    go_round
    case rel=>exact⟨i+1,by omega,by go_num,rfl,by rw[HS.out]⟩
    case measure=>simp[RowKit.intOf];omega
  ·go_wp2;go_ret;refine⟨j1V ?_,rfl⟩;have:i=11:=(by omega);subst this;rw[show e0%2^11=e0 by omega]
theorem jBs (f:Int)(h0:1<=f)(h1:f<=1074)(w:World):
 Calls Tryz.prog 151 #[.int .i64 (-f)] w fun e w'=>e=.returned (.float .f64 (Fl.pw (-f)))/\w'=w:=by
 go_enter Tryz.func151,Tryz.ntmps151;go_wp2
 go_loop [3,4,10] (fun sq p c=>∃i:Nat,i<=11/\c=.int .i64 i/\sq=.float .f64 (Fl.pw (-2^i))/\p=.float .f64 (Fl.pw (-(f%2^i)))) (fun _ _ c=>11-(RowKit.intOf c).toNat)
 case atStart=>exact⟨0,by omega,rfl,by rw[Fl.pw_consts.2.2],by rw[show -(f%2^0)=0 by omega,Fl.pw_consts.1]⟩
 case round=>
  obtain⟨i,hi,rfl,rfl,rfl⟩:=hrel;by_cases hlt:i<11
  ·have m1:∀w,(binOp .mul 50 (.float .f64 (Fl.pw (-2^i))) (.float .f64 (Fl.pw (-2^i)))).run Tryz.prog w=.ok (.float .f64 (Fl.pw (-2^(i+1)))) w:=
    fun w=>run_float_arith w .mul 50 .f64 _ _ _ (Fl.sq_dn i hlt)
   by_cases hb:f/2^i%2=1
   ·obtain⟨hbt,hs,hs0,hs1⟩:=j3V f (by omega) (by omega) i hb;have m2:∀w,(binOp .mul 50 (.float .f64 (Fl.pw (-(f%2^i)))) (.float .f64 (Fl.pw (-2^i)))).run Tryz.prog w=.ok (.float .f64 (Fl.pw (-(f%2^(i+1))))) w:=
     fun w=>run_float_arith w .mul 50 .f64 _ _ _ (by
      have:=j1O i;have e:-(f%2^(i+1))=-(f%2^i) + -2^i:=(by rw[hs];omega);rw[e];exact Fl.mul_pw (by omega) (by omega) (by omega) (by omega))
    clear hs hs0 hs1 hb;go_wp2
    go_round
    case rel=>exact⟨i+1,by omega,by go_num,rfl,rfl⟩
    case measure=>simp[RowKit.intOf];omega
   ·obtain⟨hbt,hs⟩:=j3T f (by omega) (by omega) i hb;have HS:Hid (f%2^(i+1)=f%2^i):=hs;clear hs hb;go_wp2
    go_round
    case rel=>exact⟨i+1,by omega,by go_num,rfl,by rw[HS.out]⟩
    case measure=>simp[RowKit.intOf];omega
  ·go_wp2;go_ret;refine⟨j1V ?_,rfl⟩;have:i=11:=(by omega);subst this;rw[show f%2^11=f by omega]
theorem jBr (e0:Int)(h0:-1074<=e0)(h1:e0<=1023)(w:World):
 Calls Tryz.prog 151 #[.int .i64 e0] w fun e w'=>e=.returned (.float .f64 (Fl.pw e0))/\w'=w:=by
 by_cases h:0<=e0
 ·exact jBt e0 h h1 w
 ·have:=jBs (-e0) (by omega) (by omega) w
  rwa [Int.neg_neg] at this
theorem j0m {fn:Func}{t u v s:Tmp}(h:fn.results=#[.tmp t,.tmp u,.tmp v,.tmp s])(tmps:Array Value)(P:Program)(w:World):
 (results fn tmps).run P w=.ok (.tuple #[tmps.getD t undef,tmps.getD u undef,tmps.getD v undef,tmps.getD s undef]) w:=by
 simp[results,h]
@[go_sem] theorem jFZ (b:Nat) (w:World):(callFunc 56 #[.float .f64 b]).run Tryz.prog w=.ok (.value (.int .u64 (b:Int))) w:=
 run_callFunc_extern (e:=Extern.MathFloatBits.float64bits) Tryz.func56 (by kernel_rfl) (by kernel_rfl) (by kernel_rfl) (by kernel_rfl) _ w
@[go_sem] theorem jDU (n:Int) (w:World):(callFunc 43 #[.int .u64 n]).run Tryz.prog w=.ok (.value (.float .f64 n.toNat)) w:=
 run_callFunc_extern (e:=Extern.MathFloatBits.float64frombits) Tryz.func43 (by kernel_rfl) (by kernel_rfl) (by kernel_rfl) (by kernel_rfl) _ w
theorem j2W (b:Nat)(hb:Hid (b<18446744073709551616))(w:World):
 Calls Tryz.prog 144 #[.float .f64 b] w fun e w'=>e=.returned (.int .u64 (magZ b))/\w'=w:=by
 go_enter Tryz.func144,Tryz.ntmps144;go_wp2;go_ret;exact⟨j0G (j3P b hb.out),rfl⟩
theorem j13 (b:Nat)(hb:Hid (b<18446744073709551616))(w:World):
 Calls Tryz.prog 107 #[.float .f64 b] w fun e w'=>e=.returned (.int .i64 (cls b))/\w'=w:=by
 go_enter Tryz.func107,Tryz.ntmps107;go_wp2_with (go_at_call 144;refine(j2W _ hb _).mono ?_;rintro e w' ⟨rfl,rfl⟩;generalize hz0:magZ b=z;have hz:Hid (magZ b=z):=hz0;clear hz0);all_goals go_ret
 all_goals refine⟨j0G ?_,rfl⟩
 ·exact j8d b _ hz ‹_›
 ·exact j8e b _ hz ‹_›
 ·exact j8f b _ hz ‹_›
 ·exact j8g b _ hz ‹_› ‹_›
 ·exact j8h b _ hz ‹_› ‹_› ‹_›
theorem j9y (a:Int)(h0:Hid (0<=a))(h:Hid (a<18446744073709551616))(w:World):
 Calls Tryz.prog 97 #[.int .u64 a] w fun e w'=>e=.returned (.bool (isN a.toNat))/\w'=w:=by
 go_enter Tryz.func97,Tryz.ntmps97;go_wp2;go_ret;refine⟨V1 ?_,rfl⟩;rw[j3O a h0.out h.out];unfold isN magZ;rw[Bool.eq_iff_iff];simp only[decide_eq_true_eq];omega
theorem j9O (a:Int)(h0:Hid (0<=a))(h:Hid (a<18446744073709551616))(w:World):
 Calls Tryz.prog 152 #[.int .u64 a] w fun e w'=>e=.returned (.bool (decide (mag a.toNat<9218868437227405312)))/\w'=w:=by
 go_enter Tryz.func152,Tryz.ntmps152;go_wp2;go_ret;refine⟨V1 ?_,rfl⟩;rw[j3O a h0.out h.out];unfold magZ;rw[Bool.eq_iff_iff];simp only[decide_eq_true_eq];omega
theorem jAu (w:World):
 Calls Tryz.prog 108 #[] w fun e w'=>e=.returned (.float .f64 9221120237041090560)/\w'=w:=by
 go_enter Tryz.func108,Tryz.ntmps108;go_wp2;go_ret;exact⟨rfl,rfl⟩
theorem j08 (b:Nat)(hb:Hid (b<18446744073709551616))(w:World):
 Calls Tryz.prog 55 #[.float .f64 b] w fun e w'=>e=.returned (.float .f64 (one b))/\w'=w:=by
 go_enter Tryz.func55,Tryz.ntmps55;go_wp2_with (first|(go_at_call 107;refine(j13 _ hb _).mono ?_;rintro e w' ⟨rfl,rfl⟩;generalize hz0:cls b=z;have hz:Hid (cls b=z):=hz0;clear hz0)|(go_at_call 108;refine(jAu _).mono ?_;rintro e w' ⟨rfl,rfl⟩));all_goals go_ret
 all_goals refine⟨j1V ?_,rfl⟩
 ·exact jBO b _ hz ‹_›
 ·exact jBM b _ hz ‹_›
theorem j5h (a:Int)(h0:Hid (0<=a))(h:Hid (a<18446744073709551616))(w:World):
 Calls Tryz.prog 48 #[.int .u64 a] w fun e w'=>e=.returned (.int .u64 (one a.toNat))/\w'=w:=by
 go_enter Tryz.func48,Tryz.ntmps48;go_wp2_with (go_at_call 97;refine(j9y _ h0 h _).mono ?_;rintro e w' ⟨rfl,rfl⟩);all_goals go_ret
 all_goals refine⟨j0G ?_,rfl⟩
 ·exact jD2 a ‹_›
 ·exact jD0 a h0.out ‹_›
theorem j2c (b:Nat)(hb:Hid (b<18446744073709551616))(w:World):
 Calls Tryz.prog 145 #[.float .f64 b] w fun e w'=>e=.returned (.bool (ngt b))/\w'=w:=by
 go_enter Tryz.func145,Tryz.ntmps145;go_wp2_with (go_at_call 107;refine(j13 _ hb _).mono ?_;rintro e w' ⟨rfl,rfl⟩;generalize hz0:cls b=z;have hz:Hid (cls b=z):=hz0;clear hz0);all_goals go_ret
 all_goals refine⟨V1 ?_,rfl⟩
 ·exact jB4 b (by rw[j0U hz];simp[*])
 ·rw[j7B b hb.out,<- j1J b (by rw[j0U hz];simp[*])];simp[*]
theorem j33 (b:Nat)(hb:Hid (b<18446744073709551616))(w:World):
 Calls Tryz.prog 90 #[.float .f64 b] w fun e w'=>e=.returned (.tuple #[.bool (spN b),.int .u64 (spMz b),.int .i64 (spE b),.int .i64 (spR b)])/\w'=w:=by
 go_enter Tryz.func90,Tryz.ntmps90;go_wp2_with (first|(go_at_call 144;refine(j2W _ hb _).mono ?_;rintro e w' ⟨rfl,rfl⟩;have hb0:=(j0e b).1;have hb1:=Int.le_sub_one_of_lt (j0e b).2;generalize hz0:magZ b=z at *;have hz:Hid (magZ b=z):=hz0;clear hz0)|(go_at_call 107;refine(j13 _ hb _).mono ?_;rintro e w' ⟨rfl,rfl⟩;generalize hc0:cls b=c;have hc:Hid (cls b=c):=hc0;clear hc0)|(go_at_call 145;refine(j2c _ hb _).mono ?_;rintro e w' ⟨rfl,rfl⟩))
 ·have hx:=(j0V hc).1 ‹_›;obtain⟨e1,e2,e3,e4⟩:=j6H b hx;refine bodyPost_ret (j0m rfl _ _ _) rfl ?_;exact⟨ret4 (R9 e1) (I2 e2) (I2 e3) (I2 e4),rfl⟩
 ·have hx:=(j0V hc).2.1 ‹_›;obtain⟨e1,e2,e3,e4⟩:=j6H b hx;refine bodyPost_ret (j0m rfl _ _ _) rfl ?_;exact⟨ret4 (R9 e1) (I2 e2) (I2 e3) (I2 e4),rfl⟩
 ·have hx:=(j0V hc).2.2.1 ‹_›;obtain⟨e1,e2,e3,e4⟩:=jE9 b hx;have hn:isN b=false:=by rw[j0U hc];assumption
  have hn':=(j1J b hn).symm.trans e1;refine bodyPost_ret (j0m rfl _ _ _) rfl ?_;exact⟨ret4 (R9 hn') (I2 e2) (I2 e3) (I2 e4),rfl⟩
 ·have hx:=(j0V hc).2.2.2.1 ‹_›;obtain⟨e1,e2,e3,e4⟩:=jEB b hx.1 hx.2;have hn:isN b=false:=by rw[j0U hc];assumption
  have hn':=(j1J b hn).symm.trans e1;refine bodyPost_ret (j0m rfl _ _ _) rfl ?_;exact⟨ret4 (R9 hn') (I2 (hz.out.symm.trans e2)) (I2 e3) (I2 e4),rfl⟩
 ·have hx:=(j0V hc).2.2.2.2 ‹_› ‹_› ‹_› ‹_›;obtain⟨e1,e2,e3,e4⟩:=jEA b hx.1 hx.2;have hn:isN b=false:=by rw[j0U hc];assumption
  have hn':=(j1J b hn).symm.trans e1;rw[hz.out] at e2 e3;refine bodyPost_ret (j0m rfl _ _ _) rfl ?_;exact⟨ret4 (R9 hn') (I2 e2) (I2 (by rw[<- e3];omega)) (I2 e4),rfl⟩
def plc (b:Nat):Int:=if isN b then 9221120237041090560 else if sgb b then -1-magZ b else magZ b
def ord (p q:Int):Int:=if p<q then -1 else if q<p then 1 else 0
def j6h (p:Int):Nat:=if p<0 then 9223372036854775808+(-1-p).toNat else p.toNat
theorem j09 (b:Nat)(hb:b<18446744073709551616):one b<18446744073709551616:=by unfold one;split <;> omega
theorem jBo (b:Nat)(h:ngt b=true):-1-magZ (one b)=plc b:=by
 unfold ngt at h;simp only[Bool.and_eq_true,Bool.not_eq_true'] at h;unfold plc one;rw[h.1,h.2,if_neg (X8 h.1)];rfl
theorem jBp (b:Nat)(h:ngt b=false):magZ (one b)=plc b:=by
 unfold ngt at h;unfold plc one;by_cases hn:isN b=true
 ·rw[if_pos hn,if_pos (j06 hn)];decide
 ·have hn':isN b=false:=by simpa using hn
  rw[hn'] at h;have hs:sgb b=false:=by simpa using h
  rw[hn',hs,if_neg (X8 hn')];rfl
theorem j57 (b:Nat)(hb:Hid (b<18446744073709551616))(w:World):
 Calls Tryz.prog 219 #[.float .f64 b] w fun e w'=>e=.returned (.int .i64 (plc b))/\w'=w:=by
 have ho:Hid (one b<18446744073709551616):=j09 b hb.out;go_enter Tryz.func219,Tryz.ntmps219;go_wp2_with (first|(go_at_call 55;refine(j08 _ hb _).mono ?_;rintro e w' ⟨rfl,rfl⟩)|(go_at_call 144;refine(j2W _ ho _).mono ?_;rintro e w' ⟨rfl,rfl⟩;have hb0:=(j0e (one b)).1;have hb1:=Int.le_sub_one_of_lt (j0e (one b)).2;generalize hz0:magZ (one b)=z at *;have hz:Hid (magZ (one b)=z):=hz0;clear hz0)|(go_at_call 145;refine(j2c _ hb _).mono ?_;rintro e w' ⟨rfl,rfl⟩));all_goals go_ret
 all_goals refine⟨j0G ?_,rfl⟩
 ·rw[<- jBo b ‹_›,hz.out]
 ·rw[<- jBp b ‹_›,hz.out]
theorem j52 (a b:Nat)(ha:Hid (a<18446744073709551616))(hb:Hid (b<18446744073709551616))(w:World):
 Calls Tryz.prog 198 #[.float .f64 a,.float .f64 b] w fun e w'=>e=.returned (.int .i64 (ord (plc a) (plc b)))/\w'=w:=by
 have H1:Hid (∀w,Calls Tryz.prog 219 #[.float .f64 a] w fun e w'=>e=.returned (.int .i64 (plc a))/\w'=w):=j57 a ha;have H2:Hid (∀w,Calls Tryz.prog 219 #[.float .f64 b] w fun e w'=>e=.returned (.int .i64 (plc b))/\w'=w):=j57 b hb;generalize plc a=p at *;generalize plc b=q at *;clear ha hb;go_enter Tryz.func198,Tryz.ntmps198;go_wp2_with fail;refine(H1.out _).mono ?_;rintro e w' ⟨rfl,rfl⟩;go_wp2_with fail;refine(H2.out _).mono ?_;rintro e w' ⟨rfl,rfl⟩;go_wp2;all_goals go_ret
 all_goals refine⟨j0G ?_,rfl⟩
 ·unfold ord;rw[if_pos ‹_›]
 ·unfold ord;rw[if_neg (by omega),if_pos ‹_›]
 ·unfold ord;rw[if_neg (by omega),if_neg (by omega)]
theorem jDn (a b:Nat)(ha:Hid (a<18446744073709551616))(hb:Hid (b<18446744073709551616))(w:World):
 Calls Tryz.prog 201 #[.float .f64 a,.float .f64 b] w fun e w'=>e=.returned (.bool (ord (plc a) (plc b)==0))/\w'=w:=by
 have H1:Hid (∀w,Calls Tryz.prog 198 #[.float .f64 a,.float .f64 b] w fun e w'=>e=.returned (.int .i64 (ord (plc a) (plc b)))/\w'=w):=j52 a b ha hb;generalize ord (plc a) (plc b)=p at *;go_enter Tryz.func201,Tryz.ntmps201;go_wp2_with (go_at_call 198;refine(H1.out _).mono ?_;rintro e w' ⟨rfl,rfl⟩);go_ret;exact⟨rfl,rfl⟩
theorem j6i (x:Nat)(hx:x<18446744073709551616)(n:isN x=false):j6h (plc x)=x:=by
 have hm:=j2V x hx;unfold plc magZ j6h;rw[n];cases hs:sgb x
 ·rw[hs] at hm;simp only[Bool.false_eq_true,if_false] at hm ⊢;rw[if_neg (by omega)];omega
 ·rw[hs] at hm;simp only[Bool.false_eq_true,if_false,if_true] at hm ⊢;rw[if_pos (by omega)];omega
theorem jBN (a:Nat):isN (one a)=isN a:=by
 unfold one;by_cases h:9218868437227405312<mag a
 ·rw[if_pos h];have:isN a=true:=decide_eq_true h;rw[this];decide +kernel
 ·rw[if_neg h]
theorem j2i {a:Nat}(h:isN (one a)=true):one a=9221120237041090560:=by
 rw[jBN] at h;unfold one;rw[if_pos (j06 h)]
theorem j1M (a:Nat):one (one a)=one a:=by
 by_cases h:isN (one a)=true
 ·rw[j2i h];decide +kernel
 ·have h':isN (one a)=false:=by simpa using h
  have:=X8 h';show (if 9218868437227405312<mag (one a) then _ else one a)=one a;rw[if_neg this]
theorem jBn {a b:Nat}(ha:one a<18446744073709551616)(hb:one b<18446744073709551616)(h:plc (one a)=plc (one b)):one a=one b:=by
 have pn:∀x,isN x=true->plc x=9221120237041090560:=fun x n=>by unfold plc;rw[n];rfl
 have pt:∀x,isN x=false->plc x<=9218868437227405312:=fun x n=>by
  have h1:=X8 n;have h3:=j0e x;have h2:magZ x<=9218868437227405312:=by unfold magZ;omega
  unfold plc;rw[n];cases sgb x
  ·exact h2
  ·show -1-magZ x<=_;omega
 cases na:isN (one a) <;> cases nb:isN (one b)
 ·rw[<- j6i _ ha na,<- j6i _ hb nb,h]
 ·have:=pt _ na;have:=pn _ nb;omega
 ·have:=pt _ nb;have:=pn _ na;omega
 ·rw[j2i na,j2i nb]
theorem j1N (a:Nat):plc (one a)=plc a:=by
 by_cases h:isN a=true
 ·have h1:one a=9221120237041090560:=by unfold one;rw[if_pos (j06 h)]
  rw[h1];unfold plc;rw[h,if_pos (rfl:true=true)];decide +kernel
 ·have h':isN a=false:=by simpa using h
  have:one a=a:=by unfold one;rw[if_neg (X8 h')]
  rw[this]
def F7 (a b:Nat):Bool:=decide (one a=one b)
theorem j4R (a b:Nat)(ha:a<18446744073709551616)(hb:b<18446744073709551616):(ord (plc a) (plc b)==0)=F7 a b:=by
 unfold F7 ord;by_cases h:one a=one b
 ·have:plc a=plc b:=by rw[<- j1N a,<- j1N b,h]
  rw[this,if_neg (by omega),if_neg (by omega),decide_eq_true h];rfl
 ·have hne:plc a≠plc b:=fun e=>h (jBn (j09 a ha) (j09 b hb) (by rw[j1N,j1N,e]))
  rw[decide_eq_false h];split
  ·rfl
  ·rw[if_pos (by omega)];rfl
theorem j9U (a b:Nat)(ha:a<18446744073709551616)(hb:b<18446744073709551616)(w:World):
 Calls Tryz.prog 201 #[.float .f64 a,.float .f64 b] w fun e w'=>e=.returned (.bool (F7 a b))/\w'=w:=by
 rw[<- j4R a b ha hb];exact jDn a b ha hb w
theorem j8Q (s:Nat)(x b:Int)(h0:0<=x)(hx:x<18446744073709551616)(hb:b=x/2^s)(h255:b<=255)(hge:s=0∨1<=b):
 (s:Int)+Lib.len8 b=Lib.bitLen x.toNat:=by
 obtain⟨n,rfl⟩:=Int.eq_ofNat_of_zero_le h0;have hq:b=((n/2^s:Nat):Int):=by rw[hb];exact_mod_cast rfl
 have hb0:0<=b:=by rw[hq];exact Int.natCast_nonneg _
 rw[Lib.len8_of b hb0 h255,hq,Int.toNat_natCast,Int.toNat_natCast];rcases hge with rfl|hge
 ·simp
 ·have hp:0<2^s:=Nat.two_pow_pos s;have h1:1<=n/2^s:=by omega
  have h2:2^s<=n:=by
   have:=(Nat.le_div_iff_mul_le hp).1 h1;omega
  have:=Lib.bitLen_shift s n h2 (by omega);omega
theorem U3 (s:Nat)(x b:Int)(h0:0<=x)(hx:x<18446744073709551616)(hb:b=x/2^s)(h255:b<=255)(hge:s=0∨1<=b)(hs:s<=56)(h:b.toNat<Lib.len8tab.size):
 wrap64 ((s:Int)+wrap64 ((Lib.len8tab[b.toNat]'h).toNat:Int))=Lib.bitLen x.toNat:=by
 rw[<- j8Q s x b h0 hx hb h255 hge];have e:((Lib.len8tab[b.toNat]'h).toNat:Int)=Lib.len8 b:=by
  unfold Lib.len8;rw[getElem?_pos Lib.len8tab b.toNat h];rfl
 have u:=(Lib.len8tab[b.toNat]'h).toNat_lt;rw[<- e];generalize (Lib.len8tab[b.toNat]'h).toNat=t at *;unfold wrap64;omega
theorem j2O (x:Int)(w:World)(h0:0<=x)(h1:x<=18446744073709551615):
 Calls Tryz.prog 92 #[.int .u64 x] w fun e w'=>e=.returned (.int .i64 (Lib.bitLen x.toNat))/\w'=w:=by
 have hsz:=Lib.len8tab_size;go_enter Tryz.func92,Tryz.ntmps92;go_wp2;all_goals go_ret
 all_goals refine⟨j0G ?_,rfl⟩
 ·exact U3 56 x _ h0 (by omega) (by omega) (by omega) (by omega) (by omega) _
 ·exact U3 48 x _ h0 (by omega) (by omega) (by omega) (by omega) (by omega) _
 ·exact U3 40 x _ h0 (by omega) (by omega) (by omega) (by omega) (by omega) _
 ·exact U3 32 x _ h0 (by omega) (by omega) (by omega) (by omega) (by omega) _
 ·exact U3 24 x _ h0 (by omega) (by omega) (by omega) (by omega) (by omega) _
 ·exact U3 16 x _ h0 (by omega) (by omega) (by omega) (by omega) (by omega) _
 ·exact U3 8 x _ h0 (by omega) (by omega) (by omega) (by omega) (by omega) _
 ·have:=U3 0 x x h0 (by omega) (by omega) (by omega) (Or.inl rfl) (by omega) (by omega)
  rwa [show ((0:Nat):Int)=0 from rfl,Int.zero_add] at this
theorem j1t (x:Nat)(h0:x≠0)(h:x<18446744073709551616):Lib.bitLen x=x.log2+1:=by
 have e1:=Nat.log2_self_le h0;have e2:x<2^(x.log2+1):=Nat.lt_log2_self;have:=Lib.bitLen_shift x.log2 x e1 h;have q:x/2^x.log2=1:=by
  have hp:0<2^x.log2:=Nat.two_pow_pos _;refine Nat.div_eq_of_lt_le (by omega) ?_;rw[Nat.pow_succ] at e2;omega
 rw[this,q];rfl
def Tab (w:World):Prop:=∀j,j<64->w.cell? ⟨4,j,none⟩=some (.int .u8 (Lib.deBruijn64tab.getD j 0:Nat))
theorem jEV (x a:Nat)(hx:x<18446744073709551616)(hlow:x &&& (18446744073709551616-x)=a)(hx0:x≠0):
 IntKind.u64.wrap (bits BinOp.and IntKind.u64 (x:Int) (IntKind.u64.wrap (-(x:Int)))*285870213051353865)/288230376151711744=((a*285870213051353865%18446744073709551616/288230376151711744:Nat):Int):=by
 have e1:IntKind.u64.wrap (-(x:Int))=((18446744073709551616-x:Nat):Int):=by rw[IntKind.wrap_u64];omega
 rw[e1,u64_and_nat x _ hx (by omega),hlow,IntKind.wrap_u64];omega
theorem jEU (x:Int)(k idx:Nat)(w:World)(hx0:(x==0)=false)
 (key:Hid (IntKind.u64.wrap (bits BinOp.and IntKind.u64 x (IntKind.u64.wrap (-x))*285870213051353865)/288230376151711744=(idx:Int)))
 (hi:idx<64) (hk:k<64) (hcell:w.cell? ⟨4,idx,none⟩=some (.int .u8 k)) :
 Calls Tryz.prog 179 #[.int .u64 x] w fun e w'=>e=.returned (.int .i64 k)/\w'=w:=by
 go_enter Tryz.func179,Tryz.ntmps179;go_wp2_with (simp only[key.out]);go_ret;exact⟨rfl,rfl⟩
theorem jET (x:Int)(h0:0<x)(hx:x<18446744073709551616)(w:World)(hT:Tab w):
 Calls Tryz.prog 179 #[.int .u64 x] w fun e w'=>e=.returned (.int .i64 (Lib.ctz 64 x.toNat:Nat))/\w'=w:=by
 obtain⟨n,rfl⟩:=Int.eq_ofNat_of_zero_le (Int.le_of_lt h0);have hn0:n≠0:=by omega
 have hn:n<18446744073709551616:=by omega
 obtain⟨hlow,hk⟩:=Lib.lowest_bit 64 n hn0 hn;obtain⟨hi,htab⟩:=Lib.deBruijn64_at _ hk;have hcell:=hT _ hi;rw[htab] at hcell;rw[Int.toNat_natCast];exact jEU n _ _ w (by simp;omega) (jEV n _ hn hlow hn0) hi hk hcell
theorem or63 (b:Nat)(h:b<9223372036854775808):bits .or .u64 (b:Int) 9223372036854775808=((9223372036854775808+b:Nat):Int):=by
 have:=u64_or_nat b 9223372036854775808 (by omega) (by decide);rw[show (9223372036854775808:Int)=((9223372036854775808:Nat):Int) from rfl,this,Nat.or_comm,nat_join 63 _ b (by decide) (by omega)]
theorem j6C (neg:Bool)(b:Nat)(hb:Hid (b<9223372036854775808))(w:World):
 Calls Tryz.prog 148 #[.bool neg,.float .f64 b] w fun e w'=>e=.returned (.float .f64 (Ieee.double.word neg b))/\w'=w:=by
 go_enter Tryz.func148,Tryz.ntmps148;cases neg
 ·go_wp2;go_ret;exact⟨rfl,rfl⟩
 ·go_wp2;go_ret;refine⟨j1V ?_,rfl⟩;rw[or63 b hb.out,Int.toNat_natCast]
  rfl
theorem jBE (m e0:Int)(k:Nat)(h0:0<m)(h1:m<18446744073709551616)(hk:k<64)(hkk:Hid (Lib.ctz 64 m.toNat=k))(he0:-9223372036854775808<=e0)(he1:e0<=1023)(w:World)(hT:Hid (Tab w)):
 Calls Tryz.prog 149 #[.int .u64 m,.int .i64 e0] w fun e w'=>e=.returned (.tuple #[.int .u64 (m/2^k),.int .i64 (e0+k)])/\w'=w:=by
 have H:Hid (Calls Tryz.prog 179 #[.int .u64 m] w fun e w'=>e=.returned (.int .i64 k)/\w'=w):=by
  have:=jET m h0 h1 w hT.out
  rwa [hkk.out] at this
 go_enter Tryz.func149,Tryz.ntmps149;go_wp2_with (go_at_call 179;refine H.out.mono ?_;rintro e w' ⟨rfl,rfl⟩)
 go_ret2
 exact⟨rfl,rfl⟩
def hld (n e0 wd least top:Int):Bool:=decide (n<=wd/\least<=e0/\n+e0<=top)
theorem j9i (m e0 wd least top n:Int)(h0:0<=m)(h1:m<=18446744073709551615)(hn:Hid ((Lib.bitLen m.toNat:Int)=n))(hn0:0<=n)(hn1:n<=64)(he0:-9223372036854775808<=e0)(he1:e0<=2000)(w:World):
 Calls Tryz.prog 150 #[.int .u64 m,.int .i64 e0,.int .i64 wd,.int .i64 least,.int .i64 top] w fun e w'=>e=.returned (.bool (hld n e0 wd least top))/\w'=w:=by
 have H:Hid (Calls Tryz.prog 92 #[.int .u64 m] w fun e w'=>e=.returned (.int .i64 n)/\w'=w):=by
  have:=j2O m w h0 h1
  rwa [hn.out] at this
 go_enter Tryz.func150,Tryz.ntmps150;go_wp2_with (go_at_call 92;refine H.out.mono ?_;rintro e w' ⟨rfl,rfl⟩);all_goals go_ret
 all_goals refine⟨V1 ?_,rfl⟩
 ·exact decide_eq_decide.2 (by omega)
 ·exact(decide_eq_false (by omega)).symm
 ·exact(decide_eq_false (by omega)).symm
def oddM (m:Int):Nat:=m.toNat/2^Lib.ctz 64 m.toNat
def oddE (m e0:Int):Int:=e0+(Lib.ctz 64 m.toNat:Nat)
def T6 (m e0:Int):Bool:=hld ((oddM m).log2+1:Nat) (oddE m e0) 53 (-1074) 1024
def U7 (neg:Bool) (m e0:Int):Nat:=if m=0 then Ieee.double.word neg 0 else if T6 m e0 then Ieee.double.nearest neg (oddM m) (oddE m e0) else 0
def X9 (m e0:Int):Int:=if m=0 then 0 else if T6 m e0 then 0 else 11
theorem j1L (m:Int)(h0:0<m)(h1:m<18446744073709551616):Lib.ctz 64 m.toNat<64/\(oddM m:Int)=m/2^Lib.ctz 64 m.toNat/\oddM m%2=1/\m.toNat=oddM m*2^Lib.ctz 64 m.toNat /\
 oddM m<18446744073709551616:=by
 obtain⟨n,rfl⟩:=Int.eq_ofNat_of_zero_le (Int.le_of_lt h0);obtain⟨k,hk,hkl⟩:=Lib.ctzFrom_spec 64 n (by omega) (by omega);have e:Lib.ctz 64 n=Lib.ctzFrom 64 n:=by unfold Lib.ctz;rw[if_neg (by omega)]
 unfold oddM;rw[Int.toNat_natCast,e];have hp:0<2^Lib.ctzFrom 64 n:=Nat.two_pow_pos _;have q:n/2^Lib.ctzFrom 64 n=2*k+1:=by
  refine Nat.div_eq_of_eq_mul_right hp hk
 have ql:n/2^Lib.ctzFrom 64 n<=n:=Nat.div_le_self _ _;refine⟨hkl,by exact_mod_cast rfl,by omega,by rw[q,Nat.mul_comm];exact hk,by omega⟩
theorem jBD (m:Int)(h0:0<m)(h1:m<18446744073709551616):(Lib.bitLen (m/2^Lib.ctz 64 m.toNat).toNat:Int)=((oddM m).log2+1:Nat)/\(oddM m).log2<64:=by
 obtain⟨_,e,ho,_,hl⟩:=j1L m h0 h1;rw[<- e,Int.toNat_natCast,j1t _ (by omega) hl];exact⟨rfl,(Nat.log2_lt (by omega)).2 hl⟩
theorem jA1 (m e0:Int)(h:1024<=e0):T6 m e0=false:=by
 unfold T6 hld oddE;exact decide_eq_false (by omega)
theorem jA2 (m e0:Int)(h0:0<m)(h1:m<18446744073709551616)(h:T6 m e0=true):Fl.Fits (oddM m) (oddE m e0)/\Fl.Fits (oddM m) 0 /\ -1074<=oddE m e0/\oddE m e0<=1023:=by
 obtain⟨_,_,ho,_,_⟩:=j1L m h0 h1;have hj:=of_decide_eq_true h;have hlt:oddM m<9007199254740992:=(Nat.log2_lt (by omega)).1 (show (oddM m).log2<53 by omega);exact⟨⟨by omega,hlt,by omega,by omega⟩,⟨by omega,hlt,by omega,by omega⟩,by omega,by omega⟩
theorem j8l (o:Nat):floatOfInt .f64 (o:Int)=Ieee.double.nearest false o 0:=by
 show Ieee.double.nearest (decide ((o:Int)<0)) (o:Int).natAbs 0=_;rw[Int.natAbs_natCast,decide_eq_false (by omega)]
theorem jBF (o o' k k':Nat)(ho:o%2=1)(ho':o'%2=1)(h:o*2^k=o'*2^k'):k=k'/\o=o':=by
 have key:∀o o' k d:Nat,o%2=1->o*2^k=o'*2^(k+(d+1))->False:=by
  intro o o' k d ho h;have hp:0<2^k:=Nat.two_pow_pos k;rw[Nat.pow_add,Nat.pow_succ] at h;have e:o=o'*(2^d*2):=by
   refine Nat.eq_of_mul_eq_mul_right hp ?_;rw[h];ac_rfl
  rw[<- Nat.mul_assoc] at e;omega
 rcases Nat.lt_trichotomy k k' with c|c|c
 ·obtain⟨d,rfl⟩:∃d,k'=k+(d+1):=⟨k'-k-1,by omega⟩;exact(key o o' k d ho h).elim
 ·subst c;exact⟨rfl,Nat.eq_of_mul_eq_mul_right (Nat.two_pow_pos k) h⟩
 ·obtain⟨d,rfl⟩:∃d,k=k'+(d+1):=⟨k-k'-1,by omega⟩;exact(key o' o k' d ho' h.symm).elim
theorem jA6 (neg:Bool)(e0:Int)(w:World):
 Calls Tryz.prog 95 #[.bool neg,.int .u64 0,.int .i64 e0] w fun e w'=>e=.returned (.tuple #[.float .f64 (Ieee.double.word neg 0),.int .i64 0])/\w'=w:=by
 have h0:Hid (0<9223372036854775808):=by unfold Hid;decide
 go_enter Tryz.func95,Tryz.ntmps95;go_wp2_with (go_at_call 148;refine(j6C neg 0 h0 _).mono ?_;rintro e w' ⟨rfl,rfl⟩)
 go_ret2
 exact⟨rfl,rfl⟩
theorem jA0 (neg:Bool)(m e0:Int)(hm:(m==0)=false)(he:1024<=e0)(w:World):
 Calls Tryz.prog 95 #[.bool neg,.int .u64 m,.int .i64 e0] w fun e w'=>e=.returned (.tuple #[.float .f64 0,.int .i64 11])/\w'=w:=by
 go_enter Tryz.func95,Tryz.ntmps95;go_wp2
 go_ret2
 exact⟨rfl,rfl⟩
theorem jA3 (neg:Bool)(m e0 o:Int)(k:Nat)(hm:(m==0)=false)(he:e0<1024)
 (C1:Hid (∀w,Tab w->Calls Tryz.prog 149 #[.int .u64 m,.int .i64 e0] w fun e w'=>e=.returned (.tuple #[.int .u64 o,.int .i64 (e0+k)])/\w'=w))
 (C2:Hid (∀w,Calls Tryz.prog 150 #[.int .u64 o,.int .i64 (e0+k),.int .i64 53,.int .i64 (-1074),.int .i64 1024] w fun e w'=>e=.returned (.bool false)/\w'=w))
 (w:World) (hT:Hid (Tab w)) :
 Calls Tryz.prog 95 #[.bool neg,.int .u64 m,.int .i64 e0] w fun e w'=>e=.returned (.tuple #[.float .f64 0,.int .i64 11])/\w'=w:=by
 go_enter Tryz.func95,Tryz.ntmps95;go_wp2_with (first|(go_at_call 149;refine(C1.out _ hT.out).mono ?_;rintro e w' ⟨rfl,rfl⟩)|(go_at_call 150;refine(C2.out _).mono ?_;rintro e w' ⟨rfl,rfl⟩))
 go_ret2
 exact⟨rfl,rfl⟩
theorem jA5 (neg:Bool)(m e0 o:Int)(k r f q:Nat)(hm:(m==0)=false)(he:e0<1024)
 (C1:Hid (∀w,Tab w->Calls Tryz.prog 149 #[.int .u64 m,.int .i64 e0] w fun e w'=>e=.returned (.tuple #[.int .u64 o,.int .i64 (e0+k)])/\w'=w))
 (C2:Hid (∀w,Calls Tryz.prog 150 #[.int .u64 o,.int .i64 (e0+k),.int .i64 53,.int .i64 (-1074),.int .i64 1024] w fun e w'=>e=.returned (.bool true)/\w'=w))
 (C3:Hid (∀w,Calls Tryz.prog 151 #[.int .i64 (e0+k)] w fun e w'=>e=.returned (.float .f64 f)/\w'=w))
 (C4:∀w,(binOp .mul 50 (.float .f64 (floatOfInt .f64 o)) (.float .f64 f)).run Tryz.prog w=.ok (.float .f64 r) w)
 (C5:Hid (∀w,Calls Tryz.prog 148 #[.bool neg,.float .f64 r] w fun e w'=>e=.returned (.float .f64 q)/\w'=w))
 (w:World) (hT:Hid (Tab w)) :
 Calls Tryz.prog 95 #[.bool neg,.int .u64 m,.int .i64 e0] w fun e w'=>e=.returned (.tuple #[.float .f64 q,.int .i64 0])/\w'=w:=by
 go_enter Tryz.func95,Tryz.ntmps95;go_wp2_with (first|(go_at_call 149;refine(C1.out _ hT.out).mono ?_;rintro e w' ⟨rfl,rfl⟩)|(go_at_call 150;refine(C2.out _).mono ?_;rintro e w' ⟨rfl,rfl⟩)|(go_at_call 151;refine(C3.out _).mono ?_;rintro e w' ⟨rfl,rfl⟩)|(go_at_call 148;refine(C5.out _).mono ?_;rintro e w' ⟨rfl,rfl⟩))
 go_ret2
 exact⟨rfl,rfl⟩
theorem j9z (neg:Bool)(m e0:Int)(h0:0<=m)(h1:m<18446744073709551616)(he0:-9223372036854775808<=e0)(w:World)(hT:Hid (Tab w)):
 Calls Tryz.prog 95 #[.bool neg,.int .u64 m,.int .i64 e0] w fun e w'=>e=.returned (.tuple #[.float .f64 (U7 neg m e0),.int .i64 (X9 m e0)])/\w'=w:=by
 unfold U7 X9;by_cases hm:m=0
 ·subst hm;rw[if_pos rfl,if_pos rfl];exact jA6 neg e0 w
 ·rw[if_neg hm,if_neg hm];have hm':(m==0)=false:=by simpa using hm
  by_cases he:1024<=e0
  ·rw[jA1 m e0 he];exact jA0 neg m e0 hm' he w
  ·obtain⟨hk,ho,_,_,hol⟩:=j1L m (by omega) h1;obtain⟨hb,hbl⟩:=jBD m (by omega) h1;have hp:=Fl.mul_fit (s:=false) (t:=false) (m:=oddM m) (n:=1) (p:=0) (q:=oddE m e0);have c1:∀w,Tab w->Calls Tryz.prog 149 #[.int .u64 m,.int .i64 e0] w fun e w'=>e=.returned (.tuple #[.int .u64 (oddM m),.int .i64 (oddE m e0)])/\w'=w:=fun w hT=>by
    have:=jBE m e0 _ (by omega) h1 hk rfl he0 (by omega) w hT
    rwa [<- ho] at this
   have c2:∀w,Calls Tryz.prog 150 #[.int .u64 (oddM m),.int .i64 (oddE m e0),.int .i64 53,.int .i64 (-1074),.int .i64 1024] w fun e w'=>e=.returned (.bool (T6 m e0))/\w'=w:=fun w=>
    j9i (oddM m) (oddE m e0) 53 (-1074) 1024 _ (by omega) (by omega) (by rw[<- ho,Int.toNat_natCast] at hb;rw[Int.toNat_natCast];exact hb) (by omega) (by omega) (by unfold oddE;omega) (by unfold oddE;omega) w
   cases hj:T6 m e0
   ·rw[hj] at c2;exact jA3 neg m e0 (oddM m) (Lib.ctz 64 m.toNat) hm' (by omega) c1 c2 w hT
   ·rw[hj] at c2;obtain⟨f1,f2,b1,b2⟩:=jA2 m e0 (by omega) h1 hj;have hw:=Fl.word_nearest neg f1;refine jA5 neg m e0 (oddM m) (Lib.ctz 64 m.toNat) (Ieee.double.nearest false (oddM m) (oddE m e0)) (Fl.pw (oddE m e0)) _ hm' (by omega) c1 c2 (fun w=>jBr _ b1 b2 w) (fun w=>?_) (fun w=>?_) w hT
    ·have:=hp f2 (Fl.fits_pow b1 b2);rw[Nat.mul_one,Int.zero_add] at this;exact run_float_arith w .mul _ .f64 _ _ _ (by rw[j8l];exact this)
    ·have:=j6C neg _ (Nat.lt_trans hw.2 (by decide)) w
     rwa [hw.1] at this
end
section
open Go.RowKit
open Ieee
theorem jA4 (neg:Bool)(m:Nat)(e:Int)(h0:m≠0)(h1:m<=9007199254740992)(he:-1074<=e)(ht:e+m.log2<=1023):
 U7 neg m e=double.nearest neg m e/\X9 m e=0:=by
 obtain⟨hk,_,ho,hm,_⟩:=j1L (m:Int) (by omega) (by omega);rw[Int.toNat_natCast] at hm hk;have hne:¬(m:Int)=0:=by omega
 have hE:oddE (m:Int) e=e+(Lib.ctz 64 m:Nat):=by unfold oddE;rw[Int.toNat_natCast]
 have hlog:m.log2=(oddM (m:Int)).log2+Lib.ctz 64 m:=by
  rw[<- Fl.log2_mul_pow _ _ (by omega),<- hm]
 have hlt:(oddM (m:Int)).log2<=52:=by
  by_cases c:m=9007199254740992
  ·have e1:oddM (m:Int)*2^Lib.ctz 64 m=1*2^53:=(by rw[<- hm,c]);have:oddM (m:Int)=1:=(jBF _ 1 _ 53 ho (by decide) e1).2;rw[this];decide
  ·have:m.log2<53:=(Nat.log2_lt h0).2 (show m<2^53 by omega);omega
 have hok:T6 (m:Int) e=true:=by
  unfold T6 hld;rw[hE];exact decide_eq_true (by omega)
 unfold U7 X9;rw[if_neg hne,if_neg hne,hok,if_pos rfl,if_pos rfl];refine⟨?_,rfl⟩;have:=Fl.nearest_shift neg (oddM (m:Int)) (oddE (m:Int) e) (Lib.ctz 64 m);rw[<- hm,hE,show e+((Lib.ctz 64 m:Nat):Int)-(Lib.ctz 64 m:Nat)=e by omega] at this;rw[hE,this]
theorem j4g (neg:Bool)(e:Int):U7 neg 0 e=double.word neg 0/\X9 0 e=0:=by
 unfold U7 X9;rw[if_pos rfl,if_pos rfl];exact⟨rfl,rfl⟩
theorem j6g (neg:Bool)(r:Nat)(h:r<9223372036854775808):double.word neg r<18446744073709551616/\mag (double.word neg r)=r/\sgb (double.word neg r)=neg:=by
 unfold Format.word mag sgb;rw[Fl.sw];cases neg
 ·simp only[Bool.false_eq_true,if_false];exact⟨by omega,by omega,decide_eq_false (by omega)⟩
 ·simp only[if_true];exact⟨by omega,by omega,decide_eq_true (by omega)⟩
theorem j8i (neg:Bool){m:Nat}{p:Int}(f:Fl.Fits m p)(hr:Rn.rung32 1 neg m p<2139095040):floatToFloatBits .f64 (double.nearest neg m p) .f32=some (Rn.word32 1 neg m p):=by
 obtain⟨k,_,_,_,e⟩:=Fl.fit neg f;have hM:m*2^k≠0:=Nat.mul_ne_zero f.1 (by have:=Nat.two_pow_pos k;omega);have hd:FloatKind.f64.decode (double.nearest neg m p)=.number neg (m*2^k) (p-k):=e;have hn:FloatKind.f32.encode (.number neg (m*2^k) (p-k))=Rn.word32 1 neg m p:=by
  show single.nearest neg (m*2^k) (p-k)=_;rw[Fs.nearest_shift,Rn.nearest32 neg m p f.1]
 have hi:(FloatKind.f32.decode (Rn.word32 1 neg m p)).isInfinity=false:=by
  show (single.read (single.word neg (Rn.cap32 1 neg (Rn.rung32 1 neg m p)))).isInfinity=false;unfold Rn.cap32;rw[if_pos hr,Fs.read_fin neg _ hr];rfl
 unfold floatToFloatBits;rw[if_neg (by decide),hd];simp only[hn,hi]
 rfl
theorem j3f (neg:Bool):floatToFloatBits .f64 (double.word neg 0) .f32=some (single.word neg 0):=by
 cases neg <;> decide +kernel
theorem j8k (neg:Bool):floatToFloatBits .f64 (double.word neg 9218868437227405312) .f32=some (single.word neg 2139095040):=by
 cases neg <;> decide +kernel
theorem j8j (neg:Bool)(q:Nat)(L:Int)(h0:q≠0)(hq:q<=16777216)(hL:-149<=L)(hL1:L<=104)(hn:-149<L->8388608<=q)(hr:(L+149).toNat*8388608+q<2139095040):
 floatToFloatBits .f64 (double.nearest neg q L) .f32=some (single.word neg ((L+149).toNat*8388608+q)):=by
 have hlog:q.log2<=24:=by have:=(Nat.log2_lt h0).2 (show q<2^25 by omega);omega
 have f:Fl.Fits q L:=⟨h0,by omega,by omega,by omega⟩;have e:=Rn.nearest32 neg q L h0;rw[Rn.single_front neg q L hq hL hn,Nat.min_eq_left (by omega)] at e;have hw:Rn.cap32 1 neg (Rn.rung32 1 neg q L)=(L+149).toNat*8388608+q:=by
  have:=Rn.cap32_le 1 neg (Rn.rung32 1 neg q L);unfold Rn.word32 Format.word at e;rw[Fs.sw] at e;cases neg
  ·simp only[Bool.false_eq_true,if_false] at e;exact e.symm
  ·simp only[if_true] at e;omega
 have hr1:Rn.rung32 1 neg q L<2139095040:=by
  unfold Rn.cap32 at hw;split at hw
  ·assumption
  ·rw[show Rn.far 1 neg=true from rfl,if_pos rfl] at hw;omega
 rw[j8i neg f hr1,e]
end
end Go.Proofs.YtnceajanlnnfoaaGreatDoor
