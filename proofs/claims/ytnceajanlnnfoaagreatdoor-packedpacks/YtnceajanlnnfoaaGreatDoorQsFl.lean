/- Binary64 as the model has it: what a word stands for, and when a number is a word: no program here. Rounding a whole number without its last digits, by any of the six modes: no program here. The plain functions of layer 1 over the bits of a binary64, and small facts on bit masks. No program here. The order of two words, and words taken apart and put together: no program here. Binary32 as the model has it: what a word stands for, when a number is a word, how two words stand: no program here. Which word a magnitude is rounded to, by any mode, in both .. -/
import Ieee.Arith
import GoSem.Core.Float
import Derived.Laws.BitsAllLaws
import Derived.Laws.Bits64
import Derived.Below
namespace Go.Proofs.YtnceajanlnnfoaaGreatDoor
open Ieee
namespace Fl
theorem sw:double.signWeight=9223372036854775808:=rfl
theorem bn:double.binade=4503599627370496:=rfl
theorem ir:double.infRung=9218868437227405312:=rfl
theorem lp:double.leastPlace=-1074:=rfl
theorem fb:double.fractionBits=52:=rfl
def rne (n d:Nat):Nat:=n / 2 ^ d+(if 2 ^ d < 2 * (n % 2 ^ d)∨(2 ^ d=2 * (n % 2 ^ d)∧n / 2 ^ d % 2=1) then 1 else 0)
theorem cut_even (neg:Bool) (n d:Nat):Toward.even.cut neg n d=rne n d:=by
 have key:∀ g:Nat,n / g+(decide (g < 2 * (n % g)) || (g == 2 * (n % g) && n / g % 2 == 1)).toNat =
   n / g+(if g < 2 * (n % g)∨(g=2 * (n % g)∧n / g % 2=1) then 1 else 0):=by
  intro g
  congr 1
  by_cases h:g < 2 * (n % g)∨(g=2 * (n % g)∧n / g % 2=1)
  ·rw [if_pos h]
   rcases h with h|⟨h1,h2⟩
   ·simp [h]
   ·have e:(g == 2 * (n % g))=true:=beq_iff_eq.2 h1
    simp [e,h2]
  ·rw [if_neg h]
   have h1:¬ g < 2 * (n % g):=fun c=>h (Or.inl c)
   have h2:(g == 2 * (n % g) && n / g % 2 == 1)=false:=by
    rw [Bool.eq_false_iff]
    intro c
    simp only [Bool.and_eq_true,beq_iff_eq] at c
    exact h (Or.inr c)
   rw [h2]
   simp [h1]
 have h0:Toward.even.cut neg n d=n / (1 <<< min d (n.log2+2))+(decide ((1 <<< min d (n.log2+2)) < 2 * (n % (1 <<< min d (n.log2+2)))) || ((1 <<< min d (n.log2+2)) == 2 * (n % (1 <<< min d (n.log2+2))) && n / (1 <<< min d (n.log2+2)) % 2 == 1)).toNat:=rfl
 rw [h0,key]
 by_cases hd:d≤n.log2+2
 ·rw [Nat.min_eq_left hd,Nat.one_shiftLeft];rfl
 ·have hd':n.log2+2≤d:=by omega
  rw [Nat.min_eq_right hd',Nat.one_shiftLeft]
  have hn:n < 2 ^ (n.log2+1):=Nat.lt_log2_self
  have e1:2 ^ (n.log2+2)=2 * 2 ^ (n.log2+1):=by rw [Nat.pow_succ,Nat.mul_comm]
  have e2:2 ^ (n.log2+2)≤2 ^ d:=Nat.pow_le_pow_right (by decide) hd'
  unfold rne
  have q1:n / 2 ^ (n.log2+2)=0:=Nat.div_eq_of_lt (by omega)
  have q2:n / 2 ^ d=0:=Nat.div_eq_of_lt (by omega)
  have r1:n % 2 ^ (n.log2+2)=n:=Nat.mod_eq_of_lt (by omega)
  have r2:n % 2 ^ d=n:=Nat.mod_eq_of_lt (by omega)
  rw [q1,q2,r1,r2,if_neg (by omega),if_neg (by omega)]
theorem rne_zero (n:Nat):rne n 0=n:=by
 unfold rne
 simp [Nat.mod_one]
theorem rne_shift (n d j:Nat):rne (n * 2 ^ j) (d+j)=rne n d:=by
 have hp:0 < 2 ^ j:=Nat.two_pow_pos j
 have e:2 ^ (d+j)=2 ^ d * 2 ^ j:=Nat.pow_add ..
 unfold rne
 rw [e,Nat.mul_div_mul_right _ _ hp,Nat.mul_mod_mul_right]
 have c:(2 ^ d * 2 ^ j < 2 * (n % 2 ^ d * 2 ^ j)∨2 ^ d * 2 ^ j=2 * (n % 2 ^ d * 2 ^ j)∧n / 2 ^ d % 2=1) ↔ (2 ^ d < 2 * (n % 2 ^ d)∨2 ^ d=2 * (n % 2 ^ d)∧n / 2 ^ d % 2=1):=by
  rw [← Nat.mul_assoc 2]
  constructor
  ·rintro (h|⟨h1,h2⟩)
   ·exact Or.inl (Nat.lt_of_mul_lt_mul_right h)
   ·exact Or.inr ⟨Nat.eq_of_mul_eq_mul_right hp h1,h2⟩
  ·rintro (h|⟨h1,h2⟩)
   ·exact Or.inl (Nat.mul_lt_mul_of_pos_right h hp)
   ·exact Or.inr ⟨by rw [← h1],h2⟩
 by_cases h:2 ^ d < 2 * (n % 2 ^ d)∨2 ^ d=2 * (n % 2 ^ d)∧n / 2 ^ d % 2=1
 ·rw [if_pos h,if_pos (c.2 h)]
 ·rw [if_neg h,if_neg (fun x=>h (c.1 x))]
theorem rne_mul (n j:Nat):rne (n * 2 ^ j) j=n:=by
 have:=rne_shift n 0 j
 rwa [Nat.zero_add,rne_zero] at this
theorem log2_mul_pow (m k:Nat) (hm:m≠0):(m * 2 ^ k).log2=m.log2+k:=by
 have h1:=Nat.log2_self_le hm
 have h2:m < 2 ^ (m.log2+1):=Nat.lt_log2_self
 have hp:0 < 2 ^ k:=Nat.two_pow_pos k
 refine (Nat.log2_eq_iff (Nat.mul_ne_zero hm (by omega))).2 ⟨?_,?_⟩
 ·rw [Nat.pow_add];exact Nat.mul_le_mul_right _ h1
 ·rw [show m.log2+k+1=(m.log2+1)+k by omega,Nat.pow_add];exact Nat.mul_lt_mul_of_pos_right h2 hp
def lastOf (m:Nat) (p:Int):Int:=max (p+m.log2 - 52) (-1074)
theorem nearest_eq (neg:Bool) (m:Nat) (p:Int) (hm:m≠0) :
  double.nearest neg m p=double.word neg (min ((lastOf m p+1074).toNat * 4503599627370496+rne (m * 2 ^ (p - lastOf m p).toNat) (lastOf m p - p).toNat) 9218868437227405312):=by
 unfold Format.nearest
 rw [if_neg hm]
 simp only [fb,lp,bn,ir,cut_even,Nat.shiftLeft_eq]
 rfl
theorem nearest_shift (neg:Bool) (m:Nat) (p:Int) (k:Nat):double.nearest neg (m * 2 ^ k) (p - k)=double.nearest neg m p:=by
 by_cases hm:m=0
 ·subst hm;simp [Format.nearest]
 ·have hm':m * 2 ^ k≠0:=Nat.mul_ne_zero hm (by have:=Nat.two_pow_pos k;omega)
  rw [nearest_eq neg _ _ hm',nearest_eq neg _ _ hm]
  have hl:lastOf (m * 2 ^ k) (p - k)=lastOf m p:=by
   unfold lastOf;rw [log2_mul_pow m k hm];congr 1;omega
  rw [hl]
  generalize lastOf m p=L
  congr 3
  by_cases h1:L≤p - k
  ·have a1:(L - (p - k)).toNat=0:=by omega
   have a2:(L - p).toNat=0:=by omega
   rw [a1,a2,rne_zero,rne_zero,Nat.mul_assoc,← Nat.pow_add]
   congr 2;omega
  ·by_cases h2:L≤p
   ·have a1:(p - ↑k - L).toNat=0:=by omega
    have a2:(L - p).toNat=0:=by omega
    rw [a1,a2,rne_zero,Nat.pow_zero,Nat.mul_one]
    have e:m * 2 ^ k=m * 2 ^ (p - L).toNat * 2 ^ (L - (p - ↑k)).toNat:=by
     rw [Nat.mul_assoc,← Nat.pow_add];congr 2;omega
    rw [e,rne_mul]
   ·have a1:(p - ↑k - L).toNat=0:=by omega
    have a2:(p - L).toNat=0:=by omega
    have a3:(L - (p - ↑k)).toNat=(L - p).toNat+k:=by omega
    rw [a1,a2,a3,Nat.pow_zero,Nat.mul_one,Nat.mul_one,rne_shift]
def canon (M:Nat) (E:Int):Prop:=M < 9007199254740992 ∧ -1074≤E∧(4503599627370496≤M∨E=-1074)
def rungOf (M:Nat) (E:Int):Nat:=(E+1074).toNat * 4503599627370496+M
theorem log2_lt53 {M:Nat} (h:M < 9007199254740992) (h0:M≠0):M.log2≤52:=by
 have:=(Nat.log2_lt h0).2 (show M < 2 ^ 53 from h)
 omega
theorem log2_52 {M:Nat} (h:M < 9007199254740992) (h1:4503599627370496≤M):M.log2=52:=
 (Nat.log2_eq_iff (by omega)).2 ⟨h1,h⟩
theorem lastOf_canon {M:Nat} {E:Int} (c:canon M E) (h0:M≠0):lastOf M E=E:=by
 obtain ⟨c1,c2,c3⟩:=c
 have:=log2_lt53 c1 h0
 unfold lastOf
 rcases c3 with c3|c3
 ·rw [log2_52 c1 c3];omega
 ·omega
theorem nearest_canon (neg:Bool) {M:Nat} {E:Int} (c:canon M E):double.nearest neg M E=double.word neg (min (rungOf M E) 9218868437227405312):=by
 by_cases h0:M=0
 ·have hE:E=-1074:=by obtain ⟨_,_,c3⟩:=c;omega
  subst h0;subst hE
  simp [Format.nearest,rungOf]
 ·rw [nearest_eq neg _ _ h0,lastOf_canon c h0]
  have a:(E - E).toNat=0:=by omega
  rw [a,rne_zero,Nat.pow_zero,Nat.mul_one]
  rfl
theorem read_word (neg:Bool) (r:Nat) (h:r < 9223372036854775808):double.read (double.word neg r) =
  if r < 4503599627370496 then .number neg r (-1074) else if r < 9218868437227405312 then .number neg (4503599627370496+r % 4503599627370496) (-1074+(r / 4503599627370496 - 1:Nat)) else if r=9218868437227405312 then .infinity neg else .nan neg (r - 9218868437227405312):=by
 unfold Format.read Format.word
 have e1:(if neg=true then 9223372036854775808+r else r) % 9223372036854775808=r:=by split <;> omega
 have e2:((if neg=true then 9223372036854775808+r else r) / 9223372036854775808 % 2 == 1)=neg:=by
  cases neg
  ·simp;omega
  ·simp only [if_true];rw [beq_iff_eq];omega
 simp only [sw,bn,ir,lp,e1,e2]
theorem read_canon (neg:Bool) {M:Nat} {E:Int} (c:canon M E) (h:rungOf M E < 9218868437227405312):double.read (double.word neg (rungOf M E))=.number neg M E:=by
 rw [read_word _ _ (by omega)]
 obtain ⟨c1,c2,c3⟩:=c
 unfold rungOf at *
 by_cases hM:M < 4503599627370496
 ·have hE:E=-1074:=by omega
  have h0:(E+1074).toNat * 4503599627370496+M=M:=by omega
  rw [h0,if_pos hM,hE]
 ·have hq:((E+1074).toNat * 4503599627370496+M) / 4503599627370496=(E+1074).toNat+1:=by omega
  have hr:((E+1074).toNat * 4503599627370496+M) % 4503599627370496=M - 4503599627370496:=by omega
  have eM:4503599627370496+(M - 4503599627370496)=M:=by omega
  have eE:-1074+(((E+1074).toNat+1 - 1:Nat):Int)=E:=by omega
  rw [if_neg (by omega),if_pos h,hq,hr,eM,eE]
def mantOf (r:Nat):Nat:=if r < 4503599627370496 then r else 4503599627370496+r % 4503599627370496
def placeOf (r:Nat):Int:=-1074+(r / 4503599627370496 - 1:Nat)
theorem canon_of (r:Nat):canon (mantOf r) (placeOf r):=by
 unfold canon mantOf placeOf
 split <;> omega
theorem rungOf_of (r:Nat):rungOf (mantOf r) (placeOf r)=r:=by
 unfold rungOf mantOf placeOf
 split <;> omega
theorem read_fin (neg:Bool) (r:Nat) (h:r < 9218868437227405312):double.read (double.word neg r)=.number neg (mantOf r) (placeOf r):=by
 have:=read_canon neg (canon_of r) (by rw [rungOf_of];exact h)
 rwa [rungOf_of] at this
def Fits (m:Nat) (p:Int):Prop:=m≠0∧m < 9007199254740992 ∧ -1074≤p∧p+m.log2≤1023
theorem fit (neg:Bool) {m:Nat} {p:Int} (f:Fits m p):∃ k:Nat,canon (m * 2 ^ k) (p - k)∧rungOf (m * 2 ^ k) (p - k) < 9218868437227405312 ∧
  double.nearest neg m p=double.word neg (rungOf (m * 2 ^ k) (p - k))∧double.read (double.nearest neg m p)=.number neg (m * 2 ^ k) (p - k):=by
 obtain ⟨h0,h1,h2,h3⟩:=f
 have hl:=log2_lt53 h1 h0
 suffices h:∃ k:Nat,canon (m * 2 ^ k) (p - k)∧rungOf (m * 2 ^ k) (p - k) < 9218868437227405312 by
  obtain ⟨k,c,r⟩:=h
  have e:double.nearest neg m p=double.word neg (rungOf (m * 2 ^ k) (p - k)):=by
   rw [← nearest_shift neg m p k,nearest_canon neg c,Nat.min_eq_left (Nat.le_of_lt r)]
  exact ⟨k,c,r,e,by rw [e];exact read_canon neg c r⟩
 by_cases hc:-1074≤p+m.log2 - 52
 ·obtain ⟨k,hk⟩:∃ k:Nat,k=52 - m.log2:=⟨_,rfl⟩
  have hM0:m * 2 ^ k≠0:=Nat.mul_ne_zero h0 (by have:=Nat.two_pow_pos k;omega)
  have hlog:(m * 2 ^ k).log2=52:=by rw [log2_mul_pow m k h0];omega
  have hb:=(Nat.log2_eq_iff hM0).1 hlog
  have b1:4503599627370496≤m * 2 ^ k:=hb.1
  have b2:m * 2 ^ k < 9007199254740992:=hb.2
  refine ⟨k,⟨b2,by omega,Or.inl b1⟩,?_⟩
  unfold rungOf
  generalize m * 2 ^ k=M at *
  omega
 ·obtain ⟨k,hk⟩:∃ k:Nat,k=(p+1074).toNat:=⟨_,rfl⟩
  have hM0:m * 2 ^ k≠0:=Nat.mul_ne_zero h0 (by have:=Nat.two_pow_pos k;omega)
  have hlog:(m * 2 ^ k).log2≤52:=by rw [log2_mul_pow m k h0];omega
  have b2:m * 2 ^ k < 9007199254740992:=(Nat.log2_lt hM0).1 (show (m * 2 ^ k).log2 < 53 by omega)
  have hp:p - k=-1074:=by omega
  refine ⟨k,⟨b2,by omega,Or.inr hp⟩,?_⟩
  unfold rungOf
  rw [hp]
  generalize m * 2 ^ k=M at *
  omega
theorem mul_fit {s t:Bool} {m n:Nat} {p q:Int} (f:Fits m p) (g:Fits n q):double.mul (double.nearest s m p) (double.nearest t n q)=some (double.nearest (s ^^ t) (m * n) (p+q)):=by
 obtain ⟨k,_,_,_,hk⟩:=fit s f
 obtain ⟨j,_,_,_,hj⟩:=fit t g
 unfold Format.mul
 rw [hk,hj]
 simp only [Datum.product,Option.map_some,Format.write,Option.some.injEq]
 rw [← nearest_shift (s ^^ t) (m * n) (p+q) (k+j)]
 congr 1
 ·rw [Nat.pow_add];ac_rfl
 ·omega
theorem word_nearest (neg:Bool) {m:Nat} {p:Int} (f:Fits m p):double.word neg (double.nearest false m p)=double.nearest neg m p∧double.nearest false m p < 9218868437227405312:=by
 obtain ⟨k,c,r,_,_⟩:=fit false f
 have e:∀ s,double.nearest s m p=double.word s (rungOf (m * 2 ^ k) (p - k)):=fun s=>by
  rw [← nearest_shift s m p k,nearest_canon s c,Nat.min_eq_left (Nat.le_of_lt r)]
 rw [e neg,e false]
 exact ⟨rfl,r⟩
theorem log2_one:Nat.log2 1=0:=by decide
theorem fits_pow {a:Int} (h1:-1074≤a) (h2:a≤1023):Fits 1 a:=⟨by decide,by decide,h1,by rw [log2_one];omega⟩
def pw (a:Int):Nat:=double.nearest false 1 a
theorem mul_pw {a b:Int} (ha:-1074≤a) (ha':a≤1023) (hb:-1074≤b) (hb':b≤1023):double.mul (pw a) (pw b)=some (pw (a+b)):=by
 have:=mul_fit (s:=false) (t:=false) (fits_pow ha ha') (fits_pow hb hb')
 simpa [pw] using this
theorem sq_up:∀ i,i < 11→double.mul (pw (2 ^ i)) (pw (2 ^ i))=some (pw (2 ^ (i+1))):=by decide +kernel
theorem sq_dn:∀ i,i < 11→double.mul (pw (-2 ^ i)) (pw (-2 ^ i))=some (pw (-2 ^ (i+1))):=by decide +kernel
theorem pw_consts:pw 0=4607182418800017408∧pw (2 ^ 0)=4611686018427387904∧pw (-2 ^ 0)=4602678819172646912:=by decide +kernel
end Fl
end Go.Proofs.YtnceajanlnnfoaaGreatDoor
namespace Go.Proofs.YtnceajanlnnfoaaGreatDoor
namespace Rn
def upw (mode:Int) (neg odd:Bool) (r g:Nat):Bool:=
 if mode=1 then decide (g < 2 * r) || (decide (g=2 * r) && odd)
 else if mode=2 then decide (g≤2 * r)
 else if mode=3 then decide (r≠0) && !neg
 else if mode=4 then decide (r≠0) && neg
 else if mode=6 then decide (r≠0) && !odd
 else false
def rnd (mode:Int) (neg:Bool) (m n:Nat):Nat:=m / 2 ^ n+(upw mode neg (m / 2 ^ n % 2 == 1) (m % 2 ^ n) (2 ^ n)).toNat
theorem upw_zero (mode:Int) (neg odd:Bool) (g:Nat) (hg:0 < g):upw mode neg odd 0 g=false:=by
 unfold upw
 split
 ·have h1:¬ g < 2 * 0:=by omega
  have h2:¬ g=2 * 0:=by omega
  rw [decide_eq_false h1,decide_eq_false h2];rfl
 ·split
  ·exact decide_eq_false (by omega)
  ·split
   ·rfl
   ·split
    ·rfl
    ·split <;> rfl
theorem upw_mul (mode:Int) (neg odd:Bool) (r g c:Nat) (hc:0 < c):upw mode neg odd (r * c) (g * c)=upw mode neg odd r g:=by
 unfold upw
 have e1:(g * c < 2 * (r * c)) ↔ (g < 2 * r):=by
  rw [← Nat.mul_assoc]
  exact ⟨fun h=>Nat.lt_of_mul_lt_mul_right h,fun h=>Nat.mul_lt_mul_of_pos_right h hc⟩
 have e2:(g * c=2 * (r * c)) ↔ (g=2 * r):=by
  rw [← Nat.mul_assoc]
  exact ⟨fun h=>Nat.eq_of_mul_eq_mul_right hc h,fun h=>by rw [h]⟩
 have e3:(g * c≤2 * (r * c)) ↔ (g≤2 * r):=by
  rw [← Nat.mul_assoc]
  exact ⟨fun h=>Nat.le_of_mul_le_mul_right h hc,fun h=>Nat.mul_le_mul_right c h⟩
 have e4:(r * c≠0) ↔ (r≠0):=by
  rw [Ne,Nat.mul_eq_zero];omega
 rw [decide_eq_decide.2 e1,decide_eq_decide.2 e2,decide_eq_decide.2 e3,decide_eq_decide.2 e4]
theorem rnd_zero (mode:Int) (neg:Bool) (m:Nat):rnd mode neg m 0=m:=by
 unfold rnd
 rw [Nat.pow_zero,Nat.mod_one,upw_zero _ _ _ _ (by decide),Nat.div_one];rfl
theorem rnd_shift (mode:Int) (neg:Bool) (m n j:Nat):rnd mode neg (m * 2 ^ j) (n+j)=rnd mode neg m n:=by
 have hp:0 < 2 ^ j:=Nat.two_pow_pos j
 unfold rnd
 rw [Nat.pow_add,Nat.mul_div_mul_right _ _ hp,Nat.mul_mod_mul_right,upw_mul _ _ _ _ _ _ hp]
theorem rnd_mul (mode:Int) (neg:Bool) (m j:Nat):rnd mode neg (m * 2 ^ j) j=m:=by
 have:=rnd_shift mode neg m 0 j
 rwa [Nat.zero_add,rnd_zero] at this
theorem rnd_bd (mode:Int) (neg:Bool) (m n:Nat):m / 2 ^ n≤rnd mode neg m n∧rnd mode neg m n≤m / 2 ^ n+1:=by
 unfold rnd
 have:=Bool.toNat_le (upw mode neg (m / 2 ^ n % 2 == 1) (m % 2 ^ n) (2 ^ n))
 omega
theorem upw_rise (mode:Int) (neg odd:Bool) (r r' g:Nat) (h:r≤r'):(upw mode neg odd r g).toNat≤(upw mode neg odd r' g).toNat:=by
 cases hu:upw mode neg odd r g
 ·simp
 ·suffices hs:upw mode neg odd r' g=true by rw [hs];exact Nat.le_refl _
  unfold upw at *
  split at hu
  ·rw [if_pos ‹_›]
   simp only [Bool.or_eq_true,Bool.and_eq_true,decide_eq_true_eq] at hu ⊢
   rcases hu with hu|⟨hu,ho⟩
   ·left;omega
   ·by_cases e:g=2 * r'
    ·exact Or.inr ⟨e,ho⟩
    ·left;omega
  ·rw [if_neg ‹_›]
   split at hu
   ·rw [if_pos ‹_›]
    simp only [decide_eq_true_eq] at hu ⊢;omega
   ·rw [if_neg ‹_›]
    split at hu
    ·rw [if_pos ‹_›]
     simp only [Bool.and_eq_true,decide_eq_true_eq] at hu ⊢;exact ⟨by omega,hu.2⟩
    ·rw [if_neg ‹_›]
     split at hu
     ·rw [if_pos ‹_›]
      simp only [Bool.and_eq_true,decide_eq_true_eq] at hu ⊢;exact ⟨by omega,hu.2⟩
     ·rw [if_neg ‹_›]
      split at hu
      ·rw [if_pos ‹_›]
       simp only [Bool.and_eq_true,decide_eq_true_eq] at hu ⊢;exact ⟨by omega,hu.2⟩
      ·cases hu
theorem rnd_rise (mode:Int) (neg:Bool) {m m':Nat} (n:Nat) (h:m≤m'):rnd mode neg m n≤rnd mode neg m' n:=by
 have hq:m / 2 ^ n≤m' / 2 ^ n:=Nat.div_le_div_right h
 by_cases e:m / 2 ^ n=m' / 2 ^ n
 ·unfold rnd
  rw [e]
  have d1:=Nat.div_add_mod m (2 ^ n)
  have d2:=Nat.div_add_mod m' (2 ^ n)
  rw [e] at d1
  have:=upw_rise mode neg (m' / 2 ^ n % 2 == 1) (m % 2 ^ n) (m' % 2 ^ n) (2 ^ n) (by omega)
  omega
 ·have b1:=rnd_bd mode neg m n
  have b2:=rnd_bd mode neg m' n
  omega
theorem rnd_le (mode:Int) (neg:Bool) {m q:Nat} (n:Nat) (h:m≤q * 2 ^ n):rnd mode neg m n≤q:=by
 have:=rnd_rise mode neg n h
 rwa [rnd_mul] at this
theorem le_rnd (mode:Int) (neg:Bool) {m q:Nat} (n:Nat) (h:q * 2 ^ n≤m):q≤rnd mode neg m n:=by
 have:=rnd_rise mode neg n h
 rwa [rnd_mul] at this
theorem rnd_even (neg:Bool) (m n:Nat):rnd 1 neg m n=Fl.rne m n:=by
 unfold rnd Fl.rne upw
 rw [if_pos rfl]
 congr 1
 by_cases h:2 ^ n < 2 * (m % 2 ^ n)∨(2 ^ n=2 * (m % 2 ^ n)∧m / 2 ^ n % 2=1)
 ·rw [if_pos h]
  have:(decide (2 ^ n < 2 * (m % 2 ^ n)) || (decide (2 ^ n=2 * (m % 2 ^ n)) && (m / 2 ^ n % 2 == 1)))=true:=by
   simp only [Bool.or_eq_true,Bool.and_eq_true,decide_eq_true_eq,beq_iff_eq];exact h
  rw [this];rfl
 ·rw [if_neg h]
  have:(decide (2 ^ n < 2 * (m % 2 ^ n)) || (decide (2 ^ n=2 * (m % 2 ^ n)) && (m / 2 ^ n % 2 == 1)))=false:=by
   rw [Bool.eq_false_iff]
   intro c
   simp only [Bool.or_eq_true,Bool.and_eq_true,decide_eq_true_eq,beq_iff_eq] at c
   exact h c
  rw [this];rfl
end Rn
end Go.Proofs.YtnceajanlnnfoaaGreatDoor
namespace Go.Proofs.YtnceajanlnnfoaaGreatDoor
open Go.RowKit
def mag (b:Nat):Nat:=b % 9223372036854775808
def sgb (b:Nat):Bool:=decide (9223372036854775808≤b)
def cls (b:Nat):Int:=
 if 9218868437227405312 < mag b then 1 else if mag b=9218868437227405312 then 2 else if mag b=0 then 3 else if mag b < 4503599627370496 then 4 else 5
def isN (b:Nat):Bool:=decide (9218868437227405312 < mag b)
def one (b:Nat):Nat:=if 9218868437227405312 < mag b then 9221120237041090560 else b
def ngt (b:Nat):Bool:=!isN b && sgb b
def spM (b:Nat):Nat:=if 9218868437227405312≤mag b then 0 else if mag b < 4503599627370496 then mag b else mag b % 4503599627370496+4503599627370496
def spMz (b:Nat):Int:=(spM b:Int)
def spE (b:Nat):Int:=if 9218868437227405312≤mag b then 0 else if mag b=0 then 0 else if mag b < 4503599627370496 then -1074 else (mag b / 4503599627370496:Nat) - 1075
def spN (b:Nat):Bool:=if 9218868437227405312≤mag b then false else sgb b
def spR (b:Nat):Int:=if 9218868437227405312≤mag b then 10 else 0
def magZ (b:Nat):Int:=(mag b:Int)
theorem magZ_bd (b:Nat):0≤magZ b∧magZ b < 9223372036854775808:=by
 have:mag b < 9223372036854775808:=Nat.mod_lt _ (by decide)
 unfold magZ;omega
theorem mag_lt (b:Nat):mag b < 9223372036854775808:=Nat.mod_lt _ (by decide)
theorem mag_of (b:Nat) (h:b < 18446744073709551616):b=mag b+(if sgb b then 9223372036854775808 else 0):=by
 unfold mag sgb
 by_cases c:9223372036854775808≤b
 ·simp only [c,decide_true,if_true];omega
 ·simp only [c,decide_false,Bool.false_eq_true,if_false];omega
theorem and_mask63 (b:Nat):b &&& 9223372036854775807=b % 9223372036854775808:=Nat.and_two_pow_sub_one_eq_mod b 63
theorem andNot63 (b:Nat) (h:b < 18446744073709551616):bits .andNot .u64 (b:Int) 9223372036854775808=(mag b:Int):=by
 have:=u64_andNot_nat b 9223372036854775808 h (by decide)
 rw [show ((9223372036854775808:Nat):Int)=9223372036854775808 from rfl] at this
 rw [this,show 18446744073709551615 - 9223372036854775808=9223372036854775807 from rfl,and_mask63]
 rfl
theorem andNot63Z (b:Nat) (h:b < 18446744073709551616):bits .andNot .u64 (b:Int) 9223372036854775808=magZ b:=andNot63 b h
theorem andNot63I (a:Int) (h0:0≤a) (h:a < 18446744073709551616):bits .andNot .u64 a 9223372036854775808=magZ a.toNat:=by
 have:=andNot63Z a.toNat (by omega)
 rwa [Int.toNat_of_nonneg h0] at this
theorem and63 (b:Nat) (h:b < 18446744073709551616):bits .and .u64 (b:Int) 9223372036854775808=if sgb b then 9223372036854775808 else 0:=by
 have:=u64_and_nat b 9223372036854775808 h (by decide)
 rw [show ((9223372036854775808:Nat):Int)=9223372036854775808 from rfl] at this
 rw [this,nat_bit 63 b]
 unfold sgb
 by_cases c:9223372036854775808≤b
 ·simp only [c,decide_true,if_true];omega
 ·simp only [c,decide_false,Bool.false_eq_true,if_false];omega
theorem and63_ne (b:Nat) (h:b < 18446744073709551616):(bits .and .u64 (b:Int) 9223372036854775808 != 0)=sgb b:=by
 rw [and63 b h];cases sgb b <;> rfl
theorem ret_int {k:IntKind} {a b:Int} (h:a=b):Ending.returned (.int k a)=.returned (.int k b):=by rw [h]
theorem ret_bool {a b:Bool} (h:a=b):Ending.returned (.bool a)=.returned (.bool b):=by rw [h]
theorem ret_f64 {a b:Nat} (h:a=b):Ending.returned (.float .f64 a)=.returned (.float .f64 b):=by rw [h]
theorem cls_a (b:Nat) (z:Int) (hz:Hid (magZ b=z)) (h:9218868437227405312 < z):1=cls b:=by have:=hz.out;unfold magZ at this;unfold cls;rw [if_pos (by omega)]
theorem cls_b (b:Nat) (z:Int) (hz:Hid (magZ b=z)) (h2:(z == 9218868437227405312)=true):2=cls b:=by
 have h2':=eq_of_beq h2
 have:=hz.out;unfold magZ at this;unfold cls;rw [if_neg (by omega),if_pos (by omega)]
theorem cls_c (b:Nat) (z:Int) (hz:Hid (magZ b=z)) (h2:(z == 0)=true):3=cls b:=by
 have h2':=eq_of_beq h2
 have:=hz.out;unfold magZ at this;unfold cls;rw [if_neg (by omega),if_neg (by omega),if_pos (by omega)]
theorem cls_d (b:Nat) (z:Int) (hz:Hid (magZ b=z)) (h2:(z == 0)=false) (h:z < 4503599627370496):4=cls b:=by
 have h2':z≠0:=by simpa using h2
 have:=hz.out;unfold magZ at this;unfold cls;rw [if_neg (by omega),if_neg (by omega),if_neg (by omega),if_pos (by omega)]
theorem cls_e (b:Nat) (z:Int) (hz:Hid (magZ b=z)) (h1:z≤9218868437227405312) (h2:(z == 9218868437227405312)=false) (h:4503599627370496≤z):5=cls b:=by
 have h2':z≠9218868437227405312:=by simpa using h2
 have:=hz.out;unfold magZ at this;unfold cls;rw [if_neg (by omega),if_neg (by omega),if_neg (by omega),if_neg (by omega)]
theorem cls1 (b:Nat):(cls b == 1)=isN b:=by
 unfold cls isN;split
 ·simp_all
 ·split <;> (try split) <;> (try split) <;> simp_all
theorem ret2 {a b c d:Value} (h1:a=c) (h2:b=d):Ending.returned (.tuple #[a,b])=.returned (.tuple #[c,d]):=by rw [h1,h2]
theorem int_eq {k:IntKind} {a b:Int} (h:a=b):Value.int k a=.int k b:=by rw [h]
theorem bool_eq {a b:Bool} (h:a=b):Value.bool a=.bool b:=by rw [h]
theorem isN_of {b:Nat} (h:isN b=true):9218868437227405312 < mag b:=of_decide_eq_true h
theorem isN_not {b:Nat} (h:isN b=false):¬ 9218868437227405312 < mag b:=of_decide_eq_false h
theorem rone_y (a:Int) (h:isN a.toNat=true):9221120237041090560=(one a.toNat:Int):=by
 unfold one;rw [if_pos (isN_of h)];rfl
theorem rone_n (a:Int) (h0:0≤a) (h:isN a.toNat=false):a=(one a.toNat:Int):=by
 unfold one;rw [if_neg (isN_not h)];omega
theorem ngt_y (b:Nat) (h:isN b=true):false=ngt b:=by unfold ngt;rw [h];rfl
theorem ngt_n (b:Nat) (h:isN b=false):sgb b=ngt b:=by unfold ngt;rw [h];rfl
theorem cls_isN {b:Nat} {c:Int} (hc:Hid (cls b=c)):isN b=(c == 1):=by rw [← cls1,hc.out]
theorem ret4 {a b c d a' b' c' d':Value} (h1:a=a') (h2:b=b') (h3:c=c') (h4:d=d'):Ending.returned (.tuple #[a,b,c,d])=.returned (.tuple #[a',b',c',d']):=by rw [h1,h2,h3,h4]
theorem spl_bad (b:Nat) (h:9218868437227405312≤mag b):false=spN b∧0=spMz b∧0=spE b∧10=spR b:=by
 refine ⟨?_,?_,?_,?_⟩
 ·unfold spN;rw [if_pos h]
 ·unfold spMz spM;rw [if_pos h];rfl
 ·unfold spE;rw [if_pos h]
 ·unfold spR;rw [if_pos h]
theorem spl_0 (b:Nat) (h:mag b=0):sgb b=spN b∧0=spMz b∧0=spE b∧0=spR b:=by
 have h1:¬ 9218868437227405312≤mag b:=by omega
 have h2:mag b < 4503599627370496:=by omega
 refine ⟨?_,?_,?_,?_⟩
 ·unfold spN;rw [if_neg h1]
 ·unfold spMz spM;rw [if_neg h1,if_pos h2,h];rfl
 ·unfold spE;rw [if_neg h1,if_pos h]
 ·unfold spR;rw [if_neg h1]
theorem spl_s (b:Nat) (h:mag b≠0) (h2:mag b < 4503599627370496):sgb b=spN b∧magZ b=spMz b ∧ -1074=spE b∧0=spR b:=by
 have h1:¬ 9218868437227405312≤mag b:=by omega
 refine ⟨?_,?_,?_,?_⟩
 ·unfold spN;rw [if_neg h1]
 ·unfold spMz spM;rw [if_neg h1,if_pos h2];rfl
 ·unfold spE;rw [if_neg h1,if_neg h,if_pos h2]
 ·unfold spR;rw [if_neg h1]
theorem spl_n (b:Nat) (h1:mag b < 9218868437227405312) (h2:4503599627370496≤mag b):sgb b=spN b∧magZ b % 4503599627370496+4503599627370496=spMz b∧magZ b / 4503599627370496 - 1075=spE b∧0=spR b:=by
 have h1':¬ 9218868437227405312≤mag b:=by omega
 have h2':¬ mag b < 4503599627370496:=by omega
 have h3:¬ mag b=0:=by omega
 refine ⟨?_,?_,?_,?_⟩
 ·unfold spN;rw [if_neg h1']
 ·unfold spMz spM magZ;rw [if_neg h1',if_neg h2'];omega
 ·unfold spE magZ;rw [if_neg h1',if_neg h3,if_neg h2'];omega
 ·unfold spR;rw [if_neg h1']
theorem cls_of_c {b:Nat} {c:Int} (hc:Hid (cls b=c)):((c == 1)=true→9218868437227405312≤mag b)∧((c == 2)=true→9218868437227405312≤mag b) ∧
  ((c == 3)=true→mag b=0)∧((c == 4)=true→mag b≠0∧mag b < 4503599627370496) ∧
  ((c == 1)=false→(c == 2)=false→(c == 3)=false→(c == 4)=false→mag b < 9218868437227405312∧4503599627370496≤mag b):=by
 have e:=hc.out
 clear hc
 simp only [beq_iff_eq,beq_eq_false_iff_ne,ne_eq]
 unfold cls at e
 split at e
 ·subst e;refine ⟨?_,?_,?_,?_,?_⟩ <;> omega
 ·split at e
  ·subst e;refine ⟨?_,?_,?_,?_,?_⟩ <;> omega
  ·split at e
   ·subst e;refine ⟨?_,?_,?_,?_,?_⟩ <;> omega
   ·split at e
    ·subst e;refine ⟨?_,?_,?_,?_,?_⟩ <;> omega
    ·subst e;refine ⟨?_,?_,?_,?_,?_⟩ <;> omega
theorem one_y (b:Nat) (z:Int) (hz:Hid (cls b=z)) (h:(z == 1)=true):9221120237041090560=one b:=by
 have e:=cls1 b;rw [hz.out,h] at e
 have:9218868437227405312 < mag b:=of_decide_eq_true e.symm
 unfold one;rw [if_pos this]
theorem one_n (b:Nat) (z:Int) (hz:Hid (cls b=z)) (h:(z == 1)=false):b=one b:=by
 have e:=cls1 b;rw [hz.out,h] at e
 have:¬ 9218868437227405312 < mag b:=of_decide_eq_false e.symm
 unfold one;rw [if_neg this]
end Go.Proofs.YtnceajanlnnfoaaGreatDoor
namespace Go.Proofs.YtnceajanlnnfoaaGreatDoor
open Ieee
namespace Fl
def ordW (s t:Bool) (r r':Nat):Ordering:=
 if r=0∧r'=0 then .eq else
 match s,t with
 | false,false=>if r < r' then .lt else if r=r' then .eq else .gt
 | true,true=>if r' < r then .lt else if r=r' then .eq else .gt
 | true,false=>.lt
 | false,true=>.gt
end Fl
theorem word_mag (b:Nat) (h:b < 18446744073709551616):Ieee.double.word (sgb b) (mag b)=b:=by
 have:=mag_of b h
 unfold Ieee.Format.word
 rw [Fl.sw]
 cases hs:sgb b
 ·rw [hs] at this;simp only [Bool.false_eq_true,if_false] at this ⊢;omega
 ·rw [hs] at this;simp only [if_true] at this ⊢;omega
end Go.Proofs.YtnceajanlnnfoaaGreatDoor
namespace Go.Proofs.YtnceajanlnnfoaaGreatDoor
open Ieee
open Fl (rne cut_even rne_zero rne_shift rne_mul log2_mul_pow ordW)
namespace Fs
theorem sw:single.signWeight=2147483648:=rfl
theorem bn:single.binade=8388608:=rfl
theorem ir:single.infRung=2139095040:=rfl
theorem lp:single.leastPlace=-149:=rfl
theorem fb:single.fractionBits=23:=rfl
def lastOf (m:Nat) (p:Int):Int:=max (p+m.log2 - 23) (-149)
theorem nearest_eq (neg:Bool) (m:Nat) (p:Int) (hm:m≠0) :
  single.nearest neg m p=single.word neg (min ((lastOf m p+149).toNat * 8388608+rne (m * 2 ^ (p - lastOf m p).toNat) (lastOf m p - p).toNat) 2139095040):=by
 unfold Format.nearest
 rw [if_neg hm]
 simp only [fb,lp,bn,ir,cut_even,Nat.shiftLeft_eq]
 rfl
theorem nearest_shift (neg:Bool) (m:Nat) (p:Int) (k:Nat):single.nearest neg (m * 2 ^ k) (p - k)=single.nearest neg m p:=by
 by_cases hm:m=0
 ·subst hm;simp [Format.nearest]
 ·have hm':m * 2 ^ k≠0:=Nat.mul_ne_zero hm (by have:=Nat.two_pow_pos k;omega)
  rw [nearest_eq neg _ _ hm',nearest_eq neg _ _ hm]
  have hl:lastOf (m * 2 ^ k) (p - k)=lastOf m p:=by
   unfold lastOf;rw [log2_mul_pow m k hm];congr 1;omega
  rw [hl]
  generalize lastOf m p=L
  congr 3
  by_cases h1:L≤p - k
  ·have a1:(L - (p - k)).toNat=0:=by omega
   have a2:(L - p).toNat=0:=by omega
   rw [a1,a2,rne_zero,rne_zero,Nat.mul_assoc,← Nat.pow_add]
   congr 2;omega
  ·by_cases h2:L≤p
   ·have a1:(p - ↑k - L).toNat=0:=by omega
    have a2:(L - p).toNat=0:=by omega
    rw [a1,a2,rne_zero,Nat.pow_zero,Nat.mul_one]
    have e:m * 2 ^ k=m * 2 ^ (p - L).toNat * 2 ^ (L - (p - ↑k)).toNat:=by
     rw [Nat.mul_assoc,← Nat.pow_add];congr 2;omega
    rw [e,rne_mul]
   ·have a1:(p - ↑k - L).toNat=0:=by omega
    have a2:(p - L).toNat=0:=by omega
    have a3:(L - (p - ↑k)).toNat=(L - p).toNat+k:=by omega
    rw [a1,a2,a3,Nat.pow_zero,Nat.mul_one,Nat.mul_one,rne_shift]
def canon (M:Nat) (E:Int):Prop:=M < 16777216 ∧ -149≤E∧(8388608≤M∨E=-149)
def rungOf (M:Nat) (E:Int):Nat:=(E+149).toNat * 8388608+M
theorem log2_lt24 {M:Nat} (h:M < 16777216) (h0:M≠0):M.log2≤23:=by
 have:=(Nat.log2_lt h0).2 (show M < 2 ^ 24 from h)
 omega
theorem log2_23 {M:Nat} (h:M < 16777216) (h1:8388608≤M):M.log2=23:=
 (Nat.log2_eq_iff (by omega)).2 ⟨h1,h⟩
theorem lastOf_canon {M:Nat} {E:Int} (c:canon M E) (h0:M≠0):lastOf M E=E:=by
 obtain ⟨c1,c2,c3⟩:=c
 have:=log2_lt24 c1 h0
 unfold lastOf
 rcases c3 with c3|c3
 ·rw [log2_23 c1 c3];omega
 ·omega
theorem nearest_canon (neg:Bool) {M:Nat} {E:Int} (c:canon M E):single.nearest neg M E=single.word neg (min (rungOf M E) 2139095040):=by
 by_cases h0:M=0
 ·have hE:E=-149:=by obtain ⟨_,_,c3⟩:=c;omega
  subst h0;subst hE
  simp [Format.nearest,rungOf]
 ·rw [nearest_eq neg _ _ h0,lastOf_canon c h0]
  have a:(E - E).toNat=0:=by omega
  rw [a,rne_zero,Nat.pow_zero,Nat.mul_one]
  rfl
theorem read_word (neg:Bool) (r:Nat) (h:r < 2147483648):single.read (single.word neg r) =
  if r < 8388608 then .number neg r (-149) else if r < 2139095040 then .number neg (8388608+r % 8388608) (-149+(r / 8388608 - 1:Nat)) else if r=2139095040 then .infinity neg else .nan neg (r - 2139095040):=by
 unfold Format.read Format.word
 have e1:(if neg=true then 2147483648+r else r) % 2147483648=r:=by split <;> omega
 have e2:((if neg=true then 2147483648+r else r) / 2147483648 % 2 == 1)=neg:=by
  cases neg
  ·simp;omega
  ·simp only [if_true];rw [beq_iff_eq];omega
 simp only [sw,bn,ir,lp,e1,e2]
theorem read_canon (neg:Bool) {M:Nat} {E:Int} (c:canon M E) (h:rungOf M E < 2139095040):single.read (single.word neg (rungOf M E))=.number neg M E:=by
 rw [read_word _ _ (by omega)]
 obtain ⟨c1,c2,c3⟩:=c
 unfold rungOf at *
 by_cases hM:M < 8388608
 ·have hE:E=-149:=by omega
  have h0:(E+149).toNat * 8388608+M=M:=by omega
  rw [h0,if_pos hM,hE]
 ·have hq:((E+149).toNat * 8388608+M) / 8388608=(E+149).toNat+1:=by omega
  have hr:((E+149).toNat * 8388608+M) % 8388608=M - 8388608:=by omega
  have eM:8388608+(M - 8388608)=M:=by omega
  have eE:-149+(((E+149).toNat+1 - 1:Nat):Int)=E:=by omega
  rw [if_neg (by omega),if_pos h,hq,hr,eM,eE]
def mantOf (r:Nat):Nat:=if r < 8388608 then r else 8388608+r % 8388608
def placeOf (r:Nat):Int:=-149+(r / 8388608 - 1:Nat)
theorem canon_of (r:Nat):canon (mantOf r) (placeOf r):=by
 unfold canon mantOf placeOf
 split <;> omega
theorem rungOf_of (r:Nat):rungOf (mantOf r) (placeOf r)=r:=by
 unfold rungOf mantOf placeOf
 split <;> omega
theorem read_fin (neg:Bool) (r:Nat) (h:r < 2139095040):single.read (single.word neg r)=.number neg (mantOf r) (placeOf r):=by
 have:=read_canon neg (canon_of r) (by rw [rungOf_of];exact h)
 rwa [rungOf_of] at this
def Fits (m:Nat) (p:Int):Prop:=m≠0∧m < 16777216 ∧ -149≤p∧p+m.log2≤127
theorem fit (neg:Bool) {m:Nat} {p:Int} (f:Fits m p):∃ k:Nat,canon (m * 2 ^ k) (p - k)∧rungOf (m * 2 ^ k) (p - k) < 2139095040 ∧
  single.nearest neg m p=single.word neg (rungOf (m * 2 ^ k) (p - k))∧single.read (single.nearest neg m p)=.number neg (m * 2 ^ k) (p - k):=by
 obtain ⟨h0,h1,h2,h3⟩:=f
 have hl:=log2_lt24 h1 h0
 suffices h:∃ k:Nat,canon (m * 2 ^ k) (p - k)∧rungOf (m * 2 ^ k) (p - k) < 2139095040 by
  obtain ⟨k,c,r⟩:=h
  have e:single.nearest neg m p=single.word neg (rungOf (m * 2 ^ k) (p - k)):=by
   rw [← nearest_shift neg m p k,nearest_canon neg c,Nat.min_eq_left (Nat.le_of_lt r)]
  exact ⟨k,c,r,e,by rw [e];exact read_canon neg c r⟩
 by_cases hc:-149≤p+m.log2 - 23
 ·obtain ⟨k,hk⟩:∃ k:Nat,k=23 - m.log2:=⟨_,rfl⟩
  have hM0:m * 2 ^ k≠0:=Nat.mul_ne_zero h0 (by have:=Nat.two_pow_pos k;omega)
  have hlog:(m * 2 ^ k).log2=23:=by rw [log2_mul_pow m k h0];omega
  have hb:=(Nat.log2_eq_iff hM0).1 hlog
  have b1:8388608≤m * 2 ^ k:=hb.1
  have b2:m * 2 ^ k < 16777216:=hb.2
  refine ⟨k,⟨b2,by omega,Or.inl b1⟩,?_⟩
  unfold rungOf
  generalize m * 2 ^ k=M at *
  omega
 ·obtain ⟨k,hk⟩:∃ k:Nat,k=(p+149).toNat:=⟨_,rfl⟩
  have hM0:m * 2 ^ k≠0:=Nat.mul_ne_zero h0 (by have:=Nat.two_pow_pos k;omega)
  have hlog:(m * 2 ^ k).log2≤23:=by rw [log2_mul_pow m k h0];omega
  have b2:m * 2 ^ k < 16777216:=(Nat.log2_lt hM0).1 (show (m * 2 ^ k).log2 < 24 by omega)
  have hp:p - k=-149:=by omega
  refine ⟨k,⟨b2,by omega,Or.inr hp⟩,?_⟩
  unfold rungOf
  rw [hp]
  generalize m * 2 ^ k=M at *
  omega
theorem mul_fit {s t:Bool} {m n:Nat} {p q:Int} (f:Fits m p) (g:Fits n q):single.mul (single.nearest s m p) (single.nearest t n q)=some (single.nearest (s ^^ t) (m * n) (p+q)):=by
 obtain ⟨k,_,_,_,hk⟩:=fit s f
 obtain ⟨j,_,_,_,hj⟩:=fit t g
 unfold Format.mul
 rw [hk,hj]
 simp only [Datum.product,Option.map_some,Format.write,Option.some.injEq]
 rw [← nearest_shift (s ^^ t) (m * n) (p+q) (k+j)]
 congr 1
 ·rw [Nat.pow_add];ac_rfl
 ·omega
theorem word_nearest (neg:Bool) {m:Nat} {p:Int} (f:Fits m p):single.word neg (single.nearest false m p)=single.nearest neg m p∧single.nearest false m p < 2139095040:=by
 obtain ⟨k,c,r,_,_⟩:=fit false f
 have e:∀ s,single.nearest s m p=single.word s (rungOf (m * 2 ^ k) (p - k)):=fun s=>by
  rw [← nearest_shift s m p k,nearest_canon s c,Nat.min_eq_left (Nat.le_of_lt r)]
 rw [e neg,e false]
 exact ⟨rfl,r⟩
end Fs
end Go.Proofs.YtnceajanlnnfoaaGreatDoor
namespace Go.Proofs.YtnceajanlnnfoaaGreatDoor
open Ieee
namespace Rn
def rungs (L K:Int) (B:Nat) (mode:Int) (neg:Bool) (m:Nat) (e:Int):Nat:=(L - K).toNat * B+rnd mode neg (m * 2 ^ (e - L).toNat) (L - e).toNat
def rung32 (mode:Int) (neg:Bool) (m:Nat) (e:Int):Nat:=rungs (Fs.lastOf m e) (-149) 8388608 mode neg m e
theorem rnd32_bd (mode:Int) (neg:Bool) (m:Nat) (e:Int) (hm:m≠0) :
  rnd mode neg (m * 2 ^ (e - Fs.lastOf m e).toNat) (Fs.lastOf m e - e).toNat≤16777216 ∧
  (-149 < Fs.lastOf m e→8388608≤rnd mode neg (m * 2 ^ (e - Fs.lastOf m e).toNat) (Fs.lastOf m e - e).toNat):=by
 have h1:=Nat.log2_self_le hm
 have h2:m < 2 ^ (m.log2+1):=Nat.lt_log2_self
 have hL:Fs.lastOf m e=max (e+m.log2 - 23) (-149):=rfl
 generalize Fs.lastOf m e=L at *
 constructor
 ·refine rnd_le mode neg _ ?_
  have:m * 2 ^ (e - L).toNat≤2 ^ (m.log2+1+(e - L).toNat):=by
   rw [Nat.pow_add];exact Nat.mul_le_mul_right _ (Nat.le_of_lt h2)
  refine Nat.le_trans this ?_
  rw [show (16777216:Nat)=2 ^ 24 from rfl,← Nat.pow_add]
  exact Nat.pow_le_pow_right (by decide) (by omega)
 ·intro hl
  refine le_rnd mode neg _ ?_
  have:2 ^ (m.log2+(e - L).toNat)≤m * 2 ^ (e - L).toNat:=by
   rw [Nat.pow_add];exact Nat.mul_le_mul_right _ h1
  refine Nat.le_trans ?_ this
  rw [show (8388608:Nat)=2 ^ 23 from rfl,← Nat.pow_add]
  exact Nat.pow_le_pow_right (by decide) (by omega)
def far (mode:Int) (neg:Bool):Bool:=decide (mode=1) || decide (mode=2) || (decide (mode=3) && !neg) || (decide (mode=4) && neg)
def cap32 (mode:Int) (neg:Bool) (r:Nat):Nat:=if r < 2139095040 then r else if far mode neg then 2139095040 else 2139095039
def word32 (mode:Int) (neg:Bool) (m:Nat) (e:Int):Nat:=single.word neg (cap32 mode neg (rung32 mode neg m e))
theorem cap32_le (mode:Int) (neg:Bool) (r:Nat):cap32 mode neg r≤2139095040:=by
 unfold cap32
 split
 ·omega
 ·split <;> omega
theorem nearest32 (neg:Bool) (m:Nat) (e:Int) (hm:m≠0):single.nearest neg m e=word32 1 neg m e:=by
 rw [Fs.nearest_eq neg m e hm]
 unfold word32 cap32 rung32 rungs
 rw [rnd_even]
 have:far 1 neg=true:=rfl
 rw [this,if_pos rfl,show Fs.lastOf m e - -149=Fs.lastOf m e+149 by omega]
 congr 1
 split <;> omega
theorem single_front (neg:Bool) (q:Nat) (L:Int) (hq:q≤16777216) (hL:-149≤L) (hn:-149 < L→8388608≤q) :
  single.nearest neg q L=single.word neg (min ((L+149).toNat * 8388608+q) 2139095040):=by
 by_cases h:q=16777216
 ·have c:Fs.canon 8388608 (L+1):=⟨by decide,by omega,Or.inl (by decide)⟩
  have s:=Fs.nearest_shift neg 8388608 (L+1) 1
  rw [show (8388608 * 2 ^ 1:Nat)=16777216 from rfl,show L+1 - ((1:Nat):Int)=L by omega] at s
  have e:Fs.rungOf 8388608 (L+1)=(L+149).toNat * 8388608+16777216:=by unfold Fs.rungOf;omega
  rw [h,s,Fs.nearest_canon neg c,e]
 ·have c:Fs.canon q L:=⟨by omega,hL,by omega⟩
  rw [Fs.nearest_canon neg c]
  rfl
end Rn
end Go.Proofs.YtnceajanlnnfoaaGreatDoor
namespace Go.Proofs.YtnceajanlnnfoaaGreatDoor
namespace Rn
theorem upw_small (mode:Int) (neg odd:Bool) (r g g':Nat) (h:2 * r < g) (h':2 * r < g'):upw mode neg odd r g=upw mode neg odd r g':=by
 unfold upw
 rw [decide_eq_false (show ¬ g < 2 * r by omega),decide_eq_false (show ¬ g' < 2 * r by omega),decide_eq_false (show ¬ g=2 * r by omega),decide_eq_false (show ¬ g'=2 * r by omega),decide_eq_false (show ¬ g≤2 * r by omega),decide_eq_false (show ¬ g'≤2 * r by omega)]
theorem rest_eq (m n:Nat) (hn:n≤64):m * 2 ^ (64 - n) % 18446744073709551616=m % 2 ^ n * 2 ^ (64 - n):=by
 have e:(18446744073709551616:Nat)=2 ^ n * 2 ^ (64 - n):=by
  rw [← Nat.pow_add,show n+(64 - n)=64 by omega]
 rw [e,Nat.mul_mod_mul_right]
theorem code_rnd (mode:Int) (neg:Bool) (m n:Nat) (hm:m < 18446744073709551616) (h:n≤64∨m < 9223372036854775808) :
  m / 2 ^ min n 64=m / 2 ^ n ∧
  upw mode neg (m / 2 ^ min n 64 % 2 == 1) (m * 2 ^ (64 - min n 64) % 18446744073709551616) 18446744073709551616=upw mode neg (m / 2 ^ n % 2 == 1) (m % 2 ^ n) (2 ^ n) ∧
  (m * 2 ^ (64 - min n 64) % 18446744073709551616=0 ↔ m % 2 ^ n=0):=by
 by_cases hn:n≤64
 ·rw [Nat.min_eq_left hn,rest_eq m n hn]
  have hp:0 < 2 ^ (64 - n):=Nat.two_pow_pos _
  have e:(18446744073709551616:Nat)=2 ^ n * 2 ^ (64 - n):=by
   rw [← Nat.pow_add,show n+(64 - n)=64 by omega]
  refine ⟨rfl,?_,?_⟩
  ·rw [e,upw_mul _ _ _ _ _ _ hp]
  ·rw [Nat.mul_eq_zero];omega
 ·have hm':m < 9223372036854775808:=by omega
  have hN:18446744073709551616≤2 ^ n:=by
   rw [show (18446744073709551616:Nat)=2 ^ 64 from rfl]
   exact Nat.pow_le_pow_right (by decide) (by omega)
  rw [Nat.min_eq_right (by omega),Nat.sub_self,Nat.pow_zero,Nat.mul_one,show (2:Nat) ^ 64=18446744073709551616 from rfl,Nat.mod_eq_of_lt hm,Nat.div_eq_of_lt hm,Nat.div_eq_of_lt (show m < 2 ^ n by omega),Nat.mod_eq_of_lt (show m < 2 ^ n by omega)]
  exact ⟨rfl,upw_small _ _ _ _ _ _ (by omega) (by omega),Iff.rfl⟩
end Rn
end Go.Proofs.YtnceajanlnnfoaaGreatDoor
