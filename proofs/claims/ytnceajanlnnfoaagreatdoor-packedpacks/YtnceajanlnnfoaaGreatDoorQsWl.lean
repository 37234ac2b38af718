/- The contracts of math/bits.Len64 and TrailingZeros64 at this program. The contracts of signed, odd, holds and Join. The document's Join, without a program: halving to the odd part, doubling to the format's place. The contract of Join. What Join gives where the number is one; a word taken apart; a number as a single: no program here but Join's plain functions. -/
import Derived.WalkKit
import Derived.WalkSpells
import Derived.WalkLawsBesides
import Derived.Lib.BitFns
import Derived.Lib.TrailingZeros
import Derived.Laws.Bits64b
import Derived.Test.YtnceajanlnnfoaaGreatDoorQsWa
import Derived.Test.YtnceajanlnnfoaaGreatDoorQsWp
import Derived.Laws.FloatArith
set_option maxHeartbeats 4000000
set_option maxRecDepth 100000
namespace Go.Proofs.YtnceajanlnnfoaaGreatDoor
open Go.RowKit
theorem blen_way (s:Nat) (x b:Int) (h0:0≤x) (hx:x < 18446744073709551616) (hb:b=x / 2 ^ s) (h255:b≤255) (hge:s=0∨1≤b) :
  (s:Int)+Lib.len8 b=Lib.bitLen x.toNat:=by
 obtain ⟨n,rfl⟩:=Int.eq_ofNat_of_zero_le h0
 have hq:b=((n / 2 ^ s:Nat):Int):=by rw [hb];exact_mod_cast rfl
 have hb0:0≤b:=by rw [hq];exact Int.natCast_nonneg _
 rw [Lib.len8_of b hb0 h255,hq,Int.toNat_natCast,Int.toNat_natCast]
 rcases hge with rfl|hge
 ·simp
 ·have hp:0 < 2 ^ s:=Nat.two_pow_pos s
  have h1:1≤n / 2 ^ s:=by omega
  have h2:2 ^ s≤n:=by
   have:=(Nat.le_div_iff_mul_le hp).1 h1
   omega
  have:=Lib.bitLen_shift s n h2 (by omega)
  omega
theorem blen_tab (s:Nat) (x b:Int) (h0:0≤x) (hx:x < 18446744073709551616) (hb:b=x / 2 ^ s) (h255:b≤255) (hge:s=0∨1≤b) (hs:s≤56) (h:b.toNat < Lib.len8tab.size) :
  wrap64 ((s:Int)+wrap64 ((Lib.len8tab[b.toNat]'h).toNat:Int))=Lib.bitLen x.toNat:=by
 rw [← blen_way s x b h0 hx hb h255 hge]
 have e:((Lib.len8tab[b.toNat]'h).toNat:Int)=Lib.len8 b:=by
  unfold Lib.len8
  rw [getElem?_pos Lib.len8tab b.toNat h];rfl
 have u:=(Lib.len8tab[b.toNat]'h).toNat_lt
 rw [← e]
 generalize (Lib.len8tab[b.toNat]'h).toNat=t at *
 unfold wrap64
 omega
theorem len64_any (x:Int) (w:World) (h0:0≤x) (h1:x≤18446744073709551615) :
  Calls Tryz.prog 92 #[.int .u64 x] w fun e w'=>e=.returned (.int .i64 (Lib.bitLen x.toNat))∧w'=w:=by
 have hsz:=Lib.len8tab_size
 go_enter Tryz.func92,Tryz.ntmps92
 go_wp2
 all_goals go_ret
 all_goals refine ⟨ret_int ?_,rfl⟩
 ·exact blen_tab 56 x _ h0 (by omega) (by omega) (by omega) (by omega) (by omega) _
 ·exact blen_tab 48 x _ h0 (by omega) (by omega) (by omega) (by omega) (by omega) _
 ·exact blen_tab 40 x _ h0 (by omega) (by omega) (by omega) (by omega) (by omega) _
 ·exact blen_tab 32 x _ h0 (by omega) (by omega) (by omega) (by omega) (by omega) _
 ·exact blen_tab 24 x _ h0 (by omega) (by omega) (by omega) (by omega) (by omega) _
 ·exact blen_tab 16 x _ h0 (by omega) (by omega) (by omega) (by omega) (by omega) _
 ·exact blen_tab 8 x _ h0 (by omega) (by omega) (by omega) (by omega) (by omega) _
 ·have:=blen_tab 0 x x h0 (by omega) (by omega) (by omega) (Or.inl rfl) (by omega) (by omega)
  rwa [show ((0:Nat):Int)=0 from rfl,Int.zero_add] at this
theorem bitLen_log (x:Nat) (h0:x≠0) (h:x < 18446744073709551616):Lib.bitLen x=x.log2+1:=by
 have e1:=Nat.log2_self_le h0
 have e2:x < 2 ^ (x.log2+1):=Nat.lt_log2_self
 have:=Lib.bitLen_shift x.log2 x e1 h
 have q:x / 2 ^ x.log2=1:=by
  have hp:0 < 2 ^ x.log2:=Nat.two_pow_pos _
  refine Nat.div_eq_of_lt_le (by omega) ?_
  rw [Nat.pow_succ] at e2;omega
 rw [this,q];rfl
def Tab (w:World):Prop:=∀ j,j < 64→w.cell? ⟨4,j,none⟩=some (.int .u8 (Lib.deBruijn64tab.getD j 0:Nat))
theorem tz_key (x a:Nat) (hx:x < 18446744073709551616) (hlow:x &&& (18446744073709551616 - x)=a) (hx0:x≠0) :
  IntKind.u64.wrap (bits BinOp.and IntKind.u64 (x:Int) (IntKind.u64.wrap (-(x:Int))) * 285870213051353865) / 288230376151711744=((a * 285870213051353865 % 18446744073709551616 / 288230376151711744:Nat):Int):=by
 have e1:IntKind.u64.wrap (-(x:Int))=((18446744073709551616 - x:Nat):Int):=by rw [IntKind.wrap_u64];omega
 rw [e1,u64_and_nat x _ hx (by omega),hlow,IntKind.wrap_u64]
 omega
theorem tz_core (x:Int) (k idx:Nat) (w:World) (hx0:(x == 0)=false)
  (key:Hid (IntKind.u64.wrap (bits BinOp.and IntKind.u64 x (IntKind.u64.wrap (-x)) * 285870213051353865) / 288230376151711744=(idx:Int)))
  (hi:idx < 64) (hk:k < 64) (hcell:w.cell? ⟨4,idx,none⟩=some (.int .u8 k)) :
  Calls Tryz.prog 179 #[.int .u64 x] w fun e w'=>e=.returned (.int .i64 k)∧w'=w:=by
 go_enter Tryz.func179,Tryz.ntmps179
 go_wp2_with (simp only [key.out])
 go_ret
 exact ⟨rfl,rfl⟩
theorem tz_any (x:Int) (h0:0 < x) (hx:x < 18446744073709551616) (w:World) (hT:Tab w) :
  Calls Tryz.prog 179 #[.int .u64 x] w fun e w'=>e=.returned (.int .i64 (Lib.ctz 64 x.toNat:Nat))∧w'=w:=by
 obtain ⟨n,rfl⟩:=Int.eq_ofNat_of_zero_le (Int.le_of_lt h0)
 have hn0:n≠0:=by omega
 have hn:n < 18446744073709551616:=by omega
 obtain ⟨hlow,hk⟩:=Lib.lowest_bit 64 n hn0 hn
 obtain ⟨hi,htab⟩:=Lib.deBruijn64_at _ hk
 have hcell:=hT _ hi
 rw [htab] at hcell
 rw [Int.toNat_natCast]
 exact tz_core n _ _ w (by simp;omega) (tz_key n _ hn hlow hn0) hi hk hcell
theorem or63 (b:Nat) (h:b < 9223372036854775808):bits .or .u64 (b:Int) 9223372036854775808=((9223372036854775808+b:Nat):Int):=by
 have:=u64_or_nat b 9223372036854775808 (by omega) (by decide)
 rw [show (9223372036854775808:Int)=((9223372036854775808:Nat):Int) from rfl,this,Nat.or_comm,nat_join 63 _ b (by decide) (by omega)]
theorem signed_any (neg:Bool) (b:Nat) (hb:Hid (b < 9223372036854775808)) (w:World) :
  Calls Tryz.prog 148 #[.bool neg,.float .f64 b] w fun e w'=>e=.returned (.float .f64 (Ieee.double.word neg b))∧w'=w:=by
 go_enter Tryz.func148,Tryz.ntmps148
 cases neg
 ·go_wp2
  go_ret
  exact ⟨rfl,rfl⟩
 ·go_wp2
  go_ret
  refine ⟨ret_f64 ?_,rfl⟩
  rw [or63 b hb.out,Int.toNat_natCast]
  rfl
theorem odd_any (m e0:Int) (k:Nat) (h0:0 < m) (h1:m < 18446744073709551616) (hk:k < 64) (hkk:Hid (Lib.ctz 64 m.toNat=k)) (he0:-9223372036854775808≤e0) (he1:e0≤1023) (w:World) (hT:Hid (Tab w)) :
  Calls Tryz.prog 149 #[.int .u64 m,.int .i64 e0] w fun e w'=>e=.returned (.tuple #[.int .u64 (m / 2 ^ k),.int .i64 (e0+k)])∧w'=w:=by
 have H:Hid (Calls Tryz.prog 179 #[.int .u64 m] w fun e w'=>e=.returned (.int .i64 k)∧w'=w):=by
  have:=tz_any m h0 h1 w hT.out
  rwa [hkk.out] at this
 go_enter Tryz.func149,Tryz.ntmps149
 go_wp2_with (go_at_call 179;refine H.out.mono ?_;rintro e w' ⟨rfl,rfl⟩)
 go_ret2
 exact ⟨rfl,rfl⟩
def hld (n e0 wd least top:Int):Bool:=decide (n≤wd∧least≤e0∧n+e0≤top)
theorem holds_any (m e0 wd least top n:Int) (h0:0≤m) (h1:m≤18446744073709551615) (hn:Hid ((Lib.bitLen m.toNat:Int)=n)) (hn0:0≤n) (hn1:n≤64) (he0:-9223372036854775808≤e0) (he1:e0≤2000) (w:World) :
  Calls Tryz.prog 150 #[.int .u64 m,.int .i64 e0,.int .i64 wd,.int .i64 least,.int .i64 top] w fun e w'=>e=.returned (.bool (hld n e0 wd least top))∧w'=w:=by
 have H:Hid (Calls Tryz.prog 92 #[.int .u64 m] w fun e w'=>e=.returned (.int .i64 n)∧w'=w):=by
  have:=len64_any m w h0 h1
  rwa [hn.out] at this
 go_enter Tryz.func150,Tryz.ntmps150
 go_wp2_with (go_at_call 92;refine H.out.mono ?_;rintro e w' ⟨rfl,rfl⟩)
 all_goals go_ret
 all_goals refine ⟨ret_bool ?_,rfl⟩
 ·exact decide_eq_decide.2 (by omega)
 ·exact (decide_eq_false (by omega)).symm
 ·exact (decide_eq_false (by omega)).symm
def oddM (m:Int):Nat:=m.toNat / 2 ^ Lib.ctz 64 m.toNat
def oddE (m e0:Int):Int:=e0+(Lib.ctz 64 m.toNat:Nat)
def joinOk (m e0:Int):Bool:=hld ((oddM m).log2+1:Nat) (oddE m e0) 53 (-1074) 1024
def joinW (neg:Bool) (m e0:Int):Nat:=if m=0 then Ieee.double.word neg 0 else if joinOk m e0 then Ieee.double.nearest neg (oddM m) (oddE m e0) else 0
def joinR (m e0:Int):Int:=if m=0 then 0 else if joinOk m e0 then 0 else 11
theorem odd_facts (m:Int) (h0:0 < m) (h1:m < 18446744073709551616):Lib.ctz 64 m.toNat < 64∧(oddM m:Int)=m / 2 ^ Lib.ctz 64 m.toNat∧oddM m % 2=1∧m.toNat=oddM m * 2 ^ Lib.ctz 64 m.toNat ∧
  oddM m < 18446744073709551616:=by
 obtain ⟨n,rfl⟩:=Int.eq_ofNat_of_zero_le (Int.le_of_lt h0)
 obtain ⟨k,hk,hkl⟩:=Lib.ctzFrom_spec 64 n (by omega) (by omega)
 have e:Lib.ctz 64 n=Lib.ctzFrom 64 n:=by unfold Lib.ctz;rw [if_neg (by omega)]
 unfold oddM
 rw [Int.toNat_natCast,e]
 have hp:0 < 2 ^ Lib.ctzFrom 64 n:=Nat.two_pow_pos _
 have q:n / 2 ^ Lib.ctzFrom 64 n=2 * k+1:=by
  refine Nat.div_eq_of_eq_mul_right hp hk
 have ql:n / 2 ^ Lib.ctzFrom 64 n≤n:=Nat.div_le_self _ _
 refine ⟨hkl,by exact_mod_cast rfl,by omega,by rw [q,Nat.mul_comm];exact hk,by omega⟩
theorem oddM_log (m:Int) (h0:0 < m) (h1:m < 18446744073709551616):(Lib.bitLen (m / 2 ^ Lib.ctz 64 m.toNat).toNat:Int)=((oddM m).log2+1:Nat)∧(oddM m).log2 < 64:=by
 obtain ⟨_,e,ho,_,hl⟩:=odd_facts m h0 h1
 rw [← e,Int.toNat_natCast,bitLen_log _ (by omega) hl]
 exact ⟨rfl,(Nat.log2_lt (by omega)).2 hl⟩
theorem join_far (m e0:Int) (h:1024≤e0):joinOk m e0=false:=by
 unfold joinOk hld oddE
 exact decide_eq_false (by omega)
theorem join_fits (m e0:Int) (h0:0 < m) (h1:m < 18446744073709551616) (h:joinOk m e0=true):Fl.Fits (oddM m) (oddE m e0)∧Fl.Fits (oddM m) 0 ∧ -1074≤oddE m e0∧oddE m e0≤1023:=by
 obtain ⟨_,_,ho,_,_⟩:=odd_facts m h0 h1
 have hj:=of_decide_eq_true h
 have hlt:oddM m < 9007199254740992:=(Nat.log2_lt (by omega)).1 (show (oddM m).log2 < 53 by omega)
 exact ⟨⟨by omega,hlt,by omega,by omega⟩,⟨by omega,hlt,by omega,by omega⟩,by omega,by omega⟩
theorem conv_pos (o:Nat):floatOfInt .f64 (o:Int)=Ieee.double.nearest false o 0:=by
 show Ieee.double.nearest (decide ((o:Int) < 0)) (o:Int).natAbs 0=_
 rw [Int.natAbs_natCast,decide_eq_false (by omega)]
theorem odd_unique (o o' k k':Nat) (ho:o % 2=1) (ho':o' % 2=1) (h:o * 2 ^ k=o' * 2 ^ k'):k=k'∧o=o':=by
 have key:∀ o o' k d:Nat,o % 2=1→o * 2 ^ k=o' * 2 ^ (k+(d+1))→False:=by
  intro o o' k d ho h
  have hp:0 < 2 ^ k:=Nat.two_pow_pos k
  rw [Nat.pow_add,Nat.pow_succ] at h
  have e:o=o' * (2 ^ d * 2):=by
   refine Nat.eq_of_mul_eq_mul_right hp ?_
   rw [h];ac_rfl
  rw [← Nat.mul_assoc] at e
  omega
 rcases Nat.lt_trichotomy k k' with c|c|c
 ·obtain ⟨d,rfl⟩:∃ d,k'=k+(d+1):=⟨k' - k - 1,by omega⟩
  exact (key o o' k d ho h).elim
 ·subst c
  exact ⟨rfl,Nat.eq_of_mul_eq_mul_right (Nat.two_pow_pos k) h⟩
 ·obtain ⟨d,rfl⟩:∃ d,k=k'+(d+1):=⟨k - k' - 1,by omega⟩
  exact (key o' o k' d ho' h.symm).elim
theorem join_zero (neg:Bool) (e0:Int) (w:World) :
  Calls Tryz.prog 95 #[.bool neg,.int .u64 0,.int .i64 e0] w fun e w'=>e=.returned (.tuple #[.float .f64 (Ieee.double.word neg 0),.int .i64 0])∧w'=w:=by
 have h0:Hid (0 < 9223372036854775808):=by unfold Hid;decide
 go_enter Tryz.func95,Tryz.ntmps95
 go_wp2_with (go_at_call 148;refine (signed_any neg 0 h0 _).mono ?_;rintro e w' ⟨rfl,rfl⟩)
 go_ret2
 exact ⟨rfl,rfl⟩
theorem join_big (neg:Bool) (m e0:Int) (hm:(m == 0)=false) (he:1024≤e0) (w:World) :
  Calls Tryz.prog 95 #[.bool neg,.int .u64 m,.int .i64 e0] w fun e w'=>e=.returned (.tuple #[.float .f64 0,.int .i64 11])∧w'=w:=by
 go_enter Tryz.func95,Tryz.ntmps95
 go_wp2
 go_ret2
 exact ⟨rfl,rfl⟩
theorem join_no (neg:Bool) (m e0 o:Int) (k:Nat) (hm:(m == 0)=false) (he:e0 < 1024)
  (C1:Hid (∀ w,Tab w→Calls Tryz.prog 149 #[.int .u64 m,.int .i64 e0] w fun e w'=>e=.returned (.tuple #[.int .u64 o,.int .i64 (e0+k)])∧w'=w))
  (C2:Hid (∀ w,Calls Tryz.prog 150 #[.int .u64 o,.int .i64 (e0+k),.int .i64 53,.int .i64 (-1074),.int .i64 1024] w fun e w'=>e=.returned (.bool false)∧w'=w))
  (w:World) (hT:Hid (Tab w)) :
  Calls Tryz.prog 95 #[.bool neg,.int .u64 m,.int .i64 e0] w fun e w'=>e=.returned (.tuple #[.float .f64 0,.int .i64 11])∧w'=w:=by
 go_enter Tryz.func95,Tryz.ntmps95
 go_wp2_with (first|(go_at_call 149;refine (C1.out _ hT.out).mono ?_;rintro e w' ⟨rfl,rfl⟩)|(go_at_call 150;refine (C2.out _).mono ?_;rintro e w' ⟨rfl,rfl⟩))
 go_ret2
 exact ⟨rfl,rfl⟩
theorem join_yes (neg:Bool) (m e0 o:Int) (k r f q:Nat) (hm:(m == 0)=false) (he:e0 < 1024)
  (C1:Hid (∀ w,Tab w→Calls Tryz.prog 149 #[.int .u64 m,.int .i64 e0] w fun e w'=>e=.returned (.tuple #[.int .u64 o,.int .i64 (e0+k)])∧w'=w))
  (C2:Hid (∀ w,Calls Tryz.prog 150 #[.int .u64 o,.int .i64 (e0+k),.int .i64 53,.int .i64 (-1074),.int .i64 1024] w fun e w'=>e=.returned (.bool true)∧w'=w))
  (C3:Hid (∀ w,Calls Tryz.prog 151 #[.int .i64 (e0+k)] w fun e w'=>e=.returned (.float .f64 f)∧w'=w))
  (C4:∀ w,(binOp .mul 50 (.float .f64 (floatOfInt .f64 o)) (.float .f64 f)).run Tryz.prog w=.ok (.float .f64 r) w)
  (C5:Hid (∀ w,Calls Tryz.prog 148 #[.bool neg,.float .f64 r] w fun e w'=>e=.returned (.float .f64 q)∧w'=w))
  (w:World) (hT:Hid (Tab w)) :
  Calls Tryz.prog 95 #[.bool neg,.int .u64 m,.int .i64 e0] w fun e w'=>e=.returned (.tuple #[.float .f64 q,.int .i64 0])∧w'=w:=by
 go_enter Tryz.func95,Tryz.ntmps95
 go_wp2_with (first|(go_at_call 149;refine (C1.out _ hT.out).mono ?_;rintro e w' ⟨rfl,rfl⟩)|(go_at_call 150;refine (C2.out _).mono ?_;rintro e w' ⟨rfl,rfl⟩)|(go_at_call 151;refine (C3.out _).mono ?_;rintro e w' ⟨rfl,rfl⟩)|(go_at_call 148;refine (C5.out _).mono ?_;rintro e w' ⟨rfl,rfl⟩))
 go_ret2
 exact ⟨rfl,rfl⟩
theorem join_any (neg:Bool) (m e0:Int) (h0:0≤m) (h1:m < 18446744073709551616) (he0:-9223372036854775808≤e0) (w:World) (hT:Hid (Tab w)) :
  Calls Tryz.prog 95 #[.bool neg,.int .u64 m,.int .i64 e0] w fun e w'=>e=.returned (.tuple #[.float .f64 (joinW neg m e0),.int .i64 (joinR m e0)])∧w'=w:=by
 unfold joinW joinR
 by_cases hm:m=0
 ·subst hm
  rw [if_pos rfl,if_pos rfl]
  exact join_zero neg e0 w
 ·rw [if_neg hm,if_neg hm]
  have hm':(m == 0)=false:=by simpa using hm
  by_cases he:1024≤e0
  ·rw [join_far m e0 he]
   exact join_big neg m e0 hm' he w
  ·obtain ⟨hk,ho,_,_,hol⟩:=odd_facts m (by omega) h1
   obtain ⟨hb,hbl⟩:=oddM_log m (by omega) h1
   have hp:=Fl.mul_fit (s:=false) (t:=false) (m:=oddM m) (n:=1) (p:=0) (q:=oddE m e0)
   have c1:∀ w,Tab w→Calls Tryz.prog 149 #[.int .u64 m,.int .i64 e0] w fun e w'=>e=.returned (.tuple #[.int .u64 (oddM m),.int .i64 (oddE m e0)])∧w'=w:=fun w hT=>by
    have:=odd_any m e0 _ (by omega) h1 hk rfl he0 (by omega) w hT
    rwa [← ho] at this
   have c2:∀ w,Calls Tryz.prog 150 #[.int .u64 (oddM m),.int .i64 (oddE m e0),.int .i64 53,.int .i64 (-1074),.int .i64 1024] w fun e w'=>e=.returned (.bool (joinOk m e0))∧w'=w:=fun w=>
    holds_any (oddM m) (oddE m e0) 53 (-1074) 1024 _ (by omega) (by omega) (by rw [← ho,Int.toNat_natCast] at hb;rw [Int.toNat_natCast];exact hb) (by omega) (by omega) (by unfold oddE;omega) (by unfold oddE;omega) w
   cases hj:joinOk m e0
   ·rw [hj] at c2
    exact join_no neg m e0 (oddM m) (Lib.ctz 64 m.toNat) hm' (by omega) c1 c2 w hT
   ·rw [hj] at c2
    obtain ⟨f1,f2,b1,b2⟩:=join_fits m e0 (by omega) h1 hj
    have hw:=Fl.word_nearest neg f1
    refine join_yes neg m e0 (oddM m) (Lib.ctz 64 m.toNat) (Ieee.double.nearest false (oddM m) (oddE m e0)) (Fl.pw (oddE m e0)) _ hm' (by omega) c1 c2 (fun w=>power_any _ b1 b2 w) (fun w=>?_) (fun w=>?_) w hT
    ·have:=hp f2 (Fl.fits_pow b1 b2)
     rw [Nat.mul_one,Int.zero_add] at this
     exact run_float_arith w .mul _ .f64 _ _ _ (by rw [conv_pos];exact this)
    ·have:=signed_any neg _ (Nat.lt_trans hw.2 (by decide)) w
     rwa [hw.1] at this
end Go.Proofs.YtnceajanlnnfoaaGreatDoor
namespace Go.Proofs.YtnceajanlnnfoaaGreatDoor
open Go.RowKit
open Ieee
theorem join_ok (neg:Bool) (m:Nat) (e:Int) (h0:m≠0) (h1:m≤9007199254740992) (he:-1074≤e) (ht:e+m.log2≤1023) :
  joinW neg m e=double.nearest neg m e∧joinR m e=0:=by
 obtain ⟨hk,_,ho,hm,_⟩:=odd_facts (m:Int) (by omega) (by omega)
 rw [Int.toNat_natCast] at hm hk
 have hne:¬ (m:Int)=0:=by omega
 have hE:oddE (m:Int) e=e+(Lib.ctz 64 m:Nat):=by unfold oddE;rw [Int.toNat_natCast]
 have hlog:m.log2=(oddM (m:Int)).log2+Lib.ctz 64 m:=by
  rw [← Fl.log2_mul_pow _ _ (by omega),← hm]
 have hlt:(oddM (m:Int)).log2≤52:=by
  by_cases c:m=9007199254740992
  ·have e1:oddM (m:Int) * 2 ^ Lib.ctz 64 m=1 * 2 ^ 53:=by rw [← hm,c]
   have:oddM (m:Int)=1:=(odd_unique _ 1 _ 53 ho (by decide) e1).2
   rw [this];decide
  ·have:m.log2 < 53:=(Nat.log2_lt h0).2 (show m < 2 ^ 53 by omega)
   omega
 have hok:joinOk (m:Int) e=true:=by
  unfold joinOk hld
  rw [hE]
  exact decide_eq_true (by omega)
 unfold joinW joinR
 rw [if_neg hne,if_neg hne,hok,if_pos rfl,if_pos rfl]
 refine ⟨?_,rfl⟩
 have:=Fl.nearest_shift neg (oddM (m:Int)) (oddE (m:Int) e) (Lib.ctz 64 m)
 rw [← hm,hE,show e+((Lib.ctz 64 m:Nat):Int) - (Lib.ctz 64 m:Nat)=e by omega] at this
 rw [hE,this]
theorem join_nought (neg:Bool) (e:Int):joinW neg 0 e=double.word neg 0∧joinR 0 e=0:=by
 unfold joinW joinR
 rw [if_pos rfl,if_pos rfl];exact ⟨rfl,rfl⟩
theorem word64_lt (neg:Bool) (r:Nat) (h:r < 9223372036854775808):double.word neg r < 18446744073709551616∧mag (double.word neg r)=r∧sgb (double.word neg r)=neg:=by
 unfold Format.word mag sgb
 rw [Fl.sw]
 cases neg
 ·simp only [Bool.false_eq_true,if_false];exact ⟨by omega,by omega,decide_eq_false (by omega)⟩
 ·simp only [if_true];exact ⟨by omega,by omega,decide_eq_true (by omega)⟩
theorem conv32 (neg:Bool) {m:Nat} {p:Int} (f:Fl.Fits m p) (hr:Rn.rung32 1 neg m p < 2139095040):floatToFloatBits .f64 (double.nearest neg m p) .f32=some (Rn.word32 1 neg m p):=by
 obtain ⟨k,_,_,_,e⟩:=Fl.fit neg f
 have hM:m * 2 ^ k≠0:=Nat.mul_ne_zero f.1 (by have:=Nat.two_pow_pos k;omega)
 have hd:FloatKind.f64.decode (double.nearest neg m p)=.number neg (m * 2 ^ k) (p - k):=e
 have hn:FloatKind.f32.encode (.number neg (m * 2 ^ k) (p - k))=Rn.word32 1 neg m p:=by
  show single.nearest neg (m * 2 ^ k) (p - k)=_
  rw [Fs.nearest_shift,Rn.nearest32 neg m p f.1]
 have hi:(FloatKind.f32.decode (Rn.word32 1 neg m p)).isInfinity=false:=by
  show (single.read (single.word neg (Rn.cap32 1 neg (Rn.rung32 1 neg m p)))).isInfinity=false
  unfold Rn.cap32
  rw [if_pos hr,Fs.read_fin neg _ hr];rfl
 unfold floatToFloatBits
 rw [if_neg (by decide),hd]
 simp only [hn,hi]
 rfl
theorem conv32_nought (neg:Bool):floatToFloatBits .f64 (double.word neg 0) .f32=some (single.word neg 0):=by
 cases neg <;> decide +kernel
theorem conv32_inf (neg:Bool):floatToFloatBits .f64 (double.word neg 9218868437227405312) .f32=some (single.word neg 2139095040):=by
 cases neg <;> decide +kernel
theorem conv32_front (neg:Bool) (q:Nat) (L:Int) (h0:q≠0) (hq:q≤16777216) (hL:-149≤L) (hL1:L≤104) (hn:-149 < L→8388608≤q) (hr:(L+149).toNat * 8388608+q < 2139095040) :
  floatToFloatBits .f64 (double.nearest neg q L) .f32=some (single.word neg ((L+149).toNat * 8388608+q)):=by
 have hlog:q.log2≤24:=by have:=(Nat.log2_lt h0).2 (show q < 2 ^ 25 by omega);omega
 have f:Fl.Fits q L:=⟨h0,by omega,by omega,by omega⟩
 have e:=Rn.nearest32 neg q L h0
 rw [Rn.single_front neg q L hq hL hn,Nat.min_eq_left (by omega)] at e
 have hw:Rn.cap32 1 neg (Rn.rung32 1 neg q L)=(L+149).toNat * 8388608+q:=by
  have:=Rn.cap32_le 1 neg (Rn.rung32 1 neg q L)
  unfold Rn.word32 Format.word at e
  rw [Fs.sw] at e
  cases neg
  ·simp only [Bool.false_eq_true,if_false] at e;exact e.symm
  ·simp only [if_true] at e;omega
 have hr1:Rn.rung32 1 neg q L < 2139095040:=by
  unfold Rn.cap32 at hw
  split at hw
  ·assumption
  ·rw [show Rn.far 1 neg=true from rfl,if_pos rfl] at hw;omega
 rw [conv32 neg f hr1,e]
end Go.Proofs.YtnceajanlnnfoaaGreatDoor
