/-The contracts of what looks at a single's bits: Nan, One, Next; and of. -/
import Derived.Test.YtnceajanlnnfoaaGreatDoorQrSa
import Derived.Test.YtnceajanlnnfoaaGreatDoorQrGw
set_option maxHeartbeats 1000000
namespace Go.Proofs.YtnceajanlnnfoaaGreatDoor
section
open Go.RowKit
def U8 (b:Nat):Nat:=b%2147483648
def j67 (b:Nat):Bool:=decide (2147483648<=b)
def j2K (b:Nat):Bool:=decide (2139095040<U8 b)
def Y5 (b:Nat):Nat:=if 2139095040<U8 b then 2143289344 else b
theorem j7C (b:Nat)(h:b<4294967296):bits .andNot .u32 (b:Int) 2147483648=(U8 b:Int):=by
 have:=u32_andNot_nat b 2147483648 h (by decide);rw[show ((2147483648:Nat):Int)=2147483648 from rfl] at this;rw[this,show 4294967295-2147483648=2147483647 from rfl,Nat.and_two_pow_sub_one_eq_mod b 31]
 rfl
theorem j5Z {a b:Nat}(h:a=b):Ending.returned (.float .f32 a)=.returned (.float .f32 b):=by rw[h]
theorem or31 (b:Nat)(h:b<2147483648):bits .or .u32 (b:Int) 2147483648=((2147483648+b:Nat):Int):=by
 have:=u32_or_nat b 2147483648 (by omega) (by decide);rw[show (2147483648:Int)=((2147483648:Nat):Int) from rfl,this,Nat.or_comm,nat_join 31 _ b (by decide) (by omega)]
theorem jAt (w:World):
 Calls Tryz.prog 146 #[] w fun e w'=>e=.returned (.float .f32 2143289344)/\w'=w:=by
 go_enter Tryz.func146,Tryz.ntmps146;go_wp2;go_ret;exact⟨rfl,rfl⟩
theorem jBH (b:Nat)(z:Int)(hz:Hid (bits .andNot .u32 (b:Int) 2147483648=z))(hm:Hid ((U8 b:Int)=z))(w:World):
 Calls Tryz.prog 91 #[.float .f32 b] w fun e w'=>e=.returned (.float .f32 (Y5 b))/\w'=w:=by
 go_enter Tryz.func91,Tryz.ntmps91;go_wp2_with (first|(simp only[hz.out])|(go_at_call 146;refine(jAt _).mono ?_;rintro e w' ⟨rfl,rfl⟩));all_goals go_ret
 all_goals refine⟨j5Z ?_,rfl⟩
 ·unfold Y5;rw[if_pos (by have:=hm.out;omega)]
 ·unfold Y5;rw[if_neg (by have:=hm.out;omega)]
theorem j51 (b:Nat)(hb:b<4294967296)(w:World):
 Calls Tryz.prog 91 #[.float .f32 b] w fun e w'=>e=.returned (.float .f32 (Y5 b))/\w'=w:=
 jBH b _ (j7C b hb) rfl w
def endW (mode:Int) (neg:Bool):Nat:=Ieee.single.word neg (if Rn.far mode neg then 2139095040 else 2139095039)
theorem jEZ (mode:Int)(neg:Bool):Rn.upw mode neg true (9223372036854775809:Int).toNat 18446744073709551616=Rn.far mode neg:=by
 rw[j6X _ _ _ _ (by decide)];unfold Rn.far;rcases j4s mode with (rfl|rfl|rfl|rfl|rfl)|⟨h4,h3,h1,h2,h6⟩
 ·rfl
 ·rfl
 ·cases neg <;> rfl
 ·cases neg <;> rfl
 ·cases neg <;> rfl
 ·simp only[beq_eq_false_iff_ne,ne_eq] at h1 h2 h3 h4 h6;rw[if_neg h1,if_neg h2,if_neg h3,if_neg h4,if_neg h6,decide_eq_false h1,decide_eq_false h2,decide_eq_false h3,decide_eq_false h4];rfl
theorem j8O (neg:Bool)(mode:Int)(w:World):
 Calls Tryz.prog 94 #[.bool neg,.int .i64 mode] w fun e w'=>e=.returned (.float .f32 (endW mode neg))/\w'=w:=by
 have H:Hid (∀w,Calls Tryz.prog 147 #[.int .i64 mode,.bool neg,.bool true,.int .u64 9223372036854775809] w fun e w'=>e=.returned (.bool (Rn.far mode neg))/\w'=w):=fun w=>by
  have:=j2j mode neg true 9223372036854775809 (by unfold Hid;decide) w
  rwa [jEZ] at this
 have K1:Hid (bits .or .u32 2139095040 2147483648=4286578688):=or31 2139095040 (by decide);have K2:Hid (bits .or .u32 2139095039 2147483648=4286578687):=or31 2139095039 (by decide);have HE:Hid (endW mode neg=Ieee.single.word neg (if Rn.far mode neg then 2139095040 else 2139095039)):=rfl;generalize endW mode neg=E at *;generalize Rn.far mode neg=U at *;cases neg <;> cases U
 all_goals
  go_enter Tryz.func94,Tryz.ntmps94;go_wp2_with (first|(simp only[K1.out])|(simp only[K2.out])|(go_at_call 147;refine(H.out _).mono ?_;rintro e w' ⟨rfl,rfl⟩));go_ret;exact⟨j5Z HE.out.symm,rfl⟩
end
section
open Go.RowKit
open Ieee
theorem j8P (n:Nat)(hn:n<18446744073709551616):(Lib.bitLen n:Int)=(if n=0 then 0 else n.log2+1:Nat)/\(if n=0 then 0 else n.log2+1)<=64:=by
 by_cases h0:n=0
 ·subst h0;exact⟨rfl,by decide⟩
 ·rw[if_neg h0,j1t n h0 hn];have h3:n.log2<64:=(Nat.log2_lt h0).2 hn;exact⟨rfl,h3⟩
theorem j5z {b r:Nat}(h:floatToFloatBits .f64 b .f32=some r)(w:World):(convert 50 101 (.float .f64 b)).run Tryz.prog w=.ok (.float .f32 r) w:=
 run_convert_float_float w 50 101 .f64 .f32 b r (by rw[Tryz.underlying50];rfl) Tryz.underlying101 h
theorem jB2 (x y z:Nat)(mode M E r:Int)(neg:Bool)(hr:(r != 0 || M==0)=true)
 (H0:Hid (∀w,Calls Tryz.prog 89 #[.int .i64 mode] w fun e w'=>e=.returned (.bool true)/\w'=w))
 (H1:Hid (∀w,Calls Tryz.prog 90 #[.float .f64 x] w fun e w'=>e=.returned (.tuple #[.bool neg,.int .u64 M,.int .i64 E,.int .i64 r])/\w'=w))
 (C:∀w,(convert 50 101 (.float .f64 x)).run Tryz.prog w=.ok (.float .f32 y) w)
 (H2:Hid (∀w,Calls Tryz.prog 91 #[.float .f32 y] w fun e w'=>e=.returned (.float .f32 z)/\w'=w)) (w:World) :
 Calls Tryz.prog 44 #[.float .f64 x,.int .i64 mode] w fun e w'=>e=.returned (.tuple #[.float .f32 z,.agg #[.bool false,.bool false,.bool false],.int .i64 0])/\Gr w w':=by
 by_cases c:r=0
 ·subst c;have cM:(M==0)=true:=by simpa using hr
  clear hr;go_enter Tryz.func44,Tryz.ntmps44;go_wp2_with (first|(go_at_call 89;refine(H0.out _).mono ?_;rintro e w' ⟨rfl,rfl⟩)|(go_at_call 90;refine(H1.out _).mono ?_;rintro e w' ⟨rfl,rfl⟩)|(go_at_call 91;refine(H2.out _).mono ?_;rintro e w' ⟨rfl,rfl⟩));refine bodyPost_ret (v:=.tuple #[.float .f32 z,.agg #[.bool false,.bool false,.bool false],.int .i64 0]) (by simp[results,Tryz.results44,go_sem]) rfl ?_;exact⟨rfl,by (repeat (first|exact Gr.refl _|refine Gr.setCell ?_ _ _ (Nat.le_refl _)|refine Gr.alloc ?_ _ _|refine Gr.drewN ?_ _))⟩
 ·have c':(r != 0)=true:=by simpa using c
  clear hr c;go_enter Tryz.func44,Tryz.ntmps44;go_wp2_with (first|(go_at_call 89;refine(H0.out _).mono ?_;rintro e w' ⟨rfl,rfl⟩)|(go_at_call 90;refine(H1.out _).mono ?_;rintro e w' ⟨rfl,rfl⟩)|(go_at_call 91;refine(H2.out _).mono ?_;rintro e w' ⟨rfl,rfl⟩));refine bodyPost_ret (v:=.tuple #[.float .f32 z,.agg #[.bool false,.bool false,.bool false],.int .i64 0]) (by simp[results,Tryz.results44,go_sem]) rfl ?_;exact⟨rfl,by (repeat (first|exact Gr.refl _|refine Gr.setCell ?_ _ _ (Nat.le_refl _)|refine Gr.alloc ?_ _ _|refine Gr.drewN ?_ _))⟩
theorem jB1 (x z:Nat)(mode M E l L F k:Int)(neg X:Bool)(hM:(M==0)=false)(hE0:-1074<=E)(hE1:E<=971)(hl0:0<=l)(hl1:l<=64)(hL:(L=E+l-24 /\ -149<=L)∨(E+l-24 < -149/\L=-149))(hk0:0<=k)(hk1:k<=64)(ho:128<L+k)
 (H0:Hid (∀w,Calls Tryz.prog 89 #[.int .i64 mode] w fun e w'=>e=.returned (.bool true)/\w'=w))
 (H1:Hid (∀w,Calls Tryz.prog 90 #[.float .f64 x] w fun e w'=>e=.returned (.tuple #[.bool neg,.int .u64 M,.int .i64 E,.int .i64 0])/\w'=w))
 (H2:Hid (∀w,Calls Tryz.prog 92 #[.int .u64 M] w fun e w'=>e=.returned (.int .i64 l)/\w'=w))
 (H3:Hid (∀w,Calls Tryz.prog 93 #[.bool neg,.int .u64 M,.int .i64 (L-E),.int .i64 mode] w fun e w'=>e=.returned (.tuple #[.int .u64 F,.bool X])/\∃d,w'=w.drewN d))
 (H4:Hid (∀w,Calls Tryz.prog 92 #[.int .u64 F] w fun e w'=>e=.returned (.int .i64 k)/\w'=w))
 (H5:Hid (∀w,Calls Tryz.prog 94 #[.bool neg,.int .i64 mode] w fun e w'=>e=.returned (.float .f32 z)/\w'=w)) (w:World) :
 Calls Tryz.prog 44 #[.float .f64 x,.int .i64 mode] w fun e w'=>e=.returned (.tuple #[.float .f32 z,.agg #[.bool true,.bool true,.bool false],.int .i64 0])/\Gr w w':=by
 rcases hL with ⟨rfl,hL⟩|⟨hL,rfl⟩
 ·skip
  go_enter Tryz.func44,Tryz.ntmps44;go_wp2_with (first|(go_at_call 89;refine(H0.out _).mono ?_;rintro e w' ⟨rfl,rfl⟩)|(go_at_call 90;refine(H1.out _).mono ?_;rintro e w' ⟨rfl,rfl⟩));refine(H2.out _).mono ?_;rintro e w' ⟨rfl,rfl⟩;go_wp2_with (first|(go_at_call 93;refine(H3.out _).mono ?_;rintro e w' ⟨rfl,d,rfl⟩));refine(H4.out _).mono ?_;rintro e w' ⟨rfl,rfl⟩;go_wp2_with (first|(go_at_call 94;refine(H5.out _).mono ?_;rintro e w' ⟨rfl,rfl⟩));refine bodyPost_ret (v:=.tuple #[.float .f32 z,.agg #[.bool true,.bool true,.bool false],.int .i64 0]) (by simp[results,Tryz.results44,go_sem]) rfl ?_;exact⟨rfl,by (repeat (first|exact Gr.refl _|refine Gr.setCell ?_ _ _ (Nat.le_refl _)|refine Gr.alloc ?_ _ _|refine Gr.drewN ?_ _))⟩
 ·exfalso;omega
theorem jAx (x y z:Nat)(mode M E l L F k:Int)(neg X U:Bool)(hM:(M==0)=false)(hE0:-1074<=E)(hE1:E<=971)(hl0:0<=l)(hl1:l<=64)(hL:(L=E+l-24 /\ -149<=L)∨(E+l-24 < -149/\L=-149))(hk0:0<=k)(hk1:k<=64)(ho:L+k<=128)
 (hU:Hid ((X&&decide (E+l < -125))=U))
 (H0:Hid (∀w,Calls Tryz.prog 89 #[.int .i64 mode] w fun e w'=>e=.returned (.bool true)/\w'=w))
 (H1:Hid (∀w,Calls Tryz.prog 90 #[.float .f64 x] w fun e w'=>e=.returned (.tuple #[.bool neg,.int .u64 M,.int .i64 E,.int .i64 0])/\w'=w))
 (H2:Hid (∀w,Calls Tryz.prog 92 #[.int .u64 M] w fun e w'=>e=.returned (.int .i64 l)/\w'=w))
 (H3:Hid (∀w,Calls Tryz.prog 93 #[.bool neg,.int .u64 M,.int .i64 (L-E),.int .i64 mode] w fun e w'=>e=.returned (.tuple #[.int .u64 F,.bool X])/\∃d,w'=w.drewN d))
 (H4:Hid (∀w,Calls Tryz.prog 92 #[.int .u64 F] w fun e w'=>e=.returned (.int .i64 k)/\w'=w))
 (H5:Hid (∀w,Tab w->Calls Tryz.prog 95 #[.bool neg,.int .u64 F,.int .i64 L] w fun e w'=>e=.returned (.tuple #[.float .f64 y,.int .i64 0])/\w'=w))
 (C:∀w,(convert 50 101 (.float .f64 y)).run Tryz.prog w=.ok (.float .f32 z) w) (w:World) (hT:Hid (Tab w)) :
 Calls Tryz.prog 44 #[.float .f64 x,.int .i64 mode] w fun e w'=>e=.returned (.tuple #[.float .f32 z,.agg #[.bool X,.bool false,.bool U],.int .i64 0])/\Gr w w':=by
 cases X
 all_goals
  rcases hL with ⟨rfl,hL⟩|⟨hL,rfl⟩;all_goals
   go_enter Tryz.func44,Tryz.ntmps44;go_wp2_with (first|(go_at_call 89;refine(H0.out _).mono ?_;rintro e w' ⟨rfl,rfl⟩)|(go_at_call 90;refine(H1.out _).mono ?_;rintro e w' ⟨rfl,rfl⟩));refine(H2.out _).mono ?_;rintro e w' ⟨rfl,rfl⟩;go_wp2_with (first|(go_at_call 93;refine(H3.out _).mono ?_;rintro e w' ⟨rfl,d,rfl⟩));refine(H4.out _).mono ?_;rintro e w' ⟨rfl,rfl⟩;go_wp2_with (first|(go_at_call 95;refine(H5.out _ (jEK hT.out (((Gr.refl _).alloc _ _).drewN _))).mono ?_;rintro e w' ⟨rfl,rfl⟩))
 ·have hU':false=U:=hU.out;subst hU';refine bodyPost_ret (v:=.tuple #[.float .f32 z,.agg #[.bool false,.bool false,.bool false],.int .i64 0]) (by simp[results,Tryz.results44,go_sem]) rfl ?_;exact⟨rfl,by (repeat (first|exact Gr.refl _|refine Gr.setCell ?_ _ _ (Nat.le_refl _)|refine Gr.alloc ?_ _ _|refine Gr.drewN ?_ _))⟩
 ·have hU':false=U:=hU.out;subst hU';refine bodyPost_ret (v:=.tuple #[.float .f32 z,.agg #[.bool false,.bool false,.bool false],.int .i64 0]) (by simp[results,Tryz.results44,go_sem]) rfl ?_;exact⟨rfl,by (repeat (first|exact Gr.refl _|refine Gr.setCell ?_ _ _ (Nat.le_refl _)|refine Gr.alloc ?_ _ _|refine Gr.drewN ?_ _))⟩
 ·have hU':decide (E+l < -125)=U:=hU.out;subst hU';refine bodyPost_ret (v:=.tuple #[.float .f32 z,.agg #[.bool true,.bool false,.bool (decide (E+l < -125))],.int .i64 0]) (by simp[results,Tryz.results44,go_sem]) rfl ?_;exact⟨rfl,by (repeat (first|exact Gr.refl _|refine Gr.setCell ?_ _ _ (Nat.le_refl _)|refine Gr.alloc ?_ _ _|refine Gr.drewN ?_ _))⟩
 ·have hU':decide (E+l < -125)=U:=hU.out;have hU2:U=true:=by rw[<- hU'];exact decide_eq_true (by omega)
  subst hU2;refine bodyPost_ret (v:=.tuple #[.float .f32 z,.agg #[.bool true,.bool false,.bool true],.int .i64 0]) (by simp[results,Tryz.results44,go_sem,hU']) rfl ?_;exact⟨rfl,by (repeat (first|exact Gr.refl _|refine Gr.setCell ?_ _ _ (Nat.le_refl _)|refine Gr.alloc ?_ _ _|refine Gr.drewN ?_ _))⟩
def nrO (mode:Int) (neg:Bool) (m:Nat) (e:Int):Bool:=decide (2139095040<=Rn.rung32 mode neg m e)
def nrI (m:Nat) (e:Int):Bool:=decide (m%2^(Fs.lastOf m e-e).toNat≠0)
def nrU (m:Nat) (e:Int):Bool:=nrI m e&&decide (e+m.log2+1 < -125)
theorem jE8 (b:Nat)(h:mag b<9218868437227405312)(h0:mag b≠0):spM b≠0/\spM b<9007199254740992 /\ -1074<=spE b/\spE b<=971/\(4503599627370496<=spM b∨spE b=-1074)/\spN b=sgb b/\spR b=0:=by
 have h1:¬9218868437227405312<=mag b:=by omega
 unfold spM spE spN spR;rw[if_neg h1,if_neg h1,if_neg h1,if_neg h1,if_neg h0];by_cases hl:mag b<4503599627370496
 ·rw[if_pos hl,if_pos hl];exact⟨by omega,by omega,by omega,by omega,Or.inr rfl,rfl,rfl⟩
 ·rw[if_neg hl,if_neg hl];exact⟨by omega,by omega,by omega,by omega,Or.inl (by omega),rfl,rfl⟩
theorem jAI (m:Nat)(e:Int)(h:4503599627370496<=m∨e=-1074):e<=Fs.lastOf m e:=by
 unfold Fs.lastOf;rcases h with h|h
 ·have:52<=m.log2:=(Nat.le_log2 (by omega)).2 h;omega
 ·omega
theorem jAy (b:Nat)(hb:Hid (b<18446744073709551616))(mode:Int)(hm:Y4 mode=true)(h:mag b<9218868437227405312)(h0:mag b≠0)(w:World)(hT:Tab w):
 Calls Tryz.prog 44 #[.float .f64 b,.int .i64 mode] w fun e w'=>
  e=.returned (.tuple #[.float .f32 (Rn.word32 mode (sgb b) (spM b) (spE b)),.agg #[.bool (nrO mode (sgb b) (spM b) (spE b)||nrI (spM b) (spE b)),.bool (nrO mode (sgb b) (spM b) (spE b)),.bool (!nrO mode (sgb b) (spM b) (spE b)&&nrU (spM b) (spE b))],.int .i64 0])/\Gr w w':=by
 obtain⟨s1,s2,s3,s4,s5,s6,s7⟩:=jE8 b h h0;have hge:=jAI (spM b) (spE b) s5;have hS:∀w,Calls Tryz.prog 90 #[.float .f64 b] w fun e w'=>e=.returned (.tuple #[.bool (sgb b),.int .u64 (spM b:Int),.int .i64 (spE b),.int .i64 0])/\w'=w:=fun w=>by
  have:=j33 b hb w;rw[s6,s7] at this;exact this
 generalize sgb b=neg at *;generalize spE b=e at *;generalize hmm:spM b=m at *;clear hmm s6 s7;have hlog:m.log2<53:=(Nat.log2_lt s1).2 s2;have hL:Fs.lastOf m e=max (e+m.log2-23) (-149):=rfl;obtain⟨hL1,hL2⟩:(Fs.lastOf m e=e+(m.log2+1:Nat)-24 /\ -149<=Fs.lastOf m e)∨(e+(m.log2+1:Nat)-24 < -149/\Fs.lastOf m e=-149)↔True:=⟨fun _=>trivial,fun _=>by omega⟩;have hbd:=Rn.rnd32_bd mode neg m e s1;have z1:(e-Fs.lastOf m e).toNat=0:=by omega
 rw[z1,Nat.pow_zero,Nat.mul_one] at hbd;have hR:Rn.rung32 mode neg m e=(Fs.lastOf m e+149).toNat*8388608+Rn.rnd mode neg m (Fs.lastOf m e-e).toNat:=by
  unfold Rn.rung32 Rn.rungs;rw[z1,Nat.pow_zero,Nat.mul_one,show Fs.lastOf m e - -149=Fs.lastOf m e+149 by omega]
 have hl0:-149<=Fs.lastOf m e:=by omega
 have hl9:Fs.lastOf m e<=1000:=by omega
 have hX:nrI m e=decide (m%2^(Fs.lastOf m e-e).toNat≠0):=rfl;have hU:nrU m e=(nrI m e&&decide (e+(m.log2+1:Nat) < -125)):=by
  unfold nrU;congr 1;exact decide_eq_decide.2 (by omega)
 have hW:Rn.word32 mode neg m e=single.word neg (Rn.cap32 mode neg (Rn.rung32 mode neg m e)):=rfl;have hO:nrO mode neg m e=decide (2139095040<=Rn.rung32 mode neg m e):=rfl;have hrd:∀w,Calls Tryz.prog 93 #[.bool neg,.int .u64 (m:Int),.int .i64 (Fs.lastOf m e-e),.int .i64 mode] w fun ee w'=>ee=.returned (.tuple #[.int .u64 (Rn.rnd mode neg m (Fs.lastOf m e-e).toNat:Nat),.bool (nrI m e)])/\∃d,w'=w.drewN d:=fun w=>by
  have:=jD5 neg m (Fs.lastOf m e-e) mode (by omega) (by omega) (by omega) (Or.inr (by omega)) w;rw[Int.toNat_natCast] at this;rw[hX];exact this
 have hl1:=hL2 trivial;generalize Rn.rnd mode neg m (Fs.lastOf m e-e).toNat=F at *;generalize nrI m e=X at *;obtain⟨fb,fb1⟩:=j8P F (by omega);have hml:∀w,Calls Tryz.prog 92 #[.int .u64 (m:Int)] w fun ee w'=>ee=.returned (.int .i64 (m.log2+1:Nat))/\w'=w:=fun w=>by
  have:=j2O m w (by omega) (by omega)
  rwa [Int.toNat_natCast,j1t m s1 (by omega)] at this
 have hfl:∀w,Calls Tryz.prog 92 #[.int .u64 (F:Int)] w fun ee w'=>ee=.returned (.int .i64 (if F=0 then 0 else F.log2+1:Nat))/\w'=w:=fun w=>by
  have:=j2O F w (by omega) (by omega)
  rwa [Int.toNat_natCast,fb] at this
 have hmb:∀w,Calls Tryz.prog 89 #[.int .i64 mode] w fun e w'=>e=.returned (.bool true)/\w'=w:=fun w=>by
  have:=j2Z mode w;rwa [hm] at this
 -- beyond just if the rung is the infinity's or above
 have hover:128<Fs.lastOf m e+((if F=0 then 0 else F.log2+1:Nat):Int)↔2139095040<=Rn.rung32 mode neg m e:=by
  rw[hR];by_cases hF:F=0
  ·subst hF;have:Fs.lastOf m e=-149:=by
    rcases Int.lt_or_le (-149) (Fs.lastOf m e) with c|c
    ·have:=hbd.2 c;omega
    ·omega
   rw[if_pos rfl,this];decide
  ·rw[if_neg hF];have fl:F.log2<25:=(Nat.log2_lt hF).2 (show F<2^25 by omega);by_cases h24:F=16777216
   ·have:F.log2=24:=(by rw[h24];decide);rw[this,h24];omega
   ·have fl2:F.log2<24:=(Nat.log2_lt hF).2 (show F<2^24 by omega);by_cases h23:8388608<=F
    ·have:23<=F.log2:=(Nat.le_log2 hF).2 h23;omega
    ·have:Fs.lastOf m e=-149:=by
      rcases Int.lt_or_le (-149) (Fs.lastOf m e) with c|c
      ·have:=hbd.2 c;omega
      ·omega
     rw[this];omega
 by_cases hov:2139095040<=Rn.rung32 mode neg m e
 ·have hz:Rn.word32 mode neg m e=endW mode neg:=by
   rw[hW];unfold Rn.cap32 endW;rw[if_neg (by omega)]
  rw[hO,decide_eq_true hov,hz];exact jB1 b _ mode m e _ (Fs.lastOf m e) F _ neg X (by simpa using s1) s3 s4 (by omega) (by omega) hl1 (by omega) (by omega) (hover.2 hov) hmb hS hml hrd hfl (fun w=>j8O neg mode w) w
 ·have hlt:(Fs.lastOf m e+149).toNat*8388608+F<2139095040:=by omega
  have hcap:Rn.word32 mode neg m e=single.word neg ((Fs.lastOf m e+149).toNat*8388608+F):=by
   rw[hW];unfold Rn.cap32;rw[if_pos (by omega),hR]
  rw[hO,decide_eq_false hov,hcap,hU];have hj:X9 (F:Int) (Fs.lastOf m e)=0/\floatToFloatBits .f64 (U7 neg (F:Int) (Fs.lastOf m e)) .f32=some (single.word neg ((Fs.lastOf m e+149).toNat*8388608+F)):=by
   by_cases hF:F=0
   ·have:Fs.lastOf m e=-149:=by
     rcases Int.lt_or_le (-149) (Fs.lastOf m e) with c|c
     ·have:=hbd.2 c;omega
     ·omega
    have hjn:=j4g neg (Fs.lastOf m e);rw[hF,show ((0:Nat):Int)=0 from rfl,hjn.1,this];exact⟨(j4g neg _).2,j3f neg⟩
   ·have fl:F.log2<25:=(Nat.log2_lt hF).2 (show F<2^25 by omega);have hl104:Fs.lastOf m e<=104:=by
     rcases Int.lt_or_le (-149) (Fs.lastOf m e) with c|c
     ·have:=hbd.2 c;omega
     ·omega
    have hjo:=jA4 neg F (Fs.lastOf m e) hF (by omega) (by omega) (by omega);refine⟨hjo.2,?_⟩;rw[hjo.1];exact j8j neg F (Fs.lastOf m e) hF hbd.1 hl0 hl104 hbd.2 hlt
  have:=jAx b (U7 neg (F:Int) (Fs.lastOf m e)) _ mode m e _ (Fs.lastOf m e) F _ neg X _ (by simpa using s1) s3 s4 (by omega) (by omega) hl1 (by omega) (by omega) (by have:=mt hover.1 hov;omega) rfl hmb hS hml hrd hfl (fun w hT=>by
   have:=j9z neg F (Fs.lastOf m e) (by omega) (by omega) (by omega) w hT
   rwa [hj.1] at this) (fun w=>j5z hj.2 w) w hT
  simpa using this
def nwW (mode:Int) (b:Nat):Nat:=if mag b=9218868437227405312 then single.word (sgb b) 2139095040 else if mag b=0 then single.word (sgb b) 0 else Rn.word32 mode (sgb b) (spM b) (spE b)
def U9 (b:Nat):Bool:=decide (mag b=9218868437227405312)||decide (mag b=0)
def nwO (mode:Int) (b:Nat):Bool:=!U9 b&&nrO mode (sgb b) (spM b) (spE b)
def nwI (mode:Int) (b:Nat):Bool:=!U9 b&&(nrO mode (sgb b) (spM b) (spE b)||nrI (spM b) (spE b))
def nwU (mode:Int) (b:Nat):Bool:=!U9 b&&(!nrO mode (sgb b) (spM b) (spE b)&&nrU (spM b) (spE b))
theorem j6f (neg:Bool)(r:Nat)(h:r<=2139095040):single.word neg r<4294967296/\U8 (single.word neg r)=r/\j67 (single.word neg r)=neg/\Y5 (single.word neg r)=single.word neg r:=by
 have hm:U8 (single.word neg r)=r:=by
  unfold U8 Format.word;rw[Fs.sw];cases neg
  ·simp only[Bool.false_eq_true,if_false];omega
  ·simp only[if_true];omega
 refine⟨?_,hm,?_,?_⟩
 ·unfold Format.word;rw[Fs.sw];split <;> omega
 ·unfold j67 Format.word;rw[Fs.sw];cases neg
  ·simp only[Bool.false_eq_true,if_false];exact decide_eq_false (by omega)
  ·simp only[if_true];exact decide_eq_true (by omega)
 ·unfold Y5;rw[hm,if_neg (by omega)]
theorem jAw (b:Nat)(hb:Hid (b<18446744073709551616))(mode:Int)(hm:Y4 mode=true)(hn:isN b=false)(w:World)(hT:Tab w):
 Calls Tryz.prog 44 #[.float .f64 b,.int .i64 mode] w fun e w'=>
  e=.returned (.tuple #[.float .f32 (nwW mode b),.agg #[.bool (nwI mode b),.bool (nwO mode b),.bool (nwU mode b)],.int .i64 0])/\Gr w w':=by
 have hmb:∀w,Calls Tryz.prog 89 #[.int .i64 mode] w fun e w'=>e=.returned (.bool true)/\w'=w:=fun w=>by
  have:=j2Z mode w;rwa [hm] at this
 have hle:=X8 hn;have hw:=j6j b hb.out;by_cases hp:U9 b=true
 ·have key:spR b≠0∨spMz b=0:=by
   unfold U9 at hp;rw[Bool.or_eq_true,decide_eq_true_eq,decide_eq_true_eq] at hp;rcases hp with hp|hp
   ·left;unfold spR;rw[if_pos (by omega)];decide
   ·right;unfold spMz spM;rw[if_neg (by omega),if_pos (by omega),hp];rfl
  obtain⟨r,hr,hc,hW⟩:∃r,r<=2139095040/\floatToFloatBits .f64 b .f32=some (single.word (sgb b) r)/\nwW mode b=single.word (sgb b) r:=by
   unfold U9 at hp;rw[Bool.or_eq_true,decide_eq_true_eq,decide_eq_true_eq] at hp;unfold nwW;by_cases hi:mag b=9218868437227405312
   ·refine⟨2139095040,by decide,?_,by rw[if_pos hi]⟩;rw[<- hw,hi,(j6g (sgb b) 9218868437227405312 (by decide)).2.2];exact j8k _
   ·have hz:mag b=0:=(by omega);refine⟨0,by decide,?_,by rw[if_neg hi,if_pos hz]⟩;rw[<- hw,hz,(j6g (sgb b) 0 (by decide)).2.2];exact j3f _
  have ho:=j6f (sgb b) r hr;have h1:nwI mode b=false:=by unfold nwI;rw[hp,Bool.not_true,Bool.false_and]
  have h2:nwO mode b=false:=by unfold nwO;rw[hp,Bool.not_true,Bool.false_and]
  have h3:nwU mode b=false:=by unfold nwU;rw[hp,Bool.not_true,Bool.false_and]
  rw[h1,h2,h3,hW];refine jB2 b (single.word (sgb b) r) _ mode (spMz b) (spE b) (spR b) (spN b) ?_ hmb (fun w=>j33 b hb w) (fun w=>j5z hc w) (fun w=>by
   have:=j51 (single.word (sgb b) r) ho.1 w
   rwa [ho.2.2.2] at this) w
  rcases key with k|k
  ·rw[bne_iff_ne.2 k,Bool.true_or]
  ·rw[k,show ((0:Int)==0)=true from rfl,Bool.or_true]
 ·have hp':U9 b=false:=by simpa using hp
  have hx:mag b≠9218868437227405312/\mag b≠0:=by
   unfold U9 at hp';rw[Bool.or_eq_false_iff,decide_eq_false_iff_not,decide_eq_false_iff_not] at hp';exact hp'
  have h1:nwI mode b=(nrO mode (sgb b) (spM b) (spE b)||nrI (spM b) (spE b)):=by unfold nwI;rw[hp',Bool.not_false,Bool.true_and]
  have h2:nwO mode b=nrO mode (sgb b) (spM b) (spE b):=by unfold nwO;rw[hp',Bool.not_false,Bool.true_and]
  have h3:nwU mode b=(!nrO mode (sgb b) (spM b) (spE b)&&nrU (spM b) (spE b)):=by unfold nwU;rw[hp',Bool.not_false,Bool.true_and]
  have h4:nwW mode b=Rn.word32 mode (sgb b) (spM b) (spE b):=by unfold nwW;rw[if_neg hx.1,if_neg hx.2]
  rw[h1,h2,h3,h4];exact jAy b hb mode hm (by omega) hx.2 w hT
theorem jAv (b:Nat)(hb:b<18446744073709551616)(h:isN b=true):∃s f,FloatKind.f64.decode b=.nan s f:=by
 have:=j06 h;have hl:=jAi b;have e:=Fl.read_word (sgb b) (mag b) hl;rw[j6j b hb,if_neg (by omega),if_neg (by omega),if_neg (by omega)] at e;exact⟨_,_,e⟩
theorem j3w (t:Nat):j2K (t%2*2^31+2139095040+1+t/2%(2^23-1))=true/\t%2*2^31+2139095040+1+t/2%(2^23-1)<4294967296:=by
 have h1:t/2%(2^23-1)<8388607:=Nat.mod_lt _ (by decide);unfold j2K U8;generalize t/2%(2^23-1)=u at *;rcases Nat.mod_two_eq_zero_or_one t with h|h <;> rw[h]
 ·exact⟨decide_eq_true (by omega),by omega⟩
 ·exact⟨decide_eq_true (by omega),by omega⟩
theorem jDS (b:Nat)(hb:b<18446744073709551616)(h:isN b=true)(w:World):∃r,j2K r=true/\r<4294967296/\(convert 50 101 (.float .f64 b)).run Tryz.prog w=.ok (.float .f32 r) w.drew:=by
 obtain⟨s,f,hd⟩:=jAv b hb h;refine⟨Question.cut (.nanConv .f32 b) (w.tape w.drawn (.nanConv .f32 b)),?_,?_,?_⟩
 ·exact(j3w _).1
 ·exact(j3w _).2
 ·simp[convert,run_underlying Tryz.underlying50,run_underlying Tryz.underlying101,Conv.floatToFloat,hd,choose,Sem.run,Question.forced]
theorem jB0 (x y:Nat)(mode r M E:Int)(neg:Bool)(hr:(r != 0)=true)
 (H0:Hid (∀w,Calls Tryz.prog 89 #[.int .i64 mode] w fun e w'=>e=.returned (.bool true)/\w'=w))
 (H1:Hid (∀w,Calls Tryz.prog 90 #[.float .f64 x] w fun e w'=>e=.returned (.tuple #[.bool neg,.int .u64 M,.int .i64 E,.int .i64 r])/\w'=w)) (w:World)
 (C:(convert 50 101 (.float .f64 x)).run Tryz.prog (w.alloc (.cells #[.bool false,.bool false,.bool false] 103))=.ok (.float .f32 y) (w.alloc (.cells #[.bool false,.bool false,.bool false] 103)).drew)
 (H2:Hid (∀w,Calls Tryz.prog 91 #[.float .f32 y] w fun e w'=>e=.returned (.float .f32 2143289344)/\w'=w)) :
 Calls Tryz.prog 44 #[.float .f64 x,.int .i64 mode] w fun e w'=>e=.returned (.tuple #[.float .f32 2143289344,.agg #[.bool false,.bool false,.bool false],.int .i64 0])/\Gr w w':=by
 go_enter Tryz.func44,Tryz.ntmps44;go_wp2_with (first|(go_at_call 89;refine(H0.out _).mono ?_;rintro e w' ⟨rfl,rfl⟩)|(go_at_call 90;refine(H1.out _).mono ?_;rintro e w' ⟨rfl,rfl⟩)|(go_at_call 91;refine(H2.out _).mono ?_;rintro e w' ⟨rfl,rfl⟩));refine bodyPost_ret (v:=.tuple #[.float .f32 2143289344,.agg #[.bool false,.bool false,.bool false],.int .i64 0]) (by simp[results,Tryz.results44,go_sem]) rfl ?_;exact⟨rfl,by (repeat (first|exact Gr.refl _|refine Gr.setCell ?_ _ _ (Nat.le_refl _)|refine Gr.alloc ?_ _ _|refine Gr.drewN ?_ _|refine Gr.drew ?_))⟩
theorem jAz (b:Nat)(hb:Hid (b<18446744073709551616))(mode:Int)(hm:Y4 mode=true)(h:isN b=true)(w:World):
 Calls Tryz.prog 44 #[.float .f64 b,.int .i64 mode] w fun e w'=>e=.returned (.tuple #[.float .f32 2143289344,.agg #[.bool false,.bool false,.bool false],.int .i64 0])/\Gr w w':=by
 obtain⟨r,r1,r2,C⟩:=jDS b hb h (w.alloc (.cells #[.bool false,.bool false,.bool false] 103));have hR:spR b=10:=by unfold spR;rw[if_pos (by have:=j06 h;omega)]
 refine jB0 b r mode (spR b) (spMz b) (spE b) (spN b) (by rw[hR];rfl) (fun w=>by have:=j2Z mode w;rwa [hm] at this) (fun w=>j33 b hb w) w C (fun w=>?_);have:=j51 r r2 w;unfold Y5 at this
 rwa [if_pos (of_decide_eq_true r1)] at this
end
end Go.Proofs.YtnceajanlnnfoaaGreatDoor
