/-The plain functions of layer 1 over the bits of a binary64, and small . -/
import Derived.Laws.BitsAllLaws
import Derived.Laws.Bits64
import Derived.Below
namespace Go.Proofs.YtecjfnkakodebaaGreatDoor
open Go.RowKit
def mag (b:Nat):Nat:=b%9223372036854775808
def sgb (b:Nat):Bool:=decide (9223372036854775808<=b)
def cls (b:Nat):Int:=
 if 9218868437227405312<mag b then 1 else if mag b=9218868437227405312 then 2 else if mag b=0 then 3 else if mag b<4503599627370496 then 4 else 5
def isN (b:Nat):Bool:=decide (9218868437227405312<mag b)
def one (b:Nat):Nat:=if 9218868437227405312<mag b then 9221120237041090560 else b
def ngt (b:Nat):Bool:=!isN b&&sgb b
def magZ (b:Nat):Int:=(mag b:Int)
theorem magZ_bd (b:Nat):0<=magZ b/\magZ b<9223372036854775808:=by
 have:mag b<9223372036854775808:=Nat.mod_lt _ (by decide)
 unfold magZ;omega
theorem mag_of (b:Nat) (h:b<18446744073709551616):b=mag b+(if sgb b then 9223372036854775808 else 0):=by
 unfold mag sgb
 by_cases c:9223372036854775808<=b
 ·simp only[c,decide_true,if_true];omega
 ·simp only[c,decide_false,Bool.false_eq_true,if_false];omega
theorem and_mask63 (b:Nat):b &&& 9223372036854775807=b%9223372036854775808:=Nat.and_two_pow_sub_one_eq_mod b 63
theorem andNot63 (b:Nat) (h:b<18446744073709551616):bits .andNot .u64 (b:Int) 9223372036854775808=(mag b:Int):=by
 have:=u64_andNot_nat b 9223372036854775808 h (by decide)
 rw[show ((9223372036854775808:Nat):Int)=9223372036854775808 from rfl] at this
 rw[this,show 18446744073709551615-9223372036854775808=9223372036854775807 from rfl,and_mask63]
 rfl
theorem andNot63Z (b:Nat) (h:b<18446744073709551616):bits .andNot .u64 (b:Int) 9223372036854775808=magZ b:=andNot63 b h
theorem and63 (b:Nat) (h:b<18446744073709551616):bits .and .u64 (b:Int) 9223372036854775808=if sgb b then 9223372036854775808 else 0:=by
 have:=u64_and_nat b 9223372036854775808 h (by decide)
 rw[show ((9223372036854775808:Nat):Int)=9223372036854775808 from rfl] at this
 rw[this,nat_bit 63 b]
 unfold sgb
 by_cases c:9223372036854775808<=b
 ·simp only[c,decide_true,if_true];omega
 ·simp only[c,decide_false,Bool.false_eq_true,if_false];omega
theorem and63_ne (b:Nat) (h:b<18446744073709551616):(bits .and .u64 (b:Int) 9223372036854775808 != 0)=sgb b:=by
 rw[and63 b h];cases sgb b <;> rfl
theorem ret_int {k:IntKind} {a b:Int} (h:a=b):Ending.returned (.int k a)=.returned (.int k b):=by rw[h]
theorem ret_bool {a b:Bool} (h:a=b):Ending.returned (.bool a)=.returned (.bool b):=by rw[h]
theorem ret_f64 {a b:Nat} (h:a=b):Ending.returned (.float .f64 a)=.returned (.float .f64 b):=by rw[h]
theorem cls_a (b:Nat) (z:Int) (hz:Hid (magZ b=z)) (h:9218868437227405312<z):1=cls b:=by have:=hz.out;unfold magZ at this;unfold cls;rw[if_pos (by omega)]
theorem cls_b (b:Nat) (z:Int) (hz:Hid (magZ b=z)) (h2:(z==9218868437227405312)=true):2=cls b:=by
 have h2':=eq_of_beq h2
 have:=hz.out;unfold magZ at this;unfold cls;rw[if_neg (by omega),if_pos (by omega)]
theorem cls_c (b:Nat) (z:Int) (hz:Hid (magZ b=z)) (h2:(z==0)=true):3=cls b:=by
 have h2':=eq_of_beq h2
 have:=hz.out;unfold magZ at this;unfold cls;rw[if_neg (by omega),if_neg (by omega),if_pos (by omega)]
theorem cls_d (b:Nat) (z:Int) (hz:Hid (magZ b=z)) (h2:(z==0)=false) (h:z<4503599627370496):4=cls b:=by
 have h2':z≠0:=by simpa using h2
 have:=hz.out;unfold magZ at this;unfold cls;rw[if_neg (by omega),if_neg (by omega),if_neg (by omega),if_pos (by omega)]
theorem cls_e (b:Nat) (z:Int) (hz:Hid (magZ b=z)) (h1:z<=9218868437227405312) (h2:(z==9218868437227405312)=false) (h:4503599627370496<=z):5=cls b:=by
 have h2':z≠9218868437227405312:=by simpa using h2
 have:=hz.out;unfold magZ at this;unfold cls;rw[if_neg (by omega),if_neg (by omega),if_neg (by omega),if_neg (by omega)]
theorem cls1 (b:Nat):(cls b==1)=isN b:=by
 unfold cls isN;split
 ·simp_all
 ·split <;> (try split) <;> (try split) <;> simp_all
theorem isN_of {b:Nat} (h:isN b=true):9218868437227405312<mag b:=of_decide_eq_true h
theorem isN_not {b:Nat} (h:isN b=false):¬9218868437227405312<mag b:=of_decide_eq_false h
theorem ngt_y (b:Nat) (h:isN b=true):false=ngt b:=by unfold ngt;rw[h];rfl
theorem ngt_n (b:Nat) (h:isN b=false):sgb b=ngt b:=by unfold ngt;rw[h];rfl
theorem cls_isN {b:Nat} {c:Int} (hc:Hid (cls b=c)):isN b=(c==1):=by rw[<- cls1,hc.out]
theorem one_y (b:Nat) (z:Int) (hz:Hid (cls b=z)) (h:(z==1)=true):9221120237041090560=one b:=by
 have e:=cls1 b;rw[hz.out,h] at e
 have:9218868437227405312<mag b:=of_decide_eq_true e.symm
 unfold one;rw[if_pos this]
theorem one_n (b:Nat) (z:Int) (hz:Hid (cls b=z)) (h:(z==1)=false):b=one b:=by
 have e:=cls1 b;rw[hz.out,h] at e
 have:¬9218868437227405312<mag b:=of_decide_eq_false e.symm
 unfold one;rw[if_neg this]
end Go.Proofs.YtecjfnkakodebaaGreatDoor
