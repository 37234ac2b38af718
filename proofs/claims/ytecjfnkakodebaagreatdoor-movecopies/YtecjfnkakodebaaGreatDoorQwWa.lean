/-The contracts of layer 1's functions that only look at the bits. -/
import Derived.Test.YtecjfnkakodebaaGreatDoorRows
import Derived.Test.YtecjfnkakodebaaGreatDoorQwSp
import Derived.WalkKit
import Derived.WalkSpells
import Derived.WalkLawsBesides
set_option maxHeartbeats 400000
namespace Go.Proofs.YtecjfnkakodebaaGreatDoor
open Go.RowKit
@[go_sem] theorem run_f64bits (b:Nat) (w:World):(callFunc 122 #[.float .f64 b]).run Tryz.prog w=.ok (.value (.int .u64 (b:Int))) w:=
 run_callFunc_extern (e:=Extern.MathFloatBits.float64bits) Tryz.func122 (by kernel_rfl) (by kernel_rfl) (by kernel_rfl) (by kernel_rfl) _ w
@[go_sem] theorem run_f64frombits (n:Int) (w:World):(callFunc 130 #[.int .u64 n]).run Tryz.prog w=.ok (.value (.float .f64 n.toNat)) w:=
 run_callFunc_extern (e:=Extern.MathFloatBits.float64frombits) Tryz.func130 (by kernel_rfl) (by kernel_rfl) (by kernel_rfl) (by kernel_rfl) _ w
theorem magnitude_any (b:Nat) (hb:Hid (b<18446744073709551616)) (w:World) :
  Calls Tryz.prog 161 #[.float .f64 b] w fun e w'=>e=.returned (.int .u64 (magZ b))/\w'=w:=by
 go_enter Tryz.func161,Tryz.ntmps161
 go_wp2
 go_ret
 exact⟨ret_int (andNot63Z b hb.out),rfl⟩
theorem class_any (b:Nat) (hb:Hid (b<18446744073709551616)) (w:World) :
  Calls Tryz.prog 145 #[.float .f64 b] w fun e w'=>e=.returned (.int .i64 (cls b))/\w'=w:=by
 go_enter Tryz.func145,Tryz.ntmps145
 go_wp2_with (go_at_call 161;refine(magnitude_any _ hb _).mono ?_;rintro e w' ⟨rfl,rfl⟩;generalize hz0:magZ b=z;have hz:Hid (magZ b=z):=hz0;clear hz0)
 all_goals go_ret
 all_goals refine⟨ret_int ?_,rfl⟩
 ·exact cls_a b _ hz ‹_›
 ·exact cls_b b _ hz ‹_›
 ·exact cls_c b _ hz ‹_›
 ·exact cls_d b _ hz ‹_› ‹_›
 ·exact cls_e b _ hz ‹_› ‹_› ‹_›
theorem nan_any (w:World) :
  Calls Tryz.prog 146 #[] w fun e w'=>e=.returned (.float .f64 9221120237041090560)/\w'=w:=by
 go_enter Tryz.func146,Tryz.ntmps146
 go_wp2
 go_ret
 exact⟨rfl,rfl⟩
theorem one_any (b:Nat) (hb:Hid (b<18446744073709551616)) (w:World) :
  Calls Tryz.prog 108 #[.float .f64 b] w fun e w'=>e=.returned (.float .f64 (one b))/\w'=w:=by
 go_enter Tryz.func108,Tryz.ntmps108
 go_wp2_with (first|(go_at_call 145;refine(class_any _ hb _).mono ?_;rintro e w' ⟨rfl,rfl⟩;generalize hz0:cls b=z;have hz:Hid (cls b=z):=hz0;clear hz0)|(go_at_call 146;refine(nan_any _).mono ?_;rintro e w' ⟨rfl,rfl⟩))
 all_goals go_ret
 all_goals refine⟨ret_f64 ?_,rfl⟩
 ·exact one_y b _ hz ‹_›
 ·exact one_n b _ hz ‹_›
theorem negative_any (b:Nat) (hb:Hid (b<18446744073709551616)) (w:World) :
  Calls Tryz.prog 175 #[.float .f64 b] w fun e w'=>e=.returned (.bool (ngt b))/\w'=w:=by
 go_enter Tryz.func175,Tryz.ntmps175
 go_wp2_with (go_at_call 145;refine(class_any _ hb _).mono ?_;rintro e w' ⟨rfl,rfl⟩;generalize hz0:cls b=z;have hz:Hid (cls b=z):=hz0;clear hz0)
 all_goals go_ret
 all_goals refine⟨ret_bool ?_,rfl⟩
 ·exact ngt_y b (by rw[cls_isN hz];simp[*])
 ·rw[and63_ne b hb.out,<- ngt_n b (by rw[cls_isN hz];simp[*])];simp[*]
def plc (b:Nat):Int:=if isN b then 9221120237041090560 else if sgb b then -1-magZ b else magZ b
def ord (p q:Int):Int:=if p<q then -1 else if q<p then 1 else 0
def wordAt (p:Int):Nat:=if p<0 then 9223372036854775808+(-1-p).toNat else p.toNat
theorem one_lt (b:Nat) (hb:b<18446744073709551616):one b<18446744073709551616:=by unfold one;split <;> omega
theorem plc_n (b:Nat) (h:ngt b=true):-1-magZ (one b)=plc b:=by
 unfold ngt at h
 simp only[Bool.and_eq_true,Bool.not_eq_true'] at h
 unfold plc one
 rw[h.1,h.2,if_neg (isN_not h.1)];rfl
theorem plc_p (b:Nat) (h:ngt b=false):magZ (one b)=plc b:=by
 unfold ngt at h
 unfold plc one
 by_cases hn:isN b=true
 ·rw[if_pos hn,if_pos (isN_of hn)];decide
 ·have hn':isN b=false:=by simpa using hn
  rw[hn'] at h
  have hs:sgb b=false:=by simpa using h
  rw[hn',hs,if_neg (isN_not hn')];rfl
theorem place_any (b:Nat) (hb:Hid (b<18446744073709551616)) (w:World) :
  Calls Tryz.prog 158 #[.float .f64 b] w fun e w'=>e=.returned (.int .i64 (plc b))/\w'=w:=by
 have ho:Hid (one b<18446744073709551616):=one_lt b hb.out
 go_enter Tryz.func158,Tryz.ntmps158
 go_wp2_with (first|(go_at_call 108;refine(one_any _ hb _).mono ?_;rintro e w' ⟨rfl,rfl⟩)|(go_at_call 161;refine(magnitude_any _ ho _).mono ?_;rintro e w' ⟨rfl,rfl⟩;have hb0:=(magZ_bd (one b)).1;have hb1:=Int.le_sub_one_of_lt (magZ_bd (one b)).2;generalize hz0:magZ (one b)=z at *;have hz:Hid (magZ (one b)=z):=hz0;clear hz0)|(go_at_call 175;refine(negative_any _ hb _).mono ?_;rintro e w' ⟨rfl,rfl⟩))
 all_goals go_ret
 all_goals refine⟨ret_int ?_,rfl⟩
 ·rw[<- plc_n b ‹_›,hz.out]
 ·rw[<- plc_p b ‹_›,hz.out]
theorem order_any (a b:Nat) (ha:Hid (a<18446744073709551616)) (hb:Hid (b<18446744073709551616)) (w:World) :
  Calls Tryz.prog 137 #[.float .f64 a,.float .f64 b] w fun e w'=>e=.returned (.int .i64 (ord (plc a) (plc b)))/\w'=w:=by
 have H1:Hid (∀w,Calls Tryz.prog 158 #[.float .f64 a] w fun e w'=>e=.returned (.int .i64 (plc a))/\w'=w):=place_any a ha
 have H2:Hid (∀w,Calls Tryz.prog 158 #[.float .f64 b] w fun e w'=>e=.returned (.int .i64 (plc b))/\w'=w):=place_any b hb
 generalize plc a=p at *
 generalize plc b=q at *
 clear ha hb
 go_enter Tryz.func137,Tryz.ntmps137
 go_wp2_with fail
 refine(H1.out _).mono ?_
 rintro e w' ⟨rfl,rfl⟩
 go_wp2_with fail
 refine(H2.out _).mono ?_
 rintro e w' ⟨rfl,rfl⟩
 go_wp2
 all_goals go_ret
 all_goals refine⟨ret_int ?_,rfl⟩
 ·unfold ord;rw[if_pos ‹_›]
 ·unfold ord;rw[if_neg (by omega),if_pos ‹_›]
 ·unfold ord;rw[if_neg (by omega),if_neg (by omega)]
theorem same_any (a b:Nat) (ha:Hid (a<18446744073709551616)) (hb:Hid (b<18446744073709551616)) (w:World) :
  Calls Tryz.prog 140 #[.float .f64 a,.float .f64 b] w fun e w'=>e=.returned (.bool (ord (plc a) (plc b)==0))/\w'=w:=by
 have H1:Hid (∀w,Calls Tryz.prog 137 #[.float .f64 a,.float .f64 b] w fun e w'=>e=.returned (.int .i64 (ord (plc a) (plc b)))/\w'=w):=order_any a b ha hb
 generalize ord (plc a) (plc b)=p at *
 go_enter Tryz.func140,Tryz.ntmps140
 go_wp2_with (go_at_call 137;refine(H1.out _).mono ?_;rintro e w' ⟨rfl,rfl⟩)
 go_ret
 exact⟨rfl,rfl⟩
theorem wordAt_plc (x:Nat) (hx:x<18446744073709551616) (n:isN x=false):wordAt (plc x)=x:=by
 have hm:=mag_of x hx
 unfold plc magZ wordAt
 rw[n]
 cases hs:sgb x
 ·rw[hs] at hm
  simp only[Bool.false_eq_true,if_false] at hm ⊢
  rw[if_neg (by omega)];omega
 ·rw[hs] at hm
  simp only[Bool.false_eq_true,if_false,if_true] at hm ⊢
  rw[if_pos (by omega)];omega
theorem one_nan (a:Nat):isN (one a)=isN a:=by
 unfold one
 by_cases h:9218868437227405312<mag a
 ·rw[if_pos h]
  have:isN a=true:=decide_eq_true h
  rw[this];decide +kernel
 ·rw[if_neg h]
theorem one_of_nan {a:Nat} (h:isN (one a)=true):one a=9221120237041090560:=by
 rw[one_nan] at h
 unfold one;rw[if_pos (isN_of h)]
theorem one_self (a:Nat):one (one a)=one a:=by
 by_cases h:isN (one a)=true
 ·rw[one_of_nan h];decide +kernel
 ·have h':isN (one a)=false:=by simpa using h
  have:=isN_not h'
  show (if 9218868437227405312<mag (one a) then _ else one a)=one a
  rw[if_neg this]
theorem plc_inj {a b:Nat} (ha:one a<18446744073709551616) (hb:one b<18446744073709551616) (h:plc (one a)=plc (one b)):one a=one b:=by
 have pn:∀x,isN x=true->plc x=9221120237041090560:=fun x n=>by unfold plc;rw[n];rfl
 have pt:∀x,isN x=false->plc x<=9218868437227405312:=fun x n=>by
  have h1:=isN_not n
  have h3:=magZ_bd x
  have h2:magZ x<=9218868437227405312:=by unfold magZ;omega
  unfold plc;rw[n]
  cases sgb x
  ·exact h2
  ·show -1-magZ x<=_;omega
 cases na:isN (one a) <;> cases nb:isN (one b)
 ·rw[<- wordAt_plc _ ha na,<- wordAt_plc _ hb nb,h]
 ·have:=pt _ na;have:=pn _ nb;omega
 ·have:=pt _ nb;have:=pn _ na;omega
 ·rw[one_of_nan na,one_of_nan nb]
theorem plc_one (a:Nat):plc (one a)=plc a:=by
 by_cases h:isN a=true
 ·have h1:one a=9221120237041090560:=by unfold one;rw[if_pos (isN_of h)]
  rw[h1];unfold plc;rw[h,if_pos (rfl:true=true)];decide +kernel
 ·have h':isN a=false:=by simpa using h
  have:one a=a:=by unfold one;rw[if_neg (isN_not h')]
  rw[this]
def fsame (a b:Nat):Bool:=decide (one a=one b)
theorem fsame_ord (a b:Nat) (ha:a<18446744073709551616) (hb:b<18446744073709551616):(ord (plc a) (plc b)==0)=fsame a b:=by
 unfold fsame ord
 by_cases h:one a=one b
 ·have:plc a=plc b:=by rw[<- plc_one a,<- plc_one b,h]
  rw[this,if_neg (by omega),if_neg (by omega),decide_eq_true h];rfl
 ·have hne:plc a≠plc b:=fun e=>h (plc_inj (one_lt a ha) (one_lt b hb) (by rw[plc_one,plc_one,e]))
  rw[decide_eq_false h]
  split
  ·rfl
  ·rw[if_pos (by omega)];rfl
theorem fsame_any (a b:Nat) (ha:a<18446744073709551616) (hb:b<18446744073709551616) (w:World) :
  Calls Tryz.prog 140 #[.float .f64 a,.float .f64 b] w fun e w'=>e=.returned (.bool (fsame a b))/\w'=w:=by
 rw[<- fsame_ord a b ha hb];exact same_any a b ha hb w
end Go.Proofs.YtecjfnkakodebaaGreatDoor
