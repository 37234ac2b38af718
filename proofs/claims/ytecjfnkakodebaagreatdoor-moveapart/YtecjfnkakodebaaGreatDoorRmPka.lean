/-Packed, plain: numbers of k bytes; the sum of bytes. -/
import Derived.Laws.BitsAllLaws
import Derived.Laws.Bits64
import Derived.Test.YtecjfnkakodebaaGreatDoorRmAx
import Derived.Maps.OwnSet
import Derived.ArgAppend
import Derived.Shelf.Strings.BuilderK
import Derived.Lib.FrozenHead
import Derived.Deep.AppendSrc
import Derived.Deep.Upon
import Derived.Test.YtecjfnkakodebaaGreatDoorRmIe
import Derived.Sort.Grow
import Derived.Sort.Statements
open Go.Proofs.Tryz
open Go.Value renaming int->O,bool->E,slice->U,agg->T,pointer->an,float->ap,string->aq,tuple->au
open Go.IntKind renaming i64->I
open Bool renaming false->R,true->J
open Option renaming some->H,none->G
open Go.Ending renaming returned->Q
open Go.FloatKind renaming f64->ao
set_option maxHeartbeats 4000000
set_option maxRecDepth 20000
namespace Go.Proofs.YtecjfnkakodebaaGreatDoor
section
def le:Nat->Nat->List UInt8
 | 0,_=>[]
 | k+1,n=>UInt8.ofNat n::le k (n/256)
end
section
open Go.RowKit
def mag (b:Nat):Nat:=b%9223372036854775808
def sgb (b:Nat):Bool:=decide (9223372036854775808<=b)
def cls (b:Nat):Int:=
 if 9218868437227405312<mag b then 1 else if mag b=9218868437227405312 then 2 else if mag b=0 then 3 else if mag b<4503599627370496 then 4 else 5
def isN (b:Nat):Bool:=decide (9218868437227405312<mag b)
def one (b:Nat):Nat:=if 9218868437227405312<mag b then 9221120237041090560 else b
def ngt (b:Nat):Bool:=!isN b&&sgb b
def magZ (b:Nat):Int:=(mag b:Int)
theorem j3U (b:Nat):0<=magZ b/\magZ b<9223372036854775808:=by
 have:mag b<9223372036854775808:=Nat.mod_lt _ (by decide);unfold magZ;omega
theorem j5q (b:Nat)(h:b<18446744073709551616):b=mag b+(if sgb b then 9223372036854775808 else 0):=by
 unfold mag sgb;by_cases c:9223372036854775808<=b
 ·simp only[c,decide_true,if_true];omega
 ·simp only[c,decide_false,Bool.false_eq_true,if_false];omega
theorem j8q (b:Nat):b &&& 9223372036854775807=b%9223372036854775808:=Nat.and_two_pow_sub_one_eq_mod b 63
theorem j7n (b:Nat)(h:b<18446744073709551616):bits .andNot .u64 (b:Int) 9223372036854775808=(mag b:Int):=by
 have:=u64_andNot_nat b 9223372036854775808 h (by decide);rw[show ((9223372036854775808:Nat):Int)=9223372036854775808 from rfl] at this;rw[this,show 18446744073709551615-9223372036854775808=9223372036854775807 from rfl,j8q]
 rfl
theorem j4J (b:Nat)(h:b<18446744073709551616):bits .andNot .u64 (b:Int) 9223372036854775808=magZ b:=j7n b h
theorem j4I (a:Int)(h0:0<=a)(h:a<18446744073709551616):bits .andNot .u64 a 9223372036854775808=magZ a.toNat:=by
 have:=j4J a.toNat (by omega)
 rwa [Int.toNat_of_nonneg h0] at this
theorem j7l (b:Nat)(h:b<18446744073709551616):bits .and .u64 (b:Int) 9223372036854775808=if sgb b then 9223372036854775808 else 0:=by
 have:=u64_and_nat b 9223372036854775808 h (by decide);rw[show ((9223372036854775808:Nat):Int)=9223372036854775808 from rfl] at this;rw[this,nat_bit 63 b];unfold sgb;by_cases c:9223372036854775808<=b
 ·simp only[c,decide_true,if_true];omega
 ·simp only[c,decide_false,Bool.false_eq_true,if_false];omega
theorem j7m (b:Nat)(h:b<18446744073709551616):(bits .and .u64 (b:Int) 9223372036854775808 != 0)=sgb b:=by
 rw[j7l b h];cases sgb b <;> rfl
theorem j1U {k:IntKind}{a b:Int}(h:a=b):Q (.int k a)=Q (.int k b):=by rw[h]
theorem j3j {a b:Bool}(h:a=b):Q (E a)=Q (E b):=by rw[h]
theorem jDA {a b:Nat}(h:a=b):Q (ap ao a)=Q (ap ao b):=by rw[h]
theorem j9G (b:Nat)(z:Int)(hz:Hid (magZ b=z))(h:9218868437227405312<z):1=cls b:=by have:=hz.o;unfold magZ at this;unfold cls;rw[if_pos (by omega)]
theorem j9H (b:Nat)(z:Int)(hz:Hid (magZ b=z))(h2:(z==9218868437227405312)=J):2=cls b:=by
 have h2':=eq_of_beq h2;have:=hz.o;unfold magZ at this;unfold cls;rw[if_neg (by omega),if_pos (by omega)]
theorem j9I (b:Nat)(z:Int)(hz:Hid (magZ b=z))(h2:(z==0)=J):3=cls b:=by
 have h2':=eq_of_beq h2;have:=hz.o;unfold magZ at this;unfold cls;rw[if_neg (by omega),if_neg (by omega),if_pos (by omega)]
theorem j9J (b:Nat)(z:Int)(hz:Hid (magZ b=z))(h2:(z==0)=R)(h:z<4503599627370496):4=cls b:=by
 have h2':z≠0:=by simpa using h2
 have:=hz.o;unfold magZ at this;unfold cls;rw[if_neg (by omega),if_neg (by omega),if_neg (by omega),if_pos (by omega)]
theorem j9K (b:Nat)(z:Int)(hz:Hid (magZ b=z))(h1:z<=9218868437227405312)(h2:(z==9218868437227405312)=R)(h:4503599627370496<=z):5=cls b:=by
 have h2':z≠9218868437227405312:=by simpa using h2
 have:=hz.o;unfold magZ at this;unfold cls;rw[if_neg (by omega),if_neg (by omega),if_neg (by omega),if_neg (by omega)]
theorem cls1 (b:Nat):(cls b==1)=isN b:=by
 unfold cls isN;split
 ·simp_all
 ·split <;> (try split) <;> (try split) <;> simp_all
theorem j1w {b:Nat}(h:isN b=J):9218868437227405312<mag b:=of_decide_eq_true h
theorem j0j {b:Nat}(h:isN b=R):¬9218868437227405312<mag b:=of_decide_eq_false h
theorem jDU (a:Int)(h:isN a.toNat=J):9221120237041090560=(one a.toNat:Int):=by
 unfold one;rw[if_pos (j1w h)];rfl
theorem jDS (a:Int)(h0:0<=a)(h:isN a.toNat=R):a=(one a.toNat:Int):=by
 unfold one;rw[if_neg (j0j h)];omega
theorem jBa (b:Nat)(h:isN b=J):R=ngt b:=by unfold ngt;rw[h];rfl
theorem jBZ (b:Nat)(h:isN b=R):sgb b=ngt b:=by unfold ngt;rw[h];rfl
theorem j4f {b:Nat}{c:Int}(hc:Hid (cls b=c)):isN b=(c==1):=by rw[<- cls1,hc.o]
theorem jC4 (b:Nat)(z:Int)(hz:Hid (cls b=z))(h:(z==1)=J):9221120237041090560=one b:=by
 have e:=cls1 b;rw[hz.o,h] at e;have:9218868437227405312<mag b:=of_decide_eq_true e.symm;unfold one;rw[if_pos this]
theorem jC2 (b:Nat)(z:Int)(hz:Hid (cls b=z))(h:(z==1)=R):b=one b:=by
 have e:=cls1 b;rw[hz.o,h] at e;have:¬9218868437227405312<mag b:=of_decide_eq_false e.symm;unfold one;rw[if_neg this]
@[go_sem] theorem jF8 (b:Nat) (w:World):(callFunc 122 #[ap ao b]).run prog w=.ok (.value (.int .u64 (b:Int))) w:=
 run_callFunc_extern (e:=Extern.MathFloatBits.float64bits) func122 (by kernel_rfl) (by kernel_rfl) (by kernel_rfl) (by kernel_rfl) _ w
@[go_sem] theorem jF9 (n:Int) (w:World):(callFunc 130 #[.int .u64 n]).run prog w=.ok (.value (ap ao n.toNat)) w:=
 run_callFunc_extern (e:=Extern.MathFloatBits.float64frombits) func130 (by kernel_rfl) (by kernel_rfl) (by kernel_rfl) (by kernel_rfl) _ w
theorem j5r (b:Nat)(hb:Hid (b<18446744073709551616))(w:World):
 Calls prog 161 #[ap ao b] w fun e w'=>e=Q (.int .u64 (magZ b))/\w'=w:=by
 go_enter func161,ntmps161;go_wp2;go_ret;exact⟨j1U (j4J b hb.o),rfl⟩
theorem j2w (b:Nat)(hb:Hid (b<18446744073709551616))(w:World):
 Calls prog 145 #[ap ao b] w fun e w'=>e=Q (O I (cls b))/\w'=w:=by
 go_enter func145,ntmps145;go_wp2_with (go_at_call 161;refine(j5r _ hb _).mono ?_;rintro e w' ⟨rfl,rfl⟩;generalize hz0:magZ b=z;have hz:Hid (magZ b=z):=hz0;clear hz0);all_goals go_ret
 all_goals refine⟨j1U ?_,rfl⟩
 ·exact j9G b _ hz ‹_›
 ·exact j9H b _ hz ‹_›
 ·exact j9I b _ hz ‹_›
 ·exact j9J b _ hz ‹_› ‹_›
 ·exact j9K b _ hz ‹_› ‹_› ‹_›
theorem jAa (a:Int)(h0:Hid (0<=a))(h:Hid (a<18446744073709551616))(w:World):
 Calls prog 151 #[.int .u64 a] w fun e w'=>e=Q (E (isN a.toNat))/\w'=w:=by
 go_enter func151,ntmps151;go_wp2;go_ret;refine⟨j3j ?_,rfl⟩;rw[j4I a h0.o h.o];unfold isN magZ;rw[Bool.eq_iff_iff];simp only[decide_eq_true_eq];omega
theorem j9w (a:Int)(h0:Hid (0<=a))(h:Hid (a<18446744073709551616))(w:World):
 Calls prog 180 #[.int .u64 a] w fun e w'=>e=Q (E (decide (mag a.toNat<9218868437227405312)))/\w'=w:=by
 go_enter func180,ntmps180;go_wp2;go_ret;refine⟨j3j ?_,rfl⟩;rw[j4I a h0.o h.o];unfold magZ;rw[Bool.eq_iff_iff];simp only[decide_eq_true_eq];omega
theorem jBW (w:World):
 Calls prog 146 #[] w fun e w'=>e=Q (ap ao 9221120237041090560)/\w'=w:=by
 go_enter func146,ntmps146;go_wp2;go_ret;exact⟨rfl,rfl⟩
theorem j2B (b:Nat)(hb:Hid (b<18446744073709551616))(w:World):
 Calls prog 108 #[ap ao b] w fun e w'=>e=Q (ap ao (one b))/\w'=w:=by
 go_enter func108,ntmps108;go_wp2_with (first|(go_at_call 145;refine(j2w _ hb _).mono ?_;rintro e w' ⟨rfl,rfl⟩;generalize hz0:cls b=z;have hz:Hid (cls b=z):=hz0;clear hz0)|(go_at_call 146;refine(jBW _).mono ?_;rintro e w' ⟨rfl,rfl⟩));all_goals go_ret
 all_goals refine⟨jDA ?_,rfl⟩
 ·exact jC4 b _ hz ‹_›
 ·exact jC2 b _ hz ‹_›
theorem jDR (a:Int)(h0:Hid (0<=a))(h:Hid (a<18446744073709551616))(w:World):
 Calls prog 131 #[.int .u64 a] w fun e w'=>e=Q (.int .u64 (one a.toNat))/\w'=w:=by
 go_enter func131,ntmps131;go_wp2_with (go_at_call 151;refine(jAa _ h0 h _).mono ?_;rintro e w' ⟨rfl,rfl⟩);all_goals go_ret
 all_goals refine⟨j1U ?_,rfl⟩
 ·exact jDU a ‹_›
 ·exact jDS a h0.o ‹_›
theorem j5z (b:Nat)(hb:Hid (b<18446744073709551616))(w:World):
 Calls prog 175 #[ap ao b] w fun e w'=>e=Q (E (ngt b))/\w'=w:=by
 go_enter func175,ntmps175;go_wp2_with (go_at_call 145;refine(j2w _ hb _).mono ?_;rintro e w' ⟨rfl,rfl⟩;generalize hz0:cls b=z;have hz:Hid (cls b=z):=hz0;clear hz0);all_goals go_ret
 all_goals refine⟨j3j ?_,rfl⟩
 ·exact jBa b (by rw[j4f hz];simp[*])
 ·rw[j7m b hb.o,<- jBZ b (by rw[j4f hz];simp[*])];simp[*]
def plc (b:Nat):Int:=if isN b then 9221120237041090560 else if sgb b then -1-magZ b else magZ b
def ord (p q:Int):Int:=if p<q then -1 else if q<p then 1 else 0
def j7S (p:Int):Nat:=if p<0 then 9223372036854775808+(-1-p).toNat else p.toNat
theorem j1Q (b:Nat)(hb:b<18446744073709551616):one b<18446744073709551616:=by unfold one;split <;> omega
theorem jCd (b:Nat)(h:ngt b=J):-1-magZ (one b)=plc b:=by
 unfold ngt at h;simp only[Bool.and_eq_true,Bool.not_eq_true'] at h;unfold plc one;rw[h.1,h.2,if_neg (j0j h.1)];rfl
theorem jCe (b:Nat)(h:ngt b=R):magZ (one b)=plc b:=by
 unfold ngt at h;unfold plc one;by_cases hn:isN b=J
 ·rw[if_pos hn,if_pos (j1w hn)];decide
 ·have hn':isN b=R:=by simpa using hn
  rw[hn'] at h;have hs:sgb b=R:=by simpa using h
  rw[hn',hs,if_neg (j0j hn')];rfl
theorem j6G (b:Nat)(hb:Hid (b<18446744073709551616))(w:World):
 Calls prog 158 #[ap ao b] w fun e w'=>e=Q (O I (plc b))/\w'=w:=by
 have ho:=h_ (j1Q b hb.o);go_enter func158,ntmps158;go_wp2_with (first|(go_at_call 108;refine(j2B _ hb _).mono ?_;rintro e w' ⟨rfl,rfl⟩)|(go_at_call 161;refine(j5r _ ho _).mono ?_;rintro e w' ⟨rfl,rfl⟩;have hb0:=(j3U (one b)).1;have hb1:=Int.le_sub_one_of_lt (j3U (one b)).2;generalize hz0:magZ (one b)=z at *;have hz:Hid (magZ (one b)=z):=hz0;clear hz0)|(go_at_call 175;refine(j5z _ hb _).mono ?_;rintro e w' ⟨rfl,rfl⟩));all_goals go_ret
 all_goals refine⟨j1U ?_,rfl⟩
 ·rw[<- jCd b ‹_›,hz.o]
 ·rw[<- jCe b ‹_›,hz.o]
theorem jCA (a b:Nat)(ha:Hid (a<18446744073709551616))(hb:Hid (b<18446744073709551616))(w:World):
 Calls prog 137 #[ap ao a,ap ao b] w fun e w'=>e=Q (O I (ord (plc a) (plc b)))/\w'=w:=by
 have H1:=h_ (j6G a ha);have H2:=h_ (j6G b hb);generalize plc a=p at *;generalize plc b=q at *;clear ha hb;go_enter func137,ntmps137;go_wp2_with fail;refine(H1.o _).mono ?_;rintro e w' ⟨rfl,rfl⟩;go_wp2_with fail;refine(H2.o _).mono ?_;rintro e w' ⟨rfl,rfl⟩;go_wp2;all_goals go_ret
 all_goals refine⟨j1U ?_,rfl⟩
 ·unfold ord;rw[if_pos ‹_›]
 ·unfold ord;rw[if_neg (by omega),if_pos ‹_›]
 ·unfold ord;rw[if_neg (by omega),if_neg (by omega)]
theorem jDp (a b:Nat)(ha:Hid (a<18446744073709551616))(hb:Hid (b<18446744073709551616))(w:World):
 Calls prog 140 #[ap ao a,ap ao b] w fun e w'=>e=Q (E (ord (plc a) (plc b)==0))/\w'=w:=by
 have H1:=h_ (jCA a b ha hb);generalize ord (plc a) (plc b)=p at *;go_enter func140,ntmps140;go_wp2_with (go_at_call 137;refine(H1.o _).mono ?_;rintro e w' ⟨rfl,rfl⟩);go_ret;exact⟨rfl,rfl⟩
theorem j7T (x:Nat)(hx:x<18446744073709551616)(n:isN x=R):j7S (plc x)=x:=by
 have hm:=j5q x hx;unfold plc magZ j7S;rw[n];cases hs:sgb x
 ·rw[hs] at hm;simp only[Bool.false_eq_true,if_false] at hm ⊢;rw[if_neg (by omega)];omega
 ·rw[hs] at hm;simp only[Bool.false_eq_true,if_false,if_true] at hm ⊢;rw[if_pos (by omega)];omega
theorem jC3 (a:Nat):isN (one a)=isN a:=by
 unfold one;by_cases h:9218868437227405312<mag a
 ·rw[if_pos h];have:isN a=J:=decide_eq_true h;rw[this];decide +kernel
 ·rw[if_neg h]
theorem j3X {a:Nat}(h:isN (one a)=J):one a=9221120237041090560:=by
 rw[jC3] at h;unfold one;rw[if_pos (j1w h)]
theorem j2C (a:Nat):one (one a)=one a:=by
 by_cases h:isN (one a)=J
 ·rw[j3X h];decide +kernel
 ·have h':isN (one a)=R:=by simpa using h
  have:=j0j h';show (if 9218868437227405312<mag (one a) then _ else one a)=one a;rw[if_neg this]
theorem jCc {a b:Nat}(ha:one a<18446744073709551616)(hb:one b<18446744073709551616)(h:plc (one a)=plc (one b)):one a=one b:=by
 have pn:∀x,isN x=J->plc x=9221120237041090560:=fun x n=>by unfold plc;rw[n];rfl
 have pt:∀x,isN x=R->plc x<=9218868437227405312:=fun x n=>by
  have h1:=j0j n;have h3:=j3U x;have h2:magZ x<=9218868437227405312:=by unfold magZ;omega
  unfold plc;rw[n];cases sgb x
  ·exact h2
  ·show -1-magZ x<=_;omega
 cases na:isN (one a) <;> cases nb:isN (one b)
 ·rw[<- j7T _ ha na,<- j7T _ hb nb,h]
 ·have:=pt _ na;have:=pn _ nb;omega
 ·have:=pt _ nb;have:=pn _ na;omega
 ·rw[j3X na,j3X nb]
theorem j2F (a:Nat):plc (one a)=plc a:=by
 by_cases h:isN a=J
 ·have h1:one a=9221120237041090560:=by unfold one;rw[if_pos (j1w h)]
  rw[h1];unfold plc;rw[h,if_pos (rfl:J=J)];decide +kernel
 ·have h':isN a=R:=by simpa using h
  have:one a=a:=by unfold one;rw[if_neg (j0j h')]
  rw[this]
def L0 (a b:Nat):Bool:=decide (one a=one b)
theorem jA2 (a b:Nat)(ha:a<18446744073709551616)(hb:b<18446744073709551616):(ord (plc a) (plc b)==0)=L0 a b:=by
 unfold L0 ord;by_cases h:one a=one b
 ·have:plc a=plc b:=by rw[<- j2F a,<- j2F b,h]
  rw[this,if_neg (by omega),if_neg (by omega),decide_eq_true h];rfl
 ·have hne:plc a≠plc b:=fun e=>h (jCc (j1Q a ha) (j1Q b hb) (by rw[j2F,j2F,e]))
  rw[decide_eq_false h];split
  ·rfl
  ·rw[if_pos (by omega)];rfl
theorem jA0 (a b:Nat)(ha:a<18446744073709551616)(hb:b<18446744073709551616)(w:World):
 Calls prog 140 #[ap ao a,ap ao b] w fun e w'=>e=Q (E (L0 a b))/\w'=w:=by
 rw[<- jA2 a b ha hb];exact jDp a b ha hb w
end
section
open Go.RowKit Go.Maps
@[go_sem] theorem jFA (P:Program) (w:World) (a:Addr) (m:Mode) (k:FloatKind) (b:Nat):(store a (.float k b) m).run P w=stored P w a (.float k b) m:=run_store P w a _ m rfl
structure Kp (w w':World) (S:Nat->Prop):Prop where
 os:w'.os=w.os
 tape:w'.tape=w.tape
 output:w'.output=w.output
 size:w.heap.size<=w'.heap.size
 block:∀i,i<w.heap.size->¬S i->w'.heap[i]? = w.heap[i]?
def Nul:Nat->Prop:=fun _=>False
namespace Kp
theorem refl (w:World)(S:Nat->Prop):Kp w w S:=⟨rfl,rfl,rfl,Nat.le_refl _,fun _ _ _=>rfl⟩
theorem trans {w w1 w2:World}{S:Nat->Prop}(h:Kp w w1 S)(g:Kp w1 w2 S):Kp w w2 S:=
 ⟨g.os.trans h.os,g.tape.trans h.tape,g.output.trans h.output,Nat.le_trans h.size g.size,fun i hi hs=>(g.block i (Nat.lt_of_lt_of_le hi h.size) hs).trans (h.block i hi hs)⟩
theorem trans' {w w1 w2:World}{S ak:Nat->Prop}(h:Kp w w1 S)(g:Kp w1 w2 ak)(hT:∀i,i<w.heap.size->ak i->S i):Kp w w2 S:=
 ⟨g.os.trans h.os,g.tape.trans h.tape,g.output.trans h.output,Nat.le_trans h.size g.size,fun i hi hs=>(g.block i (Nat.lt_of_lt_of_le hi h.size) (fun t=>hs (hT i hi t))).trans (h.block i hi hs)⟩
theorem mono {w w':World}{S ak:Nat->Prop}(h:Kp w w' S)(hT:∀i,i<w.heap.size->S i->ak i):Kp w w' ak:=
 ⟨h.os,h.tape,h.output,h.size,fun i hi hs=>h.block i hi (fun s=>hs (hT i hi s))⟩
theorem of_nul {w w':World}{S:Nat->Prop}(h:Kp w w' Nul):Kp w w' S:=h.mono fun _ _ s=>s.elim
theorem of_gr {w w':World}{S:Nat->Prop}(h:Gr w w'):Kp w w' S:=⟨h.ext.os,h.ext.tape,h.ext.output,h.ext.size,fun i hi _=>h.ext.block i hi⟩
theorem of_below {w w':World}{S:Nat->Prop}(h:Below w.heap.size w w'):Kp w w' S:=⟨h.os,h.tape,h.output,h.size,fun i hi _=>h.block i hi⟩
theorem below {w w':World}(h:Kp w w' Nul):Below w.heap.size w w':=⟨h.os,h.tape,h.output,h.size,fun i hi=>h.block i hi (fun s=>s)⟩
theorem of_grown {w w':World}{S:Nat->Prop}{row:Option Nat}(h:w.grownBy w' row)(hr:∀i,row=H i->S i):Kp w w' S:=
 ⟨h.os,h.tape,h.output,h.size,fun i hi hs=>h.block i hi (fun e=>hs (hr i e.symm))⟩
theorem drew {w w1:World}{S:Nat->Prop}(h:Kp w w1 S):Kp w w1.drew S:=⟨h.os,h.tape,h.output,h.size,h.block⟩
theorem drewN {w w1:World}{S:Nat->Prop}(h:Kp w w1 S)(n:Nat):Kp w (w1.drewN n) S:=⟨h.os,h.tape,h.output,h.size,h.block⟩
theorem alloc {w w1:World}{S:Nat->Prop}(h:Kp w w1 S)(o:Obj):Kp w (w1.alloc o) S:=by
 refine⟨h.os,h.tape,h.output,?_,fun i hi hs=>?_⟩
 ·show w.heap.size<=(w1.heap.push o).size;rw[Array.size_push];exact Nat.le_succ_of_le h.size
 ·show (w1.heap.push o)[i]? = _;rw[Array.getElem?_push,if_neg (Nat.ne_of_lt (Nat.lt_of_lt_of_le hi h.size))];exact h.block i hi hs
theorem setCell {w w1:World}{S:Nat->Prop}(h:Kp w w1 S)(a:Addr)(v:Value)(ha:w.heap.size<=a.block∨S a.block):Kp w (w1.setCell a v) S:=by
 have q:=(Below.refl 0 w1).setCell (p:=a) (Nat.zero_le _) v;refine⟨q.os.trans h.os,q.tape.trans h.tape,q.output.trans h.output,Nat.le_trans h.size q.size,fun i hi hs=>?_⟩;rw[heap_setCell_other w1 a i v (fun e=>by rcases ha with ha|ha;omega;exact hs (e ▸ ha))];exact h.block i hi hs
end Kp
theorem NdIn.kp {w w':World}{F S:Nat->Prop}{sl:Value}{t:Nd}(h:NdIn w F sl t)(g:Kp w w' S)(hd:∀b,F b->¬S b):NdIn w' F sl t:=
 h.mono fun b hb hlt=>⟨g.block b hlt (hd b hb),hb⟩
theorem NdIn.kpn {w w':World}{F:Nat->Prop}{sl:Value}{t:Nd}(h:NdIn w F sl t)(g:Kp w w' Nul):NdIn w' F sl t:=h.kp g fun _ _ s=>s
def T4 (z:Array Value) (o:Nat):List Value->Array Value
 | []=>z
 | v::vs=>T4 (z.setIfInBounds o v) (o+1) vs
theorem j2U:∀(vs:List Value) (z:Array Value) (o:Nat),(T4 z o vs).size=z.size
 | [],_,_=>rfl
 | v::vs,z,o=>by rw[T4,j2U vs];simp
theorem j2T:∀(vs:List Value) (z:Array Value) (o i:Nat),o+vs.length<=z.size->(T4 z o vs)[i]? = if o<=i/\i<o+vs.length then vs[i-o]? else z[i]?
 | [],z,o,i,_=>by rw[T4,if_neg (by simp)]
 | v::vs,z,o,i,h=>by
  simp only[List.length_cons] at h ⊢;rw[T4,j2T vs _ (o+1) i (by simp;omega)];by_cases h1:o+1<=i/\i<o+1+vs.length
  ·rw[if_pos h1,if_pos (by omega),show i-o=(i-(o+1))+1 by omega];simp
  ·rw[if_neg h1];by_cases h2:i=o
   ·subst h2;rw[if_pos (by omega),Nat.sub_self,Array.getElem?_setIfInBounds_self_of_lt (by omega)];simp
   ·rw[if_neg (by omega),Array.getElem?_setIfInBounds_ne (by omega)]
theorem j6r (z cs:Array Value)(h:z.size=cs.size):T4 z 0 cs.toList=cs:=by
 apply Array.ext_getElem?
 intro i;rw[j2T _ _ _ _ (by simp;omega)];by_cases hi:i<cs.size
 ·rw[if_pos (by simp;exact hi)];simp
 ·rw[if_neg (by simp;omega)];rw[Array.getElem?_eq_none (by omega),Array.getElem?_eq_none (by omega)]
theorem j6u (w:World)(t:TypeId):∀(vs:List Value) (z:Array Value) (o:Nat),(w.alloc (.cells z t)).setCells w.heap.size o vs=w.alloc (.cells (T4 z o vs) t)
 | [],_,_=>rfl
 | v::vs,z,o=>by
  rw[World.setCells,World.setCell_alloc_new,T4];exact j6u w t vs _ _
theorem j3s (w:World)(t:TypeId)(z cs:Array Value)(h:z.size=cs.size):(w.alloc (.cells z t)).setCells w.heap.size 0 cs.toList=w.alloc (.cells cs t):=by
 rw[j6u,j6r z cs h]
theorem F9 {P:Program}{ops:Array Oper}{rest:List Oper}{op:Oper}{a:Act}{am:Exit->Act->World->Prop}(hgd:op.guard=G)(ty:TypeId)(x y:Operand)(ho:op.op=.store ty x y)
 (w:World) (z cells:Array Value) (t:TypeId) (N:Nat) (hN:N=w.heap.size) (hx:a.eval x=an (H ⟨N,0,G⟩)) (hy:a.eval y=T cells)
 (hz:z.size=cells.size) (hi:(P.info? ty).map (·.size)=H cells.size) (h1:cells.all (·.oneCell')=J)
 (h:wpList P ops am rest (a.put op.dst undef) (w.alloc (.cells cells t))):wpList P ops am (op::rest) a (w.alloc (.cells z t)):=by
 subst hN;refine wpList_store_mid hgd ty x y ho w.heap.size 0 cells hx hy ?_ hi h1 ?_
 ·intro j hj;constructor
  ·rw[World.cell?_alloc_at _ _ _ _ rfl,Array.getElem?_eq_getElem (by omega)];rfl
  ·rw[frozen?_alloc_cells,j1G]
 ·rw[j3s w t z cells hz];exact h
theorem j08 {b:Nat}{t:TypeId}:∀(vs:List Value) (o:Nat) (w:World) (z:Array Value),w.heap[b]? = H (.cells z t (0,0))->(w.setCells b o vs).heap[b]? = H (.cells (T4 z o vs) t (0,0))
 | [],_,_,_,h=>h
 | v::vs,o,w,z,h=>by
  rw[World.setCells,T4];exact j08 vs (o+1) _ _ (heap_setCell_same w b o z t v h)
theorem V9 {b:Nat}{t:TypeId}{w:World}{z cs:Array Value}(h:w.heap[b]? = H (.cells z t (0,0)))(hz:z.size=cs.size):(w.setCells b 0 cs.toList).heap[b]? = H (.cells cs t (0,0)):=by
 rw[j08 _ _ _ _ h,j6r z cs hz]
theorem L5 {b i:Nat}(hi:i≠b):∀(vs:List Value) (o:Nat) (w:World),(w.setCells b o vs).heap[i]? = w.heap[i]?
 | [],_,_=>rfl
 | v::vs,o,w=>by
  rw[World.setCells,L5 hi vs,heap_setCell_other w _ i v hi]
theorem O6 {b:Nat}(S:Nat->Prop)(hS:S b):∀(vs:List Value) (o:Nat) (w:World),Kp w (w.setCells b o vs) S
 | [],_,w=>Kp.refl w S
 | v::vs,o,w=>by
  rw[World.setCells];exact(((Kp.refl w S).setCell ⟨b,o,G⟩ v (.inr hS))).trans (O6 S hS vs (o+1) _)
theorem T6 {b:Nat}:∀(vs:List Value) (o:Nat) (w:World),(w.setCells b o vs).heap.size=w.heap.size
 | [],_,_=>rfl
 | v::vs,o,w=>by
  rw[World.setCells,T6 vs];show (w.heap.modify _ _).size=_;simp
theorem Y1 {b B:Nat}{w w1:World}(h:Below B w w1)(hB:B<=b)(vs:List Value)(o:Nat):Below B w (w1.setCells b o vs):=by
 have q:=O6 (b:=b) (fun i=>i=b) rfl vs o w1;exact⟨q.os.trans h.os,q.tape.trans h.tape,q.output.trans h.output,Nat.le_trans h.size q.size,fun i hi=>by rw[L5 (by omega)];exact h.block i hi⟩
theorem NdIn.one {w:World}{F:Nat->Prop}{sl:Value}{t:Nd}(h:NdIn w F sl t):sl.oneCell'=J:=by
 cases t;rw[NdIn] at h;obtain⟨a,c,rfl,_⟩:=h;rfl
theorem Hd.one (h:Hd){sl:Value}(hs:sl.oneCell'=J):(#[O I h.k,O I h.o,ap ao h.x,aq h.s,E h.b,O I h.f,O I h.c1,O I h.r1,E h.p1,E h.q1,O I h.c2,O I h.r2,E h.p2,E h.q2,sl]:Array Value).all (·.oneCell')=J:=by
 simpa [Value.oneCell'] using hs
end
section
open Go.RowKit
mutual
def D2 (w:World) (sl:Value):Nd->List Nat->Prop
 | .mk _ ts,fp=>(ts=[]/\sl=U G 0 0/\fp=[]) ∨
  ∃b c fps cs,sl=U (H ⟨b,0,G⟩) ts.length c/\ts≠[]/\ts.length<=c/\c<=maxLen/\w.heap[b]? = H (.cells cs 48 (0,0))/\cs.size=c*15/\fp=b::fps/\D8 w b 0 ts fps
def D8 (w:World) (b o:Nat):List Nd->List Nat->Prop
 | [],fp=>fp=[]
 | t::ts,fp=>∃sl f1 f2,w.rangeAt b o (t.hd.cells sl)/\D2 w sl t f1/\fp=f1++f2/\D8 w b (o+15) ts f2
end
mutual
theorem D2.mono {w w':World}{sl:Value}:∀ {t:Nd} {fp:List Nat},D2 w sl t fp->(∀b∈fp,w'.heap[b]? = w.heap[b]?)->D2 w' sl t fp
 | .mk _ ts,fp,h,hF=>by
  rw[D2] at h ⊢;rcases h with h|⟨b,c,fps,cs,h1,h2,h3,h4,h5,h6,rfl,h8⟩
  ·exact .inl h
  ·refine .inr ⟨b,c,fps,cs,h1,h2,h3,h4,(hF b (List.mem_cons_self)).trans h5,h6,rfl,?_⟩;exact D8.mono h8 (fun o' cs' _ _ hr=>I7 hr (hF b (List.mem_cons_self))) (fun b' hb'=>hF b' (List.mem_cons_of_mem _ hb'))
theorem D8.mono {w w':World}{b:Nat}:∀ {ts:List Nd} {o:Nat} {fp:List Nat},D8 w b o ts fp->(∀o' cs,o<=o'->o'+cs.length<=o+ts.length*15->w.rangeAt b o' cs->w'.rangeAt b o' cs)->(∀b∈fp,w'.heap[b]? = w.heap[b]?)->D8 w' b o ts fp
 | [],_,_,h,_,_=>by rw[D8] at h ⊢;exact h
 | t::ts,o,fp,h,hr,hF=>by
  rw[D8] at h ⊢;obtain⟨sl,f1,f2,h1,h2,rfl,h4⟩:=h;refine⟨sl,f1,f2,hr o _ (Nat.le_refl _) (by simp;omega) h1,D2.mono h2 (fun b hb=>hF b (List.mem_append_left _ hb)),rfl,?_⟩;exact D8.mono h4 (fun o' cs g1 g2 g3=>hr o' cs (by omega) (by simp at g2 ⊢;omega) g3) (fun b hb=>hF b (List.mem_append_right _ hb))
end
theorem D8.snoc {w:World}{b:Nat}{u:Nd}{f:List Nat}{sl:Value}(hu:D2 w sl u f):∀ {us:List Nd} {o:Nat} {fps:List Nat},D8 w b o us fps->w.rangeAt b (o+us.length*15) (u.hd.cells sl)->D8 w b o (us++[u]) (fps++f)
 | [],o,fps,h,hr=>by
  rw[D8] at h;subst h;rw[List.nil_append,D8];exact⟨sl,f,[],by simpa using hr,hu,by simp,by rw[D8]⟩
 | t::us,o,fps,h,hr=>by
  rw[D8] at h;obtain⟨s1,f1,f2,h1,h2,rfl,h4⟩:=h;rw[List.cons_append,D8];refine⟨s1,f1,f2++f,h1,h2,by rw[List.append_assoc],D8.snoc hu h4 ?_⟩;rw[show o+15+us.length*15=o+(t::us).length*15 by simp;omega];exact hr
mutual
theorem D2.isIn {w:World}{sl:Value}:∀ {t:Nd} {fp:List Nat} {F:Nat->Prop},D2 w sl t fp->(∀b∈fp,F b)->NdIn w F sl t
 | .mk _ ts,fp,F,h,hF=>by
  rw[D2] at h;rw[NdIn];rcases h with ⟨rfl,rfl,rfl⟩|⟨b,c,fps,cs,rfl,h2,h3,h4,h5,h6,rfl,h8⟩
  ·exact⟨G,0,rfl,by simp,by unfold maxLen;omega,.inl ⟨rfl,.inl rfl⟩⟩
  ·refine⟨_,c,rfl,h3,h4,.inr ⟨b,0,rfl,hF b (List.mem_cons_self),?_⟩⟩;exact D8.isIn h8 (fun b' hb'=>hF b' (List.mem_cons_of_mem _ hb'))
theorem D8.isIn {w:World}{b:Nat}:∀ {ts:List Nd} {o:Nat} {fp:List Nat} {F:Nat->Prop},D8 w b o ts fp->(∀b∈fp,F b)->F6 w F b o ts
 | [],_,_,_,_,_=>by rw[F6];trivial
 | t::ts,o,fp,F,h,hF=>by
  rw[D8] at h;obtain⟨sl,f1,f2,h1,h2,rfl,h4⟩:=h;rw[F6];exact⟨⟨sl,h1,D2.isIn h2 (fun b hb=>hF b (List.mem_append_left _ hb))⟩,D8.isIn h4 (fun b hb=>hF b (List.mem_append_right _ hb))⟩
end
theorem D2.one {w:World}{sl:Value}{t:Nd}{fp:List Nat}(h:D2 w sl t fp):sl.oneCell'=J:=(h.isIn (F:=fun _=>True) (fun _ _=>trivial)).one
structure Own (w:World) (B:Nat) (sl:Value) (t:Nd) (fp:List Nat):Prop where
 own:D2 w sl t fp
 nodup:fp.Nodup
 new:∀b∈fp,B<=b/\b<w.heap.size
theorem Own.below {w w':World}{B:Nat}{sl:Value}{t:Nd}{fp:List Nat}(h:Own w B sl t fp)(g:Below w.heap.size w w'):Own w' B sl t fp:=
 ⟨h.own.mono (fun b hb=>g.block b (h.new b hb).2),h.nodup,fun b hb=>⟨(h.new b hb).1,Nat.lt_of_lt_of_le (h.new b hb).2 g.size⟩⟩
theorem Own.le {w:World}{B B':Nat}{sl:Value}{t:Nd}{fp:List Nat}(h:Own w B sl t fp)(hB:B'<=B):Own w B' sl t fp:=
 ⟨h.own,h.nodup,fun b hb=>⟨Nat.le_trans hB (h.new b hb).1,(h.new b hb).2⟩⟩
theorem Own.isIn {w:World}{B:Nat}{sl:Value}{t:Nd}{fp:List Nat}(h:Own w B sl t fp):NdIn w (fun b=>B<=b/\b<w.heap.size) sl t:=h.own.isIn h.new
theorem Own.kp {w w':World}{B:Nat}{sl:Value}{t:Nd}{fp:List Nat}{S:Nat->Prop}(h:Own w B sl t fp)(g:Kp w w' S)(hS:∀b∈fp,¬S b):Own w' B sl t fp:=
 ⟨h.own.mono (fun b hb=>g.block b (h.new b hb).2 (hS b hb)),h.nodup,fun b hb=>⟨(h.new b hb).1,Nat.lt_of_lt_of_le (h.new b hb).2 g.size⟩⟩
theorem Own.nil (w:World)(B:Nat)(h:Hd):Own w B (U G 0 0) (.mk h []) []:=⟨by rw[D2];exact .inl ⟨rfl,rfl,rfl⟩,List.nodup_nil,fun b hb=>by simp at hb⟩
def Blk (w:World) (b:Nat) (cs:List Value) (t:TypeId):Prop:=w.heap[b]? = H (.cells cs.toArray t (0,0))
namespace Blk
theorem lt {w:World}{b:Nat}{cs:List Value}{t:TypeId}(h:Blk w b cs t):b<w.heap.size:=by
 rcases Nat.lt_or_ge b w.heap.size with c|c
 ·exact c
 ·unfold Blk at h;rw[Array.getElem?_eq_none c] at h;cases h
theorem at' {w:World}{b i:Nat}{cs:List Value}{t:TypeId}(h:Blk w b cs t):w.cell? ⟨b,i,G⟩=cs[i]?:=by
 unfold Blk at h;simp[World.cell?,h]
theorem cell {w:World}{b i:Nat}{cs:List Value}{t:TypeId}{v:Value}(h:Blk w b cs t)(hi:cs[i]? = H v):w.cell? ⟨b,i,G⟩=H v:=h.at'.trans hi
theorem froz {w:World}{b:Nat}{cs:List Value}{t:TypeId}(h:Blk w b cs t)(i:Nat):w.frozen? ⟨b,i,G⟩=R:=by
 unfold Blk at h;simp[World.frozen?,h]
theorem set {w:World}{b:Nat}{cs:List Value}{t:TypeId}(h:Blk w b cs t)(i:Nat)(v:Value):Blk (w.setCell ⟨b,i,G⟩ v) b (cs.set i v) t:=by
 have:=heap_setCell_same w b i cs.toArray t v h;unfold Blk;rw[this];simp
theorem other {w:World}{b:Nat}{cs:List Value}{t:TypeId}(h:Blk w b cs t)(a:Addr)(v:Value)(hb:b≠a.block):Blk (w.setCell a v) b cs t:=by
 unfold Blk;rw[heap_setCell_other w a b v hb];exact h
theorem kp {w w':World}{b:Nat}{cs:List Value}{t:TypeId}{S:Nat->Prop}(h:Blk w b cs t)(g:Kp w w' S)(hb:¬S b):Blk w' b cs t:=
 (g.block b h.lt hb).trans h
theorem gr {w w':World}{b:Nat}{cs:List Value}{t:TypeId}(h:Blk w b cs t)(g:Gr w w'):Blk w' b cs t:=h.kp (S:=Nul) (Kp.of_gr g) (fun x=>x)
theorem alloc {w:World}{b:Nat}{cs:List Value}{t:TypeId}(h:Blk w b cs t)(o:Obj):Blk (w.alloc o) b cs t:=h.kp (S:=Nul) ((Kp.refl w Nul).alloc o) (fun x=>x)
theorem drewN {w:World}{b:Nat}{cs:List Value}{t:TypeId}(h:Blk w b cs t)(n:Nat):Blk (w.drewN n) b cs t:=h
theorem drew {w:World}{b:Nat}{cs:List Value}{t:TypeId}(h:Blk w b cs t):Blk w.drew b cs t:=h
theorem ne {w:World}{b b':Nat}{cs cs':List Value}{t t':TypeId}(h:Blk w b cs t)(h':Blk w b' cs' t')(ht:t≠t'):b≠b':=by
 intro e;subst e;unfold Blk at h h';rw[h] at h';simp only[Option.some.injEq,Obj.cells.injEq] at h';exact ht h'.2.1
theorem new (w:World)(cs:List Value)(t:TypeId):Blk (w.alloc (.cells cs.toArray t)) w.heap.size cs t:=heap_alloc_new _ _
theorem new' (w:World)(z:Array Value)(t:TypeId):Blk (w.alloc (.cells z t)) w.heap.size z.toList t:=by
 have:=heap_alloc_new w (.cells z t);unfold Blk;rw[this]
end Blk
theorem Blk.c_ {w:World}{b:Nat}{cs:List Value}{t:TypeId}{v:Value}(h:Blk w b cs t)(i:Nat)(hi:cs[i]? = H v):w.cell? ⟨b,i,G⟩=H v:=h.cell hi
theorem k_ {w:World}{b:Nat}{cs:List Value}{t:TypeId}(h:Blk w b cs t):Hid (∀X,Kp w X Nul->Blk X b cs t):=fun _ k=>h.kp k (fun x=>x)
def thr (at' n most a b:Int):Option (Int×Int):=
 if max a 1<=min b (at'-1) then
  (if max a (if n<0 then at'-n else at')<=min b (if n<0 then most else most-n) then H (max a 1,min b (if n<0 then most else most-n)+n) else H (max a 1,min b (at'-1)))
 else if max a (if n<0 then at'-n else at')<=min b (if n<0 then most else most-n) then H (max a (if n<0 then at'-n else at')+n,min b (if n<0 then most else most-n)+n) else G
structure LnOk (at' n most:Int):Prop where
 lo:1<=at'
 hi:at'<=most
 nl:-most<=n
 nh:n<=most
theorem j79 {at' n most a b:Int}(h:LnOk at' n most)(ha:1<=a)(hab:a<=b)(hb:b<=most){r:Int×Int}(e:thr at' n most a b=H r):1<=r.1/\r.1<=r.2/\r.2<=most:=by
 obtain⟨h1,h2,h3,h4⟩:=h;unfold thr at e;by_cases hn:n<0
 ·simp only[if_pos hn] at e;split at e
  ·split at e <;> (injection e with e;subst e;simp only;omega)
  ·split at e
   ·injection e with e;subst e;simp only;omega
   ·cases e
 ·simp only[if_neg hn] at e;split at e
  ·split at e <;> (injection e with e;subst e;simp only;omega)
  ·split at e
   ·injection e with e;subst e;simp only;omega
   ·cases e
theorem j2b {at' n most a:Int}{r:Int×Int}(e:thr at' n most a a=H r):r.1=r.2/\r.1=(if a<at' then a else a+n):=by
 unfold thr at e;by_cases hn:n<0
 ·simp only[if_pos hn] at e;split at e
  ·split at e <;> (injection e with e;subst e;simp only;split <;> omega)
  ·split at e
   ·injection e with e;subst e;simp only;split <;> omega
   ·cases e
 ·simp only[if_neg hn] at e;split at e
  ·split at e <;> (injection e with e;subst e;simp only;split <;> omega)
  ·split at e
   ·injection e with e;subst e;simp only;split <;> omega
   ·cases e
theorem j77 {at' n most a a':Int}{r r':Int×Int}(ha:1<=a)(ha':1<=a')(hne:a≠a')(e:thr at' n most a a=H r)(e':thr at' n most a' a'=H r'):r.1≠r'.1:=by
 obtain⟨_,q⟩:=j2b e;obtain⟨_,q'⟩:=j2b e';rw[q,q'];have hk:a<at'∨(n<0->at'-n<=a):=by
  by_cases h1:a<at'
  ·exact .inl h1
  ·right
   intro hn;unfold thr at e;simp only[if_pos hn] at e;rw[if_neg (by omega)] at e;split at e
   ·omega
   ·cases e
 have hk':a'<at'∨(n<0->at'-n<=a'):=by
  by_cases h1:a'<at'
  ·exact .inl h1
  ·right
   intro hn;unfold thr at e';simp only[if_pos hn] at e';rw[if_neg (by omega)] at e';split at e'
   ·omega
   ·cases e'
 split <;> split <;> omega
def pl (at' n most k:Int):Int:=if n<0/\at'<=k/\k<at'-n then 0 else if (if k<at' then k else k+n)<=most then (if k<at' then k else k+n) else 0
def nx (at' n k:Int):Int:=if k<=at' then k else if n<0 then (if k<at'-n then at' else k+n) else k+n
def plL (at' n most:Int) (m k:Nat):List Int:=(List.range (m+1)).map fun i=>if 1<=i/\i<k then pl at' n most i else 0
theorem j2D (at' n most:Int)(m k:Nat):(plL at' n most m k).length=m+1:=by simp[plL]
theorem Y9 {at' n most:Int}{m k i:Nat}(h:i<=m):(plL at' n most m k)[i]? = H (if 1<=i/\i<k then pl at' n most i else 0):=by
 unfold plL;rw[List.getElem?_map,List.getElem?_range (by omega)]
 rfl
theorem jCS (at' n most:Int)(m:Nat):plL at' n most m 1=List.replicate (m+1) 0:=by
 apply List.ext_getElem?
 intro i;by_cases h:i<=m
 ·rw[Y9 h,List.getElem?_replicate,if_neg (by omega:¬(1<=i/\i<1)),if_pos (by omega:i<m+1)]
 ·rw[List.getElem?_eq_none (by rw[j2D];omega),List.getElem?_eq_none (by simp;omega)]
theorem jCT {at' n most:Int}{m k:Nat}(h1:1<=k)(h2:k<=m):(plL at' n most m k).set k (pl at' n most k)=plL at' n most m (k+1):=by
 apply List.ext_getElem?
 intro i;by_cases h:i<=m
 ·rw[Y9 h,List.getElem?_set];by_cases e:k=i
  ·subst e;rw[if_pos rfl,if_pos (by rw[j2D];omega),if_pos (by omega)]
  ·rw[if_neg e,Y9 h];by_cases q:1<=i/\i<k
   ·rw[if_pos q,if_pos (by omega)]
   ·rw[if_neg q,if_neg (by omega)]
 ·rw[List.getElem?_eq_none (by rw[List.length_set,j2D];omega),List.getElem?_eq_none (by rw[j2D];omega)]
theorem jCU {at' n most:Int}{m k:Nat}(h:pl at' n most k=0):plL at' n most m k=plL at' n most m (k+1):=by
 unfold plL;apply List.map_congr_left
 intro i _;by_cases e:i=k
 ·subst e;rw[if_neg (by omega),h];split <;> rfl
 ·by_cases q:1<=i/\i<k
  ·rw[if_pos q,if_pos (by omega)]
  ·rw[if_neg q,if_neg (by omega)]
theorem jBq {at' n:Int}(h:1<=at'):nx at' n 1=1:=by unfold nx;rw[if_pos h]
theorem j65 {at' n k:Int}(h:k=at')(hn:0<n):nx at' n k=k/\nx at' n k+n+1=nx at' n (k+1):=by unfold nx;repeat' split <;> omega
theorem j64 {at' n k:Int}(hn:n<0)(h1:at'<=k)(h2:k<at'-n):nx at' n (k+1)=nx at' n k/\∀most,pl at' n most k=0:=by
 constructor
 ·unfold nx;repeat' split <;> omega
 ·intro most;unfold pl;rw[if_pos ⟨hn,h1,h2⟩]
theorem j66 {at' n k:Int}(h:¬(k=at'/\0<n))(hg:¬(n<0/\at'<=k/\k<at'-n)):nx at' n (k+1)=nx at' n k+1/\∀most,pl at' n most k=if nx at' n k<=most then nx at' n k else 0:=by
 have e:nx at' n k=if k<at' then k else k+n:=by unfold nx;repeat' split <;> omega
 constructor
 ·unfold nx;repeat' split <;> omega
 ·intro most;unfold pl;rw[if_neg hg,e]
theorem jCV {at' n k:Int}(h:k=at')(hn:0<n)(most:Int):pl at' n most k=if nx at' n k+n<=most then nx at' n k+n else 0:=by
 rw[(j65 h hn).1];unfold pl;rw[if_neg (by omega)];simp only[if_neg (show ¬k<at' by omega)]
theorem jBp {at' n most k:Int}(h:LnOk at' n most)(h1:1<=k)(h2:k<=most+1):1<=nx at' n k/\nx at' n k<=2*most+1:=by
 obtain⟨a,b,c,d⟩:=h;unfold nx;repeat' split <;> omega
theorem j2E {at' n most k:Int}(h:LnOk at' n most)(h1:1<=k)(h2:k<=most):0<=pl at' n most k/\pl at' n most k<=most:=by
 obtain⟨a,b,c,d⟩:=h;unfold pl;repeat' split <;> omega
def spA (at' n most a k:Int):Int×Int:=(thr at' n most a (k-1)).getD (0,0)
theorem j7A {at' n most a b:Int}(h:b<a):thr at' n most a b=G:=by
 unfold thr;rw[if_neg (by omega),if_neg (by omega)]
theorem j72 {at' n most a:Int}:spA at' n most a a=(0,0):=by unfold spA;rw[j7A (by omega)];rfl
theorem j7B {at' n most a k:Int}(h:LnOk at' n most)(h1:1<=a)(h2:a<=k)(h3:k<=most)(hp:pl at' n most k=0):thr at' n most a k=thr at' n most a (k-1):=by
 obtain⟨q1,q2,q3,q4⟩:=h;unfold pl at hp;unfold thr;by_cases hn:n<0
 ·simp only[if_pos hn];by_cases hk:k<at'
  ·rw[if_neg (by omega)] at hp;simp only[if_pos hk] at hp;split at hp <;> omega
  ·by_cases hg:k<at'-n
   ·have e1:(max a 1<=min k (at'-1))=(max a 1<=min (k-1) (at'-1)):=(by apply propext;omega);have e2:¬max a (at'-n)<=min k most:=(by omega);have e3:¬max a (at'-n)<=min (k-1) most:=(by omega);rw[if_neg e2,if_neg e2,if_neg e3,if_neg e3];by_cases c:max a 1<=min k (at'-1)
    ·rw[if_pos c,if_pos (e1 ▸ c)];congr 2;omega
    ·rw[if_neg c,if_neg (e1 ▸ c)]
   ·rw[if_neg (by omega)] at hp;simp only[if_neg hk] at hp;split at hp <;> omega
 ·simp only[if_neg hn];rw[if_neg (by omega)] at hp;by_cases hk:k<at'
  ·simp only[if_pos hk] at hp;split at hp <;> omega
  ·simp only[if_neg hk] at hp;have hg:most<k+n:=(by split at hp <;> omega);by_cases c1:max a 1<=min k (at'-1)
   ·by_cases c2:max a at'<=min k (most-n)
    ·rw[if_pos c1,if_pos c2,if_pos (by omega)];split
     ·congr 2;omega
     ·omega
    ·rw[if_pos c1,if_neg c2,if_pos (by omega)];split
     ·omega
     ·congr 2;omega
   ·by_cases c2:max a at'<=min k (most-n)
    ·rw[if_neg c1,if_pos c2,if_neg (by omega)];split
     ·congr 2;omega
     ·omega
    ·rw[if_neg c1,if_neg c2,if_neg (by omega),if_neg (by omega)]
theorem j0J {a b c d:Int}(h1:a=c)(h2:b=d):H (a,b)=H (c,d):=by rw[h1,h2]
theorem j78 {at' n most a k:Int}(h:LnOk at' n most)(h1:1<=a)(h2:a<=k)(h3:k<=most)(hp:0<pl at' n most k):thr at' n most a k=H (if (spA at' n most a k).1=0 then pl at' n most k else (spA at' n most a k).1,pl at' n most k):=by
 obtain⟨q1,q2,q3,q4⟩:=h;have hg:¬(n<0/\at'<=k/\k<at'-n):=by
  intro q;unfold pl at hp;rw[if_pos q] at hp;omega
 obtain⟨P,hP⟩:∃P,pl at' n most k=P:=⟨_,rfl⟩;have e:P=(if k<at' then k else k+n)/\P<=most:=by
  unfold pl at hP hp;rw[if_neg hg] at hP hp;split at hP
  ·omega
  ·rename_i q;rw[if_neg q] at hp;omega
 rw[hP] at hp ⊢;clear hP;obtain⟨e,e2⟩:=e;unfold spA thr;by_cases hk:k<at'
 ·rw[if_pos hk] at e;subst e;by_cases ha:a=P
  ·subst ha;by_cases hn:n<0
   ·simp only[if_pos hn];simp only[if_pos (show max a 1<=min a (at'-1) by omega),if_neg (show ¬max a (at'-n)<=min a most by omega),if_neg (show ¬max a 1<=min (a-1) (at'-1) by omega),if_neg (show ¬max a (at'-n)<=min (a-1) most by omega),Option.getD_none,if_true];exact j0J (by omega) (by omega)
   ·simp only[if_neg hn];simp only[if_pos (show max a 1<=min a (at'-1) by omega),if_neg (show ¬max a at'<=min a (most-n) by omega),if_neg (show ¬max a 1<=min (a-1) (at'-1) by omega),if_neg (show ¬max a at'<=min (a-1) (most-n) by omega),Option.getD_none,if_true];exact j0J (by omega) (by omega)
  ·by_cases hn:n<0
   ·simp only[if_pos hn];simp only[if_pos (show max a 1<=min P (at'-1) by omega),if_neg (show ¬max a (at'-n)<=min P most by omega),if_pos (show max a 1<=min (P-1) (at'-1) by omega),if_neg (show ¬max a (at'-n)<=min (P-1) most by omega),Option.getD_some,if_neg (show ¬max a 1=0 by omega)];exact j0J (by omega) (by omega)
   ·simp only[if_neg hn];simp only[if_pos (show max a 1<=min P (at'-1) by omega),if_neg (show ¬max a at'<=min P (most-n) by omega),if_pos (show max a 1<=min (P-1) (at'-1) by omega),if_neg (show ¬max a at'<=min (P-1) (most-n) by omega),Option.getD_some,if_neg (show ¬max a 1=0 by omega)];exact j0J (by omega) (by omega)
 ·rw[if_neg hk] at e;subst e;obtain⟨F,hF⟩:∃F,(if n<0 then at'-n else at')=F:=⟨_,rfl⟩;obtain⟨ak,hT⟩:∃ak,(if n<0 then most else most-n)=ak:=⟨_,rfl⟩;rw[hF,hT];have f1:F<=k/\k<=ak/\at'<=F/\1<=F+n:=by rw[<- hF,<- hT];split <;> omega
  clear hF hT;by_cases c1:a<=at'-1
  ·by_cases c2:F<=k-1
   ·simp only[if_pos (show max a 1<=min k (at'-1) by omega),if_pos (show max a F<=min k ak by omega),if_pos (show max a 1<=min (k-1) (at'-1) by omega),if_pos (show max a F<=min (k-1) ak by omega),Option.getD_some,if_neg (show ¬max a 1=0 by omega)];exact j0J (by omega) (by omega)
   ·simp only[if_pos (show max a 1<=min k (at'-1) by omega),if_pos (show max a F<=min k ak by omega),if_pos (show max a 1<=min (k-1) (at'-1) by omega),if_neg (show ¬max a F<=min (k-1) ak by omega),Option.getD_some,if_neg (show ¬max a 1=0 by omega)];exact j0J (by omega) (by omega)
  ·by_cases c2:max a F<=k-1
   ·simp only[if_neg (show ¬max a 1<=min k (at'-1) by omega),if_pos (show max a F<=min k ak by omega),if_neg (show ¬max a 1<=min (k-1) (at'-1) by omega),if_pos (show max a F<=min (k-1) ak by omega),Option.getD_some,if_neg (show ¬max a F+n=0 by omega)];exact j0J (by omega) (by omega)
   ·simp only[if_neg (show ¬max a 1<=min k (at'-1) by omega),if_pos (show max a F<=min k ak by omega),if_neg (show ¬max a 1<=min (k-1) (at'-1) by omega),if_neg (show ¬max a F<=min (k-1) ak by omega),Option.getD_none,if_true];exact j0J (by omega) (by omega)
theorem jE5 {at' n most a k:Int}(h:LnOk at' n most)(h1:1<=a)(h2:a<=k)(h3:k<=most):spA at' n most a (k+1)=if 0<pl at' n most k then (if (spA at' n most a k).1=0 then pl at' n most k else (spA at' n most a k).1,pl at' n most k) else spA at' n most a k:=by
 by_cases hp:0<pl at' n most k
 ·rw[if_pos hp]
  conv=>lhs;unfold spA
  rw[show k+1-1=k by omega,j78 h h1 h2 h3 hp]
  rfl
 ·rw[if_neg hp];have hz:pl at' n most k=0:=by have:=(j2E h (by omega:1<=k) h3).1;omega
  unfold spA;rw[show k+1-1=k by omega,j7B h h1 h2 h3 hz]
theorem j71 {at' n most a b:Int}(h:LnOk at' n most):(thr at' n most a b=G/\spA at' n most a (b+1)=(0,0))∨(∃r,thr at' n most a b=H r/\spA at' n most a (b+1)=r/\0<r.1):=by
 unfold spA;rw[show b+1-1=b by omega];cases e:thr at' n most a b with
 | none=>exact .inl ⟨rfl,rfl⟩
 | some r=>
  refine .inr ⟨r,rfl,rfl,?_⟩;obtain⟨q1,q2,q3,q4⟩:=h;unfold thr at e;by_cases hn:n<0
  ·simp only[if_pos hn] at e;split at e
   ·split at e <;> (injection e with e;subst e;simp only;omega)
   ·split at e
    ·injection e with e;subst e;simp only;omega
    ·cases e
  ·simp only[if_neg hn] at e;split at e
   ·split at e <;> (injection e with e;subst e;simp only;omega)
   ·split at e
    ·injection e with e;subst e;simp only;omega
    ·cases e
theorem j2c {at' n most a:Int}(h:LnOk at' n most)(h1:1<=a)(h3:a<=most):thr at' n most a a=if 0<pl at' n most a then H (pl at' n most a,pl at' n most a) else G:=by
 by_cases hp:0<pl at' n most a
 ·rw[if_pos hp,j78 h h1 (Int.le_refl _) h3 hp,j72]
  rfl
 ·have hz:pl at' n most a=0:=by have:=(j2E h (by omega:1<=a) h3).1;omega
  rw[if_neg hp,j7B h h1 (Int.le_refl _) h3 hz,j7A (by omega)]
theorem j0x {most a b:Int}(h1:1<=a)(h2:a<=b)(h3:b<=most):thr 1 0 most a b=H (a,b):=by
 unfold thr;simp only[Int.lt_irrefl,if_false];rw[if_neg (by omega),if_pos (by omega)]
 congr 2 <;> omega
end
section
open Go.RowKit
section
variable {P:Program} {ops:Array Oper} {am:Exit->Act->World->Prop} {md:Region.Mode} {S:World->Prop}
theorem G7 {i:Nat}{oi:Oper}{v:Value}{n:Nat}{on:Array Bool}{a:Act}{w:World}(d:Option Tmp)(hi:ops[i]? = H oi)(hd:oi.dst=d)(hb:(Region.noSelect ops&&(Region.free md ops on i&&((Region.ready md ops on).contains i)))=J)
 (hQ:∀c a w,am (.panic c) (a.put d v) w->am (.panic c) a w) (hy:YieldsIf P ops S oi v a) (hS:S w) (h:wpAnyH P md ops am S n (on.setIfInBounds i J) (a.put d v) w):wpAnyH P md ops am S (n+1) on a w:=by
 simp only[Bool.and_eq_true] at hb;subst hd;exact wpAnyH_take hi hb.1 hb.2.1 hb.2.2 hQ hy hS h
theorem D6 {i:Nat}{o:Oper}{n:Nat}{on:Array Bool}{a:Act}{w:World}(hr:Region.ready md ops on=[i])(ho:ops[i]? = H o)(hg:o.guard=G)
 (h:∀K':Act->World->Prop,Hid (∀a w,S w->(S w->wpAnyH P md ops am S n (on.setIfInBounds i J) a w)->K' a w)->o.wp P a w K' am):wpAnyH P md ops am S (n+1) on a w:=by
 refine wpAnyH_all hr (by simp) (fun j hj=>?_);obtain rfl:=List.mem_singleton.1 hj;unfold wpOp;rw[ho];simp only[Region.wanted,hg,if_true];exact .inl (h _ (fun a w hS hW=>⟨hS,hW hS⟩))
theorem I0 {id:Nat}{a:Act}{w:World}(S:World->Prop)(hm:P.follows .mixedOrders=J)(hS:S w.drew)(h:S w.drew->wpAnyH P .any ops am S ops.size (Array.replicate ops.size R) a w.drew):(Code.region id ops J).wp P am a w:=
 wp_region_held hm (h hS)
end
section
variable {P:Program} {ops:Array Oper} {am:Exit->Act->World->Prop} {md:Region.Mode} {S:World->Prop}
theorem tk (i d:Nat){oi:Oper}{v:Value}{n:Nat}{on:Array Bool}{a a':Act}{w:World}(hS:S w)(h:wpAnyH P md ops am S n (on.setIfInBounds i J) a' w)(hi:ops[i]? = H oi:=by exact rfl)(hd:oi.dst=H d:=by exact rfl)(hb:(Region.noSelect ops&&(Region.free md ops on i&&(Region.ready md ops on).contains i))=J:=by kernel_rfl)(hg:Region.wanted oi (yielded ops a.tmps)=J:=by exact rfl)(hy:∀w,S w->(execOp a.eval oi).run P w=.ok (.value v) w:=by intro w' hSw;clear hSw;go_simp;try with_reducible rfl)(ha:a.put (H d) v=a':=by conv=>lhs;simp only[Act.put,Sz0,Sz1,Sz2])(hQ:∀c a w,am (.panic c) (a.put (H d) v) w->am (.panic c) a w:=by exact fun _ _ _ h=>h):wpAnyH P md ops am S (n+1) on a w:=by
 subst ha;simp only[Bool.and_eq_true] at hb;rw[<- hd] at h hQ;exact wpAnyH_take hi hb.1 hb.2.1 hb.2.2 hQ (.inl ⟨hg,hy⟩) hS h
end
section
variable {P:Program} {ops:Array Oper} {am:Exit->Act->World->Prop} {md:Region.Mode} {S:World->Prop}
theorem ts (i:Nat){o:Oper}{n:Nat}{on:Array Bool}{a:Act}{w:World}(h:∀K':Act->World->Prop,Hid (∀a w,S w->(S w->wpAnyH P md ops am S n (on.setIfInBounds i J) a w)->K' a w)->o.wp P a w K' am)(hr:Region.ready md ops on=[i]:=by kernel_rfl)(ho:ops[i]? = H o:=by exact rfl)(hg:o.guard=G:=by exact rfl):wpAnyH P md ops am S (n+1) on a w:=by
 refine wpAnyH_all hr (by simp) (fun j hj=>?_);obtain rfl:=List.mem_singleton.1 hj;unfold wpOp;rw[ho];simp only[Region.wanted,hg,if_true];exact .inl (h _ (fun a w hS hW=>⟨hS,hW hS⟩))
end
end
section
open Go.RowKit
section
variable {P:Program} {ops:Array Oper} {am:Exit->Act->World->Prop} {md:Region.Mode} {S:World->Prop} {z:Nat}
def Q5 (P:Program) (md:Region.Mode) (ops:Array Oper) (am:Exit->Act->World->Prop) (S:World->Prop) (z:Nat):Nat->Array Bool->Act->World->Prop
 | 0,on,a,w=>Region.ready md ops on=[]/\am .normal a w
 | n+1,on,a,w=>(Region.ready md ops on=[]->am .normal a w) /\
  ∀i∈Region.ready md ops on,wpOp P ops am i (fun a' w'=>(i≠z->S w')/\Q5 P md ops am S z n (on.setIfInBounds i J) a' w') a w
theorem j7U:∀(n:Nat) (on:Array Bool) (a:Act) (w:World),Q5 P md ops am S z n on a w->wpAny P md ops am n on a w
 | 0,_,_,_,h=>h
 | n+1,_,_,_,h=>⟨h.1,fun i hi=>wpOp_mono (fun a' w' h'=>j7U n _ a' w' h'.2) (h.2 i hi)⟩
def j13 (md:Region.Mode) (ops:Array Oper) (z i:Nat):Bool:=match ops[z]? with|some o=>o.after.any (fun e=>Region.binds md e&&e.on==i)|none=>R
theorem jBo {on:Array Bool}{i:Nat}(h:j13 md ops z i=J)(hi:on.getD i R=R):z∉Region.ready md ops on:=by
 intro hz;obtain⟨_,o,ho,hall⟩:=mem_ready.1 hz;unfold j13 at h;rw[ho] at h;obtain⟨e,he,hb⟩:=Array.any_eq_true'.1 h;simp only[Bool.and_eq_true,beq_iff_eq] at hb;have:=hall e he hb.1;rw[hb.2,hi] at this;cases this
theorem j5I {on:Array Bool}{i:Nat}(h:on.getD i J=R):on.getD i R=R:=by
 rcases Nat.lt_or_ge i on.size with hl|hl
 ·simp[hl] at h ⊢;exact h
 ·simp[Nat.not_lt.2 hl] at h
theorem jEv {i:Nat}{oi:Oper}{v:Value}(hi:ops[i]? = H oi)(hsel:∀(j:Nat) (o:Oper) cs b,ops[j]? = H o->o.op ≠ .select cs b)(hzi:j13 md ops z i=J)
 (hQ:∀c a w,am (.panic c) (a.put oi.dst v) w->am (.panic c) a w) (n:Nat) :
 ∀(on:Array Bool) (a:Act) (w:World),
  (∀j oj,ops[j]? = H oj->j≠i->on.getD j J=R->(∀e∈oj.after,Region.binds md e=J->e.on≠i)->oi.apart ops oj=J) ->
  i∈Region.ready md ops on->YieldsIf P ops S oi v a->S w->Q5 P md ops am S z n (on.setIfInBounds i J) (a.put oi.dst v) w->Q5 P md ops am S z (n+1) on a w:=by
 have hiz:∀on:Array Bool,i∈Region.ready md ops on->z∉Region.ready md ops on:=fun on hr=>jBo hzi (j5I (mem_ready.1 hr).1)
 induction n with
 | zero=>
  intro on a w _ hr hy hS ag;refine⟨fun h=>(by rw[h] at hr;cases hr),fun j hj=>?_⟩;rcases Decidable.em (j=i) with rfl|hji
  ·exact hy.wpOp hi hS ⟨fun _=>hS,ag⟩
  ·have hc:=ready_mono hj hji;rw[ag.1] at hc;cases hc
 | succ n ih=>
  intro on a w hfree hr hy hS ag;refine⟨fun h=>(by rw[h] at hr;cases hr),fun j hj=>?_⟩;rcases Decidable.em (j=i) with rfl|hji
  ·exact hy.wpOp hi hS ⟨fun _=>hS,ag⟩
  ·have hjz:j≠z:=(fun e=>hiz on hr (e ▸ hj));obtain⟨hjun,oj,hoj,hall⟩:=mem_ready.1 hj;have hun:=j5I (mem_ready.1 hr).1;have hno:∀e∈oj.after,Region.binds md e=J->e.on≠i:=fun e he hb heq=>by
    have h1:=hall e he hb;rw[heq,hun] at h1;cases h1
   have h2:=wpOp_putIf hoj (hfree j oj hoj hji hjun hno) (fun cs b=>hsel i oi cs b hi) (fun cs b=>hsel j oj cs b hoj) hQ hy (ag.2 j (ready_mono hj hji));refine wpOp_mono (fun a' w' h3=>⟨fun _=>h3.2.1 hjz,ih (on.setIfInBounds j J) a' w' ?_ (ready_mono hr (Ne.symm hji)) h3.1 (h3.2.1 hjz) ?_⟩) h2
   ·intro k ok hk hki hkun hkno;refine hfree k ok hk hki ?_ hkno;rcases Decidable.em (j=k) with rfl|hjk
    ·exact hjun
    ·rw[getD_set_ne J hjk] at hkun;exact hkun
   ·rw[Array.setIfInBounds_comm _ _ hji];exact h3.2.2
theorem j7V {i:Nat}{oi:Oper}{v:Value}{n:Nat}{on:Array Bool}{a:Act}{w:World}(hi:ops[i]? = H oi)(hs:Region.noSelect ops=J)(hf:Region.free md ops on i=J)(hr:(Region.ready md ops on).contains i=J)(hz:j13 md ops z i=J)
 (hQ:∀c a w,am (.panic c) (a.put oi.dst v) w->am (.panic c) a w) (hy:YieldsIf P ops S oi v a) (hS:S w) (h:Q5 P md ops am S z n (on.setIfInBounds i J) (a.put oi.dst v) w):Q5 P md ops am S z (n+1) on a w:=
 jEv hi (Region.noSelect_spec hs) hz hQ n on a w (Region.free_spec hi hf) (by simpa using hr) hy hS h
theorem jFB {i:Nat}{oi:Oper}{v:Value}{n:Nat}{on:Array Bool}{a:Act}{w:World}(d:Option Tmp)(hi:ops[i]? = H oi)(hd:oi.dst=d)(hb:(Region.noSelect ops&&(Region.free md ops on i&&((Region.ready md ops on).contains i&&j13 md ops z i)))=J)
 (hQ:∀c a w,am (.panic c) (a.put d v) w->am (.panic c) a w) (hy:YieldsIf P ops S oi v a) (hS:S w) (h:Q5 P md ops am S z n (on.setIfInBounds i J) (a.put d v) w):Q5 P md ops am S z (n+1) on a w:=by
 simp only[Bool.and_eq_true] at hb;subst hd;exact j7V hi hb.1 hb.2.1 hb.2.2.1 hb.2.2.2 hQ hy hS h
theorem jEw {i:Nat}{n:Nat}{on:Array Bool}{a:Act}{w:World}(hr:Region.ready md ops on=[i])(h:wpOp P ops am i (fun a' w'=>(i≠z->S w')/\Q5 P md ops am S z n (on.setIfInBounds i J) a' w') a w):Q5 P md ops am S z (n+1) on a w:=
 ⟨fun h0=>(by rw[hr] at h0;cases h0),fun j hj=>(by rw[hr] at hj;obtain rfl:=List.mem_singleton.1 hj;exact h)⟩
theorem j10 {n:Nat}{on:Array Bool}{a:Act}{w:World}(hr:Region.ready md ops on=[])(h:am .normal a w):Q5 P md ops am S z n on a w:=by
 cases n with
 | zero=>exact⟨hr,h⟩
 | succ n=>exact⟨fun _=>h,by rw[hr];simp⟩
theorem I5 {i:Nat}{o:Oper}{n:Nat}{on:Array Bool}{a:Act}{w:World}(hr:Region.ready md ops on=[i])(ho:ops[i]? = H o)(hg:o.guard=G)
 (h:∀K':Act->World->Prop,Hid (∀a w,(i≠z->S w)->((i≠z->S w)->Q5 P md ops am S z n (on.setIfInBounds i J) a w)->K' a w)->o.wp P a w K' am):Q5 P md ops am S z (n+1) on a w:=by
 refine jEw hr ?_;unfold wpOp;rw[ho];simp only[Region.wanted,hg,if_true];exact .inl (h _ (fun a w hS hW=>⟨hS,hW hS⟩))
theorem j12 {id:Nat}{a:Act}{w:World}(S:World->Prop)(z:Nat)(hm:P.follows .mixedOrders=J)(hS:S w.drew)(h:S w.drew->Q5 P .any ops am S z ops.size (Array.replicate ops.size R) a w.drew):(Code.region id ops J).wp P am a w:=
 wp_region_any hm (j7U _ _ _ _ (h hS))
end
section
variable {P:Program} {ops:Array Oper} {am:Exit->Act->World->Prop} {md:Region.Mode} {S:World->Prop} {z:Nat}
theorem tb (i d:Nat){oi:Oper}{v:Value}{n:Nat}{on:Array Bool}{a a':Act}{w:World}(hS:S w)(h:Q5 P md ops am S z n (on.setIfInBounds i J) a' w)(hi:ops[i]? = H oi:=by exact rfl)(hd:oi.dst=H d:=by exact rfl)(hb:(Region.noSelect ops&&(Region.free md ops on i&&((Region.ready md ops on).contains i&&j13 md ops z i)))=J:=by kernel_rfl)(hg:Region.wanted oi (yielded ops a.tmps)=J:=by exact rfl)(hy:∀w,S w->(execOp a.eval oi).run P w=.ok (.value v) w:=by intro w' hSw;clear hSw;go_simp;try with_reducible rfl)(ha:a.put (H d) v=a':=by conv=>lhs;simp only[Act.put,Sz0,Sz1,Sz2])(hQ:∀c a w,am (.panic c) (a.put (H d) v) w->am (.panic c) a w:=by exact fun _ _ _ h=>h):Q5 P md ops am S z (n+1) on a w:=by
 subst ha;simp only[Bool.and_eq_true] at hb;rw[<- hd] at h hQ;exact j7V hi hb.1 hb.2.1 hb.2.2.1 hb.2.2.2 hQ (.inl ⟨hg,hy⟩) hS h
end
end
section
open Go.RowKit
theorem j6q {P:Program}(w:World)(base:Nat)(t ty e:TypeId)(i:TypeInfo)(z:Value)(size bytes:Nat)(h1:P.underlying t=H (.slice e))(h2:P.info? e=H i)(h3:i.zero=H z)(h4:i.size=size)(h5:i.bytes=bytes)(h6:z.cells.size=size)(h7:0<size)
 (v:Value) (n:Nat) (xs:List Value) (hown:w.ownsRow base e size v n xs)
 (ad:Addr) (m c:Nat) (news:List Value) (hn:news.length=m*size) (hc:∀j u,news[j]? = H u->w.cell? (ad.add j)=H u) (h1c:∀u∈news,u.oneCell'=J)
 (hm:0<m) (b1:n+m<=maxLen) (b2:(n+m)*bytes<=140737488355328) (hbase:base<=w.heap.size) :
 ∃g c' w',(Builtin.append_ #[t,t] ty #[v,U (H ad) m c]).run P w=.ok (U (H ⟨g,0,G⟩) (n+m) c') w'/\w'.ownsRow base e size (U (H ⟨g,0,G⟩) (n+m) c') (n+m) (xs++news)/\w.grownBy w' v.ownBlock/\(v.ownBlock=H g∨w.heap.size<=g):=by
 have fin:∀v' w',(Builtin.append_ #[t,t] ty #[v,U (H ad) m c]).run P w=.ok v' w'->w'.ownsRow w.heap.size e size v' (n+m) (xs++news)->w.grownBy w' G ->
  ∃g c' w',(Builtin.append_ #[t,t] ty #[v,U (H ad) m c]).run P w=.ok (U (H ⟨g,0,G⟩) (n+m) c') w'/\w'.ownsRow base e size (U (H ⟨g,0,G⟩) (n+m) c') (n+m) (xs++news)/\w.grownBy w' v.ownBlock/\(v.ownBlock=H g∨w.heap.size<=g):=by
  intro v' w' hrun ho hgr;rcases ho.2 with ⟨_,h0⟩|⟨g,c',cur,rfl,hbg,r⟩
  ·omega
  ·exact⟨g,c',w',hrun,⟨ho.1,.inr ⟨g,c',cur,rfl,Nat.le_trans hbase hbg,r⟩⟩,⟨hgr.os,hgr.tape,hgr.output,hgr.size,fun k hk _=>hgr.block k hk (by simp)⟩,.inr hbg⟩
 have hown':=hown;rcases hown with ⟨hxl,⟨rfl,rfl⟩|⟨g,cap,cur,rfl,hb,hgg,hnc,hcm,hcs,htk⟩⟩
 ·have hxs:xs=[]:=List.length_eq_zero_iff.1 (by rw[hxl];simp);subst hxs;obtain⟨v',w',hrun,r1,r2,_⟩:=run_append_own (P:=P) w w.heap.size t ty e i z size bytes h1 h2 h3 h4 h5 h6 h7 (U G 0 0) 0 [] (World.ownsRow_nil w _ e size) ad m c news hn hc h1c b1 b2 (Nat.le_refl _);exact fin v' w' hrun r1 r2
 ·by_cases hfit:n+m<=cap
  ·obtain⟨w',hrun,r1,r2⟩:=run_append_fits (P:=P) w base t ty e i size h1 h2 h4 g n cap xs hown' ad m c news hn hc h1c hfit;exact⟨g,cap,w',hrun,r1,r2,.inl rfl⟩
  ·obtain⟨v',w',hrun,r1,r2⟩:=run_append_arg_grows (P:=P) w t ty e i z size bytes h1 h2 h3 h4 h5 h6 h7 ⟨g,0,G⟩ n cap xs hxl (hown'.cells rfl) ad m c news hn hc (by omega) b1 b2;exact fin v' w' hrun r1 r2
theorem j0W {P:Program}(w:World){o:Oper}{a:Act}{K:Act->World->Prop}{am:Exit->Act->World->Prop}(s x:Operand)(t:TypeId)(ho:o.op=Op.call { callee:=Callee.builtin Builtin.append,args:=#[s,x],argTypes:=#[t,t] })
 (base:Nat) (e:TypeId) (i:TypeInfo) (z:Value) (size bytes:Nat) (h1:P.underlying t=H (.slice e)) (h2:P.info? e=H i) (h3:i.zero=H z) (h4:i.size=size) (h5:i.bytes=bytes) (h6:z.cells.size=size) (h7:0<size)
 (v:Value) (n:Nat) (xs:List Value) (hs:a.eval s=v) (hown:w.ownsRow base e size v n xs)
 (ad:Addr) (m c:Nat) (news:List Value) (hx:a.eval x=U (H ad) m c) (hn:news.length=m*size) (hc:∀j u,news[j]? = H u->w.cell? (ad.add j)=H u) (h1c:∀u∈news,u.oneCell'=J)
 (hm:0<m) (b1:n+m<=maxLen) (b2:(n+m)*bytes<=140737488355328) (hbase:base<=w.heap.size)
 (h:∀g c' w',w'.ownsRow base e size (U (H ⟨g,0,G⟩) (n+m) c') (n+m) (xs++news)->w.grownBy w' v.ownBlock->(v.ownBlock=H g∨w.heap.size<=g)->K (a.put o.dst (U (H ⟨g,0,G⟩) (n+m) c')) w'):o.wp P a w K am:=by
 obtain⟨g,c',w',hr,h2',h3',h4'⟩:=j6q (P:=P) w base t o.type e i z size bytes h1 h2 h3 h4 h5 h6 h7 v n xs hown ad m c news hn hc h1c hm b1 b2 hbase;unfold Oper.wp execOp;simp only[ho,resolve,invoke,builtin,Sem.run_bind,Sem.run_pure,Result.andThen_ok,List.map_toArray,List.map_cons,List.map_nil,hs,hx,hr];exact h g c' w' h2' h3' h4'
theorem D8.move {w w':World}{b b':Nat}:∀ {ts:List Nd} {o:Nat} {fp:List Nat},D8 w b o ts fp->(∀o' cs,o<=o'->o'+cs.length<=o+ts.length*15->w.rangeAt b o' cs->w'.rangeAt b' o' cs)->(∀b∈fp,w'.heap[b]? = w.heap[b]?)->D8 w' b' o ts fp
 | [],_,_,h,_,_=>by rw[D8] at h ⊢;exact h
 | t::ts,o,fp,h,hr,hF=>by
  rw[D8] at h ⊢;obtain⟨sl,f1,f2,h1,h2,rfl,h4⟩:=h;refine⟨sl,f1,f2,hr o _ (Nat.le_refl _) (by simp;omega) h1,D2.mono h2 (fun b hb=>hF b (List.mem_append_left _ hb)),rfl,?_⟩;exact D8.move h4 (fun o' cs g1 g2 g3=>hr o' cs (by omega) (by simp at g2 ⊢;omega) g3) (fun b hb=>hF b (List.mem_append_right _ hb))
theorem Own.row {w:World}{B:Nat}{v:Value}{h:Hd}{us:List Nd}{fp:List Nat}(q:Own w B v (.mk h us) fp):∃xs,w.ownsRow B 48 15 v us.length xs:=by
 have q1:=q.own;rw[D2] at q1;rcases q1 with ⟨rfl,rfl,_⟩|⟨b,c,fps,cs,rfl,h2,h3,h4,h5,h6,rfl,h8⟩
 ·exact⟨[],World.ownsRow_nil _ _ _ _⟩
 ·refine⟨cs.toList.take (us.length*15),?_,.inr ⟨b,c,cs,rfl,(q.new b (List.mem_cons_self)).1,h5,h3,h4,h6,rfl⟩⟩;have hl:cs.toList.length=c*15:=by simpa using h6
  rw[List.length_take,hl];exact Nat.min_eq_left (Nat.mul_le_mul_right 15 h3)
theorem R5 (b off i:Nat):(⟨b,off,G⟩:Addr).add i=⟨b,off+i,G⟩:=by unfold Addr.add;split <;> simp_all
theorem Own.grow {w w':World}{B:Nat}{v:Value}{h:Hd}{us:List Nd}{fp:List Nat}{xs:List Value}(q:Own w B v (.mk h us) fp)(hx:w.ownsRow B 48 15 v us.length xs)
 {sl:Value} {u:Nd} {f:List Nat} (hu:Own w B sl u f) (hd:∀b∈f,b∉fp) {g c:Nat}
 (ho:w'.ownsRow B 48 15 (U (H ⟨g,0,G⟩) (us.length+1) c) (us.length+1) (xs++u.hd.cells sl)) (hg:w.grownBy w' v.ownBlock) (ht:v.ownBlock=H g∨w.heap.size<=g) (h':Hd) :
 ∃fp',Own w' B (U (H ⟨g,0,G⟩) (us.length+1) c) (.mk h' (us++[u])) fp':=by
 have hcell:∀j x,(xs++u.hd.cells sl)[j]? = H x->w'.cell? ⟨g,j,G⟩=H x:=fun j x hj=>by
  have:=ho.cells (g:=g) rfl j x hj;rw[R5,Nat.zero_add] at this;exact this
 have hrow:∃cur,w'.heap[g]? = H (.cells cur 48 (0,0))/\B<=g/\us.length+1<=c/\c<=maxLen/\cur.size=c*15:=by
  rcases ho.2 with ⟨e,_⟩|⟨g',c',cur,e,hbg,hgg,hnc,hcm,hcs,_⟩
  ·cases e
  ·simp only[Value.slice.injEq,Option.some.injEq,Addr.mk.injEq] at e;obtain⟨⟨rfl,_⟩,_,rfl⟩:=e;exact⟨cur,hgg,hbg,hnc,hcm,hcs⟩
 obtain⟨cur,hgg,hbg,hnc,hcm,hcs⟩:=hrow;have hgl:g<w'.heap.size:=(Array.getElem?_eq_some_iff.1 hgg).1;have hxl:xs.length=us.length*15:=hx.1;have hru:w'.rangeAt g (0+us.length*15) (u.hd.cells sl):=by
  intro j x hj;refine hcell _ _ ?_;rw[List.getElem?_append_right (by omega),show 0+us.length*15+j-xs.length=j by omega];exact hj
 have q1:=q.own;rw[D2] at q1;rcases q1 with ⟨rfl,rfl,rfl⟩|⟨b,c0,fps,cs,rfl,h2,h3,h4,h5,h6,rfl,h8⟩
 ·have hu':D2 w' sl u f:=hu.own.mono (fun b hb=>hg.block b (hu.new b hb).2 (by simp[Value.ownBlock]));have hgn:w.heap.size<=g:=by
   rcases ht with e|e
   ·simp[Value.ownBlock] at e
   ·exact e
  refine⟨g::f,?_,?_,?_⟩
  ·rw[D2];refine .inr ⟨g,c,f,cur,by simp,by simp,by simpa using hnc,hcm,hgg,hcs,rfl,?_⟩;have:=D8.snoc (b:=g) (us:=[]) (o:=0) (fps:=[]) hu' (by rw[D8]) hru
   simpa using this
  ·rw[List.nodup_cons];exact⟨fun hb=>by have:=(hu.new g hb).2;omega,hu.nodup⟩
  ·intro b hb;rcases List.mem_cons.1 hb with rfl|hb
   ·exact⟨hbg,hgl⟩
   ·exact⟨(hu.new b hb).1,Nat.lt_of_lt_of_le (hu.new b hb).2 hg.size⟩
 ·have hnd:=q.nodup;rw[List.nodup_cons] at hnd;have hblk:∀k,k<w.heap.size->k≠b->w'.heap[k]? = w.heap[k]?:=fun k hk hne=>hg.block k hk (by simpa [Value.ownBlock] using hne)
  have hfb:∀k∈f,k≠b:=fun k hk e=>hd k hk (e ▸ List.mem_cons_self)
  have hpb:∀k∈fps,k≠b:=fun k hk e=>hnd.1 (e ▸ hk)
  have hu':D2 w' sl u f:=hu.own.mono (fun k hk=>hblk k (hu.new k hk).2 (hfb k hk));have hxc:∀j,j<us.length*15->xs[j]? = w.cell? ⟨b,j,G⟩:=by
   intro j hj;rcases hx.2 with ⟨e,_⟩|⟨g',c',cur',e,_,hgg',_,_,_,htk⟩
   ·cases e
   ·simp only[Value.slice.injEq,Option.some.injEq,Addr.mk.injEq] at e;obtain⟨⟨rfl,_⟩,_⟩:=e;rw[cell_of_row w b j cur' _ _ hgg',<- htk,List.getElem?_take_of_lt hj];simp
  have hus:D8 w' g 0 us fps:=by
   refine h8.move (fun o' cs' _ h10 hr=>?_) (fun k hk=>hblk k (q.new k (List.mem_cons_of_mem _ hk)).2 (hpb k hk));intro j x hj;have hjl:j<cs'.length:=(List.getElem?_eq_some_iff.1 hj).1;refine hcell _ _ ?_;rw[List.getElem?_append_left (by omega),hxc _ (by omega)];exact hr j x hj
  have hgn:g=b∨w.heap.size<=g:=by
   rcases ht with e|e
   ·simp[Value.ownBlock] at e;exact .inl e.symm
   ·exact .inr e
  refine⟨g::(fps++f),?_,?_,?_⟩
  ·rw[D2];refine .inr ⟨g,c,fps++f,cur,by simp,by simp,by simpa using hnc,hcm,hgg,hcs,rfl,D8.snoc hu' hus hru⟩
  ·rw[List.nodup_cons];refine⟨fun hb=>?_,?_⟩
   ·rcases List.mem_append.1 hb with hb|hb
    ·rcases hgn with e|e
     ·exact hpb g hb e
     ·have:=(q.new g (List.mem_cons_of_mem _ hb)).2;omega
    ·rcases hgn with e|e
     ·exact hfb g hb e
     ·have:=(hu.new g hb).2;omega
   ·rw[List.nodup_append];exact⟨hnd.2,hu.nodup,fun k hk k' hk' e=>hd k' hk' (e ▸ List.mem_cons_of_mem _ hk)⟩
  ·intro k hk;rcases List.mem_cons.1 hk with rfl|hk
   ·exact⟨hbg,hgl⟩
   ·rcases List.mem_append.1 hk with hk|hk
    ·exact⟨(q.new k (List.mem_cons_of_mem _ hk)).1,Nat.lt_of_lt_of_le (q.new k (List.mem_cons_of_mem _ hk)).2 hg.size⟩
    ·exact⟨(hu.new k hk).1,Nat.lt_of_lt_of_le (hu.new k hk).2 hg.size⟩
def isF (f:Int):Bool:=decide (1<=f)&&decide (f<=5)
theorem j5i (f:Int)(w:World):Calls prog 118 #[O I f] w fun e w'=>e=Q (E (isF f))/\w'=w:=by
 have hV:Hid (isF f=(decide (1<=f)&&decide (f<=5))):=rfl;generalize isF f=V at *;go_enter func118,ntmps118;go_wp2;all_goals
  go_ret;refine⟨j4 ?_,rfl⟩;rw[hV.o];clear hV
  (try simp_all) <;> (try omega)
def J6 (v:Vl):Bool:=(v.k==1 || (v.x:Int)==0)&&(v.k==2 || decide (v.s.toList=[]))&&(v.k==3 || !v.b)&&(v.k==4 || v.f==0)
theorem j4M (v:Vl)(w:World):Calls prog 116 #[v.val] w fun e w'=>e=Q (E (J6 v))/\Gr w w':=by
 have G0:Hid (∀a t,Gr w (w.alloc (.cells a t))):=fun a t=>(Gr.refl w).alloc _ _
 have hV:Hid (J6 v=((v.k==1 || (v.x:Int)==0)&&(v.k==2 || decide (v.s.toList=[]))&&(v.k==3 || !v.b)&&(v.k==4 || v.f==0))):=rfl;generalize J6 v=V at *;obtain⟨k,x,s,b,f⟩:=v;simp only at *;go_enter func116,ntmps116;go_wp2;all_goals
  go_ret;refine⟨j4 ?_,G0.o _ _⟩;rw[hV.o];clear hV G0;simp_all
def J8 (v:Vl) (u:Bool):Bool:=J6 v&&(v.k==0 || v.k==1 || v.k==3 || (v.k==2&&decide (v.s.size<=1024)&&u)||(v.k==4&&isF v.f))
theorem jEa (v:Vl)(u:Bool)(w:World)
 (aj:Hid (v.k=2->∀wq,Gr w wq->Calls prog 117 #[aq v.s] wq fun e w'=>e=Q (E u)/\Gr wq w')) :
 Calls prog 85 #[v.val] w fun e w'=>e=Q (E (J8 v u))/\Gr w w':=by
 have H1:=h_ (j4M v);have H2:=h_ (j5i v.f);have hV:Hid (J8 v u=(J6 v&&(v.k==0 || v.k==1 || v.k==3 || (v.k==2&&decide (v.s.size<=1024)&&u)||(v.k==4&&isF v.f)))):=rfl;generalize J8 v u=V at *;generalize J6 v=B at *;generalize isF v.f=ab at *;obtain⟨k,x,s,b,f⟩:=v;simp only at *;go_enter func85,ntmps85;go_wp2_with fail;refine(H1.o _).mono ?_;rintro e w1 ⟨rfl,hg1⟩;have hcell:=hg1.ext.cell;have G1:=h_ (((Gr.refl _).alloc _ _).trans hg1);clear hg1 H1;cases B
 ·go_wp2_with fail;go_ret;exact⟨j4 (by rw[hV.o];rfl),G1.o⟩
 ·by_cases k2:k=2
  ·have U2:=h_ (aj.o k2);subst k2;clear aj;go_wp2_with (go_at_call 117;refine(U2.o _ G1.o).mono ?_;rintro e w2 ⟨rfl,hg2⟩;have G2:Hid (Gr w w2):=G1.o.trans hg2;clear hg2 hcell)
   ·go_ret;refine⟨j4 ?_,G2.o⟩;rw[hV.o];clear hV;simp_all
    try omega
   ·go_ret;refine⟨j4 ?_,G1.o⟩;rw[hV.o];clear hV;simp_all
    try omega
  ·clear aj;go_wp2_with (go_at_call 118;refine(H2.o _).mono ?_;rintro e w2 ⟨rfl,rfl⟩);all_goals
    go_ret;refine⟨j4 ?_,G1.o⟩;rw[hV.o];clear hV hcell H2;simp_all
theorem j5h:(prog.info? 43).map (·.size)=H 5:=by kernel_rfl
def J9 (v:Vl):Bool:=v.k==0&&J6 v
theorem jAZ (v:Vl)(w:World):Calls prog 83 #[v.val] w fun e w'=>e=Q (E (J9 v))/\Gr w w':=by
 have H1:Hid (v.k=0->∀wq,Calls prog 85 #[v.val] wq fun e w'=>e=Q (E (J6 v))/\Gr wq w'):=by
  intro hk wq;have:=jEa v R wq (fun h2=>absurd h2 (by rw[hk];decide));rw[show J8 v R=J6 v from by unfold J8;rw[hk];simp] at this;exact this
 have hV:Hid (J9 v=(v.k==0&&J6 v)):=rfl;generalize J9 v=V at *;generalize J6 v=B at *;obtain⟨k,x,s,b,f⟩:=v;simp only at *;by_cases k0:k=0
 ·have H2:=h_ (H1.o k0);subst k0;clear H1;go_enter func83,ntmps83;go_wp2_with fail;refine(H2.o _).mono ?_;rintro e w1 ⟨rfl,hg1⟩;have G1:=h_ (((Gr.refl _).alloc _ _).trans hg1);clear hg1 H2;go_wp2_with fail;go_ret;exact⟨j4 (by rw[hV.o];rfl),G1.o⟩
 ·clear H1;have hk:(k==0)=R:=by simpa using k0
  have G1:Hid (∀a t,Gr w (w.alloc (.cells a t))):=fun a t=>(Gr.refl w).alloc _ _
  go_enter func83,ntmps83;go_wp2_with fail;go_ret;exact⟨j4 (by rw[hV.o,hk];rfl),G1.o _ _⟩
theorem jBw (x:Nat)(hx:x<18446744073709551616)(w:World):
 Calls prog 87 #[ap ao x] w fun e w'=>e=Q (T #[O I 1,ap ao (one x),aq ⟨#[]⟩,E R,O I 0])/\Gr w w':=by
 have H1:=h_ (j2B x hx);generalize one x=y at *;go_enter func87,ntmps87;go_wp2_with (go_at_call 108;refine(H1.o _).mono ?_;rintro e w' ⟨rfl,rfl⟩);refine bodyPost_ret (results_cell_row rfl _ _ w.heap.size 43 _ (0,0) _ rfl (heap_alloc_new _ _) underlying43 rfl j5h) rfl ?_;exact⟨rfl,(Gr.refl _).alloc _ _⟩
end
section
open Go.RowKit Go.Shelf
inductive By (e:TypeId) (w:World):Option Nat->Value->List Value->Prop
 | none:By e w G (U G 0 0) []
 | some {b n cap:Nat} {cur:Array Value} {fz:Nat×Nat} {xs:List Value} (hn:xs.length=n) (hb:w.heap[b]? = H (.cells cur e fz)) (hf:∀i,i<cur.size->¬(fz.1<=i/\i<fz.2)) (hc:cur.size=cap) (ht:cur.toList.take n=xs) (h1:∀u∈xs,u.oneCell'=J):By e w (H b) (U (H ⟨b,0,G⟩) n cap) xs
theorem j7X {P:Program}{w:World}{ops:Array Oper}{rest:List Oper}{o:Oper}{a:Act}{am:Exit->Act->World->Prop}(hgd:o.guard=G)(s x:Operand)(t tx:TypeId)(ho:o.op=Op.call { callee:=Callee.builtin Builtin.append,args:=#[s,x],argTypes:=#[t,tx] })
 (v1 v2 v':Value) (w':World) (hs:a.eval s=v1) (hx:a.eval x=v2) (hr:(Builtin.append_ #[t,tx] o.type #[v1,v2]).run P w=.ok v' w') (h:wpList P ops am rest (a.put o.dst v') w'):wpList P ops am (o::rest) a w:=by
 refine wpList_plain hgd fun K hK=>?_
 unfold Oper.wp execOp;simp only[ho,resolve,invoke,builtin,Sem.run_bind,Sem.run_pure,Result.andThen_ok,List.map_toArray,List.map_cons,List.map_nil,hs,hx,hr];exact hK _ _ h
end
section
open Go.RowKit Go.Sort Go.Lib
def Grn (w w':World):Prop:=∃q os,w'=Sort.grow (w.drewN q) os
namespace Grn
theorem refl (w:World):Grn w w:=⟨0,#[],by rw[Sort.grow_empty];rfl⟩
theorem alloc {w w1:World}(h:Grn w w1)(o:Obj):Grn w (w1.alloc o):=by
 obtain⟨q,os,rfl⟩:=h;exact⟨q,os ++ #[o],by rw[Sort.alloc_eq_grow,Sort.grow_grow]⟩
theorem drew {w w1:World}(h:Grn w w1):Grn w w1.drew:=by
 obtain⟨q,os,rfl⟩:=h;exact⟨q+1,os,rfl⟩
theorem trans {w w1 w2:World}(h:Grn w w1)(g:Grn w1 w2):Grn w w2:=by
 obtain⟨q,os,rfl⟩:=h;obtain⟨q',os',rfl⟩:=g;refine⟨q+q',os++os',?_⟩;rw[<- Sort.grow_grow];show Sort.grow (Sort.grow ((w.drewN q).drewN q') os) os'=_
 congr 1
 unfold World.drewN;simp[Nat.add_assoc]
theorem kp {w w1:World}(h:Grn w w1){S:Nat->Prop}:Kp w w1 S:=by
 obtain⟨q,os,rfl⟩:=h;refine⟨rfl,rfl,rfl,?_,fun i hi _=>Sort.heap_grow_old (w.drewN q) os hi⟩;rw[Sort.size_grow];exact Nat.le_add_right _ _
end Grn
theorem jCJ (c r d s:Int)(w:World):
 Calls prog 154 #[T #[O I c,O I r],T #[O I d,O I s]] w fun e w'=>e=Q (O I (ordC c r d s))/\Grn w w':=by
 have G1:Hid (∀a t,Grn w (((w.alloc (.cells #[O I c,O I r] 32)).alloc (.cells #[O I d,O I s] 32)).alloc (.cells a t))):=fun a t=>(((Grn.refl w).alloc _).alloc _).alloc _
 have H1:=h_ (j6C r s);have H2:=h_ (j6C c d);have H3:Hid (∀t,Calls prog 171 #[U (H ⟨w.heap.size+1+1,0,G⟩) 2 2] (((w.alloc (.cells #[O I c,O I r] 32)).alloc (.cells #[O I d,O I s] 32)).alloc (.cells #[O I (cmpI r s),O I (cmpI c d)] t)).drew fun e w'=>e=Q (O I (ordC c r d s))/\Grn w w'/\w'.cell? ⟨w.heap.size,0,G⟩=H (O I c)/\w'.cell? ⟨w.heap.size,1,G⟩=H (O I r)/\w'.cell? ⟨w.heap.size+1,0,G⟩=H (O I d)/\w'.cell? ⟨w.heap.size+1,1,G⟩=H (O I s)):=fun t=>by
  have hh:=j1I ((w.alloc (.cells #[O I c,O I r] 32)).alloc (.cells #[O I d,O I s] 32)) (O I (cmpI r s)) (O I (cmpI c d)) t;rw[World.size_alloc,World.size_alloc] at hh;unfold ordC;refine Calls.mono (jCI (w.heap.size+1+1) (cmpI r s) (cmpI c d) _ ?_ ?_) ?_
  ·exact hh.1.1
  ·exact hh.1.2
  intro e w' h;refine⟨h.1,?_⟩;rw[h.2];have ga:=(j1I w (O I c) (O I r) 32).gr (((Gr.refl _).alloc #[O I d,O I s] 32).alloc #[O I (cmpI r s),O I (cmpI c d)] t);have gb:=(j1I (w.alloc (.cells #[O I c,O I r] 32)) (O I d) (O I s) 32).gr ((Gr.refl _).alloc #[O I (cmpI r s),O I (cmpI c d)] t);rw[World.size_alloc] at gb;exact⟨(G1.o _ _).drew,ga.1.1,ga.1.2,gb.1.1,gb.1.2⟩
 generalize ordC c r d s=V at *;generalize cmpI r s=p at *;generalize cmpI c d=q at *;go_enter func154,ntmps154;go_wp2_with fail;go_region_held3 (fun w'=>w'.cell? ⟨w.heap.size,0,G⟩=H (O I c)/\w'.cell? ⟨w.heap.size,1,G⟩=H (O I r)/\w'.cell? ⟨w.heap.size+1,0,G⟩=H (O I d)/\w'.cell? ⟨w.heap.size+1,1,G⟩=H (O I s)) (go_keep) (first
  | (go_at_call_of 136 (O I r);refine(H1.o _).mono ?_;rintro e w' ⟨rfl,rfl⟩)
  | (go_at_call_of 136 (O I c);refine(H2.o _).mono ?_;rintro e w' ⟨rfl,rfl⟩)
  | (go_at_call 171;refine(H3.o _).mono ?_;rintro e w' ⟨rfl,hg,k0,k1,k2,k3⟩))
 all_goals
  have HG:=h_ hg;clear hg;go_wp2_with fail;go_ret;exact⟨rfl,HG.o⟩
section
variable {α:Type} {lt:α->α->Bool}
theorem j70 (hi:∀x,lt x x=R)(ht:∀x y z,lt x y=J->lt y z=J->lt x z=J):∀ {l l':List α},l.Pairwise (fun x y=>lt x y=J)->l'.Pairwise (fun x y=>lt x y=J)->(∀x,x∈l↔x∈l')->l=l'
 | [],[],_,_,_=>rfl
 | [],y::ys,_,_,h=>by have:=(h y).2 (List.mem_cons_self ..);cases this
 | x::xs,[],_,_,h=>by have:=(h x).1 (List.mem_cons_self ..);cases this
 | x::xs,y::ys,h1,h2,h=>by
  have p1:=List.pairwise_cons.1 h1;have p2:=List.pairwise_cons.1 h2;have exy:x=y:=by
   rcases List.mem_cons.1 ((h x).1 (List.mem_cons_self ..)) with e|e
   ·exact e
   ·rcases List.mem_cons.1 ((h y).2 (List.mem_cons_self ..)) with e' | e'
    ·exact e'.symm
    ·have:=ht _ _ _ (p1.1 y e') (p2.1 x e);rw[hi] at this;cases this
  subst exy
  congr 1
  refine j70 hi ht p1.2 p2.2 (fun z=>⟨fun hz=>?_,fun hz=>?_⟩)
  ·rcases List.mem_cons.1 ((h z).1 (List.mem_cons_of_mem _ hz)) with e|e
   ·subst e;have:=p1.1 z hz;rw[hi] at this;cases this
   ·exact e
  ·rcases List.mem_cons.1 ((h z).2 (List.mem_cons_of_mem _ hz)) with e|e
   ·subst e;have:=p2.1 z hz;rw[hi] at this;cases this
   ·exact e
variable [Inhabited α]
theorem jBG (hO:SWO lt)(d:List α):∀i j,i<j->j<(d.mergeSort (fun x y=>!lt y x)).toArray.size->lt ((d.mergeSort (fun x y=>!lt y x)).toArray[j]!) ((d.mergeSort (fun x y=>!lt y x)).toArray[i]!)=R:=by
 have hp:=List.pairwise_mergeSort (le:=fun x y=>!lt y x) (fun a b c h1 h2=>by
  simp only[Bool.not_eq_true'] at h1 h2 ⊢;exact hO.ntrans c b a h2 h1) (fun a b=>by
  cases h:lt b a
  ·rfl
  ·cases h':lt a b
   ·rfl
   ·have:=hO.trans _ _ _ h h';rw[hO.irrefl] at this;cases this) d
 intro i j hij hj;have hj':j<(d.mergeSort (fun x y=>!lt y x)).length:=by simpa using hj
 have:=List.pairwise_iff_getElem.1 hp i j (by omega) hj' hij;rw[getElem!_pos _ j hj,getElem!_pos _ i (by omega)]
 simpa using this
end
def j0M (w:World) (b o:Nat) (L:List (Int×Int)):Prop:=∀i x,L[i]? = H x->w.cell? ⟨b,o+i*2,G⟩=H (O I x.1)/\w.cell? ⟨b,o+i*2+1,G⟩=H (O I x.2)
theorem j0M.kp {w w':World}{b o:Nat}{L:List (Int×Int)}{S:Nat->Prop}(h:j0M w b o L)(g:Kp w w' S)(hb:¬S b):j0M w' b o L:=fun i x hx=>by
 obtain⟨h1,h2⟩:=h i x hx;have e:=g.block b (J7 h1) hb;have ec:∀j,w'.cell? ⟨b,j,G⟩=w.cell? ⟨b,j,G⟩:=fun j=>by simp only[World.cell?];rw[e]
 rw[ec,ec];exact⟨h1,h2⟩
section
variable {α:Type} [Inhabited α] {enc:α->List Value} {k:Nat}
def j2k (enc:α->List Value) (k:Nat) (w:World) (b o:Nat) (A:List α):Prop:=∀(i:Nat) (x:α),A[i]? = H x->∀(t:Nat) (v:Value),(enc x)[t]? = H v->w.cell? ⟨b,o+i*k+t,G⟩=H v
theorem jAN {w:World}{b o:Nat}{d:Array α}(hk:∀x,(enc x).length=k)(h:HoldsK enc k w b o d):j2k enc k w b o d.toList:=fun i x hx t v hv=>by
 obtain⟨hi,hx⟩:=List.getElem?_eq_some_iff.1 hx;obtain⟨ht,hv⟩:=List.getElem?_eq_some_iff.1 hv;have hi':i<d.size:=by simpa using hi
 have:=(h.cell (i:=i) (c:=t) hi' (by rw[<- hk x];exact ht)).1;have ex:d[i]! = x:=by rw[getElem!_pos d _ hi',<- hx];simp
 rw[ex,getElem!_pos (enc x) _ ht,hv] at this;exact this
theorem jCE {w:World}{base:Nat}{ak:TypeId}{v:Value}{n:Nat}{d:Array α}(h:w.ownsRow base ak k v n (flatK enc k d).toList):v=U G 0 0∨∃g cap,v=U (H ⟨g,0,G⟩) n cap/\base<=g/\g<w.heap.size/\HoldsK enc k w g 0 d/\n<=cap/\cap<=maxLen:=by
 obtain⟨hl,h⟩:=h;rcases h with ⟨h1,_⟩|⟨g,cap,cur,hv,hb,hc,h1,h2,h3,h4⟩
 ·exact .inl h1
 ·refine .inr ⟨g,cap,hv,hb,?_,fun j hj=>?_,h1,h2⟩
  ·rcases Nat.lt_or_ge g w.heap.size with c|c
   ·exact c
   ·rw[Array.getElem?_eq_none c] at hc;cases hc
  ·have e:(flatK enc k d).toList[j]? = cur.toList[j]?:=by
    rw[<- h4,List.getElem?_take];have:j<n*k:=(by rw[<- hl];simpa using hj);rw[if_pos this]
   rw[Array.getElem?_toList,Array.getElem?_toList] at e;constructor
   ·simp only[World.cell?,hc,Nat.zero_add];rw[<- e,getElem!_pos (flatK enc k d) j hj,Array.getElem?_eq_getElem hj]
    rfl
   ·simp[World.frozen?,hc]
end
def encA (x:Int×Int):List Value:=[O I x.1,O I x.2]
theorem j4z (x:Int×Int):(encA x).length=2:=rfl
theorem j32 (x:Int×Int):∀v∈encA x,v.oneCell'=J:=by
 intro v hv;simp only[encA,List.mem_cons,List.not_mem_nil,or_false] at hv;rcases hv with rfl|rfl <;> rfl
theorem j2k.cells {w:World}{b o:Nat}{A:List (Int×Int)}(h:j2k encA 2 w b o A):j0M w b o A:=fun i x hx=>⟨h i x hx 0 _ rfl,h i x hx 1 _ rfl⟩
def cfA (x y:Int×Int):Int:=ordC x.1 x.2 y.1 y.2
theorem j1i (x y:Int×Int):ltOf cfA x y=J↔x.2<y.2∨(x.2=y.2/\x.1<y.1):=by
 unfold ltOf cfA ordC cmpI;simp only[decide_eq_true_eq];repeat' split
 all_goals omega
theorem j1j (x y:Int×Int):ltOf cfA x y=R↔y.2<x.2∨(x.2=y.2/\y.1<=x.1):=by
 rw[<- Bool.not_eq_true,j1i];omega
theorem swoA:SWO (ltOf cfA):=⟨fun x=>by rw[j1j];omega,fun x y z h1 h2=>by rw[j1i] at *;omega,fun x y z h1 h2=>by rw[j1j] at *;omega⟩
theorem j2v (x y:Int×Int)(h1:ltOf cfA x y=R)(h2:ltOf cfA y x=R):x=y:=by
 rw[j1j] at h1 h2;exact Prod.ext (by omega) (by omega)
theorem j3J:∃i0,prog.info? 32=H i0/\i0.zero=H (T #[O I 0,O I 0])/\i0.size=2/\i0.bytes=16:=by
 have h:(prog.info? 32).map (fun i=>(i.zero,i.size,i.bytes))=H (H (T #[O I 0,O I 0]),2,16):=by kernel_rfl
 cases e:prog.info? 32 with
 | none=>rw[e] at h;cases h
 | some i=>
  rw[e] at h;simp only[Option.map_some,Option.some.injEq,Prod.mk.injEq] at h;exact⟨i,rfl,h⟩
def Own1 {α:Type} [Inhabited α] (enc:α->List Value) (k:Nat) (B:Nat) (w:World) (v:Value) (A:List α):Prop:=
 (A=[]/\v=U G 0 0)∨∃g cap,v=U (H ⟨g,0,G⟩) A.length cap/\B<=g/\g<w.heap.size/\HoldsK enc k w g 0 A.toArray/\A.length<=cap/\cap<=maxLen
theorem jE3 {α:Type}[Inhabited α](enc:α->List Value)(k:Nat)(w:World)(blk off m:Nat)(d:Array α)(os:Array Obj):Kp w (sortWorldK enc k w blk off m d os) (fun i=>i=blk):=by
 unfold sortWorldK;refine⟨rfl,rfl,rfl,?_,fun i hi hn=>?_⟩
 ·rw[size_grow,size_putRowK];exact Nat.le_add_right _ _
 ·have h1:i<(putRowK enc k (Sort.ahead w m) blk off d).heap.size:=by rw[size_putRowK];exact hi
  rw[heap_grow_old _ _ h1];show (mapBlock _ _ _).heap[i]? = _;unfold mapBlock;simp only[Array.getElem?_modify];rw[if_neg (fun e=>hn e.symm)]
  rfl
theorem jE4 (A:List (Int×Int))(v:Value)(B:Nat)(w:World)(hA:A.length<=1048576)(hv:Own1 encA 2 B w v A):
 Calls prog 153 #[v,.func (.func 154) #[] #[]] w fun e w'=>e=Q (au #[])/\Own1 encA 2 B w' v (A.mergeSort fun x y=>!(ltOf cfA) y x)/\Kp w w' (fun i=>B<=i):=by
 rcases hv with ⟨rfl,rfl⟩|⟨g,cap,rfl,h2,h3,h4,h5,h6⟩
 ·refine(AnyF.slices_SortFunc_none laySortFuncAddr G 0 _ w).mono ?_;rintro e w' ⟨rfl,rfl⟩;exact⟨rfl,.inl ⟨by simp,rfl⟩,Kp.refl _ _⟩
 ·have hcmp:CmpLays prog 154 #[] encA 2 cfA g 0 A.toArray.size w:=fun m os dk _ x y=>jCJ x.1 x.2 y.1 y.2 _
  have hs:=AnyQ.slices_SortFunc_total laySortFuncAddr 2 isAgg32 sizeOf32 encA j4z j32 cfA swoA 154 #[] g 0 cap A.toArray w (enters_of func154 (by kernel_rfl) rfl) hcmp h4 h3 (by simp;omega) j2v;refine hs.mono ?_;rintro e w' ⟨rfl,n,os,rfl⟩;have hk:=jE3 encA 2 w g 0 n (A.toArray.toList.mergeSort fun x y=>!(ltOf cfA) y x).toArray os;refine⟨rfl,.inr ⟨g,cap,?_,h2,?_,?_,?_,h6⟩,hk.mono (fun i _ e=>by subst e;exact h2)⟩
  ·rw[List.length_mergeSort]
  ·exact Nat.lt_of_lt_of_le h3 hk.size
  ·exact holdsK_sortWorldK_c encA 2 w g 0 A.toArray _ n os h4 h3 (by simp[List.length_mergeSort])
  ·rw[List.length_mergeSort];exact h5
theorem j36 (a:Int×Int)(l:List (Int×Int)):(flatK encA 2 (a::l).toArray).toList=encA a++(flatK encA 2 l.toArray).toList:=by
 apply List.ext_getElem
 ·simp[encA];omega
 ·intro t h1 h2;have ht:t<(l.length+1)*2:=by simpa using h1
  have e1:=get_flatK encA 2 (a::l).toArray t (by simpa using ht);rw[getElem!_pos _ t (by simpa using h1)] at e1;rw[Array.getElem_toList,e1];by_cases h:t<2
  ·rw[List.getElem_append_left (by simpa [encA] using h)];have:t/2=0:=(by omega);rw[this,Nat.mod_eq_of_lt h];simp[h,encA]
  ·rw[List.getElem_append_right (by simpa [encA] using h),Array.getElem_toList];have hl:t-(encA a).length<l.length*2:=(by simp[encA];omega);have e2:=get_flatK encA 2 l.toArray (t-(encA a).length) (by simpa using hl);rw[getElem!_pos _ _ (by simpa using hl)] at e2;rw[e2];have e3:(t-(encA a).length)/2=t/2-1:=(by simp[encA];omega);have e4:(t-(encA a).length)%2=t%2:=(by simp[encA];omega);rw[e3,e4];obtain⟨q,hq⟩:∃q,t/2=q+1:=⟨t/2-1,by omega⟩;rw[hq];simp
theorem j37 (l:List (Int×Int))(x:Int×Int):(flatK encA 2 (l++[x]).toArray).toList=(flatK encA 2 l.toArray).toList++encA x:=by
 induction l with
 | nil=>rw[List.nil_append,j36];simp[flatK]
 | cons a l ih=>rw[List.cons_append,j36,j36,ih,List.append_assoc]
theorem j0u {w w':World}{S:Nat->Prop}{base size n:Nat}{e:TypeId}{v:Value}{xs:List Value}(h:w.ownsRow base e size v n xs)(g:Kp w w' S)(hS:∀i,base<=i->¬S i):w'.ownsRow base e size v n xs:=by
 obtain⟨h0,h⟩:=h;refine⟨h0,?_⟩;rcases h with h|⟨gb,cap,cur,h1,h2,h3,h4⟩
 ·exact .inl h
 ·refine .inr ⟨gb,cap,cur,h1,h2,?_,h4⟩;have hl:=(Array.getElem?_eq_some_iff.1 h3).1;rw[g.block gb hl (hS gb h2)];exact h3
def E9 (L:List (Int×Int)):Prop:=L.Pairwise (fun x y=>ltOf cfA x y=J)
def U8 (B:Nat) (w:World) (v:Value) (L:List (Int×Int)):Prop:=∃a c,v=U a L.length c/\((a=G/\L=[])∨∃b,a=H ⟨b,0,G⟩/\B<=b/\j0M w b 0 L)
theorem j6A {w:World}{B n:Nat}{v:Value}{A:List (Int×Int)}(hn:A.length=n)(h:w.ownsRow B 32 2 v n (flatK encA 2 A.toArray).toList):Own1 encA 2 B w v A:=by
 subst hn;have h0:=h;obtain⟨_,h1⟩:=h0;rcases h1 with ⟨e1,e2⟩|_
 ·exact .inl ⟨List.length_eq_zero_iff.1 e2,e1⟩
 ·rcases jCE h with e|⟨g,cap,h1,h2,h3,h4,h5,h6⟩
  ·obtain⟨_,h2⟩:=h;rcases h2 with ⟨_,e2⟩|⟨g,cap,cur,e3,_⟩
   ·exact .inl ⟨List.length_eq_zero_iff.1 e2,e⟩
   ·rw[e] at e3;cases e3
  ·exact .inr ⟨g,cap,h1,h2,h3,h4,h5,h6⟩
theorem j69 {w:World}{B:Nat}{v:Value}{A:List (Int×Int)}(h:Own1 encA 2 B w v A):U8 B w v A:=by
 rcases h with ⟨rfl,rfl⟩|⟨g,cap,rfl,h2,h3,h4,h5,h6⟩
 ·exact⟨G,0,rfl,.inl ⟨rfl,rfl⟩⟩
 ·exact⟨_,_,rfl,.inr ⟨g,rfl,h2,(jAN j4z h4).cells⟩⟩
theorem j5s {A:List (Int×Int)}(h:A.Nodup):E9 (A.mergeSort fun x y=>!(ltOf cfA) y x):=by
 have hnd:(A.mergeSort fun x y=>!(ltOf cfA) y x).Nodup:=(List.mergeSort_perm A _).nodup_iff.2 h;refine List.pairwise_iff_getElem.2 (fun i j hi hj hij=>?_);have h1:=jBG swoA A i j hij (by simpa using hj);rw[getElem!_pos _ j (by simpa using hj),getElem!_pos _ i (by simpa using hi)] at h1;simp only[List.getElem_toArray] at h1;cases h2:ltOf cfA (A.mergeSort fun x y=>!(ltOf cfA) y x)[i] (A.mergeSort fun x y=>!(ltOf cfA) y x)[j] with
 | true=>rfl
 | false=>
  have e:=j2v _ _ h2 h1;have:=List.pairwise_iff_getElem.1 hnd i j hi hj hij;exact absurd e this
theorem j0p {w:World}{base size n:Nat}{e:TypeId}{v:Value}{xs:List Value}(h:w.ownsRow base e size v n xs)(i:Nat)(hi:v.ownBlock=H i):base<=i:=by
 obtain⟨_,h⟩:=h;rcases h with ⟨rfl,_⟩|⟨g,cap,cur,rfl,h2,_⟩
 ·cases hi
 ·simp[Value.ownBlock] at hi;omega
theorem jBm {A:List (Int×Int)}{x:Int×Int}(h:A.Nodup)(hx:x∉A):(A++[x]).Nodup:=by
 rw[List.nodup_append];refine⟨h,by simp,fun a ha b hb e=>?_⟩;have:b=x:=by simpa using hb
 subst this;subst e;exact hx ha
end
section
open Go.RowKit Go.Shelf
theorem j18 {x y z:Int×Int}(h:ltOf cfA x y=J)(k:ltOf cfA y z=J):ltOf cfA x z=J:=by
 rw[j1i] at *;omega
theorem j07 {x:Int×Int}:ltOf cfA x x=R:=by
 rw[j1j];omega
end
end Go.Proofs.YtecjfnkakodebaaGreatDoor
