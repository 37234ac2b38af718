/-The contracts of layer 4's functions that round, and of those that loo. -/
import Derived.Test.YtnceajanlnnfoaaGreatDoorQrFl
import Derived.Laws.ShiftsVarLaws
import Derived.RegionTactic
import Derived.ChangeAlike
import Derived.Deep.QuietTactic
import Derived.BigQuiet
set_option maxHeartbeats 1000000
namespace Go.Proofs.YtnceajanlnnfoaaGreatDoor
open Go.RowKit
@[go_sem] theorem jFX (b:Nat) (w:World):(callFunc 45 #[.float .f32 b]).run Tryz.prog w=.ok (.value (.int .u32 (b:Int))) w:=
 run_callFunc_extern (e:=Extern.MathFloatBits.float32bits) Tryz.func45 (by kernel_rfl) (by kernel_rfl) (by kernel_rfl) (by kernel_rfl) _ w
@[go_sem] theorem jFY (n:Int) (w:World):(callFunc 51 #[.int .u32 n]).run Tryz.prog w=.ok (.value (.float .f32 n.toNat)) w:=
 run_callFunc_extern (e:=Extern.MathFloatBits.float32frombits) Tryz.func51 (by kernel_rfl) (by kernel_rfl) (by kernel_rfl) (by kernel_rfl) _ w
def Y4 (mode:Int):Bool:=decide (1<=mode/\mode<=6)
theorem j2Z (mode:Int)(w:World):
 Calls Tryz.prog 89 #[.int .i64 mode] w fun e w'=>e=.returned (.bool (Y4 mode))/\w'=w:=by
 go_enter Tryz.func89,Tryz.ntmps89;go_wp2;all_goals go_ret
 all_goals refine⟨V1 ?_,rfl⟩
 ·exact decide_eq_decide.2 (by omega)
 ·exact(decide_eq_false (by omega)).symm
theorem j6X (mode:Int)(neg odd:Bool)(rest:Int)(h0:0<=rest):
 Rn.upw mode neg odd rest.toNat 18446744073709551616 =
  if mode=1 then decide (9223372036854775808<rest)||(decide (rest=9223372036854775808)&&odd)
  else if mode=2 then decide (9223372036854775808<=rest)
  else if mode=3 then decide (rest≠0) && !neg
  else if mode=4 then decide (rest≠0)&&neg
  else if mode=6 then decide (rest≠0) && !odd
  else false:=by
 unfold Rn.upw;rw[decide_eq_decide.2 (show 18446744073709551616<2*rest.toNat↔9223372036854775808<rest by omega),decide_eq_decide.2 (show 18446744073709551616=2*rest.toNat↔rest=9223372036854775808 by omega),
  decide_eq_decide.2 (show 18446744073709551616<=2*rest.toNat↔9223372036854775808<=rest by omega),decide_eq_decide.2 (show rest.toNat≠0↔rest≠0 by omega)]
theorem j4s (mode:Int):(mode=1∨mode=2∨mode=3∨mode=4∨mode=6)∨((mode==4)=false/\(mode==3)=false/\(mode==1)=false/\(mode==2)=false/\(mode==6)=false):=by
 simp only[beq_eq_false_iff_ne,ne_eq];omega
theorem j2j (mode:Int)(neg odd:Bool)(rest:Int)(h0:Hid (0<=rest))(w:World):
 Calls Tryz.prog 147 #[.int .i64 mode,.bool neg,.bool odd,.int .u64 rest] w fun e w'=>e=.returned (.bool (Rn.upw mode neg odd rest.toNat 18446744073709551616))/\w'=w:=by
 rw[j6X mode neg odd rest h0.out];clear h0;rcases j4s mode with (rfl|rfl|rfl|rfl|rfl)|⟨h4,h3,h1,h2,h6⟩
 ·rw[if_pos rfl];by_cases c:rest=9223372036854775808
  ·subst c;cases odd
   all_goals
    go_enter Tryz.func147,Tryz.ntmps147;go_wp2;go_ret;exact⟨rfl,rfl⟩
  ·have c':(rest==9223372036854775808)=false:=(by simpa using c);rw[decide_eq_false c,Bool.false_and,Bool.or_false,decide_eq_decide.2 (show 9223372036854775808<rest↔9223372036854775808<=rest by omega)];go_enter Tryz.func147,Tryz.ntmps147;go_wp2;go_ret;exact⟨rfl,rfl⟩
 ·rw[if_neg (by decide),if_pos rfl];go_enter Tryz.func147,Tryz.ntmps147;go_wp2;go_ret;exact⟨rfl,rfl⟩
 all_goals by_cases c:rest=0
 ·subst c;go_enter Tryz.func147,Tryz.ntmps147;go_wp2;go_ret;exact⟨rfl,rfl⟩
 ·rw[if_neg (by decide),if_neg (by decide),if_pos rfl,decide_eq_true c,Bool.true_and];go_enter Tryz.func147,Tryz.ntmps147;go_wp2;go_ret;exact⟨V1 (by rw[bne_iff_ne.2 c];rfl),rfl⟩
 ·subst c;go_enter Tryz.func147,Tryz.ntmps147;go_wp2;go_ret;exact⟨rfl,rfl⟩
 ·rw[if_neg (by decide),if_neg (by decide),if_neg (by decide),if_pos rfl,decide_eq_true c,Bool.true_and];go_enter Tryz.func147,Tryz.ntmps147;go_wp2;go_ret;exact⟨V1 (by rw[bne_iff_ne.2 c];rfl),rfl⟩
 ·subst c;go_enter Tryz.func147,Tryz.ntmps147;go_wp2;go_ret;exact⟨rfl,rfl⟩
 ·rw[if_neg (by decide),if_neg (by decide),if_neg (by decide),if_neg (by decide),if_pos rfl,decide_eq_true c,Bool.true_and];go_enter Tryz.func147,Tryz.ntmps147;go_wp2;go_ret;exact⟨V1 (by rw[bne_iff_ne.2 c];rfl),rfl⟩
 all_goals
  rw[if_neg (by simpa using h1),if_neg (by simpa using h2),if_neg (by simpa using h3),if_neg (by simpa using h4),if_neg (by simpa using h6)];clear c;go_enter Tryz.func147,Tryz.ntmps147;go_wp2;go_ret;exact⟨rfl,rfl⟩
theorem j5k (neg:Bool)(m n mode:Int)(h0:0<=m)(h1:m<18446744073709551616)(_n0:0<=n)(h:n<=64∨m<9223372036854775808)(q r:Int)(k:Nat)(hk:k=min n.toNat 64)(hq:q=m/2^k)(hr:r=m*2^(64-k)%18446744073709551616):
 q=(m.toNat/2^n.toNat:Nat)/\Rn.upw mode neg (q%2==1) r.toNat 18446744073709551616=Rn.upw mode neg (m.toNat/2^n.toNat%2==1) (m.toNat%2^n.toNat) (2^n.toNat)/\(r=0↔m.toNat%2^n.toNat=0)/\0<=r:=by
 obtain⟨M,rfl⟩:=Int.eq_ofNat_of_zero_le h0;have hc:=Rn.code_rnd mode neg M n.toNat (by omega) (by omega);rw[<- hk] at hc;have hq':q=((M/2^k:Nat):Int):=by rw[hq];exact_mod_cast rfl
 have hr':r=((M*2^(64-k)%18446744073709551616:Nat):Int):=by rw[hr,Int.natCast_emod,Int.natCast_mul,Int.natCast_pow];rfl
 rw[Int.toNat_natCast];refine⟨by rw[hq',hc.1],?_,?_,by omega⟩
 ·rw[hr',Int.toNat_natCast,<- hc.2.1,hq']
  congr 1
  rw[Bool.eq_iff_iff,beq_iff_eq,beq_iff_eq];omega
 ·rw[hr'];exact⟨fun c=>hc.2.2.1 (by omega),fun c=>by have:=hc.2.2.2 c;omega⟩
theorem j5j (neg:Bool)(m n mode q r:Int)(h0:0<=m)(h1:m<18446744073709551616)
 (k:q=(m.toNat/2^n.toNat:Nat)/\Rn.upw mode neg (q%2==1) r.toNat 18446744073709551616=Rn.upw mode neg (m.toNat/2^n.toNat%2==1) (m.toNat%2^n.toNat) (2^n.toNat)/\(r=0↔m.toNat%2^n.toNat=0)/\0<=r) :
 (Rn.upw mode neg (q%2==1) r.toNat 18446744073709551616=true->IntKind.u64.wrap (q+1)=(Rn.rnd mode neg m.toNat n.toNat:Nat)) /\
 (Rn.upw mode neg (q%2==1) r.toNat 18446744073709551616=false->q=(Rn.rnd mode neg m.toNat n.toNat:Nat))/\(r != 0)=decide (m.toNat%2^n.toNat≠0):=by
 obtain⟨k1,k2,k3,k4⟩:=k;have hl:Rn.rnd mode neg m.toNat n.toNat<=m.toNat:=Rn.rnd_le mode neg _ (Nat.le_mul_of_pos_right _ (Nat.two_pow_pos _));have hd:Rn.rnd mode neg m.toNat n.toNat=m.toNat/2^n.toNat+(Rn.upw mode neg (m.toNat/2^n.toNat%2==1) (m.toNat%2^n.toNat) (2^n.toNat)).toNat:=rfl;rw[<- k2] at hd;refine⟨fun h=>?_,fun h=>?_,?_⟩
 ·rw[h] at hd;have hd':Rn.rnd mode neg m.toNat n.toNat=m.toNat/2^n.toNat+1:=hd;rw[IntKind.wrap_u64];generalize m.toNat/2^n.toNat=z at *;omega
 ·rw[h] at hd;have hd':Rn.rnd mode neg m.toNat n.toNat=m.toNat/2^n.toNat+0:=hd;omega
 ·rw[Bool.eq_iff_iff,bne_iff_ne,decide_eq_true_eq];omega
theorem jD7 (neg:Bool)(m n mode q r:Int)(_h0:0<=m)(_h1:m<18446744073709551616)(n0:0<=n)(n1:n<=64)(hq0:0<=q)(hr0:Hid (0<=r))
 (hq:Hid (m/2^n.toNat=q)) (hr:Hid (IntKind.u64.wrap (m*2^(64-n).toNat)=r))
 (k:Hid ((Rn.upw mode neg (q%2==1) r.toNat 18446744073709551616=true->IntKind.u64.wrap (q+1)=(Rn.rnd mode neg m.toNat n.toNat:Nat)) /\
 (Rn.upw mode neg (q%2==1) r.toNat 18446744073709551616=false->q=(Rn.rnd mode neg m.toNat n.toNat:Nat))/\(r != 0)=decide (m.toNat%2^n.toNat≠0))) (w:World) :
 Calls Tryz.prog 93 #[.bool neg,.int .u64 m,.int .i64 n,.int .i64 mode] w fun e w'=>e=.returned (.tuple #[.int .u64 (Rn.rnd mode neg m.toNat n.toNat:Nat),.bool (decide (m.toNat%2^n.toNat≠0))])/\∃d,w'=w.drewN d:=by
 generalize (Rn.rnd mode neg m.toNat n.toNat:Int)=R at *;generalize decide (m.toNat%2^n.toNat≠0)=X at *;go_enter Tryz.func93,Tryz.ntmps93;go_wp2
 go_quiet (fail)
 go_wp2_with (first|(simp only[hq.out])|(simp only[hr.out])|(go_at_call 147;refine(j2j _ _ _ _ hr0 _).mono ?_;rintro e w' ⟨rfl,rfl⟩;generalize hU0:Rn.upw mode neg (q%2==1) r.toNat 18446744073709551616=U at *;have hU:Hid (Rn.upw mode neg (q%2==1) r.toNat 18446744073709551616=U):=hU0;clear hU0));all_goals go_ret2
 ·exact⟨ret2 (I2 (k.out.1 ‹U=true›)) (R9 k.out.2.2),_,rfl⟩
 ·exact⟨ret2 (I2 (k.out.2.1 ‹U=false›)) (R9 k.out.2.2),_,rfl⟩
theorem jD6 (neg:Bool)(m n mode R q:Int)(X U:Bool)(a0:0<=m)(a1:m<18446744073709551616)(n1:64<n)(hq:Hid (m/18446744073709551616=q))(hq0:0<=q)(hq1:(q%2==1)=false)
 (hU:Hid (∀w,Calls Tryz.prog 147 #[.int .i64 mode,.bool neg,.bool false,.int .u64 m] w fun e w'=>e=.returned (.bool U)/\w'=w))
 (k1:Hid (U=true->IntKind.u64.wrap (q+1)=R)) (k2:Hid (U=false->q=R)) (k3:Hid ((m != 0)=X)) (w:World) :
 Calls Tryz.prog 93 #[.bool neg,.int .u64 m,.int .i64 n,.int .i64 mode] w fun e w'=>e=.returned (.tuple #[.int .u64 R,.bool X])/\∃d,w'=w.drewN d:=by
 go_enter Tryz.func93,Tryz.ntmps93;go_wp2
 go_quiet (fail)
 go_wp2_with (first|(simp only[hq.out])|(go_at_call 147;refine(hU.out _).mono ?_;rintro e w' ⟨rfl,rfl⟩));all_goals go_ret2
 ·exact⟨ret2 (I2 (k1.out ‹U=true›)) (R9 k3.out),_,rfl⟩
 ·exact⟨ret2 (I2 (k2.out ‹U=false›)) (R9 k3.out),_,rfl⟩
theorem jD5 (neg:Bool)(m n mode:Int)(h0:0<=m)(h1:m<18446744073709551616)(n0:0<=n)(h:Hid (n<=64∨m<9223372036854775808))(w:World):
 Calls Tryz.prog 93 #[.bool neg,.int .u64 m,.int .i64 n,.int .i64 mode] w fun e w'=>e=.returned (.tuple #[.int .u64 (Rn.rnd mode neg m.toNat n.toNat:Nat),.bool (decide (m.toNat%2^n.toNat≠0))])/\∃d,w'=w.drewN d:=by
 by_cases c:n<=64
 ·have e:(64-n).toNat=64-n.toNat:=by omega
  have k:=j5k neg m n mode h0 h1 n0 h.out (m/2^n.toNat) (IntKind.u64.wrap (m*2^(64-n).toNat)) n.toNat (by omega) rfl (by rw[IntKind.wrap_u64,e]);exact jD7 neg m n mode _ _ h0 h1 n0 c (by rw[k.1];exact Int.natCast_nonneg _) k.2.2.2 rfl rfl (j5j neg m n mode _ _ h0 h1 k) w
 ·have hq:m/18446744073709551616=0:=by omega
  have k:=j5k neg m n mode h0 h1 n0 h.out 0 m 64 (by omega) (by rw[show (2:Int)^64=18446744073709551616 from rfl,hq]) (by rw[show 64-64=0 from rfl,Int.pow_zero,Int.mul_one];omega);have e:=j5j neg m n mode _ _ h0 h1 k;exact jD6 neg m n mode _ 0 _ _ h0 h1 (by omega) hq (by decide) (by decide) (j2j mode neg false m h0) e.1 e.2.1 e.2.2 w
end Go.Proofs.YtnceajanlnnfoaaGreatDoor
