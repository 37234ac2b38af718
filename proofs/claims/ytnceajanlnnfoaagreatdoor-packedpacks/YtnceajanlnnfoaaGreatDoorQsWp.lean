/- The contract of power: 2 ^ e out of the squares of squares. -/
import Derived.Test.YtnceajanlnnfoaaGreatDoorRows
import Derived.Test.YtnceajanlnnfoaaGreatDoorQsFl
import Derived.WalkKit
import Derived.WalkSpells
import Derived.WalkLawsBesides
set_option maxHeartbeats 400000
namespace Go.Proofs.YtnceajanlnnfoaaGreatDoor
open Go.RowKit
theorem bit_i64 (x:Int) (h0:0≤x) (h:x < 9223372036854775808):bits .and .i64 x 1=x % 2:=by
 obtain ⟨n,rfl⟩:=Int.eq_ofNat_of_zero_le h0
 have h1:(BitVec.ofInt 64 (n:Int)).toNat=n:=by
  rw [BitVec.ofInt_natCast,BitVec.toNat_ofNat];exact Nat.mod_eq_of_lt (by omega)
 show IntKind.i64.wrap ((BitVec.ofInt 64 (n:Int) &&& BitVec.ofInt 64 1).toNat:Int)=_
 rw [BitVec.toNat_and,h1,show (BitVec.ofInt 64 1).toNat=1 by decide,Nat.and_one_is_mod,IntKind.wrap_i64]
 omega
theorem mod_step (f:Int) (h0:0≤f) (i:Nat):f % 2 ^ (i+1)=f % 2 ^ i+2 ^ i * (f / 2 ^ i % 2):=by
 obtain ⟨n,rfl⟩:=Int.eq_ofNat_of_zero_le h0
 have:=Nat.mod_mul (a:=2 ^ i) (b:=2) (x:=n)
 rw [← Nat.pow_succ] at this
 exact_mod_cast this
theorem pow_pos' (i:Nat):(0:Int) < 2 ^ i:=by
 have:=Nat.two_pow_pos i
 exact_mod_cast this
theorem div_bd (f:Int) (h0:0≤f) (i:Nat):0≤f / 2 ^ i∧f / 2 ^ i≤f:=by
 have hp:=pow_pos' i
 exact ⟨Int.ediv_nonneg h0 (by omega),Int.ediv_le_self _ h0⟩
theorem mod_bd (f:Int) (h0:0≤f) (i:Nat):0≤f % 2 ^ i∧f % 2 ^ i≤f:=by
 have hp:=pow_pos' i
 refine ⟨Int.emod_nonneg _ (by omega),?_⟩
 obtain ⟨n,rfl⟩:=Int.eq_ofNat_of_zero_le h0
 have:=Nat.mod_le n (2 ^ i)
 exact_mod_cast this
theorem bit_set (f:Int) (h0:0≤f) (h1:f < 9223372036854775808) (i:Nat) (h:f / 2 ^ i % 2=1) :
  (bits .and .i64 (f / 2 ^ i) 1 == 1)=true∧f % 2 ^ (i+1)=f % 2 ^ i+2 ^ i∧0≤f % 2 ^ i∧f % 2 ^ i+2 ^ i≤f:=by
 have d:=div_bd f h0 i
 have m:=mod_step f h0 i
 rw [h] at m
 have b:=mod_bd f h0 (i+1)
 have c:=mod_bd f h0 i
 refine ⟨by rw [bit_i64 _ d.1 (by omega),h];rfl,by omega,c.1,by omega⟩
theorem bit_clear (f:Int) (h0:0≤f) (h1:f < 9223372036854775808) (i:Nat) (h:¬ f / 2 ^ i % 2=1) :
  (bits .and .i64 (f / 2 ^ i) 1 == 1)=false∧f % 2 ^ (i+1)=f % 2 ^ i:=by
 have d:=div_bd f h0 i
 have m:=mod_step f h0 i
 have z:f / 2 ^ i % 2=0:=by omega
 rw [z] at m
 refine ⟨by rw [bit_i64 _ d.1 (by omega),z];rfl,by omega⟩
theorem power_up (e0:Int) (h0:0≤e0) (h1:e0≤1023) (w:World) :
  Calls Tryz.prog 151 #[.int .i64 e0] w fun e w'=>e=.returned (.float .f64 (Fl.pw e0))∧w'=w:=by
 go_enter Tryz.func151,Tryz.ntmps151
 go_wp2
 go_loop [3,4,10] (fun sq p c=>∃ i:Nat,i≤11∧c=.int .i64 i∧sq=.float .f64 (Fl.pw (2 ^ i))∧p=.float .f64 (Fl.pw (e0 % 2 ^ i))) (fun _ _ c=>11 - (intOf c).toNat)
 case atStart=>exact ⟨0,by omega,rfl,by rw [Fl.pw_consts.2.1],by rw [show e0 % 2 ^ 0=0 by omega,Fl.pw_consts.1]⟩
 case round=>
  obtain ⟨i,hi,rfl,rfl,rfl⟩:=hrel
  by_cases hlt:i < 11
  ·have m1:∀ w,(binOp .mul 50 (.float .f64 (Fl.pw (2 ^ i))) (.float .f64 (Fl.pw (2 ^ i)))).run Tryz.prog w=.ok (.float .f64 (Fl.pw (2 ^ (i+1)))) w:=
    fun w=>run_float_arith w .mul 50 .f64 _ _ _ (Fl.sq_up i hlt)
   by_cases hb:e0 / 2 ^ i % 2=1
   ·obtain ⟨hbt,hs,hs0,hs1⟩:=bit_set e0 h0 (by omega) i hb
    have m2:∀ w,(binOp .mul 50 (.float .f64 (Fl.pw (e0 % 2 ^ i))) (.float .f64 (Fl.pw (2 ^ i)))).run Tryz.prog w=.ok (.float .f64 (Fl.pw (e0 % 2 ^ (i+1)))) w:=
     fun w=>run_float_arith w .mul 50 .f64 _ _ _ (by rw [hs];have:=pow_pos' i;exact Fl.mul_pw (by omega) (by omega) (by omega) (by omega))
    clear hs hs0 hs1 hb
    go_wp2
    go_round
    case rel=>exact ⟨i+1,by omega,by go_num,rfl,rfl⟩
    case measure=>simp [intOf];omega
   ·obtain ⟨hbt,hs⟩:=bit_clear e0 h0 (by omega) i hb
    have HS:Hid (e0 % 2 ^ (i+1)=e0 % 2 ^ i):=hs
    clear hs hb
    go_wp2
    go_round
    case rel=>exact ⟨i+1,by omega,by go_num,rfl,by rw [HS.out]⟩
    case measure=>simp [intOf];omega
  ·go_wp2
   go_ret
   refine ⟨ret_f64 ?_,rfl⟩
   have:i=11:=by omega
   subst this
   rw [show e0 % 2 ^ 11=e0 by omega]
theorem power_dn (f:Int) (h0:1≤f) (h1:f≤1074) (w:World) :
  Calls Tryz.prog 151 #[.int .i64 (-f)] w fun e w'=>e=.returned (.float .f64 (Fl.pw (-f)))∧w'=w:=by
 go_enter Tryz.func151,Tryz.ntmps151
 go_wp2
 go_loop [3,4,10] (fun sq p c=>∃ i:Nat,i≤11∧c=.int .i64 i∧sq=.float .f64 (Fl.pw (-2 ^ i))∧p=.float .f64 (Fl.pw (-(f % 2 ^ i)))) (fun _ _ c=>11 - (intOf c).toNat)
 case atStart=>exact ⟨0,by omega,rfl,by rw [Fl.pw_consts.2.2],by rw [show -(f % 2 ^ 0)=0 by omega,Fl.pw_consts.1]⟩
 case round=>
  obtain ⟨i,hi,rfl,rfl,rfl⟩:=hrel
  by_cases hlt:i < 11
  ·have m1:∀ w,(binOp .mul 50 (.float .f64 (Fl.pw (-2 ^ i))) (.float .f64 (Fl.pw (-2 ^ i)))).run Tryz.prog w=.ok (.float .f64 (Fl.pw (-2 ^ (i+1)))) w:=
    fun w=>run_float_arith w .mul 50 .f64 _ _ _ (Fl.sq_dn i hlt)
   by_cases hb:f / 2 ^ i % 2=1
   ·obtain ⟨hbt,hs,hs0,hs1⟩:=bit_set f (by omega) (by omega) i hb
    have m2:∀ w,(binOp .mul 50 (.float .f64 (Fl.pw (-(f % 2 ^ i)))) (.float .f64 (Fl.pw (-2 ^ i)))).run Tryz.prog w=.ok (.float .f64 (Fl.pw (-(f % 2 ^ (i+1))))) w:=
     fun w=>run_float_arith w .mul 50 .f64 _ _ _ (by
      have:=pow_pos' i
      have e:-(f % 2 ^ (i+1))=-(f % 2 ^ i) + -2 ^ i:=by rw [hs];omega
      rw [e];exact Fl.mul_pw (by omega) (by omega) (by omega) (by omega))
    clear hs hs0 hs1 hb
    go_wp2
    go_round
    case rel=>exact ⟨i+1,by omega,by go_num,rfl,rfl⟩
    case measure=>simp [intOf];omega
   ·obtain ⟨hbt,hs⟩:=bit_clear f (by omega) (by omega) i hb
    have HS:Hid (f % 2 ^ (i+1)=f % 2 ^ i):=hs
    clear hs hb
    go_wp2
    go_round
    case rel=>exact ⟨i+1,by omega,by go_num,rfl,by rw [HS.out]⟩
    case measure=>simp [intOf];omega
  ·go_wp2
   go_ret
   refine ⟨ret_f64 ?_,rfl⟩
   have:i=11:=by omega
   subst this
   rw [show f % 2 ^ 11=f by omega]
theorem power_any (e0:Int) (h0:-1074≤e0) (h1:e0≤1023) (w:World) :
  Calls Tryz.prog 151 #[.int .i64 e0] w fun e w'=>e=.returned (.float .f64 (Fl.pw e0))∧w'=w:=by
 by_cases h:0≤e0
 ·exact power_up e0 h h1 w
 ·have:=power_dn (-e0) (by omega) (by omega) w
  rwa [Int.neg_neg] at this
end Go.Proofs.YtnceajanlnnfoaaGreatDoor
