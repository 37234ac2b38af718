/-The program's Order and Same of values (value), Same of contents (grid. -/
import Derived.Test.YtecjfnkakodebaaGreatDoorQwEe
import Derived.Test.YtecjfnkakodebaaGreatDoorQwDb
import Derived.Test.YtecjfnkakodebaaGreatDoorQwJl
import Derived.Deep.QuietTactic
set_option maxHeartbeats 8000000
set_option maxRecDepth 20000
namespace Go.Proofs.YtecjfnkakodebaaGreatDoor
open Go.RowKit Go.Lib
attribute [local irreducible] tsame lsame
theorem compare_zero:∀(a b:List UInt8),(compareBytes a b==0)=decide (a=b)
 | [],[]=>by simp[compareBytes]
 | [],_::_=>by simp[compareBytes]
 | _::_,[]=>by simp[compareBytes]
 | a::xs,b::ys=>by
  rw[compareBytes]
  by_cases h1:a<b
  ·rw[if_pos h1]
   have:a≠b:=fun e=>by subst e;exact absurd h1 (by simp)
   simp[this]
  ·rw[if_neg h1]
   by_cases h2:b<a
   ·rw[if_pos h2]
    have:a≠b:=fun e=>by subst e;exact absurd h2 (by simp)
    simp[this]
   ·rw[if_neg h2,compare_zero xs ys]
    have:a=b:=UInt8.le_antisymm (UInt8.not_lt.1 h2) (UInt8.not_lt.1 h1)
    simp[this]
theorem cmpI_zero (a b:Int):(cmpI a b==0)=(a==b):=by
 have h:cmpI a b=if a<b then -1 else if b<a then 1 else 0:=rfl
 rw[h,Bool.eq_iff_iff,beq_iff_eq,beq_iff_eq]
 split
 ·constructor <;> intro h <;> omega
 ·split
  ·constructor <;> intro h <;> omega
  ·constructor <;> intro h <;> omega
theorem sCompare_at (a b:ByteArray) (w:World):Calls Tryz.prog 138 #[.string a,.string b] w fun e w'=>e=.returned (.int .i64 (compareBytes a.data.toList b.data.toList))/\w'=w:=Any.strings_Compare Tryz.laysCmp a b w
theorem vcount_at (b:Bool) (w:World):Calls Tryz.prog 139 #[.bool b] w fun e w'=>e=.returned (.int .i64 (if b then 1 else 0))/\w'=w:=by
 cases b
 ·go_enter Tryz.func139,Tryz.ntmps139
  go_wp2
  go_ret
  exact⟨rfl,rfl⟩
 ·go_enter Tryz.func139,Tryz.ntmps139
  go_wp2
  go_ret
  exact⟨rfl,rfl⟩
def vord (v u:Vl):Int:=if v.k=u.k then (if v.k=1 then ord (plc v.x) (plc u.x) else if v.k=2 then compareBytes v.s.data.toList u.s.data.toList else if v.k=3 then cmpI (if v.b then 1 else 0) (if u.b then 1 else 0) else if v.k=4 then cmpI v.f u.f else 0) else cmpI v.k u.k
theorem vord_zero (v u:Vl) (hv:v.x<18446744073709551616) (hu:u.x<18446744073709551616):(vord v u==0)=vsame v u:=by
 unfold vord vsame
 by_cases hk:v.k=u.k
 ·rw[if_pos hk,<- hk,beq_self_eq_true,Bool.true_and]
  split
  ·exact fsame_ord _ _ hv hu
  ·split
   ·rw[compare_zero,ByteArray.toList_eq,ByteArray.toList_eq]
   ·split
    ·rw[cmpI_zero]
     cases v.b <;> cases u.b <;> rfl
    ·split
     ·exact cmpI_zero _ _
     ·rfl
 ·rw[if_neg hk,cmpI_zero]
  have:(v.k==u.k)=false:=by simpa using hk
  rw[this,Bool.false_and]
theorem vOrder_at (v u:Vl) (hv:v.x<18446744073709551616) (hu:u.x<18446744073709551616) (w:World) :
  Calls Tryz.prog 100 #[v.val,u.val] w fun e w'=>e=.returned (.int .i64 (vord v u))/\Kp w w' Nul:=by
 have HK:Hid (∀a b w,Calls Tryz.prog 136 #[.int .i64 a,.int .i64 b] w fun e w'=>e=.returned (.int .i64 (cmpI a b))/\w'=w):=pCompare_any
 have HO:Hid (∀w,Calls Tryz.prog 137 #[.float .f64 v.x,.float .f64 u.x] w fun e w'=>e=.returned (.int .i64 (ord (plc v.x) (plc u.x)))/\w'=w):=order_any v.x u.x hv hu
 have HS:Hid (∀w,Calls Tryz.prog 138 #[.string v.s,.string u.s] w fun e w'=>e=.returned (.int .i64 (compareBytes v.s.data.toList u.s.data.toList))/\w'=w):=sCompare_at v.s u.s
 have HB:Hid (∀b w,Calls Tryz.prog 139 #[.bool b] w fun e w'=>e=.returned (.int .i64 (if b then 1 else 0))/\w'=w):=vcount_at
 have hV:Hid (vord v u=if v.k=u.k then (if v.k=1 then ord (plc v.x) (plc u.x) else if v.k=2 then compareBytes v.s.data.toList u.s.data.toList else if v.k=3 then cmpI (if v.b then 1 else 0) (if u.b then 1 else 0) else if v.k=4 then cmpI v.f u.f else 0) else cmpI v.k u.k):=rfl
 generalize vord v u=V at *
 generalize ord (plc v.x) (plc u.x)=z1 at *
 generalize compareBytes v.s.data.toList u.s.data.toList=z2 at *
 obtain⟨k,x,s,b,f⟩:=v
 obtain⟨k',x',s',b',f'⟩:=u
 simp only at *
 clear hv hu
 have fin:Hid (∀o1 o2,Kp w ((w.alloc o1).alloc o2) Nul):=fun o1 o2=>((Kp.refl w Nul).alloc _).alloc _
 by_cases hk:k=k'
 rotate_left
 ·have nk:(k==k')=false:=by simpa using hk
  have HE:Hid (V=cmpI k k'):=by show _=_;rw[hV.out,if_neg hk]
  clear hV HO HS HB
  go_enter Tryz.func100,Tryz.ntmps100
  go_wp2_with (go_at_call 136;refine(HK.out _ _ _).mono ?_;rintro e w' ⟨rfl,rfl⟩)
  go_ret
  exact⟨rInt HE.out.symm,fin.out _ _⟩
 subst hk
 by_cases k1:k=1
 ·subst k1
  have HE:Hid (V=z1):=by show _=_;rw[hV.out,if_pos rfl,if_pos rfl]
  clear hV HS HB HK
  go_enter Tryz.func100,Tryz.ntmps100
  go_wp2_with (go_at_call 137;refine(HO.out _).mono ?_;rintro e w' ⟨rfl,rfl⟩)
  go_ret
  exact⟨rInt HE.out.symm,fin.out _ _⟩
 have e1:(k==1)=false:=by simpa using k1
 by_cases k2:k=2
 ·subst k2
  have HE:Hid (V=z2):=by show _=_;rw[hV.out,if_pos rfl,if_neg (by decide),if_pos rfl]
  clear hV HO HB HK
  go_enter Tryz.func100,Tryz.ntmps100
  go_wp2_with (go_at_call 138;refine(HS.out _).mono ?_;rintro e w' ⟨rfl,rfl⟩)
  go_ret
  exact⟨rInt HE.out.symm,fin.out _ _⟩
 have e2:(k==2)=false:=by simpa using k2
 by_cases k3:k=3
 ·subst k3
  have HE:Hid (V=cmpI (if b then 1 else 0) (if b' then 1 else 0)):=by show _=_;rw[hV.out,if_pos rfl,if_neg (by decide),if_neg (by decide),if_pos rfl]
  have HB1:Hid (∀w,Calls Tryz.prog 139 #[.bool b] w fun e w'=>e=.returned (.int .i64 (if b then 1 else 0))/\w'=w):=HB.out b
  have HB2:Hid (∀w,Calls Tryz.prog 139 #[.bool b'] w fun e w'=>e=.returned (.int .i64 (if b' then 1 else 0))/\w'=w):=HB.out b'
  have HK1:Hid (∀w,Calls Tryz.prog 136 #[.int .i64 (if b then 1 else 0),.int .i64 (if b' then 1 else 0)] w fun e w'=>e=.returned (.int .i64 (cmpI (if b then 1 else 0) (if b' then 1 else 0)))/\w'=w):=HK.out _ _
  clear hV HO HS HB HK
  generalize cmpI (if b then 1 else 0) (if b' then 1 else 0)=z3 at *
  generalize (if b then (1:Int) else 0)=i1 at *
  generalize (if b' then (1:Int) else 0)=i2 at *
  go_enter Tryz.func100,Tryz.ntmps100
  go_wp2_with fail
  go_quiet (first|(go_at_call 136;exact Calls.quiet_of_same (HK1.out _))|(go_at_call 139;exact Calls.quiet_of_same (HB1.out _))|(go_at_call 139;exact Calls.quiet_of_same (HB2.out _)))
  go_wp2_with fail
  go_ret
  exact⟨rInt HE.out.symm,(fin.out _ _).drewN _⟩
 have e3:(k==3)=false:=by simpa using k3
 by_cases k4:k=4
 ·subst k4
  have HE:Hid (V=cmpI f f'):=by show _=_;rw[hV.out,if_pos rfl,if_neg (by decide),if_neg (by decide),if_neg (by decide),if_pos rfl]
  clear hV HO HS HB
  go_enter Tryz.func100,Tryz.ntmps100
  go_wp2_with (go_at_call 136;refine(HK.out _ _ _).mono ?_;rintro e w' ⟨rfl,rfl⟩)
  go_ret
  exact⟨rInt HE.out.symm,fin.out _ _⟩
 ·have e4:(k==4)=false:=by simpa using k4
  have HE:Hid (V=0):=by show _=_;rw[hV.out,if_pos rfl,if_neg k1,if_neg k2,if_neg k3,if_neg k4]
  clear hV HO HS HB HK
  go_enter Tryz.func100,Tryz.ntmps100
  go_wp2_with fail
  go_ret
  exact⟨rInt HE.out.symm,fin.out _ _⟩
theorem vSame_at (v u:Vl) (hv:v.x<18446744073709551616) (hu:u.x<18446744073709551616) (w:World) :
  Calls Tryz.prog 59 #[v.val,u.val] w fun e w'=>e=.returned (.bool (vsame v u))/\Kp w w' Nul:=by
 have H1:Hid (∀w,Calls Tryz.prog 100 #[v.val,u.val] w fun e w'=>e=.returned (.int .i64 (vord v u))/\Kp w w' Nul):=vOrder_at v u hv hu
 have hV:Hid ((vord v u==0)=vsame v u):=vord_zero v u hv hu
 generalize vord v u=z at *
 generalize vsame v u=V at *
 clear hv hu
 go_enter Tryz.func59,Tryz.ntmps59
 go_wp2_with fail
 refine(H1.out _).mono ?_
 rintro e w1 ⟨rfl,hk1⟩
 have G1:Hid (Kp w w1 Nul):=(((Kp.refl w Nul).alloc _).alloc _).trans hk1
 clear hk1
 go_wp2_with fail
 all_goals
  go_ret
  exact⟨rBool hV.out,G1.out⟩
theorem gSame_at (a b:Ct) (sl sg:Value) (F G:Nat->Prop) (w:World) (ha:a.v.x<18446744073709551616) (hb:b.v.x<18446744073709551616) (hok:a.t.ok) (gok:b.t.ok) (hin:NdIn w F sl a.t) (gin:NdIn w G sg b.t) :
  Calls Tryz.prog 21 #[a.val sl,b.val sg] w fun e w'=>e=.returned (.bool (csame a b))/\Kp w w' Nul:=by
 have H1:Hid (∀w,Calls Tryz.prog 59 #[a.v.val,b.v.val] w fun e w'=>e=.returned (.bool (vsame a.v b.v))/\Kp w w' Nul):=vSame_at a.v b.v ha hb
 have H2:Hid (∀wq,Kp w wq Nul->Calls Tryz.prog 60 #[a.t.hd.val sl,b.t.hd.val sg] wq fun e w'=>e=.returned (.bool (tsame a.t b.t))/\Kp wq w' Nul):=fun wq hq=>(tsame_at a.t b.t sl sg F G wq hok gok (hin.kp hq (fun _ _ x=>x)) (gin.kp hq (fun _ _ x=>x))).mono fun e w' h=>⟨h.1,Kp.of_gr h.2⟩
 have hV:Hid (csame a b=(a.k==b.k&&(if a.k=1 then vsame a.v b.v else if a.k=2 then tsame a.t b.t else true))):=rfl
 generalize csame a b=V at *
 generalize vsame a.v b.v=VS1 at *
 generalize tsame a.t b.t=TS1 at *
 clear hin gin hok gok ha hb
 have fin:Hid (∀o1 o2,Kp w ((w.alloc o1).alloc o2) Nul):=fun o1 o2=>((Kp.refl w Nul).alloc _).alloc _
 obtain⟨k,⟨vk,vx,vs,vb,vf⟩,t⟩:=a
 obtain⟨k',⟨vk',vx',vs',vb',vf'⟩,t'⟩:=b
 simp only at *
 by_cases hk:k=k'
 rotate_left
 ·have nk:(k==k')=false:=by simpa using hk
  have HE:Hid (V=false):=by show _=_;rw[hV.out,nk];rfl
  clear hV H1 H2
  go_enter Tryz.func21,Tryz.ntmps21
  go_wp2_with fail
  go_ret
  exact⟨rBool HE.out.symm,fin.out _ _⟩
 subst hk
 by_cases k1:k=1
 ·subst k1
  have HE:Hid (V=VS1):=by show _=_;rw[hV.out];simp
  clear hV H2
  go_enter Tryz.func21,Tryz.ntmps21
  go_wp2_with fail
  refine(H1.out _).mono ?_
  rintro e w1 ⟨rfl,hk1⟩
  have G1:Hid (Kp w w1 Nul):=(fin.out _ _).trans hk1
  clear hk1
  go_wp2_with fail
  go_ret
  exact⟨rBool HE.out.symm,G1.out⟩
 by_cases k2:k=2
 ·subst k2
  have HE:Hid (V=TS1):=by show _=_;rw[hV.out];simp
  clear hV H1
  go_enter Tryz.func21,Tryz.ntmps21
  go_wp2_with fail
  refine(H2.out _ (fin.out _ _)).mono ?_
  rintro e w1 ⟨rfl,hk1⟩
  have G1:Hid (Kp w w1 Nul):=(fin.out _ _).trans hk1
  clear hk1
  go_wp2_with fail
  go_ret
  exact⟨rBool HE.out.symm,G1.out⟩
 ·have e1:(k==1)=false:=by simpa using k1
  have e2:(k==2)=false:=by simpa using k2
  have HE:Hid (V=true):=by show _=_;rw[hV.out];simp[k1,k2]
  clear hV H1 H2
  go_enter Tryz.func21,Tryz.ntmps21
  go_wp2_with fail
  go_ret
  exact⟨rBool HE.out.symm,fin.out _ _⟩
end Go.Proofs.YtecjfnkakodebaaGreatDoor
