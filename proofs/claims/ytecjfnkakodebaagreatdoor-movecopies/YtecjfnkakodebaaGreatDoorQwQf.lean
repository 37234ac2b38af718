/-formula's wellMade, by kinds. -/
import Derived.Test.YtecjfnkakodebaaGreatDoorQwQa
set_option maxRecDepth 20000
set_option maxHeartbeats 8000000
namespace Go.Proofs.YtecjfnkakodebaaGreatDoor
open Go.RowKit
theorem wm_k3 (o:Int) (x:Nat) (s:ByteArray) (b:Bool) (f c1 r1:Int) (p1 q1:Bool) (c2 r2:Int) (p2 q2:Bool) (n:Nat) (a:Option Addr) (c:Nat) (hx:x<18446744073709551616) (w:World) :
  Calls Tryz.prog 164 #[Hd.val ⟨3,o,x,s,b,f,c1,r1,p1,q1,c2,r2,p2,q2⟩ (.slice a n c)] w fun e w'=>e=.returned (.bool (wm ⟨3,o,x,s,b,f,c1,r1,p1,q1,c2,r2,p2,q2⟩ n))/\Kp w w' Nul:=by
 have HS:Hid (∀w,Calls Tryz.prog 101 #[Hd.val ⟨3,o,x,s,b,f,c1,r1,p1,q1,c2,r2,p2,q2⟩ (.slice a n c),Hd.val (⟨3,0,0,⟨#[]⟩,b,0,0,0,false,false,0,0,false,false⟩:Hd) (.slice none 0 0)] w fun e w'=>e=.returned (.bool (hsame ⟨3,o,x,s,b,f,c1,r1,p1,q1,c2,r2,p2,q2⟩ (⟨3,0,0,⟨#[]⟩,b,0,0,0,false,false,0,0,false,false⟩:Hd)))/\Gr w w'):=fun w=>sameFields_at _ _ hx (show (0:Nat)<18446744073709551616 by decide) _ _ w
 have hV:Hid (wm ⟨3,o,x,s,b,f,c1,r1,p1,q1,c2,r2,p2,q2⟩ n=((n==0)&&hsame ⟨3,o,x,s,b,f,c1,r1,p1,q1,c2,r2,p2,q2⟩ (⟨3,0,0,⟨#[]⟩,b,0,0,0,false,false,0,0,false,false⟩:Hd))):=rfl
 generalize wm ⟨3,o,x,s,b,f,c1,r1,p1,q1,c2,r2,p2,q2⟩ n=V at *
 generalize hsame ⟨3,o,x,s,b,f,c1,r1,p1,q1,c2,r2,p2,q2⟩ (⟨3,0,0,⟨#[]⟩,b,0,0,0,false,false,0,0,false,false⟩:Hd)=Z at *
 clear hx
 by_cases hn:n=0
 ·
  subst hn
  go_enter Tryz.func164,Tryz.ntmps164
  go_wp2_with (go_at_call 101;refine(HS.out _).mono ?_;rintro e w' ⟨rfl,hg⟩;have HG:Hid (Kp w w' Nul):=Kp.trans (by repeat (first|exact Kp.refl _ _|refine Kp.alloc ?_ _|refine Kp.drew ?_)) (Kp.of_gr hg);clear hg)
  all_goals
   go_ret
   exact⟨rBool (by rw[hV.out] <;> simp[]),by first|exact HG.out|(repeat (first|exact Kp.refl _ _|refine Kp.alloc ?_ _|refine Kp.drew ?_))⟩
 ·
  have Hhn:Hid ((n==0)=false):=by show _=_;simp[hn]
  go_enter Tryz.func164,Tryz.ntmps164
  go_wp2_with (go_at_call 101;refine(HS.out _).mono ?_;rintro e w' ⟨rfl,hg⟩;have HG:Hid (Kp w w' Nul):=Kp.trans (by repeat (first|exact Kp.refl _ _|refine Kp.alloc ?_ _|refine Kp.drew ?_)) (Kp.of_gr hg);clear hg)
  all_goals
   go_ret
   exact⟨rBool (by rw[hV.out] <;> simp[Hhn.out]),by first|exact HG.out|(repeat (first|exact Kp.refl _ _|refine Kp.alloc ?_ _|refine Kp.drew ?_))⟩
theorem wm_k5 (o:Int) (x:Nat) (s:ByteArray) (b:Bool) (f c1 r1:Int) (p1 q1:Bool) (c2 r2:Int) (p2 q2:Bool) (n:Nat) (a:Option Addr) (c:Nat) (hx:x<18446744073709551616) (w:World) :
  Calls Tryz.prog 164 #[Hd.val ⟨5,o,x,s,b,f,c1,r1,p1,q1,c2,r2,p2,q2⟩ (.slice a n c)] w fun e w'=>e=.returned (.bool (wm ⟨5,o,x,s,b,f,c1,r1,p1,q1,c2,r2,p2,q2⟩ n))/\Kp w w' Nul:=by
 have HS:Hid (∀w,Calls Tryz.prog 101 #[Hd.val ⟨5,o,x,s,b,f,c1,r1,p1,q1,c2,r2,p2,q2⟩ (.slice a n c),Hd.val (⟨5,0,0,⟨#[]⟩,false,0,c1,r1,p1,q1,0,0,false,false⟩:Hd) (.slice none 0 0)] w fun e w'=>e=.returned (.bool (hsame ⟨5,o,x,s,b,f,c1,r1,p1,q1,c2,r2,p2,q2⟩ (⟨5,0,0,⟨#[]⟩,false,0,c1,r1,p1,q1,0,0,false,false⟩:Hd)))/\Gr w w'):=fun w=>sameFields_at _ _ hx (show (0:Nat)<18446744073709551616 by decide) _ _ w
 have hV:Hid (wm ⟨5,o,x,s,b,f,c1,r1,p1,q1,c2,r2,p2,q2⟩ n=((n==0)&&hsame ⟨5,o,x,s,b,f,c1,r1,p1,q1,c2,r2,p2,q2⟩ (⟨5,0,0,⟨#[]⟩,false,0,c1,r1,p1,q1,0,0,false,false⟩:Hd))):=rfl
 generalize wm ⟨5,o,x,s,b,f,c1,r1,p1,q1,c2,r2,p2,q2⟩ n=V at *
 generalize hsame ⟨5,o,x,s,b,f,c1,r1,p1,q1,c2,r2,p2,q2⟩ (⟨5,0,0,⟨#[]⟩,false,0,c1,r1,p1,q1,0,0,false,false⟩:Hd)=Z at *
 clear hx
 by_cases hn:n=0
 ·
  subst hn
  go_enter Tryz.func164,Tryz.ntmps164
  go_wp2_with (go_at_call 101;refine(HS.out _).mono ?_;rintro e w' ⟨rfl,hg⟩;have HG:Hid (Kp w w' Nul):=Kp.trans (by repeat (first|exact Kp.refl _ _|refine Kp.alloc ?_ _|refine Kp.drew ?_)) (Kp.of_gr hg);clear hg)
  all_goals
   go_ret
   exact⟨rBool (by rw[hV.out] <;> simp[]),by first|exact HG.out|(repeat (first|exact Kp.refl _ _|refine Kp.alloc ?_ _|refine Kp.drew ?_))⟩
 ·
  have Hhn:Hid ((n==0)=false):=by show _=_;simp[hn]
  go_enter Tryz.func164,Tryz.ntmps164
  go_wp2_with (go_at_call 101;refine(HS.out _).mono ?_;rintro e w' ⟨rfl,hg⟩;have HG:Hid (Kp w w' Nul):=Kp.trans (by repeat (first|exact Kp.refl _ _|refine Kp.alloc ?_ _|refine Kp.drew ?_)) (Kp.of_gr hg);clear hg)
  all_goals
   go_ret
   exact⟨rBool (by rw[hV.out] <;> simp[Hhn.out]),by first|exact HG.out|(repeat (first|exact Kp.refl _ _|refine Kp.alloc ?_ _|refine Kp.drew ?_))⟩
end Go.Proofs.YtecjfnkakodebaaGreatDoor
