/- formula's wellMade, by kinds. -/
import Derived.Test.YtlppcfeakakpfaaGreatDoorQpQa
set_option maxRecDepth 20000
set_option maxHeartbeats 8000000
namespace Go.Proofs.YtlppcfeakakpfaaGreatDoor
open Go.RowKit
theorem wm_k9 (o:Int) (x:Nat) (s:ByteArray) (b:Bool) (f c1 r1:Int) (p1 q1:Bool) (c2 r2:Int) (p2 q2:Bool) (n:Nat) (a:Option Addr) (c:Nat) (hx:x < 18446744073709551616) (w:World) :
  Calls Tryz.prog 128 #[Hd.val ⟨9,o,x,s,b,f,c1,r1,p1,q1,c2,r2,p2,q2⟩ (.slice a n c)] w fun e w'=>e=.returned (.bool (wm ⟨9,o,x,s,b,f,c1,r1,p1,q1,c2,r2,p2,q2⟩ n))∧Kp w w' Nul:=by
 have HS:Hid (∀ w,Calls Tryz.prog 95 #[Hd.val ⟨9,o,x,s,b,f,c1,r1,p1,q1,c2,r2,p2,q2⟩ (.slice a n c),Hd.val (⟨9,0,0,s,false,0,0,0,false,false,0,0,false,false⟩:Hd) (.slice none 0 0)] w fun e w'=>e=.returned (.bool (hsame ⟨9,o,x,s,b,f,c1,r1,p1,q1,c2,r2,p2,q2⟩ (⟨9,0,0,s,false,0,0,0,false,false,0,0,false,false⟩:Hd)))∧Gr w w'):=fun w=>sameFields_at _ _ hx (show (0:Nat) < 18446744073709551616 by decide) _ _ w
 have hV:Hid (wm ⟨9,o,x,s,b,f,c1,r1,p1,q1,c2,r2,p2,q2⟩ n=(hsame ⟨9,o,x,s,b,f,c1,r1,p1,q1,c2,r2,p2,q2⟩ (⟨9,0,0,s,false,0,0,0,false,false,0,0,false,false⟩:Hd))):=rfl
 generalize wm ⟨9,o,x,s,b,f,c1,r1,p1,q1,c2,r2,p2,q2⟩ n=V at *
 generalize hsame ⟨9,o,x,s,b,f,c1,r1,p1,q1,c2,r2,p2,q2⟩ (⟨9,0,0,s,false,0,0,0,false,false,0,0,false,false⟩:Hd)=Z at *
 clear hx
 go_enter Tryz.func128,Tryz.ntmps128
 go_wp2_with fail
 go_region
 all_goals
  go_wp2_with (go_at_call 95;refine (HS.out _).mono ?_;rintro e w' ⟨rfl,hg⟩;have HG:Hid (Kp w w' Nul):=Kp.trans (by repeat (first|exact Kp.refl _ _|refine Kp.alloc ?_ _|refine Kp.drew ?_)) (Kp.of_gr hg);clear hg)
  go_ret
  exact ⟨rBool (by rw [hV.out] <;> simp []),by first|exact HG.out|(repeat (first|exact Kp.refl _ _|refine Kp.alloc ?_ _|refine Kp.drew ?_))⟩
theorem wm_k6 (o:Int) (x:Nat) (s:ByteArray) (b:Bool) (f c1 r1:Int) (p1 q1:Bool) (c2 r2:Int) (p2 q2:Bool) (n:Nat) (a:Option Addr) (c:Nat) (hx:x < 18446744073709551616) (w:World) :
  Calls Tryz.prog 128 #[Hd.val ⟨6,o,x,s,b,f,c1,r1,p1,q1,c2,r2,p2,q2⟩ (.slice a n c)] w fun e w'=>e=.returned (.bool (wm ⟨6,o,x,s,b,f,c1,r1,p1,q1,c2,r2,p2,q2⟩ n))∧Kp w w' Nul:=by
 have HS:Hid (∀ w,Calls Tryz.prog 95 #[Hd.val ⟨6,o,x,s,b,f,c1,r1,p1,q1,c2,r2,p2,q2⟩ (.slice a n c),Hd.val (⟨6,0,0,⟨#[]⟩,false,0,c1,r1,p1,q1,c2,r2,p2,q2⟩:Hd) (.slice none 0 0)] w fun e w'=>e=.returned (.bool (hsame ⟨6,o,x,s,b,f,c1,r1,p1,q1,c2,r2,p2,q2⟩ (⟨6,0,0,⟨#[]⟩,false,0,c1,r1,p1,q1,c2,r2,p2,q2⟩:Hd)))∧Gr w w'):=fun w=>sameFields_at _ _ hx (show (0:Nat) < 18446744073709551616 by decide) _ _ w
 have hV:Hid (wm ⟨6,o,x,s,b,f,c1,r1,p1,q1,c2,r2,p2,q2⟩ n=((n == 0) && hsame ⟨6,o,x,s,b,f,c1,r1,p1,q1,c2,r2,p2,q2⟩ (⟨6,0,0,⟨#[]⟩,false,0,c1,r1,p1,q1,c2,r2,p2,q2⟩:Hd))):=rfl
 generalize wm ⟨6,o,x,s,b,f,c1,r1,p1,q1,c2,r2,p2,q2⟩ n=V at *
 generalize hsame ⟨6,o,x,s,b,f,c1,r1,p1,q1,c2,r2,p2,q2⟩ (⟨6,0,0,⟨#[]⟩,false,0,c1,r1,p1,q1,c2,r2,p2,q2⟩:Hd)=Z at *
 clear hx
 by_cases hn:n=0
 ·
  subst hn
  go_enter Tryz.func128,Tryz.ntmps128
  go_wp2_with fail
  go_region
  all_goals
   go_wp2_with (go_at_call 95;refine (HS.out _).mono ?_;rintro e w' ⟨rfl,hg⟩;have HG:Hid (Kp w w' Nul):=Kp.trans (by repeat (first|exact Kp.refl _ _|refine Kp.alloc ?_ _|refine Kp.drew ?_)) (Kp.of_gr hg);clear hg)
   go_ret
   exact ⟨rBool (by rw [hV.out] <;> simp []),by first|exact HG.out|(repeat (first|exact Kp.refl _ _|refine Kp.alloc ?_ _|refine Kp.drew ?_))⟩
 ·
  have Hhn:Hid ((n == 0)=false):=by show _=_;simp [hn]
  go_enter Tryz.func128,Tryz.ntmps128
  go_wp2_with fail
  go_region
  all_goals
   go_wp2_with (go_at_call 95;refine (HS.out _).mono ?_;rintro e w' ⟨rfl,hg⟩;have HG:Hid (Kp w w' Nul):=Kp.trans (by repeat (first|exact Kp.refl _ _|refine Kp.alloc ?_ _|refine Kp.drew ?_)) (Kp.of_gr hg);clear hg)
   go_ret
   exact ⟨rBool (by rw [hV.out] <;> simp [Hhn.out]),by first|exact HG.out|(repeat (first|exact Kp.refl _ _|refine Kp.alloc ?_ _|refine Kp.drew ?_))⟩
end Go.Proofs.YtlppcfeakakpfaaGreatDoor
