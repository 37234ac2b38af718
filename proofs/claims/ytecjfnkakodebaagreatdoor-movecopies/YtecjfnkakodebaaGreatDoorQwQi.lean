/-formula's wellMade, by kinds. -/
import Derived.Test.YtecjfnkakodebaaGreatDoorQwQa
set_option maxRecDepth 20000
set_option maxHeartbeats 8000000
namespace Go.Proofs.YtecjfnkakodebaaGreatDoor
open Go.RowKit
theorem wm_k1 (o:Int) (x:Nat) (s:ByteArray) (b:Bool) (f c1 r1:Int) (p1 q1:Bool) (c2 r2:Int) (p2 q2:Bool) (n:Nat) (a:Option Addr) (c:Nat) (hx:x<18446744073709551616) (w:World) :
  Calls Tryz.prog 164 #[Hd.val ⟨1,o,x,s,b,f,c1,r1,p1,q1,c2,r2,p2,q2⟩ (.slice a n c)] w fun e w'=>e=.returned (.bool (wm ⟨1,o,x,s,b,f,c1,r1,p1,q1,c2,r2,p2,q2⟩ n))/\Kp w w' Nul:=by
 have HS:Hid (∀w,Calls Tryz.prog 101 #[Hd.val ⟨1,o,x,s,b,f,c1,r1,p1,q1,c2,r2,p2,q2⟩ (.slice a n c),Hd.val (⟨1,0,x,⟨#[]⟩,false,0,0,0,false,false,0,0,false,false⟩:Hd) (.slice none 0 0)] w fun e w'=>e=.returned (.bool (hsame ⟨1,o,x,s,b,f,c1,r1,p1,q1,c2,r2,p2,q2⟩ (⟨1,0,x,⟨#[]⟩,false,0,0,0,false,false,0,0,false,false⟩:Hd)))/\Gr w w'):=fun w=>sameFields_at _ _ hx hx _ _ w
 have HP:Hid (∀w,Calls Tryz.prog 178 #[.float .f64 x] w fun e w'=>e=.returned (.bool (plainX x))/\w'=w):=isPlain_at x hx
 have hV:Hid (wm ⟨1,o,x,s,b,f,c1,r1,p1,q1,c2,r2,p2,q2⟩ n=(plainX x&&(n==0)&&hsame ⟨1,o,x,s,b,f,c1,r1,p1,q1,c2,r2,p2,q2⟩ (⟨1,0,x,⟨#[]⟩,false,0,0,0,false,false,0,0,false,false⟩:Hd))):=rfl
 generalize wm ⟨1,o,x,s,b,f,c1,r1,p1,q1,c2,r2,p2,q2⟩ n=V at *
 generalize hsame ⟨1,o,x,s,b,f,c1,r1,p1,q1,c2,r2,p2,q2⟩ (⟨1,0,x,⟨#[]⟩,false,0,0,0,false,false,0,0,false,false⟩:Hd)=Z at *
 generalize plainX x=PX at *
 clear hx
 cases PX
 ·
  by_cases hn:n=0
  ·
   subst hn
   go_enter Tryz.func164,Tryz.ntmps164
   go_wp2_with fail
   go_region_with (go_at_call 178;refine(HP.out _).mono ?_;rintro e w' ⟨rfl,rfl⟩)
   all_goals
    go_wp2_with (go_at_call 101;refine(HS.out _).mono ?_;rintro e w' ⟨rfl,hg⟩;have HG:Hid (Kp w w' Nul):=Kp.trans (by repeat (first|exact Kp.refl _ _|refine Kp.alloc ?_ _|refine Kp.drew ?_)) (Kp.of_gr hg);clear hg)
    go_ret
    exact⟨rBool (by rw[hV.out] <;> simp[]),by first|exact HG.out|(repeat (first|exact Kp.refl _ _|refine Kp.alloc ?_ _|refine Kp.drew ?_))⟩
  ·
   have Hhn:Hid ((n==0)=false):=by show _=_;simp[hn]
   go_enter Tryz.func164,Tryz.ntmps164
   go_wp2_with fail
   go_region_with (go_at_call 178;refine(HP.out _).mono ?_;rintro e w' ⟨rfl,rfl⟩)
   all_goals
    go_wp2_with (go_at_call 101;refine(HS.out _).mono ?_;rintro e w' ⟨rfl,hg⟩;have HG:Hid (Kp w w' Nul):=Kp.trans (by repeat (first|exact Kp.refl _ _|refine Kp.alloc ?_ _|refine Kp.drew ?_)) (Kp.of_gr hg);clear hg)
    go_ret
    exact⟨rBool (by rw[hV.out] <;> simp[Hhn.out]),by first|exact HG.out|(repeat (first|exact Kp.refl _ _|refine Kp.alloc ?_ _|refine Kp.drew ?_))⟩
 ·
  by_cases hn:n=0
  ·
   subst hn
   go_enter Tryz.func164,Tryz.ntmps164
   go_wp2_with fail
   go_region_with (go_at_call 178;refine(HP.out _).mono ?_;rintro e w' ⟨rfl,rfl⟩)
   all_goals
    go_wp2_with (go_at_call 101;refine(HS.out _).mono ?_;rintro e w' ⟨rfl,hg⟩;have HG:Hid (Kp w w' Nul):=Kp.trans (by repeat (first|exact Kp.refl _ _|refine Kp.alloc ?_ _|refine Kp.drew ?_)) (Kp.of_gr hg);clear hg)
    go_ret
    exact⟨rBool (by rw[hV.out] <;> simp[]),by first|exact HG.out|(repeat (first|exact Kp.refl _ _|refine Kp.alloc ?_ _|refine Kp.drew ?_))⟩
  ·
   have Hhn:Hid ((n==0)=false):=by show _=_;simp[hn]
   go_enter Tryz.func164,Tryz.ntmps164
   go_wp2_with fail
   go_region_with (go_at_call 178;refine(HP.out _).mono ?_;rintro e w' ⟨rfl,rfl⟩)
   all_goals
    go_wp2_with (go_at_call 101;refine(HS.out _).mono ?_;rintro e w' ⟨rfl,hg⟩;have HG:Hid (Kp w w' Nul):=Kp.trans (by repeat (first|exact Kp.refl _ _|refine Kp.alloc ?_ _|refine Kp.drew ?_)) (Kp.of_gr hg);clear hg)
    go_ret
    exact⟨rBool (by rw[hV.out] <;> simp[Hhn.out]),by first|exact HG.out|(repeat (first|exact Kp.refl _ _|refine Kp.alloc ?_ _|refine Kp.drew ?_))⟩
end Go.Proofs.YtecjfnkakodebaaGreatDoor
