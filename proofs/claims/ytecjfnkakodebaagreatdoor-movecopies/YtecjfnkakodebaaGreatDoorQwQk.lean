/-formula's wellMade, by kinds. -/
import Derived.Test.YtecjfnkakodebaaGreatDoorQwQa
set_option maxRecDepth 20000
set_option maxHeartbeats 8000000
namespace Go.Proofs.YtecjfnkakodebaaGreatDoor
open Go.RowKit
theorem wm_k4 (o:Int) (x:Nat) (s:ByteArray) (b:Bool) (f c1 r1:Int) (p1 q1:Bool) (c2 r2:Int) (p2 q2:Bool) (n:Nat) (a:Option Addr) (c:Nat) (hx:x<18446744073709551616) (w:World) :
  Calls Tryz.prog 164 #[Hd.val ⟨4,o,x,s,b,f,c1,r1,p1,q1,c2,r2,p2,q2⟩ (.slice a n c)] w fun e w'=>e=.returned (.bool (wm ⟨4,o,x,s,b,f,c1,r1,p1,q1,c2,r2,p2,q2⟩ n))/\Kp w w' Nul:=by
 have HS:Hid (∀w,Calls Tryz.prog 101 #[Hd.val ⟨4,o,x,s,b,f,c1,r1,p1,q1,c2,r2,p2,q2⟩ (.slice a n c),Hd.val (⟨4,0,0,⟨#[]⟩,false,f,0,0,false,false,0,0,false,false⟩:Hd) (.slice none 0 0)] w fun e w'=>e=.returned (.bool (hsame ⟨4,o,x,s,b,f,c1,r1,p1,q1,c2,r2,p2,q2⟩ (⟨4,0,0,⟨#[]⟩,false,f,0,0,false,false,0,0,false,false⟩:Hd)))/\Gr w w'):=fun w=>sameFields_at _ _ hx (show (0:Nat)<18446744073709551616 by decide) _ _ w
 have hV:Hid (wm ⟨4,o,x,s,b,f,c1,r1,p1,q1,c2,r2,p2,q2⟩ n=(decide (1<=f)&&decide (f<=5)&&(n==0)&&hsame ⟨4,o,x,s,b,f,c1,r1,p1,q1,c2,r2,p2,q2⟩ (⟨4,0,0,⟨#[]⟩,false,f,0,0,false,false,0,0,false,false⟩:Hd))):=rfl
 generalize wm ⟨4,o,x,s,b,f,c1,r1,p1,q1,c2,r2,p2,q2⟩ n=V at *
 generalize hsame ⟨4,o,x,s,b,f,c1,r1,p1,q1,c2,r2,p2,q2⟩ (⟨4,0,0,⟨#[]⟩,false,f,0,0,false,false,0,0,false,false⟩:Hd)=Z at *
 clear hx
 by_cases g1:(1:Int)<=f
 ·
  have Hg1:Hid ((decide ((1:Int)<=f))=true):=by show _=_;simp[g1]
  by_cases g2:f<=(5:Int)
  ·
   have Hg2:Hid ((decide (f<=(5:Int)))=true):=by show _=_;simp[g2]
   by_cases hn:n=0
   ·
    subst hn
    go_enter Tryz.func164,Tryz.ntmps164
    go_wp2_with fail
    go_region
    all_goals
     go_wp2_with (go_at_call 101;refine(HS.out _).mono ?_;rintro e w' ⟨rfl,hg⟩;have HG:Hid (Kp w w' Nul):=Kp.trans (by repeat (first|exact Kp.refl _ _|refine Kp.alloc ?_ _|refine Kp.drew ?_)) (Kp.of_gr hg);clear hg)
     go_ret
     exact⟨rBool (by rw[hV.out] <;> simp[Hg1.out,Hg2.out]),by first|exact HG.out|(repeat (first|exact Kp.refl _ _|refine Kp.alloc ?_ _|refine Kp.drew ?_))⟩
   ·
    have Hhn:Hid ((n==0)=false):=by show _=_;simp[hn]
    go_enter Tryz.func164,Tryz.ntmps164
    go_wp2_with fail
    go_region
    all_goals
     go_wp2_with (go_at_call 101;refine(HS.out _).mono ?_;rintro e w' ⟨rfl,hg⟩;have HG:Hid (Kp w w' Nul):=Kp.trans (by repeat (first|exact Kp.refl _ _|refine Kp.alloc ?_ _|refine Kp.drew ?_)) (Kp.of_gr hg);clear hg)
     go_ret
     exact⟨rBool (by rw[hV.out] <;> simp[Hg1.out,Hg2.out,Hhn.out]),by first|exact HG.out|(repeat (first|exact Kp.refl _ _|refine Kp.alloc ?_ _|refine Kp.drew ?_))⟩
  ·
   have Hg2:Hid ((decide (f<=(5:Int)))=false):=by show _=_;simp[g2]
   have g2':=Int.not_le.1 g2
   have g2b:decide (f<=(5:Int))=false:=by simp[g2]
   have g2p:(f<=(5:Int))=False:=by simp[g2]
   by_cases hn:n=0
   ·
    subst hn
    go_enter Tryz.func164,Tryz.ntmps164
    go_wp2_with fail
    go_region
    all_goals
     go_wp2_with (go_at_call 101;refine(HS.out _).mono ?_;rintro e w' ⟨rfl,hg⟩;have HG:Hid (Kp w w' Nul):=Kp.trans (by repeat (first|exact Kp.refl _ _|refine Kp.alloc ?_ _|refine Kp.drew ?_)) (Kp.of_gr hg);clear hg)
     go_ret
     exact⟨rBool (by rw[hV.out] <;> simp[Hg1.out,Hg2.out]),by first|exact HG.out|(repeat (first|exact Kp.refl _ _|refine Kp.alloc ?_ _|refine Kp.drew ?_))⟩
   ·
    have Hhn:Hid ((n==0)=false):=by show _=_;simp[hn]
    go_enter Tryz.func164,Tryz.ntmps164
    go_wp2_with fail
    go_region
    all_goals
     go_wp2_with (go_at_call 101;refine(HS.out _).mono ?_;rintro e w' ⟨rfl,hg⟩;have HG:Hid (Kp w w' Nul):=Kp.trans (by repeat (first|exact Kp.refl _ _|refine Kp.alloc ?_ _|refine Kp.drew ?_)) (Kp.of_gr hg);clear hg)
     go_ret
     exact⟨rBool (by rw[hV.out] <;> simp[Hg1.out,Hg2.out,Hhn.out]),by first|exact HG.out|(repeat (first|exact Kp.refl _ _|refine Kp.alloc ?_ _|refine Kp.drew ?_))⟩
 ·
  have Hg1:Hid ((decide ((1:Int)<=f))=false):=by show _=_;simp[g1]
  have g1':=Int.not_le.1 g1
  have g1b:decide ((1:Int)<=f)=false:=by simp[g1]
  have g1p:((1:Int)<=f)=False:=by simp[g1]
  by_cases hn:n=0
  ·
   subst hn
   go_enter Tryz.func164,Tryz.ntmps164
   go_wp2_with fail
   go_region
   all_goals
    go_wp2_with (go_at_call 101;refine(HS.out _).mono ?_;rintro e w' ⟨rfl,hg⟩;have HG:Hid (Kp w w' Nul):=Kp.trans (by repeat (first|exact Kp.refl _ _|refine Kp.alloc ?_ _|refine Kp.drew ?_)) (Kp.of_gr hg);clear hg)
    go_ret
    exact⟨rBool (by rw[hV.out] <;> simp[Hg1.out]),by first|exact HG.out|(repeat (first|exact Kp.refl _ _|refine Kp.alloc ?_ _|refine Kp.drew ?_))⟩
  ·
   have Hhn:Hid ((n==0)=false):=by show _=_;simp[hn]
   go_enter Tryz.func164,Tryz.ntmps164
   go_wp2_with fail
   go_region
   all_goals
    go_wp2_with (go_at_call 101;refine(HS.out _).mono ?_;rintro e w' ⟨rfl,hg⟩;have HG:Hid (Kp w w' Nul):=Kp.trans (by repeat (first|exact Kp.refl _ _|refine Kp.alloc ?_ _|refine Kp.drew ?_)) (Kp.of_gr hg);clear hg)
    go_ret
    exact⟨rBool (by rw[hV.out] <;> simp[Hg1.out,Hhn.out]),by first|exact HG.out|(repeat (first|exact Kp.refl _ _|refine Kp.alloc ?_ _|refine Kp.drew ?_))⟩
end Go.Proofs.YtecjfnkakodebaaGreatDoor
