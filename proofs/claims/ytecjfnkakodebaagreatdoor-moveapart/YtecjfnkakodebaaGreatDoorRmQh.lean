/-formula's wellMade, by kinds. -/
import Derived.Test.YtecjfnkakodebaaGreatDoorRmQa
open Go.Proofs.Tryz
open Go.Value renaming bool->E,slice->U
open Bool renaming false->R
open Option renaming none->G
open Go.Ending renaming returned->Q
set_option maxRecDepth 20000
set_option maxHeartbeats 8000000
namespace Go.Proofs.YtecjfnkakodebaaGreatDoor
open Go.RowKit
theorem jEp (o:Int)(x:Nat)(s:ByteArray)(b:Bool)(f c1 r1:Int)(p1 q1:Bool)(c2 r2:Int)(p2 q2:Bool)(n:Nat)(a:Option Addr)(c:Nat)(hx:x<18446744073709551616)(w:World):
 Calls prog 164 #[Hd.val ⟨9,o,x,s,b,f,c1,r1,p1,q1,c2,r2,p2,q2⟩ (U a n c)] w fun e w'=>e=Q (E (wm ⟨9,o,x,s,b,f,c1,r1,p1,q1,c2,r2,p2,q2⟩ n))/\Kp w w' Nul:=by
 have HS:Hid (∀w,Calls prog 101 #[Hd.val ⟨9,o,x,s,b,f,c1,r1,p1,q1,c2,r2,p2,q2⟩ (U a n c),Hd.val (⟨9,0,0,s,R,0,0,0,R,R,0,0,R,R⟩:Hd) (U G 0 0)] w fun e w'=>e=Q (E (j9 ⟨9,o,x,s,b,f,c1,r1,p1,q1,c2,r2,p2,q2⟩ (⟨9,0,0,s,R,0,0,0,R,R,0,0,R,R⟩:Hd)))/\Gr w w'):=fun w=>Y0 _ _ hx (show (0:Nat)<18446744073709551616 by decide) _ _ w
 have hV:Hid (wm ⟨9,o,x,s,b,f,c1,r1,p1,q1,c2,r2,p2,q2⟩ n=(j9 ⟨9,o,x,s,b,f,c1,r1,p1,q1,c2,r2,p2,q2⟩ (⟨9,0,0,s,R,0,0,0,R,R,0,0,R,R⟩:Hd))):=rfl;generalize wm ⟨9,o,x,s,b,f,c1,r1,p1,q1,c2,r2,p2,q2⟩ n=V at *;generalize j9 ⟨9,o,x,s,b,f,c1,r1,p1,q1,c2,r2,p2,q2⟩ (⟨9,0,0,s,R,0,0,0,R,R,0,0,R,R⟩:Hd)=Z at *;clear hx;go_enter func164,ntmps164;go_wp2_with fail
 go_region
 all_goals
  go_wp2_with (go_at_call 101;refine(HS.o _).mono ?_;rintro e w' ⟨rfl,hg⟩;have HG:Hid (Kp w w' Nul):=Kp.trans (by repeat (first|exact Kp.refl _ _|refine Kp.alloc ?_ _|refine Kp.drew ?_)) (Kp.of_gr hg);clear hg);go_ret;exact⟨j4 (by rw[hV.o] <;> simp[]),by first|exact HG.o|(repeat (first|exact Kp.refl _ _|refine Kp.alloc ?_ _|refine Kp.drew ?_))⟩
theorem jEm (o:Int)(x:Nat)(s:ByteArray)(b:Bool)(f c1 r1:Int)(p1 q1:Bool)(c2 r2:Int)(p2 q2:Bool)(n:Nat)(a:Option Addr)(c:Nat)(hx:x<18446744073709551616)(w:World):
 Calls prog 164 #[Hd.val ⟨6,o,x,s,b,f,c1,r1,p1,q1,c2,r2,p2,q2⟩ (U a n c)] w fun e w'=>e=Q (E (wm ⟨6,o,x,s,b,f,c1,r1,p1,q1,c2,r2,p2,q2⟩ n))/\Kp w w' Nul:=by
 have HS:Hid (∀w,Calls prog 101 #[Hd.val ⟨6,o,x,s,b,f,c1,r1,p1,q1,c2,r2,p2,q2⟩ (U a n c),Hd.val (⟨6,0,0,⟨#[]⟩,R,0,c1,r1,p1,q1,c2,r2,p2,q2⟩:Hd) (U G 0 0)] w fun e w'=>e=Q (E (j9 ⟨6,o,x,s,b,f,c1,r1,p1,q1,c2,r2,p2,q2⟩ (⟨6,0,0,⟨#[]⟩,R,0,c1,r1,p1,q1,c2,r2,p2,q2⟩:Hd)))/\Gr w w'):=fun w=>Y0 _ _ hx (show (0:Nat)<18446744073709551616 by decide) _ _ w
 have hV:Hid (wm ⟨6,o,x,s,b,f,c1,r1,p1,q1,c2,r2,p2,q2⟩ n=((n==0)&&j9 ⟨6,o,x,s,b,f,c1,r1,p1,q1,c2,r2,p2,q2⟩ (⟨6,0,0,⟨#[]⟩,R,0,c1,r1,p1,q1,c2,r2,p2,q2⟩:Hd))):=rfl;generalize wm ⟨6,o,x,s,b,f,c1,r1,p1,q1,c2,r2,p2,q2⟩ n=V at *;generalize j9 ⟨6,o,x,s,b,f,c1,r1,p1,q1,c2,r2,p2,q2⟩ (⟨6,0,0,⟨#[]⟩,R,0,c1,r1,p1,q1,c2,r2,p2,q2⟩:Hd)=Z at *;clear hx;by_cases hn:n=0
 ·
  subst hn;go_enter func164,ntmps164;go_wp2_with fail
  go_region
  all_goals
   go_wp2_with (go_at_call 101;refine(HS.o _).mono ?_;rintro e w' ⟨rfl,hg⟩;have HG:Hid (Kp w w' Nul):=Kp.trans (by repeat (first|exact Kp.refl _ _|refine Kp.alloc ?_ _|refine Kp.drew ?_)) (Kp.of_gr hg);clear hg);go_ret;exact⟨j4 (by rw[hV.o] <;> simp[]),by first|exact HG.o|(repeat (first|exact Kp.refl _ _|refine Kp.alloc ?_ _|refine Kp.drew ?_))⟩
 ·
  have Hhn:Hid ((n==0)=R):=by show _=_;simp[hn]
  go_enter func164,ntmps164;go_wp2_with fail
  go_region
  all_goals
   go_wp2_with (go_at_call 101;refine(HS.o _).mono ?_;rintro e w' ⟨rfl,hg⟩;have HG:Hid (Kp w w' Nul):=Kp.trans (by repeat (first|exact Kp.refl _ _|refine Kp.alloc ?_ _|refine Kp.drew ?_)) (Kp.of_gr hg);clear hg);go_ret;exact⟨j4 (by rw[hV.o] <;> simp[Hhn.o]),by first|exact HG.o|(repeat (first|exact Kp.refl _ _|refine Kp.alloc ?_ _|refine Kp.drew ?_))⟩
end Go.Proofs.YtecjfnkakodebaaGreatDoor
