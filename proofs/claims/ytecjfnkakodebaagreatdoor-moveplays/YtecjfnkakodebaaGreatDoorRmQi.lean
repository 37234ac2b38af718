/-formula's wellMade, by kinds. -/
import Derived.Test.YtecjfnkakodebaaGreatDoorRmQa
open Go.Proofs.Tryz
open Go.Value renaming bool->E,slice->U
open Bool renaming false->R
open Option renaming none->G
open Go.Ending renaming returned->Q
set_option maxRecDepth 20000
set_option maxHeartbeats 8000000
namespace Go.Proofs.YtecjfnkakodebaaGreatDoor
open Go.RowKit
theorem jEh (o:Int)(x:Nat)(s:ByteArray)(b:Bool)(f c1 r1:Int)(p1 q1:Bool)(c2 r2:Int)(p2 q2:Bool)(n:Nat)(a:Option Addr)(c:Nat)(hx:x<18446744073709551616)(w:World):
 Calls prog 164 #[Hd.val ⟨1,o,x,s,b,f,c1,r1,p1,q1,c2,r2,p2,q2⟩ (U a n c)] w fun e w'=>e=Q (E (wm ⟨1,o,x,s,b,f,c1,r1,p1,q1,c2,r2,p2,q2⟩ n))/\Kp w w' Nul:=by
 have HS:Hid (∀w,Calls prog 101 #[Hd.val ⟨1,o,x,s,b,f,c1,r1,p1,q1,c2,r2,p2,q2⟩ (U a n c),Hd.val (⟨1,0,x,⟨#[]⟩,R,0,0,0,R,R,0,0,R,R⟩:Hd) (U G 0 0)] w fun e w'=>e=Q (E (j9 ⟨1,o,x,s,b,f,c1,r1,p1,q1,c2,r2,p2,q2⟩ (⟨1,0,x,⟨#[]⟩,R,0,0,0,R,R,0,0,R,R⟩:Hd)))/\Gr w w'):=fun w=>Y0 _ _ hx hx _ _ w
 have HP:=h_ (jAX x hx);have hV:Hid (wm ⟨1,o,x,s,b,f,c1,r1,p1,q1,c2,r2,p2,q2⟩ n=(O9 x&&(n==0)&&j9 ⟨1,o,x,s,b,f,c1,r1,p1,q1,c2,r2,p2,q2⟩ (⟨1,0,x,⟨#[]⟩,R,0,0,0,R,R,0,0,R,R⟩:Hd))):=rfl;generalize wm ⟨1,o,x,s,b,f,c1,r1,p1,q1,c2,r2,p2,q2⟩ n=V at *;generalize j9 ⟨1,o,x,s,b,f,c1,r1,p1,q1,c2,r2,p2,q2⟩ (⟨1,0,x,⟨#[]⟩,R,0,0,0,R,R,0,0,R,R⟩:Hd)=Z at *;generalize O9 x=PX at *;clear hx;cases PX
 ·
  by_cases hn:n=0
  ·
   subst hn;go_enter func164,ntmps164;go_wp2_with fail
   go_region_with (go_at_call 178;refine(HP.o _).mono ?_;rintro e w' ⟨rfl,rfl⟩)
   all_goals
    go_wp2_with (go_at_call 101;refine(HS.o _).mono ?_;rintro e w' ⟨rfl,hg⟩;have HG:Hid (Kp w w' Nul):=Kp.trans (by repeat (first|exact Kp.refl _ _|refine Kp.alloc ?_ _|refine Kp.drew ?_)) (Kp.of_gr hg);clear hg);go_ret;exact⟨j4 (by rw[hV.o] <;> simp[]),by first|exact HG.o|(repeat (first|exact Kp.refl _ _|refine Kp.alloc ?_ _|refine Kp.drew ?_))⟩
  ·
   have Hhn:Hid ((n==0)=R):=(by show _=_;simp[hn]);go_enter func164,ntmps164;go_wp2_with fail
   go_region_with (go_at_call 178;refine(HP.o _).mono ?_;rintro e w' ⟨rfl,rfl⟩)
   all_goals
    go_wp2_with (go_at_call 101;refine(HS.o _).mono ?_;rintro e w' ⟨rfl,hg⟩;have HG:Hid (Kp w w' Nul):=Kp.trans (by repeat (first|exact Kp.refl _ _|refine Kp.alloc ?_ _|refine Kp.drew ?_)) (Kp.of_gr hg);clear hg);go_ret;exact⟨j4 (by rw[hV.o] <;> simp[Hhn.o]),by first|exact HG.o|(repeat (first|exact Kp.refl _ _|refine Kp.alloc ?_ _|refine Kp.drew ?_))⟩
 ·
  by_cases hn:n=0
  ·
   subst hn;go_enter func164,ntmps164;go_wp2_with fail
   go_region_with (go_at_call 178;refine(HP.o _).mono ?_;rintro e w' ⟨rfl,rfl⟩)
   all_goals
    go_wp2_with (go_at_call 101;refine(HS.o _).mono ?_;rintro e w' ⟨rfl,hg⟩;have HG:Hid (Kp w w' Nul):=Kp.trans (by repeat (first|exact Kp.refl _ _|refine Kp.alloc ?_ _|refine Kp.drew ?_)) (Kp.of_gr hg);clear hg);go_ret;exact⟨j4 (by rw[hV.o] <;> simp[]),by first|exact HG.o|(repeat (first|exact Kp.refl _ _|refine Kp.alloc ?_ _|refine Kp.drew ?_))⟩
  ·
   have Hhn:Hid ((n==0)=R):=(by show _=_;simp[hn]);go_enter func164,ntmps164;go_wp2_with fail
   go_region_with (go_at_call 178;refine(HP.o _).mono ?_;rintro e w' ⟨rfl,rfl⟩)
   all_goals
    go_wp2_with (go_at_call 101;refine(HS.o _).mono ?_;rintro e w' ⟨rfl,hg⟩;have HG:Hid (Kp w w' Nul):=Kp.trans (by repeat (first|exact Kp.refl _ _|refine Kp.alloc ?_ _|refine Kp.drew ?_)) (Kp.of_gr hg);clear hg);go_ret;exact⟨j4 (by rw[hV.o] <;> simp[Hhn.o]),by first|exact HG.o|(repeat (first|exact Kp.refl _ _|refine Kp.alloc ?_ _|refine Kp.drew ?_))⟩
end Go.Proofs.YtecjfnkakodebaaGreatDoor
