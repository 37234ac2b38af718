/-formula's wellMade, by kinds. -/
import Derived.Test.YtecjfnkakodebaaGreatDoorRmQa
open Go.Proofs.Tryz
open Go.Value renaming bool->E,slice->U
open Bool renaming false->R,true->J
open Option renaming none->G
open Go.Ending renaming returned->Q
set_option maxRecDepth 20000
set_option maxHeartbeats 8000000
namespace Go.Proofs.YtecjfnkakodebaaGreatDoor
open Go.RowKit
theorem jEk (o:Int)(x:Nat)(s:ByteArray)(b:Bool)(f c1 r1:Int)(p1 q1:Bool)(c2 r2:Int)(p2 q2:Bool)(n:Nat)(a:Option Addr)(c:Nat)(hx:x<18446744073709551616)(w:World):
 Calls prog 164 #[Hd.val ⟨4,o,x,s,b,f,c1,r1,p1,q1,c2,r2,p2,q2⟩ (U a n c)] w fun e w'=>e=Q (E (wm ⟨4,o,x,s,b,f,c1,r1,p1,q1,c2,r2,p2,q2⟩ n))/\Kp w w' Nul:=by
 have HS:Hid (∀w,Calls prog 101 #[Hd.val ⟨4,o,x,s,b,f,c1,r1,p1,q1,c2,r2,p2,q2⟩ (U a n c),Hd.val (⟨4,0,0,⟨#[]⟩,R,f,0,0,R,R,0,0,R,R⟩:Hd) (U G 0 0)] w fun e w'=>e=Q (E (j9 ⟨4,o,x,s,b,f,c1,r1,p1,q1,c2,r2,p2,q2⟩ (⟨4,0,0,⟨#[]⟩,R,f,0,0,R,R,0,0,R,R⟩:Hd)))/\Gr w w'):=fun w=>Y0 _ _ hx (show (0:Nat)<18446744073709551616 by decide) _ _ w
 have hV:Hid (wm ⟨4,o,x,s,b,f,c1,r1,p1,q1,c2,r2,p2,q2⟩ n=(decide (1<=f)&&decide (f<=5)&&(n==0)&&j9 ⟨4,o,x,s,b,f,c1,r1,p1,q1,c2,r2,p2,q2⟩ (⟨4,0,0,⟨#[]⟩,R,f,0,0,R,R,0,0,R,R⟩:Hd))):=rfl;generalize wm ⟨4,o,x,s,b,f,c1,r1,p1,q1,c2,r2,p2,q2⟩ n=V at *;generalize j9 ⟨4,o,x,s,b,f,c1,r1,p1,q1,c2,r2,p2,q2⟩ (⟨4,0,0,⟨#[]⟩,R,f,0,0,R,R,0,0,R,R⟩:Hd)=Z at *;clear hx;by_cases g1:(1:Int)<=f
 ·
  have Hg1:Hid ((decide ((1:Int)<=f))=J):=by show _=_;simp[g1]
  by_cases g2:f<=(5:Int)
  ·
   have Hg2:Hid ((decide (f<=(5:Int)))=J):=(by show _=_;simp[g2]);by_cases hn:n=0
   ·
    subst hn;go_enter func164,ntmps164;go_wp2_with fail
    go_region
    all_goals
     go_wp2_with (go_at_call 101;refine(HS.o _).mono ?_;rintro e w' ⟨rfl,hg⟩;have HG:Hid (Kp w w' Nul):=Kp.trans (by repeat (first|exact Kp.refl _ _|refine Kp.alloc ?_ _|refine Kp.drew ?_)) (Kp.of_gr hg);clear hg);go_ret;exact⟨j4 (by rw[hV.o] <;> simp[Hg1.o,Hg2.o]),by first|exact HG.o|(repeat (first|exact Kp.refl _ _|refine Kp.alloc ?_ _|refine Kp.drew ?_))⟩
   ·
    have Hhn:Hid ((n==0)=R):=(by show _=_;simp[hn]);go_enter func164,ntmps164;go_wp2_with fail
    go_region
    all_goals
     go_wp2_with (go_at_call 101;refine(HS.o _).mono ?_;rintro e w' ⟨rfl,hg⟩;have HG:Hid (Kp w w' Nul):=Kp.trans (by repeat (first|exact Kp.refl _ _|refine Kp.alloc ?_ _|refine Kp.drew ?_)) (Kp.of_gr hg);clear hg);go_ret;exact⟨j4 (by rw[hV.o] <;> simp[Hg1.o,Hg2.o,Hhn.o]),by first|exact HG.o|(repeat (first|exact Kp.refl _ _|refine Kp.alloc ?_ _|refine Kp.drew ?_))⟩
  ·
   have Hg2:Hid ((decide (f<=(5:Int)))=R):=(by show _=_;simp[g2]);have g2':=Int.not_le.1 g2;have g2b:decide (f<=(5:Int))=R:=(by simp[g2]);have g2p:(f<=(5:Int))=False:=(by simp[g2]);by_cases hn:n=0
   ·
    subst hn;go_enter func164,ntmps164;go_wp2_with fail
    go_region
    all_goals
     go_wp2_with (go_at_call 101;refine(HS.o _).mono ?_;rintro e w' ⟨rfl,hg⟩;have HG:Hid (Kp w w' Nul):=Kp.trans (by repeat (first|exact Kp.refl _ _|refine Kp.alloc ?_ _|refine Kp.drew ?_)) (Kp.of_gr hg);clear hg);go_ret;exact⟨j4 (by rw[hV.o] <;> simp[Hg1.o,Hg2.o]),by first|exact HG.o|(repeat (first|exact Kp.refl _ _|refine Kp.alloc ?_ _|refine Kp.drew ?_))⟩
   ·
    have Hhn:Hid ((n==0)=R):=(by show _=_;simp[hn]);go_enter func164,ntmps164;go_wp2_with fail
    go_region
    all_goals
     go_wp2_with (go_at_call 101;refine(HS.o _).mono ?_;rintro e w' ⟨rfl,hg⟩;have HG:Hid (Kp w w' Nul):=Kp.trans (by repeat (first|exact Kp.refl _ _|refine Kp.alloc ?_ _|refine Kp.drew ?_)) (Kp.of_gr hg);clear hg);go_ret;exact⟨j4 (by rw[hV.o] <;> simp[Hg1.o,Hg2.o,Hhn.o]),by first|exact HG.o|(repeat (first|exact Kp.refl _ _|refine Kp.alloc ?_ _|refine Kp.drew ?_))⟩
 ·
  have Hg1:Hid ((decide ((1:Int)<=f))=R):=by show _=_;simp[g1]
  have g1':=Int.not_le.1 g1;have g1b:decide ((1:Int)<=f)=R:=by simp[g1]
  have g1p:((1:Int)<=f)=False:=by simp[g1]
  by_cases hn:n=0
  ·
   subst hn;go_enter func164,ntmps164;go_wp2_with fail
   go_region
   all_goals
    go_wp2_with (go_at_call 101;refine(HS.o _).mono ?_;rintro e w' ⟨rfl,hg⟩;have HG:Hid (Kp w w' Nul):=Kp.trans (by repeat (first|exact Kp.refl _ _|refine Kp.alloc ?_ _|refine Kp.drew ?_)) (Kp.of_gr hg);clear hg);go_ret;exact⟨j4 (by rw[hV.o] <;> simp[Hg1.o]),by first|exact HG.o|(repeat (first|exact Kp.refl _ _|refine Kp.alloc ?_ _|refine Kp.drew ?_))⟩
  ·
   have Hhn:Hid ((n==0)=R):=(by show _=_;simp[hn]);go_enter func164,ntmps164;go_wp2_with fail
   go_region
   all_goals
    go_wp2_with (go_at_call 101;refine(HS.o _).mono ?_;rintro e w' ⟨rfl,hg⟩;have HG:Hid (Kp w w' Nul):=Kp.trans (by repeat (first|exact Kp.refl _ _|refine Kp.alloc ?_ _|refine Kp.drew ?_)) (Kp.of_gr hg);clear hg);go_ret;exact⟨j4 (by rw[hV.o] <;> simp[Hg1.o,Hhn.o]),by first|exact HG.o|(repeat (first|exact Kp.refl _ _|refine Kp.alloc ?_ _|refine Kp.drew ?_))⟩
end Go.Proofs.YtecjfnkakodebaaGreatDoor
