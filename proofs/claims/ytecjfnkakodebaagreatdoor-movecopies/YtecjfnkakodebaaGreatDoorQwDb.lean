/-The program's Order: cmp.Compare, cmp.Or of two. -/
import Derived.Test.YtecjfnkakodebaaGreatDoorQwAx
import Derived.Test.YtecjfnkakodebaaGreatDoorQwGb
import Derived.Deep.RegionHeld3
set_option maxHeartbeats 2000000
namespace Go.Proofs.YtecjfnkakodebaaGreatDoor
open Go.RowKit
theorem pCompare_any (a b:Int) (w:World) :
  Calls Tryz.prog 136 #[.int .i64 a,.int .i64 b] w fun e w'=>e=.returned (.int .i64 (cmpI a b))/\w'=w:=by
 have hV:Hid (cmpI a b=if a<b then -1 else if b<a then 1 else 0):=rfl
 generalize cmpI a b=V at *
 go_enter Tryz.func136,Tryz.ntmps136
 go_wp2
 all_goals
  go_ret
  refine⟨rInt ?_,rfl⟩
  rw[hV.out]
  repeat' split
  all_goals omega
theorem pOr_two (b:Nat) (p q:Int) (w:World) (h0:w.cell? ⟨b,0,none⟩=some (.int .i64 p)) (h1:w.cell? ⟨b,1,none⟩=some (.int .i64 q)) :
  Calls Tryz.prog 171 #[.slice (some ⟨b,0,none⟩) 2 2] w fun e w'=>e=.returned (.int .i64 (if p=0 then q else p))/\w'=w:=by
 have hV:Hid (∀V,V=(if p=0 then q else p)->V=(if p=0 then q else p)):=fun _ h=>h
 obtain⟨V,hVV⟩:∃V,(if p=0 then q else p)=V:=⟨_,rfl⟩
 have HV:Hid ((if p=0 then q else p)=V):=hVV
 rw[hVV]
 clear hV hVV
 go_enter Tryz.func171,Tryz.ntmps171
 go_wp2
 go_loopw[8] (fun i wr=>wr=w/\(i=.int .i64 0∨(i=.int .i64 1/\p=0)∨(i=.int .i64 2/\p=0/\q=0))) (fun i _=>(2-intOf i).toNat)
 case atStart=>exact⟨rfl,.inl rfl⟩
 case round=>
  obtain⟨hw,hc⟩:=hrel
  subst hw
  rcases hc with rfl|⟨rfl,hp⟩|⟨rfl,hp,hq⟩
  ·by_cases hp:p=0
   ·subst hp
    go_wp2
    go_roundw
    case rel=>simp
    case measure=>simp only[intOf];omega
   ·have hV:Hid (p=V):=by show _=_;rw[<- HV.out,if_neg hp]
    have hp':(p != 0)=true:=by simpa using hp
    clear HV
    go_wp2
    go_ret
    exact⟨rInt hV.out,rfl⟩
  ·subst hp
   have hV:Hid (q=V):=by show _=_;rw[<- HV.out,if_pos rfl]
   clear HV
   by_cases hq:q=0
   ·subst hq
    go_wp2
    go_roundw
    case rel=>simp
    case measure=>simp only[intOf];omega
   ·have hq':(q != 0)=true:=by simpa using hq
    go_wp2
    go_ret
    exact⟨rInt hV.out,rfl⟩
  ·subst hp hq
   have hV:Hid (0=V):=by show _=_;rw[<- HV.out,if_pos rfl]
   clear HV
   go_wp2
   go_ret
   exact⟨rInt hV.out,rfl⟩
end Go.Proofs.YtecjfnkakodebaaGreatDoor
