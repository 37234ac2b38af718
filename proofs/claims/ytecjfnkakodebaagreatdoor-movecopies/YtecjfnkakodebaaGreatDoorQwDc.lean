/-The program's Area, Meet, Shift. -/
import Derived.Test.YtecjfnkakodebaaGreatDoorQwAx
import Derived.Test.YtecjfnkakodebaaGreatDoorQwGb
import Derived.Deep.RegionHeld3
set_option maxHeartbeats 4000000
namespace Go.Proofs.YtecjfnkakodebaaGreatDoor
open Go.RowKit
theorem keep2 {W w':World} {b:Nat} {x y:Value} (h:Hid (Has2 W b x y)) (g:Gr W w'):w'.cell? ⟨b,0,none⟩=some x/\w'.cell? ⟨b,1,none⟩=some y:=(h.out.gr g).1
theorem shift_one (n x m:Int) (f:Bool) (h0:1<=n) (h1:n<=m) (h2:m<=4096) (hx0:-9223372036854775808<=x) (hx1:x<=9223372036854775807) :
  ((1<=(if f then n else wrap64 (n+x))/\(if f then n else wrap64 (n+x))<=m)↔(shN n x m f).2=true)/\((shN n x m f).2=true->(if f then n else wrap64 (n+x))=(shN n x m f).1):=by
 unfold shN
 cases f
 ·simp only[Bool.false_eq_true,if_false]
  have hw:wrap64 (n+x)=if n+x<=9223372036854775807 then n+x else n+x-18446744073709551616:=by unfold wrap64;split <;> omega
  rw[hw]
  by_cases c1:x < -n∨m<x
  ·rw[if_pos c1]
   simp only[Bool.false_eq_true,iff_false,false_implies,and_true]
   split <;> omega
  ·rw[if_neg c1]
   simp only[Bool.and_eq_true,decide_eq_true_eq]
   rw[if_pos (by omega)]
   exact⟨Iff.rfl,fun _=>rfl⟩
 ·simp only[if_true,iff_true,true_implies,and_true]
  omega
theorem pShift_any (c r x y:Int) (cf rf:Bool) (hx0:-9223372036854775808<=x) (hx1:x<=9223372036854775807) (hy0:-9223372036854775808<=y) (hy1:y<=9223372036854775807) (w:World) :
  Calls Tryz.prog 172 #[.agg #[.int .i64 c,.int .i64 r,.bool cf,.bool rf],.int .i64 x,.int .i64 y] w fun e w'=>
   e=.returned (.tuple #[shV c r cf rf x y,.bool (shOk c r cf rf x y)])/\Gr w w':=by
 have H1:Hid (∀c r w,Calls Tryz.prog 44 #[.agg #[.int .i64 c,.int .i64 r]] w fun e w'=>e=.returned (.bool (vC c r))/\w'=w.alloc (.cells #[.int .i64 c,.int .i64 r] 32)):=pValid_at
 have G0:Hid (∀a b d t u v,Gr w (((w.alloc (.cells a t)).alloc (.cells b u)).alloc (.cells d v))):=fun a b d t u v=>(((Gr.refl w).alloc _ _).alloc _ _).alloc _ _
 have G4:Hid (∀a b d f t u v z,Gr w ((((w.alloc (.cells a t)).alloc (.cells b u)).alloc (.cells d v)).alloc (.cells f z))):=fun a b d f t u v z=>((((Gr.refl w).alloc _ _).alloc _ _).alloc _ _).alloc _ _
 have hv:=vC_iff c r
 have hO:Hid (shOk c r cf rf x y=(vC c r&&(shN c x 256 cf).2&&(shN r y 4096 rf).2)):=rfl
 have hR:Hid (shV c r cf rf x y=if shOk c r cf rf x y then refV (shN c x 256 cf).1 (shN r y 4096 rf).1 cf rf else refV 0 0 false false):=rfl
 generalize shV c r cf rf x y=R at *
 generalize shOk c r cf rf x y=O at *
 cases hV:vC c r
 ·rw[hV] at hO
  have hO':O=false:=hO.out
  subst hO'
  have hR':Hid (refV 0 0 false false=R):=hR.out.symm
  have H1':Hid (∀w,Calls Tryz.prog 44 #[.agg #[.int .i64 c,.int .i64 r]] w fun e w'=>e=.returned (.bool false)/\w'=w.alloc (.cells #[.int .i64 c,.int .i64 r] 32)):=fun w=>by have:=H1.out c r w;rwa [hV] at this
  clear hO hv hR H1 hV hx0 hx1 hy0 hy1
  go_enter Tryz.func172,Tryz.ntmps172
  go_wp2_with fail
  refine(H1'.out _).mono ?_
  rintro e w' ⟨rfl,rfl⟩
  go_wp2_with fail
  refine bodyPost_ret (v:=.tuple #[.agg #[.int .i64 0,.int .i64 0,.bool false,.bool false],.bool false]) (by simp[results,Tryz.results172,go_sem, *]) rfl ?_
  exact⟨rTwo hR'.out rfl,G0.out _ _ _ _ _ _⟩
 ·obtain⟨b1,b2,b3,b4⟩:=hv.1 hV
  rw[hV] at hO
  have H1':Hid (∀w,Calls Tryz.prog 44 #[.agg #[.int .i64 c,.int .i64 r]] w fun e w'=>e=.returned (.bool true)/\w'=w.alloc (.cells #[.int .i64 c,.int .i64 r] 32)):=fun w=>by have:=H1.out c r w;rwa [hV] at this
  obtain⟨X,hX⟩:∃X,(if cf then c else wrap64 (c+x))=X:=⟨_,rfl⟩
  obtain⟨Y,hY⟩:∃Y,(if rf then r else wrap64 (r+y))=Y:=⟨_,rfl⟩
  obtain⟨s1,s2⟩:=shift_one c x 256 cf b1 b2 (by decide) hx0 hx1
  obtain⟨s3,s4⟩:=shift_one r y 4096 rf b3 b4 (by decide) hy0 hy1
  rw[hX] at s1 s2
  rw[hY] at s3 s4
  have hOO:vC X Y=O:=by
   rw[hO.out,Bool.eq_iff_iff,vC_iff,Bool.and_eq_true,Bool.and_eq_true,<- s1,<- s3]
   simp only[true_and,and_assoc]
  have hRR:O=true->refV X Y cf rf=R:=by
   intro h
   have h2:=hO.out
   rw[h] at h2
   have h3:=h2.symm
   rw[Bool.and_eq_true,Bool.and_eq_true] at h3
   rw[hR.out,if_pos h,s2 h3.1.2,s4 h3.2]
  have hRF:O=false->refV 0 0 false false=R:=by
   intro h;rw[hR.out,h];rfl
  have H2:Hid (∀w,Calls Tryz.prog 44 #[.agg #[.int .i64 X,.int .i64 Y]] w fun e w'=>e=.returned (.bool O)/\w'=w.alloc (.cells #[.int .i64 X,.int .i64 Y] 32)):=fun w=>by have:=H1.out X Y w;rwa [hOO] at this
  clear hO hv hR H1 hV hOO b1 b2 b3 b4 hx0 hx1 hy0 hy1 s1 s2 s3 s4
  have HRR:Hid (O=true->refV X Y cf rf=R):=hRR
  have HRF:Hid (O=false->refV 0 0 false false=R):=hRF
  clear hRR hRF
  have hX1:cf=true->c=X:=fun h=>by rw[<- hX,h];rfl
  have hY1:rf=true->r=Y:=fun h=>by rw[<- hY,h];rfl
  have hX0:cf=false->wrap64 (c+x)=X:=fun h=>by rw[<- hX,h];rfl
  have hY0:rf=false->wrap64 (r+y)=Y:=fun h=>by rw[<- hY,h];rfl
  clear hX hY
  cases cf <;> cases rf
  case false.false=>
   replace hX0:=hX0 rfl
   replace hY0:=hY0 rfl
   clear hX1 hY1
   go_enter Tryz.func172,Tryz.ntmps172
   go_wp2_with fail
   refine(H1'.out _).mono ?_
   rintro e w' ⟨rfl,rfl⟩
   go_wp2_with fail
   refine(H2.out _).mono ?_
   rintro e w' ⟨rfl,rfl⟩
   cases O
   ·have hR':=HRF.out rfl
    go_wp2_with fail
    refine bodyPost_ret (v:=.tuple #[.agg #[.int .i64 0,.int .i64 0,.bool false,.bool false],.bool false]) (by simp[results,Tryz.results172,go_sem, *]) rfl ?_
    exact⟨rTwo hR' rfl,G4.out _ _ _ _ _ _ _ _⟩
   ·have hR':=HRR.out rfl
    go_wp2_with fail
    refine bodyPost_ret (v:=.tuple #[.agg #[.int .i64 X,.int .i64 Y,.bool false,.bool false],.bool true]) (by simp[results,Tryz.results172,go_sem, *]) rfl ?_
    exact⟨rTwo hR' rfl,G4.out _ _ _ _ _ _ _ _⟩
  case false.true=>
   replace hX0:=hX0 rfl
   have hy:=hY1 rfl
   subst hy
   clear hX1 hY1 hY0
   go_enter Tryz.func172,Tryz.ntmps172
   go_wp2_with fail
   refine(H1'.out _).mono ?_
   rintro e w' ⟨rfl,rfl⟩
   go_wp2_with fail
   refine(H2.out _).mono ?_
   rintro e w' ⟨rfl,rfl⟩
   cases O
   ·have hR':=HRF.out rfl
    go_wp2_with fail
    refine bodyPost_ret (v:=.tuple #[.agg #[.int .i64 0,.int .i64 0,.bool false,.bool false],.bool false]) (by simp[results,Tryz.results172,go_sem, *]) rfl ?_
    exact⟨rTwo hR' rfl,G4.out _ _ _ _ _ _ _ _⟩
   ·have hR':=HRR.out rfl
    go_wp2_with fail
    refine bodyPost_ret (v:=.tuple #[.agg #[.int .i64 X,.int .i64 r,.bool false,.bool true],.bool true]) (by simp[results,Tryz.results172,go_sem, *]) rfl ?_
    exact⟨rTwo hR' rfl,G4.out _ _ _ _ _ _ _ _⟩
  case true.false=>
   have hx:=hX1 rfl
   subst hx
   replace hY0:=hY0 rfl
   clear hX1 hY1 hX0
   go_enter Tryz.func172,Tryz.ntmps172
   go_wp2_with fail
   refine(H1'.out _).mono ?_
   rintro e w' ⟨rfl,rfl⟩
   go_wp2_with fail
   refine(H2.out _).mono ?_
   rintro e w' ⟨rfl,rfl⟩
   cases O
   ·have hR':=HRF.out rfl
    go_wp2_with fail
    refine bodyPost_ret (v:=.tuple #[.agg #[.int .i64 0,.int .i64 0,.bool false,.bool false],.bool false]) (by simp[results,Tryz.results172,go_sem, *]) rfl ?_
    exact⟨rTwo hR' rfl,G4.out _ _ _ _ _ _ _ _⟩
   ·have hR':=HRR.out rfl
    go_wp2_with fail
    refine bodyPost_ret (v:=.tuple #[.agg #[.int .i64 c,.int .i64 Y,.bool true,.bool false],.bool true]) (by simp[results,Tryz.results172,go_sem, *]) rfl ?_
    exact⟨rTwo hR' rfl,G4.out _ _ _ _ _ _ _ _⟩
  case true.true=>
   have hx:=hX1 rfl
   subst hx
   have hy:=hY1 rfl
   subst hy
   clear hX1 hY1 hX0 hY0
   go_enter Tryz.func172,Tryz.ntmps172
   go_wp2_with fail
   refine(H1'.out _).mono ?_
   rintro e w' ⟨rfl,rfl⟩
   go_wp2_with fail
   refine(H2.out _).mono ?_
   rintro e w' ⟨rfl,rfl⟩
   cases O
   ·have hR':=HRF.out rfl
    go_wp2_with fail
    refine bodyPost_ret (v:=.tuple #[.agg #[.int .i64 0,.int .i64 0,.bool false,.bool false],.bool false]) (by simp[results,Tryz.results172,go_sem, *]) rfl ?_
    exact⟨rTwo hR' rfl,G4.out _ _ _ _ _ _ _ _⟩
   ·have hR':=HRR.out rfl
    go_wp2_with fail
    refine bodyPost_ret (v:=.tuple #[.agg #[.int .i64 c,.int .i64 r,.bool true,.bool true],.bool true]) (by simp[results,Tryz.results172,go_sem, *]) rfl ?_
    exact⟨rTwo hR' rfl,G4.out _ _ _ _ _ _ _ _⟩
theorem pArea_any (c r d s:Int) (w:World) :
  Calls Tryz.prog 96 #[.agg #[.int .i64 c,.int .i64 r],.agg #[.int .i64 d,.int .i64 s]] w fun e w'=>e=.returned (.tuple #[arV c r d s,.int .i64 (arE c r d s)])/\Gr w w':=by
 have H1:Hid (∀w,Calls Tryz.prog 44 #[.agg #[.int .i64 c,.int .i64 r]] w fun e w'=>e=.returned (.bool (vC c r))/\w'=w.alloc (.cells #[.int .i64 c,.int .i64 r] 32)):=pValid_at c r
 have H2:Hid (∀w,Calls Tryz.prog 44 #[.agg #[.int .i64 d,.int .i64 s]] w fun e w'=>e=.returned (.bool (vC d s))/\w'=w.alloc (.cells #[.int .i64 d,.int .i64 s] 32)):=pValid_at d s
 have H3:Hid (∀w,Calls Tryz.prog 132 #[.agg #[.int .i64 c,.int .i64 r],.agg #[.int .i64 d,.int .i64 s]] w fun e w'=>e=.returned (.agg #[.int .i64 (min c d),.int .i64 (min r s)])/\w'=((w.alloc (.cells #[.int .i64 c,.int .i64 r] 32)).alloc (.cells #[.int .i64 d,.int .i64 s] 32)).alloc (.cells #[.int .i64 (min c d),.int .i64 (min r s)] 32)):=pleast_at c r d s
 have H4:Hid (∀w,Calls Tryz.prog 133 #[.agg #[.int .i64 c,.int .i64 r],.agg #[.int .i64 d,.int .i64 s]] w fun e w'=>e=.returned (.agg #[.int .i64 (max c d),.int .i64 (max r s)])/\w'=((w.alloc (.cells #[.int .i64 c,.int .i64 r] 32)).alloc (.cells #[.int .i64 d,.int .i64 s] 32)).alloc (.cells #[.int .i64 (max c d),.int .i64 (max r s)] 32)):=pgreatest_at c r d s
 have G4:Hid (∀a b d f t u v z,Gr w ((((w.alloc (.cells a t)).alloc (.cells b u)).alloc (.cells d v)).alloc (.cells f z))):=fun a b d f t u v z=>((((Gr.refl w).alloc _ _).alloc _ _).alloc _ _).alloc _ _
 have G5:Hid (∀a b d f g t u v z x,Gr w (((((w.alloc (.cells a t)).alloc (.cells b u)).alloc (.cells d v)).alloc (.cells f z)).alloc (.cells g x))):=fun a b d f g t u v z x=>(((((Gr.refl w).alloc _ _).alloc _ _).alloc _ _).alloc _ _).alloc _ _
 have hR:Hid (arV c r d s=if vC c r&&vC d s then areaV (min c d) (min r s) (max c d) (max r s) else areaV 0 0 0 0):=rfl
 have hE:Hid (arE c r d s=if vC c r&&vC d s then 0 else 20):=rfl
 generalize arV c r d s=R at *
 generalize arE c r d s=E at *
 generalize vC c r=p at *
 generalize vC d s=q at *
 cases p
 ·have hR':areaV 0 0 0 0=R:=hR.out.symm
  have hE':20=E:=hE.out.symm
  have HR:Hid (areaV 0 0 0 0=R):=hR'
  subst hE'
  clear hR hE hR' H2 H3 H4
  go_enter Tryz.func96,Tryz.ntmps96
  go_wp2_with fail
  refine(H1.out _).mono ?_
  rintro e w' ⟨rfl,rfl⟩
  go_wp2_with fail
  refine bodyPost_ret (v:=.tuple #[.agg #[.int .i64 0,.int .i64 0,.int .i64 0,.int .i64 0],.int .i64 20]) (by simp[results,Tryz.results96,go_sem, *]) rfl ?_
  exact⟨rTwo HR.out rfl,G4.out _ _ _ _ _ _ _ _⟩
 ·cases q
  ·have hE':20=E:=hE.out.symm
   have HR:Hid (areaV 0 0 0 0=R):=hR.out.symm
   subst hE'
   clear hR hE H3 H4
   go_enter Tryz.func96,Tryz.ntmps96
   go_wp2_with fail
   refine(H1.out _).mono ?_
   rintro e w' ⟨rfl,rfl⟩
   go_wp2_with fail
   refine(H2.out _).mono ?_
   rintro e w' ⟨rfl,rfl⟩
   go_wp2_with fail
   refine bodyPost_ret (v:=.tuple #[.agg #[.int .i64 0,.int .i64 0,.int .i64 0,.int .i64 0],.int .i64 20]) (by simp[results,Tryz.results96,go_sem, *]) rfl ?_
   exact⟨rTwo HR.out rfl,G5.out _ _ _ _ _ _ _ _ _ _⟩
  ·have hE':0=E:=hE.out.symm
   have HR:Hid (areaV (min c d) (min r s) (max c d) (max r s)=R):=hR.out.symm
   subst hE'
   clear hR hE
   have KA:Hid (Has2 ((w.alloc (.cells #[.int .i64 c,.int .i64 r] 32))) w.heap.size (.int .i64 c) (.int .i64 r)):=has2_new w _ _ _
   have KB:Hid (Has2 ((w.alloc (.cells #[.int .i64 c,.int .i64 r] 32)).alloc (.cells #[.int .i64 d,.int .i64 s] 32)) (w.heap.size+1) (.int .i64 d) (.int .i64 s)):=by
    have:=has2_new (w.alloc (.cells #[.int .i64 c,.int .i64 r] 32)) (.int .i64 d) (.int .i64 s) 32
    rw[World.size_alloc] at this
    exact this
   generalize min c d=A1 at *
   generalize min r s=A2 at *
   generalize max c d=A3 at *
   generalize max r s=A4 at *
   go_enter Tryz.func96,Tryz.ntmps96
   go_wp2_with fail
   refine(H1.out _).mono ?_
   rintro e w' ⟨rfl,rfl⟩
   go_wp2_with fail
   refine(H2.out _).mono ?_
   rintro e w' ⟨rfl,rfl⟩
   go_wp2_with fail
   go_region_held3 (fun w'=>(w'.cell? ⟨w.heap.size,0,none⟩=some (.int .i64 c)/\w'.cell? ⟨w.heap.size,1,none⟩=some (.int .i64 r))/\(w'.cell? ⟨w.heap.size+1,0,none⟩=some (.int .i64 d)/\w'.cell? ⟨w.heap.size+1,1,none⟩=some (.int .i64 s)))
    (exact⟨keep2 KA (by repeat (first|exact Gr.refl _|refine Gr.drew ?_|refine Gr.alloc ?_ _ _)),keep2 KB (by repeat (first|exact Gr.refl _|refine Gr.drew ?_|refine Gr.alloc ?_ _ _))⟩) (first
    | (go_at_call 132;refine(H3.out _).mono ?_;rintro e w' ⟨rfl,rfl⟩)
    | (go_at_call 133;refine(H4.out _).mono ?_;rintro e w' ⟨rfl,rfl⟩))
   all_goals
    go_wp2_with fail
    refine bodyPost_ret (v:=.tuple #[.agg #[.int .i64 A1,.int .i64 A2,.int .i64 A3,.int .i64 A4],.int .i64 0]) (by simp[results,Tryz.results96,go_sem, *]) rfl ?_
    refine⟨rTwo HR.out rfl,?_⟩
    repeat (first|exact Gr.refl _|refine Gr.alloc ?_ _ _|refine Gr.drew ?_|refine Gr.drewN ?_ _)
end Go.Proofs.YtecjfnkakodebaaGreatDoor
