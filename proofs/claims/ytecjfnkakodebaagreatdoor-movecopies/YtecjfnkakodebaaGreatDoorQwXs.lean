/-sameFields: two nodes alike but for their lists. -/
import Derived.Test.YtecjfnkakodebaaGreatDoorQwWa
import Derived.Test.YtecjfnkakodebaaGreatDoorQwXk
set_option maxRecDepth 20000
set_option maxHeartbeats 4000000
namespace Go.Proofs.YtecjfnkakodebaaGreatDoor
open Go.RowKit
theorem eql_ref (a b c d:Int) (p q s t:Bool) (T:Bool) (hT:(a==c&&b==d&&p==s&&q==t)=T) (w:World):(binOp .eql 45 (.agg #[.int .i64 a,.int .i64 b,.bool p,.bool q]) (.agg #[.int .i64 c,.int .i64 d,.bool s,.bool t])).run Tryz.prog w=.ok (.bool T) w:=by
 subst hT
 by_cases h1:a=c
 ·subst h1
  by_cases h2:b=d
  ·subst h2
   cases p <;> cases q <;> cases s <;> cases t <;> simp[go_sem]
  ·have h2':(b==d)=false:=by simpa using h2
   simp[go_sem,h2']
 ·have h1':(a==c)=false:=by simpa using h1
  simp[go_sem,h1']
def hsame (h g:Hd):Bool:=h.k==g.k&&h.o==g.o&&fsame h.x g.x&&decide (h.s.toList=g.s.toList)&&h.b==g.b&&h.f==g.f &&
 (h.c1==g.c1&&h.r1==g.r1&&h.p1==g.p1&&h.q1==g.q1)&&(h.c2==g.c2&&h.r2==g.r2&&h.p2==g.p2&&h.q2==g.q2)
theorem sameFields_at (h g:Hd) (hx:h.x<18446744073709551616) (gx:g.x<18446744073709551616) (sl sg:Value) (w:World) :
  Calls Tryz.prog 101 #[h.val sl,g.val sg] w fun e w'=>e=.returned (.bool (hsame h g))/\Gr w w':=by
 have H1:Hid (∀w,Calls Tryz.prog 140 #[.float .f64 h.x,.float .f64 g.x] w fun e w'=>e=.returned (.bool (fsame h.x g.x))/\w'=w):=fsame_any h.x g.x hx gx
 have e1:=eql_ref h.c1 h.r1 g.c1 g.r1 h.p1 h.q1 g.p1 g.q1 _ rfl
 have e2:=eql_ref h.c2 h.r2 g.c2 g.r2 h.p2 h.q2 g.p2 g.q2 _ rfl
 have hV:Hid (hsame h g=(h.k==g.k&&h.o==g.o&&fsame h.x g.x&&decide (h.s.toList=g.s.toList)&&h.b==g.b&&h.f==g.f &&
  (h.c1==g.c1&&h.r1==g.r1&&h.p1==g.p1&&h.q1==g.q1)&&(h.c2==g.c2&&h.r2==g.r2&&h.p2==g.p2&&h.q2==g.q2))):=rfl
 have G0:Hid (∀a b t u,Gr w ((w.alloc (.cells a t)).alloc (.cells b u))):=fun a b t u=>((Gr.refl w).alloc _ _).alloc _ _
 generalize hsame h g=V at *
 generalize fsame h.x g.x=fs at *
 generalize (h.c1==g.c1&&h.r1==g.r1&&h.p1==g.p1&&h.q1==g.q1)=b1 at *
 generalize (h.c2==g.c2&&h.r2==g.r2&&h.p2==g.p2&&h.q2==g.q2)=b2 at *
 clear hx gx
 obtain⟨k,o,x,s,b,f,c1,r1,p1,q1,c2,r2,p2,q2⟩:=h
 obtain⟨k',o',x',s',b',f',c1',r1',p1',q1',c2',r2',p2',q2'⟩:=g
 simp only at *
 go_enter Tryz.func101,Tryz.ntmps101
 go_wp2_with (go_at_call 140;refine(H1.out _).mono ?_;rintro e w' ⟨rfl,rfl⟩)
 all_goals
  go_ret
  refine⟨rBool ?_,G0.out _ _ _ _⟩
  rw[hV.out]
  clear H1 hV G0 e1 e2
  simp_all
end Go.Proofs.YtecjfnkakodebaaGreatDoor
