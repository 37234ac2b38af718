/-value's isFault, bare, Valid, OfNumber; grid's isZeroValue. -/
import Derived.Test.YtecjfnkakodebaaGreatDoorQwWa
import Derived.Test.YtecjfnkakodebaaGreatDoorQwXk
set_option maxHeartbeats 4000000
set_option maxRecDepth 20000
namespace Go.Proofs.YtecjfnkakodebaaGreatDoor
open Go.RowKit
def isF (f:Int):Bool:=decide (1<=f)&&decide (f<=5)
theorem isFault_at (f:Int) (w:World):Calls Tryz.prog 118 #[.int .i64 f] w fun e w'=>e=.returned (.bool (isF f))/\w'=w:=by
 have hV:Hid (isF f=(decide (1<=f)&&decide (f<=5))):=rfl
 generalize isF f=V at *
 go_enter Tryz.func118,Tryz.ntmps118
 go_wp2
 all_goals
  go_ret
  refine⟨rBool ?_,rfl⟩
  rw[hV.out]
  clear hV
  (try simp_all) <;> (try omega)
def bareV (v:Vl):Bool:=(v.k==1 || (v.x:Int)==0)&&(v.k==2 || decide (v.s.toList=[]))&&(v.k==3 || !v.b)&&(v.k==4 || v.f==0)
theorem bare_at (v:Vl) (w:World):Calls Tryz.prog 116 #[v.val] w fun e w'=>e=.returned (.bool (bareV v))/\Gr w w':=by
 have G0:Hid (∀a t,Gr w (w.alloc (.cells a t))):=fun a t=>(Gr.refl w).alloc _ _
 have hV:Hid (bareV v=((v.k==1 || (v.x:Int)==0)&&(v.k==2 || decide (v.s.toList=[]))&&(v.k==3 || !v.b)&&(v.k==4 || v.f==0))):=rfl
 generalize bareV v=V at *
 obtain⟨k,x,s,b,f⟩:=v
 simp only at *
 go_enter Tryz.func116,Tryz.ntmps116
 go_wp2
 all_goals
  go_ret
  refine⟨rBool ?_,G0.out _ _⟩
  rw[hV.out]
  clear hV G0
  simp_all
def validV (v:Vl) (u:Bool):Bool:=bareV v&&(v.k==0 || v.k==1 || v.k==3 || (v.k==2&&decide (v.s.size<=1024)&&u)||(v.k==4&&isF v.f))
theorem valid_at (v:Vl) (u:Bool) (w:World)
  (U:Hid (v.k=2->∀wq,Gr w wq->Calls Tryz.prog 117 #[.string v.s] wq fun e w'=>e=.returned (.bool u)/\Gr wq w')) :
  Calls Tryz.prog 85 #[v.val] w fun e w'=>e=.returned (.bool (validV v u))/\Gr w w':=by
 have H1:Hid (∀w,Calls Tryz.prog 116 #[v.val] w fun e w'=>e=.returned (.bool (bareV v))/\Gr w w'):=bare_at v
 have H2:Hid (∀w,Calls Tryz.prog 118 #[.int .i64 v.f] w fun e w'=>e=.returned (.bool (isF v.f))/\w'=w):=isFault_at v.f
 have hV:Hid (validV v u=(bareV v&&(v.k==0 || v.k==1 || v.k==3 || (v.k==2&&decide (v.s.size<=1024)&&u)||(v.k==4&&isF v.f)))):=rfl
 generalize validV v u=V at *
 generalize bareV v=B at *
 generalize isF v.f=I at *
 obtain⟨k,x,s,b,f⟩:=v
 simp only at *
 go_enter Tryz.func85,Tryz.ntmps85
 go_wp2_with fail
 refine(H1.out _).mono ?_
 rintro e w1 ⟨rfl,hg1⟩
 have hcell:=hg1.ext.cell
 have G1:Hid (Gr w w1):=((Gr.refl _).alloc _ _).trans hg1
 clear hg1 H1
 cases B
 ·go_wp2_with fail
  go_ret
  exact⟨rBool (by rw[hV.out];rfl),G1.out⟩
 ·by_cases k2:k=2
  ·have U2:Hid (∀wq,Gr w wq->Calls Tryz.prog 117 #[.string s] wq fun e w'=>e=.returned (.bool u)/\Gr wq w'):=U.out k2
   subst k2
   clear U
   go_wp2_with (go_at_call 117;refine(U2.out _ G1.out).mono ?_;rintro e w2 ⟨rfl,hg2⟩;have G2:Hid (Gr w w2):=G1.out.trans hg2;clear hg2 hcell)
   ·go_ret
    refine⟨rBool ?_,G2.out⟩
    rw[hV.out]
    clear hV
    simp_all
    try omega
   ·go_ret
    refine⟨rBool ?_,G1.out⟩
    rw[hV.out]
    clear hV
    simp_all
    try omega
  ·clear U
   go_wp2_with (go_at_call 118;refine(H2.out _).mono ?_;rintro e w2 ⟨rfl,rfl⟩)
   all_goals
    go_ret
    refine⟨rBool ?_,G1.out⟩
    rw[hV.out]
    clear hV hcell H2
    simp_all
theorem infoValue:(Tryz.prog.info? 43).map (·.size)=some 5:=by kernel_rfl
def zeroV (v:Vl):Bool:=v.k==0&&bareV v
theorem isZeroValue_at (v:Vl) (w:World):Calls Tryz.prog 83 #[v.val] w fun e w'=>e=.returned (.bool (zeroV v))/\Gr w w':=by
 have H1:Hid (v.k=0->∀wq,Calls Tryz.prog 85 #[v.val] wq fun e w'=>e=.returned (.bool (bareV v))/\Gr wq w'):=by
  intro hk wq
  have:=valid_at v false wq (fun h2=>absurd h2 (by rw[hk];decide))
  rw[show validV v false=bareV v from by unfold validV;rw[hk];simp] at this
  exact this
 have hV:Hid (zeroV v=(v.k==0&&bareV v)):=rfl
 generalize zeroV v=V at *
 generalize bareV v=B at *
 obtain⟨k,x,s,b,f⟩:=v
 simp only at *
 by_cases k0:k=0
 ·have H2:Hid (∀wq,Calls Tryz.prog 85 #[.agg #[.int .i64 k,.float .f64 x,.string s,.bool b,.int .i64 f]] wq fun e w'=>e=.returned (.bool B)/\Gr wq w'):=H1.out k0
  subst k0
  clear H1
  go_enter Tryz.func83,Tryz.ntmps83
  go_wp2_with fail
  refine(H2.out _).mono ?_
  rintro e w1 ⟨rfl,hg1⟩
  have G1:Hid (Gr w w1):=((Gr.refl _).alloc _ _).trans hg1
  clear hg1 H2
  go_wp2_with fail
  go_ret
  exact⟨rBool (by rw[hV.out];rfl),G1.out⟩
 ·clear H1
  have hk:(k==0)=false:=by simpa using k0
  have G1:Hid (∀a t,Gr w (w.alloc (.cells a t))):=fun a t=>(Gr.refl w).alloc _ _
  go_enter Tryz.func83,Tryz.ntmps83
  go_wp2_with fail
  go_ret
  exact⟨rBool (by rw[hV.out,hk];rfl),G1.out _ _⟩
theorem ofNumber_at (x:Nat) (hx:x<18446744073709551616) (w:World) :
  Calls Tryz.prog 87 #[.float .f64 x] w fun e w'=>e=.returned (.agg #[.int .i64 1,.float .f64 (one x),.string ⟨#[]⟩,.bool false,.int .i64 0])/\Gr w w':=by
 have H1:Hid (∀w,Calls Tryz.prog 108 #[.float .f64 x] w fun e w'=>e=.returned (.float .f64 (one x))/\w'=w):=one_any x hx
 generalize one x=y at *
 go_enter Tryz.func87,Tryz.ntmps87
 go_wp2_with (go_at_call 108;refine(H1.out _).mono ?_;rintro e w' ⟨rfl,rfl⟩)
 refine bodyPost_ret (results_cell_row rfl _ _ w.heap.size 43 _ (0,0) _ rfl (heap_alloc_new _ _) Tryz.underlying43 rfl infoValue) rfl ?_
 exact⟨rfl,(Gr.refl _).alloc _ _⟩
end Go.Proofs.YtecjfnkakodebaaGreatDoor
