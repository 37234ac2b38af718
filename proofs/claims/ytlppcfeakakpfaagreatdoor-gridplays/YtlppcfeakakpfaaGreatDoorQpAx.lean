/- Cells and areas: plain functions. No program here. The program's Valid, ValidArea, In, Size, sign, letter, least, greatest. The document's Valid, less, Order, ValidArea. The document's In, Size, shifted, Shift. -/
import Derived.Test.YtlppcfeakakpfaaGreatDoorQpGa
import Derived.Deep.RegionWith
set_option maxHeartbeats 2000000
namespace Go.Proofs.YtlppcfeakakpfaaGreatDoor
open Go.RowKit
def vC (c r:Int):Bool:=decide (1≤c) && decide (c≤256) && decide (1≤r) && decide (r≤4096)
def cmpI (a b:Int):Int:=if a < b then -1 else if b < a then 1 else 0
def ordC (c r d s:Int):Int:=if cmpI r s=0 then cmpI c d else cmpI r s
def vA (c r d s:Int):Bool:=vC c r && vC d s && decide (c≤d) && decide (r≤s)
def inA (c r d s x y:Int):Bool:=vA c r d s && decide (c≤x) && decide (x≤d) && decide (r≤y) && decide (y≤s)
def sizeA (c r d s:Int):Int:=if vA c r d s then (d - c+1) * (s - r+1) else 0
theorem vC_iff (c r:Int):vC c r=true ↔ 1≤c∧c≤256∧1≤r∧r≤4096:=by
 simp [vC,Bool.and_eq_true,and_assoc]
theorem vA_bd (c r d s:Int):vA c r d s=true→1≤c∧c≤d∧d≤256∧1≤r∧r≤s∧s≤4096:=by
 simp only [vA,vC,Bool.and_eq_true,decide_eq_true_eq]
 omega
theorem vA_iff (c r d s:Int):vA c r d s=true ↔ 1≤c∧c≤d∧d≤256∧1≤r∧r≤s∧s≤4096:=by
 simp only [vA,vC,Bool.and_eq_true,decide_eq_true_eq]
 omega
theorem mul_bd (a b:Int) (h0:0≤a) (h1:a≤10000) (k0:0≤b) (k1:b≤10000):0≤a * b∧a * b≤100000000:=by
 refine ⟨Int.mul_nonneg h0 k0,?_⟩
 have:=Int.mul_le_mul h1 k1 k0 (by decide)
 omega
theorem pValid_at (c r:Int) (w:World) :
  Calls Tryz.prog 35 #[.agg #[.int .i64 c,.int .i64 r]] w fun e w'=>e=.returned (.bool (vC c r))∧w'=w.alloc (.cells #[.int .i64 c,.int .i64 r] 36):=by
 have hV:Hid (vC c r=(decide (1≤c) && decide (c≤256) && decide (1≤r) && decide (r≤4096))):=rfl
 generalize vC c r=V at *
 go_enter Tryz.func35,Tryz.ntmps35
 go_wp2
 all_goals
  go_ret
  refine ⟨rBool ?_,rfl⟩
  rw [hV.out,Bool.eq_iff_iff]
  simp only [Bool.and_eq_true,decide_eq_true_eq,Bool.false_eq_true,false_iff]
  omega
theorem pValidArea_any (c r d s:Int) (w:World) :
  Calls Tryz.prog 109 #[.agg #[.int .i64 c,.int .i64 r,.int .i64 d,.int .i64 s]] w fun e w'=>e=.returned (.bool (vA c r d s))∧Gr w w':=by
 have H1:Hid (∀ w,Calls Tryz.prog 35 #[.agg #[.int .i64 c,.int .i64 r]] w fun e w'=>e=.returned (.bool (vC c r))∧w'=w.alloc (.cells #[.int .i64 c,.int .i64 r] 36)):=pValid_at c r
 have H2:Hid (∀ w,Calls Tryz.prog 35 #[.agg #[.int .i64 d,.int .i64 s]] w fun e w'=>e=.returned (.bool (vC d s))∧w'=w.alloc (.cells #[.int .i64 d,.int .i64 s] 36)):=pValid_at d s
 have hV:Hid (vA c r d s=(vC c r && vC d s && decide (c≤d) && decide (r≤s))):=rfl
 have G2:Hid (∀ a b t u,Gr w ((w.alloc (.cells a t)).alloc (.cells b u))):=fun a b t u=>((Gr.refl w).alloc _ _).alloc _ _
 have G3:Hid (∀ a b d t u v,Gr w (((w.alloc (.cells a t)).alloc (.cells b u)).alloc (.cells d v))):=fun a b d t u v=>(((Gr.refl w).alloc _ _).alloc _ _).alloc _ _
 generalize vA c r d s=V at *
 generalize vC c r=p at *
 generalize vC d s=q at *
 cases p
 ·go_enter Tryz.func109,Tryz.ntmps109
  go_wp2_with fail
  refine (H1.out _).mono ?_
  rintro e w' ⟨rfl,rfl⟩
  go_wp2_with fail
  go_ret
  exact ⟨rBool hV.out.symm,G2.out _ _ _ _⟩
 ·cases q
  ·go_enter Tryz.func109,Tryz.ntmps109
   go_wp2_with fail
   refine (H1.out _).mono ?_
   rintro e w' ⟨rfl,rfl⟩
   go_wp2_with fail
   refine (H2.out _).mono ?_
   rintro e w' ⟨rfl,rfl⟩
   go_wp2_with fail
   go_ret
   exact ⟨rBool hV.out.symm,G3.out _ _ _ _ _ _⟩
  ·go_enter Tryz.func109,Tryz.ntmps109
   go_wp2_with fail
   refine (H1.out _).mono ?_
   rintro e w' ⟨rfl,rfl⟩
   go_wp2_with fail
   refine (H2.out _).mono ?_
   rintro e w' ⟨rfl,rfl⟩
   go_wp2_with fail
   all_goals
    go_ret
    refine ⟨rBool ?_,G3.out _ _ _ _ _ _⟩
    rw [hV.out]
    clear H1 H2 hV G2 G3
    (try simp_all) <;> (try omega)
theorem pIn_any (c r d s x y:Int) (w:World) :
  Calls Tryz.prog 93 #[.agg #[.int .i64 c,.int .i64 r,.int .i64 d,.int .i64 s],.agg #[.int .i64 x,.int .i64 y]] w fun e w'=>e=.returned (.bool (inA c r d s x y))∧Gr w w':=by
 have H1:Hid (∀ w,Calls Tryz.prog 109 #[.agg #[.int .i64 c,.int .i64 r,.int .i64 d,.int .i64 s]] w fun e w'=>e=.returned (.bool (vA c r d s))∧Gr w w'):=pValidArea_any c r d s
 have G:Hid (Gr w ((w.alloc (.cells #[.int .i64 c,.int .i64 r,.int .i64 d,.int .i64 s] 48)).alloc (.cells #[.int .i64 x,.int .i64 y] 36))):=((Gr.refl w).alloc _ _).alloc _ _
 have hV:Hid (inA c r d s x y=(vA c r d s && decide (c≤x) && decide (x≤d) && decide (r≤y) && decide (y≤s))):=rfl
 generalize inA c r d s x y=V at *
 generalize vA c r d s=p at *
 go_enter Tryz.func93,Tryz.ntmps93
 go_wp2_with fail
 refine (H1.out _).mono ?_
 rintro e w1 ⟨rfl,hg⟩
 have hcell:=hg.ext.cell
 have G1:Hid (Gr w w1):=G.out.trans hg
 clear hg G
 go_wp2_with fail
 all_goals
  go_ret
  refine ⟨rBool ?_,G1.out⟩
  rw [hV.out]
  clear H1 hV G1 hcell
  cases p <;> (try simp_all) <;> (try omega)
theorem pSize_any (c r d s:Int) (w:World) :
  Calls Tryz.prog 91 #[.agg #[.int .i64 c,.int .i64 r,.int .i64 d,.int .i64 s]] w fun e w'=>e=.returned (.int .i64 (sizeA c r d s))∧Gr w w':=by
 have H1:Hid (∀ w,Calls Tryz.prog 109 #[.agg #[.int .i64 c,.int .i64 r,.int .i64 d,.int .i64 s]] w fun e w'=>e=.returned (.bool (vA c r d s))∧Gr w w'):=pValidArea_any c r d s
 have G:Hid (Gr w (w.alloc (.cells #[.int .i64 c,.int .i64 r,.int .i64 d,.int .i64 s] 48))):=(Gr.refl w).alloc _ _
 have hV:Hid (sizeA c r d s=if vA c r d s then (d - c+1) * (s - r+1) else 0):=rfl
 have hb:=vA_bd c r d s
 generalize sizeA c r d s=V at *
 generalize vA c r d s=p at *
 cases p
 ·clear hb
  go_enter Tryz.func91,Tryz.ntmps91
  go_wp2_with fail
  refine (H1.out _).mono ?_
  rintro e w1 ⟨rfl,hg⟩
  have G1:Hid (Gr w w1):=G.out.trans hg
  clear hg
  go_wp2_with fail
  go_ret
  exact ⟨rInt hV.out.symm,G1.out⟩
 ·obtain ⟨h1,h2,h3,h4,h5,h6⟩:=hb rfl
  obtain ⟨m0,m1⟩:=mul_bd (d - c+1) (s - r+1) (by omega) (by omega) (by omega) (by omega)
  have hV':Hid ((d - c+1) * (s - r+1)=V):=hV.out.symm
  clear hV hb
  go_enter Tryz.func91,Tryz.ntmps91
  go_wp2_with fail
  refine (H1.out _).mono ?_
  rintro e w1 ⟨rfl,hg⟩
  have hcell:=hg.ext.cell
  have G1:Hid (Gr w w1):=G.out.trans hg
  clear hg
  go_wp2_with fail
  go_ret
  exact ⟨rInt hV'.out,G1.out⟩
theorem rValid_at (c r:Int) (w:World) :
  Calls Tryz.prog 43 #[.agg #[.int .i64 c,.int .i64 r]] w fun e w'=>e=.returned (.bool (vC c r))∧w'=w.alloc (.cells #[.int .i64 c,.int .i64 r] 36):=by
 have hV:Hid (vC c r=(decide (1≤c) && decide (c≤256) && decide (1≤r) && decide (r≤4096))):=rfl
 generalize vC c r=V at *
 go_enter Tryz.func43,Tryz.ntmps43
 go_wp2
 all_goals
  go_ret
  refine ⟨rBool ?_,rfl⟩
  rw [hV.out,Bool.eq_iff_iff]
  simp only [Bool.and_eq_true,decide_eq_true_eq,Bool.false_eq_true,false_iff]
  omega
theorem rValid_any (c r:Int) (w:World) :
  Calls Tryz.prog 43 #[.agg #[.int .i64 c,.int .i64 r]] w fun e w'=>e=.returned (.bool (vC c r))∧Gr w w':=
 (rValid_at c r w).mono fun e w' h=>⟨h.1,by rw [h.2];exact (Gr.refl w).alloc _ _⟩
theorem rless_any (a b:Int) (w:World) :
  Calls Tryz.prog 73 #[.int .i64 a,.int .i64 b] w fun e w'=>e=.returned (.int .i64 (cmpI a b))∧w'=w:=by
 have hV:Hid (cmpI a b=if a < b then -1 else if b < a then 1 else 0):=rfl
 generalize cmpI a b=V at *
 go_enter Tryz.func73,Tryz.ntmps73
 go_wp2
 all_goals
  go_ret
  refine ⟨rInt ?_,rfl⟩
  rw [hV.out]
  repeat' split
  all_goals omega
theorem rOrder_any (c r d s:Int) (w:World) :
  Calls Tryz.prog 52 #[.agg #[.int .i64 c,.int .i64 r],.agg #[.int .i64 d,.int .i64 s]] w fun e w'=>e=.returned (.int .i64 (ordC c r d s))∧Gr w w':=by
 have G1:Hid (Gr w ((w.alloc (.cells #[.int .i64 c,.int .i64 r] 36)).alloc (.cells #[.int .i64 d,.int .i64 s] 36))):=((Gr.refl w).alloc _ _).alloc _ _
 have H1:Hid (∀ w,Calls Tryz.prog 73 #[.int .i64 r,.int .i64 s] w fun e w'=>e=.returned (.int .i64 (cmpI r s))∧w'=w):=rless_any r s
 have H2:Hid (∀ w,Calls Tryz.prog 73 #[.int .i64 c,.int .i64 d] w fun e w'=>e=.returned (.int .i64 (cmpI c d))∧w'=w):=rless_any c d
 have hV:Hid (ordC c r d s=if cmpI r s=0 then cmpI c d else cmpI r s):=rfl
 generalize ordC c r d s=V at *
 generalize cmpI r s=p at *
 generalize cmpI c d=q at *
 go_enter Tryz.func52,Tryz.ntmps52
 go_wp2_with (first|(go_at_call_of 73 (Value.int .i64 r);refine (H1.out _).mono ?_;rintro e w' ⟨rfl,rfl⟩)|(go_at_call_of 73 (Value.int .i64 c);refine (H2.out _).mono ?_;rintro e w' ⟨rfl,rfl⟩))
 all_goals
  rename_i hp
  go_ret
  refine ⟨rInt ?_,G1.out⟩
  rw [hV.out]
  simp only [bne_iff_ne,ne_eq,bne_eq_false_iff_eq] at hp
  simp only [hp,if_true,if_false]
theorem rValidArea_at (c r d s:Int) (w:World) :
  Calls Tryz.prog 67 #[.agg #[.int .i64 c,.int .i64 r,.int .i64 d,.int .i64 s]] w fun e w'=>e=.returned (.bool (vA c r d s))∧w'=((w.alloc (.cells #[.int .i64 c,.int .i64 r,.int .i64 d,.int .i64 s] 48)).alloc (.cells #[.int .i64 c,.int .i64 r] 36)).alloc (.cells #[.int .i64 d,.int .i64 s] 36):=by
 have H1:Hid (∀ w,Calls Tryz.prog 43 #[.agg #[.int .i64 c,.int .i64 r]] w fun e w'=>e=.returned (.bool (vC c r))∧w'=w.alloc (.cells #[.int .i64 c,.int .i64 r] 36)):=rValid_at c r
 have H2:Hid (∀ w,Calls Tryz.prog 43 #[.agg #[.int .i64 d,.int .i64 s]] w fun e w'=>e=.returned (.bool (vC d s))∧w'=w.alloc (.cells #[.int .i64 d,.int .i64 s] 36)):=rValid_at d s
 have hV:Hid (vA c r d s=(vC c r && vC d s && decide (c≤d) && decide (r≤s))):=rfl
 generalize vA c r d s=V at *
 generalize vC c r=p at *
 generalize vC d s=q at *
 go_enter Tryz.func67,Tryz.ntmps67
 go_wp2_with fail
 refine (H1.out _).mono ?_
 rintro e w' ⟨rfl,rfl⟩
 go_wp2_with fail
 refine (H2.out _).mono ?_
 rintro e w' ⟨rfl,rfl⟩
 go_wp2_with fail
 all_goals
  go_ret
  refine ⟨rBool ?_,rfl⟩
  rw [hV.out]
  clear H1 H2 hV
  cases p <;> cases q <;> (try simp_all) <;> (try omega)
theorem rIn_any (c r d s x y:Int) (w:World) :
  Calls Tryz.prog 46 #[.agg #[.int .i64 c,.int .i64 r,.int .i64 d,.int .i64 s],.agg #[.int .i64 x,.int .i64 y]] w fun e w'=>e=.returned (.bool (inA c r d s x y))∧Gr w w':=by
 have H1:Hid (∀ w,Calls Tryz.prog 67 #[.agg #[.int .i64 c,.int .i64 r,.int .i64 d,.int .i64 s]] w fun e w'=>e=.returned (.bool (vA c r d s))∧w'=((w.alloc (.cells #[.int .i64 c,.int .i64 r,.int .i64 d,.int .i64 s] 48)).alloc (.cells #[.int .i64 c,.int .i64 r] 36)).alloc (.cells #[.int .i64 d,.int .i64 s] 36)):=rValidArea_at c r d s
 have G:Hid (Gr w (((((w.alloc (.cells #[.int .i64 c,.int .i64 r,.int .i64 d,.int .i64 s] 48)).alloc (.cells #[.int .i64 x,.int .i64 y] 36)).alloc (.cells #[.int .i64 c,.int .i64 r,.int .i64 d,.int .i64 s] 48)).alloc (.cells #[.int .i64 c,.int .i64 r] 36)).alloc (.cells #[.int .i64 d,.int .i64 s] 36))):=(((((Gr.refl w).alloc _ _).alloc _ _).alloc _ _).alloc _ _).alloc _ _
 have hV:Hid (inA c r d s x y=(vA c r d s && decide (c≤x) && decide (x≤d) && decide (r≤y) && decide (y≤s))):=rfl
 generalize inA c r d s x y=V at *
 generalize vA c r d s=p at *
 go_enter Tryz.func46,Tryz.ntmps46
 go_wp2_with fail
 refine (H1.out _).mono ?_
 rintro e w' ⟨rfl,rfl⟩
 go_wp2_with fail
 all_goals
  go_ret
  refine ⟨rBool ?_,G.out⟩
  rw [hV.out]
  clear H1 hV G
  cases p <;> (try simp_all) <;> (try omega)
end Go.Proofs.YtlppcfeakakpfaaGreatDoor
