/-Cells and areas: plain functions. -/
import Derived.Test.YtecjfnkakodebaaGreatDoorQwGa
import Derived.Deep.RegionWith
set_option maxHeartbeats 2000000
namespace Go.Proofs.YtecjfnkakodebaaGreatDoor
open Go.RowKit
def vC (c r:Int):Bool:=decide (1<=c)&&decide (c<=256)&&decide (1<=r)&&decide (r<=4096)
def cmpI (a b:Int):Int:=if a<b then -1 else if b<a then 1 else 0
def ordC (c r d s:Int):Int:=if cmpI r s=0 then cmpI c d else cmpI r s
def vA (c r d s:Int):Bool:=vC c r&&vC d s&&decide (c<=d)&&decide (r<=s)
def inA (c r d s x y:Int):Bool:=vA c r d s&&decide (c<=x)&&decide (x<=d)&&decide (r<=y)&&decide (y<=s)
def sizeA (c r d s:Int):Int:=if vA c r d s then (d-c+1)*(s-r+1) else 0
def shN (n by' most:Int) (fixed:Bool):Int×Bool:=if fixed then (n,true) else if by' < -n∨most<by' then (0,false) else (n+by',decide (1<=n+by')&&decide (n+by'<=most))
def shOk (c r:Int) (cf rf:Bool) (x y:Int):Bool:=vC c r&&(shN c x 256 cf).2&&(shN r y 4096 rf).2
def refV (c r:Int) (cf rf:Bool):Value:=.agg #[.int .i64 c,.int .i64 r,.bool cf,.bool rf]
def areaV (c r d s:Int):Value:=.agg #[.int .i64 c,.int .i64 r,.int .i64 d,.int .i64 s]
def shV (c r:Int) (cf rf:Bool) (x y:Int):Value:=if shOk c r cf rf x y then refV (shN c x 256 cf).1 (shN r y 4096 rf).1 cf rf else refV 0 0 false false
def arE (c r d s:Int):Int:=if vC c r&&vC d s then 0 else 20
def arV (c r d s:Int):Value:=if vC c r&&vC d s then areaV (min c d) (min r s) (max c d) (max r s) else areaV 0 0 0 0
theorem vC_iff (c r:Int):vC c r=true↔1<=c/\c<=256/\1<=r/\r<=4096:=by
 simp[vC,Bool.and_eq_true,and_assoc]
theorem vA_bd (c r d s:Int):vA c r d s=true->1<=c/\c<=d/\d<=256/\1<=r/\r<=s/\s<=4096:=by
 simp only[vA,vC,Bool.and_eq_true,decide_eq_true_eq]
 omega
theorem vA_iff (c r d s:Int):vA c r d s=true↔1<=c/\c<=d/\d<=256/\1<=r/\r<=s/\s<=4096:=by
 simp only[vA,vC,Bool.and_eq_true,decide_eq_true_eq]
 omega
theorem mul_bd (a b:Int) (h0:0<=a) (h1:a<=10000) (k0:0<=b) (k1:b<=10000):0<=a*b/\a*b<=100000000:=by
 refine⟨Int.mul_nonneg h0 k0,?_⟩
 have:=Int.mul_le_mul h1 k1 k0 (by decide)
 omega
theorem pValid_at (c r:Int) (w:World) :
  Calls Tryz.prog 44 #[.agg #[.int .i64 c,.int .i64 r]] w fun e w'=>e=.returned (.bool (vC c r))/\w'=w.alloc (.cells #[.int .i64 c,.int .i64 r] 32):=by
 have hV:Hid (vC c r=(decide (1<=c)&&decide (c<=256)&&decide (1<=r)&&decide (r<=4096))):=rfl
 generalize vC c r=V at *
 go_enter Tryz.func44,Tryz.ntmps44
 go_wp2
 all_goals
  go_ret
  refine⟨rBool ?_,rfl⟩
  rw[hV.out,Bool.eq_iff_iff]
  simp only[Bool.and_eq_true,decide_eq_true_eq,Bool.false_eq_true,false_iff]
  omega
theorem pValidArea_any (c r d s:Int) (w:World) :
  Calls Tryz.prog 58 #[.agg #[.int .i64 c,.int .i64 r,.int .i64 d,.int .i64 s]] w fun e w'=>e=.returned (.bool (vA c r d s))/\Gr w w':=by
 have H1:Hid (∀w,Calls Tryz.prog 44 #[.agg #[.int .i64 c,.int .i64 r]] w fun e w'=>e=.returned (.bool (vC c r))/\w'=w.alloc (.cells #[.int .i64 c,.int .i64 r] 32)):=pValid_at c r
 have H2:Hid (∀w,Calls Tryz.prog 44 #[.agg #[.int .i64 d,.int .i64 s]] w fun e w'=>e=.returned (.bool (vC d s))/\w'=w.alloc (.cells #[.int .i64 d,.int .i64 s] 32)):=pValid_at d s
 have hV:Hid (vA c r d s=(vC c r&&vC d s&&decide (c<=d)&&decide (r<=s))):=rfl
 have G2:Hid (∀a b t u,Gr w ((w.alloc (.cells a t)).alloc (.cells b u))):=fun a b t u=>((Gr.refl w).alloc _ _).alloc _ _
 have G3:Hid (∀a b d t u v,Gr w (((w.alloc (.cells a t)).alloc (.cells b u)).alloc (.cells d v))):=fun a b d t u v=>(((Gr.refl w).alloc _ _).alloc _ _).alloc _ _
 generalize vA c r d s=V at *
 generalize vC c r=p at *
 generalize vC d s=q at *
 cases p
 ·go_enter Tryz.func58,Tryz.ntmps58
  go_wp2_with fail
  refine(H1.out _).mono ?_
  rintro e w' ⟨rfl,rfl⟩
  go_wp2_with fail
  go_ret
  exact⟨rBool hV.out.symm,G2.out _ _ _ _⟩
 ·cases q
  ·go_enter Tryz.func58,Tryz.ntmps58
   go_wp2_with fail
   refine(H1.out _).mono ?_
   rintro e w' ⟨rfl,rfl⟩
   go_wp2_with fail
   refine(H2.out _).mono ?_
   rintro e w' ⟨rfl,rfl⟩
   go_wp2_with fail
   go_ret
   exact⟨rBool hV.out.symm,G3.out _ _ _ _ _ _⟩
  ·go_enter Tryz.func58,Tryz.ntmps58
   go_wp2_with fail
   refine(H1.out _).mono ?_
   rintro e w' ⟨rfl,rfl⟩
   go_wp2_with fail
   refine(H2.out _).mono ?_
   rintro e w' ⟨rfl,rfl⟩
   go_wp2_with fail
   all_goals
    go_ret
    refine⟨rBool ?_,G3.out _ _ _ _ _ _⟩
    rw[hV.out]
    clear H1 H2 hV G2 G3
    (try simp_all) <;> (try omega)
theorem pIn_any (c r d s x y:Int) (w:World) :
  Calls Tryz.prog 20 #[.agg #[.int .i64 c,.int .i64 r,.int .i64 d,.int .i64 s],.agg #[.int .i64 x,.int .i64 y]] w fun e w'=>e=.returned (.bool (inA c r d s x y))/\Gr w w':=by
 have H1:Hid (∀w,Calls Tryz.prog 58 #[.agg #[.int .i64 c,.int .i64 r,.int .i64 d,.int .i64 s]] w fun e w'=>e=.returned (.bool (vA c r d s))/\Gr w w'):=pValidArea_any c r d s
 have G:Hid (Gr w ((w.alloc (.cells #[.int .i64 c,.int .i64 r,.int .i64 d,.int .i64 s] 34)).alloc (.cells #[.int .i64 x,.int .i64 y] 32))):=((Gr.refl w).alloc _ _).alloc _ _
 have hV:Hid (inA c r d s x y=(vA c r d s&&decide (c<=x)&&decide (x<=d)&&decide (r<=y)&&decide (y<=s))):=rfl
 generalize inA c r d s x y=V at *
 generalize vA c r d s=p at *
 go_enter Tryz.func20,Tryz.ntmps20
 go_wp2_with fail
 refine(H1.out _).mono ?_
 rintro e w1 ⟨rfl,hg⟩
 have hcell:=hg.ext.cell
 have G1:Hid (Gr w w1):=G.out.trans hg
 clear hg G
 go_wp2_with fail
 all_goals
  go_ret
  refine⟨rBool ?_,G1.out⟩
  rw[hV.out]
  clear H1 hV G1 hcell
  cases p <;> (try simp_all) <;> (try omega)
theorem pSize_any (c r d s:Int) (w:World) :
  Calls Tryz.prog 152 #[.agg #[.int .i64 c,.int .i64 r,.int .i64 d,.int .i64 s]] w fun e w'=>e=.returned (.int .i64 (sizeA c r d s))/\Gr w w':=by
 have H1:Hid (∀w,Calls Tryz.prog 58 #[.agg #[.int .i64 c,.int .i64 r,.int .i64 d,.int .i64 s]] w fun e w'=>e=.returned (.bool (vA c r d s))/\Gr w w'):=pValidArea_any c r d s
 have G:Hid (Gr w (w.alloc (.cells #[.int .i64 c,.int .i64 r,.int .i64 d,.int .i64 s] 34))):=(Gr.refl w).alloc _ _
 have hV:Hid (sizeA c r d s=if vA c r d s then (d-c+1)*(s-r+1) else 0):=rfl
 have hb:=vA_bd c r d s
 generalize sizeA c r d s=V at *
 generalize vA c r d s=p at *
 cases p
 ·clear hb
  go_enter Tryz.func152,Tryz.ntmps152
  go_wp2_with fail
  refine(H1.out _).mono ?_
  rintro e w1 ⟨rfl,hg⟩
  have G1:Hid (Gr w w1):=G.out.trans hg
  clear hg
  go_wp2_with fail
  go_ret
  exact⟨rInt hV.out.symm,G1.out⟩
 ·obtain⟨h1,h2,h3,h4,h5,h6⟩:=hb rfl
  obtain⟨m0,m1⟩:=mul_bd (d-c+1) (s-r+1) (by omega) (by omega) (by omega) (by omega)
  have hV':Hid ((d-c+1)*(s-r+1)=V):=hV.out.symm
  clear hV hb
  go_enter Tryz.func152,Tryz.ntmps152
  go_wp2_with fail
  refine(H1.out _).mono ?_
  rintro e w1 ⟨rfl,hg⟩
  have hcell:=hg.ext.cell
  have G1:Hid (Gr w w1):=G.out.trans hg
  clear hg
  go_wp2_with fail
  go_ret
  exact⟨rInt hV'.out,G1.out⟩
theorem pleast_at (c r d s:Int) (w:World) :
  Calls Tryz.prog 132 #[.agg #[.int .i64 c,.int .i64 r],.agg #[.int .i64 d,.int .i64 s]] w fun e w'=>e=.returned (.agg #[.int .i64 (min c d),.int .i64 (min r s)])/\w'=((w.alloc (.cells #[.int .i64 c,.int .i64 r] 32)).alloc (.cells #[.int .i64 d,.int .i64 s] 32)).alloc (.cells #[.int .i64 (min c d),.int .i64 (min r s)] 32):=by
 have e1:(if d<c then d else c)=min c d:=by omega
 have e2:(if s<r then s else r)=min r s:=by omega
 generalize min c d=X at *
 generalize min r s=Y at *
 go_enter Tryz.func132,Tryz.ntmps132
 go_wp2
 refine bodyPost_ret (v:=.agg #[.int .i64 X,.int .i64 Y]) (by simp[results,Tryz.results132,go_sem, *]) rfl ?_
 exact⟨rfl,rfl⟩
theorem pgreatest_at (c r d s:Int) (w:World) :
  Calls Tryz.prog 133 #[.agg #[.int .i64 c,.int .i64 r],.agg #[.int .i64 d,.int .i64 s]] w fun e w'=>e=.returned (.agg #[.int .i64 (max c d),.int .i64 (max r s)])/\w'=((w.alloc (.cells #[.int .i64 c,.int .i64 r] 32)).alloc (.cells #[.int .i64 d,.int .i64 s] 32)).alloc (.cells #[.int .i64 (max c d),.int .i64 (max r s)] 32):=by
 have e1:(if c<d then d else c)=max c d:=by omega
 have e2:(if r<s then s else r)=max r s:=by omega
 generalize max c d=X at *
 generalize max r s=Y at *
 go_enter Tryz.func133,Tryz.ntmps133
 go_wp2
 refine bodyPost_ret (v:=.agg #[.int .i64 X,.int .i64 Y]) (by simp[results,Tryz.results133,go_sem, *]) rfl ?_
 exact⟨rfl,rfl⟩
end Go.Proofs.YtecjfnkakodebaaGreatDoor
