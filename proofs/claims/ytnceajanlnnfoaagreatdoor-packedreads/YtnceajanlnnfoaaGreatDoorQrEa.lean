/-The document's Count, Depth and bare (quadrilleref12). -/
import Derived.Test.YtnceajanlnnfoaaGreatDoorQrQa
set_option maxRecDepth 20000
set_option maxHeartbeats 16000000
namespace Go.Proofs.YtnceajanlnnfoaaGreatDoor
section
open Go.RowKit
def j8 (o x s b f r t a:Bool) (h:Hd) (n:Nat):Bool:=(o || h.o==0)&&(x || (h.x:Int)==0)&&(s || decide (h.s.toList=[]))&&(b || !h.b)&&(f || h.f==0)&&(r || (h.c1==0&&h.r1==0&&h.p1==false&&h.q1==false))&&(t || (h.c2==0&&h.r2==0&&h.p2==false&&h.q2==false))&&(a || n==0)
end
section
open Go.RowKit
theorem j7M:bits .and .i64 132 1=0:=by kernel_rfl
theorem j7P:bits .and .i64 132 2=0:=by kernel_rfl
theorem j7R:bits .and .i64 132 4=4:=by kernel_rfl
theorem j7T:bits .and .i64 132 8=0:=by kernel_rfl
theorem j7O:bits .and .i64 132 16=0:=by kernel_rfl
theorem j7Q:bits .and .i64 132 32=0:=by kernel_rfl
theorem j7S:bits .and .i64 132 64=0:=by kernel_rfl
theorem j7N:bits .and .i64 132 128=128:=by kernel_rfl
attribute [local go_sem] j7M j7P j7R j7T j7O j7Q j7S j7N
theorem jCQ (h:Hd)(n:Nat)(a:Option Addr)(c:Nat)(w:World):
 Calls Tryz.prog 223 #[h.val (.slice a n c),.int .i64 132] w fun e w'=>e=.returned (.bool (j8 false false true false false false false true h n))/\Gr w w':=by
 have e1:=I0 h.c1 h.r1 0 0 h.p1 h.q1 false false _ rfl;have e2:=I0 h.c2 h.r2 0 0 h.p2 h.q2 false false _ rfl;have hV:Hid (j8 false false true false false false false true h n=((false || h.o==0)&&(false || (h.x:Int)==0)&&(true || decide (h.s.toList=[]))&&(false || !h.b)&&(false || h.f==0)&&(false || (h.c1==0&&h.r1==0&&h.p1==false&&h.q1==false))&&(false || (h.c2==0&&h.r2==0&&h.p2==false&&h.q2==false))&&(true || n==0))):=rfl;have G0:Hid (∀a b t u,Gr w ((w.alloc (.cells a t)).alloc (.cells b u))):=fun a b t u=>((Gr.refl w).alloc _ _).alloc _ _
 generalize j8 false false true false false false false true h n=V at *;generalize (h.c1==0&&h.r1==0&&h.p1==false&&h.q1==false)=b1 at *;generalize (h.c2==0&&h.r2==0&&h.p2==false&&h.q2==false)=b2 at *;obtain⟨k,o,x,s,b,f,c1,r1,p1,q1,c2,r2,p2,q2⟩:=h;simp only at *;by_cases ho:o=0
 rotate_left
 ·have no:(o==0)=false:=by simpa using ho
  have HE:Hid (V=false):=by show _=_;rw[hV.out];simp[no]
  clear hV;go_enter Tryz.func223,Tryz.ntmps223;simp only[List.append_eq,List.cons_append,List.nil_append];go_wp21;go_ret;exact⟨j4 HE.out.symm,G0.out _ _ _ _⟩
 subst ho;by_cases hx:x=0
 rotate_left
 ·have nx:((x:Int)==0)=false:=by simp;exact hx
  have HE:Hid (V=false):=by show _=_;rw[hV.out];simp[hx]
  clear hV;go_enter Tryz.func223,Tryz.ntmps223;simp only[List.append_eq,List.cons_append,List.nil_append];go_wp21;go_ret;exact⟨j4 HE.out.symm,G0.out _ _ _ _⟩
 subst hx;cases b
 rotate_left
 ·skip
  have HE:Hid (V=false):=by show _=_;rw[hV.out];simp
  clear hV;go_enter Tryz.func223,Tryz.ntmps223;simp only[List.append_eq,List.cons_append,List.nil_append];go_wp21;go_ret;exact⟨j4 HE.out.symm,G0.out _ _ _ _⟩
 by_cases hf:f=0
 rotate_left
 ·have nf:(f==0)=false:=by simpa using hf
  have HE:Hid (V=false):=by show _=_;rw[hV.out];simp[nf]
  clear hV;go_enter Tryz.func223,Tryz.ntmps223;simp only[List.append_eq,List.cons_append,List.nil_append];go_wp21;go_ret;exact⟨j4 HE.out.symm,G0.out _ _ _ _⟩
 subst hf;cases b1
 ·skip
  have HE:Hid (V=false):=by show _=_;rw[hV.out];simp
  clear hV;go_enter Tryz.func223,Tryz.ntmps223;simp only[List.append_eq,List.cons_append,List.nil_append];go_wp21;go_ret;exact⟨j4 HE.out.symm,G0.out _ _ _ _⟩
 cases b2
 ·skip
  have HE:Hid (V=false):=by show _=_;rw[hV.out];simp
  clear hV;go_enter Tryz.func223,Tryz.ntmps223;simp only[List.append_eq,List.cons_append,List.nil_append];go_wp21;go_ret;exact⟨j4 HE.out.symm,G0.out _ _ _ _⟩
 have HE:Hid (V=true):=by show _=_;rw[hV.out];simp
 clear hV;go_enter Tryz.func223,Tryz.ntmps223;simp only[List.append_eq,List.cons_append,List.nil_append];go_wp21;go_ret;exact⟨j4 HE.out.symm,G0.out _ _ _ _⟩
end
section
open Go.RowKit
theorem j7E:bits .and .i64 129 1=1:=by kernel_rfl
theorem j7H:bits .and .i64 129 2=0:=by kernel_rfl
theorem j7J:bits .and .i64 129 4=0:=by kernel_rfl
theorem j7L:bits .and .i64 129 8=0:=by kernel_rfl
theorem j7G:bits .and .i64 129 16=0:=by kernel_rfl
theorem j7I:bits .and .i64 129 32=0:=by kernel_rfl
theorem j7K:bits .and .i64 129 64=0:=by kernel_rfl
theorem j7F:bits .and .i64 129 128=128:=by kernel_rfl
attribute [local go_sem] j7E j7H j7J j7L j7G j7I j7K j7F
theorem jCP (h:Hd)(n:Nat)(a:Option Addr)(c:Nat)(w:World):
 Calls Tryz.prog 223 #[h.val (.slice a n c),.int .i64 129] w fun e w'=>e=.returned (.bool (j8 true false false false false false false true h n))/\Gr w w':=by
 have e1:=I0 h.c1 h.r1 0 0 h.p1 h.q1 false false _ rfl;have e2:=I0 h.c2 h.r2 0 0 h.p2 h.q2 false false _ rfl;have hV:Hid (j8 true false false false false false false true h n=((true || h.o==0)&&(false || (h.x:Int)==0)&&(false || decide (h.s.toList=[]))&&(false || !h.b)&&(false || h.f==0)&&(false || (h.c1==0&&h.r1==0&&h.p1==false&&h.q1==false))&&(false || (h.c2==0&&h.r2==0&&h.p2==false&&h.q2==false))&&(true || n==0))):=rfl;have G0:Hid (∀a b t u,Gr w ((w.alloc (.cells a t)).alloc (.cells b u))):=fun a b t u=>((Gr.refl w).alloc _ _).alloc _ _
 generalize j8 true false false false false false false true h n=V at *;generalize (h.c1==0&&h.r1==0&&h.p1==false&&h.q1==false)=b1 at *;generalize (h.c2==0&&h.r2==0&&h.p2==false&&h.q2==false)=b2 at *;obtain⟨k,o,x,s,b,f,c1,r1,p1,q1,c2,r2,p2,q2⟩:=h;simp only at *;by_cases hx:x=0
 rotate_left
 ·have nx:((x:Int)==0)=false:=by simp;exact hx
  have HE:Hid (V=false):=by show _=_;rw[hV.out];simp[hx]
  clear hV;go_enter Tryz.func223,Tryz.ntmps223;simp only[List.append_eq,List.cons_append,List.nil_append];go_wp21;go_ret;exact⟨j4 HE.out.symm,G0.out _ _ _ _⟩
 subst hx;by_cases hs:s.toList=[]
 rotate_left
 ·have ns:(s.toList==[])=false:=by simpa using hs
  have HE:Hid (V=false):=by show _=_;rw[hV.out];simp[hs]
  clear hV;go_enter Tryz.func223,Tryz.ntmps223;simp only[List.append_eq,List.cons_append,List.nil_append];go_wp21;go_ret;exact⟨j4 HE.out.symm,G0.out _ _ _ _⟩
 have ns:(s.toList==[])=true:=by simpa using hs
 cases b
 rotate_left
 ·skip
  have HE:Hid (V=false):=by show _=_;rw[hV.out];simp[hs]
  clear hV;go_enter Tryz.func223,Tryz.ntmps223;simp only[List.append_eq,List.cons_append,List.nil_append];go_wp21;go_ret;exact⟨j4 HE.out.symm,G0.out _ _ _ _⟩
 by_cases hf:f=0
 rotate_left
 ·have nf:(f==0)=false:=by simpa using hf
  have HE:Hid (V=false):=by show _=_;rw[hV.out];simp[hs,nf]
  clear hV;go_enter Tryz.func223,Tryz.ntmps223;simp only[List.append_eq,List.cons_append,List.nil_append];go_wp21;go_ret;exact⟨j4 HE.out.symm,G0.out _ _ _ _⟩
 subst hf;cases b1
 ·skip
  have HE:Hid (V=false):=by show _=_;rw[hV.out];simp[hs]
  clear hV;go_enter Tryz.func223,Tryz.ntmps223;simp only[List.append_eq,List.cons_append,List.nil_append];go_wp21;go_ret;exact⟨j4 HE.out.symm,G0.out _ _ _ _⟩
 cases b2
 ·skip
  have HE:Hid (V=false):=by show _=_;rw[hV.out];simp[hs]
  clear hV;go_enter Tryz.func223,Tryz.ntmps223;simp only[List.append_eq,List.cons_append,List.nil_append];go_wp21;go_ret;exact⟨j4 HE.out.symm,G0.out _ _ _ _⟩
 have HE:Hid (V=true):=by show _=_;rw[hV.out];simp[hs]
 clear hV;go_enter Tryz.func223,Tryz.ntmps223;simp only[List.append_eq,List.cons_append,List.nil_append];go_wp21;go_ret;exact⟨j4 HE.out.symm,G0.out _ _ _ _⟩
end
section
open Go.RowKit
theorem j88:bits .and .i64 96 1=0:=by kernel_rfl
theorem j8B:bits .and .i64 96 2=0:=by kernel_rfl
theorem j8D:bits .and .i64 96 4=0:=by kernel_rfl
theorem j8F:bits .and .i64 96 8=0:=by kernel_rfl
theorem j8A:bits .and .i64 96 16=0:=by kernel_rfl
theorem j8C:bits .and .i64 96 32=32:=by kernel_rfl
theorem j8E:bits .and .i64 96 64=64:=by kernel_rfl
theorem j89:bits .and .i64 96 128=0:=by kernel_rfl
attribute [local go_sem] j88 j8B j8D j8F j8A j8C j8E j89
theorem jCW (h:Hd)(n:Nat)(a:Option Addr)(c:Nat)(w:World):
 Calls Tryz.prog 223 #[h.val (.slice a n c),.int .i64 96] w fun e w'=>e=.returned (.bool (j8 false false false false false true true false h n))/\Gr w w':=by
 have e1:=I0 h.c1 h.r1 0 0 h.p1 h.q1 false false _ rfl;have e2:=I0 h.c2 h.r2 0 0 h.p2 h.q2 false false _ rfl;have hV:Hid (j8 false false false false false true true false h n=((false || h.o==0)&&(false || (h.x:Int)==0)&&(false || decide (h.s.toList=[]))&&(false || !h.b)&&(false || h.f==0)&&(true || (h.c1==0&&h.r1==0&&h.p1==false&&h.q1==false))&&(true || (h.c2==0&&h.r2==0&&h.p2==false&&h.q2==false))&&(false || n==0))):=rfl;have G0:Hid (∀a b t u,Gr w ((w.alloc (.cells a t)).alloc (.cells b u))):=fun a b t u=>((Gr.refl w).alloc _ _).alloc _ _
 generalize j8 false false false false false true true false h n=V at *;generalize (h.c1==0&&h.r1==0&&h.p1==false&&h.q1==false)=b1 at *;generalize (h.c2==0&&h.r2==0&&h.p2==false&&h.q2==false)=b2 at *;obtain⟨k,o,x,s,b,f,c1,r1,p1,q1,c2,r2,p2,q2⟩:=h;simp only at *;by_cases ho:o=0
 rotate_left
 ·have no:(o==0)=false:=by simpa using ho
  have HE:Hid (V=false):=by show _=_;rw[hV.out];simp[no]
  clear hV;go_enter Tryz.func223,Tryz.ntmps223;simp only[List.append_eq,List.cons_append,List.nil_append];go_wp21;go_ret;exact⟨j4 HE.out.symm,G0.out _ _ _ _⟩
 subst ho;by_cases hx:x=0
 rotate_left
 ·have nx:((x:Int)==0)=false:=by simp;exact hx
  have HE:Hid (V=false):=by show _=_;rw[hV.out];simp[hx]
  clear hV;go_enter Tryz.func223,Tryz.ntmps223;simp only[List.append_eq,List.cons_append,List.nil_append];go_wp21;go_ret;exact⟨j4 HE.out.symm,G0.out _ _ _ _⟩
 subst hx;by_cases hs:s.toList=[]
 rotate_left
 ·have ns:(s.toList==[])=false:=by simpa using hs
  have HE:Hid (V=false):=by show _=_;rw[hV.out];simp[hs]
  clear hV;go_enter Tryz.func223,Tryz.ntmps223;simp only[List.append_eq,List.cons_append,List.nil_append];go_wp21;go_ret;exact⟨j4 HE.out.symm,G0.out _ _ _ _⟩
 have ns:(s.toList==[])=true:=by simpa using hs
 cases b
 rotate_left
 ·skip
  have HE:Hid (V=false):=by show _=_;rw[hV.out];simp[hs]
  clear hV;go_enter Tryz.func223,Tryz.ntmps223;simp only[List.append_eq,List.cons_append,List.nil_append];go_wp21;go_ret;exact⟨j4 HE.out.symm,G0.out _ _ _ _⟩
 by_cases hf:f=0
 rotate_left
 ·have nf:(f==0)=false:=by simpa using hf
  have HE:Hid (V=false):=by show _=_;rw[hV.out];simp[hs,nf]
  clear hV;go_enter Tryz.func223,Tryz.ntmps223;simp only[List.append_eq,List.cons_append,List.nil_append];go_wp21;go_ret;exact⟨j4 HE.out.symm,G0.out _ _ _ _⟩
 subst hf;by_cases hn:n=0
 rotate_left
 ·have nn:((n:Int)==0)=false:=by simp;exact hn
  have HE:Hid (V=false):=by show _=_;rw[hV.out];simp[hs,hn]
  clear hV;go_enter Tryz.func223,Tryz.ntmps223;simp only[List.append_eq,List.cons_append,List.nil_append];go_wp21;go_ret;exact⟨j4 HE.out.symm,G0.out _ _ _ _⟩
 subst hn;have HE:Hid (V=true):=by show _=_;rw[hV.out];simp[hs]
 clear hV;go_enter Tryz.func223,Tryz.ntmps223;simp only[List.append_eq,List.cons_append,List.nil_append];go_wp21;go_ret;exact⟨j4 HE.out.symm,G0.out _ _ _ _⟩
end
section
open Go.RowKit
theorem j7s:bits .and .i64 4 1=0:=by kernel_rfl
theorem j7v:bits .and .i64 4 2=0:=by kernel_rfl
theorem j7x:bits .and .i64 4 4=4:=by kernel_rfl
theorem j7z:bits .and .i64 4 8=0:=by kernel_rfl
theorem j7u:bits .and .i64 4 16=0:=by kernel_rfl
theorem j7w:bits .and .i64 4 32=0:=by kernel_rfl
theorem j7y:bits .and .i64 4 64=0:=by kernel_rfl
theorem j7t:bits .and .i64 4 128=0:=by kernel_rfl
attribute [local go_sem] j7s j7v j7x j7z j7u j7w j7y j7t
theorem jCU (h:Hd)(n:Nat)(a:Option Addr)(c:Nat)(w:World):
 Calls Tryz.prog 223 #[h.val (.slice a n c),.int .i64 4] w fun e w'=>e=.returned (.bool (j8 false false true false false false false false h n))/\Gr w w':=by
 have e1:=I0 h.c1 h.r1 0 0 h.p1 h.q1 false false _ rfl;have e2:=I0 h.c2 h.r2 0 0 h.p2 h.q2 false false _ rfl;have hV:Hid (j8 false false true false false false false false h n=((false || h.o==0)&&(false || (h.x:Int)==0)&&(true || decide (h.s.toList=[]))&&(false || !h.b)&&(false || h.f==0)&&(false || (h.c1==0&&h.r1==0&&h.p1==false&&h.q1==false))&&(false || (h.c2==0&&h.r2==0&&h.p2==false&&h.q2==false))&&(false || n==0))):=rfl;have G0:Hid (∀a b t u,Gr w ((w.alloc (.cells a t)).alloc (.cells b u))):=fun a b t u=>((Gr.refl w).alloc _ _).alloc _ _
 generalize j8 false false true false false false false false h n=V at *;generalize (h.c1==0&&h.r1==0&&h.p1==false&&h.q1==false)=b1 at *;generalize (h.c2==0&&h.r2==0&&h.p2==false&&h.q2==false)=b2 at *;obtain⟨k,o,x,s,b,f,c1,r1,p1,q1,c2,r2,p2,q2⟩:=h;simp only at *;by_cases ho:o=0
 rotate_left
 ·have no:(o==0)=false:=by simpa using ho
  have HE:Hid (V=false):=by show _=_;rw[hV.out];simp[no]
  clear hV;go_enter Tryz.func223,Tryz.ntmps223;simp only[List.append_eq,List.cons_append,List.nil_append];go_wp21;go_ret;exact⟨j4 HE.out.symm,G0.out _ _ _ _⟩
 subst ho;by_cases hx:x=0
 rotate_left
 ·have nx:((x:Int)==0)=false:=by simp;exact hx
  have HE:Hid (V=false):=by show _=_;rw[hV.out];simp[hx]
  clear hV;go_enter Tryz.func223,Tryz.ntmps223;simp only[List.append_eq,List.cons_append,List.nil_append];go_wp21;go_ret;exact⟨j4 HE.out.symm,G0.out _ _ _ _⟩
 subst hx;cases b
 rotate_left
 ·skip
  have HE:Hid (V=false):=by show _=_;rw[hV.out];simp
  clear hV;go_enter Tryz.func223,Tryz.ntmps223;simp only[List.append_eq,List.cons_append,List.nil_append];go_wp21;go_ret;exact⟨j4 HE.out.symm,G0.out _ _ _ _⟩
 by_cases hf:f=0
 rotate_left
 ·have nf:(f==0)=false:=by simpa using hf
  have HE:Hid (V=false):=by show _=_;rw[hV.out];simp[nf]
  clear hV;go_enter Tryz.func223,Tryz.ntmps223;simp only[List.append_eq,List.cons_append,List.nil_append];go_wp21;go_ret;exact⟨j4 HE.out.symm,G0.out _ _ _ _⟩
 subst hf;cases b1
 ·skip
  have HE:Hid (V=false):=by show _=_;rw[hV.out];simp
  clear hV;go_enter Tryz.func223,Tryz.ntmps223;simp only[List.append_eq,List.cons_append,List.nil_append];go_wp21;go_ret;exact⟨j4 HE.out.symm,G0.out _ _ _ _⟩
 cases b2
 ·skip
  have HE:Hid (V=false):=by show _=_;rw[hV.out];simp
  clear hV;go_enter Tryz.func223,Tryz.ntmps223;simp only[List.append_eq,List.cons_append,List.nil_append];go_wp21;go_ret;exact⟨j4 HE.out.symm,G0.out _ _ _ _⟩
 by_cases hn:n=0
 rotate_left
 ·have nn:((n:Int)==0)=false:=by simp;exact hn
  have HE:Hid (V=false):=by show _=_;rw[hV.out];simp[hn]
  clear hV;go_enter Tryz.func223,Tryz.ntmps223;simp only[List.append_eq,List.cons_append,List.nil_append];go_wp21;go_ret;exact⟨j4 HE.out.symm,G0.out _ _ _ _⟩
 subst hn;have HE:Hid (V=true):=by show _=_;rw[hV.out];simp
 clear hV;go_enter Tryz.func223,Tryz.ntmps223;simp only[List.append_eq,List.cons_append,List.nil_append];go_wp21;go_ret;exact⟨j4 HE.out.symm,G0.out _ _ _ _⟩
end
section
open Go.RowKit
theorem j7c:bits .and .i64 2 1=0:=by kernel_rfl
theorem j7f:bits .and .i64 2 2=2:=by kernel_rfl
theorem j7h:bits .and .i64 2 4=0:=by kernel_rfl
theorem j7j:bits .and .i64 2 8=0:=by kernel_rfl
theorem j7e:bits .and .i64 2 16=0:=by kernel_rfl
theorem j7g:bits .and .i64 2 32=0:=by kernel_rfl
theorem j7i:bits .and .i64 2 64=0:=by kernel_rfl
theorem j7d:bits .and .i64 2 128=0:=by kernel_rfl
attribute [local go_sem] j7c j7f j7h j7j j7e j7g j7i j7d
theorem jCS (h:Hd)(n:Nat)(a:Option Addr)(c:Nat)(w:World):
 Calls Tryz.prog 223 #[h.val (.slice a n c),.int .i64 2] w fun e w'=>e=.returned (.bool (j8 false true false false false false false false h n))/\Gr w w':=by
 have e1:=I0 h.c1 h.r1 0 0 h.p1 h.q1 false false _ rfl;have e2:=I0 h.c2 h.r2 0 0 h.p2 h.q2 false false _ rfl;have hV:Hid (j8 false true false false false false false false h n=((false || h.o==0)&&(true || (h.x:Int)==0)&&(false || decide (h.s.toList=[]))&&(false || !h.b)&&(false || h.f==0)&&(false || (h.c1==0&&h.r1==0&&h.p1==false&&h.q1==false))&&(false || (h.c2==0&&h.r2==0&&h.p2==false&&h.q2==false))&&(false || n==0))):=rfl;have G0:Hid (∀a b t u,Gr w ((w.alloc (.cells a t)).alloc (.cells b u))):=fun a b t u=>((Gr.refl w).alloc _ _).alloc _ _
 generalize j8 false true false false false false false false h n=V at *;generalize (h.c1==0&&h.r1==0&&h.p1==false&&h.q1==false)=b1 at *;generalize (h.c2==0&&h.r2==0&&h.p2==false&&h.q2==false)=b2 at *;obtain⟨k,o,x,s,b,f,c1,r1,p1,q1,c2,r2,p2,q2⟩:=h;simp only at *;by_cases ho:o=0
 rotate_left
 ·have no:(o==0)=false:=by simpa using ho
  have HE:Hid (V=false):=by show _=_;rw[hV.out];simp[no]
  clear hV;go_enter Tryz.func223,Tryz.ntmps223;simp only[List.append_eq,List.cons_append,List.nil_append];go_wp21;go_ret;exact⟨j4 HE.out.symm,G0.out _ _ _ _⟩
 subst ho;by_cases hs:s.toList=[]
 rotate_left
 ·have ns:(s.toList==[])=false:=by simpa using hs
  have HE:Hid (V=false):=by show _=_;rw[hV.out];simp[hs]
  clear hV;go_enter Tryz.func223,Tryz.ntmps223;simp only[List.append_eq,List.cons_append,List.nil_append];go_wp21;go_ret;exact⟨j4 HE.out.symm,G0.out _ _ _ _⟩
 have ns:(s.toList==[])=true:=by simpa using hs
 cases b
 rotate_left
 ·skip
  have HE:Hid (V=false):=by show _=_;rw[hV.out];simp[hs]
  clear hV;go_enter Tryz.func223,Tryz.ntmps223;simp only[List.append_eq,List.cons_append,List.nil_append];go_wp21;go_ret;exact⟨j4 HE.out.symm,G0.out _ _ _ _⟩
 by_cases hf:f=0
 rotate_left
 ·have nf:(f==0)=false:=by simpa using hf
  have HE:Hid (V=false):=by show _=_;rw[hV.out];simp[hs,nf]
  clear hV;go_enter Tryz.func223,Tryz.ntmps223;simp only[List.append_eq,List.cons_append,List.nil_append];go_wp21;go_ret;exact⟨j4 HE.out.symm,G0.out _ _ _ _⟩
 subst hf;cases b1
 ·skip
  have HE:Hid (V=false):=by show _=_;rw[hV.out];simp[hs]
  clear hV;go_enter Tryz.func223,Tryz.ntmps223;simp only[List.append_eq,List.cons_append,List.nil_append];go_wp21;go_ret;exact⟨j4 HE.out.symm,G0.out _ _ _ _⟩
 cases b2
 ·skip
  have HE:Hid (V=false):=by show _=_;rw[hV.out];simp[hs]
  clear hV;go_enter Tryz.func223,Tryz.ntmps223;simp only[List.append_eq,List.cons_append,List.nil_append];go_wp21;go_ret;exact⟨j4 HE.out.symm,G0.out _ _ _ _⟩
 by_cases hn:n=0
 rotate_left
 ·have nn:((n:Int)==0)=false:=by simp;exact hn
  have HE:Hid (V=false):=by show _=_;rw[hV.out];simp[hs,hn]
  clear hV;go_enter Tryz.func223,Tryz.ntmps223;simp only[List.append_eq,List.cons_append,List.nil_append];go_wp21;go_ret;exact⟨j4 HE.out.symm,G0.out _ _ _ _⟩
 subst hn;have HE:Hid (V=true):=by show _=_;rw[hV.out];simp[hs]
 clear hV;go_enter Tryz.func223,Tryz.ntmps223;simp only[List.append_eq,List.cons_append,List.nil_append];go_wp21;go_ret;exact⟨j4 HE.out.symm,G0.out _ _ _ _⟩
end
section
open Go.RowKit
theorem j7U:bits .and .i64 16 1=0:=by kernel_rfl
theorem j7X:bits .and .i64 16 2=0:=by kernel_rfl
theorem j7Z:bits .and .i64 16 4=0:=by kernel_rfl
theorem j7b:bits .and .i64 16 8=0:=by kernel_rfl
theorem j7W:bits .and .i64 16 16=16:=by kernel_rfl
theorem j7Y:bits .and .i64 16 32=0:=by kernel_rfl
theorem j7a:bits .and .i64 16 64=0:=by kernel_rfl
theorem j7V:bits .and .i64 16 128=0:=by kernel_rfl
attribute [local go_sem] j7U j7X j7Z j7b j7W j7Y j7a j7V
theorem jCR (h:Hd)(n:Nat)(a:Option Addr)(c:Nat)(w:World):
 Calls Tryz.prog 223 #[h.val (.slice a n c),.int .i64 16] w fun e w'=>e=.returned (.bool (j8 false false false false true false false false h n))/\Gr w w':=by
 have e1:=I0 h.c1 h.r1 0 0 h.p1 h.q1 false false _ rfl;have e2:=I0 h.c2 h.r2 0 0 h.p2 h.q2 false false _ rfl;have hV:Hid (j8 false false false false true false false false h n=((false || h.o==0)&&(false || (h.x:Int)==0)&&(false || decide (h.s.toList=[]))&&(false || !h.b)&&(true || h.f==0)&&(false || (h.c1==0&&h.r1==0&&h.p1==false&&h.q1==false))&&(false || (h.c2==0&&h.r2==0&&h.p2==false&&h.q2==false))&&(false || n==0))):=rfl;have G0:Hid (∀a b t u,Gr w ((w.alloc (.cells a t)).alloc (.cells b u))):=fun a b t u=>((Gr.refl w).alloc _ _).alloc _ _
 generalize j8 false false false false true false false false h n=V at *;generalize (h.c1==0&&h.r1==0&&h.p1==false&&h.q1==false)=b1 at *;generalize (h.c2==0&&h.r2==0&&h.p2==false&&h.q2==false)=b2 at *;obtain⟨k,o,x,s,b,f,c1,r1,p1,q1,c2,r2,p2,q2⟩:=h;simp only at *;by_cases ho:o=0
 rotate_left
 ·have no:(o==0)=false:=by simpa using ho
  have HE:Hid (V=false):=by show _=_;rw[hV.out];simp[no]
  clear hV;go_enter Tryz.func223,Tryz.ntmps223;simp only[List.append_eq,List.cons_append,List.nil_append];go_wp21;go_ret;exact⟨j4 HE.out.symm,G0.out _ _ _ _⟩
 subst ho;by_cases hx:x=0
 rotate_left
 ·have nx:((x:Int)==0)=false:=by simp;exact hx
  have HE:Hid (V=false):=by show _=_;rw[hV.out];simp[hx]
  clear hV;go_enter Tryz.func223,Tryz.ntmps223;simp only[List.append_eq,List.cons_append,List.nil_append];go_wp21;go_ret;exact⟨j4 HE.out.symm,G0.out _ _ _ _⟩
 subst hx;by_cases hs:s.toList=[]
 rotate_left
 ·have ns:(s.toList==[])=false:=by simpa using hs
  have HE:Hid (V=false):=by show _=_;rw[hV.out];simp[hs]
  clear hV;go_enter Tryz.func223,Tryz.ntmps223;simp only[List.append_eq,List.cons_append,List.nil_append];go_wp21;go_ret;exact⟨j4 HE.out.symm,G0.out _ _ _ _⟩
 have ns:(s.toList==[])=true:=by simpa using hs
 cases b
 rotate_left
 ·skip
  have HE:Hid (V=false):=by show _=_;rw[hV.out];simp[hs]
  clear hV;go_enter Tryz.func223,Tryz.ntmps223;simp only[List.append_eq,List.cons_append,List.nil_append];go_wp21;go_ret;exact⟨j4 HE.out.symm,G0.out _ _ _ _⟩
 cases b1
 ·skip
  have HE:Hid (V=false):=by show _=_;rw[hV.out];simp[hs]
  clear hV;go_enter Tryz.func223,Tryz.ntmps223;simp only[List.append_eq,List.cons_append,List.nil_append];go_wp21;go_ret;exact⟨j4 HE.out.symm,G0.out _ _ _ _⟩
 cases b2
 ·skip
  have HE:Hid (V=false):=by show _=_;rw[hV.out];simp[hs]
  clear hV;go_enter Tryz.func223,Tryz.ntmps223;simp only[List.append_eq,List.cons_append,List.nil_append];go_wp21;go_ret;exact⟨j4 HE.out.symm,G0.out _ _ _ _⟩
 by_cases hn:n=0
 rotate_left
 ·have nn:((n:Int)==0)=false:=by simp;exact hn
  have HE:Hid (V=false):=by show _=_;rw[hV.out];simp[hs,hn]
  clear hV;go_enter Tryz.func223,Tryz.ntmps223;simp only[List.append_eq,List.cons_append,List.nil_append];go_wp21;go_ret;exact⟨j4 HE.out.symm,G0.out _ _ _ _⟩
 subst hn;have HE:Hid (V=true):=by show _=_;rw[hV.out];simp[hs]
 clear hV;go_enter Tryz.func223,Tryz.ntmps223;simp only[List.append_eq,List.cons_append,List.nil_append];go_wp21;go_ret;exact⟨j4 HE.out.symm,G0.out _ _ _ _⟩
end
section
open Go.RowKit
def j1F (h:Hd) (n:Nat) (f u:Bool):Bool:=
 if h.k=1 then j8 false true false false false false false false h n&&f else
 if h.k=2 then j8 false false true false false false false false h n&&u&&decide (h.s.size<=1024) else
 if h.k=3 then j8 false false false true false false false false h n else
 if h.k=4 then j8 false false false false true false false false h n&&decide (1<=h.f)&&decide (h.f<=5) else
 if h.k=5 then j8 false false false false false true false false h n else
 if h.k=6 then j8 false false false false false true true false h n else
 if h.k=7 then j8 true false false false false false false true h n&&decide (1<=h.o)&&decide (h.o<=3)&&n==1 else
 if h.k=8 then j8 true false false false false false false true h n&&decide (4<=h.o)&&decide (h.o<=15)&&n==2 else
 if h.k=9 then j8 false false true false false false false true h n else false
theorem j18 (x:Nat):F7 x x=true:=by unfold F7;simp
theorem jAh (h:Hd)(n:Nat):j1F h n (I3 h.x) (Lib.validD h.s.data.toList)=wm h n:=by
 have e0:(ByteArray.mk #[]).toList=[]:=ByteArray.toList_mk [];obtain⟨k,o,x,s,b,f,c1,r1,p1,q1,c2,r2,p2,q2⟩:=h;unfold j1F wm wmJ;simp only;generalize I3 x=P;generalize Lib.validD s.data.toList=U;by_cases k1:k=1
 ·subst k1;simp[j8,j7,zHd,j18,e0];try (rw[Bool.eq_iff_iff];simp;constructor <;> (intro h;simp_all))
 by_cases k2:k=2
 ·subst k2;simp[j8,j7,zHd,Q9];try (rw[Bool.eq_iff_iff];simp;constructor <;> (intro h;simp_all))
 by_cases k3:k=3
 ·subst k3;simp[j8,j7,zHd,Q9,e0];try (rw[Bool.eq_iff_iff];simp;constructor <;> (intro h;simp_all))
 by_cases k4:k=4
 ·subst k4;simp[j8,j7,zHd,Q9,e0];try (rw[Bool.eq_iff_iff];simp;constructor <;> (intro h;simp_all))
 by_cases k5:k=5
 ·subst k5;simp[j8,j7,zHd,Q9,e0];try (rw[Bool.eq_iff_iff];simp;constructor <;> (intro h;simp_all))
 by_cases k6:k=6
 ·subst k6;simp[j8,j7,zHd,Q9,e0];try (rw[Bool.eq_iff_iff];simp;constructor <;> (intro h;simp_all))
 by_cases k7:k=7
 ·subst k7;simp[j8,j7,zHd,Q9,e0];try (rw[Bool.eq_iff_iff];simp;constructor <;> (intro h;simp_all))
 by_cases k8:k=8
 ·subst k8;simp[j8,j7,zHd,Q9,e0];try (rw[Bool.eq_iff_iff];simp;constructor <;> (intro h;simp_all))
 by_cases k9:k=9
 ·subst k9;simp[j8,j7,zHd,Q9];try (rw[Bool.eq_iff_iff];simp;constructor <;> (intro h;simp_all[j18,Q9]))
 simp[k1,k2,k3,k4,k5,k6,k7,k8,k9]
end
end Go.Proofs.YtnceajanlnnfoaaGreatDoor
