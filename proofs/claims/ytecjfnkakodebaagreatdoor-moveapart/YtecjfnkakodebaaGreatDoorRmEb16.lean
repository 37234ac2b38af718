/-The document's bare (quadrilleref12), with the mask 16. -/
import Derived.Test.YtecjfnkakodebaaGreatDoorRmEa
open Go.Proofs.Tryz
open Go.Value renaming int->O,bool->E,slice->U
open Go.IntKind renaming i64->I
open Bool renaming false->R,true->J
open Go.Ending renaming returned->Q
set_option maxRecDepth 20000
set_option maxHeartbeats 16000000
namespace Go.Proofs.YtecjfnkakodebaaGreatDoor
open Go.RowKit
theorem j84:bits .and .i64 16 1=0:=by kernel_rfl
theorem j87:bits .and .i64 16 2=0:=by kernel_rfl
theorem j89:bits .and .i64 16 4=0:=by kernel_rfl
theorem j8B:bits .and .i64 16 8=0:=by kernel_rfl
theorem j86:bits .and .i64 16 16=16:=by kernel_rfl
theorem j88:bits .and .i64 16 32=0:=by kernel_rfl
theorem j8A:bits .and .i64 16 64=0:=by kernel_rfl
theorem j85:bits .and .i64 16 128=0:=by kernel_rfl
attribute [local go_sem] j84 j87 j89 j8B j86 j88 j8A j85
theorem jCq (h:Hd)(n:Nat)(a:Option Addr)(c:Nat)(w:World):
 Calls prog 181 #[h.val (U a n c),O I 16] w fun e w'=>e=Q (E (D4 R R R R J R R R h n))/\Gr w w':=by
 have e1:=L4 h.c1 h.r1 0 0 h.p1 h.q1 R R _ rfl;have e2:=L4 h.c2 h.r2 0 0 h.p2 h.q2 R R _ rfl;have hV:Hid (D4 R R R R J R R R h n=((R || h.o==0)&&(R || (h.x:Int)==0)&&(R || decide (h.s.toList=[]))&&(R || !h.b)&&(J || h.f==0)&&(R || (h.c1==0&&h.r1==0&&h.p1==R&&h.q1==R))&&(R || (h.c2==0&&h.r2==0&&h.p2==R&&h.q2==R))&&(R || n==0))):=rfl;have G0:Hid (∀a b t u,Gr w ((w.alloc (.cells a t)).alloc (.cells b u))):=fun a b t u=>((Gr.refl w).alloc _ _).alloc _ _
 generalize D4 R R R R J R R R h n=V at *;generalize (h.c1==0&&h.r1==0&&h.p1==R&&h.q1==R)=b1 at *;generalize (h.c2==0&&h.r2==0&&h.p2==R&&h.q2==R)=b2 at *;obtain⟨k,o,x,s,b,f,c1,r1,p1,q1,c2,r2,p2,q2⟩:=h;simp only at *;by_cases ho:o=0
 rotate_left
 ·have no:(o==0)=R:=by simpa using ho
  have HE:Hid (V=R):=by show _=_;rw[hV.o];simp[no]
  clear hV;go_enter func181,ntmps181;simp only[List.append_eq,List.cons_append,List.nil_append];go_wp21;go_ret;exact⟨j4 HE.o.symm,G0.o _ _ _ _⟩
 subst ho;by_cases hx:x=0
 rotate_left
 ·have nx:((x:Int)==0)=R:=by simp;exact hx
  have HE:Hid (V=R):=by show _=_;rw[hV.o];simp[hx]
  clear hV;go_enter func181,ntmps181;simp only[List.append_eq,List.cons_append,List.nil_append];go_wp21;go_ret;exact⟨j4 HE.o.symm,G0.o _ _ _ _⟩
 subst hx;by_cases hs:s.toList=[]
 rotate_left
 ·have ns:(s.toList==[])=R:=by simpa using hs
  have HE:Hid (V=R):=by show _=_;rw[hV.o];simp[hs]
  clear hV;go_enter func181,ntmps181;simp only[List.append_eq,List.cons_append,List.nil_append];go_wp21;go_ret;exact⟨j4 HE.o.symm,G0.o _ _ _ _⟩
 have ns:(s.toList==[])=J:=by simpa using hs
 cases b
 rotate_left
 ·skip
  have HE:Hid (V=R):=by show _=_;rw[hV.o];simp[hs]
  clear hV;go_enter func181,ntmps181;simp only[List.append_eq,List.cons_append,List.nil_append];go_wp21;go_ret;exact⟨j4 HE.o.symm,G0.o _ _ _ _⟩
 cases b1
 ·skip
  have HE:Hid (V=R):=by show _=_;rw[hV.o];simp[hs]
  clear hV;go_enter func181,ntmps181;simp only[List.append_eq,List.cons_append,List.nil_append];go_wp21;go_ret;exact⟨j4 HE.o.symm,G0.o _ _ _ _⟩
 cases b2
 ·skip
  have HE:Hid (V=R):=by show _=_;rw[hV.o];simp[hs]
  clear hV;go_enter func181,ntmps181;simp only[List.append_eq,List.cons_append,List.nil_append];go_wp21;go_ret;exact⟨j4 HE.o.symm,G0.o _ _ _ _⟩
 by_cases hn:n=0
 rotate_left
 ·have nn:((n:Int)==0)=R:=by simp;exact hn
  have HE:Hid (V=R):=by show _=_;rw[hV.o];simp[hs,hn]
  clear hV;go_enter func181,ntmps181;simp only[List.append_eq,List.cons_append,List.nil_append];go_wp21;go_ret;exact⟨j4 HE.o.symm,G0.o _ _ _ _⟩
 subst hn;have HE:Hid (V=J):=by show _=_;rw[hV.o];simp[hs]
 clear hV;go_enter func181,ntmps181;simp only[List.append_eq,List.cons_append,List.nil_append];go_wp21;go_ret;exact⟨j4 HE.o.symm,G0.o _ _ _ _⟩
end Go.Proofs.YtecjfnkakodebaaGreatDoor
