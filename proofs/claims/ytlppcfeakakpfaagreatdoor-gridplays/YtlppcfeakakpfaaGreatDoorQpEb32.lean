/- The document's bare (quadrilleref12), with the mask 32. -/
import Derived.Test.YtlppcfeakakpfaaGreatDoorQpEa
set_option maxRecDepth 20000
set_option maxHeartbeats 16000000
namespace Go.Proofs.YtlppcfeakakpfaaGreatDoor
open Go.RowKit
theorem and_32_1:bits .and .i64 32 1=0:=by kernel_rfl
theorem and_32_2:bits .and .i64 32 2=0:=by kernel_rfl
theorem and_32_4:bits .and .i64 32 4=0:=by kernel_rfl
theorem and_32_8:bits .and .i64 32 8=0:=by kernel_rfl
theorem and_32_16:bits .and .i64 32 16=0:=by kernel_rfl
theorem and_32_32:bits .and .i64 32 32=32:=by kernel_rfl
theorem and_32_64:bits .and .i64 32 64=0:=by kernel_rfl
theorem and_32_128:bits .and .i64 32 128=0:=by kernel_rfl
attribute [local go_sem] and_32_1 and_32_2 and_32_4 and_32_8 and_32_16 and_32_32 and_32_64 and_32_128
theorem rbare_32 (h:Hd) (n:Nat) (a:Option Addr) (c:Nat) (w:World) :
  Calls Tryz.prog 144 #[h.val (.slice a n c),.int .i64 32] w fun e w'=>e=.returned (.bool (bareB false false false false false true false false h n))∧Gr w w':=by
 have e1:=eql_ref h.c1 h.r1 0 0 h.p1 h.q1 false false _ rfl
 have e2:=eql_ref h.c2 h.r2 0 0 h.p2 h.q2 false false _ rfl
 have hV:Hid (bareB false false false false false true false false h n=((false || h.o == 0) && (false || (h.x:Int) == 0) && (false || decide (h.s.toList=[])) && (false || !h.b) && (false || h.f == 0) && (true || (h.c1 == 0 && h.r1 == 0 && h.p1 == false && h.q1 == false)) && (false || (h.c2 == 0 && h.r2 == 0 && h.p2 == false && h.q2 == false)) && (false || n == 0))):=rfl
 have G0:Hid (∀ a b t u,Gr w ((w.alloc (.cells a t)).alloc (.cells b u))):=fun a b t u=>((Gr.refl w).alloc _ _).alloc _ _
 generalize bareB false false false false false true false false h n=V at *
 generalize (h.c1 == 0 && h.r1 == 0 && h.p1 == false && h.q1 == false)=b1 at *
 generalize (h.c2 == 0 && h.r2 == 0 && h.p2 == false && h.q2 == false)=b2 at *
 obtain ⟨k,o,x,s,b,f,c1,r1,p1,q1,c2,r2,p2,q2⟩:=h
 simp only at *
 by_cases ho:o=0
 rotate_left
 ·have no:(o == 0)=false:=by simpa using ho
  have HE:Hid (V=false):=by show _=_;rw [hV.out];simp [no]
  clear hV
  go_enter Tryz.func144,Tryz.ntmps144
  simp only [List.append_eq,List.cons_append,List.nil_append]
  go_wp21
  go_ret
  exact ⟨rBool HE.out.symm,G0.out _ _ _ _⟩
 subst ho
 by_cases hx:x=0
 rotate_left
 ·have nx:((x:Int) == 0)=false:=by simp;exact hx
  have HE:Hid (V=false):=by show _=_;rw [hV.out];simp [hx]
  clear hV
  go_enter Tryz.func144,Tryz.ntmps144
  simp only [List.append_eq,List.cons_append,List.nil_append]
  go_wp21
  go_ret
  exact ⟨rBool HE.out.symm,G0.out _ _ _ _⟩
 subst hx
 by_cases hs:s.toList=[]
 rotate_left
 ·have ns:(s.toList == [])=false:=by simpa using hs
  have HE:Hid (V=false):=by show _=_;rw [hV.out];simp [hs]
  clear hV
  go_enter Tryz.func144,Tryz.ntmps144
  simp only [List.append_eq,List.cons_append,List.nil_append]
  go_wp21
  go_ret
  exact ⟨rBool HE.out.symm,G0.out _ _ _ _⟩
 have ns:(s.toList == [])=true:=by simpa using hs
 cases b
 rotate_left
 ·skip
  have HE:Hid (V=false):=by show _=_;rw [hV.out];simp [hs]
  clear hV
  go_enter Tryz.func144,Tryz.ntmps144
  simp only [List.append_eq,List.cons_append,List.nil_append]
  go_wp21
  go_ret
  exact ⟨rBool HE.out.symm,G0.out _ _ _ _⟩
 by_cases hf:f=0
 rotate_left
 ·have nf:(f == 0)=false:=by simpa using hf
  have HE:Hid (V=false):=by show _=_;rw [hV.out];simp [hs,nf]
  clear hV
  go_enter Tryz.func144,Tryz.ntmps144
  simp only [List.append_eq,List.cons_append,List.nil_append]
  go_wp21
  go_ret
  exact ⟨rBool HE.out.symm,G0.out _ _ _ _⟩
 subst hf
 cases b2
 ·skip
  have HE:Hid (V=false):=by show _=_;rw [hV.out];simp [hs]
  clear hV
  go_enter Tryz.func144,Tryz.ntmps144
  simp only [List.append_eq,List.cons_append,List.nil_append]
  go_wp21
  go_ret
  exact ⟨rBool HE.out.symm,G0.out _ _ _ _⟩
 by_cases hn:n=0
 rotate_left
 ·have nn:((n:Int) == 0)=false:=by simp;exact hn
  have HE:Hid (V=false):=by show _=_;rw [hV.out];simp [hs,hn]
  clear hV
  go_enter Tryz.func144,Tryz.ntmps144
  simp only [List.append_eq,List.cons_append,List.nil_append]
  go_wp21
  go_ret
  exact ⟨rBool HE.out.symm,G0.out _ _ _ _⟩
 subst hn
 have HE:Hid (V=true):=by show _=_;rw [hV.out];simp [hs]
 clear hV
 go_enter Tryz.func144,Tryz.ntmps144
 simp only [List.append_eq,List.cons_append,List.nil_append]
 go_wp21
 go_ret
 exact ⟨rBool HE.out.symm,G0.out _ _ _ _⟩
end Go.Proofs.YtlppcfeakakpfaaGreatDoor
