/- The document's Made (quadrilleref12). The document's Made (quadrilleref12): the other kinds. The document's own (quadrilleref12): a node's own error. -/
import Derived.Test.YtlppcfeakakpfaaGreatDoorQpEa
import Derived.Test.YtlppcfeakakpfaaGreatDoorQpEe
set_option maxRecDepth 20000
set_option maxHeartbeats 16000000
namespace Go.Proofs.YtlppcfeakakpfaaGreatDoor
open Go.RowKit Go.Lib
def Bares (m:Int) (o x s b f r t a:Bool):Prop:=∀ (h:Hd) (n:Nat) (ad:Option Addr) (c:Nat) (w:World),Calls Tryz.prog 144 #[h.val (.slice ad n c),.int .i64 m] w fun e w'=>e=.returned (.bool (bareB o x s b f r t a h n))∧Gr w w'
theorem plain_fin (x:Nat) (hx:x < 18446744073709551616):(decide (mag x < 9218868437227405312) && decide (x < 9223372036854775808))=plainX x:=by
 have:=mag_of x hx
 unfold plainX cls ngt isN
 rw [Bool.eq_iff_iff]
 unfold sgb at *
 by_cases h1:9223372036854775808≤x
 ·have h2:¬ x < 9223372036854775808:=by omega
  simp only [h1,h2,decide_true,decide_false,Bool.and_false,Bool.false_eq_true,false_iff,Bool.and_true,Bool.not_not,Bool.and_eq_true,bne_iff_ne,decide_eq_true_eq,not_and]
  intro h3
  by_cases c:9218868437227405312 < mag x
  ·rw [if_pos c] at h3;exact absurd rfl h3.1
  ·exact c
 ·have h1':x < 9223372036854775808:=by omega
  have hm:mag x=x:=by unfold mag;exact Nat.mod_eq_of_lt h1'
  rw [hm]
  simp only [h1,h1',decide_true,decide_false,Bool.and_true,Bool.and_false,Bool.not_false,decide_eq_true_eq,Bool.and_eq_true,bne_iff_ne]
  constructor
  ·intro h2
   rw [if_neg (by omega),if_neg (by omega)]
   constructor <;> (split <;> (try split) <;> decide)
  ·rintro ⟨h2,h3⟩
   by_cases c:9218868437227405312 < x
   ·rw [if_pos c] at h2;exact absurd rfl h2
   ·by_cases d:x=9218868437227405312
    ·rw [if_neg c,if_pos d] at h3;exact absurd rfl h3
    ·omega
theorem made_k1 (o:Int) (x:Nat) (s:ByteArray) (b:Bool) (f c1 r1:Int) (p1 q1:Bool) (c2 r2:Int) (p2 q2:Bool) (n:Nat) (a:Option Addr) (c:Nat) (hx:x < 18446744073709551616) (w:World) (B2:Bares 2 false true false false false false false false) :
  Calls Tryz.prog 132 #[Hd.val ⟨1,o,x,s,b,f,c1,r1,p1,q1,c2,r2,p2,q2⟩ (.slice a n c)] w fun e w'=>e=.returned (.bool (bareB false true false false false false false false ⟨1,o,x,s,b,f,c1,r1,p1,q1,c2,r2,p2,q2⟩ n && plainX x))∧Gr w w':=by
 have HB:Hid (∀ w,Calls Tryz.prog 144 #[Hd.val ⟨1,o,x,s,b,f,c1,r1,p1,q1,c2,r2,p2,q2⟩ (.slice a n c),.int .i64 2] w fun e w'=>e=.returned (.bool (bareB false true false false false false false false ⟨1,o,x,s,b,f,c1,r1,p1,q1,c2,r2,p2,q2⟩ n))∧Gr w w'):=B2 _ n a c
 have HF:Hid (∀ w,Calls Tryz.prog 143 #[.int .u64 (x:Int)] w fun e w'=>e=.returned (.bool (decide (mag x < 9218868437227405312)))∧w'=w):=fun w=>by
  have:=finite_any (x:Int) (show (0:Int)≤x by omega) (show (x:Int) < 18446744073709551616 by omega) w
  rw [Int.toNat_natCast] at this
  exact this
 have hP:Hid ((decide (mag x < 9218868437227405312) && decide (x < 9223372036854775808))=plainX x):=plain_fin x hx
 have GA:Hid (∀ a t,Gr w (w.alloc (.cells a t))):=fun a t=>(Gr.refl w).alloc _ _
 generalize bareB false true false false false false false false ⟨1,o,x,s,b,f,c1,r1,p1,q1,c2,r2,p2,q2⟩ n=Z at *
 generalize decide (mag x < 9218868437227405312)=FN at *
 go_enter Tryz.func132,Tryz.ntmps132
 go_wp2_with fail
 refine (HF.out _).mono ?_
 rintro e w1 ⟨rfl,rfl⟩
 go_wp2_with fail
 refine (HB.out _).mono ?_
 rintro e w2 ⟨rfl,hg2⟩
 have G2:Hid (Gr w w2):=(GA.out _ _).trans hg2
 clear hg2 HB HF
 cases Z
 ·go_wp2_with fail
  go_ret
  exact ⟨rBool rfl,G2.out⟩
 ·cases FN
  ·go_wp2_with fail
   go_ret
   exact ⟨rBool (by rw [← hP.out];simp),G2.out⟩
  ·go_wp2_with fail
   go_ret
   refine ⟨rBool ?_,G2.out⟩
   rw [Bool.true_and,← hP.out,Bool.true_and,Bool.eq_iff_iff]
   simp only [beq_iff_eq,decide_eq_true_eq]
   omega
theorem made_k2 (o:Int) (x:Nat) (s:ByteArray) (b:Bool) (f c1 r1:Int) (p1 q1:Bool) (c2 r2:Int) (p2 q2:Bool) (n:Nat) (a:Option Addr) (c:Nat) (w:World) (hs:s.size≤140737488355328) (B:Bares 4 false false true false false false false false) :
  Calls Tryz.prog 132 #[Hd.val ⟨2,o,x,s,b,f,c1,r1,p1,q1,c2,r2,p2,q2⟩ (.slice a n c)] w fun e w'=>e=.returned (.bool (bareB false false true false false false false false ⟨2,o,x,s,b,f,c1,r1,p1,q1,c2,r2,p2,q2⟩ n && validD s.data.toList && decide (s.size≤1024)))∧Gr w w':=by
 have HB:Hid (∀ w,Calls Tryz.prog 144 #[Hd.val ⟨2,o,x,s,b,f,c1,r1,p1,q1,c2,r2,p2,q2⟩ (.slice a n c),.int .i64 4] w fun e w'=>e=.returned (.bool (bareB false false true false false false false false ⟨2,o,x,s,b,f,c1,r1,p1,q1,c2,r2,p2,q2⟩ n))∧Gr w w'):=B _ n a c
 have GA:Hid (∀ a t,Gr w (w.alloc (.cells a t))):=fun a t=>(Gr.refl w).alloc _ _
 have HU:Hid (∀ w,Calls Tryz.prog 83 #[.string s] w fun e w'=>e=.returned (.bool (validD s.data.toList))∧w'=w):=utf8_any s hs
 generalize validD s.data.toList=U at *
 clear hs
 generalize bareB false false true false false false false false ⟨2,o,x,s,b,f,c1,r1,p1,q1,c2,r2,p2,q2⟩ n=Z at *
 go_enter Tryz.func132,Tryz.ntmps132
 go_wp2_with fail
 refine (HU.out _).mono ?_
 rintro e w1 ⟨rfl,rfl⟩
 go_wp2_with fail
 refine (HB.out _).mono ?_
 rintro e w2 ⟨rfl,hg2⟩
 have G2:Hid (Gr w w2):=(GA.out _ _).trans hg2
 have hcell:=hg2.ext.cell
 clear hg2 HB
 cases Z
 ·go_wp2_with fail
  go_ret
  exact ⟨rBool (by simp),G2.out⟩
 ·go_wp2_with fail
  all_goals
   go_ret
   refine ⟨rBool ?_,G2.out⟩
   clear hcell G2 GA
   (try simp_all) <;> (try (rw [Bool.eq_iff_iff];simp)) <;> (try omega)
theorem made_k3 (o:Int) (x:Nat) (s:ByteArray) (b:Bool) (f c1 r1:Int) (p1 q1:Bool) (c2 r2:Int) (p2 q2:Bool) (n:Nat) (a:Option Addr) (c:Nat) (w:World) (B:Bares 8 false false false true false false false false) :
  Calls Tryz.prog 132 #[Hd.val ⟨3,o,x,s,b,f,c1,r1,p1,q1,c2,r2,p2,q2⟩ (.slice a n c)] w fun e w'=>e=.returned (.bool (bareB false false false true false false false false ⟨3,o,x,s,b,f,c1,r1,p1,q1,c2,r2,p2,q2⟩ n))∧Gr w w':=by
 have HB:Hid (∀ w,Calls Tryz.prog 144 #[Hd.val ⟨3,o,x,s,b,f,c1,r1,p1,q1,c2,r2,p2,q2⟩ (.slice a n c),.int .i64 8] w fun e w'=>e=.returned (.bool (bareB false false false true false false false false ⟨3,o,x,s,b,f,c1,r1,p1,q1,c2,r2,p2,q2⟩ n))∧Gr w w'):=B _ n a c
 have GA:Hid (∀ a t,Gr w (w.alloc (.cells a t))):=fun a t=>(Gr.refl w).alloc _ _
 generalize bareB false false false true false false false false ⟨3,o,x,s,b,f,c1,r1,p1,q1,c2,r2,p2,q2⟩ n=Z at *
 go_enter Tryz.func132,Tryz.ntmps132
 go_wp2_with fail
 refine (HB.out _).mono ?_
 rintro e w2 ⟨rfl,hg2⟩
 have G2:Hid (Gr w w2):=(GA.out _ _).trans hg2
 have hcell:=hg2.ext.cell
 clear hg2 HB
 cases Z
 ·go_wp2_with fail
  go_ret
  exact ⟨rBool (by simp),G2.out⟩
 ·go_wp2_with fail
  all_goals
   go_ret
   refine ⟨rBool ?_,G2.out⟩
   clear hcell G2 GA
   (try simp_all) <;> (try (rw [Bool.eq_iff_iff];simp)) <;> (try omega)
theorem made_k4 (o:Int) (x:Nat) (s:ByteArray) (b:Bool) (f c1 r1:Int) (p1 q1:Bool) (c2 r2:Int) (p2 q2:Bool) (n:Nat) (a:Option Addr) (c:Nat) (w:World) (B:Bares 16 false false false false true false false false) :
  Calls Tryz.prog 132 #[Hd.val ⟨4,o,x,s,b,f,c1,r1,p1,q1,c2,r2,p2,q2⟩ (.slice a n c)] w fun e w'=>e=.returned (.bool (bareB false false false false true false false false ⟨4,o,x,s,b,f,c1,r1,p1,q1,c2,r2,p2,q2⟩ n && decide (1≤f) && decide (f≤5)))∧Gr w w':=by
 have HB:Hid (∀ w,Calls Tryz.prog 144 #[Hd.val ⟨4,o,x,s,b,f,c1,r1,p1,q1,c2,r2,p2,q2⟩ (.slice a n c),.int .i64 16] w fun e w'=>e=.returned (.bool (bareB false false false false true false false false ⟨4,o,x,s,b,f,c1,r1,p1,q1,c2,r2,p2,q2⟩ n))∧Gr w w'):=B _ n a c
 have GA:Hid (∀ a t,Gr w (w.alloc (.cells a t))):=fun a t=>(Gr.refl w).alloc _ _
 generalize bareB false false false false true false false false ⟨4,o,x,s,b,f,c1,r1,p1,q1,c2,r2,p2,q2⟩ n=Z at *
 go_enter Tryz.func132,Tryz.ntmps132
 go_wp2_with fail
 refine (HB.out _).mono ?_
 rintro e w2 ⟨rfl,hg2⟩
 have G2:Hid (Gr w w2):=(GA.out _ _).trans hg2
 have hcell:=hg2.ext.cell
 clear hg2 HB
 cases Z
 ·go_wp2_with fail
  go_ret
  exact ⟨rBool (by simp),G2.out⟩
 ·go_wp2_with fail
  all_goals
   go_ret
   refine ⟨rBool ?_,G2.out⟩
   clear hcell G2 GA
   (try simp_all) <;> (try (rw [Bool.eq_iff_iff];simp)) <;> (try omega)
theorem made_k5 (o:Int) (x:Nat) (s:ByteArray) (b:Bool) (f c1 r1:Int) (p1 q1:Bool) (c2 r2:Int) (p2 q2:Bool) (n:Nat) (a:Option Addr) (c:Nat) (w:World) (B:Bares 32 false false false false false true false false) :
  Calls Tryz.prog 132 #[Hd.val ⟨5,o,x,s,b,f,c1,r1,p1,q1,c2,r2,p2,q2⟩ (.slice a n c)] w fun e w'=>e=.returned (.bool (bareB false false false false false true false false ⟨5,o,x,s,b,f,c1,r1,p1,q1,c2,r2,p2,q2⟩ n))∧Gr w w':=by
 have HB:Hid (∀ w,Calls Tryz.prog 144 #[Hd.val ⟨5,o,x,s,b,f,c1,r1,p1,q1,c2,r2,p2,q2⟩ (.slice a n c),.int .i64 32] w fun e w'=>e=.returned (.bool (bareB false false false false false true false false ⟨5,o,x,s,b,f,c1,r1,p1,q1,c2,r2,p2,q2⟩ n))∧Gr w w'):=B _ n a c
 have GA:Hid (∀ a t,Gr w (w.alloc (.cells a t))):=fun a t=>(Gr.refl w).alloc _ _
 generalize bareB false false false false false true false false ⟨5,o,x,s,b,f,c1,r1,p1,q1,c2,r2,p2,q2⟩ n=Z at *
 go_enter Tryz.func132,Tryz.ntmps132
 go_wp2_with fail
 refine (HB.out _).mono ?_
 rintro e w2 ⟨rfl,hg2⟩
 have G2:Hid (Gr w w2):=(GA.out _ _).trans hg2
 have hcell:=hg2.ext.cell
 clear hg2 HB
 cases Z
 ·go_wp2_with fail
  go_ret
  exact ⟨rBool (by simp),G2.out⟩
 ·go_wp2_with fail
  all_goals
   go_ret
   refine ⟨rBool ?_,G2.out⟩
   clear hcell G2 GA
   (try simp_all) <;> (try (rw [Bool.eq_iff_iff];simp)) <;> (try omega)
theorem made_k6 (o:Int) (x:Nat) (s:ByteArray) (b:Bool) (f c1 r1:Int) (p1 q1:Bool) (c2 r2:Int) (p2 q2:Bool) (n:Nat) (a:Option Addr) (c:Nat) (w:World) (B:Bares 96 false false false false false true true false) :
  Calls Tryz.prog 132 #[Hd.val ⟨6,o,x,s,b,f,c1,r1,p1,q1,c2,r2,p2,q2⟩ (.slice a n c)] w fun e w'=>e=.returned (.bool (bareB false false false false false true true false ⟨6,o,x,s,b,f,c1,r1,p1,q1,c2,r2,p2,q2⟩ n))∧Gr w w':=by
 have HB:Hid (∀ w,Calls Tryz.prog 144 #[Hd.val ⟨6,o,x,s,b,f,c1,r1,p1,q1,c2,r2,p2,q2⟩ (.slice a n c),.int .i64 96] w fun e w'=>e=.returned (.bool (bareB false false false false false true true false ⟨6,o,x,s,b,f,c1,r1,p1,q1,c2,r2,p2,q2⟩ n))∧Gr w w'):=B _ n a c
 have GA:Hid (∀ a t,Gr w (w.alloc (.cells a t))):=fun a t=>(Gr.refl w).alloc _ _
 generalize bareB false false false false false true true false ⟨6,o,x,s,b,f,c1,r1,p1,q1,c2,r2,p2,q2⟩ n=Z at *
 go_enter Tryz.func132,Tryz.ntmps132
 go_wp2_with fail
 refine (HB.out _).mono ?_
 rintro e w2 ⟨rfl,hg2⟩
 have G2:Hid (Gr w w2):=(GA.out _ _).trans hg2
 have hcell:=hg2.ext.cell
 clear hg2 HB
 cases Z
 ·go_wp2_with fail
  go_ret
  exact ⟨rBool (by simp),G2.out⟩
 ·go_wp2_with fail
  all_goals
   go_ret
   refine ⟨rBool ?_,G2.out⟩
   clear hcell G2 GA
   (try simp_all) <;> (try (rw [Bool.eq_iff_iff];simp)) <;> (try omega)
theorem made_k7 (o:Int) (x:Nat) (s:ByteArray) (b:Bool) (f c1 r1:Int) (p1 q1:Bool) (c2 r2:Int) (p2 q2:Bool) (n:Nat) (a:Option Addr) (c:Nat) (w:World) (B:Bares 129 true false false false false false false true) :
  Calls Tryz.prog 132 #[Hd.val ⟨7,o,x,s,b,f,c1,r1,p1,q1,c2,r2,p2,q2⟩ (.slice a n c)] w fun e w'=>e=.returned (.bool (bareB true false false false false false false true ⟨7,o,x,s,b,f,c1,r1,p1,q1,c2,r2,p2,q2⟩ n && decide (1≤o) && decide (o≤3) && n == 1))∧Gr w w':=by
 have HB:Hid (∀ w,Calls Tryz.prog 144 #[Hd.val ⟨7,o,x,s,b,f,c1,r1,p1,q1,c2,r2,p2,q2⟩ (.slice a n c),.int .i64 129] w fun e w'=>e=.returned (.bool (bareB true false false false false false false true ⟨7,o,x,s,b,f,c1,r1,p1,q1,c2,r2,p2,q2⟩ n))∧Gr w w'):=B _ n a c
 have GA:Hid (∀ a t,Gr w (w.alloc (.cells a t))):=fun a t=>(Gr.refl w).alloc _ _
 generalize bareB true false false false false false false true ⟨7,o,x,s,b,f,c1,r1,p1,q1,c2,r2,p2,q2⟩ n=Z at *
 go_enter Tryz.func132,Tryz.ntmps132
 go_wp2_with fail
 refine (HB.out _).mono ?_
 rintro e w2 ⟨rfl,hg2⟩
 have G2:Hid (Gr w w2):=(GA.out _ _).trans hg2
 have hcell:=hg2.ext.cell
 clear hg2 HB
 cases Z
 ·go_wp2_with fail
  go_ret
  exact ⟨rBool (by simp),G2.out⟩
 ·go_wp2_with fail
  all_goals
   go_ret
   refine ⟨rBool ?_,G2.out⟩
   clear hcell G2 GA
   (try simp_all) <;> (try (rw [Bool.eq_iff_iff];simp)) <;> (try omega)
theorem made_k8 (o:Int) (x:Nat) (s:ByteArray) (b:Bool) (f c1 r1:Int) (p1 q1:Bool) (c2 r2:Int) (p2 q2:Bool) (n:Nat) (a:Option Addr) (c:Nat) (w:World) (B:Bares 129 true false false false false false false true) :
  Calls Tryz.prog 132 #[Hd.val ⟨8,o,x,s,b,f,c1,r1,p1,q1,c2,r2,p2,q2⟩ (.slice a n c)] w fun e w'=>e=.returned (.bool (bareB true false false false false false false true ⟨8,o,x,s,b,f,c1,r1,p1,q1,c2,r2,p2,q2⟩ n && decide (4≤o) && decide (o≤15) && n == 2))∧Gr w w':=by
 have HB:Hid (∀ w,Calls Tryz.prog 144 #[Hd.val ⟨8,o,x,s,b,f,c1,r1,p1,q1,c2,r2,p2,q2⟩ (.slice a n c),.int .i64 129] w fun e w'=>e=.returned (.bool (bareB true false false false false false false true ⟨8,o,x,s,b,f,c1,r1,p1,q1,c2,r2,p2,q2⟩ n))∧Gr w w'):=B _ n a c
 have GA:Hid (∀ a t,Gr w (w.alloc (.cells a t))):=fun a t=>(Gr.refl w).alloc _ _
 generalize bareB true false false false false false false true ⟨8,o,x,s,b,f,c1,r1,p1,q1,c2,r2,p2,q2⟩ n=Z at *
 go_enter Tryz.func132,Tryz.ntmps132
 go_wp2_with fail
 refine (HB.out _).mono ?_
 rintro e w2 ⟨rfl,hg2⟩
 have G2:Hid (Gr w w2):=(GA.out _ _).trans hg2
 have hcell:=hg2.ext.cell
 clear hg2 HB
 cases Z
 ·go_wp2_with fail
  go_ret
  exact ⟨rBool (by simp),G2.out⟩
 ·go_wp2_with fail
  all_goals
   go_ret
   refine ⟨rBool ?_,G2.out⟩
   clear hcell G2 GA
   (try simp_all) <;> (try (rw [Bool.eq_iff_iff];simp)) <;> (try omega)
theorem made_k9 (o:Int) (x:Nat) (s:ByteArray) (b:Bool) (f c1 r1:Int) (p1 q1:Bool) (c2 r2:Int) (p2 q2:Bool) (n:Nat) (a:Option Addr) (c:Nat) (w:World) (B:Bares 132 false false true false false false false true) :
  Calls Tryz.prog 132 #[Hd.val ⟨9,o,x,s,b,f,c1,r1,p1,q1,c2,r2,p2,q2⟩ (.slice a n c)] w fun e w'=>e=.returned (.bool (bareB false false true false false false false true ⟨9,o,x,s,b,f,c1,r1,p1,q1,c2,r2,p2,q2⟩ n))∧Gr w w':=by
 have HB:Hid (∀ w,Calls Tryz.prog 144 #[Hd.val ⟨9,o,x,s,b,f,c1,r1,p1,q1,c2,r2,p2,q2⟩ (.slice a n c),.int .i64 132] w fun e w'=>e=.returned (.bool (bareB false false true false false false false true ⟨9,o,x,s,b,f,c1,r1,p1,q1,c2,r2,p2,q2⟩ n))∧Gr w w'):=B _ n a c
 have GA:Hid (∀ a t,Gr w (w.alloc (.cells a t))):=fun a t=>(Gr.refl w).alloc _ _
 generalize bareB false false true false false false false true ⟨9,o,x,s,b,f,c1,r1,p1,q1,c2,r2,p2,q2⟩ n=Z at *
 go_enter Tryz.func132,Tryz.ntmps132
 go_wp2_with fail
 refine (HB.out _).mono ?_
 rintro e w2 ⟨rfl,hg2⟩
 have G2:Hid (Gr w w2):=(GA.out _ _).trans hg2
 have hcell:=hg2.ext.cell
 clear hg2 HB
 cases Z
 ·go_wp2_with fail
  go_ret
  exact ⟨rBool (by simp),G2.out⟩
 ·go_wp2_with fail
  all_goals
   go_ret
   refine ⟨rBool ?_,G2.out⟩
   clear hcell G2 GA
   (try simp_all) <;> (try (rw [Bool.eq_iff_iff];simp)) <;> (try omega)
theorem made_k0 (h:Hd) (n:Nat) (a:Option Addr) (c:Nat) (w:World) (h0:h.k < 1∨9 < h.k) :
  Calls Tryz.prog 132 #[h.val (.slice a n c)] w fun e w'=>e=.returned (.bool false)∧Gr w w':=by
 have GA:Hid (∀ a t,Gr w (w.alloc (.cells a t))):=fun a t=>(Gr.refl w).alloc _ _
 obtain ⟨k,o,x,s,b,f,c1,r1,p1,q1,c2,r2,p2,q2⟩:=h
 simp only at *
 have e1:(k == 1)=false:=by simp;omega
 have e2:(k == 2)=false:=by simp;omega
 have e3:(k == 3)=false:=by simp;omega
 have e4:(k == 4)=false:=by simp;omega
 have e5:(k == 5)=false:=by simp;omega
 have e6:(k == 6)=false:=by simp;omega
 have e7:(k == 7)=false:=by simp;omega
 have e8:(k == 8)=false:=by simp;omega
 have e9:(k == 9)=false:=by simp;omega
 clear h0
 go_enter Tryz.func132,Tryz.ntmps132
 go_wp2_with fail
 go_ret
 exact ⟨rfl,GA.out _ _⟩
structure BaresAll:Prop where
 m2:Bares 2 false true false false false false false false
 m4:Bares 4 false false true false false false false false
 m8:Bares 8 false false false true false false false false
 m16:Bares 16 false false false false true false false false
 m32:Bares 32 false false false false false true false false
 m96:Bares 96 false false false false false true true false
 m129:Bares 129 true false false false false false false true
 m132:Bares 132 false false true false false false false true
theorem made_at (h:Hd) (n:Nat) (a:Option Addr) (c:Nat) (hx:h.x < 18446744073709551616) (hs:h.s.size≤140737488355328) (w:World) (B:BaresAll) :
  Calls Tryz.prog 132 #[h.val (.slice a n c)] w fun e w'=>e=.returned (.bool (wm h n))∧Gr w w':=by
 rw [← made_wm]
 by_cases h0:h.k < 1∨9 < h.k
 ·have:=made_k0 h n a c w h0
  have e:madeB h n (plainX h.x) (validD h.s.data.toList)=false:=by
   unfold madeB
   rw [if_neg (by omega),if_neg (by omega),if_neg (by omega),if_neg (by omega),if_neg (by omega),if_neg (by omega),if_neg (by omega),if_neg (by omega),if_neg (by omega)]
  rw [e]
  exact this
 ·obtain ⟨k,o,x,s,b,f,c1,r1,p1,q1,c2,r2,p2,q2⟩:=h
  simp only at h0 hx hs
  have hk:k=1∨k=2∨k=3∨k=4∨k=5∨k=6∨k=7∨k=8∨k=9:=by omega
  rcases hk with rfl|rfl|rfl|rfl|rfl|rfl|rfl|rfl|rfl
  ·exact made_k1 o x s b f c1 r1 p1 q1 c2 r2 p2 q2 n a c hx w B.m2
  ·exact made_k2 o x s b f c1 r1 p1 q1 c2 r2 p2 q2 n a c w hs B.m4
  ·exact made_k3 o x s b f c1 r1 p1 q1 c2 r2 p2 q2 n a c w B.m8
  ·exact made_k4 o x s b f c1 r1 p1 q1 c2 r2 p2 q2 n a c w B.m16
  ·exact made_k5 o x s b f c1 r1 p1 q1 c2 r2 p2 q2 n a c w B.m32
  ·exact made_k6 o x s b f c1 r1 p1 q1 c2 r2 p2 q2 n a c w B.m96
  ·exact made_k7 o x s b f c1 r1 p1 q1 c2 r2 p2 q2 n a c w B.m129
  ·exact made_k8 o x s b f c1 r1 p1 q1 c2 r2 p2 q2 n a c w B.m129
  ·exact made_k9 o x s b f c1 r1 p1 q1 c2 r2 p2 q2 n a c w B.m132
theorem vA_one (c r:Int):vA c r c r=vC c r:=by unfold vA;simp
theorem rown_at (h:Hd) (n:Nat) (a:Option Addr) (c:Nat) (inside:Bool) (hx:h.x < 18446744073709551616) (hs:h.s.size≤140737488355328) (w:World) (B:BaresAll) :
  Calls Tryz.prog 107 #[h.val (.slice a n c),.bool inside] w fun e w'=>e=.returned (.int .i64 (ownE h n inside))∧Gr w w':=by
 have H1:Hid (∀ w,Calls Tryz.prog 132 #[h.val (.slice a n c)] w fun e w'=>e=.returned (.bool (wm h n))∧Gr w w'):=fun w=>made_at h n a c hx hs w B
 have H2:Hid (∀ w,Calls Tryz.prog 133 #[.string h.s] w fun e w'=>e=.returned (.tuple #[.int .i64 (known h.s).1,.int .i64 (known h.s).2.1,.bool (known h.s).2.2])∧w'=w):=rknown_at h.s
 have H3:Hid (∀ w,Calls Tryz.prog 43 #[.agg #[.int .i64 h.c1,.int .i64 h.r1]] w fun e w'=>e=.returned (.bool (vC h.c1 h.r1))∧Gr w w'):=rValid_any h.c1 h.r1
 have H4:Hid (∀ w,Calls Tryz.prog 67 #[.agg #[.int .i64 h.c1,.int .i64 h.r1,.int .i64 h.c2,.int .i64 h.r2]] w fun e w'=>e=.returned (.bool (vA h.c1 h.r1 h.c2 h.r2))∧Gr w w'):=fun w=>(rValidArea_at h.c1 h.r1 h.c2 h.r2 w).mono fun e w' ⟨q1,q2⟩=>⟨q1,by rw [q2];exact (((Gr.refl w).alloc _ _).alloc _ _).alloc _ _⟩
 have hE:Hid (ownE h n inside=if wm h n=false then 1 else if h.k=5 then (if vC h.c1 h.r1=true then 0 else 20) else if h.k=6 then (if vA h.c1 h.r1 h.c2 h.r2=true then (if inside=true then 0 else 31) else 20) else if h.k=9 then (if (known h.s).2.2=false then 21 else if (n:Int) < (known h.s).1∨(known h.s).2.1 < n then 22 else 0) else 0):=by
  show _=_
  unfold ownE callE
  rw [vA_one]
 have GA:Hid (∀ a t,Gr w (w.alloc (.cells a t))):=fun a t=>(Gr.refl w).alloc _ _
 generalize ownE h n inside=E at *
 generalize wm h n=M at *
 generalize vC h.c1 h.r1=VC1 at *
 generalize vA h.c1 h.r1 h.c2 h.r2=VA1 at *
 generalize known h.s=kn at *
 obtain ⟨kl,km,kb⟩:=kn
 obtain ⟨k,o,x,s,b,f,c1,r1,p1,q1,c2,r2,p2,q2⟩:=h
 simp only at *
 clear hx hs B
 go_enter Tryz.func107,Tryz.ntmps107
 go_wp2_with fail
 refine (H1.out _).mono ?_
 rintro e w1 ⟨rfl,hg1⟩
 have hcell:=hg1.ext.cell
 have GG1:Hid (Gr _ w1):=hg1
 clear hg1 H1
 go_wp2_with (go_at_call 133;refine (H2.out _).mono ?_;rintro e w' ⟨rfl,rfl⟩)
 refine (H3.out _).mono ?_
 rintro e w2 ⟨rfl,hg2⟩
 have GG2:Hid (Gr _ w2):=GG1.out.trans hg2
 have hcell2:=(GG1.out.trans hg2).ext.cell
 clear hg2 H3 H2 hcell GG1
 go_wp2_with fail
 refine (H4.out _).mono ?_
 rintro e w3 ⟨rfl,hg3⟩
 have G3:Hid (Gr w w3):=(GA.out _ _).trans (GG2.out.trans hg3)
 have hcell:=(GG2.out.trans hg3).ext.cell
 clear hg3 H4 hcell2 GG2 GA
 cases M
 ·go_wp21
  go_ret
  exact ⟨rInt (by rw [hE.out];rfl),G3.out⟩
 by_cases k5:k=5
 ·subst k5
  cases VC1
  all_goals
   go_wp21
   go_ret
   exact ⟨rInt (by rw [hE.out];rfl),G3.out⟩
 by_cases k6:k=6
 ·subst k6
  cases VA1
  ·go_wp21
   go_ret
   exact ⟨rInt (by rw [hE.out];rfl),G3.out⟩
  ·cases inside
   all_goals
    go_wp21
    go_ret
    exact ⟨rInt (by rw [hE.out];rfl),G3.out⟩
 have e5:(k == 5)=false:=by simpa using k5
 have e6:(k == 6)=false:=by simpa using k6
 by_cases k9:k=9
 ·subst k9
  cases kb
  ·go_wp21
   go_ret
   exact ⟨rInt (by rw [hE.out];rfl),G3.out⟩
  ·by_cases l1:(n:Int) < kl
   ·have HE:Hid (E=22):=by show _=_;rw [hE.out];simp [l1]
    go_wp21
    go_ret
    exact ⟨rInt HE.out.symm,G3.out⟩
   ·by_cases l2:km < (n:Int)
    ·have HE:Hid (E=22):=by show _=_;rw [hE.out];simp [l2]
     go_wp21
     go_ret
     exact ⟨rInt HE.out.symm,G3.out⟩
    ·have HE:Hid (E=0):=by show _=_;rw [hE.out];simp [l1,l2]
     go_wp21
     go_ret
     exact ⟨rInt HE.out.symm,G3.out⟩
 ·have e9:(k == 9)=false:=by simpa using k9
  have HE:Hid (E=0):=by show _=_;rw [hE.out];simp [k5,k6,k9]
  go_wp21
  go_ret
  exact ⟨rInt HE.out.symm,G3.out⟩
end Go.Proofs.YtlppcfeakakpfaaGreatDoor
