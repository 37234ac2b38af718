/-The document's Made (quadrilleref12). -/
import Derived.Test.YtnceajanlnnfoaaGreatDoorQrEa
import Derived.Test.YtnceajanlnnfoaaGreatDoorQrEe
set_option maxRecDepth 20000
set_option maxHeartbeats 8000000
namespace Go.Proofs.YtnceajanlnnfoaaGreatDoor
open Go.RowKit Go.Lib
def I9 (m:Int) (o x s b f r t a:Bool):Prop:=∀(h:Hd) (n:Nat) (ad:Option Addr) (c:Nat) (w:World),Calls Tryz.prog 223 #[h.val (.slice ad n c),.int .i64 m] w fun e w'=>e=.returned (.bool (j8 o x s b f r t a h n))/\Gr w w'
theorem jBm (x:Nat)(hx:x<18446744073709551616):(decide (mag x<9218868437227405312)&&decide (x<9223372036854775808))=I3 x:=by
 have:=j2V x hx;unfold I3 cls ngt isN;rw[Bool.eq_iff_iff];unfold sgb at *;by_cases h1:9223372036854775808<=x
 ·have h2:¬x<9223372036854775808:=by omega
  simp only[h1,h2,decide_true,decide_false,Bool.and_false,Bool.false_eq_true,false_iff,Bool.and_true,Bool.not_not,Bool.and_eq_true,bne_iff_ne,decide_eq_true_eq,not_and];intro h3;by_cases c:9218868437227405312<mag x
  ·rw[if_pos c] at h3;exact absurd rfl h3.1
  ·exact c
 ·have h1':x<9223372036854775808:=by omega
  have hm:mag x=x:=by unfold mag;exact Nat.mod_eq_of_lt h1'
  rw[hm];simp only[h1,h1',decide_true,decide_false,Bool.and_true,Bool.and_false,Bool.not_false,decide_eq_true_eq,Bool.and_eq_true,bne_iff_ne];constructor
  ·intro h2;rw[if_neg (by omega),if_neg (by omega)];constructor <;> (split <;> (try split) <;> decide)
  ·rintro⟨h2,h3⟩;by_cases c:9218868437227405312<x
   ·rw[if_pos c] at h2;exact absurd rfl h2
   ·by_cases d:x=9218868437227405312
    ·rw[if_neg c,if_pos d] at h3;exact absurd rfl h3
    ·omega
theorem jAY (o:Int)(x:Nat)(s:ByteArray)(b:Bool)(f c1 r1:Int)(p1 q1:Bool)(c2 r2:Int)(p2 q2:Bool)(n:Nat)(a:Option Addr)(c:Nat)(hx:x<18446744073709551616)(w:World)(B2:I9 2 false true false false false false false false):
 Calls Tryz.prog 211 #[Hd.val ⟨1,o,x,s,b,f,c1,r1,p1,q1,c2,r2,p2,q2⟩ (.slice a n c)] w fun e w'=>e=.returned (.bool (j8 false true false false false false false false ⟨1,o,x,s,b,f,c1,r1,p1,q1,c2,r2,p2,q2⟩ n&&I3 x))/\Gr w w':=by
 have HB:Hid (∀w,Calls Tryz.prog 223 #[Hd.val ⟨1,o,x,s,b,f,c1,r1,p1,q1,c2,r2,p2,q2⟩ (.slice a n c),.int .i64 2] w fun e w'=>e=.returned (.bool (j8 false true false false false false false false ⟨1,o,x,s,b,f,c1,r1,p1,q1,c2,r2,p2,q2⟩ n))/\Gr w w'):=B2 _ n a c;have HF:Hid (∀w,Calls Tryz.prog 152 #[.int .u64 (x:Int)] w fun e w'=>e=.returned (.bool (decide (mag x<9218868437227405312)))/\w'=w):=fun w=>by
  have:=j9O (x:Int) (show (0:Int)<=x by omega) (show (x:Int)<18446744073709551616 by omega) w;rw[Int.toNat_natCast] at this;exact this
 have hP:Hid ((decide (mag x<9218868437227405312)&&decide (x<9223372036854775808))=I3 x):=jBm x hx;have GA:Hid (∀a t,Gr w (w.alloc (.cells a t))):=fun a t=>(Gr.refl w).alloc _ _
 generalize j8 false true false false false false false false ⟨1,o,x,s,b,f,c1,r1,p1,q1,c2,r2,p2,q2⟩ n=Z at *;generalize decide (mag x<9218868437227405312)=FN at *;go_enter Tryz.func211,Tryz.ntmps211;go_wp2_with fail;refine(HF.out _).mono ?_;rintro e w1 ⟨rfl,rfl⟩;go_wp2_with fail;refine(HB.out _).mono ?_;rintro e w2 ⟨rfl,hg2⟩;have G2:Hid (Gr w w2):=(GA.out _ _).trans hg2;clear hg2 HB HF;cases Z
 ·go_wp2_with fail;go_ret;exact⟨j4 rfl,G2.out⟩
 ·cases FN
  ·go_wp2_with fail;go_ret;exact⟨j4 (by rw[<- hP.out];simp),G2.out⟩
  ·go_wp2_with fail;go_ret;refine⟨j4 ?_,G2.out⟩;rw[Bool.true_and,<- hP.out,Bool.true_and,Bool.eq_iff_iff];simp only[beq_iff_eq,decide_eq_true_eq];omega
theorem jAZ (o:Int)(x:Nat)(s:ByteArray)(b:Bool)(f c1 r1:Int)(p1 q1:Bool)(c2 r2:Int)(p2 q2:Bool)(n:Nat)(a:Option Addr)(c:Nat)(w:World)(hs:s.size<=140737488355328)(B:I9 4 false false true false false false false false):
 Calls Tryz.prog 211 #[Hd.val ⟨2,o,x,s,b,f,c1,r1,p1,q1,c2,r2,p2,q2⟩ (.slice a n c)] w fun e w'=>e=.returned (.bool (j8 false false true false false false false false ⟨2,o,x,s,b,f,c1,r1,p1,q1,c2,r2,p2,q2⟩ n&&validD s.data.toList&&decide (s.size<=1024)))/\Gr w w':=by
 have HB:Hid (∀w,Calls Tryz.prog 223 #[Hd.val ⟨2,o,x,s,b,f,c1,r1,p1,q1,c2,r2,p2,q2⟩ (.slice a n c),.int .i64 4] w fun e w'=>e=.returned (.bool (j8 false false true false false false false false ⟨2,o,x,s,b,f,c1,r1,p1,q1,c2,r2,p2,q2⟩ n))/\Gr w w'):=B _ n a c;have GA:Hid (∀a t,Gr w (w.alloc (.cells a t))):=fun a t=>(Gr.refl w).alloc _ _
 have HU:Hid (∀w,Calls Tryz.prog 163 #[.string s] w fun e w'=>e=.returned (.bool (validD s.data.toList))/\w'=w):=j6Y s hs;generalize validD s.data.toList=U at *;clear hs;generalize j8 false false true false false false false false ⟨2,o,x,s,b,f,c1,r1,p1,q1,c2,r2,p2,q2⟩ n=Z at *;go_enter Tryz.func211,Tryz.ntmps211;go_wp2_with fail;refine(HU.out _).mono ?_;rintro e w1 ⟨rfl,rfl⟩;go_wp2_with fail;refine(HB.out _).mono ?_;rintro e w2 ⟨rfl,hg2⟩;have G2:Hid (Gr w w2):=(GA.out _ _).trans hg2;have hcell:=hg2.ext.cell;clear hg2 HB;cases Z
 ·go_wp2_with fail;go_ret;exact⟨j4 (by simp),G2.out⟩
 ·go_wp2_with fail;all_goals
   go_ret;refine⟨j4 ?_,G2.out⟩;clear hcell G2 GA
   (try simp_all) <;> (try (rw[Bool.eq_iff_iff];simp)) <;> (try omega)
theorem jAa (o:Int)(x:Nat)(s:ByteArray)(b:Bool)(f c1 r1:Int)(p1 q1:Bool)(c2 r2:Int)(p2 q2:Bool)(n:Nat)(a:Option Addr)(c:Nat)(w:World)(B:I9 8 false false false true false false false false):
 Calls Tryz.prog 211 #[Hd.val ⟨3,o,x,s,b,f,c1,r1,p1,q1,c2,r2,p2,q2⟩ (.slice a n c)] w fun e w'=>e=.returned (.bool (j8 false false false true false false false false ⟨3,o,x,s,b,f,c1,r1,p1,q1,c2,r2,p2,q2⟩ n))/\Gr w w':=by
 have HB:Hid (∀w,Calls Tryz.prog 223 #[Hd.val ⟨3,o,x,s,b,f,c1,r1,p1,q1,c2,r2,p2,q2⟩ (.slice a n c),.int .i64 8] w fun e w'=>e=.returned (.bool (j8 false false false true false false false false ⟨3,o,x,s,b,f,c1,r1,p1,q1,c2,r2,p2,q2⟩ n))/\Gr w w'):=B _ n a c;have GA:Hid (∀a t,Gr w (w.alloc (.cells a t))):=fun a t=>(Gr.refl w).alloc _ _
 generalize j8 false false false true false false false false ⟨3,o,x,s,b,f,c1,r1,p1,q1,c2,r2,p2,q2⟩ n=Z at *;go_enter Tryz.func211,Tryz.ntmps211;go_wp2_with fail;refine(HB.out _).mono ?_;rintro e w2 ⟨rfl,hg2⟩;have G2:Hid (Gr w w2):=(GA.out _ _).trans hg2;have hcell:=hg2.ext.cell;clear hg2 HB;cases Z
 ·go_wp2_with fail;go_ret;exact⟨j4 (by simp),G2.out⟩
 ·go_wp2_with fail;all_goals
   go_ret;refine⟨j4 ?_,G2.out⟩;clear hcell G2 GA
   (try simp_all) <;> (try (rw[Bool.eq_iff_iff];simp)) <;> (try omega)
theorem jAb (o:Int)(x:Nat)(s:ByteArray)(b:Bool)(f c1 r1:Int)(p1 q1:Bool)(c2 r2:Int)(p2 q2:Bool)(n:Nat)(a:Option Addr)(c:Nat)(w:World)(B:I9 16 false false false false true false false false):
 Calls Tryz.prog 211 #[Hd.val ⟨4,o,x,s,b,f,c1,r1,p1,q1,c2,r2,p2,q2⟩ (.slice a n c)] w fun e w'=>e=.returned (.bool (j8 false false false false true false false false ⟨4,o,x,s,b,f,c1,r1,p1,q1,c2,r2,p2,q2⟩ n&&decide (1<=f)&&decide (f<=5)))/\Gr w w':=by
 have HB:Hid (∀w,Calls Tryz.prog 223 #[Hd.val ⟨4,o,x,s,b,f,c1,r1,p1,q1,c2,r2,p2,q2⟩ (.slice a n c),.int .i64 16] w fun e w'=>e=.returned (.bool (j8 false false false false true false false false ⟨4,o,x,s,b,f,c1,r1,p1,q1,c2,r2,p2,q2⟩ n))/\Gr w w'):=B _ n a c;have GA:Hid (∀a t,Gr w (w.alloc (.cells a t))):=fun a t=>(Gr.refl w).alloc _ _
 generalize j8 false false false false true false false false ⟨4,o,x,s,b,f,c1,r1,p1,q1,c2,r2,p2,q2⟩ n=Z at *;go_enter Tryz.func211,Tryz.ntmps211;go_wp2_with fail;refine(HB.out _).mono ?_;rintro e w2 ⟨rfl,hg2⟩;have G2:Hid (Gr w w2):=(GA.out _ _).trans hg2;have hcell:=hg2.ext.cell;clear hg2 HB;cases Z
 ·go_wp2_with fail;go_ret;exact⟨j4 (by simp),G2.out⟩
 ·go_wp2_with fail;all_goals
   go_ret;refine⟨j4 ?_,G2.out⟩;clear hcell G2 GA
   (try simp_all) <;> (try (rw[Bool.eq_iff_iff];simp)) <;> (try omega)
theorem jAc (o:Int)(x:Nat)(s:ByteArray)(b:Bool)(f c1 r1:Int)(p1 q1:Bool)(c2 r2:Int)(p2 q2:Bool)(n:Nat)(a:Option Addr)(c:Nat)(w:World)(B:I9 32 false false false false false true false false):
 Calls Tryz.prog 211 #[Hd.val ⟨5,o,x,s,b,f,c1,r1,p1,q1,c2,r2,p2,q2⟩ (.slice a n c)] w fun e w'=>e=.returned (.bool (j8 false false false false false true false false ⟨5,o,x,s,b,f,c1,r1,p1,q1,c2,r2,p2,q2⟩ n))/\Gr w w':=by
 have HB:Hid (∀w,Calls Tryz.prog 223 #[Hd.val ⟨5,o,x,s,b,f,c1,r1,p1,q1,c2,r2,p2,q2⟩ (.slice a n c),.int .i64 32] w fun e w'=>e=.returned (.bool (j8 false false false false false true false false ⟨5,o,x,s,b,f,c1,r1,p1,q1,c2,r2,p2,q2⟩ n))/\Gr w w'):=B _ n a c;have GA:Hid (∀a t,Gr w (w.alloc (.cells a t))):=fun a t=>(Gr.refl w).alloc _ _
 generalize j8 false false false false false true false false ⟨5,o,x,s,b,f,c1,r1,p1,q1,c2,r2,p2,q2⟩ n=Z at *;go_enter Tryz.func211,Tryz.ntmps211;go_wp2_with fail;refine(HB.out _).mono ?_;rintro e w2 ⟨rfl,hg2⟩;have G2:Hid (Gr w w2):=(GA.out _ _).trans hg2;have hcell:=hg2.ext.cell;clear hg2 HB;cases Z
 ·go_wp2_with fail;go_ret;exact⟨j4 (by simp),G2.out⟩
 ·go_wp2_with fail;all_goals
   go_ret;refine⟨j4 ?_,G2.out⟩;clear hcell G2 GA
   (try simp_all) <;> (try (rw[Bool.eq_iff_iff];simp)) <;> (try omega)
theorem jAd (o:Int)(x:Nat)(s:ByteArray)(b:Bool)(f c1 r1:Int)(p1 q1:Bool)(c2 r2:Int)(p2 q2:Bool)(n:Nat)(a:Option Addr)(c:Nat)(w:World)(B:I9 96 false false false false false true true false):
 Calls Tryz.prog 211 #[Hd.val ⟨6,o,x,s,b,f,c1,r1,p1,q1,c2,r2,p2,q2⟩ (.slice a n c)] w fun e w'=>e=.returned (.bool (j8 false false false false false true true false ⟨6,o,x,s,b,f,c1,r1,p1,q1,c2,r2,p2,q2⟩ n))/\Gr w w':=by
 have HB:Hid (∀w,Calls Tryz.prog 223 #[Hd.val ⟨6,o,x,s,b,f,c1,r1,p1,q1,c2,r2,p2,q2⟩ (.slice a n c),.int .i64 96] w fun e w'=>e=.returned (.bool (j8 false false false false false true true false ⟨6,o,x,s,b,f,c1,r1,p1,q1,c2,r2,p2,q2⟩ n))/\Gr w w'):=B _ n a c;have GA:Hid (∀a t,Gr w (w.alloc (.cells a t))):=fun a t=>(Gr.refl w).alloc _ _
 generalize j8 false false false false false true true false ⟨6,o,x,s,b,f,c1,r1,p1,q1,c2,r2,p2,q2⟩ n=Z at *;go_enter Tryz.func211,Tryz.ntmps211;go_wp2_with fail;refine(HB.out _).mono ?_;rintro e w2 ⟨rfl,hg2⟩;have G2:Hid (Gr w w2):=(GA.out _ _).trans hg2;have hcell:=hg2.ext.cell;clear hg2 HB;cases Z
 ·go_wp2_with fail;go_ret;exact⟨j4 (by simp),G2.out⟩
 ·go_wp2_with fail;all_goals
   go_ret;refine⟨j4 ?_,G2.out⟩;clear hcell G2 GA
   (try simp_all) <;> (try (rw[Bool.eq_iff_iff];simp)) <;> (try omega)
theorem jAe (o:Int)(x:Nat)(s:ByteArray)(b:Bool)(f c1 r1:Int)(p1 q1:Bool)(c2 r2:Int)(p2 q2:Bool)(n:Nat)(a:Option Addr)(c:Nat)(w:World)(B:I9 129 true false false false false false false true):
 Calls Tryz.prog 211 #[Hd.val ⟨7,o,x,s,b,f,c1,r1,p1,q1,c2,r2,p2,q2⟩ (.slice a n c)] w fun e w'=>e=.returned (.bool (j8 true false false false false false false true ⟨7,o,x,s,b,f,c1,r1,p1,q1,c2,r2,p2,q2⟩ n&&decide (1<=o)&&decide (o<=3)&&n==1))/\Gr w w':=by
 have HB:Hid (∀w,Calls Tryz.prog 223 #[Hd.val ⟨7,o,x,s,b,f,c1,r1,p1,q1,c2,r2,p2,q2⟩ (.slice a n c),.int .i64 129] w fun e w'=>e=.returned (.bool (j8 true false false false false false false true ⟨7,o,x,s,b,f,c1,r1,p1,q1,c2,r2,p2,q2⟩ n))/\Gr w w'):=B _ n a c;have GA:Hid (∀a t,Gr w (w.alloc (.cells a t))):=fun a t=>(Gr.refl w).alloc _ _
 generalize j8 true false false false false false false true ⟨7,o,x,s,b,f,c1,r1,p1,q1,c2,r2,p2,q2⟩ n=Z at *;go_enter Tryz.func211,Tryz.ntmps211;go_wp2_with fail;refine(HB.out _).mono ?_;rintro e w2 ⟨rfl,hg2⟩;have G2:Hid (Gr w w2):=(GA.out _ _).trans hg2;have hcell:=hg2.ext.cell;clear hg2 HB;cases Z
 ·go_wp2_with fail;go_ret;exact⟨j4 (by simp),G2.out⟩
 ·go_wp2_with fail;all_goals
   go_ret;refine⟨j4 ?_,G2.out⟩;clear hcell G2 GA
   (try simp_all) <;> (try (rw[Bool.eq_iff_iff];simp)) <;> (try omega)
theorem jAf (o:Int)(x:Nat)(s:ByteArray)(b:Bool)(f c1 r1:Int)(p1 q1:Bool)(c2 r2:Int)(p2 q2:Bool)(n:Nat)(a:Option Addr)(c:Nat)(w:World)(B:I9 129 true false false false false false false true):
 Calls Tryz.prog 211 #[Hd.val ⟨8,o,x,s,b,f,c1,r1,p1,q1,c2,r2,p2,q2⟩ (.slice a n c)] w fun e w'=>e=.returned (.bool (j8 true false false false false false false true ⟨8,o,x,s,b,f,c1,r1,p1,q1,c2,r2,p2,q2⟩ n&&decide (4<=o)&&decide (o<=15)&&n==2))/\Gr w w':=by
 have HB:Hid (∀w,Calls Tryz.prog 223 #[Hd.val ⟨8,o,x,s,b,f,c1,r1,p1,q1,c2,r2,p2,q2⟩ (.slice a n c),.int .i64 129] w fun e w'=>e=.returned (.bool (j8 true false false false false false false true ⟨8,o,x,s,b,f,c1,r1,p1,q1,c2,r2,p2,q2⟩ n))/\Gr w w'):=B _ n a c;have GA:Hid (∀a t,Gr w (w.alloc (.cells a t))):=fun a t=>(Gr.refl w).alloc _ _
 generalize j8 true false false false false false false true ⟨8,o,x,s,b,f,c1,r1,p1,q1,c2,r2,p2,q2⟩ n=Z at *;go_enter Tryz.func211,Tryz.ntmps211;go_wp2_with fail;refine(HB.out _).mono ?_;rintro e w2 ⟨rfl,hg2⟩;have G2:Hid (Gr w w2):=(GA.out _ _).trans hg2;have hcell:=hg2.ext.cell;clear hg2 HB;cases Z
 ·go_wp2_with fail;go_ret;exact⟨j4 (by simp),G2.out⟩
 ·go_wp2_with fail;all_goals
   go_ret;refine⟨j4 ?_,G2.out⟩;clear hcell G2 GA
   (try simp_all) <;> (try (rw[Bool.eq_iff_iff];simp)) <;> (try omega)
theorem jAg (o:Int)(x:Nat)(s:ByteArray)(b:Bool)(f c1 r1:Int)(p1 q1:Bool)(c2 r2:Int)(p2 q2:Bool)(n:Nat)(a:Option Addr)(c:Nat)(w:World)(B:I9 132 false false true false false false false true):
 Calls Tryz.prog 211 #[Hd.val ⟨9,o,x,s,b,f,c1,r1,p1,q1,c2,r2,p2,q2⟩ (.slice a n c)] w fun e w'=>e=.returned (.bool (j8 false false true false false false false true ⟨9,o,x,s,b,f,c1,r1,p1,q1,c2,r2,p2,q2⟩ n))/\Gr w w':=by
 have HB:Hid (∀w,Calls Tryz.prog 223 #[Hd.val ⟨9,o,x,s,b,f,c1,r1,p1,q1,c2,r2,p2,q2⟩ (.slice a n c),.int .i64 132] w fun e w'=>e=.returned (.bool (j8 false false true false false false false true ⟨9,o,x,s,b,f,c1,r1,p1,q1,c2,r2,p2,q2⟩ n))/\Gr w w'):=B _ n a c;have GA:Hid (∀a t,Gr w (w.alloc (.cells a t))):=fun a t=>(Gr.refl w).alloc _ _
 generalize j8 false false true false false false false true ⟨9,o,x,s,b,f,c1,r1,p1,q1,c2,r2,p2,q2⟩ n=Z at *;go_enter Tryz.func211,Tryz.ntmps211;go_wp2_with fail;refine(HB.out _).mono ?_;rintro e w2 ⟨rfl,hg2⟩;have G2:Hid (Gr w w2):=(GA.out _ _).trans hg2;have hcell:=hg2.ext.cell;clear hg2 HB;cases Z
 ·go_wp2_with fail;go_ret;exact⟨j4 (by simp),G2.out⟩
 ·go_wp2_with fail;all_goals
   go_ret;refine⟨j4 ?_,G2.out⟩;clear hcell G2 GA
   (try simp_all) <;> (try (rw[Bool.eq_iff_iff];simp)) <;> (try omega)
theorem jAX (h:Hd)(n:Nat)(a:Option Addr)(c:Nat)(w:World)(h0:h.k<1∨9<h.k):
 Calls Tryz.prog 211 #[h.val (.slice a n c)] w fun e w'=>e=.returned (.bool false)/\Gr w w':=by
 have GA:Hid (∀a t,Gr w (w.alloc (.cells a t))):=fun a t=>(Gr.refl w).alloc _ _
 obtain⟨k,o,x,s,b,f,c1,r1,p1,q1,c2,r2,p2,q2⟩:=h;simp only at *;have e1:(k==1)=false:=by simp;omega
 have e2:(k==2)=false:=by simp;omega
 have e3:(k==3)=false:=by simp;omega
 have e4:(k==4)=false:=by simp;omega
 have e5:(k==5)=false:=by simp;omega
 have e6:(k==6)=false:=by simp;omega
 have e7:(k==7)=false:=by simp;omega
 have e8:(k==8)=false:=by simp;omega
 have e9:(k==9)=false:=by simp;omega
 clear h0;go_enter Tryz.func211,Tryz.ntmps211;go_wp2_with fail;go_ret;exact⟨rfl,GA.out _ _⟩
structure j0O:Prop where
 m2:I9 2 false true false false false false false false
 m4:I9 4 false false true false false false false false
 m8:I9 8 false false false true false false false false
 m16:I9 16 false false false false true false false false
 m32:I9 32 false false false false false true false false
 m96:I9 96 false false false false false true true false
 m129:I9 129 true false false false false false false true
 m132:I9 132 false false true false false false false true
theorem jAW (h:Hd)(n:Nat)(a:Option Addr)(c:Nat)(hx:h.x<18446744073709551616)(hs:h.s.size<=140737488355328)(w:World)(B:j0O):
 Calls Tryz.prog 211 #[h.val (.slice a n c)] w fun e w'=>e=.returned (.bool (wm h n))/\Gr w w':=by
 rw[<- jAh];by_cases h0:h.k<1∨9<h.k
 ·have:=jAX h n a c w h0;have e:j1F h n (I3 h.x) (validD h.s.data.toList)=false:=by
   unfold j1F;rw[if_neg (by omega),if_neg (by omega),if_neg (by omega),if_neg (by omega),if_neg (by omega),if_neg (by omega),if_neg (by omega),if_neg (by omega),if_neg (by omega)]
  rw[e];exact this
 ·obtain⟨k,o,x,s,b,f,c1,r1,p1,q1,c2,r2,p2,q2⟩:=h;simp only at h0 hx hs;have hk:k=1∨k=2∨k=3∨k=4∨k=5∨k=6∨k=7∨k=8∨k=9:=by omega
  rcases hk with rfl|rfl|rfl|rfl|rfl|rfl|rfl|rfl|rfl
  ·exact jAY o x s b f c1 r1 p1 q1 c2 r2 p2 q2 n a c hx w B.m2
  ·exact jAZ o x s b f c1 r1 p1 q1 c2 r2 p2 q2 n a c w hs B.m4
  ·exact jAa o x s b f c1 r1 p1 q1 c2 r2 p2 q2 n a c w B.m8
  ·exact jAb o x s b f c1 r1 p1 q1 c2 r2 p2 q2 n a c w B.m16
  ·exact jAc o x s b f c1 r1 p1 q1 c2 r2 p2 q2 n a c w B.m32
  ·exact jAd o x s b f c1 r1 p1 q1 c2 r2 p2 q2 n a c w B.m96
  ·exact jAe o x s b f c1 r1 p1 q1 c2 r2 p2 q2 n a c w B.m129
  ·exact jAf o x s b f c1 r1 p1 q1 c2 r2 p2 q2 n a c w B.m129
  ·exact jAg o x s b f c1 r1 p1 q1 c2 r2 p2 q2 n a c w B.m132
end Go.Proofs.YtnceajanlnnfoaaGreatDoor
