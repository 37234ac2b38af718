/-The document's Made (quadrilleref12). -/
import Derived.Test.YtecjfnkakodebaaGreatDoorRmEa
import Derived.Test.YtecjfnkakodebaaGreatDoorRmEe
open Go.Proofs.Tryz
open Go.Value renaming int->O,bool->E,slice->U
open Go.IntKind renaming i64->I
open Bool renaming false->R,true->J
open Go.Ending renaming returned->Q
set_option maxRecDepth 20000
set_option maxHeartbeats 8000000
namespace Go.Proofs.YtecjfnkakodebaaGreatDoor
open Go.RowKit Go.Lib
def O7 (m:Int) (o x s b f r t a:Bool):Prop:=∀(h:Hd) (n:Nat) (ad:Option Addr) (c:Nat) (w:World),Calls prog 181 #[h.val (U ad n c),O I m] w fun e w'=>e=Q (E (D4 o x s b f r t a h n))/\Gr w w'
theorem jCa (x:Nat)(hx:x<18446744073709551616):(decide (mag x<9218868437227405312)&&decide (x<9223372036854775808))=O9 x:=by
 have:=j5q x hx;unfold O9 cls ngt isN;rw[Bool.eq_iff_iff];unfold sgb at *;by_cases h1:9223372036854775808<=x
 ·have h2:¬x<9223372036854775808:=by omega
  simp only[h1,h2,decide_true,decide_false,Bool.and_false,Bool.false_eq_true,false_iff,Bool.and_true,Bool.not_not,Bool.and_eq_true,bne_iff_ne,decide_eq_true_eq,not_and];intro h3;by_cases c:9218868437227405312<mag x
  ·rw[if_pos c] at h3;exact absurd rfl h3.1
  ·exact c
 ·have h1':x<9223372036854775808:=by omega
  have hm:mag x=x:=by unfold mag;exact Nat.mod_eq_of_lt h1'
  rw[hm];simp only[h1,h1',decide_true,decide_false,Bool.and_true,Bool.and_false,Bool.not_false,decide_eq_true_eq,Bool.and_eq_true,bne_iff_ne];constructor
  ·intro h2;rw[if_neg (by omega),if_neg (by omega)];constructor <;> (split <;> (try split) <;> decide)
  ·rintro⟨h2,h3⟩;by_cases c:9218868437227405312<x
   ·rw[if_pos c] at h2;exact absurd rfl h2
   ·by_cases d:x=9218868437227405312
    ·rw[if_neg c,if_pos d] at h3;exact absurd rfl h3
    ·omega
theorem jAz (o:Int)(x:Nat)(s:ByteArray)(b:Bool)(f c1 r1:Int)(p1 q1:Bool)(c2 r2:Int)(p2 q2:Bool)(n:Nat)(a:Option Addr)(c:Nat)(hx:x<18446744073709551616)(w:World)(B2:O7 2 R J R R R R R R):
 Calls prog 167 #[Hd.val ⟨1,o,x,s,b,f,c1,r1,p1,q1,c2,r2,p2,q2⟩ (U a n c)] w fun e w'=>e=Q (E (D4 R J R R R R R R ⟨1,o,x,s,b,f,c1,r1,p1,q1,c2,r2,p2,q2⟩ n&&O9 x))/\Gr w w':=by
 have HB:Hid (∀w,Calls prog 181 #[Hd.val ⟨1,o,x,s,b,f,c1,r1,p1,q1,c2,r2,p2,q2⟩ (U a n c),O I 2] w fun e w'=>e=Q (E (D4 R J R R R R R R ⟨1,o,x,s,b,f,c1,r1,p1,q1,c2,r2,p2,q2⟩ n))/\Gr w w'):=B2 _ n a c;have HF:Hid (∀w,Calls prog 180 #[.int .u64 (x:Int)] w fun e w'=>e=Q (E (decide (mag x<9218868437227405312)))/\w'=w):=fun w=>by
  have:=j9w (x:Int) (show (0:Int)<=x by omega) (show (x:Int)<18446744073709551616 by omega) w;rw[Int.toNat_natCast] at this;exact this
 have hP:=h_ (jCa x hx);have GA:Hid (∀a t,Gr w (w.alloc (.cells a t))):=fun a t=>(Gr.refl w).alloc _ _
 generalize D4 R J R R R R R R ⟨1,o,x,s,b,f,c1,r1,p1,q1,c2,r2,p2,q2⟩ n=Z at *;generalize decide (mag x<9218868437227405312)=FN at *;go_enter func167,ntmps167;go_wp2_with fail;refine(HF.o _).mono ?_;rintro e w1 ⟨rfl,rfl⟩;go_wp2_with fail;refine(HB.o _).mono ?_;rintro e w2 ⟨rfl,hg2⟩;have G2:=h_ ((GA.o _ _).trans hg2);clear hg2 HB HF;cases Z
 ·go_wp2_with fail;go_ret;exact⟨j4 rfl,G2.o⟩
 ·cases FN
  ·go_wp2_with fail;go_ret;exact⟨j4 (by rw[<- hP.o];simp),G2.o⟩
  ·go_wp2_with fail;go_ret;refine⟨j4 ?_,G2.o⟩;rw[Bool.true_and,<- hP.o,Bool.true_and,Bool.eq_iff_iff];simp only[beq_iff_eq,decide_eq_true_eq];omega
theorem jB0 (o:Int)(x:Nat)(s:ByteArray)(b:Bool)(f c1 r1:Int)(p1 q1:Bool)(c2 r2:Int)(p2 q2:Bool)(n:Nat)(a:Option Addr)(c:Nat)(w:World)(hs:s.size<=140737488355328)(B:O7 4 R R J R R R R R):
 Calls prog 167 #[Hd.val ⟨2,o,x,s,b,f,c1,r1,p1,q1,c2,r2,p2,q2⟩ (U a n c)] w fun e w'=>e=Q (E (D4 R R J R R R R R ⟨2,o,x,s,b,f,c1,r1,p1,q1,c2,r2,p2,q2⟩ n&&validD s.data.toList&&decide (s.size<=1024)))/\Gr w w':=by
 have HB:Hid (∀w,Calls prog 181 #[Hd.val ⟨2,o,x,s,b,f,c1,r1,p1,q1,c2,r2,p2,q2⟩ (U a n c),O I 4] w fun e w'=>e=Q (E (D4 R R J R R R R R ⟨2,o,x,s,b,f,c1,r1,p1,q1,c2,r2,p2,q2⟩ n))/\Gr w w'):=B _ n a c;have GA:Hid (∀a t,Gr w (w.alloc (.cells a t))):=fun a t=>(Gr.refl w).alloc _ _
 have HU:=h_ (j7L s hs);generalize validD s.data.toList=aj at *;clear hs;generalize D4 R R J R R R R R ⟨2,o,x,s,b,f,c1,r1,p1,q1,c2,r2,p2,q2⟩ n=Z at *;go_enter func167,ntmps167;go_wp2_with fail;refine(HU.o _).mono ?_;rintro e w1 ⟨rfl,rfl⟩;go_wp2_with fail;refine(HB.o _).mono ?_;rintro e w2 ⟨rfl,hg2⟩;have G2:=h_ ((GA.o _ _).trans hg2);have hcell:=hg2.ext.cell;clear hg2 HB;cases Z
 ·go_wp2_with fail;go_ret;exact⟨j4 (by simp),G2.o⟩
 ·go_wp2_with fail;all_goals
   go_ret;refine⟨j4 ?_,G2.o⟩;clear hcell G2 GA
   (try simp_all) <;> (try (rw[Bool.eq_iff_iff];simp)) <;> (try omega)
theorem jB1 (o:Int)(x:Nat)(s:ByteArray)(b:Bool)(f c1 r1:Int)(p1 q1:Bool)(c2 r2:Int)(p2 q2:Bool)(n:Nat)(a:Option Addr)(c:Nat)(w:World)(B:O7 8 R R R J R R R R):
 Calls prog 167 #[Hd.val ⟨3,o,x,s,b,f,c1,r1,p1,q1,c2,r2,p2,q2⟩ (U a n c)] w fun e w'=>e=Q (E (D4 R R R J R R R R ⟨3,o,x,s,b,f,c1,r1,p1,q1,c2,r2,p2,q2⟩ n))/\Gr w w':=by
 have HB:Hid (∀w,Calls prog 181 #[Hd.val ⟨3,o,x,s,b,f,c1,r1,p1,q1,c2,r2,p2,q2⟩ (U a n c),O I 8] w fun e w'=>e=Q (E (D4 R R R J R R R R ⟨3,o,x,s,b,f,c1,r1,p1,q1,c2,r2,p2,q2⟩ n))/\Gr w w'):=B _ n a c;have GA:Hid (∀a t,Gr w (w.alloc (.cells a t))):=fun a t=>(Gr.refl w).alloc _ _
 generalize D4 R R R J R R R R ⟨3,o,x,s,b,f,c1,r1,p1,q1,c2,r2,p2,q2⟩ n=Z at *;go_enter func167,ntmps167;go_wp2_with fail;refine(HB.o _).mono ?_;rintro e w2 ⟨rfl,hg2⟩;have G2:=h_ ((GA.o _ _).trans hg2);have hcell:=hg2.ext.cell;clear hg2 HB;cases Z
 ·go_wp2_with fail;go_ret;exact⟨j4 (by simp),G2.o⟩
 ·go_wp2_with fail;all_goals
   go_ret;refine⟨j4 ?_,G2.o⟩;clear hcell G2 GA
   (try simp_all) <;> (try (rw[Bool.eq_iff_iff];simp)) <;> (try omega)
theorem jB2 (o:Int)(x:Nat)(s:ByteArray)(b:Bool)(f c1 r1:Int)(p1 q1:Bool)(c2 r2:Int)(p2 q2:Bool)(n:Nat)(a:Option Addr)(c:Nat)(w:World)(B:O7 16 R R R R J R R R):
 Calls prog 167 #[Hd.val ⟨4,o,x,s,b,f,c1,r1,p1,q1,c2,r2,p2,q2⟩ (U a n c)] w fun e w'=>e=Q (E (D4 R R R R J R R R ⟨4,o,x,s,b,f,c1,r1,p1,q1,c2,r2,p2,q2⟩ n&&decide (1<=f)&&decide (f<=5)))/\Gr w w':=by
 have HB:Hid (∀w,Calls prog 181 #[Hd.val ⟨4,o,x,s,b,f,c1,r1,p1,q1,c2,r2,p2,q2⟩ (U a n c),O I 16] w fun e w'=>e=Q (E (D4 R R R R J R R R ⟨4,o,x,s,b,f,c1,r1,p1,q1,c2,r2,p2,q2⟩ n))/\Gr w w'):=B _ n a c;have GA:Hid (∀a t,Gr w (w.alloc (.cells a t))):=fun a t=>(Gr.refl w).alloc _ _
 generalize D4 R R R R J R R R ⟨4,o,x,s,b,f,c1,r1,p1,q1,c2,r2,p2,q2⟩ n=Z at *;go_enter func167,ntmps167;go_wp2_with fail;refine(HB.o _).mono ?_;rintro e w2 ⟨rfl,hg2⟩;have G2:=h_ ((GA.o _ _).trans hg2);have hcell:=hg2.ext.cell;clear hg2 HB;cases Z
 ·go_wp2_with fail;go_ret;exact⟨j4 (by simp),G2.o⟩
 ·go_wp2_with fail;all_goals
   go_ret;refine⟨j4 ?_,G2.o⟩;clear hcell G2 GA
   (try simp_all) <;> (try (rw[Bool.eq_iff_iff];simp)) <;> (try omega)
theorem jB3 (o:Int)(x:Nat)(s:ByteArray)(b:Bool)(f c1 r1:Int)(p1 q1:Bool)(c2 r2:Int)(p2 q2:Bool)(n:Nat)(a:Option Addr)(c:Nat)(w:World)(B:O7 32 R R R R R J R R):
 Calls prog 167 #[Hd.val ⟨5,o,x,s,b,f,c1,r1,p1,q1,c2,r2,p2,q2⟩ (U a n c)] w fun e w'=>e=Q (E (D4 R R R R R J R R ⟨5,o,x,s,b,f,c1,r1,p1,q1,c2,r2,p2,q2⟩ n))/\Gr w w':=by
 have HB:Hid (∀w,Calls prog 181 #[Hd.val ⟨5,o,x,s,b,f,c1,r1,p1,q1,c2,r2,p2,q2⟩ (U a n c),O I 32] w fun e w'=>e=Q (E (D4 R R R R R J R R ⟨5,o,x,s,b,f,c1,r1,p1,q1,c2,r2,p2,q2⟩ n))/\Gr w w'):=B _ n a c;have GA:Hid (∀a t,Gr w (w.alloc (.cells a t))):=fun a t=>(Gr.refl w).alloc _ _
 generalize D4 R R R R R J R R ⟨5,o,x,s,b,f,c1,r1,p1,q1,c2,r2,p2,q2⟩ n=Z at *;go_enter func167,ntmps167;go_wp2_with fail;refine(HB.o _).mono ?_;rintro e w2 ⟨rfl,hg2⟩;have G2:=h_ ((GA.o _ _).trans hg2);have hcell:=hg2.ext.cell;clear hg2 HB;cases Z
 ·go_wp2_with fail;go_ret;exact⟨j4 (by simp),G2.o⟩
 ·go_wp2_with fail;all_goals
   go_ret;refine⟨j4 ?_,G2.o⟩;clear hcell G2 GA
   (try simp_all) <;> (try (rw[Bool.eq_iff_iff];simp)) <;> (try omega)
theorem jB4 (o:Int)(x:Nat)(s:ByteArray)(b:Bool)(f c1 r1:Int)(p1 q1:Bool)(c2 r2:Int)(p2 q2:Bool)(n:Nat)(a:Option Addr)(c:Nat)(w:World)(B:O7 96 R R R R R J J R):
 Calls prog 167 #[Hd.val ⟨6,o,x,s,b,f,c1,r1,p1,q1,c2,r2,p2,q2⟩ (U a n c)] w fun e w'=>e=Q (E (D4 R R R R R J J R ⟨6,o,x,s,b,f,c1,r1,p1,q1,c2,r2,p2,q2⟩ n))/\Gr w w':=by
 have HB:Hid (∀w,Calls prog 181 #[Hd.val ⟨6,o,x,s,b,f,c1,r1,p1,q1,c2,r2,p2,q2⟩ (U a n c),O I 96] w fun e w'=>e=Q (E (D4 R R R R R J J R ⟨6,o,x,s,b,f,c1,r1,p1,q1,c2,r2,p2,q2⟩ n))/\Gr w w'):=B _ n a c;have GA:Hid (∀a t,Gr w (w.alloc (.cells a t))):=fun a t=>(Gr.refl w).alloc _ _
 generalize D4 R R R R R J J R ⟨6,o,x,s,b,f,c1,r1,p1,q1,c2,r2,p2,q2⟩ n=Z at *;go_enter func167,ntmps167;go_wp2_with fail;refine(HB.o _).mono ?_;rintro e w2 ⟨rfl,hg2⟩;have G2:=h_ ((GA.o _ _).trans hg2);have hcell:=hg2.ext.cell;clear hg2 HB;cases Z
 ·go_wp2_with fail;go_ret;exact⟨j4 (by simp),G2.o⟩
 ·go_wp2_with fail;all_goals
   go_ret;refine⟨j4 ?_,G2.o⟩;clear hcell G2 GA
   (try simp_all) <;> (try (rw[Bool.eq_iff_iff];simp)) <;> (try omega)
theorem jB5 (o:Int)(x:Nat)(s:ByteArray)(b:Bool)(f c1 r1:Int)(p1 q1:Bool)(c2 r2:Int)(p2 q2:Bool)(n:Nat)(a:Option Addr)(c:Nat)(w:World)(B:O7 129 J R R R R R R J):
 Calls prog 167 #[Hd.val ⟨7,o,x,s,b,f,c1,r1,p1,q1,c2,r2,p2,q2⟩ (U a n c)] w fun e w'=>e=Q (E (D4 J R R R R R R J ⟨7,o,x,s,b,f,c1,r1,p1,q1,c2,r2,p2,q2⟩ n&&decide (1<=o)&&decide (o<=3)&&n==1))/\Gr w w':=by
 have HB:Hid (∀w,Calls prog 181 #[Hd.val ⟨7,o,x,s,b,f,c1,r1,p1,q1,c2,r2,p2,q2⟩ (U a n c),O I 129] w fun e w'=>e=Q (E (D4 J R R R R R R J ⟨7,o,x,s,b,f,c1,r1,p1,q1,c2,r2,p2,q2⟩ n))/\Gr w w'):=B _ n a c;have GA:Hid (∀a t,Gr w (w.alloc (.cells a t))):=fun a t=>(Gr.refl w).alloc _ _
 generalize D4 J R R R R R R J ⟨7,o,x,s,b,f,c1,r1,p1,q1,c2,r2,p2,q2⟩ n=Z at *;go_enter func167,ntmps167;go_wp2_with fail;refine(HB.o _).mono ?_;rintro e w2 ⟨rfl,hg2⟩;have G2:=h_ ((GA.o _ _).trans hg2);have hcell:=hg2.ext.cell;clear hg2 HB;cases Z
 ·go_wp2_with fail;go_ret;exact⟨j4 (by simp),G2.o⟩
 ·go_wp2_with fail;all_goals
   go_ret;refine⟨j4 ?_,G2.o⟩;clear hcell G2 GA
   (try simp_all) <;> (try (rw[Bool.eq_iff_iff];simp)) <;> (try omega)
theorem jB6 (o:Int)(x:Nat)(s:ByteArray)(b:Bool)(f c1 r1:Int)(p1 q1:Bool)(c2 r2:Int)(p2 q2:Bool)(n:Nat)(a:Option Addr)(c:Nat)(w:World)(B:O7 129 J R R R R R R J):
 Calls prog 167 #[Hd.val ⟨8,o,x,s,b,f,c1,r1,p1,q1,c2,r2,p2,q2⟩ (U a n c)] w fun e w'=>e=Q (E (D4 J R R R R R R J ⟨8,o,x,s,b,f,c1,r1,p1,q1,c2,r2,p2,q2⟩ n&&decide (4<=o)&&decide (o<=15)&&n==2))/\Gr w w':=by
 have HB:Hid (∀w,Calls prog 181 #[Hd.val ⟨8,o,x,s,b,f,c1,r1,p1,q1,c2,r2,p2,q2⟩ (U a n c),O I 129] w fun e w'=>e=Q (E (D4 J R R R R R R J ⟨8,o,x,s,b,f,c1,r1,p1,q1,c2,r2,p2,q2⟩ n))/\Gr w w'):=B _ n a c;have GA:Hid (∀a t,Gr w (w.alloc (.cells a t))):=fun a t=>(Gr.refl w).alloc _ _
 generalize D4 J R R R R R R J ⟨8,o,x,s,b,f,c1,r1,p1,q1,c2,r2,p2,q2⟩ n=Z at *;go_enter func167,ntmps167;go_wp2_with fail;refine(HB.o _).mono ?_;rintro e w2 ⟨rfl,hg2⟩;have G2:=h_ ((GA.o _ _).trans hg2);have hcell:=hg2.ext.cell;clear hg2 HB;cases Z
 ·go_wp2_with fail;go_ret;exact⟨j4 (by simp),G2.o⟩
 ·go_wp2_with fail;all_goals
   go_ret;refine⟨j4 ?_,G2.o⟩;clear hcell G2 GA
   (try simp_all) <;> (try (rw[Bool.eq_iff_iff];simp)) <;> (try omega)
theorem jB7 (o:Int)(x:Nat)(s:ByteArray)(b:Bool)(f c1 r1:Int)(p1 q1:Bool)(c2 r2:Int)(p2 q2:Bool)(n:Nat)(a:Option Addr)(c:Nat)(w:World)(B:O7 132 R R J R R R R J):
 Calls prog 167 #[Hd.val ⟨9,o,x,s,b,f,c1,r1,p1,q1,c2,r2,p2,q2⟩ (U a n c)] w fun e w'=>e=Q (E (D4 R R J R R R R J ⟨9,o,x,s,b,f,c1,r1,p1,q1,c2,r2,p2,q2⟩ n))/\Gr w w':=by
 have HB:Hid (∀w,Calls prog 181 #[Hd.val ⟨9,o,x,s,b,f,c1,r1,p1,q1,c2,r2,p2,q2⟩ (U a n c),O I 132] w fun e w'=>e=Q (E (D4 R R J R R R R J ⟨9,o,x,s,b,f,c1,r1,p1,q1,c2,r2,p2,q2⟩ n))/\Gr w w'):=B _ n a c;have GA:Hid (∀a t,Gr w (w.alloc (.cells a t))):=fun a t=>(Gr.refl w).alloc _ _
 generalize D4 R R J R R R R J ⟨9,o,x,s,b,f,c1,r1,p1,q1,c2,r2,p2,q2⟩ n=Z at *;go_enter func167,ntmps167;go_wp2_with fail;refine(HB.o _).mono ?_;rintro e w2 ⟨rfl,hg2⟩;have G2:=h_ ((GA.o _ _).trans hg2);have hcell:=hg2.ext.cell;clear hg2 HB;cases Z
 ·go_wp2_with fail;go_ret;exact⟨j4 (by simp),G2.o⟩
 ·go_wp2_with fail;all_goals
   go_ret;refine⟨j4 ?_,G2.o⟩;clear hcell G2 GA
   (try simp_all) <;> (try (rw[Bool.eq_iff_iff];simp)) <;> (try omega)
theorem jAy (h:Hd)(n:Nat)(a:Option Addr)(c:Nat)(w:World)(h0:h.k<1∨9<h.k):
 Calls prog 167 #[h.val (U a n c)] w fun e w'=>e=Q (E R)/\Gr w w':=by
 have GA:Hid (∀a t,Gr w (w.alloc (.cells a t))):=fun a t=>(Gr.refl w).alloc _ _
 obtain⟨k,o,x,s,b,f,c1,r1,p1,q1,c2,r2,p2,q2⟩:=h;simp only at *;have e1:(k==1)=R:=by simp;omega
 have e2:(k==2)=R:=by simp;omega
 have e3:(k==3)=R:=by simp;omega
 have e4:(k==4)=R:=by simp;omega
 have e5:(k==5)=R:=by simp;omega
 have e6:(k==6)=R:=by simp;omega
 have e7:(k==7)=R:=by simp;omega
 have e8:(k==8)=R:=by simp;omega
 have e9:(k==9)=R:=by simp;omega
 clear h0;go_enter func167,ntmps167;go_wp2_with fail;go_ret;exact⟨rfl,GA.o _ _⟩
structure j14:Prop where
 m2:O7 2 R J R R R R R R
 m4:O7 4 R R J R R R R R
 m8:O7 8 R R R J R R R R
 m16:O7 16 R R R R J R R R
 m32:O7 32 R R R R R J R R
 m96:O7 96 R R R R R J J R
 m129:O7 129 J R R R R R R J
 m132:O7 132 R R J R R R R J
theorem jAx (h:Hd)(n:Nat)(a:Option Addr)(c:Nat)(hx:h.x<18446744073709551616)(hs:h.s.size<=140737488355328)(w:World)(B:j14):
 Calls prog 167 #[h.val (U a n c)] w fun e w'=>e=Q (E (wm h n))/\Gr w w':=by
 rw[<- jB9];by_cases h0:h.k<1∨9<h.k
 ·have:=jAy h n a c w h0;have e:j21 h n (O9 h.x) (validD h.s.data.toList)=R:=by
   unfold j21;rw[if_neg (by omega),if_neg (by omega),if_neg (by omega),if_neg (by omega),if_neg (by omega),if_neg (by omega),if_neg (by omega),if_neg (by omega),if_neg (by omega)]
  rw[e];exact this
 ·obtain⟨k,o,x,s,b,f,c1,r1,p1,q1,c2,r2,p2,q2⟩:=h;simp only at h0 hx hs;have hk:k=1∨k=2∨k=3∨k=4∨k=5∨k=6∨k=7∨k=8∨k=9:=by omega
  rcases hk with rfl|rfl|rfl|rfl|rfl|rfl|rfl|rfl|rfl
  ·exact jAz o x s b f c1 r1 p1 q1 c2 r2 p2 q2 n a c hx w B.m2
  ·exact jB0 o x s b f c1 r1 p1 q1 c2 r2 p2 q2 n a c w hs B.m4
  ·exact jB1 o x s b f c1 r1 p1 q1 c2 r2 p2 q2 n a c w B.m8
  ·exact jB2 o x s b f c1 r1 p1 q1 c2 r2 p2 q2 n a c w B.m16
  ·exact jB3 o x s b f c1 r1 p1 q1 c2 r2 p2 q2 n a c w B.m32
  ·exact jB4 o x s b f c1 r1 p1 q1 c2 r2 p2 q2 n a c w B.m96
  ·exact jB5 o x s b f c1 r1 p1 q1 c2 r2 p2 q2 n a c w B.m129
  ·exact jB6 o x s b f c1 r1 p1 q1 c2 r2 p2 q2 n a c w B.m129
  ·exact jB7 o x s b f c1 r1 p1 q1 c2 r2 p2 q2 n a c w B.m132
end Go.Proofs.YtecjfnkakodebaaGreatDoor
