/-The document's own (quadrilleref12): a node's own error. -/
import Derived.Test.YtecjfnkakodebaaGreatDoorRmEm
open Go.Proofs.Tryz
open Go.Value renaming int->O,bool->E,slice->U,agg->T
open Go.IntKind renaming i64->I
open Bool renaming false->R,true->J
open Go.Ending renaming returned->Q
set_option maxRecDepth 20000
set_option maxHeartbeats 16000000
namespace Go.Proofs.YtecjfnkakodebaaGreatDoor
open Go.RowKit Go.Lib
theorem jEV (c r:Int):vA c r c r=vC c r:=by unfold vA;simp
theorem jDa (h:Hd)(n:Nat)(a:Option Addr)(c:Nat)(inside:Bool)(hx:h.x<18446744073709551616)(hs:h.s.size<=140737488355328)(w:World)(B:j14):
 Calls prog 150 #[h.val (U a n c),E inside] w fun e w'=>e=Q (O I (ownE h n inside))/\Gr w w':=by
 have H1:=h_ fun w=>jAx h n a c hx hs w B
 have H2:=h_ (jDJ h.s);have H3:=h_ (j0t h.c1 h.r1);have H4:Hid (∀w,Calls prog 73 #[T #[O I h.c1,O I h.r1,O I h.c2,O I h.r2]] w fun e w'=>e=Q (E (vA h.c1 h.r1 h.c2 h.r2))/\Gr w w'):=fun w=>(Q3 h.c1 h.r1 h.c2 h.r2 w).mono fun e w' ⟨q1,q2⟩=>⟨q1,by rw[q2];exact(((Gr.refl w).alloc _ _).alloc _ _).alloc _ _⟩
 have hE:Hid (ownE h n inside=if wm h n=R then 1 else if h.k=5 then (if vC h.c1 h.r1=J then 0 else 20) else if h.k=6 then (if vA h.c1 h.r1 h.c2 h.r2=J then (if inside=J then 0 else 31) else 20) else if h.k=9 then (if (known h.s).2.2=R then 21 else if (n:Int)<(known h.s).1∨(known h.s).2.1<n then 22 else 0) else 0):=by
  show _=_;unfold ownE j06;rw[jEV]
 have GA:Hid (∀a t,Gr w (w.alloc (.cells a t))):=fun a t=>(Gr.refl w).alloc _ _
 generalize ownE h n inside=ae at *;generalize wm h n=M at *;generalize vC h.c1 h.r1=VC1 at *;generalize vA h.c1 h.r1 h.c2 h.r2=VA1 at *;generalize known h.s=kn at *;obtain⟨kl,km,kb⟩:=kn;obtain⟨k,o,x,s,b,f,c1,r1,p1,q1,c2,r2,p2,q2⟩:=h;simp only at *;clear hx hs B;go_enter func150,ntmps150;go_wp2_with fail;refine(H1.o _).mono ?_;rintro e w1 ⟨rfl,hg1⟩;have hcell:=hg1.ext.cell;have GG1:=h_ hg1;clear hg1 H1;go_wp2_with (go_at_call 168;refine(H2.o _).mono ?_;rintro e w' ⟨rfl,rfl⟩);refine(H3.o _).mono ?_;rintro e w2 ⟨rfl,hg2⟩;have GG2:=h_ (GG1.o.trans hg2);have hcell2:=(GG1.o.trans hg2).ext.cell;clear hg2 H3 H2 hcell GG1;go_wp2_with fail;refine(H4.o _).mono ?_;rintro e w3 ⟨rfl,hg3⟩;have G3:=h_ ((GA.o _ _).trans (GG2.o.trans hg3));have hcell:=(GG2.o.trans hg3).ext.cell;clear hg3 H4 hcell2 GG2 GA;cases M
 ·go_wp21;go_ret;exact⟨rInt (by rw[hE.o];rfl),G3.o⟩
 by_cases k5:k=5
 ·subst k5;cases VC1
  all_goals
   go_wp21;go_ret;exact⟨rInt (by rw[hE.o];rfl),G3.o⟩
 by_cases k6:k=6
 ·subst k6;cases VA1
  ·go_wp21;go_ret;exact⟨rInt (by rw[hE.o];rfl),G3.o⟩
  ·cases inside
   all_goals
    go_wp21;go_ret;exact⟨rInt (by rw[hE.o];rfl),G3.o⟩
 have e5:(k==5)=R:=by simpa using k5
 have e6:(k==6)=R:=by simpa using k6
 by_cases k9:k=9
 ·subst k9;cases kb
  ·go_wp21;go_ret;exact⟨rInt (by rw[hE.o];rfl),G3.o⟩
  ·by_cases l1:(n:Int)<kl
   ·have HE:Hid (ae=22):=(by show _=_;rw[hE.o];simp[l1]);go_wp21;go_ret;exact⟨rInt HE.o.symm,G3.o⟩
   ·by_cases l2:km<(n:Int)
    ·have HE:Hid (ae=22):=(by show _=_;rw[hE.o];simp[l2]);go_wp21;go_ret;exact⟨rInt HE.o.symm,G3.o⟩
    ·have HE:Hid (ae=0):=(by show _=_;rw[hE.o];simp[l1,l2]);go_wp21;go_ret;exact⟨rInt HE.o.symm,G3.o⟩
 ·have e9:(k==9)=R:=by simpa using k9
  have HE:Hid (ae=0):=by show _=_;rw[hE.o];simp[k5,k6,k9]
  go_wp21;go_ret;exact⟨rInt HE.o.symm,G3.o⟩
end Go.Proofs.YtecjfnkakodebaaGreatDoor
