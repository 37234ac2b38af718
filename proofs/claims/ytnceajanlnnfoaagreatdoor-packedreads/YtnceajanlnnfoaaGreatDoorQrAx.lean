/-Cells and areas: plain functions. -/
import Derived.Deep.RegionWith
import Derived.Deep.MidRow
import Derived.Deep.RegionHeld3
import Derived.Maps.OwnSet
import Derived.Maps.RangeWalk
import Derived.Maps.Ext
import Derived.DeepKeys4
import Derived.ArgAppend
import Derived.Test.YtnceajanlnnfoaaGreatDoorQrPka
import Derived.Shelf.Strings.BuilderK
set_option maxHeartbeats 2000000
set_option maxRecDepth 100000
namespace Go.Proofs.YtnceajanlnnfoaaGreatDoor
section
open Go.RowKit
def vC (c r:Int):Bool:=decide (1<=c)&&decide (c<=256)&&decide (1<=r)&&decide (r<=4096)
def cmpI (a b:Int):Int:=if a<b then -1 else if b<a then 1 else 0
def ordC (c r d s:Int):Int:=if cmpI r s=0 then cmpI c d else cmpI r s
def vA (c r d s:Int):Bool:=vC c r&&vC d s&&decide (c<=d)&&decide (r<=s)
def inA (c r d s x y:Int):Bool:=vA c r d s&&decide (c<=x)&&decide (x<=d)&&decide (r<=y)&&decide (y<=s)
def j31 (c r d s:Int):Int:=if vA c r d s then (d-c+1)*(s-r+1) else 0
theorem Z3 (c r:Int):vC c r=true↔1<=c/\c<=256/\1<=r/\r<=4096:=by
 simp[vC,Bool.and_eq_true,and_assoc]
theorem jEe (c r d s:Int):vA c r d s=true->1<=c/\c<=d/\d<=256/\1<=r/\r<=s/\s<=4096:=by
 simp only[vA,vC,Bool.and_eq_true,decide_eq_true_eq];omega
theorem j6Z (c r d s:Int):vA c r d s=true↔1<=c/\c<=d/\d<=256/\1<=r/\r<=s/\s<=4096:=by
 simp only[vA,vC,Bool.and_eq_true,decide_eq_true_eq];omega
theorem jAr (a b:Int)(h0:0<=a)(h1:a<=10000)(k0:0<=b)(k1:b<=10000):0<=a*b/\a*b<=100000000:=by
 refine⟨Int.mul_nonneg h0 k0,?_⟩;have:=Int.mul_le_mul h1 k1 k0 (by decide);omega
theorem j2q (c r:Int)(w:World):
 Calls Tryz.prog 63 #[.agg #[.int .i64 c,.int .i64 r]] w fun e w'=>e=.returned (.bool (vC c r))/\w'=w.alloc (.cells #[.int .i64 c,.int .i64 r] 57):=by
 have hV:Hid (vC c r=(decide (1<=c)&&decide (c<=256)&&decide (1<=r)&&decide (r<=4096))):=rfl;generalize vC c r=V at *;go_enter Tryz.func63,Tryz.ntmps63;go_wp2;all_goals
  go_ret;refine⟨j4 ?_,rfl⟩;rw[hV.out,Bool.eq_iff_iff];simp only[Bool.and_eq_true,decide_eq_true_eq,Bool.false_eq_true,false_iff];omega
theorem j5P (c r:Int)(w:World):
 Calls Tryz.prog 63 #[.agg #[.int .i64 c,.int .i64 r]] w fun e w'=>e=.returned (.bool (vC c r))/\Gr w w':=
 (j2q c r w).mono fun e w' h=>⟨h.1,by rw[h.2];exact(Gr.refl w).alloc _ _⟩
theorem j5a (a b:Int)(w:World):
 Calls Tryz.prog 143 #[.int .i64 a,.int .i64 b] w fun e w'=>e=.returned (.int .i64 (cmpI a b))/\w'=w:=by
 have hV:Hid (cmpI a b=if a<b then -1 else if b<a then 1 else 0):=rfl;generalize cmpI a b=V at *;go_enter Tryz.func143,Tryz.ntmps143;go_wp2;all_goals
  go_ret;refine⟨rInt ?_,rfl⟩;rw[hV.out];repeat' split
  all_goals omega
theorem j5K (c r d s:Int)(w:World):
 Calls Tryz.prog 88 #[.agg #[.int .i64 c,.int .i64 r],.agg #[.int .i64 d,.int .i64 s]] w fun e w'=>e=.returned (.int .i64 (ordC c r d s))/\Gr w w':=by
 have G1:Hid (Gr w ((w.alloc (.cells #[.int .i64 c,.int .i64 r] 57)).alloc (.cells #[.int .i64 d,.int .i64 s] 57))):=((Gr.refl w).alloc _ _).alloc _ _;have H1:Hid (∀w,Calls Tryz.prog 143 #[.int .i64 r,.int .i64 s] w fun e w'=>e=.returned (.int .i64 (cmpI r s))/\w'=w):=j5a r s;have H2:Hid (∀w,Calls Tryz.prog 143 #[.int .i64 c,.int .i64 d] w fun e w'=>e=.returned (.int .i64 (cmpI c d))/\w'=w):=j5a c d;have hV:Hid (ordC c r d s=if cmpI r s=0 then cmpI c d else cmpI r s):=rfl;generalize ordC c r d s=V at *;generalize cmpI r s=p at *;generalize cmpI c d=q at *;go_enter Tryz.func88,Tryz.ntmps88;go_wp2_with (first|(go_at_call_of 143 (Value.int .i64 r);refine(H1.out _).mono ?_;rintro e w' ⟨rfl,rfl⟩)|(go_at_call_of 143 (Value.int .i64 c);refine(H2.out _).mono ?_;rintro e w' ⟨rfl,rfl⟩))
 all_goals
  rename_i hp
  go_ret;refine⟨rInt ?_,G1.out⟩;rw[hV.out];simp only[bne_iff_ne,ne_eq,bne_eq_false_iff_eq] at hp;simp only[hp,if_true,if_false]
theorem jCG (c r d s:Int)(w:World):
 Calls Tryz.prog 213 #[.agg #[.int .i64 c,.int .i64 r,.int .i64 d,.int .i64 s]] w fun e w'=>e=.returned (.bool (vA c r d s))/\w'=((w.alloc (.cells #[.int .i64 c,.int .i64 r,.int .i64 d,.int .i64 s] 134)).alloc (.cells #[.int .i64 c,.int .i64 r] 57)).alloc (.cells #[.int .i64 d,.int .i64 s] 57):=by
 have H1:Hid (∀w,Calls Tryz.prog 63 #[.agg #[.int .i64 c,.int .i64 r]] w fun e w'=>e=.returned (.bool (vC c r))/\w'=w.alloc (.cells #[.int .i64 c,.int .i64 r] 57)):=j2q c r;have H2:Hid (∀w,Calls Tryz.prog 63 #[.agg #[.int .i64 d,.int .i64 s]] w fun e w'=>e=.returned (.bool (vC d s))/\w'=w.alloc (.cells #[.int .i64 d,.int .i64 s] 57)):=j2q d s;have hV:Hid (vA c r d s=(vC c r&&vC d s&&decide (c<=d)&&decide (r<=s))):=rfl;generalize vA c r d s=V at *;generalize vC c r=p at *;generalize vC d s=q at *;go_enter Tryz.func213,Tryz.ntmps213;go_wp2_with fail;refine(H1.out _).mono ?_;rintro e w' ⟨rfl,rfl⟩;go_wp2_with fail;refine(H2.out _).mono ?_;rintro e w' ⟨rfl,rfl⟩;go_wp2_with fail;all_goals
  go_ret;refine⟨j4 ?_,rfl⟩;rw[hV.out];clear H1 H2 hV;cases p <;> cases q <;> (try simp_all) <;> (try omega)
theorem j0B (c r:Int)(w:World):
 Calls Tryz.prog 58 #[.agg #[.int .i64 c,.int .i64 r]] w fun e w'=>e=.returned (.bool (vC c r))/\w'=w.alloc (.cells #[.int .i64 c,.int .i64 r] 57):=by
 have hV:Hid (vC c r=(decide (1<=c)&&decide (c<=256)&&decide (1<=r)&&decide (r<=4096))):=rfl;generalize vC c r=V at *;go_enter Tryz.func58,Tryz.ntmps58;go_wp2;all_goals
  go_ret;refine⟨j4 ?_,rfl⟩;rw[hV.out,Bool.eq_iff_iff];simp only[Bool.and_eq_true,decide_eq_true_eq,Bool.false_eq_true,false_iff];omega
theorem j2m (c r d s:Int)(w:World):
 Calls Tryz.prog 208 #[.agg #[.int .i64 c,.int .i64 r,.int .i64 d,.int .i64 s]] w fun e w'=>e=.returned (.bool (vA c r d s))/\Gr w w':=by
 have H1:Hid (∀w,Calls Tryz.prog 58 #[.agg #[.int .i64 c,.int .i64 r]] w fun e w'=>e=.returned (.bool (vC c r))/\w'=w.alloc (.cells #[.int .i64 c,.int .i64 r] 57)):=j0B c r;have H2:Hid (∀w,Calls Tryz.prog 58 #[.agg #[.int .i64 d,.int .i64 s]] w fun e w'=>e=.returned (.bool (vC d s))/\w'=w.alloc (.cells #[.int .i64 d,.int .i64 s] 57)):=j0B d s;have hV:Hid (vA c r d s=(vC c r&&vC d s&&decide (c<=d)&&decide (r<=s))):=rfl;have G2:Hid (∀a b t u,Gr w ((w.alloc (.cells a t)).alloc (.cells b u))):=fun a b t u=>((Gr.refl w).alloc _ _).alloc _ _
 have G3:Hid (∀a b d t u v,Gr w (((w.alloc (.cells a t)).alloc (.cells b u)).alloc (.cells d v))):=fun a b d t u v=>(((Gr.refl w).alloc _ _).alloc _ _).alloc _ _
 generalize vA c r d s=V at *;generalize vC c r=p at *;generalize vC d s=q at *;cases p
 ·go_enter Tryz.func208,Tryz.ntmps208;go_wp2_with fail;refine(H1.out _).mono ?_;rintro e w' ⟨rfl,rfl⟩;go_wp2_with fail;go_ret;exact⟨j4 hV.out.symm,G2.out _ _ _ _⟩
 ·cases q
  ·go_enter Tryz.func208,Tryz.ntmps208;go_wp2_with fail;refine(H1.out _).mono ?_;rintro e w' ⟨rfl,rfl⟩;go_wp2_with fail;refine(H2.out _).mono ?_;rintro e w' ⟨rfl,rfl⟩;go_wp2_with fail;go_ret;exact⟨j4 hV.out.symm,G3.out _ _ _ _ _ _⟩
  ·go_enter Tryz.func208,Tryz.ntmps208;go_wp2_with fail;refine(H1.out _).mono ?_;rintro e w' ⟨rfl,rfl⟩;go_wp2_with fail;refine(H2.out _).mono ?_;rintro e w' ⟨rfl,rfl⟩;go_wp2_with fail;all_goals
    go_ret;refine⟨j4 ?_,G3.out _ _ _ _ _ _⟩;rw[hV.out];clear H1 H2 hV G2 G3
    (try simp_all) <;> (try omega)
theorem jBd (c r d s x y:Int)(w:World):
 Calls Tryz.prog 191 #[.agg #[.int .i64 c,.int .i64 r,.int .i64 d,.int .i64 s],.agg #[.int .i64 x,.int .i64 y]] w fun e w'=>e=.returned (.bool (inA c r d s x y))/\Gr w w':=by
 have H1:Hid (∀w,Calls Tryz.prog 208 #[.agg #[.int .i64 c,.int .i64 r,.int .i64 d,.int .i64 s]] w fun e w'=>e=.returned (.bool (vA c r d s))/\Gr w w'):=j2m c r d s;have G:Hid (Gr w ((w.alloc (.cells #[.int .i64 c,.int .i64 r,.int .i64 d,.int .i64 s] 134)).alloc (.cells #[.int .i64 x,.int .i64 y] 57))):=((Gr.refl w).alloc _ _).alloc _ _;have hV:Hid (inA c r d s x y=(vA c r d s&&decide (c<=x)&&decide (x<=d)&&decide (r<=y)&&decide (y<=s))):=rfl;generalize inA c r d s x y=V at *;generalize vA c r d s=p at *;go_enter Tryz.func191,Tryz.ntmps191;go_wp2_with fail;refine(H1.out _).mono ?_;rintro e w1 ⟨rfl,hg⟩;have hcell:=hg.ext.cell;have G1:Hid (Gr w w1):=G.out.trans hg;clear hg G;go_wp2_with fail;all_goals
  go_ret;refine⟨j4 ?_,G1.out⟩;rw[hV.out];clear H1 hV G1 hcell;cases p <;> (try simp_all) <;> (try omega)
theorem jBf (c r d s:Int)(w:World):
 Calls Tryz.prog 189 #[.agg #[.int .i64 c,.int .i64 r,.int .i64 d,.int .i64 s]] w fun e w'=>e=.returned (.int .i64 (j31 c r d s))/\Gr w w':=by
 have H1:Hid (∀w,Calls Tryz.prog 208 #[.agg #[.int .i64 c,.int .i64 r,.int .i64 d,.int .i64 s]] w fun e w'=>e=.returned (.bool (vA c r d s))/\Gr w w'):=j2m c r d s;have G:Hid (Gr w (w.alloc (.cells #[.int .i64 c,.int .i64 r,.int .i64 d,.int .i64 s] 134))):=(Gr.refl w).alloc _ _;have hV:Hid (j31 c r d s=if vA c r d s then (d-c+1)*(s-r+1) else 0):=rfl;have hb:=jEe c r d s;generalize j31 c r d s=V at *;generalize vA c r d s=p at *;cases p
 ·clear hb;go_enter Tryz.func189,Tryz.ntmps189;go_wp2_with fail;refine(H1.out _).mono ?_;rintro e w1 ⟨rfl,hg⟩;have G1:Hid (Gr w w1):=G.out.trans hg;clear hg;go_wp2_with fail;go_ret;exact⟨rInt hV.out.symm,G1.out⟩
 ·obtain⟨h1,h2,h3,h4,h5,h6⟩:=hb rfl;obtain⟨m0,m1⟩:=jAr (d-c+1) (s-r+1) (by omega) (by omega) (by omega) (by omega);have hV':Hid ((d-c+1)*(s-r+1)=V):=hV.out.symm;clear hV hb;go_enter Tryz.func189,Tryz.ntmps189;go_wp2_with fail;refine(H1.out _).mono ?_;rintro e w1 ⟨rfl,hg⟩;have hcell:=hg.ext.cell;have G1:Hid (Gr w w1):=G.out.trans hg;clear hg;go_wp2_with fail;go_ret;exact⟨rInt hV'.out,G1.out⟩
def Has2 (w:World) (b:Nat) (x y:Value):Prop:=(w.cell? ⟨b,0,none⟩=some x/\w.cell? ⟨b,1,none⟩=some y)/\(w.frozen? ⟨b,0,none⟩=false/\w.frozen? ⟨b,1,none⟩=false)
theorem j2J (w:World)(x y:Value)(t:TypeId):Has2 (w.alloc (.cells #[x,y] t)) w.heap.size x y:=by
 refine⟨⟨?_,?_⟩,?_,?_⟩
 ·rw[World.cell?_alloc_at _ _ _ _ rfl];rfl
 ·rw[World.cell?_alloc_at _ _ _ _ rfl];rfl
 ·rw[frozen?_alloc_cells,j0Y]
 ·rw[frozen?_alloc_cells,j0Y]
theorem Has2.gr {w w':World}{b:Nat}{x y:Value}(h:Has2 w b x y)(g:Gr w w'):Has2 w' b x y:=by
 obtain⟨⟨h0,h1⟩,f0,f1⟩:=h;exact⟨⟨g.cell (G7 h0) h0,g.cell (G7 h1) h1⟩,by rw[g.froz,f0],by rw[g.froz,f1]⟩
structure Hd where
 k:Int
 o:Int
 x:Nat
 s:ByteArray
 b:Bool
 f:Int
 c1:Int
 r1:Int
 p1:Bool
 q1:Bool
 c2:Int
 r2:Int
 p2:Bool
 q2:Bool
inductive Nd where
 | mk (h:Hd) (ts:List Nd)
def Nd.hd:Nd->Hd
 | .mk h _=>h
def Nd.ts:Nd->List Nd
 | .mk _ ts=>ts
theorem Nd.eta (t:Nd):t=.mk t.hd t.ts:=by cases t;rfl
mutual
def Nd.size:Nd->Nat
 | .mk _ ts=>1+j5 ts
def j5:List Nd->Nat
 | []=>0
 | t::ts=>t.size+j5 ts
end
theorem j6E (a b:List Nd):j5 (a++b)=j5 a+j5 b:=by
 induction a with
 | nil=>simp[j5]
 | cons t ts ih=>rw[List.cons_append,j5,j5,ih,Nat.add_assoc]
theorem j0K (ts:List Nd)(i:Nat)(h:i<ts.length):j5 (ts.take (i+1))=j5 (ts.take i)+(ts[i]).size:=by
 rw[List.take_add_one,List.getElem?_eq_getElem h,j6E];simp[j5]
theorem j0L (ts:List Nd)(i:Nat):j5 (ts.take i)<=j5 ts:=by
 conv=>rhs;rw[<- List.take_append_drop i ts,j6E]
 exact Nat.le_add_right _ _
theorem J3 (t:Nd):1<=t.size:=by cases t;rw[Nd.size];omega
theorem O9 (ts:List Nd)(i:Nat)(h:i<ts.length):(ts[i]).size<=j5 ts:=by
 have:=j0K ts i h;have:=j0L ts (i+1);omega
theorem j07 (ts:List Nd):ts.length<=j5 ts:=by
 induction ts with
 | nil=>simp
 | cons t ts ih=>have:=J3 t;rw[j5,List.length_cons];omega
abbrev Hd.cells (h:Hd) (sl:Value):List Value:=[.int .i64 h.k,.int .i64 h.o,.float .f64 h.x,.string h.s,.bool h.b,.int .i64 h.f,.int .i64 h.c1,.int .i64 h.r1,.bool h.p1,.bool h.q1,.int .i64 h.c2,.int .i64 h.r2,.bool h.p2,.bool h.q2,sl]
abbrev Hd.val (h:Hd) (sl:Value):Value:=.agg #[.int .i64 h.k,.int .i64 h.o,.float .f64 h.x,.string h.s,.bool h.b,.int .i64 h.f,.int .i64 h.c1,.int .i64 h.r1,.bool h.p1,.bool h.q1,.int .i64 h.c2,.int .i64 h.r2,.bool h.p2,.bool h.q2,sl]
mutual
def NdIn (w:World) (F:Nat->Prop) (sl:Value):Nd->Prop
 | .mk _ ts=>∃(a:Option Addr) (c:Nat),sl=.slice a ts.length c/\ts.length<=c/\c<=maxLen/\((ts=[]/\(c=0∨a≠none))∨∃b o,a=some ⟨b,o,none⟩/\F b/\z8 w F b o ts)
def z8 (w:World) (F:Nat->Prop) (b o:Nat):List Nd->Prop
 | []=>True
 | t::ts=>(∃sl,w.rangeAt b o (t.hd.cells sl)/\NdIn w F sl t)/\z8 w F b (o+15) ts
end
theorem z8.get {w:World}{F:Nat->Prop}{b:Nat}{ts:List Nd}:∀ {o:Nat},z8 w F b o ts->∀i,(h:i<ts.length)->∃sl,w.rangeAt b (o+i*15) ((ts[i]).hd.cells sl)/\NdIn w F sl ts[i]:=by
 induction ts with
 | nil=>intro o _ i h;exact absurd h (by simp)
 | cons t ts ih=>
  intro o hn i h;rw[z8] at hn;cases i with
  | zero=>simpa using hn.1
  | succ i=>
   obtain⟨sl,h1,h2⟩:=ih hn.2 i (by simpa using h);refine⟨sl,?_,h2⟩;rw[show o+(i+1)*15=o+15+i*15 by omega];exact h1
theorem L5 {w:World}{b o:Nat}{v:Value}{cs:List Value}(h:w.rangeAt b o (v::cs)):b<w.heap.size:=
 G7 (h 0 v rfl)
theorem J2 {w w':World}{b o:Nat}{cs:List Value}(h:w.rangeAt b o cs)(hb:w'.heap[b]? = w.heap[b]?):w'.rangeAt b o cs:=by
 intro j v hj;have:=h j v hj;simp only[World.cell?] at this ⊢;rw[hb];exact this
theorem j0k {w w':World}{b o:Nat}{v:Value}{cs:List Value}(h:w.rangeAt b o (v::cs))(g:Gr w w'):w'.rangeAt b o (v::cs):=
 J2 h (g.ext.block b (L5 h))
mutual
theorem NdIn.mono {w w':World}{F F':Nat->Prop}(hF:∀b,F b->b<w.heap.size->w'.heap[b]? = w.heap[b]? /\ F' b){sl:Value}:∀ {t:Nd},NdIn w F sl t->NdIn w' F' sl t
 | .mk _ ts,h=>by
  rw[NdIn] at h ⊢;obtain⟨a,c,h1,h2,h3,h4⟩:=h;refine⟨a,c,h1,h2,h3,?_⟩;rcases h4 with h4|⟨b,o,h4,h5,h6⟩
  ·exact .inl h4
  ·cases ts with
   | nil=>
    subst h4;exact .inl ⟨rfl,.inr (by simp)⟩
   | cons t ts=>
    have hb:b<w.heap.size:=by
     rw[z8] at h6;obtain⟨⟨_,h7,_⟩,_⟩:=h6;exact L5 h7
    exact .inr ⟨b,o,h4,(hF b h5 hb).2,z8.mono hF (hF b h5 hb).1 h6⟩
theorem z8.mono {w w':World}{F F':Nat->Prop}(hF:∀b,F b->b<w.heap.size->w'.heap[b]? = w.heap[b]? /\ F' b){b:Nat}(hb:w'.heap[b]? = w.heap[b]?):∀ {ts:List Nd} {o:Nat},z8 w F b o ts->z8 w' F' b o ts
 | [],_,_=>by rw[z8];trivial
 | t::ts,o,h=>by
  rw[z8] at h ⊢;obtain⟨⟨sl,h1,h2⟩,h3⟩:=h;exact⟨⟨sl,J2 h1 hb,NdIn.mono hF h2⟩,z8.mono hF hb h3⟩
end
theorem NdIn.gr {w w':World}{F:Nat->Prop}{sl:Value}{t:Nd}(h:NdIn w F sl t)(g:Gr w w'):NdIn w' F sl t:=
 h.mono fun b hb hlt=>⟨g.ext.block b hlt,hb⟩
theorem z6:(Tryz.prog.info? 64).map (·.size)=some 15:=by kernel_rfl
structure Vl where
 k:Int
 x:Nat
 s:ByteArray
 b:Bool
 f:Int
structure Ct where
 k:Int
 v:Vl
 t:Nd
abbrev Vl.cells (v:Vl):List Value:=[.int .i64 v.k,.float .f64 v.x,.string v.s,.bool v.b,.int .i64 v.f]
abbrev Vl.val (v:Vl):Value:=.agg #[.int .i64 v.k,.float .f64 v.x,.string v.s,.bool v.b,.int .i64 v.f]
abbrev Ct.cells (c:Ct) (sl:Value):List Value:=[.int .i64 c.k,.int .i64 c.v.k,.float .f64 c.v.x,.string c.v.s,.bool c.v.b,.int .i64 c.v.f,
 .int .i64 c.t.hd.k,.int .i64 c.t.hd.o,.float .f64 c.t.hd.x,.string c.t.hd.s,.bool c.t.hd.b,.int .i64 c.t.hd.f,.int .i64 c.t.hd.c1,.int .i64 c.t.hd.r1,.bool c.t.hd.p1,.bool c.t.hd.q1,.int .i64 c.t.hd.c2,.int .i64 c.t.hd.r2,.bool c.t.hd.p2,.bool c.t.hd.q2,sl]
abbrev Ct.val (c:Ct) (sl:Value):Value:=.agg #[.int .i64 c.k,.int .i64 c.v.k,.float .f64 c.v.x,.string c.v.s,.bool c.v.b,.int .i64 c.v.f,
 .int .i64 c.t.hd.k,.int .i64 c.t.hd.o,.float .f64 c.t.hd.x,.string c.t.hd.s,.bool c.t.hd.b,.int .i64 c.t.hd.f,.int .i64 c.t.hd.c1,.int .i64 c.t.hd.r1,.bool c.t.hd.p1,.bool c.t.hd.q1,.int .i64 c.t.hd.c2,.int .i64 c.t.hd.r2,.bool c.t.hd.p2,.bool c.t.hd.q2,sl]
theorem j2l (a b:Int)(w:World):
 Calls Tryz.prog 172 #[.int .i64 a,.int .i64 b] w fun e w'=>e=.returned (.int .i64 (cmpI a b))/\w'=w:=by
 have hV:Hid (cmpI a b=if a<b then -1 else if b<a then 1 else 0):=rfl;generalize cmpI a b=V at *;go_enter Tryz.func172,Tryz.ntmps172;go_wp2;all_goals
  go_ret;refine⟨rInt ?_,rfl⟩;rw[hV.out];repeat' split
  all_goals omega
theorem jBe (b:Nat)(p q:Int)(w:World)(h0:w.cell? ⟨b,0,none⟩=some (.int .i64 p))(h1:w.cell? ⟨b,1,none⟩=some (.int .i64 q)):
 Calls Tryz.prog 171 #[.slice (some ⟨b,0,none⟩) 2 2] w fun e w'=>e=.returned (.int .i64 (if p=0 then q else p))/\w'=w:=by
 have hV:Hid (∀V,V=(if p=0 then q else p)->V=(if p=0 then q else p)):=fun _ h=>h
 obtain⟨V,hVV⟩:∃V,(if p=0 then q else p)=V:=⟨_,rfl⟩;have HV:Hid ((if p=0 then q else p)=V):=hVV;rw[hVV];clear hV hVV;go_enter Tryz.func171,Tryz.ntmps171;go_wp2;go_loopw[8] (fun i wr=>wr=w/\(i=.int .i64 0∨(i=.int .i64 1/\p=0)∨(i=.int .i64 2/\p=0/\q=0))) (fun i _=>(2-RowKit.intOf i).toNat)
 case atStart=>exact⟨rfl,.inl rfl⟩
 case round=>
  obtain⟨hw,hc⟩:=hrel;subst hw;rcases hc with rfl|⟨rfl,hp⟩|⟨rfl,hp,hq⟩
  ·by_cases hp:p=0
   ·subst hp;go_wp2;go_roundw
    case rel=>simp
    case measure=>simp only[RowKit.intOf];omega
   ·have hV:Hid (p=V):=(by show _=_;rw[<- HV.out,if_neg hp]);have hp':(p != 0)=true:=(by simpa using hp);clear HV;go_wp2;go_ret;exact⟨rInt hV.out,rfl⟩
  ·subst hp;have hV:Hid (q=V):=(by show _=_;rw[<- HV.out,if_pos rfl]);clear HV;by_cases hq:q=0
   ·subst hq;go_wp2;go_roundw
    case rel=>simp
    case measure=>simp only[RowKit.intOf];omega
   ·have hq':(q != 0)=true:=(by simpa using hq);go_wp2;go_ret;exact⟨rInt hV.out,rfl⟩
  ·subst hp hq;have hV:Hid (0=V):=(by show _=_;rw[<- HV.out,if_pos rfl]);clear HV;go_wp2;go_ret;exact⟨rInt hV.out,rfl⟩
end
section
open Go.RowKit Go.Maps
theorem jAH:laidOutB Tryz.prog=true:=by kernel_rfl
theorem j2v:(57:TypeId) < Tryz.prog.types.size:=of_decide_eq_true (by kernel_rfl)
theorem j11:Tryz.prog.cellsOf 57=2:=by kernel_rfl
theorem j3a:Tryz.prog.cellsOf 3=1:=by kernel_rfl
theorem jEu:(match Tryz.prog.underlying 57 with|some (.array _ _)|some (.struct _)=>true|_=>false)=true:=by rw[Tryz.underlying57]
theorem jAA:Tryz.prog.keyTypeAt 2 57=true:=by kernel_rfl
theorem J5:Keyed Tryz.prog 57:=Keyed.of_law (deep_law_laid jAH (m:=2) (by decide) j2v jAA jEu)
theorem jAC:Tryz.prog.keyType 57=true:=by kernel_rfl
theorem j9S {c0 c1:Value}:(Value.agg #[c0,c1]).formed Tryz.prog 57=true:=by simp[Value.formed,Tryz.underlying57,j11]
def I64 (x:Int):Prop:=-9223372036854775808<=x/\x<=9223372036854775807
theorem I64.wf {x:Int}(h:I64 x):(Lit.int .i64 x).wf=true:=by
 obtain⟨h1,h2⟩:=h;exact WalkArith.wf_i64 (by omega)
theorem jAB (c r:Int)(hc:I64 c)(hr:I64 r):∃l,keyOf Tryz.prog 57 (.agg #[.int .i64 c,.int .i64 r])=some l:=by
 unfold keyOf;rw[Tryz.underlying57];simp only[jAC,j9S,Bool.and_self,if_true];obtain⟨n,hn⟩:∃n,Tryz.prog.types.size=n+1:=by
  have h:=j2v;generalize Tryz.prog.types.size=s at h;cases s with
  | zero=>exact absurd h (Nat.not_lt_zero _)
  | succ n=>exact⟨n,rfl⟩
 rw[hn];simp[Program.keyLits,Tryz.underlying57,Tryz.underlying3,Value.cells,j3a,j11,hc.wf,hr.wf]
@[go_sem] theorem jFa (P:Program) (w:World) (a:Addr) (m:Mode) (k:FloatKind) (b:Nat):(store a (.float k b) m).run P w=stored P w a (.float k b) m:=run_store P w a _ m rfl
structure Kp (w w':World) (S:Nat->Prop):Prop where
 os:w'.os=w.os
 tape:w'.tape=w.tape
 output:w'.output=w.output
 size:w.heap.size<=w'.heap.size
 block:∀i,i<w.heap.size->¬S i->w'.heap[i]? = w.heap[i]?
def Nul:Nat->Prop:=fun _=>False
namespace Kp
theorem refl (w:World)(S:Nat->Prop):Kp w w S:=⟨rfl,rfl,rfl,Nat.le_refl _,fun _ _ _=>rfl⟩
theorem trans {w w1 w2:World}{S:Nat->Prop}(h:Kp w w1 S)(g:Kp w1 w2 S):Kp w w2 S:=
 ⟨g.os.trans h.os,g.tape.trans h.tape,g.output.trans h.output,Nat.le_trans h.size g.size,fun i hi hs=>(g.block i (Nat.lt_of_lt_of_le hi h.size) hs).trans (h.block i hi hs)⟩
theorem trans' {w w1 w2:World}{S T:Nat->Prop}(h:Kp w w1 S)(g:Kp w1 w2 T)(hT:∀i,i<w.heap.size->T i->S i):Kp w w2 S:=
 ⟨g.os.trans h.os,g.tape.trans h.tape,g.output.trans h.output,Nat.le_trans h.size g.size,fun i hi hs=>(g.block i (Nat.lt_of_lt_of_le hi h.size) (fun t=>hs (hT i hi t))).trans (h.block i hi hs)⟩
theorem mono {w w':World}{S T:Nat->Prop}(h:Kp w w' S)(hT:∀i,i<w.heap.size->S i->T i):Kp w w' T:=
 ⟨h.os,h.tape,h.output,h.size,fun i hi hs=>h.block i hi (fun s=>hs (hT i hi s))⟩
theorem of_nul {w w':World}{S:Nat->Prop}(h:Kp w w' Nul):Kp w w' S:=h.mono fun _ _ s=>s.elim
theorem of_gr {w w':World}{S:Nat->Prop}(h:Gr w w'):Kp w w' S:=⟨h.ext.os,h.ext.tape,h.ext.output,h.ext.size,fun i hi _=>h.ext.block i hi⟩
theorem of_below {w w':World}{S:Nat->Prop}(h:Below w.heap.size w w'):Kp w w' S:=⟨h.os,h.tape,h.output,h.size,fun i hi _=>h.block i hi⟩
theorem below {w w':World}(h:Kp w w' Nul):Below w.heap.size w w':=⟨h.os,h.tape,h.output,h.size,fun i hi=>h.block i hi (fun s=>s)⟩
theorem of_grown {w w':World}{S:Nat->Prop}{row:Option Nat}(h:w.grownBy w' row)(hr:∀i,row=some i->S i):Kp w w' S:=
 ⟨h.os,h.tape,h.output,h.size,fun i hi hs=>h.block i hi (fun e=>hs (hr i e.symm))⟩
theorem drew {w w1:World}{S:Nat->Prop}(h:Kp w w1 S):Kp w w1.drew S:=⟨h.os,h.tape,h.output,h.size,h.block⟩
theorem drewN {w w1:World}{S:Nat->Prop}(h:Kp w w1 S)(n:Nat):Kp w (w1.drewN n) S:=⟨h.os,h.tape,h.output,h.size,h.block⟩
theorem alloc {w w1:World}{S:Nat->Prop}(h:Kp w w1 S)(o:Obj):Kp w (w1.alloc o) S:=by
 refine⟨h.os,h.tape,h.output,?_,fun i hi hs=>?_⟩
 ·show w.heap.size<=(w1.heap.push o).size;rw[Array.size_push];exact Nat.le_succ_of_le h.size
 ·show (w1.heap.push o)[i]? = _;rw[Array.getElem?_push,if_neg (Nat.ne_of_lt (Nat.lt_of_lt_of_le hi h.size))];exact h.block i hi hs
theorem setCell {w w1:World}{S:Nat->Prop}(h:Kp w w1 S)(a:Addr)(v:Value)(ha:w.heap.size<=a.block∨S a.block):Kp w (w1.setCell a v) S:=by
 have q:=(Below.refl 0 w1).setCell (p:=a) (Nat.zero_le _) v;refine⟨q.os.trans h.os,q.tape.trans h.tape,q.output.trans h.output,Nat.le_trans h.size q.size,fun i hi hs=>?_⟩;rw[heap_setCell_other w1 a i v (fun e=>by rcases ha with ha|ha;omega;exact hs (e ▸ ha))];exact h.block i hi hs
end Kp
theorem NdIn.kp {w w':World}{F S:Nat->Prop}{sl:Value}{t:Nd}(h:NdIn w F sl t)(g:Kp w w' S)(hd:∀b,F b->¬S b):NdIn w' F sl t:=
 h.mono fun b hb hlt=>⟨g.block b hlt (hd b hb),hb⟩
theorem NdIn.kpn {w w':World}{F:Nat->Prop}{sl:Value}{t:Nd}(h:NdIn w F sl t)(g:Kp w w' Nul):NdIn w' F sl t:=h.kp g fun _ _ s=>s
def O0 (z:Array Value) (o:Nat):List Value->Array Value
 | []=>z
 | v::vs=>O0 (z.setIfInBounds o v) (o+1) vs
theorem j63:∀(vs:List Value) (z:Array Value) (o:Nat),(O0 z o vs).size=z.size
 | [],_,_=>rfl
 | v::vs,z,o=>by rw[O0,j63 vs];simp
theorem j1g:∀(vs:List Value) (z:Array Value) (o i:Nat),o+vs.length<=z.size->(O0 z o vs)[i]? = if o<=i/\i<o+vs.length then vs[i-o]? else z[i]?
 | [],z,o,i,_=>by rw[O0,if_neg (by simp)]
 | v::vs,z,o,i,h=>by
  simp only[List.length_cons] at h ⊢;rw[O0,j1g vs _ (o+1) i (by simp;omega)];by_cases h1:o+1<=i/\i<o+1+vs.length
  ·rw[if_pos h1,if_pos (by omega),show i-o=(i-(o+1))+1 by omega];simp
  ·rw[if_neg h1];by_cases h2:i=o
   ·subst h2;rw[if_pos (by omega),Nat.sub_self,Array.getElem?_setIfInBounds_self_of_lt (by omega)];simp
   ·rw[if_neg (by omega),Array.getElem?_setIfInBounds_ne (by omega)]
theorem j61 (z cs:Array Value)(h:z.size=cs.size):O0 z 0 cs.toList=cs:=by
 apply Array.ext_getElem?
 intro i;rw[j1g _ _ _ _ (by simp;omega)];by_cases hi:i<cs.size
 ·rw[if_pos (by simp;exact hi)];simp
 ·rw[if_neg (by simp;omega)];rw[Array.getElem?_eq_none (by omega),Array.getElem?_eq_none (by omega)]
theorem j65 (w:World)(t:TypeId):∀(vs:List Value) (z:Array Value) (o:Nat),(w.alloc (.cells z t)).setCells w.heap.size o vs=w.alloc (.cells (O0 z o vs) t)
 | [],_,_=>rfl
 | v::vs,z,o=>by
  rw[World.setCells,World.setCell_alloc_new,O0];exact j65 w t vs _ _
theorem j2z (w:World)(t:TypeId)(z cs:Array Value)(h:z.size=cs.size):(w.alloc (.cells z t)).setCells w.heap.size 0 cs.toList=w.alloc (.cells cs t):=by
 rw[j65,j61 z cs h]
theorem I5 {P:Program}{ops:Array Oper}{rest:List Oper}{op:Oper}{a:Act}{Q:Exit->Act->World->Prop}(hgd:op.guard=none)(ty:TypeId)(x y:Operand)(ho:op.op=.store ty x y)
 (w:World) (z cells:Array Value) (t:TypeId) (N:Nat) (hN:N=w.heap.size) (hx:a.eval x=.pointer (some ⟨N,0,none⟩)) (hy:a.eval y=.agg cells)
 (hz:z.size=cells.size) (hi:(P.info? ty).map (·.size)=some cells.size) (h1:cells.all (·.oneCell')=true)
 (h:wpList P ops Q rest (a.put op.dst undef) (w.alloc (.cells cells t))):wpList P ops Q (op::rest) a (w.alloc (.cells z t)):=by
 subst hN;refine wpList_store_mid hgd ty x y ho w.heap.size 0 cells hx hy ?_ hi h1 ?_
 ·intro j hj;constructor
  ·rw[World.cell?_alloc_at _ _ _ _ rfl,Array.getElem?_eq_getElem (by omega)];rfl
  ·rw[frozen?_alloc_cells,j0Y]
 ·rw[j2z w t z cells hz];exact h
theorem j04 {b:Nat}{t:TypeId}:∀(vs:List Value) (o:Nat) (w:World) (z:Array Value),w.heap[b]? = some (.cells z t (0,0))->(w.setCells b o vs).heap[b]? = some (.cells (O0 z o vs) t (0,0))
 | [],_,_,_,h=>h
 | v::vs,o,w,z,h=>by
  rw[World.setCells,O0];exact j04 vs (o+1) _ _ (heap_setCell_same w b o z t v h)
theorem T4 {b:Nat}{t:TypeId}{w:World}{z cs:Array Value}(h:w.heap[b]? = some (.cells z t (0,0)))(hz:z.size=cs.size):(w.setCells b 0 cs.toList).heap[b]? = some (.cells cs t (0,0)):=by
 rw[j04 _ _ _ _ h,j61 z cs hz]
theorem J1 {b i:Nat}(hi:i≠b):∀(vs:List Value) (o:Nat) (w:World),(w.setCells b o vs).heap[i]? = w.heap[i]?
 | [],_,_=>rfl
 | v::vs,o,w=>by
  rw[World.setCells,J1 hi vs,heap_setCell_other w _ i v hi]
theorem Q1 {b:Nat}(S:Nat->Prop)(hS:S b):∀(vs:List Value) (o:Nat) (w:World),Kp w (w.setCells b o vs) S
 | [],_,w=>Kp.refl w S
 | v::vs,o,w=>by
  rw[World.setCells];exact(((Kp.refl w S).setCell ⟨b,o,none⟩ v (.inr hS))).trans (Q1 S hS vs (o+1) _)
theorem Q2 {b:Nat}:∀(vs:List Value) (o:Nat) (w:World),(w.setCells b o vs).heap.size=w.heap.size
 | [],_,_=>rfl
 | v::vs,o,w=>by
  rw[World.setCells,Q2 vs];show (w.heap.modify _ _).size=_;simp
theorem R8 {b B:Nat}{w w1:World}(h:Below B w w1)(hB:B<=b)(vs:List Value)(o:Nat):Below B w (w1.setCells b o vs):=by
 have q:=Q1 (b:=b) (fun i=>i=b) rfl vs o w1;exact⟨q.os.trans h.os,q.tape.trans h.tape,q.output.trans h.output,Nat.le_trans h.size q.size,fun i hi=>by rw[J1 (by omega)];exact h.block i hi⟩
theorem NdIn.one {w:World}{F:Nat->Prop}{sl:Value}{t:Nd}(h:NdIn w F sl t):sl.oneCell'=true:=by
 cases t;rw[NdIn] at h;obtain⟨a,c,rfl,_⟩:=h;rfl
theorem Hd.one (h:Hd){sl:Value}(hs:sl.oneCell'=true):(#[.int .i64 h.k,.int .i64 h.o,.float .f64 h.x,.string h.s,.bool h.b,.int .i64 h.f,.int .i64 h.c1,.int .i64 h.r1,.bool h.p1,.bool h.q1,.int .i64 h.c2,.int .i64 h.r2,.bool h.p2,.bool h.q2,sl]:Array Value).all (·.oneCell')=true:=by
 simpa [Value.oneCell'] using hs
end
section
open Go.RowKit
def Blk (w:World) (b:Nat) (cs:List Value) (t:TypeId):Prop:=w.heap[b]? = some (.cells cs.toArray t (0,0))
namespace Blk
theorem lt {w:World}{b:Nat}{cs:List Value}{t:TypeId}(h:Blk w b cs t):b<w.heap.size:=by
 rcases Nat.lt_or_ge b w.heap.size with c|c
 ·exact c
 ·unfold Blk at h;rw[Array.getElem?_eq_none c] at h;cases h
theorem at' {w:World}{b i:Nat}{cs:List Value}{t:TypeId}(h:Blk w b cs t):w.cell? ⟨b,i,none⟩=cs[i]?:=by
 unfold Blk at h;simp[World.cell?,h]
theorem cell {w:World}{b i:Nat}{cs:List Value}{t:TypeId}{v:Value}(h:Blk w b cs t)(hi:cs[i]? = some v):w.cell? ⟨b,i,none⟩=some v:=h.at'.trans hi
theorem froz {w:World}{b:Nat}{cs:List Value}{t:TypeId}(h:Blk w b cs t)(i:Nat):w.frozen? ⟨b,i,none⟩=false:=by
 unfold Blk at h;simp[World.frozen?,h]
theorem set {w:World}{b:Nat}{cs:List Value}{t:TypeId}(h:Blk w b cs t)(i:Nat)(v:Value):Blk (w.setCell ⟨b,i,none⟩ v) b (cs.set i v) t:=by
 have:=heap_setCell_same w b i cs.toArray t v h;unfold Blk;rw[this];simp
theorem other {w:World}{b:Nat}{cs:List Value}{t:TypeId}(h:Blk w b cs t)(a:Addr)(v:Value)(hb:b≠a.block):Blk (w.setCell a v) b cs t:=by
 unfold Blk;rw[heap_setCell_other w a b v hb];exact h
theorem kp {w w':World}{b:Nat}{cs:List Value}{t:TypeId}{S:Nat->Prop}(h:Blk w b cs t)(g:Kp w w' S)(hb:¬S b):Blk w' b cs t:=
 (g.block b h.lt hb).trans h
theorem gr {w w':World}{b:Nat}{cs:List Value}{t:TypeId}(h:Blk w b cs t)(g:Gr w w'):Blk w' b cs t:=h.kp (S:=Nul) (Kp.of_gr g) (fun x=>x)
theorem alloc {w:World}{b:Nat}{cs:List Value}{t:TypeId}(h:Blk w b cs t)(o:Obj):Blk (w.alloc o) b cs t:=h.kp (S:=Nul) ((Kp.refl w Nul).alloc o) (fun x=>x)
theorem drewN {w:World}{b:Nat}{cs:List Value}{t:TypeId}(h:Blk w b cs t)(n:Nat):Blk (w.drewN n) b cs t:=h
theorem drew {w:World}{b:Nat}{cs:List Value}{t:TypeId}(h:Blk w b cs t):Blk w.drew b cs t:=h
theorem ne {w:World}{b b':Nat}{cs cs':List Value}{t t':TypeId}(h:Blk w b cs t)(h':Blk w b' cs' t')(ht:t≠t'):b≠b':=by
 intro e;subst e;unfold Blk at h h';rw[h] at h';simp only[Option.some.injEq,Obj.cells.injEq] at h';exact ht h'.2.1
theorem new (w:World)(cs:List Value)(t:TypeId):Blk (w.alloc (.cells cs.toArray t)) w.heap.size cs t:=heap_alloc_new _ _
end Blk
def nx (at' n k:Int):Int:=if k<=at' then k else if n<0 then (if k<at'-n then at' else k+n) else k+n
mutual
def E6 (w:World) (sl:Value):Nd->List Nat->Prop
 | .mk _ ts,fp=>(ts=[]/\sl=.slice none 0 0/\fp=[]) ∨
  ∃b c fps cs,sl=.slice (some ⟨b,0,none⟩) ts.length c/\ts≠[]/\ts.length<=c/\c<=maxLen/\w.heap[b]? = some (.cells cs 64 (0,0))/\cs.size=c*15/\fp=b::fps/\E2 w b 0 ts fps
def E2 (w:World) (b o:Nat):List Nd->List Nat->Prop
 | [],fp=>fp=[]
 | t::ts,fp=>∃sl f1 f2,w.rangeAt b o (t.hd.cells sl)/\E6 w sl t f1/\fp=f1++f2/\E2 w b (o+15) ts f2
end
mutual
theorem E6.mono {w w':World}{sl:Value}:∀ {t:Nd} {fp:List Nat},E6 w sl t fp->(∀b∈fp,w'.heap[b]? = w.heap[b]?)->E6 w' sl t fp
 | .mk _ ts,fp,h,hF=>by
  rw[E6] at h ⊢;rcases h with h|⟨b,c,fps,cs,h1,h2,h3,h4,h5,h6,rfl,h8⟩
  ·exact .inl h
  ·refine .inr ⟨b,c,fps,cs,h1,h2,h3,h4,(hF b (List.mem_cons_self)).trans h5,h6,rfl,?_⟩;exact E2.mono h8 (fun o' cs' _ _ hr=>J2 hr (hF b (List.mem_cons_self))) (fun b' hb'=>hF b' (List.mem_cons_of_mem _ hb'))
theorem E2.mono {w w':World}{b:Nat}:∀ {ts:List Nd} {o:Nat} {fp:List Nat},E2 w b o ts fp->(∀o' cs,o<=o'->o'+cs.length<=o+ts.length*15->w.rangeAt b o' cs->w'.rangeAt b o' cs)->(∀b∈fp,w'.heap[b]? = w.heap[b]?)->E2 w' b o ts fp
 | [],_,_,h,_,_=>by rw[E2] at h ⊢;exact h
 | t::ts,o,fp,h,hr,hF=>by
  rw[E2] at h ⊢;obtain⟨sl,f1,f2,h1,h2,rfl,h4⟩:=h;refine⟨sl,f1,f2,hr o _ (Nat.le_refl _) (by simp;omega) h1,E6.mono h2 (fun b hb=>hF b (List.mem_append_left _ hb)),rfl,?_⟩;exact E2.mono h4 (fun o' cs g1 g2 g3=>hr o' cs (by omega) (by simp at g2 ⊢;omega) g3) (fun b hb=>hF b (List.mem_append_right _ hb))
end
theorem E2.snoc {w:World}{b:Nat}{u:Nd}{f:List Nat}{sl:Value}(hu:E6 w sl u f):∀ {us:List Nd} {o:Nat} {fps:List Nat},E2 w b o us fps->w.rangeAt b (o+us.length*15) (u.hd.cells sl)->E2 w b o (us++[u]) (fps++f)
 | [],o,fps,h,hr=>by
  rw[E2] at h;subst h;rw[List.nil_append,E2];exact⟨sl,f,[],by simpa using hr,hu,by simp,by rw[E2]⟩
 | t::us,o,fps,h,hr=>by
  rw[E2] at h;obtain⟨s1,f1,f2,h1,h2,rfl,h4⟩:=h;rw[List.cons_append,E2];refine⟨s1,f1,f2++f,h1,h2,by rw[List.append_assoc],E2.snoc hu h4 ?_⟩;rw[show o+15+us.length*15=o+(t::us).length*15 by simp;omega];exact hr
mutual
theorem E6.isIn {w:World}{sl:Value}:∀ {t:Nd} {fp:List Nat} {F:Nat->Prop},E6 w sl t fp->(∀b∈fp,F b)->NdIn w F sl t
 | .mk _ ts,fp,F,h,hF=>by
  rw[E6] at h;rw[NdIn];rcases h with ⟨rfl,rfl,rfl⟩|⟨b,c,fps,cs,rfl,h2,h3,h4,h5,h6,rfl,h8⟩
  ·exact⟨none,0,rfl,by simp,by unfold maxLen;omega,.inl ⟨rfl,.inl rfl⟩⟩
  ·refine⟨_,c,rfl,h3,h4,.inr ⟨b,0,rfl,hF b (List.mem_cons_self),?_⟩⟩;exact E2.isIn h8 (fun b' hb'=>hF b' (List.mem_cons_of_mem _ hb'))
theorem E2.isIn {w:World}{b:Nat}:∀ {ts:List Nd} {o:Nat} {fp:List Nat} {F:Nat->Prop},E2 w b o ts fp->(∀b∈fp,F b)->z8 w F b o ts
 | [],_,_,_,_,_=>by rw[z8];trivial
 | t::ts,o,fp,F,h,hF=>by
  rw[E2] at h;obtain⟨sl,f1,f2,h1,h2,rfl,h4⟩:=h;rw[z8];exact⟨⟨sl,h1,E6.isIn h2 (fun b hb=>hF b (List.mem_append_left _ hb))⟩,E2.isIn h4 (fun b hb=>hF b (List.mem_append_right _ hb))⟩
end
theorem E6.one {w:World}{sl:Value}{t:Nd}{fp:List Nat}(h:E6 w sl t fp):sl.oneCell'=true:=(h.isIn (F:=fun _=>True) (fun _ _=>trivial)).one
structure Own (w:World) (B:Nat) (sl:Value) (t:Nd) (fp:List Nat):Prop where
 own:E6 w sl t fp
 nodup:fp.Nodup
 new:∀b∈fp,B<=b/\b<w.heap.size
theorem Own.below {w w':World}{B:Nat}{sl:Value}{t:Nd}{fp:List Nat}(h:Own w B sl t fp)(g:Below w.heap.size w w'):Own w' B sl t fp:=
 ⟨h.own.mono (fun b hb=>g.block b (h.new b hb).2),h.nodup,fun b hb=>⟨(h.new b hb).1,Nat.lt_of_lt_of_le (h.new b hb).2 g.size⟩⟩
theorem Own.le {w:World}{B B':Nat}{sl:Value}{t:Nd}{fp:List Nat}(h:Own w B sl t fp)(hB:B'<=B):Own w B' sl t fp:=
 ⟨h.own,h.nodup,fun b hb=>⟨Nat.le_trans hB (h.new b hb).1,(h.new b hb).2⟩⟩
theorem Own.isIn {w:World}{B:Nat}{sl:Value}{t:Nd}{fp:List Nat}(h:Own w B sl t fp):NdIn w (fun b=>B<=b/\b<w.heap.size) sl t:=h.own.isIn h.new
end
section
open Go.RowKit
section
variable {P:Program} {ops:Array Oper} {Q:Exit->Act->World->Prop} {md:Region.Mode} {S:World->Prop}
theorem j3 {i:Nat}{oi:Oper}{v:Value}{n:Nat}{on:Array Bool}{a:Act}{w:World}(d:Option Tmp)(hi:ops[i]? = some oi)(hd:oi.dst=d)(hb:(Region.noSelect ops&&(Region.free md ops on i&&((Region.ready md ops on).contains i)))=true)
 (hQ:∀c a w,Q (.panic c) (a.put d v) w->Q (.panic c) a w) (hy:YieldsIf P ops S oi v a) (hS:S w) (h:wpAnyH P md ops Q S n (on.setIfInBounds i true) (a.put d v) w):wpAnyH P md ops Q S (n+1) on a w:=by
 simp only[Bool.and_eq_true] at hb;subst hd;exact wpAnyH_take hi hb.1 hb.2.1 hb.2.2 hQ hy hS h
theorem D9 {i:Nat}{o:Oper}{n:Nat}{on:Array Bool}{a:Act}{w:World}(hr:Region.ready md ops on=[i])(ho:ops[i]? = some o)(hg:o.guard=none)
 (h:∀K':Act->World->Prop,Hid (∀a w,S w->(S w->wpAnyH P md ops Q S n (on.setIfInBounds i true) a w)->K' a w)->o.wp P a w K' Q):wpAnyH P md ops Q S (n+1) on a w:=by
 refine wpAnyH_all hr (by simp) (fun j hj=>?_);obtain rfl:=List.mem_singleton.1 hj;unfold wpOp;rw[ho];simp only[Region.wanted,hg,if_true];exact .inl (h _ (fun a w hS hW=>⟨hS,hW hS⟩))
theorem F5 {id:Nat}{a:Act}{w:World}(S:World->Prop)(hm:P.follows .mixedOrders=true)(hS:S w.drew)(h:S w.drew->wpAnyH P .any ops Q S ops.size (Array.replicate ops.size false) a w.drew):(Code.region id ops true).wp P Q a w:=
 wp_region_held hm (h hS)
end
end
section
open Go.RowKit
section
variable {P:Program} {ops:Array Oper} {Q:Exit->Act->World->Prop} {md:Region.Mode} {S:World->Prop} {z:Nat}
def L6 (P:Program) (md:Region.Mode) (ops:Array Oper) (Q:Exit->Act->World->Prop) (S:World->Prop) (z:Nat):Nat->Array Bool->Act->World->Prop
 | 0,on,a,w=>Region.ready md ops on=[]/\Q .normal a w
 | n+1,on,a,w=>(Region.ready md ops on=[]->Q .normal a w) /\
  ∀i∈Region.ready md ops on,wpOp P ops Q i (fun a' w'=>(i≠z->S w')/\L6 P md ops Q S z n (on.setIfInBounds i true) a' w') a w
theorem j6k:∀(n:Nat) (on:Array Bool) (a:Act) (w:World),L6 P md ops Q S z n on a w->wpAny P md ops Q n on a w
 | 0,_,_,_,h=>h
 | n+1,_,_,_,h=>⟨h.1,fun i hi=>wpOp_mono (fun a' w' h'=>j6k n _ a' w' h'.2) (h.2 i hi)⟩
def j0N (md:Region.Mode) (ops:Array Oper) (z i:Nat):Bool:=match ops[z]? with|some o=>o.after.any (fun e=>Region.binds md e&&e.on==i)|none=>false
theorem j4z {on:Array Bool}{i:Nat}(h:j0N md ops z i=true)(hi:on.getD i false=false):z∉Region.ready md ops on:=by
 intro hz;obtain⟨_,o,ho,hall⟩:=mem_ready.1 hz;unfold j0N at h;rw[ho] at h;obtain⟨e,he,hb⟩:=Array.any_eq_true'.1 h;simp only[Bool.and_eq_true,beq_iff_eq] at hb;have:=hall e he hb.1;rw[hb.2,hi] at this;cases this
theorem j19 {on:Array Bool}{i:Nat}(h:on.getD i true=false):on.getD i false=false:=by
 rcases Nat.lt_or_ge i on.size with hl|hl
 ·simp[hl] at h ⊢;exact h
 ·simp[Nat.not_lt.2 hl] at h
theorem jFC {i:Nat}{oi:Oper}{v:Value}(hi:ops[i]? = some oi)(hsel:∀(j:Nat) (o:Oper) cs b,ops[j]? = some o->o.op ≠ .select cs b)(hzi:j0N md ops z i=true)
 (hQ:∀c a w,Q (.panic c) (a.put oi.dst v) w->Q (.panic c) a w) (n:Nat) :
 ∀(on:Array Bool) (a:Act) (w:World),
  (∀j oj,ops[j]? = some oj->j≠i->on.getD j true=false->(∀e∈oj.after,Region.binds md e=true->e.on≠i)->oi.apart ops oj=true) ->
  i∈Region.ready md ops on->YieldsIf P ops S oi v a->S w->L6 P md ops Q S z n (on.setIfInBounds i true) (a.put oi.dst v) w->L6 P md ops Q S z (n+1) on a w:=by
 have hiz:∀on:Array Bool,i∈Region.ready md ops on->z∉Region.ready md ops on:=fun on hr=>j4z hzi (j19 (mem_ready.1 hr).1)
 induction n with
 | zero=>
  intro on a w _ hr hy hS H;refine⟨fun h=>(by rw[h] at hr;cases hr),fun j hj=>?_⟩;rcases Decidable.em (j=i) with rfl|hji
  ·exact hy.wpOp hi hS ⟨fun _=>hS,H⟩
  ·have hc:=ready_mono hj hji;rw[H.1] at hc;cases hc
 | succ n ih=>
  intro on a w hfree hr hy hS H;refine⟨fun h=>(by rw[h] at hr;cases hr),fun j hj=>?_⟩;rcases Decidable.em (j=i) with rfl|hji
  ·exact hy.wpOp hi hS ⟨fun _=>hS,H⟩
  ·have hjz:j≠z:=(fun e=>hiz on hr (e ▸ hj));obtain⟨hjun,oj,hoj,hall⟩:=mem_ready.1 hj;have hun:=j19 (mem_ready.1 hr).1;have hno:∀e∈oj.after,Region.binds md e=true->e.on≠i:=fun e he hb heq=>by
    have h1:=hall e he hb;rw[heq,hun] at h1;cases h1
   have h2:=wpOp_putIf hoj (hfree j oj hoj hji hjun hno) (fun cs b=>hsel i oi cs b hi) (fun cs b=>hsel j oj cs b hoj) hQ hy (H.2 j (ready_mono hj hji));refine wpOp_mono (fun a' w' h3=>⟨fun _=>h3.2.1 hjz,ih (on.setIfInBounds j true) a' w' ?_ (ready_mono hr (Ne.symm hji)) h3.1 (h3.2.1 hjz) ?_⟩) h2
   ·intro k ok hk hki hkun hkno;refine hfree k ok hk hki ?_ hkno;rcases Decidable.em (j=k) with rfl|hjk
    ·exact hjun
    ·rw[getD_set_ne true hjk] at hkun;exact hkun
   ·rw[Array.setIfInBounds_comm _ _ hji];exact h3.2.2
theorem jFE {i:Nat}{oi:Oper}{v:Value}{n:Nat}{on:Array Bool}{a:Act}{w:World}(hi:ops[i]? = some oi)(hs:Region.noSelect ops=true)(hf:Region.free md ops on i=true)(hr:(Region.ready md ops on).contains i=true)(hz:j0N md ops z i=true)
 (hQ:∀c a w,Q (.panic c) (a.put oi.dst v) w->Q (.panic c) a w) (hy:YieldsIf P ops S oi v a) (hS:S w) (h:L6 P md ops Q S z n (on.setIfInBounds i true) (a.put oi.dst v) w):L6 P md ops Q S z (n+1) on a w:=
 jFC hi (Region.noSelect_spec hs) hz hQ n on a w (Region.free_spec hi hf) (by simpa using hr) hy hS h
theorem I4 {i:Nat}{oi:Oper}{v:Value}{n:Nat}{on:Array Bool}{a:Act}{w:World}(d:Option Tmp)(hi:ops[i]? = some oi)(hd:oi.dst=d)(hb:(Region.noSelect ops&&(Region.free md ops on i&&((Region.ready md ops on).contains i&&j0N md ops z i)))=true)
 (hQ:∀c a w,Q (.panic c) (a.put d v) w->Q (.panic c) a w) (hy:YieldsIf P ops S oi v a) (hS:S w) (h:L6 P md ops Q S z n (on.setIfInBounds i true) (a.put d v) w):L6 P md ops Q S z (n+1) on a w:=by
 simp only[Bool.and_eq_true] at hb;subst hd;exact jFE hi hb.1 hb.2.1 hb.2.2.1 hb.2.2.2 hQ hy hS h
theorem jFD {i:Nat}{n:Nat}{on:Array Bool}{a:Act}{w:World}(hr:Region.ready md ops on=[i])(h:wpOp P ops Q i (fun a' w'=>(i≠z->S w')/\L6 P md ops Q S z n (on.setIfInBounds i true) a' w') a w):L6 P md ops Q S z (n+1) on a w:=
 ⟨fun h0=>(by rw[hr] at h0;cases h0),fun j hj=>(by rw[hr] at hj;obtain rfl:=List.mem_singleton.1 hj;exact h)⟩
theorem j3A {n:Nat}{on:Array Bool}{a:Act}{w:World}(hr:Region.ready md ops on=[])(h:Q .normal a w):L6 P md ops Q S z n on a w:=by
 cases n with
 | zero=>exact⟨hr,h⟩
 | succ n=>exact⟨fun _=>h,by rw[hr];simp⟩
theorem J9 {i:Nat}{o:Oper}{n:Nat}{on:Array Bool}{a:Act}{w:World}(hr:Region.ready md ops on=[i])(ho:ops[i]? = some o)(hg:o.guard=none)
 (h:∀K':Act->World->Prop,Hid (∀a w,(i≠z->S w)->((i≠z->S w)->L6 P md ops Q S z n (on.setIfInBounds i true) a w)->K' a w)->o.wp P a w K' Q):L6 P md ops Q S z (n+1) on a w:=by
 refine jFD hr ?_;unfold wpOp;rw[ho];simp only[Region.wanted,hg,if_true];exact .inl (h _ (fun a w hS hW=>⟨hS,hW hS⟩))
theorem j3H {id:Nat}{a:Act}{w:World}(S:World->Prop)(z:Nat)(hm:P.follows .mixedOrders=true)(hS:S w.drew)(h:S w.drew->L6 P .any ops Q S z ops.size (Array.replicate ops.size false) a w.drew):(Code.region id ops true).wp P Q a w:=
 wp_region_any hm (j6k _ _ _ _ (h hS))
end
end
section
open Go.RowKit
theorem jAq {α:Type}(xs:Array α)(i j:Nat)(f g:α->α)(h:i≠j):(xs.modify i f).modify j g=(xs.modify j g).modify i f:=by
 apply Array.ext_getElem?
 intro k;simp only[Array.getElem?_modify];by_cases h1:j=k
 ·subst h1;simp[h]
 ·simp[h1]
theorem jDs (w:World)(a b:Addr)(u v:Value)(h:a.block≠b.block):(w.setCell a u).setCell b v=(w.setCell b v).setCell a u:=by
 unfold World.setCell;simp only;rw[jAq _ _ _ _ _ h]
theorem j30 {a:Addr}{v:Value}{b:Nat}(h:a.block≠b):∀(vs:List Value) (o:Nat) (w:World),(w.setCell a v).setCells b o vs=(w.setCells b o vs).setCell a v
 | [],_,_=>rfl
 | x::vs,o,w=>by
  rw[World.setCells,World.setCells,<- j30 h vs,jDs _ _ _ _ _ h]
section
variable {P:Program} {ops:Array Oper} {Q:Exit->Act->World->Prop} {md:Region.Mode} {S:World->Prop} {Z:Nat->Bool}
def wpPh (P:Program) (md:Region.Mode) (ops:Array Oper) (Q:Exit->Act->World->Prop) (S:World->Prop) (Z:Nat->Bool):Nat->Array Bool->Act->World->Prop
 | 0,on,a,w=>Region.ready md ops on=[]/\Q .normal a w
 | n+1,on,a,w=>(Region.ready md ops on=[]->Q .normal a w) /\
  ∀i∈Region.ready md ops on,wpOp P ops Q i (fun a' w'=>(Z i=false->S w')/\wpPh P md ops Q S Z n (on.setIfInBounds i true) a' w') a w
theorem j3E:∀(n:Nat) (on:Array Bool) (a:Act) (w:World),wpPh P md ops Q S Z n on a w->wpAny P md ops Q n on a w
 | 0,_,_,_,h=>h
 | n+1,_,_,_,h=>⟨h.1,fun i hi=>wpOp_mono (fun a' w' h'=>j3E n _ a' w' h'.2) (h.2 i hi)⟩
theorem j6s:∀(n:Nat) (on:Array Bool) (a:Act) (w:World),(∀i o,ops[i]? = some o->on.getD i true=false->Z i=true)->wpAny P md ops Q n on a w->wpPh P md ops Q S Z n on a w
 | 0,_,_,_,_,h=>h
 | n+1,on,_,_,hl,h=>⟨h.1,fun i hi=>wpOp_mono (fun a' w' h'=>by
  obtain⟨hun,o,ho,_⟩:=mem_ready.1 hi;refine⟨fun hz=>?_,j6s n _ a' w' (fun j oj hj hjun=>?_) h'⟩
  ·rw[hl i o ho hun] at hz;cases hz
  ·refine hl j oj hj ?_;rcases Decidable.em (i=j) with rfl|hij
   ·exact hun
   ·rw[getD_set_ne true hij] at hjun;exact hjun) (h.2 i hi)⟩
def j1p (ops:Array Oper) (Z:Nat->Bool) (on:Array Bool):Bool:=(List.range ops.size).all fun i=>on.getD i true || Z i
theorem j78 {on:Array Bool}(h:j1p ops Z on=true)(i:Nat)(o:Oper)(ho:ops[i]? = some o)(hi:on.getD i true=false):Z i=true:=by
 unfold j1p at h;have:=List.all_eq_true.1 h i (List.mem_range.2 (Array.getElem?_eq_some_iff.1 ho).1);rw[hi] at this
 simpa using this
theorem j6r {S':World->Prop}{Z':Nat->Bool}{n:Nat}{on:Array Bool}{a:Act}{w:World}(hl:j1p ops Z on=true)(h:wpPh P md ops Q S' Z' n on a w):wpPh P md ops Q S Z n on a w:=
 j6s n on a w (j78 hl) (j3E n on a w h)
def j1D (md:Region.Mode) (ops:Array Oper) (Z:Nat->Bool) (i:Nat):Bool:=(List.range ops.size).all fun j=>!Z j || j0N md ops j i
theorem jBC {on:Array Bool}{i j:Nat}(h:j1D md ops Z i=true)(hi:on.getD i false=false)(hj:j∈Region.ready md ops on):Z j=false:=by
 obtain⟨_,o,ho,_⟩:=mem_ready.1 hj;unfold j1D at h;have h1:=List.all_eq_true.1 h j (List.mem_range.2 (Array.getElem?_eq_some_iff.1 ho).1);cases hz:Z j with
 | false=>rfl
 | true=>
  rw[hz] at h1;exact absurd hj (j4z (by simpa using h1) hi)
theorem jFL {i:Nat}{oi:Oper}{v:Value}(hi:ops[i]? = some oi)(hsel:∀(j:Nat) (o:Oper) cs b,ops[j]? = some o->o.op ≠ .select cs b)(hzi:j1D md ops Z i=true)
 (hQ:∀c a w,Q (.panic c) (a.put oi.dst v) w->Q (.panic c) a w) (n:Nat) :
 ∀(on:Array Bool) (a:Act) (w:World),
  (∀j oj,ops[j]? = some oj->j≠i->on.getD j true=false->(∀e∈oj.after,Region.binds md e=true->e.on≠i)->oi.apart ops oj=true) ->
  i∈Region.ready md ops on->YieldsIf P ops S oi v a->S w->wpPh P md ops Q S Z n (on.setIfInBounds i true) (a.put oi.dst v) w->wpPh P md ops Q S Z (n+1) on a w:=by
 have hiz:∀(on:Array Bool) (j:Nat),i∈Region.ready md ops on->j∈Region.ready md ops on->Z j=false:=fun on j hr hj=>jBC hzi (j19 (mem_ready.1 hr).1) hj
 induction n with
 | zero=>
  intro on a w _ hr hy hS H;refine⟨fun h=>(by rw[h] at hr;cases hr),fun j hj=>?_⟩;rcases Decidable.em (j=i) with rfl|hji
  ·exact hy.wpOp hi hS ⟨fun _=>hS,H⟩
  ·have hc:=ready_mono hj hji;rw[H.1] at hc;cases hc
 | succ n ih=>
  intro on a w hfree hr hy hS H;refine⟨fun h=>(by rw[h] at hr;cases hr),fun j hj=>?_⟩;rcases Decidable.em (j=i) with rfl|hji
  ·exact hy.wpOp hi hS ⟨fun _=>hS,H⟩
  ·have hjz:Z j=false:=hiz on j hr hj;obtain⟨hjun,oj,hoj,hall⟩:=mem_ready.1 hj;have hun:=j19 (mem_ready.1 hr).1;have hno:∀e∈oj.after,Region.binds md e=true->e.on≠i:=fun e he hb heq=>by
    have h1:=hall e he hb;rw[heq,hun] at h1;cases h1
   have h2:=wpOp_putIf hoj (hfree j oj hoj hji hjun hno) (fun cs b=>hsel i oi cs b hi) (fun cs b=>hsel j oj cs b hoj) hQ hy (H.2 j (ready_mono hj hji));refine wpOp_mono (fun a' w' h3=>⟨fun _=>h3.2.1 hjz,ih (on.setIfInBounds j true) a' w' ?_ (ready_mono hr (Ne.symm hji)) h3.1 (h3.2.1 hjz) ?_⟩) h2
   ·intro k ok hk hki hkun hkno;refine hfree k ok hk hki ?_ hkno;rcases Decidable.em (j=k) with rfl|hjk
    ·exact hjun
    ·rw[getD_set_ne true hjk] at hkun;exact hkun
   ·rw[Array.setIfInBounds_comm _ _ hji];exact h3.2.2
theorem I8 {i:Nat}{oi:Oper}{v:Value}{n:Nat}{on:Array Bool}{a:Act}{w:World}(d:Option Tmp)(hi:ops[i]? = some oi)(hd:oi.dst=d)(hb:(Region.noSelect ops&&(Region.free md ops on i&&((Region.ready md ops on).contains i&&j1D md ops Z i)))=true)
 (hQ:∀c a w,Q (.panic c) (a.put d v) w->Q (.panic c) a w) (hy:YieldsIf P ops S oi v a) (hS:S w) (h:wpPh P md ops Q S Z n (on.setIfInBounds i true) (a.put d v) w):wpPh P md ops Q S Z (n+1) on a w:=by
 simp only[Bool.and_eq_true] at hb;subst hd;exact jFL hi (Region.noSelect_spec hb.1) hb.2.2.2 hQ n on a w (Region.free_spec hi hb.2.1) (by simpa using hb.2.2.1) hy hS h
theorem Z4 {n:Nat}{on:Array Bool}{a:Act}{w:World}(hr:Region.ready md ops on=[])(h:Q .normal a w):wpPh P md ops Q S Z n on a w:=by
 cases n with
 | zero=>exact⟨hr,h⟩
 | succ n=>exact⟨fun _=>h,by rw[hr];simp⟩
theorem L8 {i:Nat}{o:Oper}{n:Nat}{on:Array Bool}{a:Act}{w:World}(hr:Region.ready md ops on=[i])(ho:ops[i]? = some o)(hg:o.guard=none)
 (h:∀K':Act->World->Prop,Hid (∀a w,(Z i=false->S w)->wpPh P md ops Q S Z n (on.setIfInBounds i true) a w->K' a w)->o.wp P a w K' Q):wpPh P md ops Q S Z (n+1) on a w:=by
 refine⟨fun h0=>(by rw[hr] at h0;cases h0),fun j hj=>?_⟩;rw[hr] at hj;obtain rfl:=List.mem_singleton.1 hj;unfold wpOp;rw[ho];simp only[Region.wanted,hg,if_true];exact .inl (h _ (fun a w hS hW=>⟨hS,hW⟩))
theorem j1m {i j:Nat}{oi oj:Oper}{n:Nat}{on:Array Bool}{a:Act}{w:World}(hr:Region.ready md ops on=[i,j])(hoi:ops[i]? = some oi)(hoj:ops[j]? = some oj)(hgi:oi.guard=none)(hgj:oj.guard=none)
 (h1:∀K':Act->World->Prop,Hid (∀a w,(Z i=false->S w)->wpPh P md ops Q S Z n (on.setIfInBounds i true) a w->K' a w)->oi.wp P a w K' Q)
 (h2:∀K':Act->World->Prop,Hid (∀a w,(Z j=false->S w)->wpPh P md ops Q S Z n (on.setIfInBounds j true) a w->K' a w)->oj.wp P a w K' Q):wpPh P md ops Q S Z (n+1) on a w:=by
 refine⟨fun h0=>(by rw[hr] at h0;cases h0),fun k hk=>?_⟩;rw[hr] at hk;rcases List.mem_cons.1 hk with rfl|hk
 ·unfold wpOp;rw[hoi];simp only[Region.wanted,hgi,if_true];exact .inl (h1 _ (fun a w hS hW=>⟨hS,hW⟩))
 ·obtain rfl:=List.mem_singleton.1 hk;unfold wpOp;rw[hoj];simp only[Region.wanted,hgj,if_true];exact .inl (h2 _ (fun a w hS hW=>⟨hS,hW⟩))
theorem j3I {id:Nat}{a:Act}{w:World}(S:World->Prop)(Z:Nat->Bool)(hm:P.follows .mixedOrders=true)(hS:S w.drew)(h:S w.drew->wpPh P .any ops Q S Z ops.size (Array.replicate ops.size false) a w.drew):(Code.region id ops true).wp P Q a w:=
 wp_region_any hm (j3E _ _ _ _ (h hS))
end
end
section
open Go.RowKit
theorem jDO {P:Program}(w:World)(base:Nat)(t ty e:TypeId)(i:TypeInfo)(z:Value)(size bytes:Nat)(h1:P.underlying t=some (.slice e))(h2:P.info? e=some i)(h3:i.zero=some z)(h4:i.size=size)(h5:i.bytes=bytes)(h6:z.cells.size=size)(h7:0<size)
 (v:Value) (n:Nat) (xs:List Value) (hown:w.ownsRow base e size v n xs)
 (ad:Addr) (m c:Nat) (news:List Value) (hn:news.length=m*size) (hc:∀j u,news[j]? = some u->w.cell? (ad.add j)=some u) (h1c:∀u∈news,u.oneCell'=true)
 (hm:0<m) (b1:n+m<=maxLen) (b2:(n+m)*bytes<=140737488355328) (hbase:base<=w.heap.size) :
 ∃g c' w',(Builtin.append_ #[t,t] ty #[v,.slice (some ad) m c]).run P w=.ok (.slice (some ⟨g,0,none⟩) (n+m) c') w'/\w'.ownsRow base e size (.slice (some ⟨g,0,none⟩) (n+m) c') (n+m) (xs++news)/\w.grownBy w' v.ownBlock/\(v.ownBlock=some g∨w.heap.size<=g):=by
 have fin:∀v' w',(Builtin.append_ #[t,t] ty #[v,.slice (some ad) m c]).run P w=.ok v' w'->w'.ownsRow w.heap.size e size v' (n+m) (xs++news)->w.grownBy w' none ->
  ∃g c' w',(Builtin.append_ #[t,t] ty #[v,.slice (some ad) m c]).run P w=.ok (.slice (some ⟨g,0,none⟩) (n+m) c') w'/\w'.ownsRow base e size (.slice (some ⟨g,0,none⟩) (n+m) c') (n+m) (xs++news)/\w.grownBy w' v.ownBlock/\(v.ownBlock=some g∨w.heap.size<=g):=by
  intro v' w' hrun ho hgr;rcases ho.2 with ⟨_,h0⟩|⟨g,c',cur,rfl,hbg,r⟩
  ·omega
  ·exact⟨g,c',w',hrun,⟨ho.1,.inr ⟨g,c',cur,rfl,Nat.le_trans hbase hbg,r⟩⟩,⟨hgr.os,hgr.tape,hgr.output,hgr.size,fun k hk _=>hgr.block k hk (by simp)⟩,.inr hbg⟩
 have hown':=hown;rcases hown with ⟨hxl,⟨rfl,rfl⟩|⟨g,cap,cur,rfl,hb,hgg,hnc,hcm,hcs,htk⟩⟩
 ·have hxs:xs=[]:=List.length_eq_zero_iff.1 (by rw[hxl];simp);subst hxs;obtain⟨v',w',hrun,r1,r2,_⟩:=run_append_own (P:=P) w w.heap.size t ty e i z size bytes h1 h2 h3 h4 h5 h6 h7 (.slice none 0 0) 0 [] (World.ownsRow_nil w _ e size) ad m c news hn hc h1c b1 b2 (Nat.le_refl _);exact fin v' w' hrun r1 r2
 ·by_cases hfit:n+m<=cap
  ·obtain⟨w',hrun,r1,r2⟩:=run_append_fits (P:=P) w base t ty e i size h1 h2 h4 g n cap xs hown' ad m c news hn hc h1c hfit;exact⟨g,cap,w',hrun,r1,r2,.inl rfl⟩
  ·obtain⟨v',w',hrun,r1,r2⟩:=run_append_arg_grows (P:=P) w t ty e i z size bytes h1 h2 h3 h4 h5 h6 h7 ⟨g,0,none⟩ n cap xs hxl (hown'.cells rfl) ad m c news hn hc (by omega) b1 b2;exact fin v' w' hrun r1 r2
theorem Z5 {P:Program}(w:World){o:Oper}{a:Act}{K:Act->World->Prop}{Q:Exit->Act->World->Prop}(s x:Operand)(t:TypeId)(ho:o.op=Op.call { callee:=Callee.builtin Builtin.append,args:=#[s,x],argTypes:=#[t,t] })
 (base:Nat) (e:TypeId) (i:TypeInfo) (z:Value) (size bytes:Nat) (h1:P.underlying t=some (.slice e)) (h2:P.info? e=some i) (h3:i.zero=some z) (h4:i.size=size) (h5:i.bytes=bytes) (h6:z.cells.size=size) (h7:0<size)
 (v:Value) (n:Nat) (xs:List Value) (hs:a.eval s=v) (hown:w.ownsRow base e size v n xs)
 (ad:Addr) (m c:Nat) (news:List Value) (hx:a.eval x=.slice (some ad) m c) (hn:news.length=m*size) (hc:∀j u,news[j]? = some u->w.cell? (ad.add j)=some u) (h1c:∀u∈news,u.oneCell'=true)
 (hm:0<m) (b1:n+m<=maxLen) (b2:(n+m)*bytes<=140737488355328) (hbase:base<=w.heap.size)
 (h:∀g c' w',w'.ownsRow base e size (.slice (some ⟨g,0,none⟩) (n+m) c') (n+m) (xs++news)->w.grownBy w' v.ownBlock->(v.ownBlock=some g∨w.heap.size<=g)->K (a.put o.dst (.slice (some ⟨g,0,none⟩) (n+m) c')) w'):o.wp P a w K Q:=by
 obtain⟨g,c',w',hr,h2',h3',h4'⟩:=jDO (P:=P) w base t o.type e i z size bytes h1 h2 h3 h4 h5 h6 h7 v n xs hown ad m c news hn hc h1c hm b1 b2 hbase;unfold Oper.wp execOp;simp only[ho,resolve,invoke,builtin,Sem.run_bind,Sem.run_pure,Result.andThen_ok,List.map_toArray,List.map_cons,List.map_nil,hs,hx,hr];exact h g c' w' h2' h3' h4'
theorem E2.move {w w':World}{b b':Nat}:∀ {ts:List Nd} {o:Nat} {fp:List Nat},E2 w b o ts fp->(∀o' cs,o<=o'->o'+cs.length<=o+ts.length*15->w.rangeAt b o' cs->w'.rangeAt b' o' cs)->(∀b∈fp,w'.heap[b]? = w.heap[b]?)->E2 w' b' o ts fp
 | [],_,_,h,_,_=>by rw[E2] at h ⊢;exact h
 | t::ts,o,fp,h,hr,hF=>by
  rw[E2] at h ⊢;obtain⟨sl,f1,f2,h1,h2,rfl,h4⟩:=h;refine⟨sl,f1,f2,hr o _ (Nat.le_refl _) (by simp;omega) h1,E6.mono h2 (fun b hb=>hF b (List.mem_append_left _ hb)),rfl,?_⟩;exact E2.move h4 (fun o' cs g1 g2 g3=>hr o' cs (by omega) (by simp at g2 ⊢;omega) g3) (fun b hb=>hF b (List.mem_append_right _ hb))
theorem Own.row {w:World}{B:Nat}{v:Value}{h:Hd}{us:List Nd}{fp:List Nat}(q:Own w B v (.mk h us) fp):∃xs,w.ownsRow B 64 15 v us.length xs:=by
 have q1:=q.own;rw[E6] at q1;rcases q1 with ⟨rfl,rfl,_⟩|⟨b,c,fps,cs,rfl,h2,h3,h4,h5,h6,rfl,h8⟩
 ·exact⟨[],World.ownsRow_nil _ _ _ _⟩
 ·refine⟨cs.toList.take (us.length*15),?_,.inr ⟨b,c,cs,rfl,(q.new b (List.mem_cons_self)).1,h5,h3,h4,h6,rfl⟩⟩;have hl:cs.toList.length=c*15:=by simpa using h6
  rw[List.length_take,hl];exact Nat.min_eq_left (Nat.mul_le_mul_right 15 h3)
theorem Q0 (b off i:Nat):(⟨b,off,none⟩:Addr).add i=⟨b,off+i,none⟩:=by unfold Addr.add;split <;> simp_all
theorem Own.grow {w w':World}{B:Nat}{v:Value}{h:Hd}{us:List Nd}{fp:List Nat}{xs:List Value}(q:Own w B v (.mk h us) fp)(hx:w.ownsRow B 64 15 v us.length xs)
 {sl:Value} {u:Nd} {f:List Nat} (hu:Own w B sl u f) (hd:∀b∈f,b∉fp) {g c:Nat}
 (ho:w'.ownsRow B 64 15 (.slice (some ⟨g,0,none⟩) (us.length+1) c) (us.length+1) (xs++u.hd.cells sl)) (hg:w.grownBy w' v.ownBlock) (ht:v.ownBlock=some g∨w.heap.size<=g) (h':Hd) :
 ∃fp',Own w' B (.slice (some ⟨g,0,none⟩) (us.length+1) c) (.mk h' (us++[u])) fp':=by
 have hcell:∀j x,(xs++u.hd.cells sl)[j]? = some x->w'.cell? ⟨g,j,none⟩=some x:=fun j x hj=>by
  have:=ho.cells (g:=g) rfl j x hj;rw[Q0,Nat.zero_add] at this;exact this
 have hrow:∃cur,w'.heap[g]? = some (.cells cur 64 (0,0))/\B<=g/\us.length+1<=c/\c<=maxLen/\cur.size=c*15:=by
  rcases ho.2 with ⟨e,_⟩|⟨g',c',cur,e,hbg,hgg,hnc,hcm,hcs,_⟩
  ·cases e
  ·simp only[Value.slice.injEq,Option.some.injEq,Addr.mk.injEq] at e;obtain⟨⟨rfl,_⟩,_,rfl⟩:=e;exact⟨cur,hgg,hbg,hnc,hcm,hcs⟩
 obtain⟨cur,hgg,hbg,hnc,hcm,hcs⟩:=hrow;have hgl:g<w'.heap.size:=(Array.getElem?_eq_some_iff.1 hgg).1;have hxl:xs.length=us.length*15:=hx.1;have hru:w'.rangeAt g (0+us.length*15) (u.hd.cells sl):=by
  intro j x hj;refine hcell _ _ ?_;rw[List.getElem?_append_right (by omega),show 0+us.length*15+j-xs.length=j by omega];exact hj
 have q1:=q.own;rw[E6] at q1;rcases q1 with ⟨rfl,rfl,rfl⟩|⟨b,c0,fps,cs,rfl,h2,h3,h4,h5,h6,rfl,h8⟩
 ·have hu':E6 w' sl u f:=hu.own.mono (fun b hb=>hg.block b (hu.new b hb).2 (by simp[Value.ownBlock]));have hgn:w.heap.size<=g:=by
   rcases ht with e|e
   ·simp[Value.ownBlock] at e
   ·exact e
  refine⟨g::f,?_,?_,?_⟩
  ·rw[E6];refine .inr ⟨g,c,f,cur,by simp,by simp,by simpa using hnc,hcm,hgg,hcs,rfl,?_⟩;have:=E2.snoc (b:=g) (us:=[]) (o:=0) (fps:=[]) hu' (by rw[E2]) hru
   simpa using this
  ·rw[List.nodup_cons];exact⟨fun hb=>by have:=(hu.new g hb).2;omega,hu.nodup⟩
  ·intro b hb;rcases List.mem_cons.1 hb with rfl|hb
   ·exact⟨hbg,hgl⟩
   ·exact⟨(hu.new b hb).1,Nat.lt_of_lt_of_le (hu.new b hb).2 hg.size⟩
 ·have hnd:=q.nodup;rw[List.nodup_cons] at hnd;have hblk:∀k,k<w.heap.size->k≠b->w'.heap[k]? = w.heap[k]?:=fun k hk hne=>hg.block k hk (by simpa [Value.ownBlock] using hne)
  have hfb:∀k∈f,k≠b:=fun k hk e=>hd k hk (e ▸ List.mem_cons_self)
  have hpb:∀k∈fps,k≠b:=fun k hk e=>hnd.1 (e ▸ hk)
  have hu':E6 w' sl u f:=hu.own.mono (fun k hk=>hblk k (hu.new k hk).2 (hfb k hk));have hxc:∀j,j<us.length*15->xs[j]? = w.cell? ⟨b,j,none⟩:=by
   intro j hj;rcases hx.2 with ⟨e,_⟩|⟨g',c',cur',e,_,hgg',_,_,_,htk⟩
   ·cases e
   ·simp only[Value.slice.injEq,Option.some.injEq,Addr.mk.injEq] at e;obtain⟨⟨rfl,_⟩,_⟩:=e;rw[cell_of_row w b j cur' _ _ hgg',<- htk,List.getElem?_take_of_lt hj];simp
  have hus:E2 w' g 0 us fps:=by
   refine h8.move (fun o' cs' _ h10 hr=>?_) (fun k hk=>hblk k (q.new k (List.mem_cons_of_mem _ hk)).2 (hpb k hk));intro j x hj;have hjl:j<cs'.length:=(List.getElem?_eq_some_iff.1 hj).1;refine hcell _ _ ?_;rw[List.getElem?_append_left (by omega),hxc _ (by omega)];exact hr j x hj
  have hgn:g=b∨w.heap.size<=g:=by
   rcases ht with e|e
   ·simp[Value.ownBlock] at e;exact .inl e.symm
   ·exact .inr e
  refine⟨g::(fps++f),?_,?_,?_⟩
  ·rw[E6];refine .inr ⟨g,c,fps++f,cur,by simp,by simp,by simpa using hnc,hcm,hgg,hcs,rfl,E2.snoc hu' hus hru⟩
  ·rw[List.nodup_cons];refine⟨fun hb=>?_,?_⟩
   ·rcases List.mem_append.1 hb with hb|hb
    ·rcases hgn with e|e
     ·exact hpb g hb e
     ·have:=(q.new g (List.mem_cons_of_mem _ hb)).2;omega
    ·rcases hgn with e|e
     ·exact hfb g hb e
     ·have:=(hu.new g hb).2;omega
   ·rw[List.nodup_append];exact⟨hnd.2,hu.nodup,fun k hk k' hk' e=>hd k' hk' (e ▸ List.mem_cons_of_mem _ hk)⟩
  ·intro k hk;rcases List.mem_cons.1 hk with rfl|hk
   ·exact⟨hbg,hgl⟩
   ·rcases List.mem_append.1 hk with hk|hk
    ·exact⟨(q.new k (List.mem_cons_of_mem _ hk)).1,Nat.lt_of_lt_of_le (q.new k (List.mem_cons_of_mem _ hk)).2 hg.size⟩
    ·exact⟨(hu.new k hk).1,Nat.lt_of_lt_of_le (hu.new k hk).2 hg.size⟩
end
section
open Go.RowKit Go.Shelf
def Bw (w:World) (b:Nat) (g:Option Nat) (l:List UInt8):Prop:=
 ∃p v,(p=.pointer none∨p=.pointer (some ⟨b,0,none⟩))/\w.heap[b]? = some (.cells #[p,v] 74 (0,0))/\w.ownsRowF 0 5 1 v l.length (Lib.byteCells l)/\v.ownBlock=g/\g≠some b
structure Wr (b:Nat) (w w':World) (g g':Option Nat):Prop where
 kp:Kp w w' (fun i=>i=b∨g=some i)
 row:g'=g∨∃i,g'=some i/\w.heap.size<=i
theorem Wr.refl (b:Nat)(w:World)(g:Option Nat):Wr b w w g g:=⟨Kp.refl _ _,.inl rfl⟩
theorem Wr.trans {b:Nat}{w w1 w2:World}{g g1 g2:Option Nat}(h:Wr b w w1 g g1)(k:Wr b w1 w2 g1 g2):Wr b w w2 g g2:=by
 refine⟨h.kp.trans' k.kp (fun i hi e=>?_),?_⟩
 ·rcases e with e|e
  ·exact .inl e
  ·rcases h.row with r|⟨j,r,hj⟩
   ·exact .inr (r ▸ e)
   ·rw[r] at e;injection e with e;omega
 ·rcases k.row with r|⟨j,r,hj⟩
  ·rw[r];exact h.row
  ·exact .inr ⟨j,r,Nat.le_trans h.kp.size hj⟩
theorem Wr.nul {b:Nat}{w w1:World}{g:Option Nat}(h:Kp w w1 Nul):Wr b w w1 g g:=⟨h.of_nul,.inl rfl⟩
theorem Bw.kp {w w':World}{b:Nat}{g:Option Nat}{l:List UInt8}(h:Bw w b g l)(k:Kp w w' Nul):Bw w' b g l:=by
 obtain⟨p,v,hp,hb,ho,hg,hne⟩:=h;have hlt:b<w.heap.size:=(Array.getElem?_eq_some_iff.1 hb).1;refine⟨p,v,hp,(k.block b hlt (fun x=>x)).trans hb,?_,hg,hne⟩;refine ho.kept (row:=none) ⟨k.os,k.tape,k.output,k.size,fun i hi _=>k.block i hi (fun x=>x)⟩ ?_;cases v.ownBlock <;> simp
theorem Bw.lt {w:World}{b:Nat}{g:Option Nat}{l:List UInt8}(h:Bw w b g l):b<w.heap.size:=by
 obtain⟨p,v,hp,hb,_⟩:=h;exact(Array.getElem?_eq_some_iff.1 hb).1
theorem j4b:∃j,Tryz.prog.info? 72=some j/\j.size=2:=by
 have h:(Tryz.prog.info? 72).map (·.size)=some 2:=by kernel_rfl
 exact Option.map_eq_some_iff.1 h
theorem jAP:liesAt Tryz.prog Tryz.prog.depth 74 (2 / Tryz.prog.cellsOf 74) 0 72 1=true:=by kernel_rfl
theorem U6:∃i,Tryz.prog.info? 5=some i/\i.zero=some (.int .u8 0)/\i.size=1/\i.bytes=1:=by
 have h:(Tryz.prog.info? 5).map (fun i=>(i.zero,i.size,i.bytes))=some (some (.int .u8 0),1,1):=by kernel_rfl
 obtain⟨i,h1,h2⟩:=Option.map_eq_some_iff.1 h;obtain⟨h3,h4⟩:=Prod.mk.inj h2;obtain⟨h5,h6⟩:=Prod.mk.inj h4;exact⟨i,h1,h3,h5,h6⟩
theorem neWU:(74:TypeId) ≠ 5:=by decide
theorem j8N (b:Nat)(w:World)(h0:w.cell? ⟨b,0,none⟩=some (.pointer (some ⟨b,0,none⟩))):
 Calls Tryz.prog 66 #[.pointer (some ⟨b,0,none⟩)] w fun e w'=>e=.returned (.tuple #[])/\w'=w:=by
 obtain⟨j,hj,_⟩:=j4b;go_enter Tryz.func66,Tryz.ntmps66;go_wp2;rw[Lib.run_neq_ptr_same w _ Tryz.underlying69 hj];go_wp2
 go_end0
 exact⟨rfl,rfl⟩
theorem j8M (b:Nat)(w:World)(h0:w.cell? ⟨b,0,none⟩=some (.pointer none))(hsh:w.shape? b=some (74,2))(hfz:w.frozen? ⟨b,0,none⟩=false):
 Calls Tryz.prog 66 #[.pointer (some ⟨b,0,none⟩)] w fun e w'=>e=.returned (.tuple #[])/\w'=w.setCell ⟨b,0,none⟩ (.pointer (some ⟨b,0,none⟩)):=by
 obtain⟨j,hj,hjs⟩:=j4b;go_enter Tryz.func66,Tryz.ntmps66;go_wp2;rw[Lib.run_to_unsafe w ⟨b,0,none⟩ Tryz.underlying69 Tryz.underlying197 hj (by rw[hjs];decide) hsh (Nat.zero_lt_succ 1)];simp only[Result.andThen];rw[Oper.upon_value];go_wp2;rw[run_callFunc_extern Tryz.func122 (by kernel_rfl) (by kernel_rfl) (by kernel_rfl) (e:=Extern.AbiNoEscape.same) (by kernel_rfl)];rw[Lib.run_noEscape];simp only[Result.andThen];rw[Oper.upon_value];go_wp2;rw[Lib.run_from_unsafe w ⟨b,0,none⟩ Tryz.underlying197 Tryz.underlying69 hj hsh jAP];simp only[Result.andThen];rw[Oper.upon_value];go_wp2
 go_end0
 exact⟨rfl,rfl⟩
theorem j3S (b:Nat)(g:Option Nat)(l:List UInt8)(w:World)(h:Bw w b g l):
 Calls Tryz.prog 66 #[.pointer (some ⟨b,0,none⟩)] w fun e w'=>e=.returned (.tuple #[])/\(∃v,w'.heap[b]? = some (.cells #[.pointer (some ⟨b,0,none⟩),v] 74 (0,0))/\w'.ownsRowF 0 5 1 v l.length (Lib.byteCells l)/\v.ownBlock=g)/\Wr b w w' g g:=by
 obtain⟨p,v,hp,hb,ho,hg,hne⟩:=h;have hl:(Lib.byteCells l).length=l.length:=Lib.byteCells_length l;have hA:Lib.BuilderAtF 74 5 0 b p (Lib.byteCells l) w:=⟨Nat.zero_le _,v,hb,by rw[hl];exact ho,by rw[hg];exact hne⟩;rcases hp with rfl|rfl
 ·refine(j8M b w hA.cell0 hA.shape hA.frozen0).mono ?_;rintro e w' ⟨rfl,rfl⟩;obtain⟨_,v',hb',ho',hne'⟩:=hA.used (.pointer (some ⟨b,0,none⟩));have hv:v'=v:=by
   have h1:(w.setCell ⟨b,0,none⟩ (.pointer (some ⟨b,0,none⟩))).heap[b]? = some (.cells #[.pointer (some ⟨b,0,none⟩),v] 74 (0,0)):=(by simp[World.setCell,Array.getElem?_modify,hb]);rw[h1] at hb'
   simpa using hb'.symm
  subst hv;exact⟨rfl,⟨_,hb',by rw[hl] at ho';exact ho',hg⟩,⟨(Kp.refl w _).setCell _ _ (.inr (.inl rfl)),.inl rfl⟩⟩
 ·refine(j8N b w hA.cell0).mono ?_;rintro e w' ⟨rfl,rfl⟩;exact⟨rfl,⟨_,hb,ho,hg⟩,Wr.refl _ _ _⟩
theorem jEM {w w':World}{v v':Value}{n:Nat}{xs:List Value}{i:TypeInfo}(hi:Tryz.prog.info? 5=some i)(hz:i.zero=some (.int .u8 0))(hs:i.size=1)(hb:i.bytes=1)(hown:w.ownsRowF 0 5 1 v n xs)
 (a:Addr) (c:Nat) (u:Value) (hu:w.cell? a=some u) (h1:u.oneCell'=true) (h63:n+1<=maxLen) (hbytes:n+1<=140737488355328) {ty:TypeId}
 (hrun:(Builtin.append_ #[70,70] ty #[v,.slice (some a) 1 c]).run Tryz.prog w=.ok v' w'):v'.ownBlock=v.ownBlock∨∃i,v'.ownBlock=some i/\w.heap.size<=i:=by
 have hnews:∀j x,[u][j]? = some x->w.cell? (a.add j)=some x:=by
  intro j x hj
  match j,hj with
  | 0,hj=>
   simp at hj;subst hj;have:a.add 0=a:=(by unfold Addr.add;split <;> simp_all);rw[this];exact hu
 have hone:∀x∈[u],x.oneCell'=true:=by
  intro x hx;simp at hx;subst hx;exact h1
 rcases hown.2 with ⟨rfl,rfl⟩|⟨g,cap,cur,fz,rfl,hbg,hg,hfz,hnc,hcm,hcs,htake⟩
 ·have hx:xs=[]:=List.length_eq_zero_iff.1 (by rw[hown.1]);subst hx;obtain⟨v2,w2,r1,r2,_,r4⟩:=run_append_own (P:=Tryz.prog) w w.heap.size 70 ty 5 i (.int .u8 0) 1 1 Tryz.underlying70 hi hz hs hb rfl (by decide) (.slice none 0 0) 0 [] (World.ownsRow_nil w _ _ _) a 1 c [u] rfl hnews hone h63 (by omega) (Nat.le_refl _);rw[r1] at hrun;injection hrun with e1 e2;subst e1;rcases r2.2 with ⟨_,h0⟩|⟨g,c',cur,rfl,hbg,_⟩
  ·omega
  ·exact .inr ⟨g,rfl,hbg⟩
 ·by_cases hroom:n+1<=cap
  ·have hfit:n*i.size+[u].length<=cur.size:=(by rw[hs,hcs];simp;omega);have hr:=run_append_roomF (P:=Tryz.prog) w 70 ty 5 i Tryz.underlying70 hi g n cap cur fz hg (by rw[hs];exact hfz) a 1 c [u] (by rw[hs];rfl) hnews hone hroom hfit;rw[hr] at hrun;injection hrun with e1 e2;subst e1;exact .inl rfl
  ·have holds:∀j u,xs[j]? = some u->w.cell? ((⟨g,0,none⟩:Addr).add j)=some u:=hown.cells (g:=g) rfl;have hr:=run_append_grow (P:=Tryz.prog) w 70 ty 5 i (.int .u8 0) Tryz.underlying70 hi hz ⟨g,0,none⟩ n cap xs (by rw[hs];exact hown.1) holds a 1 c [u] (by rw[hs];rfl) hnews (by omega) (by unfold maxLen at h63;omega) (growslice_fits (by omega) (by rw[hb];omega));rw[hr] at hrun;injection hrun with e1 e2;subst e1;exact .inr ⟨_,rfl,Nat.le_refl _⟩
theorem jEN {w w':World}{v v':Value}{n:Nat}{xs:List Value}{i:TypeInfo}(hi:Tryz.prog.info? 5=some i)(hz:i.zero=some (.int .u8 0))(hs:i.size=1)(hb:i.bytes=1)(hown:w.ownsRowF 0 5 1 v n xs)
 (s:ByteArray) (h63:n+s.size<=maxLen) (hbytes:n+s.size<=140737488355328) {ty:TypeId}
 (hrun:(Builtin.append_ #[70,9] ty #[v,.string s]).run Tryz.prog w=.ok v' w'):v'.ownBlock=v.ownBlock∨∃i,v'.ownBlock=some i/\w.heap.size<=i:=by
 rcases hown.2 with ⟨rfl,rfl⟩|⟨g,cap,cur,fz,rfl,hbg,hg,hfz,hnc,hcm,hcs,htake⟩
 ·have hx:xs=[]:=List.length_eq_zero_iff.1 (by rw[hown.1]);subst hx;obtain⟨v2,w2,r1,r2,_,r4⟩:=Lib.run_append_own_string (P:=Tryz.prog) w w.heap.size 70 9 ty 5 i Tryz.underlying70 Tryz.underlying9 hi hz hs hb (.slice none 0 0) 0 [] (World.ownsRow_nil w _ _ _) s h63 hbytes (Nat.le_refl _);rw[r1] at hrun;injection hrun with e1 e2;subst e1;rcases r2.2 with ⟨rfl,h0⟩|⟨g,c',cur,rfl,hbg,_⟩
  ·exact .inl rfl
  ·exact .inr ⟨g,rfl,hbg⟩
 ·have hcs':cur.size=cap:=by simpa using hcs
  by_cases hroom:n+s.size<=cap
  ·have hr:=Lib.run_append_room_stringF (P:=Tryz.prog) w 70 9 ty 5 i Tryz.underlying70 Tryz.underlying9 hi hs g n cap cur fz hg (by simpa using hfz) s hroom (by omega);rw[hr] at hrun;injection hrun with e1 e2;subst e1;exact .inl rfl
  ·have holds:∀j u,xs[j]? = some u->w.cell? ((⟨g,0,none⟩:Addr).add j)=some u:=hown.cells (g:=g) rfl;have hr:=Lib.run_append_grow_string (P:=Tryz.prog) w 70 9 ty 5 i (.int .u8 0) Tryz.underlying70 Tryz.underlying9 hi hz ⟨g,0,none⟩ n cap xs (by rw[hs];exact hown.1) holds s (by omega) (by unfold maxLen at h63;omega) (growslice_fits (by omega) (by rw[hb];omega));rw[hr] at hrun;injection hrun with e1 e2;subst e1;exact .inr ⟨_,rfl,Nat.le_refl _⟩
structure ApR (l:List UInt8) (v:Value) (w:World) (v':Value) (w':World):Prop where
 own:w'.ownsRowF 0 5 1 v' l.length (Lib.byteCells l)
 grow:w.grownBy w' v.ownBlock
 row:v'.ownBlock=v.ownBlock∨∃i,v'.ownBlock=some i/\w.heap.size<=i
 sl:∃ao n k,v'=.slice ao n k
theorem jFH {ops:Array Oper}{rest:List Oper}{o:Oper}{a:Act}{w:World}{Q:Exit->Act->World->Prop}(hgd:o.guard=none)(s x:Operand)
 (ho:o.op=Op.call { callee:=Callee.builtin Builtin.append,args:=#[s,x],argTypes:=#[70,70] })
 (v:Value) (l:List UInt8) (hs:a.eval s=v) (hown:w.ownsRowF 0 5 1 v l.length (Lib.byteCells l)) (ad:Addr) (k:Nat) (c:UInt8) (hx:a.eval x=.slice (some ad) 1 k) (hc:w.cell? ad=some (.int .u8 c.toNat)) (hlen:l.length+1<=140737488355328)
 (h:∀v' w',ApR (l++[c]) v w v' w'->wpList Tryz.prog ops Q rest (a.put o.dst v') w'):wpList Tryz.prog ops Q (o::rest) a w:=by
 obtain⟨i,hi,hz,h4,h5⟩:=U6;have hnews:∀j x,[Value.int .u8 c.toNat][j]? = some x->w.cell? (ad.add j)=some x:=by
  intro j x hj
  match j,hj with
  | 0,hj=>
   simp at hj;subst hj;have:ad.add 0=ad:=(by unfold Addr.add;split <;> simp_all);rw[this];exact hc
 have hone:∀x∈[Value.int .u8 c.toNat],x.oneCell'=true:=by
  intro x hx;simp at hx;subst hx
  rfl
 have h63:l.length+1<=maxLen:=by unfold maxLen;omega
 refine wpList_plain hgd fun K hK=>?_
 obtain⟨v',w',hr,h2,h3,h6⟩:=run_append_ownF (P:=Tryz.prog) w 0 70 o.type 5 i (.int .u8 0) 1 1 Tryz.underlying70 hi hz h4 h5 rfl (by decide) v l.length (Lib.byteCells l) hown ad 1 k [.int .u8 c.toNat] rfl hnews hone h63 (by omega) (Nat.zero_le _);have ht:=jEM hi hz h4 h5 hown ad k _ hc rfl h63 hlen hr;unfold Oper.wp execOp;simp only[ho,resolve,invoke,builtin,Sem.run_bind,Sem.run_pure,Result.andThen_ok,List.map_toArray,List.map_cons,List.map_nil,hs,hx,hr];refine hK _ _ (h v' w' ⟨?_,h3,ht,?_⟩)
 ·have e:Lib.byteCells (l++[c])=Lib.byteCells l++[.int .u8 c.toNat]:=List.map_append;rw[e,List.length_append];exact h2
 ·rcases h2.2 with ⟨rfl,_⟩|⟨g,cap,cur,fz,rfl,_⟩
  ·exact⟨_,_,_,rfl⟩
  ·exact⟨_,_,_,rfl⟩
theorem jFJ {ops:Array Oper}{rest:List Oper}{o:Oper}{a:Act}{w:World}{Q:Exit->Act->World->Prop}(hgd:o.guard=none)(s x:Operand)
 (ho:o.op=Op.call { callee:=Callee.builtin Builtin.append,args:=#[s,x],argTypes:=#[70,9] })
 (v:Value) (l:List UInt8) (hs:a.eval s=v) (hown:w.ownsRowF 0 5 1 v l.length (Lib.byteCells l)) (t:ByteArray) (hx:a.eval x=.string t) (hlen:l.length+t.size<=140737488355328)
 (h:∀v' w',ApR (l++t.data.toList) v w v' w'->wpList Tryz.prog ops Q rest (a.put o.dst v') w'):wpList Tryz.prog ops Q (o::rest) a w:=by
 obtain⟨i,hi,hz,h4,h5⟩:=U6;have h63:l.length+t.size<=maxLen:=by unfold maxLen;omega
 refine wpList_plain hgd fun K hK=>?_
 obtain⟨v',w',hr,h2,h3,h6⟩:=Lib.run_append_own_stringF (P:=Tryz.prog) w 0 70 9 o.type 5 i Tryz.underlying70 Tryz.underlying9 hi hz h4 h5 v l.length (Lib.byteCells l) hown t h63 hlen (Nat.zero_le _);have ht:=jEN hi hz h4 h5 hown t h63 hlen hr;unfold Oper.wp execOp;simp only[ho,resolve,invoke,builtin,Sem.run_bind,Sem.run_pure,Result.andThen_ok,List.map_toArray,List.map_cons,List.map_nil,hs,hx,hr];refine hK _ _ (h v' w' ⟨?_,h3,ht,?_⟩)
 ·have e:Lib.byteCells (l++t.data.toList)=Lib.byteCells l++Lib.strCells t:=List.map_append;have hl2:t.data.toList.length=t.size:=by rw[Array.length_toList];rfl
  rw[e,List.length_append,hl2];exact h2
 ·rcases h2.2 with ⟨rfl,_⟩|⟨g,cap,cur,fz,rfl,_⟩
  ·exact⟨_,_,_,rfl⟩
  ·exact⟨_,_,_,rfl⟩
theorem Bw.put {w:World}{b:Nat}{p v v':Value}{l:List UInt8}(hp:p=.pointer none∨p=.pointer (some ⟨b,0,none⟩))(hb:w.heap[b]? = some (.cells #[p,v] 74 (0,0)))(ho:w.ownsRowF 0 5 1 v' l.length (Lib.byteCells l)):Bw (w.setCell ⟨b,1,none⟩ v') b v'.ownBlock l:=by
 obtain⟨_,v2,h2,h3,h4⟩:=Lib.BuilderAtF.put (T:=74) (e:=5) (B:=0) (Nat.zero_le b) hb (bs':=Lib.byteCells l) (by rw[Lib.byteCells_length];exact ho) neWU;have e:v2=v':=by
  have h1:(w.setCell ⟨b,1,none⟩ v').heap[b]? = some (.cells #[p,v'] 74 (0,0)):=by simp[World.setCell,Array.getElem?_modify,hb]
  rw[h1] at h2
  simpa using h2.symm
 subst e;rw[Lib.byteCells_length] at h3;exact⟨p,v2,hp,h2,h3,rfl,h4⟩
theorem jEq (b:Nat)(g:Option Nat)(l:List UInt8)(c:UInt8)(w:World)(h:Bw w b g l)(hl:l.length+1<=140737488355328):
 Calls Tryz.prog 67 #[.pointer (some ⟨b,0,none⟩),.int .u8 c.toNat] w fun e w'=>e=.returned .nilIface/\∃g',Bw w' b g' (l++[c])/\Wr b w w' g g':=by
 have H:Hid (∀wq,wq=w->Calls Tryz.prog 66 #[.pointer (some ⟨b,0,none⟩)] wq fun e w'=>e=.returned (.tuple #[])/\(∃v,w'.heap[b]? = some (.cells #[.pointer (some ⟨b,0,none⟩),v] 74 (0,0))/\w'.ownsRowF 0 5 1 v l.length (Lib.byteCells l)/\v.ownBlock=g)/\Wr b w w' g g):=fun wq e=>by rw[e];exact j3S b g l w h
 go_enter Tryz.func67,Tryz.ntmps67;go_wp2_with fail;refine(H.out _ rfl).mono ?_;rintro e w1 ⟨rfl,⟨v,hbk,hown,hg⟩,hwr⟩;have c1:w1.cell? ⟨b,1,none⟩=some v:=by rw[Lib.cell_of_heap hbk];rfl
 have hlt:b<w1.heap.size:=(Array.getElem?_eq_some_iff.1 hbk).1;have HG:Hid (v.ownBlock=g):=hg;clear H hg;go_wp2_with (at_builtin;refine jFH rfl _ _ rfl v l rfl (hown.alloc _) ⟨w1.heap.size,0,none⟩ _ c rfl (by simp) hl ?_);rintro v' w2 ⟨hown',hgrow,hrow,hsl⟩;obtain⟨ao,n',k',rfl⟩:=hsl;have hne:¬some b=v.ownBlock:=fun e=>by
  obtain⟨c',fz,hc'⟩:=Lib.ownsRowF_kind hown b e.symm;rw[hbk] at hc';simp at hc'
 have hb2:w2.heap[b]? = some (.cells #[.pointer (some ⟨b,0,none⟩),v] 74 (0,0)):=by
  rw[hgrow.block b (by simp;omega) hne,Lib.alloc_old w1 _ b hlt];exact hbk
 have d0:w2.cell? ⟨b,0,none⟩=some (.pointer (some ⟨b,0,none⟩)):=by rw[Lib.cell_of_heap hb2];rfl
 have d1:w2.cell? ⟨b,1,none⟩=some v:=by rw[Lib.cell_of_heap hb2];rfl
 have f1:w2.frozen? ⟨b,1,none⟩=false:=Lib.frozen_of_heap hb2 1;go_wp2_with fail;go_ret;refine⟨rfl,_,Bw.put (.inr rfl) hb2 hown',⟨?_,?_⟩⟩
 ·exact(((hwr.kp.alloc _).trans' (T:=fun i=>some i=v.ownBlock) (Kp.of_grown hgrow (fun i e=>e.symm)) (fun i _ e=>.inr (HG.out ▸ e.symm)))).setCell _ _ (.inr (.inl rfl))
 ·rcases hrow with r|⟨i,r,hi⟩
  ·exact .inl (r.trans HG.out)
  ·exact .inr ⟨i,r,by have:=hwr.kp.size;simp at hi;omega⟩
theorem j6w (b:Nat)(g:Option Nat)(l:List UInt8)(t:ByteArray)(w:World)(h:Bw w b g l)(hl:l.length+t.size<=140737488355328):
 Calls Tryz.prog 27 #[.pointer (some ⟨b,0,none⟩),.string t] w fun e w'=>(∃v,e=.returned v)/\∃g',Bw w' b g' (l++t.data.toList)/\Wr b w w' g g':=by
 have H:Hid (∀wq,wq=w->Calls Tryz.prog 66 #[.pointer (some ⟨b,0,none⟩)] wq fun e w'=>e=.returned (.tuple #[])/\(∃v,w'.heap[b]? = some (.cells #[.pointer (some ⟨b,0,none⟩),v] 74 (0,0))/\w'.ownsRowF 0 5 1 v l.length (Lib.byteCells l)/\v.ownBlock=g)/\Wr b w w' g g):=fun wq e=>by rw[e];exact j3S b g l w h
 go_enter Tryz.func27,Tryz.ntmps27;go_wp2_with fail;refine(H.out _ rfl).mono ?_;rintro e w1 ⟨rfl,⟨v,hbk,hown,hg⟩,hwr⟩;have c1:w1.cell? ⟨b,1,none⟩=some v:=by rw[Lib.cell_of_heap hbk];rfl
 have hlt:b<w1.heap.size:=(Array.getElem?_eq_some_iff.1 hbk).1;have HG:Hid (v.ownBlock=g):=hg;clear H hg;go_wp2_with (at_builtin;refine jFJ rfl _ _ rfl v l rfl hown t rfl hl ?_);rintro v' w2 ⟨hown',hgrow,hrow,hsl⟩;obtain⟨ao,n',k',rfl⟩:=hsl;have hne:¬some b=v.ownBlock:=fun e=>by
  obtain⟨c',fz,hc'⟩:=Lib.ownsRowF_kind hown b e.symm;rw[hbk] at hc';simp at hc'
 have hb2:w2.heap[b]? = some (.cells #[.pointer (some ⟨b,0,none⟩),v] 74 (0,0)):=by
  rw[hgrow.block b hlt hne];exact hbk
 have d0:w2.cell? ⟨b,0,none⟩=some (.pointer (some ⟨b,0,none⟩)):=by rw[Lib.cell_of_heap hb2];rfl
 have d1:w2.cell? ⟨b,1,none⟩=some v:=by rw[Lib.cell_of_heap hb2];rfl
 have f1:w2.frozen? ⟨b,1,none⟩=false:=Lib.frozen_of_heap hb2 1;go_wp2_with fail
 go_ret2
 refine⟨⟨_,rfl⟩,_,Bw.put (.inr rfl) hb2 hown',⟨?_,?_⟩⟩
 ·exact((hwr.kp.trans' (T:=fun i=>some i=v.ownBlock) (Kp.of_grown hgrow (fun i e=>e.symm)) (fun i _ e=>.inr (HG.out ▸ e.symm)))).setCell _ _ (.inr (.inl rfl))
 ·rcases hrow with r|⟨i,r,hi⟩
  ·exact .inl (r.trans HG.out)
  ·exact .inr ⟨i,r,by have:=hwr.kp.size;omega⟩
theorem jEw (b:Nat)(g:Option Nat)(l:List UInt8)(w:World)(h:Bw w b g l):
 Calls Tryz.prog 32 #[.pointer (some ⟨b,0,none⟩)] w fun e w'=>e=.returned (.int .i64 l.length)/\w'=w:=by
 obtain⟨p,v,hp,hbk,hown,hg,hne⟩:=h;obtain⟨ao,cap,rfl⟩:∃ao cap,v=.slice ao l.length cap:=by
  rcases hown.2 with ⟨hv,h0⟩|⟨g,cap,cur,fz,hv,_⟩
  ·exact⟨none,0,by rw[hv,h0]⟩
  ·exact⟨_,_,hv⟩
 have c1:w.cell? ⟨b,1,none⟩=some (.slice ao l.length cap):=by rw[Lib.cell_of_heap hbk];rfl
 go_enter Tryz.func32,Tryz.ntmps32;go_wp2_with fail;go_ret;exact⟨rfl,rfl⟩
end
end Go.Proofs.YtnceajanlnnfoaaGreatDoor
