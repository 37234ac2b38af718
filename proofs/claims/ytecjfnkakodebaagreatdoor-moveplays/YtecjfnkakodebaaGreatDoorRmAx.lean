/-Cells and areas: plain functions. -/
import Derived.Test.YtecjfnkakodebaaGreatDoorRmGa
import Derived.Deep.RegionWith
import Derived.Deep.MidRow
import Derived.Deep.RegionHeld3
open Go.Proofs.Tryz
open Go.Value renaming int->O,bool->E,slice->U,agg->T,float->ap,string->aq,tuple->au
open Go.IntKind renaming i64->I
open Bool renaming false->R,true->J
open Option renaming some->H,none->G
open Go.Ending renaming returned->Q
open Go.FloatKind renaming f64->ao
set_option maxHeartbeats 4000000
namespace Go.Proofs.YtecjfnkakodebaaGreatDoor
open Go.RowKit
def vC (c r:Int):Bool:=decide (1<=c)&&decide (c<=256)&&decide (1<=r)&&decide (r<=4096)
def cmpI (a b:Int):Int:=if a<b then -1 else if b<a then 1 else 0
def ordC (c r d s:Int):Int:=if cmpI r s=0 then cmpI c d else cmpI r s
def vA (c r d s:Int):Bool:=vC c r&&vC d s&&decide (c<=d)&&decide (r<=s)
def inA (c r d s x y:Int):Bool:=vA c r d s&&decide (c<=x)&&decide (x<=d)&&decide (r<=y)&&decide (y<=s)
def j0w (c r d s:Int):Int:=if vA c r d s then (d-c+1)*(s-r+1) else 0
def shN (n by' most:Int) (fixed:Bool):Int×Bool:=if fixed then (n,J) else if by' < -n∨most<by' then (0,R) else (n+by',decide (1<=n+by')&&decide (n+by'<=most))
def shOk (c r:Int) (cf rf:Bool) (x y:Int):Bool:=vC c r&&(shN c x 256 cf).2&&(shN r y 4096 rf).2
def refV (c r:Int) (cf rf:Bool):Value:=T #[O I c,O I r,E cf,E rf]
def j17 (c r d s:Int):Value:=T #[O I c,O I r,O I d,O I s]
def shV (c r:Int) (cf rf:Bool) (x y:Int):Value:=if shOk c r cf rf x y then refV (shN c x 256 cf).1 (shN r y 4096 rf).1 cf rf else refV 0 0 R R
def arE (c r d s:Int):Int:=if vC c r&&vC d s then 0 else 20
def arV (c r d s:Int):Value:=if vC c r&&vC d s then j17 (min c d) (min r s) (max c d) (max r s) else j17 0 0 0 0
theorem G6 (c r:Int):vC c r=J↔1<=c/\c<=256/\1<=r/\r<=4096:=by
 simp[vC,Bool.and_eq_true,and_assoc]
theorem j7M (c r d s:Int):vA c r d s=J->1<=c/\c<=d/\d<=256/\1<=r/\r<=s/\s<=4096:=by
 simp only[vA,vC,Bool.and_eq_true,decide_eq_true_eq];omega
theorem j0y (c r d s:Int):vA c r d s=J↔1<=c/\c<=d/\d<=256/\1<=r/\r<=s/\s<=4096:=by
 simp only[vA,vC,Bool.and_eq_true,decide_eq_true_eq];omega
theorem jBR (a b:Int)(h0:0<=a)(h1:a<=10000)(k0:0<=b)(k1:b<=10000):0<=a*b/\a*b<=100000000:=by
 refine⟨Int.mul_nonneg h0 k0,?_⟩;have:=Int.mul_le_mul h1 k1 k0 (by decide);omega
theorem j2J (c r:Int)(w:World):
 Calls prog 49 #[T #[O I c,O I r]] w fun e w'=>e=Q (E (vC c r))/\w'=w.alloc (.cells #[O I c,O I r] 32):=by
 have hV:Hid (vC c r=(decide (1<=c)&&decide (c<=256)&&decide (1<=r)&&decide (r<=4096))):=rfl;generalize vC c r=V at *;go_enter func49,ntmps49;go_wp2;all_goals
  go_ret;refine⟨j4 ?_,rfl⟩;rw[hV.o,Bool.eq_iff_iff];simp only[Bool.and_eq_true,decide_eq_true_eq,Bool.false_eq_true,false_iff];omega
theorem j0t (c r:Int)(w:World):
 Calls prog 49 #[T #[O I c,O I r]] w fun e w'=>e=Q (E (vC c r))/\Gr w w':=
 (j2J c r w).mono fun e w' h=>⟨h.1,by rw[h.2];exact(Gr.refl w).alloc _ _⟩
theorem j6b (a b:Int)(w:World):
 Calls prog 127 #[O I a,O I b] w fun e w'=>e=Q (O I (cmpI a b))/\w'=w:=by
 have hV:Hid (cmpI a b=if a<b then -1 else if b<a then 1 else 0):=rfl;generalize cmpI a b=V at *;go_enter func127,ntmps127;go_wp2;all_goals
  go_ret;refine⟨rInt ?_,rfl⟩;rw[hV.o];repeat' split
  all_goals omega
theorem jCl (c r d s:Int)(w:World):
 Calls prog 92 #[T #[O I c,O I r],T #[O I d,O I s]] w fun e w'=>e=Q (O I (ordC c r d s))/\Gr w w':=by
 have G1:Hid (Gr w ((w.alloc (.cells #[O I c,O I r] 32)).alloc (.cells #[O I d,O I s] 32))):=((Gr.refl w).alloc _ _).alloc _ _;have H1:=h_ (j6b r s);have H2:=h_ (j6b c d);have hV:Hid (ordC c r d s=if cmpI r s=0 then cmpI c d else cmpI r s):=rfl;generalize ordC c r d s=V at *;generalize cmpI r s=p at *;generalize cmpI c d=q at *;go_enter func92,ntmps92;go_wp2_with (first|(go_at_call_of 127 (O I r);refine(H1.o _).mono ?_;rintro e w' ⟨rfl,rfl⟩)|(go_at_call_of 127 (O I c);refine(H2.o _).mono ?_;rintro e w' ⟨rfl,rfl⟩));all_goals
  rename_i hp
  go_ret;refine⟨rInt ?_,G1.o⟩;rw[hV.o];simp only[bne_iff_ne,ne_eq,bne_eq_false_iff_eq] at hp;simp only[hp,if_true,if_false]
theorem Q3 (c r d s:Int)(w:World):
 Calls prog 73 #[T #[O I c,O I r,O I d,O I s]] w fun e w'=>e=Q (E (vA c r d s))/\w'=((w.alloc (.cells #[O I c,O I r,O I d,O I s] 34)).alloc (.cells #[O I c,O I r] 32)).alloc (.cells #[O I d,O I s] 32):=by
 have H1:=h_ (j2J c r);have H2:=h_ (j2J d s);have hV:Hid (vA c r d s=(vC c r&&vC d s&&decide (c<=d)&&decide (r<=s))):=rfl;generalize vA c r d s=V at *;generalize vC c r=p at *;generalize vC d s=q at *;go_enter func73,ntmps73;go_wp2_with fail;refine(H1.o _).mono ?_;rintro e w' ⟨rfl,rfl⟩;go_wp2_with fail;refine(H2.o _).mono ?_;rintro e w' ⟨rfl,rfl⟩;go_wp2_with fail;all_goals
  go_ret;refine⟨j4 ?_,rfl⟩;rw[hV.o];clear H1 H2 hV;cases p <;> cases q <;> (try simp_all) <;> (try omega)
theorem j6p (n b m:Int)(f:Bool)(hn0:0<=n)(hn1:n<100000)(hm0:0<=m)(hm1:m<100000)(w:World):
 Calls prog 177 #[O I n,O I b,O I m,E f] w fun e w'=>e=Q (au #[O I (shN n b m f).1,E (shN n b m f).2])/\w'=w:=by
 cases f
 ·by_cases c1:b < -n
  ·have h1:Hid (shN n b m R=(0,R)):=(by show _=_;unfold shN;rw[if_neg (by decide),if_pos (.inl c1)]);generalize shN n b m R=X at *;go_enter func177,ntmps177;go_wp2
   go_ret2
   rw[h1.o];exact⟨rfl,rfl⟩
  ·by_cases c2:m<b
   ·have h1:Hid (shN n b m R=(0,R)):=(by show _=_;unfold shN;rw[if_neg (by decide),if_pos (.inr c2)]);generalize shN n b m R=X at *;go_enter func177,ntmps177;go_wp2
    go_ret2
    rw[h1.o];exact⟨rfl,rfl⟩
   ·have h1:Hid (shN n b m R=(n+b,decide (1<=n+b)&&decide (n+b<=m))):=(by show _=_;unfold shN;rw[if_neg (by decide),if_neg (by omega)]);generalize shN n b m R=X at *;have c1':-n<=b:=(by omega);have c2':b<=m:=(by omega);clear c1 c2;by_cases c3:1<=n+b
    ·go_enter func177,ntmps177;go_wp2
     go_ret2
     rw[h1.o];refine⟨rTwo rfl (j7N ?_),rfl⟩;simp[c3]
    ·have c3':n+b<1:=(by omega);clear c3;go_enter func177,ntmps177;go_wp2
     go_ret2
     rw[h1.o];refine⟨rTwo rfl (j7N ?_),rfl⟩;rw[decide_eq_false (by omega)]
     rfl
 ·have h1:Hid (shN n b m J=(n,J)):=rfl;generalize shN n b m J=X at *;go_enter func177,ntmps177;go_wp2
  go_ret2
  rw[h1.o];exact⟨rfl,rfl⟩
theorem U5 (c r:Int)(w:World):
 Calls prog 44 #[T #[O I c,O I r]] w fun e w'=>e=Q (E (vC c r))/\w'=w.alloc (.cells #[O I c,O I r] 32):=by
 have hV:Hid (vC c r=(decide (1<=c)&&decide (c<=256)&&decide (1<=r)&&decide (r<=4096))):=rfl;generalize vC c r=V at *;go_enter func44,ntmps44;go_wp2;all_goals
  go_ret;refine⟨j4 ?_,rfl⟩;rw[hV.o,Bool.eq_iff_iff];simp only[Bool.and_eq_true,decide_eq_true_eq,Bool.false_eq_true,false_iff];omega
theorem Y8 (c r d s:Int)(w:World):
 Calls prog 58 #[T #[O I c,O I r,O I d,O I s]] w fun e w'=>e=Q (E (vA c r d s))/\Gr w w':=by
 have H1:=h_ (U5 c r);have H2:=h_ (U5 d s);have hV:Hid (vA c r d s=(vC c r&&vC d s&&decide (c<=d)&&decide (r<=s))):=rfl;have G2:Hid (∀a b t u,Gr w ((w.alloc (.cells a t)).alloc (.cells b u))):=fun a b t u=>((Gr.refl w).alloc _ _).alloc _ _
 have G3:Hid (∀a b d t u v,Gr w (((w.alloc (.cells a t)).alloc (.cells b u)).alloc (.cells d v))):=fun a b d t u v=>(((Gr.refl w).alloc _ _).alloc _ _).alloc _ _
 generalize vA c r d s=V at *;generalize vC c r=p at *;generalize vC d s=q at *;cases p
 ·go_enter func58,ntmps58;go_wp2_with fail;refine(H1.o _).mono ?_;rintro e w' ⟨rfl,rfl⟩;go_wp2_with fail;go_ret;exact⟨j4 hV.o.symm,G2.o _ _ _ _⟩
 ·cases q
  ·go_enter func58,ntmps58;go_wp2_with fail;refine(H1.o _).mono ?_;rintro e w' ⟨rfl,rfl⟩;go_wp2_with fail;refine(H2.o _).mono ?_;rintro e w' ⟨rfl,rfl⟩;go_wp2_with fail;go_ret;exact⟨j4 hV.o.symm,G3.o _ _ _ _ _ _⟩
  ·go_enter func58,ntmps58;go_wp2_with fail;refine(H1.o _).mono ?_;rintro e w' ⟨rfl,rfl⟩;go_wp2_with fail;refine(H2.o _).mono ?_;rintro e w' ⟨rfl,rfl⟩;go_wp2_with fail;all_goals
    go_ret;refine⟨j4 ?_,G3.o _ _ _ _ _ _⟩;rw[hV.o];clear H1 H2 hV G2 G3
    (try simp_all) <;> (try omega)
theorem j6D (c r d s x y:Int)(w:World):
 Calls prog 20 #[T #[O I c,O I r,O I d,O I s],T #[O I x,O I y]] w fun e w'=>e=Q (E (inA c r d s x y))/\Gr w w':=by
 have H1:=h_ (Y8 c r d s);have ah:Hid (Gr w ((w.alloc (.cells #[O I c,O I r,O I d,O I s] 34)).alloc (.cells #[O I x,O I y] 32))):=((Gr.refl w).alloc _ _).alloc _ _;have hV:Hid (inA c r d s x y=(vA c r d s&&decide (c<=x)&&decide (x<=d)&&decide (r<=y)&&decide (y<=s))):=rfl;generalize inA c r d s x y=V at *;generalize vA c r d s=p at *;go_enter func20,ntmps20;go_wp2_with fail;refine(H1.o _).mono ?_;rintro e w1 ⟨rfl,hg⟩;have hcell:=hg.ext.cell;have G1:=h_ (ah.o.trans hg);clear hg ah;go_wp2_with fail;all_goals
  go_ret;refine⟨j4 ?_,G1.o⟩;rw[hV.o];clear H1 hV G1 hcell;cases p <;> (try simp_all) <;> (try omega)
theorem j6E (c r d s:Int)(w:World):
 Calls prog 152 #[T #[O I c,O I r,O I d,O I s]] w fun e w'=>e=Q (O I (j0w c r d s))/\Gr w w':=by
 have H1:=h_ (Y8 c r d s);have ah:Hid (Gr w (w.alloc (.cells #[O I c,O I r,O I d,O I s] 34))):=(Gr.refl w).alloc _ _;have hV:Hid (j0w c r d s=if vA c r d s then (d-c+1)*(s-r+1) else 0):=rfl;have hb:=j7M c r d s;generalize j0w c r d s=V at *;generalize vA c r d s=p at *;cases p
 ·clear hb;go_enter func152,ntmps152;go_wp2_with fail;refine(H1.o _).mono ?_;rintro e w1 ⟨rfl,hg⟩;have G1:=h_ (ah.o.trans hg);clear hg;go_wp2_with fail;go_ret;exact⟨rInt hV.o.symm,G1.o⟩
 ·obtain⟨h1,h2,h3,h4,h5,h6⟩:=hb rfl;obtain⟨m0,m1⟩:=jBR (d-c+1) (s-r+1) (by omega) (by omega) (by omega) (by omega);have hV':=h_ hV.o.symm;clear hV hb;go_enter func152,ntmps152;go_wp2_with fail;refine(H1.o _).mono ?_;rintro e w1 ⟨rfl,hg⟩;have hcell:=hg.ext.cell;have G1:=h_ (ah.o.trans hg);clear hg;go_wp2_with fail;go_ret;exact⟨rInt hV'.o,G1.o⟩
theorem jCf (c r d s:Int)(w:World):
 Calls prog 132 #[T #[O I c,O I r],T #[O I d,O I s]] w fun e w'=>e=Q (T #[O I (min c d),O I (min r s)])/\w'=((w.alloc (.cells #[O I c,O I r] 32)).alloc (.cells #[O I d,O I s] 32)).alloc (.cells #[O I (min c d),O I (min r s)] 32):=by
 have e1:(if d<c then d else c)=min c d:=by omega
 have e2:(if s<r then s else r)=min r s:=by omega
 generalize min c d=X at *;generalize min r s=Y at *;go_enter func132,ntmps132;go_wp2;refine bodyPost_ret (v:=T #[O I X,O I Y]) (by simp[results,results132,go_sem, *]) rfl ?_;exact⟨rfl,rfl⟩
theorem jCR (c r d s:Int)(w:World):
 Calls prog 133 #[T #[O I c,O I r],T #[O I d,O I s]] w fun e w'=>e=Q (T #[O I (max c d),O I (max r s)])/\w'=((w.alloc (.cells #[O I c,O I r] 32)).alloc (.cells #[O I d,O I s] 32)).alloc (.cells #[O I (max c d),O I (max r s)] 32):=by
 have e1:(if c<d then d else c)=max c d:=by omega
 have e2:(if r<s then s else r)=max r s:=by omega
 generalize max c d=X at *;generalize max r s=Y at *;go_enter func133,ntmps133;go_wp2;refine bodyPost_ret (v:=T #[O I X,O I Y]) (by simp[results,results133,go_sem, *]) rfl ?_;exact⟨rfl,rfl⟩
def Has2 (w:World) (b:Nat) (x y:Value):Prop:=(w.cell? ⟨b,0,G⟩=H x/\w.cell? ⟨b,1,G⟩=H y)/\(w.frozen? ⟨b,0,G⟩=R/\w.frozen? ⟨b,1,G⟩=R)
theorem j1I (w:World)(x y:Value)(t:TypeId):Has2 (w.alloc (.cells #[x,y] t)) w.heap.size x y:=by
 refine⟨⟨?_,?_⟩,?_,?_⟩
 ·rw[World.cell?_alloc_at _ _ _ _ rfl];rfl
 ·rw[World.cell?_alloc_at _ _ _ _ rfl];rfl
 ·rw[frozen?_alloc_cells,j1G]
 ·rw[frozen?_alloc_cells,j1G]
theorem Has2.gr {w w':World}{b:Nat}{x y:Value}(h:Has2 w b x y)(g:Gr w w'):Has2 w' b x y:=by
 obtain⟨⟨h0,h1⟩,f0,f1⟩:=h;exact⟨⟨g.cell (J7 h0) h0,g.cell (J7 h1) h1⟩,by rw[g.froz,f0],by rw[g.froz,f1]⟩
structure Hd where
 k:Int
 o:Int
 x:Nat
 s:ByteArray
 b:Bool
 f:Int
 c1:Int
 r1:Int
 p1:Bool
 q1:Bool
 c2:Int
 r2:Int
 p2:Bool
 q2:Bool
inductive Nd where
 | mk (h:Hd) (ts:List Nd)
def Nd.hd:Nd->Hd
 | .mk h _=>h
def Nd.ts:Nd->List Nd
 | .mk _ ts=>ts
theorem Nd.eta (t:Nd):t=.mk t.hd t.ts:=by cases t;rfl
mutual
def Nd.size:Nd->Nat
 | .mk _ ts=>1+D3 ts
def D3:List Nd->Nat
 | []=>0
 | t::ts=>t.size+D3 ts
end
theorem j6y (a b:List Nd):D3 (a++b)=D3 a+D3 b:=by
 induction a with
 | nil=>simp[D3]
 | cons t ts ih=>rw[List.cons_append,D3,D3,ih,Nat.add_assoc]
theorem j2W (ts:List Nd)(i:Nat)(h:i<ts.length):D3 (ts.take (i+1))=D3 (ts.take i)+(ts[i]).size:=by
 rw[List.take_add_one,List.getElem?_eq_getElem h,j6y];simp[D3]
theorem j2X (ts:List Nd)(i:Nat):D3 (ts.take i)<=D3 ts:=by
 conv=>rhs;rw[<- List.take_append_drop i ts,j6y]
 exact Nat.le_add_right _ _
theorem L7 (t:Nd):1<=t.size:=by cases t;rw[Nd.size];omega
theorem Q4 (ts:List Nd)(i:Nat)(h:i<ts.length):(ts[i]).size<=D3 ts:=by
 have:=j2W ts i h;have:=j2X ts (i+1);omega
theorem j0k (ts:List Nd):ts.length<=D3 ts:=by
 induction ts with
 | nil=>simp
 | cons t ts ih=>have:=L7 t;rw[D3,List.length_cons];omega
abbrev Hd.cells (h:Hd) (sl:Value):List Value:=[O I h.k,O I h.o,ap ao h.x,aq h.s,E h.b,O I h.f,O I h.c1,O I h.r1,E h.p1,E h.q1,O I h.c2,O I h.r2,E h.p2,E h.q2,sl]
abbrev Hd.val (h:Hd) (sl:Value):Value:=T #[O I h.k,O I h.o,ap ao h.x,aq h.s,E h.b,O I h.f,O I h.c1,O I h.r1,E h.p1,E h.q1,O I h.c2,O I h.r2,E h.p2,E h.q2,sl]
mutual
def NdIn (w:World) (F:Nat->Prop) (sl:Value):Nd->Prop
 | .mk _ ts=>∃(a:Option Addr) (c:Nat),sl=U a ts.length c/\ts.length<=c/\c<=maxLen/\((ts=[]/\(c=0∨a≠G))∨∃b o,a=H ⟨b,o,G⟩/\F b/\F6 w F b o ts)
def F6 (w:World) (F:Nat->Prop) (b o:Nat):List Nd->Prop
 | []=>True
 | t::ts=>(∃sl,w.rangeAt b o (t.hd.cells sl)/\NdIn w F sl t)/\F6 w F b (o+15) ts
end
theorem F6.get {w:World}{F:Nat->Prop}{b:Nat}{ts:List Nd}:∀ {o:Nat},F6 w F b o ts->∀i,(h:i<ts.length)->∃sl,w.rangeAt b (o+i*15) ((ts[i]).hd.cells sl)/\NdIn w F sl ts[i]:=by
 induction ts with
 | nil=>intro o _ i h;exact absurd h (by simp)
 | cons t ts ih=>
  intro o hn i h;rw[F6] at hn;cases i with
  | zero=>simpa using hn.1
  | succ i=>
   obtain⟨sl,h1,h2⟩:=ih hn.2 i (by simpa using h);refine⟨sl,?_,h2⟩;rw[show o+(i+1)*15=o+15+i*15 by omega];exact h1
theorem Q0 {w:World}{b o:Nat}{v:Value}{cs:List Value}(h:w.rangeAt b o (v::cs)):b<w.heap.size:=
 J7 (h 0 v rfl)
theorem I7 {w w':World}{b o:Nat}{cs:List Value}(h:w.rangeAt b o cs)(hb:w'.heap[b]? = w.heap[b]?):w'.rangeAt b o cs:=by
 intro j v hj;have:=h j v hj;simp only[World.cell?] at this ⊢;rw[hb];exact this
theorem j1R {w w':World}{b o:Nat}{v:Value}{cs:List Value}(h:w.rangeAt b o (v::cs))(g:Gr w w'):w'.rangeAt b o (v::cs):=
 I7 h (g.ext.block b (Q0 h))
mutual
theorem NdIn.mono {w w':World}{F F':Nat->Prop}(hF:∀b,F b->b<w.heap.size->w'.heap[b]? = w.heap[b]? /\ F' b){sl:Value}:∀ {t:Nd},NdIn w F sl t->NdIn w' F' sl t
 | .mk _ ts,h=>by
  rw[NdIn] at h ⊢;obtain⟨a,c,h1,h2,h3,h4⟩:=h;refine⟨a,c,h1,h2,h3,?_⟩;rcases h4 with h4|⟨b,o,h4,h5,h6⟩
  ·exact .inl h4
  ·cases ts with
   | nil=>
    subst h4;exact .inl ⟨rfl,.inr (by simp)⟩
   | cons t ts=>
    have hb:b<w.heap.size:=by
     rw[F6] at h6;obtain⟨⟨_,h7,_⟩,_⟩:=h6;exact Q0 h7
    exact .inr ⟨b,o,h4,(hF b h5 hb).2,F6.mono hF (hF b h5 hb).1 h6⟩
theorem F6.mono {w w':World}{F F':Nat->Prop}(hF:∀b,F b->b<w.heap.size->w'.heap[b]? = w.heap[b]? /\ F' b){b:Nat}(hb:w'.heap[b]? = w.heap[b]?):∀ {ts:List Nd} {o:Nat},F6 w F b o ts->F6 w' F' b o ts
 | [],_,_=>by rw[F6];trivial
 | t::ts,o,h=>by
  rw[F6] at h ⊢;obtain⟨⟨sl,h1,h2⟩,h3⟩:=h;exact⟨⟨sl,I7 h1 hb,NdIn.mono hF h2⟩,F6.mono hF hb h3⟩
end
theorem NdIn.gr {w w':World}{F:Nat->Prop}{sl:Value}{t:Nd}(h:NdIn w F sl t)(g:Gr w w'):NdIn w' F sl t:=
 h.mono fun b hb hlt=>⟨g.ext.block b hlt,hb⟩
theorem j3:(prog.info? 48).map (·.size)=H 15:=by kernel_rfl
structure Vl where
 k:Int
 x:Nat
 s:ByteArray
 b:Bool
 f:Int
structure Ct where
 k:Int
 v:Vl
 t:Nd
abbrev Vl.val (v:Vl):Value:=T #[O I v.k,ap ao v.x,aq v.s,E v.b,O I v.f]
abbrev Ct.cells (c:Ct) (sl:Value):List Value:=[O I c.k,O I c.v.k,ap ao c.v.x,aq c.v.s,E c.v.b,O I c.v.f,
 O I c.t.hd.k,O I c.t.hd.o,ap ao c.t.hd.x,aq c.t.hd.s,E c.t.hd.b,O I c.t.hd.f,O I c.t.hd.c1,O I c.t.hd.r1,E c.t.hd.p1,E c.t.hd.q1,O I c.t.hd.c2,O I c.t.hd.r2,E c.t.hd.p2,E c.t.hd.q2,sl]
abbrev Ct.val (c:Ct) (sl:Value):Value:=T #[O I c.k,O I c.v.k,ap ao c.v.x,aq c.v.s,E c.v.b,O I c.v.f,
 O I c.t.hd.k,O I c.t.hd.o,ap ao c.t.hd.x,aq c.t.hd.s,E c.t.hd.b,O I c.t.hd.f,O I c.t.hd.c1,O I c.t.hd.r1,E c.t.hd.p1,E c.t.hd.q1,O I c.t.hd.c2,O I c.t.hd.r2,E c.t.hd.p2,E c.t.hd.q2,sl]
theorem j6C (a b:Int)(w:World):
 Calls prog 136 #[O I a,O I b] w fun e w'=>e=Q (O I (cmpI a b))/\w'=w:=by
 have hV:Hid (cmpI a b=if a<b then -1 else if b<a then 1 else 0):=rfl;generalize cmpI a b=V at *;go_enter func136,ntmps136;go_wp2;all_goals
  go_ret;refine⟨rInt ?_,rfl⟩;rw[hV.o];repeat' split
  all_goals omega
theorem jCI (b:Nat)(p q:Int)(w:World)(h0:w.cell? ⟨b,0,G⟩=H (O I p))(h1:w.cell? ⟨b,1,G⟩=H (O I q)):
 Calls prog 171 #[U (H ⟨b,0,G⟩) 2 2] w fun e w'=>e=Q (O I (if p=0 then q else p))/\w'=w:=by
 have hV:Hid (∀V,V=(if p=0 then q else p)->V=(if p=0 then q else p)):=fun _ h=>h
 obtain⟨V,hVV⟩:∃V,(if p=0 then q else p)=V:=⟨_,rfl⟩;have HV:Hid ((if p=0 then q else p)=V):=hVV;rw[hVV];clear hV hVV;go_enter func171,ntmps171;go_wp2;go_loopw[8] (fun i wr=>wr=w/\(i=O I 0∨(i=O I 1/\p=0)∨(i=O I 2/\p=0/\q=0))) (fun i _=>(2-RowKit.intOf i).toNat)
 case atStart=>exact⟨rfl,.inl rfl⟩
 case round=>
  obtain⟨hw,hc⟩:=hrel;subst hw;rcases hc with rfl|⟨rfl,hp⟩|⟨rfl,hp,hq⟩
  ·by_cases hp:p=0
   ·subst hp;go_wp2;go_roundw
    case rel=>simp
    case measure=>simp only[RowKit.intOf];omega
   ·have hV:Hid (p=V):=(by show _=_;rw[<- HV.o,if_neg hp]);have hp':(p != 0)=J:=(by simpa using hp);clear HV;go_wp2;go_ret;exact⟨rInt hV.o,rfl⟩
  ·subst hp;have hV:Hid (q=V):=(by show _=_;rw[<- HV.o,if_pos rfl]);clear HV;by_cases hq:q=0
   ·subst hq;go_wp2;go_roundw
    case rel=>simp
    case measure=>simp only[RowKit.intOf];omega
   ·have hq':(q != 0)=J:=(by simpa using hq);go_wp2;go_ret;exact⟨rInt hV.o,rfl⟩
  ·subst hp hq;have hV:Hid (0=V):=(by show _=_;rw[<- HV.o,if_pos rfl]);clear HV;go_wp2;go_ret;exact⟨rInt hV.o,rfl⟩
theorem j5j {W w':World}{b:Nat}{x y:Value}(h:Hid (Has2 W b x y))(g:Gr W w'):w'.cell? ⟨b,0,G⟩=H x/\w'.cell? ⟨b,1,G⟩=H y:=(h.o.gr g).1
theorem j6x (n x m:Int)(f:Bool)(h0:1<=n)(h1:n<=m)(h2:m<=4096)(hx0:-9223372036854775808<=x)(hx1:x<=9223372036854775807):
 ((1<=(if f then n else wrap64 (n+x))/\(if f then n else wrap64 (n+x))<=m)↔(shN n x m f).2=J)/\((shN n x m f).2=J->(if f then n else wrap64 (n+x))=(shN n x m f).1):=by
 unfold shN;cases f
 ·simp only[Bool.false_eq_true,if_false];have hw:wrap64 (n+x)=if n+x<=9223372036854775807 then n+x else n+x-18446744073709551616:=by unfold wrap64;split <;> omega
  rw[hw];by_cases c1:x < -n∨m<x
  ·rw[if_pos c1];simp only[Bool.false_eq_true,iff_false,false_implies,and_true];split <;> omega
  ·rw[if_neg c1];simp only[Bool.and_eq_true,decide_eq_true_eq];rw[if_pos (by omega)];exact⟨Iff.rfl,fun _=>rfl⟩
 ·simp only[if_true,iff_true,true_implies,and_true];omega
theorem jCK (c r x y:Int)(cf rf:Bool)(hx0:-9223372036854775808<=x)(hx1:x<=9223372036854775807)(hy0:-9223372036854775808<=y)(hy1:y<=9223372036854775807)(w:World):
 Calls prog 172 #[T #[O I c,O I r,E cf,E rf],O I x,O I y] w fun e w'=>
  e=Q (au #[shV c r cf rf x y,E (shOk c r cf rf x y)])/\Gr w w':=by
 have H1:=h_ U5;have G0:Hid (∀a b d t u v,Gr w (((w.alloc (.cells a t)).alloc (.cells b u)).alloc (.cells d v))):=fun a b d t u v=>(((Gr.refl w).alloc _ _).alloc _ _).alloc _ _
 have G4:Hid (∀a b d f t u v z,Gr w ((((w.alloc (.cells a t)).alloc (.cells b u)).alloc (.cells d v)).alloc (.cells f z))):=fun a b d f t u v z=>((((Gr.refl w).alloc _ _).alloc _ _).alloc _ _).alloc _ _
 have hv:=G6 c r;have hO:Hid (shOk c r cf rf x y=(vC c r&&(shN c x 256 cf).2&&(shN r y 4096 rf).2)):=rfl;have hR:Hid (shV c r cf rf x y=if shOk c r cf rf x y then refV (shN c x 256 cf).1 (shN r y 4096 rf).1 cf rf else refV 0 0 R R):=rfl;generalize shV c r cf rf x y=af at *;generalize shOk c r cf rf x y=aa at *;cases hV:vC c r
 ·rw[hV] at hO;have hO':=hO.o;subst hO';have hR':=h_ hR.o.symm;have H1':Hid (∀w,Calls prog 44 #[T #[O I c,O I r]] w fun e w'=>e=Q (E R)/\w'=w.alloc (.cells #[O I c,O I r] 32)):=fun w=>by have:=H1.o c r w;rwa [hV] at this
  clear hO hv hR H1 hV hx0 hx1 hy0 hy1;go_enter func172,ntmps172;go_wp2_with fail;refine(H1'.o _).mono ?_;rintro e w' ⟨rfl,rfl⟩;go_wp2_with fail;refine bodyPost_ret (v:=au #[T #[O I 0,O I 0,E R,E R],E R]) (by simp[results,results172,go_sem, *]) rfl ?_;exact⟨rTwo hR'.o rfl,G0.o _ _ _ _ _ _⟩
 ·obtain⟨b1,b2,b3,b4⟩:=hv.1 hV;rw[hV] at hO;have H1':Hid (∀w,Calls prog 44 #[T #[O I c,O I r]] w fun e w'=>e=Q (E J)/\w'=w.alloc (.cells #[O I c,O I r] 32)):=fun w=>by have:=H1.o c r w;rwa [hV] at this
  obtain⟨X,hX⟩:=e_ ((if cf then c else wrap64 (c+x)));obtain⟨Y,hY⟩:=e_ ((if rf then r else wrap64 (r+y)));obtain⟨s1,s2⟩:=j6x c x 256 cf b1 b2 (by decide) hx0 hx1;obtain⟨s3,s4⟩:=j6x r y 4096 rf b3 b4 (by decide) hy0 hy1;rw[hX] at s1 s2;rw[hY] at s3 s4;have hOO:vC X Y=aa:=by
   rw[hO.o,Bool.eq_iff_iff,G6,Bool.and_eq_true,Bool.and_eq_true,<- s1,<- s3];simp only[true_and,and_assoc]
  have hRR:aa=J->refV X Y cf rf=af:=by
   intro h;have h2:=hO.o;rw[h] at h2;have h3:=h2.symm;rw[Bool.and_eq_true,Bool.and_eq_true] at h3;rw[hR.o,if_pos h,s2 h3.1.2,s4 h3.2]
  have hRF:aa=R->refV 0 0 R R=af:=by
   intro h;rw[hR.o,h];rfl
  have H2:Hid (∀w,Calls prog 44 #[T #[O I X,O I Y]] w fun e w'=>e=Q (E aa)/\w'=w.alloc (.cells #[O I X,O I Y] 32)):=fun w=>by have:=H1.o X Y w;rwa [hOO] at this
  clear hO hv hR H1 hV hOO b1 b2 b3 b4 hx0 hx1 hy0 hy1 s1 s2 s3 s4;have HRR:=h_ hRR;have HRF:=h_ hRF;clear hRR hRF;have hX1:cf=J->c=X:=fun h=>by rw[<- hX,h];rfl
  have hY1:rf=J->r=Y:=fun h=>by rw[<- hY,h];rfl
  have hX0:cf=R->wrap64 (c+x)=X:=fun h=>by rw[<- hX,h];rfl
  have hY0:rf=R->wrap64 (r+y)=Y:=fun h=>by rw[<- hY,h];rfl
  clear hX hY;cases cf <;> cases rf
  case false.false=>
   replace hX0:=hX0 rfl;replace hY0:=hY0 rfl;clear hX1 hY1;go_enter func172,ntmps172;go_wp2_with fail;refine(H1'.o _).mono ?_;rintro e w' ⟨rfl,rfl⟩;go_wp2_with fail;refine(H2.o _).mono ?_;rintro e w' ⟨rfl,rfl⟩;cases aa
   ·have hR':=HRF.o rfl;go_wp2_with fail;refine bodyPost_ret (v:=au #[T #[O I 0,O I 0,E R,E R],E R]) (by simp[results,results172,go_sem, *]) rfl ?_;exact⟨rTwo hR' rfl,G4.o _ _ _ _ _ _ _ _⟩
   ·have hR':=HRR.o rfl;go_wp2_with fail;refine bodyPost_ret (v:=au #[T #[O I X,O I Y,E R,E R],E J]) (by simp[results,results172,go_sem, *]) rfl ?_;exact⟨rTwo hR' rfl,G4.o _ _ _ _ _ _ _ _⟩
  case false.true=>
   replace hX0:=hX0 rfl;have hy:=hY1 rfl;subst hy;clear hX1 hY1 hY0;go_enter func172,ntmps172;go_wp2_with fail;refine(H1'.o _).mono ?_;rintro e w' ⟨rfl,rfl⟩;go_wp2_with fail;refine(H2.o _).mono ?_;rintro e w' ⟨rfl,rfl⟩;cases aa
   ·have hR':=HRF.o rfl;go_wp2_with fail;refine bodyPost_ret (v:=au #[T #[O I 0,O I 0,E R,E R],E R]) (by simp[results,results172,go_sem, *]) rfl ?_;exact⟨rTwo hR' rfl,G4.o _ _ _ _ _ _ _ _⟩
   ·have hR':=HRR.o rfl;go_wp2_with fail;refine bodyPost_ret (v:=au #[T #[O I X,O I r,E R,E J],E J]) (by simp[results,results172,go_sem, *]) rfl ?_;exact⟨rTwo hR' rfl,G4.o _ _ _ _ _ _ _ _⟩
  case true.false=>
   have hx:=hX1 rfl;subst hx;replace hY0:=hY0 rfl;clear hX1 hY1 hX0;go_enter func172,ntmps172;go_wp2_with fail;refine(H1'.o _).mono ?_;rintro e w' ⟨rfl,rfl⟩;go_wp2_with fail;refine(H2.o _).mono ?_;rintro e w' ⟨rfl,rfl⟩;cases aa
   ·have hR':=HRF.o rfl;go_wp2_with fail;refine bodyPost_ret (v:=au #[T #[O I 0,O I 0,E R,E R],E R]) (by simp[results,results172,go_sem, *]) rfl ?_;exact⟨rTwo hR' rfl,G4.o _ _ _ _ _ _ _ _⟩
   ·have hR':=HRR.o rfl;go_wp2_with fail;refine bodyPost_ret (v:=au #[T #[O I c,O I Y,E J,E R],E J]) (by simp[results,results172,go_sem, *]) rfl ?_;exact⟨rTwo hR' rfl,G4.o _ _ _ _ _ _ _ _⟩
  case true.true=>
   have hx:=hX1 rfl;subst hx;have hy:=hY1 rfl;subst hy;clear hX1 hY1 hX0 hY0;go_enter func172,ntmps172;go_wp2_with fail;refine(H1'.o _).mono ?_;rintro e w' ⟨rfl,rfl⟩;go_wp2_with fail;refine(H2.o _).mono ?_;rintro e w' ⟨rfl,rfl⟩;cases aa
   ·have hR':=HRF.o rfl;go_wp2_with fail;refine bodyPost_ret (v:=au #[T #[O I 0,O I 0,E R,E R],E R]) (by simp[results,results172,go_sem, *]) rfl ?_;exact⟨rTwo hR' rfl,G4.o _ _ _ _ _ _ _ _⟩
   ·have hR':=HRR.o rfl;go_wp2_with fail;refine bodyPost_ret (v:=au #[T #[O I c,O I r,E J,E J],E J]) (by simp[results,results172,go_sem, *]) rfl ?_;exact⟨rTwo hR' rfl,G4.o _ _ _ _ _ _ _ _⟩
theorem jCH (c r d s:Int)(w:World):
 Calls prog 96 #[T #[O I c,O I r],T #[O I d,O I s]] w fun e w'=>e=Q (au #[arV c r d s,O I (arE c r d s)])/\Gr w w':=by
 have H1:=h_ (U5 c r);have H2:=h_ (U5 d s);have H3:=h_ (jCf c r d s);have H4:=h_ (jCR c r d s);have G4:Hid (∀a b d f t u v z,Gr w ((((w.alloc (.cells a t)).alloc (.cells b u)).alloc (.cells d v)).alloc (.cells f z))):=fun a b d f t u v z=>((((Gr.refl w).alloc _ _).alloc _ _).alloc _ _).alloc _ _
 have G5:Hid (∀a b d f g t u v z x,Gr w (((((w.alloc (.cells a t)).alloc (.cells b u)).alloc (.cells d v)).alloc (.cells f z)).alloc (.cells g x))):=fun a b d f g t u v z x=>(((((Gr.refl w).alloc _ _).alloc _ _).alloc _ _).alloc _ _).alloc _ _
 have hR:Hid (arV c r d s=if vC c r&&vC d s then j17 (min c d) (min r s) (max c d) (max r s) else j17 0 0 0 0):=rfl;have hE:Hid (arE c r d s=if vC c r&&vC d s then 0 else 20):=rfl;generalize arV c r d s=af at *;generalize arE c r d s=ae at *;generalize vC c r=p at *;generalize vC d s=q at *;cases p
 ·have hR':=hR.o.symm;have hE':=hE.o.symm;have HR:=h_ hR';subst hE';clear hR hE hR' H2 H3 H4;go_enter func96,ntmps96;go_wp2_with fail;refine(H1.o _).mono ?_;rintro e w' ⟨rfl,rfl⟩;go_wp2_with fail;refine bodyPost_ret (v:=au #[T #[O I 0,O I 0,O I 0,O I 0],O I 20]) (by simp[results,results96,go_sem, *]) rfl ?_;exact⟨rTwo HR.o rfl,G4.o _ _ _ _ _ _ _ _⟩
 ·cases q
  ·have hE':=hE.o.symm;have HR:=h_ hR.o.symm;subst hE';clear hR hE H3 H4;go_enter func96,ntmps96;go_wp2_with fail;refine(H1.o _).mono ?_;rintro e w' ⟨rfl,rfl⟩;go_wp2_with fail;refine(H2.o _).mono ?_;rintro e w' ⟨rfl,rfl⟩;go_wp2_with fail;refine bodyPost_ret (v:=au #[T #[O I 0,O I 0,O I 0,O I 0],O I 20]) (by simp[results,results96,go_sem, *]) rfl ?_;exact⟨rTwo HR.o rfl,G5.o _ _ _ _ _ _ _ _ _ _⟩
  ·have hE':=hE.o.symm;have HR:=h_ hR.o.symm;subst hE';clear hR hE;have KA:Hid (Has2 ((w.alloc (.cells #[O I c,O I r] 32))) w.heap.size (O I c) (O I r)):=j1I w _ _ _;have KB:Hid (Has2 ((w.alloc (.cells #[O I c,O I r] 32)).alloc (.cells #[O I d,O I s] 32)) (w.heap.size+1) (O I d) (O I s)):=by
    have:=j1I (w.alloc (.cells #[O I c,O I r] 32)) (O I d) (O I s) 32;rw[World.size_alloc] at this;exact this
   generalize min c d=A1 at *;generalize min r s=A2 at *;generalize max c d=A3 at *;generalize max r s=A4 at *;go_enter func96,ntmps96;go_wp2_with fail;refine(H1.o _).mono ?_;rintro e w' ⟨rfl,rfl⟩;go_wp2_with fail;refine(H2.o _).mono ?_;rintro e w' ⟨rfl,rfl⟩;go_wp2_with fail;go_region_held3 (fun w'=>(w'.cell? ⟨w.heap.size,0,G⟩=H (O I c)/\w'.cell? ⟨w.heap.size,1,G⟩=H (O I r))/\(w'.cell? ⟨w.heap.size+1,0,G⟩=H (O I d)/\w'.cell? ⟨w.heap.size+1,1,G⟩=H (O I s)))
    (exact⟨j5j KA (by repeat (first|exact Gr.refl _|refine Gr.drew ?_|refine Gr.alloc ?_ _ _)),j5j KB (by repeat (first|exact Gr.refl _|refine Gr.drew ?_|refine Gr.alloc ?_ _ _))⟩) (first
    | (go_at_call 132;refine(H3.o _).mono ?_;rintro e w' ⟨rfl,rfl⟩)
    | (go_at_call 133;refine(H4.o _).mono ?_;rintro e w' ⟨rfl,rfl⟩))
   all_goals
    go_wp2_with fail;refine bodyPost_ret (v:=au #[T #[O I A1,O I A2,O I A3,O I A4],O I 0]) (by simp[results,results96,go_sem, *]) rfl ?_;refine⟨rTwo HR.o rfl,?_⟩;repeat (first|exact Gr.refl _|refine Gr.alloc ?_ _ _|refine Gr.drew ?_|refine Gr.drewN ?_ _)
end Go.Proofs.YtecjfnkakodebaaGreatDoor
