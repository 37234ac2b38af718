/-Formulas that may be, over trees as data: depth, the names, each node'. -/
import Derived.Test.YtecjfnkakodebaaGreatDoorRmXd
import Derived.Lib.ValidU
open Go.Proofs.Tryz
open Go.Value renaming int->O,bool->E,slice->U,agg->T,pointer->an,float->ap,string->aq,tuple->au
open Go.IntKind renaming i64->I
open Bool renaming false->R,true->J
open Option renaming some->H,none->G
open Go.Ending renaming returned->Q
open Go.FloatKind renaming f64->ao
set_option maxRecDepth 100000
set_option maxHeartbeats 8000000
namespace Go.Proofs.YtecjfnkakodebaaGreatDoor
section
open Go.RowKit
mutual
def Nd.dep:Nd->Nat
 | .mk _ ts=>1+depL ts
def depL:List Nd->Nat
 | []=>0
 | t::ts=>max t.dep (depL ts)
end
theorem j9a (a b:List Nd):depL (a++b)=max (depL a) (depL b):=by
 induction a with
 | nil=>simp[depL]
 | cons t ts ih=>rw[List.cons_append,depL,depL,ih,Nat.max_assoc]
theorem j4q (ts:List Nd)(i:Nat)(h:i<ts.length):depL (ts.take (i+1))=max (depL (ts.take i)) (ts[i]).dep:=by
 rw[List.take_add_one,List.getElem?_eq_getElem h,j9a];simp[depL]
mutual
theorem j31:∀t:Nd,t.dep<=t.size
 | .mk _ ts=>by rw[Nd.dep,Nd.size];have:=j30 ts;omega
theorem j30:∀ts:List Nd,depL ts<=D3 ts
 | []=>by simp[depL]
 | t::ts=>by rw[depL,D3];have:=j31 t;have:=j30 ts;omega
end
def O9 (x:Nat):Bool:=cls x != 1&&cls x != 2 && !ngt x
def wmJ (h:Hd):Hd:=
 if h.k=1 then { zHd with k:=h.k,x:=h.x } else if h.k=2 then { zHd with k:=h.k,s:=h.s } else if h.k=3 then { zHd with k:=h.k,b:=h.b } else
 if h.k=4 then { zHd with k:=h.k,f:=h.f } else if h.k=5 then { zHd with k:=h.k,c1:=h.c1,r1:=h.r1,p1:=h.p1,q1:=h.q1 } else
 if h.k=6 then { zHd with k:=h.k,c1:=h.c1,r1:=h.r1,p1:=h.p1,q1:=h.q1,c2:=h.c2,r2:=h.r2,p2:=h.p2,q2:=h.q2 } else
 if h.k=7 then { zHd with k:=h.k,o:=h.o } else if h.k=8 then { zHd with k:=h.k,o:=h.o } else { zHd with k:=h.k,s:=h.s }
def wm (h:Hd) (n:Nat):Bool:=
 if h.k=1 then O9 h.x&&n==0&&j9 h (wmJ h) else
 if h.k=2 then decide (h.s.size<=1024)&&Lib.validD h.s.data.toList&&n==0&&j9 h (wmJ h) else
 if h.k=3 then n==0&&j9 h (wmJ h) else
 if h.k=4 then decide (1<=h.f)&&decide (h.f<=5)&&n==0&&j9 h (wmJ h) else
 if h.k=5 then n==0&&j9 h (wmJ h) else
 if h.k=6 then n==0&&j9 h (wmJ h) else
 if h.k=7 then decide (1<=h.o)&&decide (h.o<=3)&&n==1&&j9 h (wmJ h) else
 if h.k=8 then decide (4<=h.o)&&decide (h.o<=15)&&n==2&&j9 h (wmJ h) else
 if h.k=9 then j9 h (wmJ h) else R
def nm0:List ByteArray:=[⟨#[78,65]⟩]
def nm1:List ByteArray:=[⟨#[65,66,83]⟩,⟨#[73,78,84]⟩,⟨#[73,83,66,76,65,78,75]⟩,⟨#[73,83,69,82,82,79,82]⟩,⟨#[73,83,78,85,77,66,69,82]⟩,⟨#[73,83,84,69,88,84]⟩,⟨#[76,69,78]⟩,⟨#[78,79,84]⟩,⟨#[83,73,71,78]⟩,⟨#[83,73,78,71,76,69]⟩,⟨#[83,81,82,84]⟩,⟨#[84,82,85,78,67]⟩,⟨#[86,65,76,85,69]⟩]
def nm2:List ByteArray:=[⟨#[69,88,65,67,84]⟩,⟨#[73,70,69,82,82,79,82]⟩,⟨#[76,65,82,71,69]⟩,⟨#[76,69,70,84]⟩,⟨#[77,79,68]⟩,⟨#[80,69,82,67,69,78,84,73,76,69]⟩,⟨#[80,79,87,69,82]⟩,⟨#[82,69,80,84]⟩,⟨#[82,73,71,72,84]⟩,⟨#[82,79,85,78,68]⟩,⟨#[82,79,85,78,68,68,79,87,78]⟩,⟨#[82,79,85,78,68,69,86,69,78]⟩,⟨#[82,79,85,78,68,85,80]⟩,⟨#[83,77,65,76,76]⟩,⟨#[83,85,77,80,82,79,68,85,67,84]⟩,⟨#[84,69,88,84]⟩]
def nm3:List ByteArray:=[⟨#[73,70]⟩,⟨#[82,65,78,75]⟩]
def nm4:List ByteArray:=[⟨#[67,79,85,78,84,73,70]⟩,⟨#[70,85,83,69,68]⟩,⟨#[77,73,68]⟩]
def nm5:List ByteArray:=[⟨#[65,78,68]⟩,⟨#[65,86,69,82,65,71,69]⟩,⟨#[67,79,85,78,84]⟩,⟨#[67,79,85,78,84,65]⟩,⟨#[74,79,73,78]⟩,⟨#[77,65,88]⟩,⟨#[77,69,68,73,65,78]⟩,⟨#[77,73,78]⟩,⟨#[77,79,68,69]⟩,⟨#[79,82]⟩,⟨#[83,84,68,69,86]⟩,⟨#[83,84,68,69,86,80]⟩,⟨#[83,85,77]⟩,⟨#[83,85,77,83,81]⟩,⟨#[86,65,82]⟩,⟨#[86,65,82,80]⟩]
def nm6:List ByteArray:=[⟨#[67,72,79,79,83,69]⟩]
def F7 (s:ByteArray) (l:List ByteArray):Bool:=l.any fun n=>s.toList==n.toList
def known (s:ByteArray):Int×Int×Bool:=
 if F7 s nm0=J then (0,0,J) else if F7 s nm1=J then (1,1,J) else if F7 s nm2=J then (2,2,J) else if F7 s nm3=J then (2,3,J) else if F7 s nm4=J then (3,3,J) else if F7 s nm5=J then (1,256,J) else if F7 s nm6=J then (2,256,J) else (0,0,R)
def j06 (s:ByteArray) (n:Nat):Int:=
 if (known s).2.2=R then 21 else if (n:Int)<(known s).1∨(known s).2.1<n then 22 else 0
def ownE (h:Hd) (n:Nat) (called:Bool):Int:=
 if wm h n=R then 1 else if h.k=5 then (if vA h.c1 h.r1 h.c1 h.r1=J then 0 else 20) else
 if h.k=6 then (if vA h.c1 h.r1 h.c2 h.r2=J then (if called=J then 0 else 31) else 20) else if h.k=9 then j06 h.s n else 0
mutual
def Nd.fe:Nd->Bool->Int
 | .mk h ts,called=>if ownE h ts.length called≠0 then ownE h ts.length called else feL ts (h.k==9)
def feL:List Nd->Bool->Int
 | [],_=>0
 | t::ts,c=>if t.fe c≠0 then t.fe c else feL ts c
end
theorem j58 {ts:List Nd}{c:Bool}:∀ {k:Nat},(∀i (h:i<ts.length),i<k->(ts[i]).fe c=0)->feL ts c=feL (ts.drop k) c:=by
 induction ts with
 | nil=>intro k _;simp
 | cons t ts ih=>
  intro k hk;cases k with
  | zero=>rfl
  | succ k=>
   have h0:=hk 0 (by simp) (by omega);simp only[List.getElem_cons_zero] at h0;rw[feL,h0,List.drop_succ_cons];simp only[ne_eq,not_true_eq_false,if_false];exact ih fun i h hi=>by
    have:=hk (i+1) (by simp;omega) (by omega)
    simpa using this
theorem j56 {ts:List Nd}{c:Bool}{k:Nat}(h:k<ts.length)(hk:∀i (h:i<ts.length),i<k->(ts[i]).fe c=0)(hne:(ts[k]).fe c≠0):feL ts c=(ts[k]).fe c:=by
 rw[j58 hk,List.drop_eq_getElem_cons h,feL,if_pos hne]
theorem j55 {ts:List Nd}{c:Bool}(hk:∀i (h:i<ts.length),i<ts.length->(ts[i]).fe c=0):feL ts c=0:=by
 rw[j58 hk,List.drop_length,feL]
def chk (t:Nd):Int:=if 256<t.size then 34 else if 32<t.dep then 33 else t.fe R
theorem U0 {ops:Array Oper}{rest:List Oper}{o:Oper}{a:Act}{w:World}{am:Exit->Act->World->Prop}(hgd:Region.wanted o (yielded ops a.tmps)=J)(x:Operand)(ho:o.op=.load 48 x)(g:Nat)(hx:a.eval x=an (H ⟨g,0,G⟩))(cs:Array Value)(hg:w.heap[g]? = H (.cells cs 48 (0,0)))(hcs:cs.size=15)
 (h:wpList prog ops am rest (a.put o.dst (T cs)) w):wpList prog ops am (o::rest) a w:=
 wpList_step fun K hK=>by
  simp only[hgd,if_true];exact wp_load_row 48 x ho g hx 48 cs (0,0) _ hg underlying48 rfl (by rw[hcs];exact j3) (hK _ _ h)
theorem j9b (N:Nat):∀(t:Nd) (sl:Value) (F:Nat->Prop) (w:World),t.size<=N->N<=1048576->NdIn w F sl t ->
 Calls prog 120 #[t.hd.val sl] w fun e w'=>e=Q (O I (t.dep:Nat))/\Gr w w':=by
 induction N with
 | zero=>intro t sl F w h;have:=L7 t;omega
 | succ N ih=>
  intro t sl F w hN hB hin;have hdl:=j31 t;obtain⟨hd,ts⟩:=t;rw[NdIn] at hin;obtain⟨a,c,rfl,h2,h3,h4⟩:=hin;have hsz:Hid ((Nd.mk hd ts).size=1+D3 ts):=by show _=_;rw[Nd.size]
  have hdp:Hid ((Nd.mk hd ts).dep=1+depL ts):=by show _=_;rw[Nd.dep]
  have HN:=h_ hN;have HBd:=h_ hB;have IH:Hid (∀(t:Nd) (sl:Value) (F:Nat->Prop) (w:World),t.size<=N->N<=1048576->NdIn w F sl t ->
   Calls prog 120 #[t.hd.val sl] w fun e w'=>e=Q (O I (t.dep:Nat))/\Gr w w'):=ih
  clear ih hN hB;have hlen:ts.length<=9223372036854775807:=by unfold maxLen at h3;omega
  have H4:=h_ h4;have HD:Hid (depL ts<=1048576):=by show _<=_;have:=HN.o;have:=HBd.o;have:=hdp.o;omega
  clear h4 h2 h3 hdl;generalize hn:ts.length=n at *;have HL:=h_ hn;have HLEN:=h_ hlen;clear hn hlen;generalize hW:(Nd.mk hd ts).dep=S at *;simp only[Nd.hd];obtain⟨k,o',x,s,bb,f,c1,r1,p1,q1,c2,r2,p2,q2⟩:=hd;go_enter func120,ntmps120;go_wp2_with fail;generalize hW0:(w.alloc (.cells #[O I k,O I o',ap ao x,aq s,E bb,O I f,O I c1,O I r1,E p1,E q1,O I c2,O I r2,E p2,E q2,U a n c] 48))=W0 at *;have G0:Hid (Gr w W0):=by show Gr _ _;rw[<- hW0];exact(Gr.refl w).alloc _ _
  clear hW0;go_loopw[3,9] (fun s i wr=>∃k:Nat,k<=n/\s=O I (depL (ts.take k):Nat)/\i=O I k/\Gr W0 wr) (fun _ i _=>n-(RowKit.intOf i).toNat)
  case atStart=>exact⟨0,Nat.zero_le _,by simp[depL],by simp,Gr.refl _⟩
  case round=>
   obtain⟨k,hk,rfl,rfl,hg⟩:=hrel;have GR:=h_ hg;clear hg;by_cases hlt:k<n
   ·have hki:k<ts.length:=(by rw[HL.o];exact hlt);obtain⟨b,o,rfl,hF,hns⟩:∃b o,a=H ⟨b,o,G⟩/\F b/\F6 w F b o ts:=by
     rcases H4.o with h|h
     ·rw[h.1] at hki;simp at hki
     ·exact h
    obtain⟨sl,hr,hni⟩:=hns.get k hki;have G1:=G0.o.trans GR.o;have HR:=h_ (j1R hr G1);have hni':=hni.gr G1;have O1:=h_ hni.one;have hs1:=Q4 ts k hki;have HC:=(h_ fun wq (hq:Gr wr wq)=>IH.o ts[k] sl F wq (by have:=HN.o;have:=hsz.o;omega) (by have:=HBd.o;omega) (hni'.gr hq));have hA:=h_ (j4q ts k hki);clear hs1 hni hni' hr hns;generalize (ts[k]).dep=z at *;generalize (ts[k]).hd=hh at *;generalize depL (ts.take k)=y at *;have hkb:(k:Int)+1<=9223372036854775807:=(by have:=HLEN.o;omega);clear hW
    as_aux_lemma=>
    go_wp2_with (first|(refine wpList_load_mid rfl 48 (.tmp 11) rfl b (o+k*15) rfl (hh.cells sl) _ HR.o underlying48 rfl j3 ?_)|(refine F9 rfl 48 (.tmp 5) (.tmp 12) rfl _ _ _ _ _ (by first|rfl|simp) rfl rfl rfl j3 (hh.one O1.o) ?_)|(refine U0 rfl (.tmp 5) rfl wr.heap.size rfl (hh.cells sl).toArray (heap_alloc_new _ _) rfl ?_));refine(HC.o _ ((Gr.refl _).alloc _ _)).mono ?_;rintro e w1 ⟨rfl,hg1⟩;have G2:=h_ ((GR.o.trans ((Gr.refl _).alloc _ _)).trans hg1);clear hg1;go_wp2_with fail;go_roundw
    case rel=>exact⟨k+1,by omega,by rw[hA.o];congr 1;first|omega|(split <;> omega),by go_num,G2.o⟩
    case measure=>simp only[RowKit.intOf];omega
   ·have hke:k=n:=(by omega);subst hke;have hw4:Hid (1+depL (ts.take k)=S):=by
     show _=_;rw[<- HL.o,List.take_length,<- hdp.o]
    have hd1:depL (ts.take k)<=1048576:=(by rw[<- HL.o,List.take_length];exact HD.o);generalize depL (ts.take k)=y at *;clear hW
    as_aux_lemma=>
    go_wp2_with fail;go_ret;exact⟨rInt (by have:=hw4.o;omega),G0.o.trans GR.o⟩
theorem j9c (t:Nd)(sl:Value)(F:Nat->Prop)(w:World)(h:t.size<=1048576)(hin:NdIn w F sl t):
 Calls prog 120 #[t.hd.val sl] w fun e w'=>e=Q (O I (t.dep:Nat))/\Gr w w':=
 j9b t.size t sl F w (Nat.le_refl _) h hin
end
section
open Go.RowKit
structure St (s:ByteArray) (m:Nat) (a:Act):Prop where
 size:a.tmps.size=m
 text:a.eval (.tmp 5)=aq s
 defers:a.defers=[]
section
variable {P:Program} {s:ByteArray} {m:Nat} {a:Act} {w:World} {am:Exit->Act->World->Prop}
theorem j1A {d:Nat}(v:Value)(h:d<a.tmps.size):(a.put (H d) v).eval (.tmp d)=v:=by
 simp[Act.put,Act.eval,h]
theorem j1n {d i:Nat}(v:Value)(h:d≠i):(a.put (H d) v).eval (.tmp i)=a.eval (.tmp i):=by
 simp[Act.put,Act.eval,Array.getD_eq_getD_getElem?,Array.getElem?_setIfInBounds_ne h]
theorem St.put (h:St s m a){d:Nat}(v:Value)(hd:d≠5):St s m (a.put (H d) v):=
 ⟨by simp[Act.put,h.size],(j1n v hd).trans h.text,h.defers⟩
theorem j03 {o:Oper}{v:Value}{K:Act->World->Prop}(he:(execOp a.eval o).run P w=.ok (.value v) w)(h:K (a.put o.dst v) w):o.wp P a w K am:=by
 unfold Oper.wp;rw[he];exact h
theorem j6W {id d e:Nat}{o1 o2:Oper}{n:ByteArray}(h1:o1.op=.binOp .eql 9 (.tmp 5) (.const (aq n)) 9)(e1:o1.dst=H d)(g1:o1.guard=G)(h2:o2.op=.assign (.tmp d))(e2:o2.dst=H e)(g2:o2.guard=G)(hd:d≠5)(he:e≠5)(hdm:d<m)(hem:e<m)
 (hs:St s m a) (hQ:∀a',St s m a'->a'.eval (.tmp e)=E (s.toList==n.toList)->am .normal a' w):(Code.region id #[o1,o2] R).wp P am a w:=by
 refine wp_region_list ?_;refine wpList_plain g1 fun K hK=>?_
 have s1:=hs.put (E (s.toList==n.toList)) hd;refine j03 (v:=E (s.toList==n.toList)) (by unfold execOp;simp only[h1,hs.text];simp[Act.eval,go_sem]) (hK _ _ ?_);rw[e1];have hv:=j1A (a:=a) (E (s.toList==n.toList)) (show d<a.tmps.size by rw[hs.size];exact hdm);refine wpList_plain g2 fun K hK=>?_
 refine j03 (v:=E (s.toList==n.toList)) (by unfold execOp;simp only[h2,hv];simp[go_sem]) (hK _ _ ?_);rw[e2];refine wpList_nil (hQ _ (s1.put _ he) (j1A _ (by rw[s1.size];exact hem)))
inductive Ors (e:Nat):List ByteArray->Code->Prop
 | last {id d:Nat} {o1 o2:Oper} {n:ByteArray} (h1:o1.op=.binOp .eql 9 (.tmp 5) (.const (aq n)) 9) (e1:o1.dst=H d) (g1:o1.guard=G) (h2:o2.op=.assign (.tmp d)) (e2:o2.dst=H e) (g2:o2.guard=G) (hd:d≠5) (hdm:d<65):Ors e [n] (Code.region id #[o1,o2] R)
 | more {id d:Nat} {o1 o2:Oper} {n:ByteArray} {ns:List ByteArray} {c:Code} (h1:o1.op=.binOp .eql 9 (.tmp 5) (.const (aq n)) 9) (e1:o1.dst=H d) (g1:o1.guard=G) (h2:o2.op=.assign (.tmp d)) (e2:o2.dst=H e) (g2:o2.guard=G) (hd:d≠5) (hdm:d<65) (h:Ors e ns c) :
  Ors e (n::ns) ((Code.region id #[o1,o2] R).seq (Code.cond (.tmp e) Code.skip c))
theorem j0X {e:Nat}{ns:List ByteArray}{c:Code}(h:Ors e ns c)(he:e≠5)(hem:e<65):∀ {a:Act},St s 65 a->(∀a',St s 65 a'->a'.eval (.tmp e)=E (F7 s ns)->am .normal a' w)->c.wp P am a w:=by
 induction h with
 | last h1 e1 g1 h2 e2 g2 hd hdm=>
  intro a hs hQ;refine j6W h1 e1 g1 h2 e2 g2 hd he hdm hem hs fun a' ha hv=>hQ a' ha ?_
  rw[hv];simp[F7]
 | more h1 e1 g1 h2 e2 g2 hd hdm _ ih=>
  intro a hs hQ;refine wp_seq (j6W h1 e1 g1 h2 e2 g2 hd he hdm hem hs fun a' ha hv=>?_);refine wp_cond_split hv (fun ht=>wp_skip (hQ a' ha ?_)) (fun hf=>ih ha fun a2 ha2 hv2=>hQ a2 ha2 ?_)
  ·rw[hv];simp[F7,ht]
  ·rw[hv2];simp only[F7,List.any_cons,hf,Bool.false_or]
theorem j0G {id:Nat}{o1 o2 o3:Oper}{x y:Int}{z:Bool}(h1:o1.op=.assign (.const (O I x)))(e1:o1.dst=H 2)(g1:o1.guard=G)(h2:o2.op=.assign (.const (O I y)))(e2:o2.dst=H 3)(g2:o2.guard=G)(h3:o3.op=.assign (.const (E z)))(e3:o3.dst=H 4)(g3:o3.guard=G)
 (hs:St s 65 a) (hQ:∀a',a'.defers=[]->a'.eval (.tmp 2)=O I x->a'.eval (.tmp 3)=O I y->a'.eval (.tmp 4)=E z->am .ret a' w):((Code.region id #[o1,o2,o3] R).seq Code.ret).wp P am a w:=by
 refine wp_seq (wp_region_list ?_);refine wpList_plain g1 fun K hK=>?_
 refine j03 (v:=O I x) (by unfold execOp;simp only[h1];simp[go_sem,Act.eval]) (hK _ _ ?_);rw[e1];refine wpList_plain g2 fun K hK=>?_
 refine j03 (v:=O I y) (by unfold execOp;simp only[h2];simp[go_sem,Act.eval]) (hK _ _ ?_);rw[e2];refine wpList_plain g3 fun K hK=>?_
 refine j03 (v:=E z) (by unfold execOp;simp only[h3];simp[go_sem,Act.eval]) (hK _ _ ?_);rw[e3];have s1:=hs.put (O I x) (d:=2) (by decide);have s2:=s1.put (O I y) (d:=3) (by decide);have s3:=s2.put (E z) (d:=4) (by decide);refine wpList_nil (wp_ret (hQ _ s3.defers ?_ ?_ ?_))
 ·rw[j1n _ (by decide),j1n _ (by decide),j1A _ (by rw[hs.size];decide)]
 ·rw[j1n _ (by decide),j1A _ (by rw[s1.size];decide)]
 ·rw[j1A _ (by rw[s2.size];decide)]
end
theorem ff {b:Bool}(h:b=R):¬b=J:=by rw[h];decide
theorem j01 {fn:Func}{t u v:Tmp}(h:fn.results=#[.tmp t,.tmp u,.tmp v])(tmps:Array Value)(P:Program)(w:World):
 (results fn tmps).run P w=.ok (au #[tmps.getD t undef,tmps.getD u undef,tmps.getD v undef]) w:=by
 simp[results,h]
theorem j0L {a:Act}{w w0:World}{x y:Int}{z:Bool}{v:Int×Int×Bool}(hw:w=w0)(hv:v=(x,y,z))(hd:a.defers=[])(h2:a.eval (.tmp 2)=O I x)(h3:a.eval (.tmp 3)=O I y)(h4:a.eval (.tmp 4)=E z):
 bodyPost prog f179 (fun e w'=>e=Q (au #[O I v.1,O I v.2.1,E v.2.2])/\w'=w0) .ret a w:=by
 subst hw;subst hv;refine⟨hd,_,j01 rfl _ _ _,?_⟩;have h2':a.tmps.getD 2 undef=O I x:=h2;have h3':a.tmps.getD 3 undef=O I y:=h3;have h4':a.tmps.getD 4 undef=E z:=h4;rw[h2',h3',h4'];exact⟨rfl,rfl⟩
theorem jAh (s:ByteArray)(w:World):
 Calls prog 179 #[aq s] w fun e w'=>e=Q (au #[O I (known s).1,O I (known s).2.1,E (known s).2.2])/\w'=w:=by
 go_enter func179,ntmps179;refine wp_seq (wp_region_list (wpList_plain rfl fun K hK=>j03 rfl (hK _ _ (wpList_plain rfl fun K hK=>j03 rfl (hK _ _ (wpList_plain rfl fun K hK=>j03 rfl (hK _ _ (wpList_nil ?_))))))));refine wp_seq (wp_seq (wp_region_list (wpList_plain rfl fun K hK=>j03 rfl (hK _ _ (wpList_nil ?_)))));refine wp_block ?_;refine wp_seq (j0X (s:=s) (e:=6) (ns:=nm0) (by unfold nm0;repeat (first|exact Ors.last rfl rfl rfl rfl rfl rfl (by decide) (by decide)|refine Ors.more rfl rfl rfl rfl rfl rfl (by decide) (by decide) ?_)) (by decide) (by decide) ⟨rfl,rfl,rfl⟩ fun a0 s0 v0=>?_);refine wp_cond_split v0 (fun ht=>j0G rfl rfl rfl rfl rfl rfl rfl rfl rfl s0 fun a' d h2 h3 h4=>j0L rfl (by unfold known;rw[if_pos ht]) d h2 h3 h4) (fun f0=>?_);refine wp_seq (j0X (s:=s) (e:=8) (ns:=nm1) (by unfold nm1;repeat (first|exact Ors.last rfl rfl rfl rfl rfl rfl (by decide) (by decide)|refine Ors.more rfl rfl rfl rfl rfl rfl (by decide) (by decide) ?_)) (by decide) (by decide) s0 fun a1 s1 v1=>?_)
 refine wp_cond_split v1 (fun ht=>j0G rfl rfl rfl rfl rfl rfl rfl rfl rfl s1 fun a' d h2 h3 h4=>j0L rfl (by unfold known;rw[if_neg (ff f0),if_pos ht]) d h2 h3 h4) (fun f1=>?_);refine wp_seq (j0X (s:=s) (e:=22) (ns:=nm2) (by unfold nm2;repeat (first|exact Ors.last rfl rfl rfl rfl rfl rfl (by decide) (by decide)|refine Ors.more rfl rfl rfl rfl rfl rfl (by decide) (by decide) ?_)) (by decide) (by decide) s1 fun a2 s2 v2=>?_);refine wp_cond_split v2 (fun ht=>j0G rfl rfl rfl rfl rfl rfl rfl rfl rfl s2 fun a' d h2 h3 h4=>j0L rfl (by unfold known;rw[if_neg (ff f0),if_neg (ff f1),if_pos ht]) d h2 h3 h4) (fun f2=>?_);refine wp_seq (j0X (s:=s) (e:=39) (ns:=nm3) (by unfold nm3;repeat (first|exact Ors.last rfl rfl rfl rfl rfl rfl (by decide) (by decide)|refine Ors.more rfl rfl rfl rfl rfl rfl (by decide) (by decide) ?_)) (by decide) (by decide) s2 fun a3 s3 v3=>?_);refine wp_cond_split v3 (fun ht=>j0G rfl rfl rfl rfl rfl rfl rfl rfl rfl s3 fun a' d h2 h3 h4=>j0L rfl (by unfold known;rw[if_neg (ff f0),if_neg (ff f1),if_neg (ff f2),if_pos ht]) d h2 h3 h4) (fun f3=>?_)
 refine wp_seq (j0X (s:=s) (e:=42) (ns:=nm4) (by unfold nm4;repeat (first|exact Ors.last rfl rfl rfl rfl rfl rfl (by decide) (by decide)|refine Ors.more rfl rfl rfl rfl rfl rfl (by decide) (by decide) ?_)) (by decide) (by decide) s3 fun a4 s4 v4=>?_);refine wp_cond_split v4 (fun ht=>j0G rfl rfl rfl rfl rfl rfl rfl rfl rfl s4 fun a' d h2 h3 h4=>j0L rfl (by unfold known;rw[if_neg (ff f0),if_neg (ff f1),if_neg (ff f2),if_neg (ff f3),if_pos ht]) d h2 h3 h4) (fun f4=>?_);refine wp_seq (j0X (s:=s) (e:=46) (ns:=nm5) (by unfold nm5;repeat (first|exact Ors.last rfl rfl rfl rfl rfl rfl (by decide) (by decide)|refine Ors.more rfl rfl rfl rfl rfl rfl (by decide) (by decide) ?_)) (by decide) (by decide) s4 fun a5 s5 v5=>?_);refine wp_cond_split v5 (fun ht=>j0G rfl rfl rfl rfl rfl rfl rfl rfl rfl s5 fun a' d h2 h3 h4=>j0L rfl (by unfold known;rw[if_neg (ff f0),if_neg (ff f1),if_neg (ff f2),if_neg (ff f3),if_neg (ff f4),if_pos ht]) d h2 h3 h4) (fun f5=>?_)
 refine wp_seq (j0X (s:=s) (e:=63) (ns:=nm6) (by unfold nm6;repeat (first|exact Ors.last rfl rfl rfl rfl rfl rfl (by decide) (by decide)|refine Ors.more rfl rfl rfl rfl rfl rfl (by decide) (by decide) ?_)) (by decide) (by decide) s5 fun a6 s6 v6=>?_);refine wp_cond_split v6 (fun ht=>j0G rfl rfl rfl rfl rfl rfl rfl rfl rfl s6 fun a' d h2 h3 h4=>j0L rfl (by unfold known;rw[if_neg (ff f0),if_neg (ff f1),if_neg (ff f2),if_neg (ff f3),if_neg (ff f4),if_neg (ff f5),if_pos ht]) d h2 h3 h4) (fun f6=>?_);refine wp_skip ?_;exact j0G rfl rfl rfl rfl rfl rfl rfl rfl rfl s6 fun a' d h2 h3 h4=>j0L rfl (by unfold known;rw[if_neg (ff f0),if_neg (ff f1),if_neg (ff f2),if_neg (ff f3),if_neg (ff f4),if_neg (ff f5),if_neg (ff f6)]) d h2 h3 h4
end
section
open Go.RowKit
theorem jAX (x:Nat)(hx:x<18446744073709551616)(w:World):
 Calls prog 178 #[ap ao x] w fun e w'=>e=Q (E (O9 x))/\w'=w:=by
 have H1:=h_ (j2w x hx);have H2:=h_ (j5z x hx);have hV:Hid (O9 x=(cls x != 1&&cls x != 2 && !ngt x)):=rfl;generalize O9 x=V at *;generalize cls x=C at *;generalize ngt x=ah at *;go_enter func178,ntmps178;go_wp2_with (first|(go_at_call 145;refine(H1.o _).mono ?_;rintro e w' ⟨rfl,rfl⟩)|(go_at_call 175;refine(H2.o _).mono ?_;rintro e w' ⟨rfl,rfl⟩));all_goals
  go_ret;refine⟨j4 ?_,rfl⟩;rw[hV.o];try (clear H1 H2 hV;simp_all)
theorem D7:(prog.info? 34).map (·.size)=H 4:=by kernel_rfl
def nmd (h:Hd):Int×Int×Int×Int:=if h.k=5 then (h.c1,h.r1,h.c1,h.r1) else if h.k=6 then (h.c1,h.r1,h.c2,h.r2) else (0,0,0,0)
theorem jBU (h:Hd)(sl:Value)(w:World):
 Calls prog 165 #[h.val sl] w fun e w'=>e=Q (T #[O I (nmd h).1,O I (nmd h).2.1,O I (nmd h).2.2.1,O I (nmd h).2.2.2])/\Gr w w':=by
 obtain⟨V,hV⟩:∃V,nmd h=V:=⟨_,rfl⟩;rw[hV];have HV:Hid ((if h.k=5 then (h.c1,h.r1,h.c1,h.r1) else if h.k=6 then (h.c1,h.r1,h.c2,h.r2) else (0,0,0,0))=V):=hV;clear hV;obtain⟨k,o,x,s,b,f,c1,r1,p1,q1,c2,r2,p2,q2⟩:=h;simp only at *;go_enter func165,ntmps165;go_wp2;all_goals
  refine bodyPost_ret (results_cell_row rfl _ _ (w.heap.size+1) 34 _ (0,0) _ rfl (heap_alloc2_new _ _ _) underlying34 rfl D7) rfl ?_;refine⟨?_,((Gr.refl _).alloc _ _).alloc _ _⟩;rw[<- HV.o];clear HV;simp_all
theorem j91 (s:ByteArray)(n:Nat)(w:World)
 (K:∀w,Calls prog 179 #[aq s] w fun e w'=>e=Q (au #[O I (known s).1,O I (known s).2.1,E (known s).2.2])/\w'=w) :
 Calls prog 166 #[aq s,O I n] w fun e w'=>e=Q (O I (j06 s n))/\w'=w:=by
 have HK:=h_ K;have hV:Hid (j06 s n=if (known s).2.2=R then 21 else if (n:Int)<(known s).1∨(known s).2.1<n then 22 else 0):=rfl;clear K;generalize j06 s n=V at *;generalize known s=kk at *;obtain⟨a,b,c⟩:=kk;simp only at *;go_enter func166,ntmps166;go_wp2_with (go_at_call 179;refine(HK.o _).mono ?_;rintro e w' ⟨rfl,rfl⟩);all_goals
  go_ret;refine⟨rInt ?_,rfl⟩;rw[hV.o];try (clear HK hV;simp_all)
  try omega
theorem U9 (x:Nat):L0 x 0=((x:Int)==0):=by
 unfold L0;have h0:one 0=0:=rfl;rw[h0,Bool.eq_iff_iff,decide_eq_true_eq,beq_iff_eq];unfold one;split
 ·rename_i h
  constructor
  ·intro e;cases e
  ·intro e;have:x=0:=(by omega);subst this;exact absurd h (by decide)
 ·omega
def noN (h:Hd) (n:Nat):Bool:=h.k==0&&h.o==0&&(h.x:Int)==0&&decide (h.s.toList=[]) && !h.b&&h.f==0&&(h.c1==0&&h.r1==0&&h.p1==R&&h.q1==R)&&(h.c2==0&&h.r2==0&&h.p2==R&&h.q2==R)&&n==0
theorem jBi (t:Nd):noN t.hd t.ts.length=I4 t:=by
 obtain⟨h,ts⟩:=t;show noN h ts.length=G8 (.mk h ts) zNd;unfold zNd;have e0:(ByteArray.mk #[]).toList=[]:=ByteArray.toList_mk [];cases ts with
 | nil=>
  rw[G8];unfold noN j9 zHd;simp only[U9,e0,List.length_nil];cases h.b <;> simp[F3]
 | cons t ts=>
  rw[G8];unfold noN;simp[F3]
theorem jBj (h:Hd)(n:Nat)(a:Option Addr)(c:Nat)(w:World):
 Calls prog 89 #[h.val (U a n c)] w fun e w'=>e=Q (E (noN h n))/\Gr w w':=by
 have e1:=L4 h.c1 h.r1 0 0 h.p1 h.q1 R R _ rfl;have e2:=L4 h.c2 h.r2 0 0 h.p2 h.q2 R R _ rfl;have hV:Hid (noN h n=(h.k==0&&h.o==0&&(h.x:Int)==0&&decide (h.s.toList=[]) && !h.b&&h.f==0&&(h.c1==0&&h.r1==0&&h.p1==R&&h.q1==R)&&(h.c2==0&&h.r2==0&&h.p2==R&&h.q2==R)&&n==0)):=rfl;have G0:Hid (∀a t,Gr w (w.alloc (.cells a t))):=fun a t=>(Gr.refl w).alloc _ _
 generalize noN h n=V at *;generalize (h.c1==0&&h.r1==0&&h.p1==R&&h.q1==R)=b1 at *;generalize (h.c2==0&&h.r2==0&&h.p2==R&&h.q2==R)=b2 at *;obtain⟨k,o,x,s,b,f,c1,r1,p1,q1,c2,r2,p2,q2⟩:=h;simp only at *;go_enter func89,ntmps89;go_wp2;all_goals
  go_ret;refine⟨j4 ?_,G0.o _ _⟩;rw[hV.o];clear hV G0 e1 e2
  (try simp_all) <;> (try (rw[Bool.eq_iff_iff];simp))
theorem jBk (v:Vl)(w:World):
 Calls prog 88 #[v.val] w fun e w'=>e=Q (E (J9 v))/\Gr w w':=by
 have hV:Hid (J9 v=(v.k==0&&((v.k==1 || (v.x:Int)==0)&&(v.k==2 || decide (v.s.toList=[]))&&(v.k==3 || !v.b)&&(v.k==4 || v.f==0)))):=rfl;have G0:Hid (∀a t,Gr w (w.alloc (.cells a t))):=fun a t=>(Gr.refl w).alloc _ _
 generalize J9 v=V at *;obtain⟨k,x,s,b,f⟩:=v;simp only at *;go_enter func88,ntmps88;go_wp2;all_goals
  go_ret;refine⟨j4 ?_,G0.o _ _⟩;rw[hV.o];clear hV G0
  (try simp_all) <;> (try (rw[Bool.eq_iff_iff];simp))
theorem j2P (x:Nat)(hx:x<18446744073709551616)(w:World):
 Calls prog 131 #[.int .u64 (x:Int)] w fun e w'=>e=Q (.int .u64 (one x:Nat))/\w'=w:=by
 have:=jDR (x:Int) (show (0:Int)<=x by omega) (show (x:Int)<18446744073709551616 by omega) w;rw[Int.toNat_natCast] at this;exact this
theorem j6o (a b:Nat)(ha:a<18446744073709551616)(hb:b<18446744073709551616)(w:World):
 Calls prog 115 #[ap ao a,ap ao b] w fun e w'=>e=Q (E (L0 a b))/\w'=w:=by
 have H1:=h_ (j2P a ha);have H2:=h_ (j2P b hb);have hV:Hid (L0 a b=decide (one a=one b)):=rfl;generalize L0 a b=V at *;generalize one a=x at *;generalize one b=y at *;go_enter func115,ntmps115;go_wp2_with fail;refine(H1.o _).mono ?_;rintro e w1 ⟨rfl,rfl⟩;go_wp2_with fail;refine(H2.o _).mono ?_;rintro e w2 ⟨rfl,rfl⟩;go_wp2_with fail;go_ret;refine⟨j4 ?_,rfl⟩;rw[hV.o,Bool.eq_iff_iff];simp only[beq_iff_eq,decide_eq_true_eq];omega
theorem j3i (a:Nat)(ha:a<18446744073709551616)(w:World):
 Calls prog 114 #[ap ao a] w fun e w'=>e=Q (.int .u64 (one a:Nat))/\w'=w:=by
 have H1:=h_ (j2P a ha);generalize one a=x at *;go_enter func114,ntmps114;go_wp2_with (go_at_call 131;refine(H1.o _).mono ?_;rintro e w1 ⟨rfl,rfl⟩);go_ret;exact⟨rfl,rfl⟩
def j0V (v u:Vl):Bool:=v.k==u.k&&(if v.k=1 then L0 v.x u.x else if v.k=2 then decide (v.s.toList=u.s.toList) else if v.k=3 then v.b==u.b else if v.k=4 then v.f==u.f else J)
theorem jDn (v u:Vl)(hv:v.x<18446744073709551616)(hu:u.x<18446744073709551616)(w:World):
 Calls prog 81 #[v.val,u.val] w fun e w'=>e=Q (E (j0V v u))/\Kp w w' Nul:=by
 have H1:=h_ (j3i v.x hv);have H2:=h_ (j3i u.x hu);have hV:Hid (j0V v u=(v.k==u.k&&(if v.k=1 then decide (one v.x=one u.x) else if v.k=2 then decide (v.s.toList=u.s.toList) else if v.k=3 then v.b==u.b else if v.k=4 then v.f==u.f else J))):=rfl;generalize j0V v u=V at *;generalize one v.x=x1 at *;generalize one u.x=x2 at *;obtain⟨k,x,s,b,f⟩:=v;obtain⟨k',x',s',b',f'⟩:=u;simp only at *;clear hv hu;by_cases hk:k=k'
 ·subst hk;by_cases k1:k=1
  ·subst k1;have HE:Hid (V=decide (x1=x2)):=(by show _=_;rw[hV.o];simp);clear hV;go_enter func81,ntmps81;go_wp2_with fail
   go_region_with (first|(go_at_call 114;refine(H1.o _).mono ?_;rintro e w' ⟨rfl,rfl⟩)|(go_at_call 114;refine(H2.o _).mono ?_;rintro e w' ⟨rfl,rfl⟩))
   all_goals
    go_wp2_with fail;go_ret;refine⟨j4 ?_,by repeat (first|exact Kp.refl _ _|refine Kp.alloc ?_ _|refine Kp.drew ?_)⟩;rw[HE.o,Bool.eq_iff_iff];simp only[beq_iff_eq,decide_eq_true_eq];omega
  ·have e1:(k==1)=R:=(by simpa using k1);clear H1 H2;go_enter func81,ntmps81;go_wp2_with fail;all_goals
    go_ret;refine⟨j4 ?_,by repeat (first|exact Kp.refl _ _|refine Kp.alloc ?_ _|refine Kp.drew ?_)⟩;rw[hV.o];clear hV
    (try simp_all) <;> (try (rw[Bool.eq_iff_iff];simp))
 ·have e1:(k==k')=R:=by simpa using hk
  have HE:Hid (V=R):=by show _=_;rw[hV.o,e1];rfl
  clear H1 H2 hV;go_enter func81,ntmps81;go_wp2_with fail;all_goals
   go_ret;exact⟨j4 HE.o.symm,by repeat (first|exact Kp.refl _ _|refine Kp.alloc ?_ _|refine Kp.drew ?_)⟩
def wds (cur:List UInt8):List UInt8->List (List UInt8)
 | []=>[cur]
 | c::cs=>if c=32 then cur::wds [] cs else wds (cur++[c]) cs
def oneB (s:ByteArray) (l:List UInt8):Bool:=decide (s.toList≠[])&&(wds [] l).any (fun x=>x==s.toList)
def Q7 (s:ByteArray) (l:List UInt8) (f i:Nat):Bool:=decide (s.toList≠[])&&(wds ((l.take i).drop f) (l.drop i)).any (fun x=>x==s.toList)
theorem jBz (s:ByteArray)(l:List UInt8)(f:Nat):Q7 s l f l.length=(decide (s.toList≠[])&&((l.take l.length).drop f==s.toList)):=by
 unfold Q7;rw[List.drop_length,wds];simp
theorem jBy {s:ByteArray}{l:List UInt8}{f i:Nat}(h:i<l.length)(hb:l[i]=32):Q7 s l f i=(decide (s.toList≠[])&&((l.take i).drop f==s.toList)||Q7 s l (i+1) (i+1)):=by
 unfold Q7;rw[List.drop_eq_getElem_cons h,wds,if_pos hb];have:(l.take (i+1)).drop (i+1)=[]:=by rw[List.drop_eq_nil_iff,List.length_take];omega
 rw[this];simp only[List.any_cons];cases decide (s.toList≠[]) <;> simp
theorem jC0 {s:ByteArray}{l:List UInt8}{f i:Nat}(h:i<l.length)(hf:f<=i)(hb:l[i]≠32):Q7 s l f i=Q7 s l f (i+1):=by
 unfold Q7;rw[List.drop_eq_getElem_cons h,wds,if_neg hb];have:(l.take (i+1)).drop f=(l.take i).drop f++[l[i]]:=by
  rw[List.take_add_one,List.getElem?_eq_getElem h,List.drop_append_of_le_length (by rw[List.length_take];omega)]
  rfl
 rw[this]
theorem jC1 (s:ByteArray)(l:List UInt8)(hl:l.length<=1048576)(w:World):
 Calls prog 182 #[aq s,aq ⟨l.toArray⟩] w fun e w'=>e=Q (E (oneB s l))/\w'=w:=by
 have h0:oneB s l=Q7 s l 0 0:=by unfold oneB Q7;simp
 rw[h0];obtain⟨ANS,hA⟩:=e_ (Q7 s l 0 0);rw[hA];have HA:=h_ hA;have hsz:(ByteArray.mk l.toArray).size=l.length:=by simp[ByteArray.size]
 obtain⟨n,hn⟩:=e_ l.length;have HN:=h_ hn;have HL:Hid (n<=1048576):=by show _<=_;omega
 have HEX:Hid (∀f i:Nat,(ByteArray.mk l.toArray).extract f i=⟨((l.take i).drop f).toArray⟩):=fun f i=>by
  show _=_;rw[ByteArray.extract_mk]
  congr 1
  apply Array.ext'
  simp[List.drop_take]
 rw[hn] at hsz;clear hA h0 hl hn;go_enter func182,ntmps182;go_wp2_with fail;go_loopw[5,6] (fun f i wr=>wr=w/\∃a b:Nat,f=O I a/\i=O I b/\((a<=b/\b<=n/\Q7 s l a b=ANS)∨(b=n+1/\ANS=R))) (fun _ i _=>n+2-(RowKit.intOf i).toNat)
 case atStart=>exact⟨rfl,0,0,rfl,rfl,.inl ⟨Nat.le_refl _,Nat.zero_le _,HA.o⟩⟩
 case round=>
  obtain⟨rfl,a,b,rfl,rfl,hab⟩:=hrel;rcases hab with ⟨h1,h2,h3⟩|⟨rfl,h3⟩
  ·have j1:(b:Int)<=(n:Int):=(by omega);have jb:(b:Int)+1<=9223372036854775807:=(by have:=HL.o;omega);have hx:=HEX.o a b;have ja:(a:Int)<=(b:Int):=(by omega);have tl:(ByteArray.mk ((l.take b).drop a).toArray).toList=(l.take b).drop a:=ByteArray.toList_mk _;by_cases hbn:b=n
   ·subst hbn;have HE:Hid (ANS=(decide (s.toList≠[])&&((l.take b).drop a==s.toList))):=by
     show _=_;rw[<- h3,<- HN.o,jBz]
    clear h3 j1 h1 h2 HA;generalize (l.take b).drop a=X at *;cases hq:X==s.toList with
    | true=>
     cases hs:s.toList==([]:List UInt8) with
     | true=>
      have HE2:Hid (ANS=R):=(by show _=_;rw[HE.o];simp at hs;simp[hs]);clear HE;go_wp2_with fail;go_roundw
      case rel=>exact⟨trivial,b+1,b+1,by go_num,by go_num,.inr ⟨rfl,HE2.o⟩⟩
      case measure=>simp only[RowKit.intOf];omega
     | false=>
      have HE2:Hid (ANS=J):=(by show _=_;rw[HE.o,hq];simp at hs;simp[hs]);clear HE;go_wp21;go_ret;exact⟨j4 HE2.o.symm,rfl⟩
    | false=>
     have HE2:Hid (ANS=R):=(by show _=_;rw[HE.o,hq];simp);clear HE;go_wp2_with fail;go_roundw
     case rel=>exact⟨trivial,b+1,b+1,by go_num,by go_num,.inr ⟨rfl,HE2.o⟩⟩
     case measure=>simp only[RowKit.intOf];omega
   ·have hlt:b<n:=(by omega);have hll:b<l.length:=(by rw[HN.o];exact hlt);have hbsz:b<(ByteArray.mk l.toArray).size:=(by rw[hsz];exact hlt);have hgt:(ByteArray.mk l.toArray)[b]'hbsz=l[b]:=rfl;have jbn:((b:Int)==(n:Int))=R:=(by simp;omega);have jb2:(b:Int)<(n:Int):=(by omega);have jb0:(0:Int)<=(b:Int):=(by omega);by_cases h32:l[b]=32
    ·have HE:Hid (ANS=(decide (s.toList≠[])&&((l.take b).drop a==s.toList)||Q7 s l (b+1) (b+1))):=by
      show _=_;rw[<- h3,jBy hll h32]
     have h32n:(l[b]).toNat=32:=(by rw[h32];rfl);clear h3 h1 h2 HA h32;generalize l[b]=ch at *;have h32j:((ch.toNat:Nat):Int)=32:=(by omega);clear h32n;generalize (l.take b).drop a=X at *;generalize hO:Q7 s l (b+1) (b+1)=aa at *;cases hq:X==s.toList with
     | true=>
      cases hs:s.toList==([]:List UInt8) with
      | true=>
       have HE2:Hid (aa=ANS):=(by show _=_;rw[HE.o];simp at hs;simp[hs]);have HO:=h_ hO;clear HE hO;go_wp2_with fail;go_roundw
       case rel=>exact⟨trivial,b+1,b+1,by go_num,by go_num,.inl ⟨Nat.le_refl _,by omega,HO.o.trans HE2.o⟩⟩
       case measure=>simp only[RowKit.intOf];omega
      | false=>
       have HE2:Hid (ANS=J):=(by show _=_;rw[HE.o,hq];simp at hs;simp[hs]);clear HE hO;go_wp21;go_ret;exact⟨j4 HE2.o.symm,rfl⟩
     | false=>
      have HE2:Hid (aa=ANS):=(by show _=_;rw[HE.o,hq];simp);have HO:=h_ hO;clear HE hO;go_wp2_with fail;go_roundw
      case rel=>exact⟨trivial,b+1,b+1,by go_num,by go_num,.inl ⟨Nat.le_refl _,by omega,HO.o.trans HE2.o⟩⟩
      case measure=>simp only[RowKit.intOf];omega
    ·have HE:Hid (Q7 s l a (b+1)=ANS):=(by show _=_;rw[<- h3,jC0 hll h1 h32]);have h32n:¬(l[b]).toNat=32:=(fun e=>h32 (by rw[<- UInt8.toNat_inj];exact e));generalize l[b]=ch at *;have h32i:(((ch.toNat:Nat):Int)==32)=R:=(by simp;omega);have h32j:¬((ch.toNat:Nat):Int)=32:=(by omega);clear h3 HA;go_wp2_with fail;go_roundw
     case rel=>exact⟨trivial,a,b+1,rfl,by go_num,.inl ⟨by omega,by omega,HE.o⟩⟩
     case measure=>simp only[RowKit.intOf];omega
  ·have j1:¬((n+1:Nat):Int)<=(n:Int):=(by omega);have H3:=h_ h3;clear h3;go_wp2_with fail;go_ret;exact⟨j4 H3.o.symm,rfl⟩
theorem jAW (s:ByteArray)(l:List UInt8)(nm:List ByteArray)(h:wds [] l=nm.map (fun n=>n.data.toList))(hne:∀n∈nm,n.data.toList≠[]):oneB s l=F7 s nm:=by
 unfold oneB F7;rw[h,List.any_map];rw[Bool.eq_iff_iff,Bool.and_eq_true,List.any_eq_true,List.any_eq_true];constructor
 ·rintro⟨_,n,hn,e⟩;refine⟨n,hn,?_⟩;simp only[Function.comp,beq_iff_eq] at e;rw[beq_iff_eq,Lib.toList_data n,e]
 ·rintro⟨n,hn,e⟩;rw[beq_iff_eq,Lib.toList_data n] at e;refine⟨?_,n,hn,?_⟩
  ·rw[decide_eq_true_eq,e];exact hne n hn
  ·simp only[Function.comp,beq_iff_eq];exact e.symm
theorem jDT {s:ByteArray}{l:List UInt8}{nm:List ByteArray}(hl:l.length<=1048576)(h:wds [] l=nm.map (fun n=>n.data.toList))(hne:∀n∈nm,n.data.toList≠[])(w:World):
 Calls prog 182 #[aq s,aq ⟨l.toArray⟩] w fun e w'=>e=Q (E (F7 s nm))/\w'=w:=by
 rw[<- jAW s l nm h hne];exact jC1 s l hl w
theorem j0I {s:ByteArray}{a b:Int}{c:Bool}(h:known s=(a,b,c)):Q (au #[O I a,O I b,E c])=Q (au #[O I (known s).1,O I (known s).2.1,E (known s).2.2]):=by rw[h]
theorem jDJ (s:ByteArray)(w:World):
 Calls prog 168 #[aq s] w fun e w'=>e=Q (au #[O I (known s).1,O I (known s).2.1,E (known s).2.2])/\w'=w:=by
 have H1:Hid (∀(l:List UInt8) (nm:List ByteArray),l.length<=1048576->wds [] l=nm.map (fun n=>n.data.toList)->(∀n∈nm,n.data.toList≠[])->∀w,Calls prog 182 #[aq s,aq ⟨l.toArray⟩] w fun e w'=>e=Q (E (F7 s nm))/\w'=w):=fun l nm h1 h2 h3 w=>jDT h1 h2 h3 w
 have e0:(s.toList==[78,65])=F7 s nm0:=by unfold F7 nm0;simp
 have e6:(s.toList==[67,72,79,79,83,69])=F7 s nm6:=by unfold F7 nm6;simp
 have HKn:Hid (known s=(if F7 s nm0=J then (0,0,J) else if F7 s nm1=J then (1,1,J) else if F7 s nm2=J then (2,2,J) else if F7 s nm3=J then (2,3,J) else if F7 s nm4=J then (3,3,J) else if F7 s nm5=J then (1,256,J) else if F7 s nm6=J then (2,256,J) else (0,0,R))):=rfl;go_enter func168,ntmps168;cases h0:F7 s nm0 with
 | true=>
  rw[h0] at e0;have HE:Hid (known s=(0,0,J)):=by show _=_;rw[HKn.o];simp[h0]
  go_wp2_with fail;refine bodyPost_ret (j01 rfl _ _ _) rfl ?_;exact⟨j0I HE.o,rfl⟩
 | false=>
 rw[h0] at e0;go_wp2_with fail;refine(H1.o _ nm1 ?a1 ?b1 ?c1 _).mono ?d1
 case a1=>decide
 case b1=>rfl
 case c1=>decide
 rintro e w1 ⟨rfl,hw1⟩;replace hw1:=hw1.symm;subst hw1;cases h1:F7 s nm1 with
 | true=>
  have HE:Hid (known s=(1,1,J)):=by show _=_;rw[HKn.o];simp[h0,h1]
  go_wp2_with fail;refine bodyPost_ret (j01 rfl _ _ _) rfl ?_;exact⟨j0I HE.o,rfl⟩
 | false=>
 go_wp2_with fail;refine(H1.o _ nm2 ?a2 ?b2 ?c2 _).mono ?d2
 case a2=>decide
 case b2=>rfl
 case c2=>decide
 rintro e w2 ⟨rfl,hw2⟩;replace hw2:=hw2.symm;subst hw2;cases h2:F7 s nm2 with
 | true=>
  have HE:Hid (known s=(2,2,J)):=by show _=_;rw[HKn.o];simp[h0,h1,h2]
  go_wp2_with fail;refine bodyPost_ret (j01 rfl _ _ _) rfl ?_;exact⟨j0I HE.o,rfl⟩
 | false=>
 go_wp2_with fail;refine(H1.o _ nm3 ?a3 ?b3 ?c3 _).mono ?d3
 case a3=>decide
 case b3=>rfl
 case c3=>decide
 rintro e w3 ⟨rfl,hw3⟩;replace hw3:=hw3.symm;subst hw3;cases h3:F7 s nm3 with
 | true=>
  have HE:Hid (known s=(2,3,J)):=by show _=_;rw[HKn.o];simp[h0,h1,h2,h3]
  go_wp2_with fail;refine bodyPost_ret (j01 rfl _ _ _) rfl ?_;exact⟨j0I HE.o,rfl⟩
 | false=>
 go_wp2_with fail;refine(H1.o _ nm4 ?a4 ?b4 ?c4 _).mono ?d4
 case a4=>decide
 case b4=>rfl
 case c4=>decide
 rintro e w4 ⟨rfl,hw4⟩;replace hw4:=hw4.symm;subst hw4;cases h4:F7 s nm4 with
 | true=>
  have HE:Hid (known s=(3,3,J)):=by show _=_;rw[HKn.o];simp[h0,h1,h2,h3,h4]
  go_wp2_with fail;refine bodyPost_ret (j01 rfl _ _ _) rfl ?_;exact⟨j0I HE.o,rfl⟩
 | false=>
 go_wp2_with fail;refine(H1.o _ nm5 ?a5 ?b5 ?c5 _).mono ?d5
 case a5=>decide
 case b5=>rfl
 case c5=>decide
 rintro e w5 ⟨rfl,hw5⟩;replace hw5:=hw5.symm;subst hw5;cases h5:F7 s nm5 with
 | true=>
  have HE:Hid (known s=(1,256,J)):=by show _=_;rw[HKn.o];simp[h0,h1,h2,h3,h4,h5]
  go_wp2_with fail;refine bodyPost_ret (j01 rfl _ _ _) rfl ?_;exact⟨j0I HE.o,rfl⟩
 | false=>
 cases h6:F7 s nm6 with
 | true=>
  rw[h6] at e6;have HE:Hid (known s=(2,256,J)):=by show _=_;rw[HKn.o];simp[h0,h1,h2,h3,h4,h5,h6]
  go_wp2_with fail;refine bodyPost_ret (j01 rfl _ _ _) rfl ?_;exact⟨j0I HE.o,rfl⟩
 | false=>
 rw[h6] at e6;have HE:Hid (known s=(0,0,R)):=by show _=_;rw[HKn.o];simp[h0,h1,h2,h3,h4,h5,h6]
 go_wp2_with fail;refine bodyPost_ret (j01 rfl _ _ _) rfl ?_;exact⟨j0I HE.o,rfl⟩
theorem jDO (N:Nat):∀(t:Nd) (sl:Value) (F:Nat->Prop) (w:World),t.size<=N->t.size<=1048576->t.ok->NdIn w F sl t ->
 Calls prog 95 #[t.hd.val sl] w fun e w'=>∃sl' fp,e=Q ((cpy t).hd.val sl')/\Own w' w.heap.size sl' (cpy t) fp/\Below w.heap.size w w':=by
 induction N with
 | zero=>intro t sl F w h;have:=L7 t;omega
 | succ N ih=>
  intro t sl F w hN hm hok hin;obtain⟨h,ts⟩:=t;rw[NdIn] at hin;obtain⟨a,c,rfl,_,_,h4⟩:=hin;have hsz:Hid ((Nd.mk h ts).size=1+D3 ts):=by show _=_;rw[Nd.size]
  have HN:=h_ hN;have HM:=h_ hm;have IH:Hid (∀(t:Nd) (sl:Value) (F:Nat->Prop) (w:World),t.size<=N->t.size<=1048576->t.ok->NdIn w F sl t ->
   Calls prog 95 #[t.hd.val sl] w fun e w'=>∃sl' fp,e=Q ((cpy t).hd.val sl')/\Own w' w.heap.size sl' (cpy t) fp/\Below w.heap.size w w'):=ih
  have H4:=h_ h4;have hln:=j0k ts;have HLM:Hid (ts.length<=1048576):=by show _<=_;have:=hsz.o;omega
  clear ih hN hm h4 hln;rw[cpy];simp only[Nd.hd];have H1:=h_ (j2P h.x hok.x);have HOK:=h_ hok.l;clear hok;generalize hy:one h.x=y at *;clear hy;generalize hn:ts.length=n at *;have HL:=h_ hn;clear hn;obtain⟨W0,hW0⟩:=e_ ((((w.alloc (.cells (h.cells (U a n c)).toArray 48)).alloc (.cells [O I 0,O I 0,ap ao 0,aq ⟨#[]⟩,E R,O I 0,O I 0,O I 0,E R,E R,O I 0,O I 0,E R,E R,U G 0 0].toArray 48)).alloc (.cells (({ h with x:=y }:Hd).cells (U G 0 0)).toArray 48)));have OS:=OwAt.start (w:=w) (h.cells (U a n c)) [O I 0,O I 0,ap ao 0,aq ⟨#[]⟩,E R,O I 0,O I 0,O I 0,E R,E R,O I 0,O I 0,E R,E R,U G 0 0] { h with x:=y };rw[hW0] at OS
  have HOS:=h_ OS;have RR:Hid (∀o,((w.alloc (.cells (h.cells (U a n c)).toArray 48)).alloc o).rangeAt w.heap.size 0 (h.cells (U a n c))):=fun o=>j2K w _ _ o
  clear OS;obtain⟨k,o',x,s,bb,f,c1,r1,p1,q1,c2,r2,p2,q2⟩:=h;have HW:=h_ hW0;clear hW0;obtain⟨i0,hi,hz0,hz1,hz2⟩:=j1K;go_enter func95,ntmps95;go_wp2_with (first|(go_at_call 131;refine(H1.o _).mono ?_;rintro e w' ⟨rfl,rfl⟩)|(refine wpList_load_mid rfl _ _ rfl _ _ rfl _ _ (RR.o _) underlying48 rfl j3 ?_)|(refine F9 rfl _ _ _ rfl _ _ _ _ _ (by first|rfl|simp) rfl rfl rfl j3 (Hd.one ⟨k,o',x,s,bb,f,c1,r1,p1,q1,c2,r2,p2,q2⟩ rfl) ?_));rw[HW.o];clear HW RR H1;go_loopw[4] (fun i wr=>∃(q:Nat) (v:Value) (fp:List Nat),q<=n/\i=O I q/\OwAt w wr (Hd.cells ⟨k,o',x,s,bb,f,c1,r1,p1,q1,c2,r2,p2,q2⟩ (U a n c)) [O I 0,O I 0,ap ao 0,aq ⟨#[]⟩,E R,O I 0,O I 0,O I 0,E R,E R,O I 0,O I 0,E R,E R,U G 0 0] ⟨k,o',y,s,bb,f,c1,r1,p1,q1,c2,r2,p2,q2⟩ (cpyL (ts.take q)) v fp) (fun i _=>n-(RowKit.intOf i).toNat)
  case atStart=>exact⟨0,U G 0 0,[],Nat.zero_le _,rfl,by rw[List.take_zero,cpyL];exact HOS.o⟩
  case round=>
   obtain⟨q,v,fp,hq,rfl,hat⟩:=hrel;have AT:=h_ hat;have hlt3:=hat.lt;have x14:=hat.b1.c_ 14 rfl;by_cases hlt:q<n
   ·have hqt:q<ts.length:=(by rw[HL.o];exact hlt);obtain⟨b,o,rfl,hFb,hns⟩:∃b o,a=H ⟨b,o,G⟩/\F b/\F6 w F b o ts:=by
     rcases H4.o with h|h
     ·rw[h.1] at hqt;simp at hqt
     ·exact h
    obtain⟨s1,hr,hni⟩:=hns.get q hqt;obtain⟨pv,lv,cv,rfl⟩:=j0l hat.own.own;obtain⟨xs,hxs⟩:=hat.own.row;have hul:Hid ((cpyL (ts.take q)).length=q):=(by show _=_;rw[j4h,List.length_take];omega);have hbw:=Q0 hr;have HS:Hid (∀wq,Below (w.heap.size+3) wr wq->wq.cell? ⟨w.heap.size,14,G⟩=H (U (H ⟨b,o,G⟩) n c)/\wq.cell? ⟨w.heap.size+2,14,G⟩=H (U pv lv cv)):=(fun wq hk=>⟨(hk.cell (by simp)).trans (hat.b1.cell rfl),(hk.cell (by simp)).trans (hat.b3.cell rfl)⟩);have HR:=(h_ fun wq (hk:Below (w.heap.size+3) wr wq)=>I7 hr ((hk.block b (by omega)).trans (hat.bel.block b hbw)));have hs1:=Q4 ts q hqt;have hni':=(fun wq (hk:Below wr.heap.size wr wq)=>hni.mono fun b hb hl=>⟨(hk.block b (by omega)).trans (hat.bel.block b hl),hb⟩);have HC:=h_ fun wq (hq:Below wr.heap.size wr wq)=>IH.o ts[q] s1 F wq (by have:=HN.o;have:=hsz.o;omega) (by have:=HM.o;have:=hsz.o;omega) (HOK.o.get q hqt) (hni' wq hq)
    have hu3:=h_ (j4l ts q hqt);have O1:=h_ hni.one;clear hs1 hni hni' hr hns;generalize cpy ts[q]=u at *;generalize (ts[q]).hd=hh at *;generalize cpyL (ts.take q)=us at *;have hkb:(q:Int)+1<=9223372036854775807:=(by have:=HLM.o;omega);have hq0:(0:Int)<=(q:Int):=(by omega);have hqn:(q:Int)<(n:Int):=(by omega);have HX3:=(h_ fun w2 (h2:Below wr.heap.size wr w2) o=>(j0F hxs h2).alloc o);clear hat hxs;go_wp2_with fail;refine wp_region_noPanic ?_;refine j12 (fun w':World=>Below (w.heap.size+3) wr w') 11 (by kernel_rfl) ((Below.refl _ _).drew) (fun hHeld=>?_);refine tb 0 20 hHeld ?_ (hy:=by intro w' hSw;obtain⟨s0,s1⟩:=HS.o _ hSw;clear hSw;go_simp;try with_reducible rfl);refine tb 1 21 hHeld ?_ (hy:=by intro w' hSw;obtain⟨s0,s1⟩:=HS.o _ hSw;clear hSw;go_simp;try with_reducible rfl);refine tb 2 22 hHeld ?_ (hy:=by intro w' hSw;obtain⟨s0,s1⟩:=HS.o _ hSw;clear hSw;go_simp;try with_reducible rfl)
    refine tb 3 23 hHeld ?_ (hy:=by intro w' hSw;obtain⟨s0,s1⟩:=HS.o _ hSw;clear hSw;go_simp;try with_reducible rfl);refine tb 4 24 hHeld ?_ (hy:=by intro w' hSw;obtain⟨s0,s1⟩:=HS.o _ hSw;clear hSw;go_simp;try with_reducible rfl);refine tb 5 25 hHeld ?_ (hy:=by intro w' hSw;obtain⟨s0,s1⟩:=HS.o _ hSw;clear hSw;go_simp;try with_reducible rfl);refine tb 6 26 hHeld ?_ (v:=hh.val s1) (hy:=by exact fun w' hSw=>j1B (hh.cells s1) rfl rfl (HR.o w' hSw) rfl);refine I5 (i:=7) (by kernel_rfl) rfl rfl (fun K hK=>?_);go_simp;refine(HC.o _ ((Below.refl _ _).drew)).mono ?_;rintro e w2 ⟨su,fu,rfl,hown,hbl⟩;have hb2:=((Below.refl wr.heap.size wr).drew).trans hbl;have HB2:=h_ hb2;have HU:=h_ hown;refine hK.o _ _ (fun _=>hb2.mono hlt3) (fun _=>?_);clear hK K hHeld hown hbl HC HS HR x14;refine I5 (i:=8) (by kernel_rfl) rfl rfl (fun K hK=>?_);go_simp;refine hK.o _ _ (fun _=>(hb2.alloc hb2.size _).mono hlt3) (fun _=>?_)
    clear hK K;refine I5 (i:=9) (by kernel_rfl) rfl rfl (fun K hK=>?_);refine j0W _ (.tmp 21) (.tmp 28) 46 rfl (w.heap.size+3) 48 i0 _ 15 128 underlying46 hi hz0 hz1 hz2 rfl (by decide) (U pv lv cv) us.length xs rfl (HX3.o w2 HB2.o _) ⟨w2.heap.size,0,G⟩ 1 1 (u.hd.cells su) rfl rfl ?c1 ?c2 (by decide) ?c3 ?c4 ?c5 ?_
    case c1=>
     intro j u' hj;rw[R5,Nat.zero_add];exact(Blk.new w2 (u.hd.cells su) 48).cell hj
    case c2=>exact j1J u.hd HU.o.own.one
    case c3=>rw[hul.o];unfold maxLen;omega
    case c4=>rw[hul.o];have:=HLM.o;omega
    case c5=>have:=hb2.size;simp[World.size_alloc];omega
    intro g c' w4 ho hgr ht;obtain⟨fp',hat5⟩:=AT.o.step HB2.o (Nat.le_refl _) HU.o (HX3.o w2 HB2.o _) ho hgr ht;have h4b:Below (w.heap.size+3) wr w4:=by
     refine⟨hgr.os.trans hb2.os,hgr.tape.trans hb2.tape,hgr.output.trans hb2.output,?_,fun i hi=>?_⟩
     ·have h1:=hgr.size;have h2:=hb2.size;rw[World.size_alloc] at h1;omega
     ·rw[hgr.block i (by rw[World.size_alloc];have:=hb2.size;omega) (fun e=>by have:=((HX3.o w2 HB2.o (.cells #[] 0)).lt i e.symm).1;omega),Below.heap_alloc _ _ _ (by have:=hb2.size;omega)];exact hb2.block i (by omega)
    have A5:=h_ hat5;refine hK.o _ _ (fun _=>h4b) (fun hHeld=>?_);have f3:w4.frozen? ⟨w.heap.size+2,14,G⟩=R:=by
     have:Blk w4 (w.heap.size+2) _ 48:=(h4b.block _ (by omega)).trans AT.o.b3;exact this.froz _
    have c3:w4.cell? ⟨w.heap.size+2,14,G⟩=H (U pv lv cv):=by
     have:Blk w4 (w.heap.size+2) _ 48:=(h4b.block _ (by omega)).trans AT.o.b3;exact this.cell rfl
    clear hK K hat5 ho hgr ht h4b hb2;simp only[Act.put,List.setIfInBounds_toArray];refine I5 (i:=10) (by kernel_rfl) rfl rfl (fun K hK=>?_);go_simp;refine hK.o _ _ (fun _=>hHeld (by decide)) (fun _=>?_);clear hK K;refine I5 (i:=11) (by kernel_rfl) rfl rfl (fun K hK=>?_);go_simp;refine hK.o _ _ (fun h=>absurd rfl h) (fun _=>?_);clear hK K hHeld c3 f3;refine j10 (by kernel_rfl) ?_;refine NoPanic.normal ?_;go_wp2_with fail;go_roundw
    case rel=>exact⟨q+1,_,fp',by omega,by go_num,by rw[hu3.o];exact A5.o⟩
    case measure=>simp only[RowKit.intOf];omega
   ·have hqe:q=n:=(by omega);subst hqe;have hqn:¬((q:Int)<(q:Int)):=(by omega);have hall:cpyL (ts.take q)=cpyL ts:=(by rw[List.take_of_length_le (by rw[HL.o];exact Nat.le_refl _)]);have R3:Hid (wr.rangeAt (w.heap.size+2) 0 (Hd.cells ⟨k,o',y,s,bb,f,c1,r1,p1,q1,c2,r2,p2,q2⟩ v)):=(fun j u hj=>by rw[Nat.zero_add];exact hat.b3.cell hj);have T1:Hid (wr.there (w.heap.size+1) 0 15):=J5 hat.b2 _ _ (by simp);obtain⟨W5,hW5⟩:=e_ (wr.setCells (w.heap.size+1) 0 (Hd.cells ⟨k,o',y,s,bb,f,c1,r1,p1,q1,c2,r2,p2,q2⟩ v));have HW5:=h_ hW5;have E1:Hid (W5.heap[w.heap.size+1]? = H (.cells (Hd.cells ⟨k,o',y,s,bb,f,c1,r1,p1,q1,c2,r2,p2,q2⟩ v).toArray 48 (0,0))):=by
     show _=_;rw[<- hW5];exact V9 (cs:=(Hd.cells ⟨k,o',y,s,bb,f,c1,r1,p1,q1,c2,r2,p2,q2⟩ v).toArray) hat.b2 (by simp)
    have OW:Hid (Own W5 w.heap.size v (.mk ⟨k,o',y,s,bb,f,c1,r1,p1,q1,c2,r2,p2,q2⟩ (cpyL ts)) fp):=by
     show Own _ _ _ _ _;rw[<- hall,<- hW5];refine⟨hat.own.own.mono (fun b hb=>L5 (by have:=(hat.own.new b hb).1;omega) _ _ _),hat.own.nodup,fun b hb=>?_⟩;rw[T6];exact⟨by have:=(hat.own.new b hb).1;omega,(hat.own.new b hb).2⟩
    have BW:Hid (Below w.heap.size w W5):=by
     show Below _ _ _;rw[<- hW5];exact Y1 hat.bel (Nat.le_succ _) _ _
    have O1:=h_ hat.own.own.one;clear hat AT IH H4 HOS HOK hW5 hall;go_wp2_with (first|(refine wpList_load_mid rfl _ _ rfl _ _ rfl _ _ R3.o underlying48 rfl j3 ?_)|(refine j02 rfl _ _ _ rfl _ _ _ rfl rfl T1.o j3 (Hd.one ⟨k,o',y,s,bb,f,c1,r1,p1,q1,c2,r2,p2,q2⟩ O1.o) W5 HW5.o ?_));refine bodyPost_ret (results_cell_row rfl _ _ (w.heap.size+1) 48 _ (0,0) _ rfl E1.o underlying48 rfl j3) rfl ?_;exact⟨_,rfl,⟨_,OW.o⟩,BW.o⟩
theorem jDP (x:Nat)(w:World):Calls prog 129 #[.int .u64 (x:Int)] w fun e w'=>e=Q (ap ao x)/\w'=w:=by
 go_enter func129,ntmps129;go_wp2;go_ret;exact⟨rfl,rfl⟩
theorem jDQ (x:Nat)(hx:x<18446744073709551616)(w:World):
 Calls prog 94 #[ap ao x] w fun e w'=>e=Q (T #[O I 1,ap ao (one x),aq ⟨#[]⟩,E R,O I 0])/\Kp w w' Nul:=by
 have H1:=h_ (j3i x hx);have H2:=h_ (jDP (one x));generalize one x=y at *;clear hx;go_enter func94,ntmps94;go_wp2_with (first|(go_at_call 114;refine(H1.o _).mono ?_;rintro e w' ⟨rfl,rfl⟩)|(go_at_call 129;refine(H2.o _).mono ?_;rintro e w' ⟨rfl,rfl⟩));refine bodyPost_ret (results_cell_row rfl _ _ w.heap.size 43 _ (0,0) _ rfl (heap_alloc_new _ _) underlying43 rfl j5h) rfl ?_;exact⟨rfl,(Kp.refl _ _).alloc _⟩
abbrev zC21:List Value:=[O I 0,O I 0,ap ao 0,aq ⟨#[]⟩,E R,O I 0,O I 0,O I 0,ap ao 0,aq ⟨#[]⟩,E R,O I 0,O I 0,O I 0,E R,E R,O I 0,O I 0,E R,E R,U G 0 0]
theorem Blk.range {w:World}{b:Nat}{pre l post:List Value}{t:TypeId}(h:Blk w b (pre++l++post) t):w.rangeAt b pre.length l:=J4 h
theorem Blk.all {w:World}{b:Nat}{l:List Value}{t:TypeId}(h:Blk w b l t):w.rangeAt b 0 l:=fun j v hj=>by rw[Nat.zero_add];exact h.cell hj
theorem jCm (c:Ct)(sl:Value)(F:Nat->Prop)(w:World)(hm:c.t.size<=1048576)(hin:NdIn w F sl c.t):
 Calls prog 93 #[c.val sl] w fun e w'=>∃sl' fp,e=Q (c.val sl')/\Own w' w.heap.size sl' c.t fp/\Below w.heap.size w w':=by
 have H2:Hid (∀wq,Below w.heap.size w wq->Calls prog 128 #[c.t.hd.val sl] wq fun e w'=>∃sl' fp,e=Q (c.t.hd.val sl')/\Own w' wq.heap.size sl' c.t fp/\Below wq.heap.size wq w'):=
  fun wq hq=>jCD c.t.size c.t sl F wq (Nat.le_refl _) hm (hin.mono fun b hb hlt=>⟨hq.block b hlt,hb⟩)
 obtain⟨k,⟨vk,vx,vs,vb,vf⟩,t⟩:=c;try simp only at *
 clear hin hm;have b0:Blk ((w.alloc (.cells (Ct.cells ⟨k,⟨vk,vx,vs,vb,vf⟩,t⟩ sl).toArray 50)).alloc (.cells zC21.toArray 50)) w.heap.size (Ct.cells ⟨k,⟨vk,vx,vs,vb,vf⟩,t⟩ sl) 50:=(Blk.new w _ _).alloc _;have b1:Blk ((w.alloc (.cells (Ct.cells ⟨k,⟨vk,vx,vs,vb,vf⟩,t⟩ sl).toArray 50)).alloc (.cells zC21.toArray 50)) (w.heap.size+1) zC21 50:=by
  have:=Blk.new (w.alloc (.cells (Ct.cells ⟨k,⟨vk,vx,vs,vb,vf⟩,t⟩ sl).toArray 50)) zC21 50;rw[World.size_alloc] at this;exact this
 have RF:=h_ (Blk.range (pre:=[O I k,O I vk,ap ao vx,aq vs,E vb,O I vf]) (l:=t.hd.cells sl) (post:=[]) b0);have GW:Hid (Below w.heap.size w ((w.alloc (.cells (Ct.cells ⟨k,⟨vk,vx,vs,vb,vf⟩,t⟩ sl).toArray 50)).alloc (.cells zC21.toArray 50))):=((Below.refl _ _).alloc (Nat.le_refl _) _).alloc (by simp[World.size_alloc]) _;have HB0:=h_ b0;have HB1:=h_ b1;clear b0 b1;go_enter func93,ntmps93;go_wp2_with (refine wpList_load_mid rfl _ _ rfl _ _ rfl _ _ RF.o underlying48 rfl j3 ?_);refine(H2.o _ GW.o).mono ?_;rintro e w2 ⟨sl',fp,rfl,hown,hbw⟩;have hsz:=Nat.lt_of_lt_of_le HB1.o.lt hbw.size;have e0:=(hbw.block _ HB0.o.lt).trans HB0.o;have e1:=(hbw.block _ HB1.o.lt).trans HB1.o;have O1:=h_ hown.own.one;have T0:Hid (w2.there w.heap.size 6 15):=J5 e0 _ _ (by simp)
 obtain⟨W3,hW3⟩:=e_ (w2.setCells w.heap.size 6 (t.hd.cells sl'));have HW3:=h_ hW3;have f0:Blk W3 w.heap.size (Ct.cells ⟨k,⟨vk,vx,vs,vb,vf⟩,t⟩ sl') 50:=by
  rw[<- hW3];exact j3B (pre:=[O I k,O I vk,ap ao vx,aq vs,E vb,O I vf]) (old:=t.hd.cells sl) (new:=t.hd.cells sl') (post:=[]) rfl e0
 have f1:Blk W3 (w.heap.size+1) zC21 50:=by rw[<- hW3];exact(L5 (by omega) _ _ _).trans e1
 have RC:=h_ f0.all;have T1:Hid (W3.there (w.heap.size+1) 0 21):=J5 f1 _ _ (by simp);obtain⟨W4,hW4⟩:=e_ (W3.setCells (w.heap.size+1) 0 (Ct.cells ⟨k,⟨vk,vx,vs,vb,vf⟩,t⟩ sl'));have HW4:=h_ hW4;have L1:Hid (W4.heap[w.heap.size+1]? = H (.cells (Ct.cells ⟨k,⟨vk,vx,vs,vb,vf⟩,t⟩ sl').toArray 50 (0,0))):=by
  show _=_;rw[<- hW4];exact V9 (cs:=(Ct.cells ⟨k,⟨vk,vx,vs,vb,vf⟩,t⟩ sl').toArray) f1 (by simp)
 have OW:Hid (Own W4 w.heap.size sl' t fp):=by
  refine⟨hown.own.mono (fun b hb=>?_),hown.nodup,fun b hb=>?_⟩
  ·have:=(hown.new b hb).1;simp only[World.size_alloc] at this;rw[<- hW4,L5 (by omega),<- hW3,L5 (by omega)]
  ·have:=(hown.new b hb).1;simp only[World.size_alloc] at this;rw[<- hW4,T6,<- hW3,T6];exact⟨by omega,(hown.new b hb).2⟩
 have BW:Hid (Below w.heap.size w W4):=by
  show Below _ _ _;rw[<- hW4];exact Y1 (hW3 ▸ Y1 (GW.o.trans (hbw.mono (by simp[World.size_alloc];omega))) (Nat.le_refl _) _ _) (Nat.le_succ _) _ _
 clear hW3 hW4 hown hbw H2 HB0 HB1 GW RF e0 e1 f0 f1 hsz;go_wp2_with (first|(refine j02 rfl _ _ _ rfl _ _ _ rfl rfl T0.o j3 (t.hd.one O1.o) W3 HW3.o ?_)|(refine wpList_load_mid rfl _ _ rfl _ _ rfl _ _ RC.o underlying50 rfl D9 ?_)|(refine j02 rfl _ _ _ rfl _ _ _ rfl rfl T1.o D9 (Ct.one ⟨k,⟨vk,vx,vs,vb,vf⟩,t⟩ O1.o) W4 HW4.o ?_));refine bodyPost_ret (results_cell_row rfl _ _ (w.heap.size+1) 50 _ (0,0) _ rfl L1.o underlying50 rfl D9) rfl ?_;exact⟨_,_,rfl,OW.o,BW.o⟩
theorem j2L (c:Ct)(sl:Value)(F:Nat->Prop)(w:World)(hx:c.v.x<18446744073709551616)(hm:c.t.size<=1048576)(hok:c.t.ok)(hin:NdIn w F sl c.t):
 Calls prog 51 #[c.val sl] w fun e w'=>∃sl' fp,e=Q ((cpC c).val sl')/\Own w' w.heap.size sl' (cpC c).t fp/\Below w.heap.size w w':=by
 have HO:Hid (∀wq,Below w.heap.size w wq->Calls prog 93 #[c.val sl] wq fun e w'=>∃sl' fp,e=Q (c.val sl')/\Own w' wq.heap.size sl' c.t fp/\Below wq.heap.size wq w'):=
  fun wq hq=>jCm c sl F wq hm (hin.mono fun b hb hlt=>⟨hq.block b hlt,hb⟩)
 have H1:Hid (∀w,Calls prog 94 #[ap ao c.v.x] w fun e w'=>e=Q (T #[O I 1,ap ao (Go.Proofs.YtecjfnkakodebaaGreatDoor.one c.v.x),aq ⟨#[]⟩,E R,O I 0])/\Kp w w' Nul):=jDQ c.v.x hx;have H2:Hid (∀wq,Below w.heap.size w wq->Calls prog 95 #[c.t.hd.val sl] wq fun e w'=>∃sl' fp,e=Q ((cpy c.t).hd.val sl')/\Own w' wq.heap.size sl' (cpy c.t) fp/\Below wq.heap.size wq w'):=
  fun wq hq=>jDO c.t.size c.t sl F wq (Nat.le_refl _) hm hok (hin.mono fun b hb hlt=>⟨hq.block b hlt,hb⟩)
 obtain⟨k,⟨vk,vx,vs,vb,vf⟩,t⟩:=c;unfold cpC;simp only at *;generalize Go.Proofs.YtecjfnkakodebaaGreatDoor.one vx=y at *;generalize cpy t=u at *;clear hin hok hx hm;have b0:Blk ((w.alloc (.cells (Ct.cells ⟨k,⟨vk,vx,vs,vb,vf⟩,t⟩ sl).toArray 50)).alloc (.cells zC21.toArray 50)) w.heap.size (Ct.cells ⟨k,⟨vk,vx,vs,vb,vf⟩,t⟩ sl) 50:=(Blk.new w _ _).alloc _;have b1:Blk ((w.alloc (.cells (Ct.cells ⟨k,⟨vk,vx,vs,vb,vf⟩,t⟩ sl).toArray 50)).alloc (.cells zC21.toArray 50)) (w.heap.size+1) zC21 50:=by
  have:=Blk.new (w.alloc (.cells (Ct.cells ⟨k,⟨vk,vx,vs,vb,vf⟩,t⟩ sl).toArray 50)) zC21 50;rw[World.size_alloc] at this;exact this
 have RF:Hid (((w.alloc (.cells (Ct.cells ⟨k,⟨vk,vx,vs,vb,vf⟩,t⟩ sl).toArray 50)).alloc (.cells zC21.toArray 50)).rangeAt w.heap.size 0 (Ct.cells ⟨k,⟨vk,vx,vs,vb,vf⟩,t⟩ sl)):=b0.all;have GW:Hid (Below w.heap.size w ((w.alloc (.cells (Ct.cells ⟨k,⟨vk,vx,vs,vb,vf⟩,t⟩ sl).toArray 50)).alloc (.cells zC21.toArray 50))):=((Below.refl _ _).alloc (Nat.le_refl _) _).alloc (by simp[World.size_alloc]) _;have HB0:Hid (Blk _ _ _ _):=b0;have HB1:Hid (Blk _ _ _ _):=b1;clear b0 b1;go_enter func51,ntmps51;go_wp2_with (refine wpList_load_mid rfl _ (.tmp 1) rfl _ 0 rfl _ _ RF.o underlying50 rfl D9 ?_);refine(HO.o _ GW.o).mono ?_;rintro e w2 ⟨s2,f2,rfl,hown2,hbw2⟩;have e0:Blk w2 w.heap.size (Ct.cells ⟨k,⟨vk,vx,vs,vb,vf⟩,t⟩ sl) 50:=(hbw2.block _ HB0.o.lt).trans HB0.o
 have e1:Blk w2 (w.heap.size+1) zC21 50:=(hbw2.block _ HB1.o.lt).trans HB1.o;have O2:Hid (s2.oneCell'=J):=hown2.own.one;have cx:∀o,(w2.alloc o).cell? ⟨w.heap.size,2,G⟩=H (ap ao vx):=fun o=>(e0.alloc o).cell rfl
 have GW2:Hid (Below w.heap.size w w2):=GW.o.trans (hbw2.mono (by simp[World.size_alloc];omega));have HE0:Hid (Blk w2 w.heap.size (Ct.cells ⟨k,⟨vk,vx,vs,vb,vf⟩,t⟩ sl) 50):=e0;have HE1:Hid (Blk w2 (w.heap.size+1) zC21 50):=e1;have hlt2:w.heap.size+1<w2.heap.size:=e1.lt;clear hown2 hbw2 HO RF GW HB0 HB1 e0 e1;go_wp2_with (refine F9 rfl _ (.tmp 3) (.tmp 6) rfl _ _ _ _ _ (by first|rfl|simp) rfl rfl rfl D9 (Ct.one ⟨k,⟨vk,vx,vs,vb,vf⟩,t⟩ O2.o) ?_);refine(H1.o _).mono ?_;rintro e w3 ⟨rfl,hk3⟩;have HB2:Hid (Below w.heap.size w w3):=(GW2.o.alloc (by have:=GW2.o.size;omega) _).trans ((Kp.below hk3).mono (by rw[World.size_alloc];have:=GW2.o.size;omega));have d0:Blk w3 w.heap.size (Ct.cells ⟨k,⟨vk,vx,vs,vb,vf⟩,t⟩ sl) 50:=(HE0.o.alloc _).kp hk3 (fun x=>x);have d1:Blk w3 (w.heap.size+1) zC21 50:=(HE1.o.alloc _).kp hk3 (fun x=>x)
 have d2:Blk w3 w2.heap.size (Ct.cells ⟨k,⟨vk,vx,vs,vb,vf⟩,t⟩ s2) 50:=(Blk.new w2 (Ct.cells ⟨k,⟨vk,vx,vs,vb,vf⟩,t⟩ s2) _).kp hk3 (fun x=>x);have c2:∀o,(w3.alloc o).cell? ⟨w2.heap.size,2,G⟩=H (ap ao vx):=fun o=>(d2.alloc o).cell rfl
 have f2:∀o,(w3.alloc o).frozen? ⟨w2.heap.size,2,G⟩=R:=fun o=>(d2.alloc o).froz _
 generalize hB3:w2.heap.size=B3 at *;have HL3:Hid (w.heap.size+1<B3/\B3<w3.heap.size):=⟨by omega,d2.lt⟩;have g0:∀o,Blk ((w3.alloc o).setCell ⟨B3,2,G⟩ (ap ao y)) w.heap.size (Ct.cells ⟨k,⟨vk,vx,vs,vb,vf⟩,t⟩ sl) 50:=fun o=>(d0.alloc o).other _ _ (by show w.heap.size≠B3;omega)
 have g1:∀o,Blk ((w3.alloc o).setCell ⟨B3,2,G⟩ (ap ao y)) (w.heap.size+1) zC21 50:=fun o=>(d1.alloc o).other _ _ (by show w.heap.size+1≠B3;omega)
 have g2:∀o,Blk ((w3.alloc o).setCell ⟨B3,2,G⟩ (ap ao y)) B3 (Ct.cells ⟨k,⟨vk,y,vs,vb,vf⟩,t⟩ s2) 50:=fun o=>(d2.alloc o).set 2 _
 have RF4:Hid (∀o,((w3.alloc o).setCell ⟨B3,2,G⟩ (ap ao y)).rangeAt w.heap.size 6 (t.hd.cells sl)):=fun o=>Blk.range (pre:=[O I k,O I vk,ap ao vx,aq vs,E vb,O I vf]) (l:=t.hd.cells sl) (post:=[]) (g0 o)
 have GW4:Hid (∀o,Below w.heap.size w ((w3.alloc o).setCell ⟨B3,2,G⟩ (ap ao y))):=fun o=>(HB2.o.alloc HB2.o.size _).setCell (by show w.heap.size<=B3;omega) _
 have G1:Hid (∀o,Blk ((w3.alloc o).setCell ⟨B3,2,G⟩ (ap ao y)) (w.heap.size+1) zC21 50):=g1;have G2:Hid (∀o,Blk ((w3.alloc o).setCell ⟨B3,2,G⟩ (ap ao y)) B3 (Ct.cells ⟨k,⟨vk,y,vs,vb,vf⟩,t⟩ s2) 50):=g2;clear hk3 d0 d1 d2 g0 g1 g2 GW2 HE0 HE1 H1 HB2 cx hlt2 hB3;go_wp2_with (refine wpList_load_mid rfl _ (.tmp 15) rfl _ 6 rfl _ _ (RF4.o _) underlying48 rfl j3 ?_);refine(H2.o _ (GW4.o _)).mono ?_;rintro e w5 ⟨sl',fp,rfl,hown,hbw⟩;have e2:Blk w5 B3 (Ct.cells ⟨k,⟨vk,y,vs,vb,vf⟩,t⟩ s2) 50:=(hbw.block _ (G2.o _).lt).trans (G2.o _);have e1:Blk w5 (w.heap.size+1) zC21 50:=(hbw.block _ (G1.o _).lt).trans (G1.o _);have hfp:∀b∈fp,B3<b:=fun b hb=>Nat.lt_of_lt_of_le (G2.o _).lt (hown.new b hb).1
 have hl3:=HL3.o;have O1:Hid (sl'.oneCell'=J):=hown.own.one;have T0:Hid (w5.there B3 6 15):=J5 e2 _ _ (by simp);have GW5:Below w.heap.size w w5:=(GW4.o _).trans (hbw.mono (GW4.o _).size);obtain⟨W6,hW6⟩:∃W6,w5.setCells B3 6 (u.hd.cells sl')=W6:=⟨_,rfl⟩;have HW6:Hid (w5.setCells B3 6 (u.hd.cells sl')=W6):=hW6;have f0:Blk W6 B3 (Ct.cells ⟨k,⟨vk,y,vs,vb,vf⟩,u⟩ sl') 50:=by
  rw[<- hW6];exact j3B (pre:=[O I k,O I vk,ap ao y,aq vs,E vb,O I vf]) (old:=t.hd.cells s2) (new:=u.hd.cells sl') (post:=[]) rfl e2
 have f1:Blk W6 (w.heap.size+1) zC21 50:=by rw[<- hW6];exact(L5 (by omega) _ _ _).trans e1
 have RC:Hid (W6.rangeAt B3 0 (Ct.cells ⟨k,⟨vk,y,vs,vb,vf⟩,u⟩ sl')):=f0.all;have T1:Hid (W6.there (w.heap.size+1) 0 21):=J5 f1 _ _ (by simp);obtain⟨W7,hW7⟩:∃W7,W6.setCells (w.heap.size+1) 0 (Ct.cells ⟨k,⟨vk,y,vs,vb,vf⟩,u⟩ sl')=W7:=⟨_,rfl⟩;have HW7:Hid (W6.setCells (w.heap.size+1) 0 (Ct.cells ⟨k,⟨vk,y,vs,vb,vf⟩,u⟩ sl')=W7):=hW7;have L1:Hid (W7.heap[w.heap.size+1]? = H (.cells (Ct.cells ⟨k,⟨vk,y,vs,vb,vf⟩,u⟩ sl').toArray 50 (0,0))):=by
  show _=_;rw[<- hW7];exact V9 (cs:=(Ct.cells ⟨k,⟨vk,y,vs,vb,vf⟩,u⟩ sl').toArray) f1 (by simp)
 have OW:Hid (Own W7 w.heap.size sl' u fp):=by
  refine⟨hown.own.mono (fun b hb=>?_),hown.nodup,fun b hb=>?_⟩
  ·have:=hfp b hb;rw[<- hW7,L5 (by omega),<- hW6,L5 (by omega)]
  ·have:=hfp b hb;rw[<- hW7,T6,<- hW6,T6];exact⟨by omega,(hown.new b hb).2⟩
 have BW:Hid (Below w.heap.size w W7):=by
  show Below _ _ _;rw[<- hW7];exact Y1 (hW6 ▸ Y1 GW5 (by omega) _ _) (Nat.le_succ _) _ _
 clear hW6 hW7 hown hbw H2 G1 G2 GW4 GW5 RF4 e1 e2 f0 f1 hfp hl3 c2 f2;go_wp2_with (first|(refine j02 rfl 48 (.tmp 18) (.tmp 17) rfl B3 6 _ rfl rfl T0.o j3 (u.hd.one O1.o) W6 HW6.o ?_)|(refine wpList_load_mid rfl _ (.tmp 3) rfl _ 0 rfl _ _ RC.o underlying50 rfl D9 ?_)|(refine j02 rfl _ _ _ rfl _ _ _ rfl rfl T1.o D9 (Ct.one ⟨k,⟨vk,y,vs,vb,vf⟩,u⟩ O1.o) W7 HW7.o ?_));refine bodyPost_ret (results_cell_row rfl _ _ (w.heap.size+1) 50 _ (0,0) _ rfl L1.o underlying50 rfl D9) rfl ?_;exact⟨_,_,rfl,OW.o,BW.o⟩
end
end Go.Proofs.YtecjfnkakodebaaGreatDoor
