/-Formulas that may be, over trees as data: depth, the names, each node'. -/
import Derived.Test.YtecjfnkakodebaaGreatDoorQwXd
import Derived.Test.YtecjfnkakodebaaGreatDoorQwAx
import Derived.Lib.ValidU
set_option maxRecDepth 100000
set_option maxHeartbeats 8000000
namespace Go.Proofs.YtecjfnkakodebaaGreatDoor
open Go.RowKit
mutual
def Nd.dep:Nd->Nat
 | .mk _ ts=>1+depL ts
def depL:List Nd->Nat
 | []=>0
 | t::ts=>max t.dep (depL ts)
end
theorem depL_append (a b:List Nd):depL (a++b)=max (depL a) (depL b):=by
 induction a with
 | nil=>simp[depL]
 | cons t ts ih=>rw[List.cons_append,depL,depL,ih,Nat.max_assoc]
theorem depL_take (ts:List Nd) (i:Nat) (h:i<ts.length):depL (ts.take (i+1))=max (depL (ts.take i)) (ts[i]).dep:=by
 rw[List.take_add_one,List.getElem?_eq_getElem h,depL_append]
 simp[depL]
mutual
theorem dep_le:∀t:Nd,t.dep<=t.size
 | .mk _ ts=>by rw[Nd.dep,Nd.size];have:=depL_le ts;omega
theorem depL_le:∀ts:List Nd,depL ts<=sizeL ts
 | []=>by simp[depL]
 | t::ts=>by rw[depL,sizeL];have:=dep_le t;have:=depL_le ts;omega
end
def plainX (x:Nat):Bool:=cls x != 1&&cls x != 2 && !ngt x
def wmJ (h:Hd):Hd:=
 if h.k=1 then { zHd with k:=h.k,x:=h.x } else if h.k=2 then { zHd with k:=h.k,s:=h.s } else if h.k=3 then { zHd with k:=h.k,b:=h.b } else
 if h.k=4 then { zHd with k:=h.k,f:=h.f } else if h.k=5 then { zHd with k:=h.k,c1:=h.c1,r1:=h.r1,p1:=h.p1,q1:=h.q1 } else
 if h.k=6 then { zHd with k:=h.k,c1:=h.c1,r1:=h.r1,p1:=h.p1,q1:=h.q1,c2:=h.c2,r2:=h.r2,p2:=h.p2,q2:=h.q2 } else
 if h.k=7 then { zHd with k:=h.k,o:=h.o } else if h.k=8 then { zHd with k:=h.k,o:=h.o } else { zHd with k:=h.k,s:=h.s }
def wm (h:Hd) (n:Nat):Bool:=
 if h.k=1 then plainX h.x&&n==0&&hsame h (wmJ h) else
 if h.k=2 then decide (h.s.size<=1024)&&Lib.validD h.s.data.toList&&n==0&&hsame h (wmJ h) else
 if h.k=3 then n==0&&hsame h (wmJ h) else
 if h.k=4 then decide (1<=h.f)&&decide (h.f<=5)&&n==0&&hsame h (wmJ h) else
 if h.k=5 then n==0&&hsame h (wmJ h) else
 if h.k=6 then n==0&&hsame h (wmJ h) else
 if h.k=7 then decide (1<=h.o)&&decide (h.o<=3)&&n==1&&hsame h (wmJ h) else
 if h.k=8 then decide (4<=h.o)&&decide (h.o<=15)&&n==2&&hsame h (wmJ h) else
 if h.k=9 then hsame h (wmJ h) else false
def nm0:List ByteArray:=[⟨#[78,65]⟩]
def nm1:List ByteArray:=[⟨#[65,66,83]⟩,⟨#[73,78,84]⟩,⟨#[73,83,66,76,65,78,75]⟩,⟨#[73,83,69,82,82,79,82]⟩,⟨#[73,83,78,85,77,66,69,82]⟩,⟨#[73,83,84,69,88,84]⟩,⟨#[76,69,78]⟩,⟨#[78,79,84]⟩,⟨#[83,73,71,78]⟩,⟨#[83,73,78,71,76,69]⟩,⟨#[83,81,82,84]⟩,⟨#[84,82,85,78,67]⟩,⟨#[86,65,76,85,69]⟩]
def nm2:List ByteArray:=[⟨#[69,88,65,67,84]⟩,⟨#[73,70,69,82,82,79,82]⟩,⟨#[76,65,82,71,69]⟩,⟨#[76,69,70,84]⟩,⟨#[77,79,68]⟩,⟨#[80,69,82,67,69,78,84,73,76,69]⟩,⟨#[80,79,87,69,82]⟩,⟨#[82,69,80,84]⟩,⟨#[82,73,71,72,84]⟩,⟨#[82,79,85,78,68]⟩,⟨#[82,79,85,78,68,68,79,87,78]⟩,⟨#[82,79,85,78,68,69,86,69,78]⟩,⟨#[82,79,85,78,68,85,80]⟩,⟨#[83,77,65,76,76]⟩,⟨#[83,85,77,80,82,79,68,85,67,84]⟩,⟨#[84,69,88,84]⟩]
def nm3:List ByteArray:=[⟨#[73,70]⟩,⟨#[82,65,78,75]⟩]
def nm4:List ByteArray:=[⟨#[67,79,85,78,84,73,70]⟩,⟨#[70,85,83,69,68]⟩,⟨#[77,73,68]⟩]
def nm5:List ByteArray:=[⟨#[65,78,68]⟩,⟨#[65,86,69,82,65,71,69]⟩,⟨#[67,79,85,78,84]⟩,⟨#[67,79,85,78,84,65]⟩,⟨#[74,79,73,78]⟩,⟨#[77,65,88]⟩,⟨#[77,69,68,73,65,78]⟩,⟨#[77,73,78]⟩,⟨#[77,79,68,69]⟩,⟨#[79,82]⟩,⟨#[83,84,68,69,86]⟩,⟨#[83,84,68,69,86,80]⟩,⟨#[83,85,77]⟩,⟨#[83,85,77,83,81]⟩,⟨#[86,65,82]⟩,⟨#[86,65,82,80]⟩]
def nm6:List ByteArray:=[⟨#[67,72,79,79,83,69]⟩]
def isAny (s:ByteArray) (l:List ByteArray):Bool:=l.any fun n=>s.toList==n.toList
def known (s:ByteArray):Int×Int×Bool:=
 if isAny s nm0=true then (0,0,true) else if isAny s nm1=true then (1,1,true) else if isAny s nm2=true then (2,2,true) else if isAny s nm3=true then (2,3,true) else if isAny s nm4=true then (3,3,true) else if isAny s nm5=true then (1,256,true) else if isAny s nm6=true then (2,256,true) else (0,0,false)
def callE (s:ByteArray) (n:Nat):Int:=
 if (known s).2.2=false then 21 else if (n:Int)<(known s).1∨(known s).2.1<n then 22 else 0
def ownE (h:Hd) (n:Nat) (called:Bool):Int:=
 if wm h n=false then 1 else if h.k=5 then (if vA h.c1 h.r1 h.c1 h.r1=true then 0 else 20) else
 if h.k=6 then (if vA h.c1 h.r1 h.c2 h.r2=true then (if called=true then 0 else 31) else 20) else if h.k=9 then callE h.s n else 0
mutual
def Nd.fe:Nd->Bool->Int
 | .mk h ts,called=>if ownE h ts.length called≠0 then ownE h ts.length called else feL ts (h.k==9)
def feL:List Nd->Bool->Int
 | [],_=>0
 | t::ts,c=>if t.fe c≠0 then t.fe c else feL ts c
end
theorem feL_skip {ts:List Nd} {c:Bool}:∀ {k:Nat},(∀i (h:i<ts.length),i<k->(ts[i]).fe c=0)->feL ts c=feL (ts.drop k) c:=by
 induction ts with
 | nil=>intro k _;simp
 | cons t ts ih=>
  intro k hk
  cases k with
  | zero=>rfl
  | succ k=>
   have h0:=hk 0 (by simp) (by omega)
   simp only[List.getElem_cons_zero] at h0
   rw[feL,h0,List.drop_succ_cons]
   simp only[ne_eq,not_true_eq_false,if_false]
   exact ih fun i h hi=>by
    have:=hk (i+1) (by simp;omega) (by omega)
    simpa using this
theorem feL_at {ts:List Nd} {c:Bool} {k:Nat} (h:k<ts.length) (hk:∀i (h:i<ts.length),i<k->(ts[i]).fe c=0) (hne:(ts[k]).fe c≠0):feL ts c=(ts[k]).fe c:=by
 rw[feL_skip hk,List.drop_eq_getElem_cons h,feL,if_pos hne]
theorem feL_all {ts:List Nd} {c:Bool} (hk:∀i (h:i<ts.length),i<ts.length->(ts[i]).fe c=0):feL ts c=0:=by
 rw[feL_skip hk,List.drop_length,feL]
def chk (t:Nd):Int:=if 256<t.size then 34 else if 32<t.dep then 33 else t.fe false
theorem load_node_law {ops:Array Oper} {rest:List Oper} {o:Oper} {a:Act} {w:World} {Q:Exit->Act->World->Prop} (hgd:Region.wanted o (yielded ops a.tmps)=true) (x:Operand) (ho:o.op=.load 48 x) (g:Nat) (hx:a.eval x=.pointer (some ⟨g,0,none⟩)) (cs:Array Value) (hg:w.heap[g]? = some (.cells cs 48 (0,0))) (hcs:cs.size=15)
  (h:wpList Tryz.prog ops Q rest (a.put o.dst (.agg cs)) w):wpList Tryz.prog ops Q (o::rest) a w:=
 wpList_step fun K hK=>by
  simp only[hgd,if_true]
  exact wp_load_row 48 x ho g hx 48 cs (0,0) _ hg Tryz.underlying48 rfl (by rw[hcs];exact infoNode) (hK _ _ h)
theorem depth_any (N:Nat):∀(t:Nd) (sl:Value) (F:Nat->Prop) (w:World),t.size<=N->N<=1048576->NdIn w F sl t ->
  Calls Tryz.prog 120 #[t.hd.val sl] w fun e w'=>e=.returned (.int .i64 (t.dep:Nat))/\Gr w w':=by
 induction N with
 | zero=>intro t sl F w h;have:=size_pos t;omega
 | succ N ih=>
  intro t sl F w hN hB hin
  have hdl:=dep_le t
  obtain⟨hd,ts⟩:=t
  rw[NdIn] at hin
  obtain⟨a,c,rfl,h2,h3,h4⟩:=hin
  have hsz:Hid ((Nd.mk hd ts).size=1+sizeL ts):=by show _=_;rw[Nd.size]
  have hdp:Hid ((Nd.mk hd ts).dep=1+depL ts):=by show _=_;rw[Nd.dep]
  have HN:Hid ((Nd.mk hd ts).size<=N+1):=hN
  have HBd:Hid (N+1<=1048576):=hB
  have IH:Hid (∀(t:Nd) (sl:Value) (F:Nat->Prop) (w:World),t.size<=N->N<=1048576->NdIn w F sl t ->
   Calls Tryz.prog 120 #[t.hd.val sl] w fun e w'=>e=.returned (.int .i64 (t.dep:Nat))/\Gr w w'):=ih
  clear ih hN hB
  have hlen:ts.length<=9223372036854775807:=by unfold maxLen at h3;omega
  have H4:Hid ((ts=[]/\(c=0∨a≠none))∨∃b o,a=some ⟨b,o,none⟩/\F b/\NdsIn w F b o ts):=h4
  have HD:Hid (depL ts<=1048576):=by show _<=_;have:=HN.out;have:=HBd.out;have:=hdp.out;omega
  clear h4 h2 h3 hdl
  generalize hn:ts.length=n at *
  have HL:Hid (ts.length=n):=hn
  have HLEN:Hid (n<=9223372036854775807):=hlen
  clear hn hlen
  generalize hW:(Nd.mk hd ts).dep=S at *
  simp only[Nd.hd]
  obtain⟨k,o',x,s,bb,f,c1,r1,p1,q1,c2,r2,p2,q2⟩:=hd
  go_enter Tryz.func120,Tryz.ntmps120
  go_wp2_with fail
  generalize hW0:(w.alloc (.cells #[.int .i64 k,.int .i64 o',.float .f64 x,.string s,.bool bb,.int .i64 f,.int .i64 c1,.int .i64 r1,.bool p1,.bool q1,.int .i64 c2,.int .i64 r2,.bool p2,.bool q2,.slice a n c] 48))=W0 at *
  have G0:Hid (Gr w W0):=by show Gr _ _;rw[<- hW0];exact(Gr.refl w).alloc _ _
  clear hW0
  go_loopw[3,9] (fun s i wr=>∃k:Nat,k<=n/\s=.int .i64 (depL (ts.take k):Nat)/\i=.int .i64 k/\Gr W0 wr) (fun _ i _=>n-(intOf i).toNat)
  case atStart=>exact⟨0,Nat.zero_le _,by simp[depL],by simp,Gr.refl _⟩
  case round=>
   obtain⟨k,hk,rfl,rfl,hg⟩:=hrel
   have GR:Hid (Gr W0 wr):=hg
   clear hg
   by_cases hlt:k<n
   ·have hki:k<ts.length:=by rw[HL.out];exact hlt
    obtain⟨b,o,rfl,hF,hns⟩:∃b o,a=some ⟨b,o,none⟩/\F b/\NdsIn w F b o ts:=by
     rcases H4.out with h|h
     ·rw[h.1] at hki;simp at hki
     ·exact h
    obtain⟨sl,hr,hni⟩:=hns.get k hki
    have G1:Gr w wr:=G0.out.trans GR.out
    have HR:Hid (wr.rangeAt b (o+k*15) ((ts[k]).hd.cells sl)):=rangeAt_gr hr G1
    have hni':=hni.gr G1
    have O1:Hid (sl.oneCell'=true):=hni.one
    have hs1:=size_get ts k hki
    have HC:Hid (∀wq,Gr wr wq->Calls Tryz.prog 120 #[(ts[k]).hd.val sl] wq fun e w'=>e=.returned (.int .i64 ((ts[k]).dep:Nat))/\Gr wq w'):=fun wq hq=>IH.out ts[k] sl F wq (by have:=HN.out;have:=hsz.out;omega) (by have:=HBd.out;omega) (hni'.gr hq)
    have hA:Hid (depL (ts.take (k+1))=max (depL (ts.take k)) (ts[k]).dep):=depL_take ts k hki
    clear hs1 hni hni' hr hns
    generalize (ts[k]).dep=z at *
    generalize (ts[k]).hd=hh at *
    generalize depL (ts.take k)=y at *
    have hkb:(k:Int)+1<=9223372036854775807:=by have:=HLEN.out;omega
    clear hW
    as_aux_lemma=>
    go_wp2_with (first|(refine wpList_load_mid rfl 48 (.tmp 11) rfl b (o+k*15) rfl (hh.cells sl) _ HR.out Tryz.underlying48 rfl infoNode ?_)|(refine wpList_store_new rfl 48 (.tmp 5) (.tmp 12) rfl _ _ _ _ _ (by first|rfl|simp) rfl rfl rfl infoNode (hh.one O1.out) ?_)|(refine load_node_law rfl (.tmp 5) rfl wr.heap.size rfl (hh.cells sl).toArray (heap_alloc_new _ _) rfl ?_))
    refine(HC.out _ ((Gr.refl _).alloc _ _)).mono ?_
    rintro e w1 ⟨rfl,hg1⟩
    have G2:Hid (Gr W0 w1):=(GR.out.trans ((Gr.refl _).alloc _ _)).trans hg1
    clear hg1
    go_wp2_with fail
    go_roundw
    case rel=>exact⟨k+1,by omega,by rw[hA.out];congr 1;first|omega|(split <;> omega),by go_num,G2.out⟩
    case measure=>simp only[intOf];omega
   ·have hke:k=n:=by omega
    subst hke
    have hw4:Hid (1+depL (ts.take k)=S):=by
     show _=_
     rw[<- HL.out,List.take_length,<- hdp.out]
    have hd1:depL (ts.take k)<=1048576:=by rw[<- HL.out,List.take_length];exact HD.out
    generalize depL (ts.take k)=y at *
    clear hW
    as_aux_lemma=>
    go_wp2_with fail
    go_ret
    exact⟨rInt (by have:=hw4.out;omega),G0.out.trans GR.out⟩
theorem depth_at (t:Nd) (sl:Value) (F:Nat->Prop) (w:World) (h:t.size<=1048576) (hin:NdIn w F sl t) :
  Calls Tryz.prog 120 #[t.hd.val sl] w fun e w'=>e=.returned (.int .i64 (t.dep:Nat))/\Gr w w':=
 depth_any t.size t sl F w (Nat.le_refl _) h hin
end Go.Proofs.YtecjfnkakodebaaGreatDoor
namespace Go.Proofs.YtecjfnkakodebaaGreatDoor
open Go.RowKit
structure St (s:ByteArray) (m:Nat) (a:Act):Prop where
 size:a.tmps.size=m
 text:a.eval (.tmp 5)=.string s
 defers:a.defers=[]
section
variable {P:Program} {s:ByteArray} {m:Nat} {a:Act} {w:World} {Q:Exit->Act->World->Prop}
theorem eval_put_same {d:Nat} (v:Value) (h:d<a.tmps.size):(a.put (some d) v).eval (.tmp d)=v:=by
 simp[Act.put,Act.eval,h]
theorem eval_put_other {d i:Nat} (v:Value) (h:d≠i):(a.put (some d) v).eval (.tmp i)=a.eval (.tmp i):=by
 simp[Act.put,Act.eval,Array.getD_eq_getD_getElem?,Array.getElem?_setIfInBounds_ne h]
theorem St.put (h:St s m a) {d:Nat} (v:Value) (hd:d≠5):St s m (a.put (some d) v):=
 ⟨by simp[Act.put,h.size],(eval_put_other v hd).trans h.text,h.defers⟩
theorem wp_val {o:Oper} {v:Value} {K:Act->World->Prop} (he:(execOp a.eval o).run P w=.ok (.value v) w) (h:K (a.put o.dst v) w):o.wp P a w K Q:=by
 unfold Oper.wp;rw[he];exact h
theorem reg_eq {id d e:Nat} {o1 o2:Oper} {n:ByteArray} (h1:o1.op=.binOp .eql 9 (.tmp 5) (.const (.string n)) 9) (e1:o1.dst=some d) (g1:o1.guard=none) (h2:o2.op=.assign (.tmp d)) (e2:o2.dst=some e) (g2:o2.guard=none) (hd:d≠5) (he:e≠5) (hdm:d<m) (hem:e<m)
  (hs:St s m a) (hQ:∀a',St s m a'->a'.eval (.tmp e)=.bool (s.toList==n.toList)->Q .normal a' w):(Code.region id #[o1,o2] false).wp P Q a w:=by
 refine wp_region_list ?_
 refine wpList_plain g1 fun K hK=>?_
 have s1:=hs.put (.bool (s.toList==n.toList)) hd
 refine wp_val (v:=.bool (s.toList==n.toList)) (by unfold execOp;simp only[h1,hs.text];simp[Act.eval,go_sem]) (hK _ _ ?_)
 rw[e1]
 have hv:=eval_put_same (a:=a) (.bool (s.toList==n.toList)) (show d<a.tmps.size by rw[hs.size];exact hdm)
 refine wpList_plain g2 fun K hK=>?_
 refine wp_val (v:=.bool (s.toList==n.toList)) (by unfold execOp;simp only[h2,hv];simp[go_sem]) (hK _ _ ?_)
 rw[e2]
 refine wpList_nil (hQ _ (s1.put _ he) (eval_put_same _ (by rw[s1.size];exact hem)))
inductive Ors (e:Nat):List ByteArray->Code->Prop
 | last {id d:Nat} {o1 o2:Oper} {n:ByteArray} (h1:o1.op=.binOp .eql 9 (.tmp 5) (.const (.string n)) 9) (e1:o1.dst=some d) (g1:o1.guard=none) (h2:o2.op=.assign (.tmp d)) (e2:o2.dst=some e) (g2:o2.guard=none) (hd:d≠5) (hdm:d<65):Ors e [n] (Code.region id #[o1,o2] false)
 | more {id d:Nat} {o1 o2:Oper} {n:ByteArray} {ns:List ByteArray} {c:Code} (h1:o1.op=.binOp .eql 9 (.tmp 5) (.const (.string n)) 9) (e1:o1.dst=some d) (g1:o1.guard=none) (h2:o2.op=.assign (.tmp d)) (e2:o2.dst=some e) (g2:o2.guard=none) (hd:d≠5) (hdm:d<65) (h:Ors e ns c) :
   Ors e (n::ns) ((Code.region id #[o1,o2] false).seq (Code.cond (.tmp e) Code.skip c))
theorem wp_ors {e:Nat} {ns:List ByteArray} {c:Code} (h:Ors e ns c) (he:e≠5) (hem:e<65):∀ {a:Act},St s 65 a->(∀a',St s 65 a'->a'.eval (.tmp e)=.bool (isAny s ns)->Q .normal a' w)->c.wp P Q a w:=by
 induction h with
 | last h1 e1 g1 h2 e2 g2 hd hdm=>
  intro a hs hQ
  refine reg_eq h1 e1 g1 h2 e2 g2 hd he hdm hem hs fun a' ha hv=>hQ a' ha ?_
  rw[hv];simp[isAny]
 | more h1 e1 g1 h2 e2 g2 hd hdm _ ih=>
  intro a hs hQ
  refine wp_seq (reg_eq h1 e1 g1 h2 e2 g2 hd he hdm hem hs fun a' ha hv=>?_)
  refine wp_cond_split hv (fun ht=>wp_skip (hQ a' ha ?_)) (fun hf=>ih ha fun a2 ha2 hv2=>hQ a2 ha2 ?_)
  ·rw[hv];simp[isAny,ht]
  ·rw[hv2];simp only[isAny,List.any_cons,hf,Bool.false_or]
theorem reg_tell {id:Nat} {o1 o2 o3:Oper} {x y:Int} {z:Bool} (h1:o1.op=.assign (.const (.int .i64 x))) (e1:o1.dst=some 2) (g1:o1.guard=none) (h2:o2.op=.assign (.const (.int .i64 y))) (e2:o2.dst=some 3) (g2:o2.guard=none) (h3:o3.op=.assign (.const (.bool z))) (e3:o3.dst=some 4) (g3:o3.guard=none)
  (hs:St s 65 a) (hQ:∀a',a'.defers=[]->a'.eval (.tmp 2)=.int .i64 x->a'.eval (.tmp 3)=.int .i64 y->a'.eval (.tmp 4)=.bool z->Q .ret a' w):((Code.region id #[o1,o2,o3] false).seq Code.ret).wp P Q a w:=by
 refine wp_seq (wp_region_list ?_)
 refine wpList_plain g1 fun K hK=>?_
 refine wp_val (v:=.int .i64 x) (by unfold execOp;simp only[h1];simp[go_sem,Act.eval]) (hK _ _ ?_)
 rw[e1]
 refine wpList_plain g2 fun K hK=>?_
 refine wp_val (v:=.int .i64 y) (by unfold execOp;simp only[h2];simp[go_sem,Act.eval]) (hK _ _ ?_)
 rw[e2]
 refine wpList_plain g3 fun K hK=>?_
 refine wp_val (v:=.bool z) (by unfold execOp;simp only[h3];simp[go_sem,Act.eval]) (hK _ _ ?_)
 rw[e3]
 have s1:=hs.put (.int .i64 x) (d:=2) (by decide)
 have s2:=s1.put (.int .i64 y) (d:=3) (by decide)
 have s3:=s2.put (.bool z) (d:=4) (by decide)
 refine wpList_nil (wp_ret (hQ _ s3.defers ?_ ?_ ?_))
 ·rw[eval_put_other _ (by decide),eval_put_other _ (by decide),eval_put_same _ (by rw[hs.size];decide)]
 ·rw[eval_put_other _ (by decide),eval_put_same _ (by rw[s1.size];decide)]
 ·rw[eval_put_same _ (by rw[s2.size];decide)]
end
theorem ff {b:Bool} (h:b=false):¬b=true:=by rw[h];decide
theorem results_three {fn:Func} {t u v:Tmp} (h:fn.results=#[.tmp t,.tmp u,.tmp v]) (tmps:Array Value) (P:Program) (w:World) :
  (results fn tmps).run P w=.ok (.tuple #[tmps.getD t undef,tmps.getD u undef,tmps.getD v undef]) w:=by
 simp[results,h]
theorem tell_done {a:Act} {w w0:World} {x y:Int} {z:Bool} {v:Int×Int×Bool} (hw:w=w0) (hv:v=(x,y,z)) (hd:a.defers=[]) (h2:a.eval (.tmp 2)=.int .i64 x) (h3:a.eval (.tmp 3)=.int .i64 y) (h4:a.eval (.tmp 4)=.bool z) :
  bodyPost Tryz.prog Tryz.f179 (fun e w'=>e=.returned (.tuple #[.int .i64 v.1,.int .i64 v.2.1,.bool v.2.2])/\w'=w0) .ret a w:=by
 subst hw
 subst hv
 refine⟨hd,_,results_three rfl _ _ _,?_⟩
 have h2':a.tmps.getD 2 undef=.int .i64 x:=h2
 have h3':a.tmps.getD 3 undef=.int .i64 y:=h3
 have h4':a.tmps.getD 4 undef=.bool z:=h4
 rw[h2',h3',h4']
 exact⟨rfl,rfl⟩
theorem known_at (s:ByteArray) (w:World) :
  Calls Tryz.prog 179 #[.string s] w fun e w'=>e=.returned (.tuple #[.int .i64 (known s).1,.int .i64 (known s).2.1,.bool (known s).2.2])/\w'=w:=by
 go_enter Tryz.func179,Tryz.ntmps179
 refine wp_seq (wp_region_list (wpList_plain rfl fun K hK=>wp_val rfl (hK _ _ (wpList_plain rfl fun K hK=>wp_val rfl (hK _ _ (wpList_plain rfl fun K hK=>wp_val rfl (hK _ _ (wpList_nil ?_))))))))
 refine wp_seq (wp_seq (wp_region_list (wpList_plain rfl fun K hK=>wp_val rfl (hK _ _ (wpList_nil ?_)))))
 refine wp_block ?_
 refine wp_seq (wp_ors (s:=s) (e:=6) (ns:=nm0) (by unfold nm0;repeat (first|exact Ors.last rfl rfl rfl rfl rfl rfl (by decide) (by decide)|refine Ors.more rfl rfl rfl rfl rfl rfl (by decide) (by decide) ?_)) (by decide) (by decide) ⟨rfl,rfl,rfl⟩ fun a0 s0 v0=>?_)
 refine wp_cond_split v0 (fun ht=>reg_tell rfl rfl rfl rfl rfl rfl rfl rfl rfl s0 fun a' d h2 h3 h4=>tell_done rfl (by unfold known;rw[if_pos ht]) d h2 h3 h4) (fun f0=>?_)
 refine wp_seq (wp_ors (s:=s) (e:=8) (ns:=nm1) (by unfold nm1;repeat (first|exact Ors.last rfl rfl rfl rfl rfl rfl (by decide) (by decide)|refine Ors.more rfl rfl rfl rfl rfl rfl (by decide) (by decide) ?_)) (by decide) (by decide) s0 fun a1 s1 v1=>?_)
 refine wp_cond_split v1 (fun ht=>reg_tell rfl rfl rfl rfl rfl rfl rfl rfl rfl s1 fun a' d h2 h3 h4=>tell_done rfl (by unfold known;rw[if_neg (ff f0),if_pos ht]) d h2 h3 h4) (fun f1=>?_)
 refine wp_seq (wp_ors (s:=s) (e:=22) (ns:=nm2) (by unfold nm2;repeat (first|exact Ors.last rfl rfl rfl rfl rfl rfl (by decide) (by decide)|refine Ors.more rfl rfl rfl rfl rfl rfl (by decide) (by decide) ?_)) (by decide) (by decide) s1 fun a2 s2 v2=>?_)
 refine wp_cond_split v2 (fun ht=>reg_tell rfl rfl rfl rfl rfl rfl rfl rfl rfl s2 fun a' d h2 h3 h4=>tell_done rfl (by unfold known;rw[if_neg (ff f0),if_neg (ff f1),if_pos ht]) d h2 h3 h4) (fun f2=>?_)
 refine wp_seq (wp_ors (s:=s) (e:=39) (ns:=nm3) (by unfold nm3;repeat (first|exact Ors.last rfl rfl rfl rfl rfl rfl (by decide) (by decide)|refine Ors.more rfl rfl rfl rfl rfl rfl (by decide) (by decide) ?_)) (by decide) (by decide) s2 fun a3 s3 v3=>?_)
 refine wp_cond_split v3 (fun ht=>reg_tell rfl rfl rfl rfl rfl rfl rfl rfl rfl s3 fun a' d h2 h3 h4=>tell_done rfl (by unfold known;rw[if_neg (ff f0),if_neg (ff f1),if_neg (ff f2),if_pos ht]) d h2 h3 h4) (fun f3=>?_)
 refine wp_seq (wp_ors (s:=s) (e:=42) (ns:=nm4) (by unfold nm4;repeat (first|exact Ors.last rfl rfl rfl rfl rfl rfl (by decide) (by decide)|refine Ors.more rfl rfl rfl rfl rfl rfl (by decide) (by decide) ?_)) (by decide) (by decide) s3 fun a4 s4 v4=>?_)
 refine wp_cond_split v4 (fun ht=>reg_tell rfl rfl rfl rfl rfl rfl rfl rfl rfl s4 fun a' d h2 h3 h4=>tell_done rfl (by unfold known;rw[if_neg (ff f0),if_neg (ff f1),if_neg (ff f2),if_neg (ff f3),if_pos ht]) d h2 h3 h4) (fun f4=>?_)
 refine wp_seq (wp_ors (s:=s) (e:=46) (ns:=nm5) (by unfold nm5;repeat (first|exact Ors.last rfl rfl rfl rfl rfl rfl (by decide) (by decide)|refine Ors.more rfl rfl rfl rfl rfl rfl (by decide) (by decide) ?_)) (by decide) (by decide) s4 fun a5 s5 v5=>?_)
 refine wp_cond_split v5 (fun ht=>reg_tell rfl rfl rfl rfl rfl rfl rfl rfl rfl s5 fun a' d h2 h3 h4=>tell_done rfl (by unfold known;rw[if_neg (ff f0),if_neg (ff f1),if_neg (ff f2),if_neg (ff f3),if_neg (ff f4),if_pos ht]) d h2 h3 h4) (fun f5=>?_)
 refine wp_seq (wp_ors (s:=s) (e:=63) (ns:=nm6) (by unfold nm6;repeat (first|exact Ors.last rfl rfl rfl rfl rfl rfl (by decide) (by decide)|refine Ors.more rfl rfl rfl rfl rfl rfl (by decide) (by decide) ?_)) (by decide) (by decide) s5 fun a6 s6 v6=>?_)
 refine wp_cond_split v6 (fun ht=>reg_tell rfl rfl rfl rfl rfl rfl rfl rfl rfl s6 fun a' d h2 h3 h4=>tell_done rfl (by unfold known;rw[if_neg (ff f0),if_neg (ff f1),if_neg (ff f2),if_neg (ff f3),if_neg (ff f4),if_neg (ff f5),if_pos ht]) d h2 h3 h4) (fun f6=>?_)
 refine wp_skip ?_
 exact reg_tell rfl rfl rfl rfl rfl rfl rfl rfl rfl s6 fun a' d h2 h3 h4=>tell_done rfl (by unfold known;rw[if_neg (ff f0),if_neg (ff f1),if_neg (ff f2),if_neg (ff f3),if_neg (ff f4),if_neg (ff f5),if_neg (ff f6)]) d h2 h3 h4
end Go.Proofs.YtecjfnkakodebaaGreatDoor
namespace Go.Proofs.YtecjfnkakodebaaGreatDoor
open Go.RowKit
theorem isPlain_at (x:Nat) (hx:x<18446744073709551616) (w:World) :
  Calls Tryz.prog 178 #[.float .f64 x] w fun e w'=>e=.returned (.bool (plainX x))/\w'=w:=by
 have H1:Hid (∀w,Calls Tryz.prog 145 #[.float .f64 x] w fun e w'=>e=.returned (.int .i64 (cls x))/\w'=w):=class_any x hx
 have H2:Hid (∀w,Calls Tryz.prog 175 #[.float .f64 x] w fun e w'=>e=.returned (.bool (ngt x))/\w'=w):=negative_any x hx
 have hV:Hid (plainX x=(cls x != 1&&cls x != 2 && !ngt x)):=rfl
 generalize plainX x=V at *
 generalize cls x=C at *
 generalize ngt x=G at *
 go_enter Tryz.func178,Tryz.ntmps178
 go_wp2_with (first|(go_at_call 145;refine(H1.out _).mono ?_;rintro e w' ⟨rfl,rfl⟩)|(go_at_call 175;refine(H2.out _).mono ?_;rintro e w' ⟨rfl,rfl⟩))
 all_goals
  go_ret
  refine⟨rBool ?_,rfl⟩
  rw[hV.out]
  try (clear H1 H2 hV;simp_all)
theorem infoArea:(Tryz.prog.info? 34).map (·.size)=some 4:=by kernel_rfl
def nmd (h:Hd):Int×Int×Int×Int:=if h.k=5 then (h.c1,h.r1,h.c1,h.r1) else if h.k=6 then (h.c1,h.r1,h.c2,h.r2) else (0,0,0,0)
theorem named_at (h:Hd) (sl:Value) (w:World) :
  Calls Tryz.prog 165 #[h.val sl] w fun e w'=>e=.returned (.agg #[.int .i64 (nmd h).1,.int .i64 (nmd h).2.1,.int .i64 (nmd h).2.2.1,.int .i64 (nmd h).2.2.2])/\Gr w w':=by
 obtain⟨V,hV⟩:∃V,nmd h=V:=⟨_,rfl⟩
 rw[hV]
 have HV:Hid ((if h.k=5 then (h.c1,h.r1,h.c1,h.r1) else if h.k=6 then (h.c1,h.r1,h.c2,h.r2) else (0,0,0,0))=V):=hV
 clear hV
 obtain⟨k,o,x,s,b,f,c1,r1,p1,q1,c2,r2,p2,q2⟩:=h
 simp only at *
 go_enter Tryz.func165,Tryz.ntmps165
 go_wp2
 all_goals
  refine bodyPost_ret (results_cell_row rfl _ _ (w.heap.size+1) 34 _ (0,0) _ rfl (heap_alloc2_new _ _ _) Tryz.underlying34 rfl infoArea) rfl ?_
  refine⟨?_,((Gr.refl _).alloc _ _).alloc _ _⟩
  rw[<- HV.out]
  clear HV
  simp_all
theorem callError_at (s:ByteArray) (n:Nat) (w:World)
  (K:∀w,Calls Tryz.prog 179 #[.string s] w fun e w'=>e=.returned (.tuple #[.int .i64 (known s).1,.int .i64 (known s).2.1,.bool (known s).2.2])/\w'=w) :
  Calls Tryz.prog 166 #[.string s,.int .i64 n] w fun e w'=>e=.returned (.int .i64 (callE s n))/\w'=w:=by
 have HK:Hid (∀w,Calls Tryz.prog 179 #[.string s] w fun e w'=>e=.returned (.tuple #[.int .i64 (known s).1,.int .i64 (known s).2.1,.bool (known s).2.2])/\w'=w):=K
 have hV:Hid (callE s n=if (known s).2.2=false then 21 else if (n:Int)<(known s).1∨(known s).2.1<n then 22 else 0):=rfl
 clear K
 generalize callE s n=V at *
 generalize known s=kk at *
 obtain⟨a,b,c⟩:=kk
 simp only at *
 go_enter Tryz.func166,Tryz.ntmps166
 go_wp2_with (go_at_call 179;refine(HK.out _).mono ?_;rintro e w' ⟨rfl,rfl⟩)
 all_goals
  go_ret
  refine⟨rInt ?_,rfl⟩
  rw[hV.out]
  try (clear HK hV;simp_all)
  try omega
theorem fsame_self (x:Nat):fsame x x=true:=by unfold fsame;simp
def vsame (v u:Vl):Bool:=v.k==u.k&&(if v.k=1 then fsame v.x u.x else if v.k=2 then decide (v.s.toList=u.s.toList) else if v.k=3 then v.b==u.b else if v.k=4 then v.f==u.f else true)
theorem wm_k9 (o:Int) (x:Nat) (s:ByteArray) (b:Bool) (f c1 r1:Int) (p1 q1:Bool) (c2 r2:Int) (p2 q2:Bool) (n:Nat) (a:Option Addr) (c:Nat) (hx:x<18446744073709551616) (w:World) :
  Calls Tryz.prog 164 #[Hd.val ⟨9,o,x,s,b,f,c1,r1,p1,q1,c2,r2,p2,q2⟩ (.slice a n c)] w fun e w'=>e=.returned (.bool (wm ⟨9,o,x,s,b,f,c1,r1,p1,q1,c2,r2,p2,q2⟩ n))/\Kp w w' Nul:=by
 have HS:Hid (∀w,Calls Tryz.prog 101 #[Hd.val ⟨9,o,x,s,b,f,c1,r1,p1,q1,c2,r2,p2,q2⟩ (.slice a n c),Hd.val (⟨9,0,0,s,false,0,0,0,false,false,0,0,false,false⟩:Hd) (.slice none 0 0)] w fun e w'=>e=.returned (.bool (hsame ⟨9,o,x,s,b,f,c1,r1,p1,q1,c2,r2,p2,q2⟩ (⟨9,0,0,s,false,0,0,0,false,false,0,0,false,false⟩:Hd)))/\Gr w w'):=fun w=>sameFields_at _ _ hx (show (0:Nat)<18446744073709551616 by decide) _ _ w
 have hV:Hid (wm ⟨9,o,x,s,b,f,c1,r1,p1,q1,c2,r2,p2,q2⟩ n=(hsame ⟨9,o,x,s,b,f,c1,r1,p1,q1,c2,r2,p2,q2⟩ (⟨9,0,0,s,false,0,0,0,false,false,0,0,false,false⟩:Hd))):=rfl
 generalize wm ⟨9,o,x,s,b,f,c1,r1,p1,q1,c2,r2,p2,q2⟩ n=V at *
 generalize hsame ⟨9,o,x,s,b,f,c1,r1,p1,q1,c2,r2,p2,q2⟩ (⟨9,0,0,s,false,0,0,0,false,false,0,0,false,false⟩:Hd)=Z at *
 clear hx
 go_enter Tryz.func164,Tryz.ntmps164
 go_wp2_with fail
 go_region
 all_goals
  go_wp2_with (go_at_call 101;refine(HS.out _).mono ?_;rintro e w' ⟨rfl,hg⟩;have HG:Hid (Kp w w' Nul):=Kp.trans (by repeat (first|exact Kp.refl _ _|refine Kp.alloc ?_ _|refine Kp.drew ?_)) (Kp.of_gr hg);clear hg)
  go_ret
  exact⟨rBool (by rw[hV.out] <;> simp[]),by first|exact HG.out|(repeat (first|exact Kp.refl _ _|refine Kp.alloc ?_ _|refine Kp.drew ?_))⟩
theorem wm_k6 (o:Int) (x:Nat) (s:ByteArray) (b:Bool) (f c1 r1:Int) (p1 q1:Bool) (c2 r2:Int) (p2 q2:Bool) (n:Nat) (a:Option Addr) (c:Nat) (hx:x<18446744073709551616) (w:World) :
  Calls Tryz.prog 164 #[Hd.val ⟨6,o,x,s,b,f,c1,r1,p1,q1,c2,r2,p2,q2⟩ (.slice a n c)] w fun e w'=>e=.returned (.bool (wm ⟨6,o,x,s,b,f,c1,r1,p1,q1,c2,r2,p2,q2⟩ n))/\Kp w w' Nul:=by
 have HS:Hid (∀w,Calls Tryz.prog 101 #[Hd.val ⟨6,o,x,s,b,f,c1,r1,p1,q1,c2,r2,p2,q2⟩ (.slice a n c),Hd.val (⟨6,0,0,⟨#[]⟩,false,0,c1,r1,p1,q1,c2,r2,p2,q2⟩:Hd) (.slice none 0 0)] w fun e w'=>e=.returned (.bool (hsame ⟨6,o,x,s,b,f,c1,r1,p1,q1,c2,r2,p2,q2⟩ (⟨6,0,0,⟨#[]⟩,false,0,c1,r1,p1,q1,c2,r2,p2,q2⟩:Hd)))/\Gr w w'):=fun w=>sameFields_at _ _ hx (show (0:Nat)<18446744073709551616 by decide) _ _ w
 have hV:Hid (wm ⟨6,o,x,s,b,f,c1,r1,p1,q1,c2,r2,p2,q2⟩ n=((n==0)&&hsame ⟨6,o,x,s,b,f,c1,r1,p1,q1,c2,r2,p2,q2⟩ (⟨6,0,0,⟨#[]⟩,false,0,c1,r1,p1,q1,c2,r2,p2,q2⟩:Hd))):=rfl
 generalize wm ⟨6,o,x,s,b,f,c1,r1,p1,q1,c2,r2,p2,q2⟩ n=V at *
 generalize hsame ⟨6,o,x,s,b,f,c1,r1,p1,q1,c2,r2,p2,q2⟩ (⟨6,0,0,⟨#[]⟩,false,0,c1,r1,p1,q1,c2,r2,p2,q2⟩:Hd)=Z at *
 clear hx
 by_cases hn:n=0
 ·
  subst hn
  go_enter Tryz.func164,Tryz.ntmps164
  go_wp2_with fail
  go_region
  all_goals
   go_wp2_with (go_at_call 101;refine(HS.out _).mono ?_;rintro e w' ⟨rfl,hg⟩;have HG:Hid (Kp w w' Nul):=Kp.trans (by repeat (first|exact Kp.refl _ _|refine Kp.alloc ?_ _|refine Kp.drew ?_)) (Kp.of_gr hg);clear hg)
   go_ret
   exact⟨rBool (by rw[hV.out] <;> simp[]),by first|exact HG.out|(repeat (first|exact Kp.refl _ _|refine Kp.alloc ?_ _|refine Kp.drew ?_))⟩
 ·
  have Hhn:Hid ((n==0)=false):=by show _=_;simp[hn]
  go_enter Tryz.func164,Tryz.ntmps164
  go_wp2_with fail
  go_region
  all_goals
   go_wp2_with (go_at_call 101;refine(HS.out _).mono ?_;rintro e w' ⟨rfl,hg⟩;have HG:Hid (Kp w w' Nul):=Kp.trans (by repeat (first|exact Kp.refl _ _|refine Kp.alloc ?_ _|refine Kp.drew ?_)) (Kp.of_gr hg);clear hg)
   go_ret
   exact⟨rBool (by rw[hV.out] <;> simp[Hhn.out]),by first|exact HG.out|(repeat (first|exact Kp.refl _ _|refine Kp.alloc ?_ _|refine Kp.drew ?_))⟩
abbrev zC21:List Value:=[.int .i64 0,.int .i64 0,.float .f64 0,.string ⟨#[]⟩,.bool false,.int .i64 0,.int .i64 0,.int .i64 0,.float .f64 0,.string ⟨#[]⟩,.bool false,.int .i64 0,.int .i64 0,.int .i64 0,.bool false,.bool false,.int .i64 0,.int .i64 0,.bool false,.bool false,.slice none 0 0]
theorem Blk.range {w:World} {b:Nat} {pre l post:List Value} {t:TypeId} (h:Blk w b (pre++l++post) t):w.rangeAt b pre.length l:=rangeAt_mid h
end Go.Proofs.YtecjfnkakodebaaGreatDoor
