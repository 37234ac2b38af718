/- Formulas that may be, over trees as data: depth, the names, each node's own error. No function of the program here. formula's depth. formula's Known: a switch over texts. formula's isPlainNumber, named, callError. The document's noValue and noNode (quadrilleref17). formula's wellMade, by kinds. The document's one and Known (quadrilleref12): a name in a row of names. The document's Known (quadrilleref12). Packed, plain: a node's and a content's bytes; reading them. No function of the program here. -/
import Derived.Test.YtnceajanlnnfoaaGreatDoorQsXv
import Derived.Lib.ValidU
set_option maxRecDepth 100000
set_option maxHeartbeats 8000000
namespace Go.Proofs.YtnceajanlnnfoaaGreatDoor
open Go.RowKit
mutual
def Nd.dep:Nd→Nat
 | .mk _ ts=>1+depL ts
def depL:List Nd→Nat
 | []=>0
 | t :: ts=>max t.dep (depL ts)
end
theorem depL_append (a b:List Nd):depL (a ++ b)=max (depL a) (depL b):=by
 induction a with
 | nil=>simp [depL]
 | cons t ts ih=>rw [List.cons_append,depL,depL,ih,Nat.max_assoc]
theorem depL_take (ts:List Nd) (i:Nat) (h:i < ts.length):depL (ts.take (i+1))=max (depL (ts.take i)) (ts[i]).dep:=by
 rw [List.take_add_one,List.getElem?_eq_getElem h,depL_append]
 simp [depL]
mutual
theorem dep_le:∀ t:Nd,t.dep≤t.size
 | .mk _ ts=>by rw [Nd.dep,Nd.size];have:=depL_le ts;omega
theorem depL_le:∀ ts:List Nd,depL ts≤sizeL ts
 | []=>by simp [depL]
 | t :: ts=>by rw [depL,sizeL];have:=dep_le t;have:=depL_le ts;omega
end
def plainX (x:Nat):Bool:=cls x != 1 && cls x != 2 && !ngt x
def wmJ (h:Hd):Hd:=
 if h.k=1 then { zHd with k:=h.k,x:=h.x } else if h.k=2 then { zHd with k:=h.k,s:=h.s } else if h.k=3 then { zHd with k:=h.k,b:=h.b } else
 if h.k=4 then { zHd with k:=h.k,f:=h.f } else if h.k=5 then { zHd with k:=h.k,c1:=h.c1,r1:=h.r1,p1:=h.p1,q1:=h.q1 } else
 if h.k=6 then { zHd with k:=h.k,c1:=h.c1,r1:=h.r1,p1:=h.p1,q1:=h.q1,c2:=h.c2,r2:=h.r2,p2:=h.p2,q2:=h.q2 } else
 if h.k=7 then { zHd with k:=h.k,o:=h.o } else if h.k=8 then { zHd with k:=h.k,o:=h.o } else { zHd with k:=h.k,s:=h.s }
def wm (h:Hd) (n:Nat):Bool:=
 if h.k=1 then plainX h.x && n == 0 && hsame h (wmJ h) else
 if h.k=2 then decide (h.s.size≤1024) && Lib.validD h.s.data.toList && n == 0 && hsame h (wmJ h) else
 if h.k=3 then n == 0 && hsame h (wmJ h) else
 if h.k=4 then decide (1≤h.f) && decide (h.f≤5) && n == 0 && hsame h (wmJ h) else
 if h.k=5 then n == 0 && hsame h (wmJ h) else
 if h.k=6 then n == 0 && hsame h (wmJ h) else
 if h.k=7 then decide (1≤h.o) && decide (h.o≤3) && n == 1 && hsame h (wmJ h) else
 if h.k=8 then decide (4≤h.o) && decide (h.o≤15) && n == 2 && hsame h (wmJ h) else
 if h.k=9 then hsame h (wmJ h) else false
def nm0:List ByteArray:=[⟨#[78,65]⟩]
def nm1:List ByteArray:=[⟨#[65,66,83]⟩,⟨#[73,78,84]⟩,⟨#[73,83,66,76,65,78,75]⟩,⟨#[73,83,69,82,82,79,82]⟩,⟨#[73,83,78,85,77,66,69,82]⟩,⟨#[73,83,84,69,88,84]⟩,⟨#[76,69,78]⟩,⟨#[78,79,84]⟩,⟨#[83,73,71,78]⟩,⟨#[83,73,78,71,76,69]⟩,⟨#[83,81,82,84]⟩,⟨#[84,82,85,78,67]⟩,⟨#[86,65,76,85,69]⟩]
def nm2:List ByteArray:=[⟨#[69,88,65,67,84]⟩,⟨#[73,70,69,82,82,79,82]⟩,⟨#[76,65,82,71,69]⟩,⟨#[76,69,70,84]⟩,⟨#[77,79,68]⟩,⟨#[80,69,82,67,69,78,84,73,76,69]⟩,⟨#[80,79,87,69,82]⟩,⟨#[82,69,80,84]⟩,⟨#[82,73,71,72,84]⟩,⟨#[82,79,85,78,68]⟩,⟨#[82,79,85,78,68,68,79,87,78]⟩,⟨#[82,79,85,78,68,69,86,69,78]⟩,⟨#[82,79,85,78,68,85,80]⟩,⟨#[83,77,65,76,76]⟩,⟨#[83,85,77,80,82,79,68,85,67,84]⟩,⟨#[84,69,88,84]⟩]
def nm3:List ByteArray:=[⟨#[73,70]⟩,⟨#[82,65,78,75]⟩]
def nm4:List ByteArray:=[⟨#[67,79,85,78,84,73,70]⟩,⟨#[70,85,83,69,68]⟩,⟨#[77,73,68]⟩]
def nm5:List ByteArray:=[⟨#[65,78,68]⟩,⟨#[65,86,69,82,65,71,69]⟩,⟨#[67,79,85,78,84]⟩,⟨#[67,79,85,78,84,65]⟩,⟨#[74,79,73,78]⟩,⟨#[77,65,88]⟩,⟨#[77,69,68,73,65,78]⟩,⟨#[77,73,78]⟩,⟨#[77,79,68,69]⟩,⟨#[79,82]⟩,⟨#[83,84,68,69,86]⟩,⟨#[83,84,68,69,86,80]⟩,⟨#[83,85,77]⟩,⟨#[83,85,77,83,81]⟩,⟨#[86,65,82]⟩,⟨#[86,65,82,80]⟩]
def nm6:List ByteArray:=[⟨#[67,72,79,79,83,69]⟩]
def isAny (s:ByteArray) (l:List ByteArray):Bool:=l.any fun n=>s.toList == n.toList
def known (s:ByteArray):Int×Int×Bool:=
 if isAny s nm0=true then (0,0,true) else if isAny s nm1=true then (1,1,true) else if isAny s nm2=true then (2,2,true) else if isAny s nm3=true then (2,3,true) else if isAny s nm4=true then (3,3,true) else if isAny s nm5=true then (1,256,true) else if isAny s nm6=true then (2,256,true) else (0,0,false)
def callE (s:ByteArray) (n:Nat):Int:=
 if (known s).2.2=false then 21 else if (n:Int) < (known s).1∨(known s).2.1 < n then 22 else 0
def ownE (h:Hd) (n:Nat) (called:Bool):Int:=
 if wm h n=false then 1 else if h.k=5 then (if vA h.c1 h.r1 h.c1 h.r1=true then 0 else 20) else
 if h.k=6 then (if vA h.c1 h.r1 h.c2 h.r2=true then (if called=true then 0 else 31) else 20) else if h.k=9 then callE h.s n else 0
mutual
def Nd.fe:Nd→Bool→Int
 | .mk h ts,called=>if ownE h ts.length called≠0 then ownE h ts.length called else feL ts (h.k == 9)
def feL:List Nd→Bool→Int
 | [],_=>0
 | t :: ts,c=>if t.fe c≠0 then t.fe c else feL ts c
end
theorem feL_skip {ts:List Nd} {c:Bool}:∀ {k:Nat},(∀ i (h:i < ts.length),i < k→(ts[i]).fe c=0)→feL ts c=feL (ts.drop k) c:=by
 induction ts with
 | nil=>intro k _;simp
 | cons t ts ih=>
  intro k hk
  cases k with
  | zero=>rfl
  | succ k=>
   have h0:=hk 0 (by simp) (by omega)
   simp only [List.getElem_cons_zero] at h0
   rw [feL,h0,List.drop_succ_cons]
   simp only [ne_eq,not_true_eq_false,if_false]
   exact ih fun i h hi=>by
    have:=hk (i+1) (by simp;omega) (by omega)
    simpa using this
theorem feL_at {ts:List Nd} {c:Bool} {k:Nat} (h:k < ts.length) (hk:∀ i (h:i < ts.length),i < k→(ts[i]).fe c=0) (hne:(ts[k]).fe c≠0):feL ts c=(ts[k]).fe c:=by
 rw [feL_skip hk,List.drop_eq_getElem_cons h,feL,if_pos hne]
theorem feL_all {ts:List Nd} {c:Bool} (hk:∀ i (h:i < ts.length),i < ts.length→(ts[i]).fe c=0):feL ts c=0:=by
 rw [feL_skip hk,List.drop_length,feL]
def chk (t:Nd):Int:=if 256 < t.size then 34 else if 32 < t.dep then 33 else t.fe false
theorem load_node_law {ops:Array Oper} {rest:List Oper} {o:Oper} {a:Act} {w:World} {Q:Exit→Act→World→Prop} (hgd:Region.wanted o (yielded ops a.tmps)=true) (x:Operand) (ho:o.op=.load 64 x) (g:Nat) (hx:a.eval x=.pointer (some ⟨g,0,none⟩)) (cs:Array Value) (hg:w.heap[g]? = some (.cells cs 64 (0,0))) (hcs:cs.size=15)
  (h:wpList Tryz.prog ops Q rest (a.put o.dst (.agg cs)) w):wpList Tryz.prog ops Q (o :: rest) a w:=
 wpList_step fun K hK=>by
  simp only [hgd,if_true]
  exact wp_load_row 64 x ho g hx 64 cs (0,0) _ hg Tryz.underlying64 rfl (by rw [hcs];exact infoNode) (hK _ _ h)
theorem depth_any (N:Nat):∀ (t:Nd) (sl:Value) (F:Nat→Prop) (w:World),t.size≤N→N≤1048576→NdIn w F sl t →
  Calls Tryz.prog 161 #[t.hd.val sl] w fun e w'=>e=.returned (.int .i64 (t.dep:Nat))∧Gr w w':=by
 induction N with
 | zero=>intro t sl F w h;have:=size_pos t;omega
 | succ N ih=>
  intro t sl F w hN hB hin
  have hdl:=dep_le t
  obtain ⟨hd,ts⟩:=t
  rw [NdIn] at hin
  obtain ⟨a,c,rfl,h2,h3,h4⟩:=hin
  have hsz:Hid ((Nd.mk hd ts).size=1+sizeL ts):=by show _=_;rw [Nd.size]
  have hdp:Hid ((Nd.mk hd ts).dep=1+depL ts):=by show _=_;rw [Nd.dep]
  have HN:Hid ((Nd.mk hd ts).size≤N+1):=hN
  have HBd:Hid (N+1≤1048576):=hB
  have IH:Hid (∀ (t:Nd) (sl:Value) (F:Nat→Prop) (w:World),t.size≤N→N≤1048576→NdIn w F sl t →
   Calls Tryz.prog 161 #[t.hd.val sl] w fun e w'=>e=.returned (.int .i64 (t.dep:Nat))∧Gr w w'):=ih
  clear ih hN hB
  have hlen:ts.length≤9223372036854775807:=by unfold maxLen at h3;omega
  have H4:Hid ((ts=[]∧(c=0∨a≠none))∨∃ b o,a=some ⟨b,o,none⟩∧F b∧NdsIn w F b o ts):=h4
  have HD:Hid (depL ts≤1048576):=by show _≤_;have:=HN.out;have:=HBd.out;have:=hdp.out;omega
  clear h4 h2 h3 hdl
  generalize hn:ts.length=n at *
  have HL:Hid (ts.length=n):=hn
  have HLEN:Hid (n≤9223372036854775807):=hlen
  clear hn hlen
  generalize hW:(Nd.mk hd ts).dep=S at *
  simp only [Nd.hd]
  obtain ⟨k,o',x,s,bb,f,c1,r1,p1,q1,c2,r2,p2,q2⟩:=hd
  go_enter Tryz.func161,Tryz.ntmps161
  go_wp2_with fail
  generalize hW0:(w.alloc (.cells #[.int .i64 k,.int .i64 o',.float .f64 x,.string s,.bool bb,.int .i64 f,.int .i64 c1,.int .i64 r1,.bool p1,.bool q1,.int .i64 c2,.int .i64 r2,.bool p2,.bool q2,.slice a n c] 64))=W0 at *
  have G0:Hid (Gr w W0):=by show Gr _ _;rw [← hW0];exact (Gr.refl w).alloc _ _
  clear hW0
  go_loopw [3,9] (fun s i wr=>∃ k:Nat,k≤n∧s=.int .i64 (depL (ts.take k):Nat)∧i=.int .i64 k∧Gr W0 wr) (fun _ i _=>n - (intOf i).toNat)
  case atStart=>exact ⟨0,Nat.zero_le _,by simp [depL],by simp,Gr.refl _⟩
  case round=>
   obtain ⟨k,hk,rfl,rfl,hg⟩:=hrel
   have GR:Hid (Gr W0 wr):=hg
   clear hg
   by_cases hlt:k < n
   ·have hki:k < ts.length:=by rw [HL.out];exact hlt
    obtain ⟨b,o,rfl,hF,hns⟩:∃ b o,a=some ⟨b,o,none⟩∧F b∧NdsIn w F b o ts:=by
     rcases H4.out with h|h
     ·rw [h.1] at hki;simp at hki
     ·exact h
    obtain ⟨sl,hr,hni⟩:=hns.get k hki
    have G1:Gr w wr:=G0.out.trans GR.out
    have HR:Hid (wr.rangeAt b (o+k * 15) ((ts[k]).hd.cells sl)):=rangeAt_gr hr G1
    have hni':=hni.gr G1
    have O1:Hid (sl.oneCell'=true):=hni.one
    have hs1:=size_get ts k hki
    have HC:Hid (∀ wq,Gr wr wq→Calls Tryz.prog 161 #[(ts[k]).hd.val sl] wq fun e w'=>e=.returned (.int .i64 ((ts[k]).dep:Nat))∧Gr wq w'):=fun wq hq=>IH.out ts[k] sl F wq (by have:=HN.out;have:=hsz.out;omega) (by have:=HBd.out;omega) (hni'.gr hq)
    have hA:Hid (depL (ts.take (k+1))=max (depL (ts.take k)) (ts[k]).dep):=depL_take ts k hki
    clear hs1 hni hni' hr hns
    generalize (ts[k]).dep=z at *
    generalize (ts[k]).hd=hh at *
    generalize depL (ts.take k)=y at *
    have hkb:(k:Int)+1≤9223372036854775807:=by have:=HLEN.out;omega
    clear hW
    as_aux_lemma=>
    go_wp2_with (first|(refine wpList_load_mid rfl 64 (.tmp 11) rfl b (o+k * 15) rfl (hh.cells sl) _ HR.out Tryz.underlying64 rfl infoNode ?_)|(refine wpList_store_new rfl 64 (.tmp 5) (.tmp 12) rfl _ _ _ _ _ (by first|rfl|simp) rfl rfl rfl infoNode (hh.one O1.out) ?_)|(refine load_node_law rfl (.tmp 5) rfl wr.heap.size rfl (hh.cells sl).toArray (heap_alloc_new _ _) rfl ?_))
    refine (HC.out _ ((Gr.refl _).alloc _ _)).mono ?_
    rintro e w1 ⟨rfl,hg1⟩
    have G2:Hid (Gr W0 w1):=(GR.out.trans ((Gr.refl _).alloc _ _)).trans hg1
    clear hg1
    go_wp2_with fail
    go_roundw
    case rel=>exact ⟨k+1,by omega,by rw [hA.out];congr 1;first|omega|(split <;> omega),by go_num,G2.out⟩
    case measure=>simp only [intOf];omega
   ·have hke:k=n:=by omega
    subst hke
    have hw4:Hid (1+depL (ts.take k)=S):=by
     show _=_
     rw [← HL.out,List.take_length,← hdp.out]
    have hd1:depL (ts.take k)≤1048576:=by rw [← HL.out,List.take_length];exact HD.out
    generalize depL (ts.take k)=y at *
    clear hW
    as_aux_lemma=>
    go_wp2_with fail
    go_ret
    exact ⟨rInt (by have:=hw4.out;omega),G0.out.trans GR.out⟩
theorem depth_at (t:Nd) (sl:Value) (F:Nat→Prop) (w:World) (h:t.size≤1048576) (hin:NdIn w F sl t) :
  Calls Tryz.prog 161 #[t.hd.val sl] w fun e w'=>e=.returned (.int .i64 (t.dep:Nat))∧Gr w w':=
 depth_any t.size t sl F w (Nat.le_refl _) h hin
end Go.Proofs.YtnceajanlnnfoaaGreatDoor
namespace Go.Proofs.YtnceajanlnnfoaaGreatDoor
open Go.RowKit
structure St (s:ByteArray) (m:Nat) (a:Act):Prop where
 size:a.tmps.size=m
 text:a.eval (.tmp 5)=.string s
 defers:a.defers=[]
section
variable {P:Program} {s:ByteArray} {m:Nat} {a:Act} {w:World} {Q:Exit→Act→World→Prop}
theorem eval_put_same {d:Nat} (v:Value) (h:d < a.tmps.size):(a.put (some d) v).eval (.tmp d)=v:=by
 simp [Act.put,Act.eval,h]
theorem eval_put_other {d i:Nat} (v:Value) (h:d≠i):(a.put (some d) v).eval (.tmp i)=a.eval (.tmp i):=by
 simp [Act.put,Act.eval,Array.getD_eq_getD_getElem?,Array.getElem?_setIfInBounds_ne h]
theorem St.put (h:St s m a) {d:Nat} (v:Value) (hd:d≠5):St s m (a.put (some d) v):=
 ⟨by simp [Act.put,h.size],(eval_put_other v hd).trans h.text,h.defers⟩
theorem wp_val {o:Oper} {v:Value} {K:Act→World→Prop} (he:(execOp a.eval o).run P w=.ok (.value v) w) (h:K (a.put o.dst v) w):o.wp P a w K Q:=by
 unfold Oper.wp;rw [he];exact h
theorem reg_eq {id d e:Nat} {o1 o2:Oper} {n:ByteArray} (h1:o1.op=.binOp .eql 9 (.tmp 5) (.const (.string n)) 9) (e1:o1.dst=some d) (g1:o1.guard=none) (h2:o2.op=.assign (.tmp d)) (e2:o2.dst=some e) (g2:o2.guard=none) (hd:d≠5) (he:e≠5) (hdm:d < m) (hem:e < m)
  (hs:St s m a) (hQ:∀ a',St s m a'→a'.eval (.tmp e)=.bool (s.toList == n.toList)→Q .normal a' w):(Code.region id #[o1,o2] false).wp P Q a w:=by
 refine wp_region_list ?_
 refine wpList_plain g1 fun K hK=>?_
 have s1:=hs.put (.bool (s.toList == n.toList)) hd
 refine wp_val (v:=.bool (s.toList == n.toList)) (by unfold execOp;simp only [h1,hs.text];simp [Act.eval,go_sem]) (hK _ _ ?_)
 rw [e1]
 have hv:=eval_put_same (a:=a) (.bool (s.toList == n.toList)) (show d < a.tmps.size by rw [hs.size];exact hdm)
 refine wpList_plain g2 fun K hK=>?_
 refine wp_val (v:=.bool (s.toList == n.toList)) (by unfold execOp;simp only [h2,hv];simp [go_sem]) (hK _ _ ?_)
 rw [e2]
 refine wpList_nil (hQ _ (s1.put _ he) (eval_put_same _ (by rw [s1.size];exact hem)))
inductive Ors (e:Nat):List ByteArray→Code→Prop
 | last {id d:Nat} {o1 o2:Oper} {n:ByteArray} (h1:o1.op=.binOp .eql 9 (.tmp 5) (.const (.string n)) 9) (e1:o1.dst=some d) (g1:o1.guard=none) (h2:o2.op=.assign (.tmp d)) (e2:o2.dst=some e) (g2:o2.guard=none) (hd:d≠5) (hdm:d < 65):Ors e [n] (Code.region id #[o1,o2] false)
 | more {id d:Nat} {o1 o2:Oper} {n:ByteArray} {ns:List ByteArray} {c:Code} (h1:o1.op=.binOp .eql 9 (.tmp 5) (.const (.string n)) 9) (e1:o1.dst=some d) (g1:o1.guard=none) (h2:o2.op=.assign (.tmp d)) (e2:o2.dst=some e) (g2:o2.guard=none) (hd:d≠5) (hdm:d < 65) (h:Ors e ns c) :
   Ors e (n :: ns) ((Code.region id #[o1,o2] false).seq (Code.cond (.tmp e) Code.skip c))
theorem wp_ors {e:Nat} {ns:List ByteArray} {c:Code} (h:Ors e ns c) (he:e≠5) (hem:e < 65):∀ {a:Act},St s 65 a→(∀ a',St s 65 a'→a'.eval (.tmp e)=.bool (isAny s ns)→Q .normal a' w)→c.wp P Q a w:=by
 induction h with
 | last h1 e1 g1 h2 e2 g2 hd hdm=>
  intro a hs hQ
  refine reg_eq h1 e1 g1 h2 e2 g2 hd he hdm hem hs fun a' ha hv=>hQ a' ha ?_
  rw [hv];simp [isAny]
 | more h1 e1 g1 h2 e2 g2 hd hdm _ ih=>
  intro a hs hQ
  refine wp_seq (reg_eq h1 e1 g1 h2 e2 g2 hd he hdm hem hs fun a' ha hv=>?_)
  refine wp_cond_split hv (fun ht=>wp_skip (hQ a' ha ?_)) (fun hf=>ih ha fun a2 ha2 hv2=>hQ a2 ha2 ?_)
  ·rw [hv];simp [isAny,ht]
  ·rw [hv2];simp only [isAny,List.any_cons,hf,Bool.false_or]
theorem reg_tell {id:Nat} {o1 o2 o3:Oper} {x y:Int} {z:Bool} (h1:o1.op=.assign (.const (.int .i64 x))) (e1:o1.dst=some 2) (g1:o1.guard=none) (h2:o2.op=.assign (.const (.int .i64 y))) (e2:o2.dst=some 3) (g2:o2.guard=none) (h3:o3.op=.assign (.const (.bool z))) (e3:o3.dst=some 4) (g3:o3.guard=none)
  (hs:St s 65 a) (hQ:∀ a',a'.defers=[]→a'.eval (.tmp 2)=.int .i64 x→a'.eval (.tmp 3)=.int .i64 y→a'.eval (.tmp 4)=.bool z→Q .ret a' w):((Code.region id #[o1,o2,o3] false).seq Code.ret).wp P Q a w:=by
 refine wp_seq (wp_region_list ?_)
 refine wpList_plain g1 fun K hK=>?_
 refine wp_val (v:=.int .i64 x) (by unfold execOp;simp only [h1];simp [go_sem,Act.eval]) (hK _ _ ?_)
 rw [e1]
 refine wpList_plain g2 fun K hK=>?_
 refine wp_val (v:=.int .i64 y) (by unfold execOp;simp only [h2];simp [go_sem,Act.eval]) (hK _ _ ?_)
 rw [e2]
 refine wpList_plain g3 fun K hK=>?_
 refine wp_val (v:=.bool z) (by unfold execOp;simp only [h3];simp [go_sem,Act.eval]) (hK _ _ ?_)
 rw [e3]
 have s1:=hs.put (.int .i64 x) (d:=2) (by decide)
 have s2:=s1.put (.int .i64 y) (d:=3) (by decide)
 have s3:=s2.put (.bool z) (d:=4) (by decide)
 refine wpList_nil (wp_ret (hQ _ s3.defers ?_ ?_ ?_))
 ·rw [eval_put_other _ (by decide),eval_put_other _ (by decide),eval_put_same _ (by rw [hs.size];decide)]
 ·rw [eval_put_other _ (by decide),eval_put_same _ (by rw [s1.size];decide)]
 ·rw [eval_put_same _ (by rw [s2.size];decide)]
end
theorem ff {b:Bool} (h:b=false):¬ b=true:=by rw [h];decide
theorem results_three {fn:Func} {t u v:Tmp} (h:fn.results=#[.tmp t,.tmp u,.tmp v]) (tmps:Array Value) (P:Program) (w:World) :
  (results fn tmps).run P w=.ok (.tuple #[tmps.getD t undef,tmps.getD u undef,tmps.getD v undef]) w:=by
 simp [results,h]
theorem tell_done {a:Act} {w w0:World} {x y:Int} {z:Bool} {v:Int×Int×Bool} (hw:w=w0) (hv:v=(x,y,z)) (hd:a.defers=[]) (h2:a.eval (.tmp 2)=.int .i64 x) (h3:a.eval (.tmp 3)=.int .i64 y) (h4:a.eval (.tmp 4)=.bool z) :
  bodyPost Tryz.prog Tryz.f222 (fun e w'=>e=.returned (.tuple #[.int .i64 v.1,.int .i64 v.2.1,.bool v.2.2])∧w'=w0) .ret a w:=by
 subst hw
 subst hv
 refine ⟨hd,_,results_three rfl _ _ _,?_⟩
 have h2':a.tmps.getD 2 undef=.int .i64 x:=h2
 have h3':a.tmps.getD 3 undef=.int .i64 y:=h3
 have h4':a.tmps.getD 4 undef=.bool z:=h4
 rw [h2',h3',h4']
 exact ⟨rfl,rfl⟩
theorem known_at (s:ByteArray) (w:World) :
  Calls Tryz.prog 222 #[.string s] w fun e w'=>e=.returned (.tuple #[.int .i64 (known s).1,.int .i64 (known s).2.1,.bool (known s).2.2])∧w'=w:=by
 go_enter Tryz.func222,Tryz.ntmps222
 refine wp_seq (wp_region_list (wpList_plain rfl fun K hK=>wp_val rfl (hK _ _ (wpList_plain rfl fun K hK=>wp_val rfl (hK _ _ (wpList_plain rfl fun K hK=>wp_val rfl (hK _ _ (wpList_nil ?_))))))))
 refine wp_seq (wp_seq (wp_region_list (wpList_plain rfl fun K hK=>wp_val rfl (hK _ _ (wpList_nil ?_)))))
 refine wp_block ?_
 refine wp_seq (wp_ors (s:=s) (e:=6) (ns:=nm0) (by unfold nm0;repeat (first|exact Ors.last rfl rfl rfl rfl rfl rfl (by decide) (by decide)|refine Ors.more rfl rfl rfl rfl rfl rfl (by decide) (by decide) ?_)) (by decide) (by decide) ⟨rfl,rfl,rfl⟩ fun a0 s0 v0=>?_)
 refine wp_cond_split v0 (fun ht=>reg_tell rfl rfl rfl rfl rfl rfl rfl rfl rfl s0 fun a' d h2 h3 h4=>tell_done rfl (by unfold known;rw [if_pos ht]) d h2 h3 h4) (fun f0=>?_)
 refine wp_seq (wp_ors (s:=s) (e:=8) (ns:=nm1) (by unfold nm1;repeat (first|exact Ors.last rfl rfl rfl rfl rfl rfl (by decide) (by decide)|refine Ors.more rfl rfl rfl rfl rfl rfl (by decide) (by decide) ?_)) (by decide) (by decide) s0 fun a1 s1 v1=>?_)
 refine wp_cond_split v1 (fun ht=>reg_tell rfl rfl rfl rfl rfl rfl rfl rfl rfl s1 fun a' d h2 h3 h4=>tell_done rfl (by unfold known;rw [if_neg (ff f0),if_pos ht]) d h2 h3 h4) (fun f1=>?_)
 refine wp_seq (wp_ors (s:=s) (e:=22) (ns:=nm2) (by unfold nm2;repeat (first|exact Ors.last rfl rfl rfl rfl rfl rfl (by decide) (by decide)|refine Ors.more rfl rfl rfl rfl rfl rfl (by decide) (by decide) ?_)) (by decide) (by decide) s1 fun a2 s2 v2=>?_)
 refine wp_cond_split v2 (fun ht=>reg_tell rfl rfl rfl rfl rfl rfl rfl rfl rfl s2 fun a' d h2 h3 h4=>tell_done rfl (by unfold known;rw [if_neg (ff f0),if_neg (ff f1),if_pos ht]) d h2 h3 h4) (fun f2=>?_)
 refine wp_seq (wp_ors (s:=s) (e:=39) (ns:=nm3) (by unfold nm3;repeat (first|exact Ors.last rfl rfl rfl rfl rfl rfl (by decide) (by decide)|refine Ors.more rfl rfl rfl rfl rfl rfl (by decide) (by decide) ?_)) (by decide) (by decide) s2 fun a3 s3 v3=>?_)
 refine wp_cond_split v3 (fun ht=>reg_tell rfl rfl rfl rfl rfl rfl rfl rfl rfl s3 fun a' d h2 h3 h4=>tell_done rfl (by unfold known;rw [if_neg (ff f0),if_neg (ff f1),if_neg (ff f2),if_pos ht]) d h2 h3 h4) (fun f3=>?_)
 refine wp_seq (wp_ors (s:=s) (e:=42) (ns:=nm4) (by unfold nm4;repeat (first|exact Ors.last rfl rfl rfl rfl rfl rfl (by decide) (by decide)|refine Ors.more rfl rfl rfl rfl rfl rfl (by decide) (by decide) ?_)) (by decide) (by decide) s3 fun a4 s4 v4=>?_)
 refine wp_cond_split v4 (fun ht=>reg_tell rfl rfl rfl rfl rfl rfl rfl rfl rfl s4 fun a' d h2 h3 h4=>tell_done rfl (by unfold known;rw [if_neg (ff f0),if_neg (ff f1),if_neg (ff f2),if_neg (ff f3),if_pos ht]) d h2 h3 h4) (fun f4=>?_)
 refine wp_seq (wp_ors (s:=s) (e:=46) (ns:=nm5) (by unfold nm5;repeat (first|exact Ors.last rfl rfl rfl rfl rfl rfl (by decide) (by decide)|refine Ors.more rfl rfl rfl rfl rfl rfl (by decide) (by decide) ?_)) (by decide) (by decide) s4 fun a5 s5 v5=>?_)
 refine wp_cond_split v5 (fun ht=>reg_tell rfl rfl rfl rfl rfl rfl rfl rfl rfl s5 fun a' d h2 h3 h4=>tell_done rfl (by unfold known;rw [if_neg (ff f0),if_neg (ff f1),if_neg (ff f2),if_neg (ff f3),if_neg (ff f4),if_pos ht]) d h2 h3 h4) (fun f5=>?_)
 refine wp_seq (wp_ors (s:=s) (e:=63) (ns:=nm6) (by unfold nm6;repeat (first|exact Ors.last rfl rfl rfl rfl rfl rfl (by decide) (by decide)|refine Ors.more rfl rfl rfl rfl rfl rfl (by decide) (by decide) ?_)) (by decide) (by decide) s5 fun a6 s6 v6=>?_)
 refine wp_cond_split v6 (fun ht=>reg_tell rfl rfl rfl rfl rfl rfl rfl rfl rfl s6 fun a' d h2 h3 h4=>tell_done rfl (by unfold known;rw [if_neg (ff f0),if_neg (ff f1),if_neg (ff f2),if_neg (ff f3),if_neg (ff f4),if_neg (ff f5),if_pos ht]) d h2 h3 h4) (fun f6=>?_)
 refine wp_skip ?_
 exact reg_tell rfl rfl rfl rfl rfl rfl rfl rfl rfl s6 fun a' d h2 h3 h4=>tell_done rfl (by unfold known;rw [if_neg (ff f0),if_neg (ff f1),if_neg (ff f2),if_neg (ff f3),if_neg (ff f4),if_neg (ff f5),if_neg (ff f6)]) d h2 h3 h4
end Go.Proofs.YtnceajanlnnfoaaGreatDoor
namespace Go.Proofs.YtnceajanlnnfoaaGreatDoor
open Go.RowKit
theorem isPlain_at (x:Nat) (hx:x < 18446744073709551616) (w:World) :
  Calls Tryz.prog 221 #[.float .f64 x] w fun e w'=>e=.returned (.bool (plainX x))∧w'=w:=by
 have H1:Hid (∀ w,Calls Tryz.prog 107 #[.float .f64 x] w fun e w'=>e=.returned (.int .i64 (cls x))∧w'=w):=class_any x hx
 have H2:Hid (∀ w,Calls Tryz.prog 145 #[.float .f64 x] w fun e w'=>e=.returned (.bool (ngt x))∧w'=w):=negative_any x hx
 have hV:Hid (plainX x=(cls x != 1 && cls x != 2 && !ngt x)):=rfl
 generalize plainX x=V at *
 generalize cls x=C at *
 generalize ngt x=G at *
 go_enter Tryz.func221,Tryz.ntmps221
 go_wp2_with (first|(go_at_call 107;refine (H1.out _).mono ?_;rintro e w' ⟨rfl,rfl⟩)|(go_at_call 145;refine (H2.out _).mono ?_;rintro e w' ⟨rfl,rfl⟩))
 all_goals
  go_ret
  refine ⟨rBool ?_,rfl⟩
  rw [hV.out]
  try (clear H1 H2 hV;simp_all)
theorem infoArea:(Tryz.prog.info? 134).map (·.size)=some 4:=by kernel_rfl
def nmd (h:Hd):Int×Int×Int×Int:=if h.k=5 then (h.c1,h.r1,h.c1,h.r1) else if h.k=6 then (h.c1,h.r1,h.c2,h.r2) else (0,0,0,0)
theorem named_at (h:Hd) (sl:Value) (w:World) :
  Calls Tryz.prog 209 #[h.val sl] w fun e w'=>e=.returned (.agg #[.int .i64 (nmd h).1,.int .i64 (nmd h).2.1,.int .i64 (nmd h).2.2.1,.int .i64 (nmd h).2.2.2])∧Gr w w':=by
 obtain ⟨V,hV⟩:∃ V,nmd h=V:=⟨_,rfl⟩
 rw [hV]
 have HV:Hid ((if h.k=5 then (h.c1,h.r1,h.c1,h.r1) else if h.k=6 then (h.c1,h.r1,h.c2,h.r2) else (0,0,0,0))=V):=hV
 clear hV
 obtain ⟨k,o,x,s,b,f,c1,r1,p1,q1,c2,r2,p2,q2⟩:=h
 simp only at *
 go_enter Tryz.func209,Tryz.ntmps209
 go_wp2
 all_goals
  refine bodyPost_ret (results_cell_row rfl _ _ (w.heap.size+1) 134 _ (0,0) _ rfl (heap_alloc2_new _ _ _) Tryz.underlying134 rfl infoArea) rfl ?_
  refine ⟨?_,((Gr.refl _).alloc _ _).alloc _ _⟩
  rw [← HV.out]
  clear HV
  simp_all
theorem callError_at (s:ByteArray) (n:Nat) (w:World)
  (K:∀ w,Calls Tryz.prog 222 #[.string s] w fun e w'=>e=.returned (.tuple #[.int .i64 (known s).1,.int .i64 (known s).2.1,.bool (known s).2.2])∧w'=w) :
  Calls Tryz.prog 210 #[.string s,.int .i64 n] w fun e w'=>e=.returned (.int .i64 (callE s n))∧w'=w:=by
 have HK:Hid (∀ w,Calls Tryz.prog 222 #[.string s] w fun e w'=>e=.returned (.tuple #[.int .i64 (known s).1,.int .i64 (known s).2.1,.bool (known s).2.2])∧w'=w):=K
 have hV:Hid (callE s n=if (known s).2.2=false then 21 else if (n:Int) < (known s).1∨(known s).2.1 < n then 22 else 0):=rfl
 clear K
 generalize callE s n=V at *
 generalize known s=kk at *
 obtain ⟨a,b,c⟩:=kk
 simp only at *
 go_enter Tryz.func210,Tryz.ntmps210
 go_wp2_with (go_at_call 222;refine (HK.out _).mono ?_;rintro e w' ⟨rfl,rfl⟩)
 all_goals
  go_ret
  refine ⟨rInt ?_,rfl⟩
  rw [hV.out]
  try (clear HK hV;simp_all)
  try omega
theorem fsame_zero (x:Nat):fsame x 0=((x:Int) == 0):=by
 unfold fsame
 have h0:one 0=0:=rfl
 rw [h0,Bool.eq_iff_iff,decide_eq_true_eq,beq_iff_eq]
 unfold one
 split
 ·rename_i h
  constructor
  ·intro e;cases e
  ·intro e
   have:x=0:=by omega
   subst this
   exact absurd h (by decide)
 ·omega
def noN (h:Hd) (n:Nat):Bool:=h.k == 0 && h.o == 0 && (h.x:Int) == 0 && decide (h.s.toList=[]) && !h.b && h.f == 0 && (h.c1 == 0 && h.r1 == 0 && h.p1 == false && h.q1 == false) && (h.c2 == 0 && h.r2 == 0 && h.p2 == false && h.q2 == false) && n == 0
theorem noN_zero (t:Nd):noN t.hd t.ts.length=zeroN t:=by
 obtain ⟨h,ts⟩:=t
 show noN h ts.length=tsame (.mk h ts) zNd
 unfold zNd
 have e0:(ByteArray.mk #[]).toList=[]:=ByteArray.toList_mk []
 cases ts with
 | nil=>
  rw [tsame]
  unfold noN hsame zHd
  simp only [fsame_zero,e0,List.length_nil]
  cases h.b <;> simp [lsame]
 | cons t ts=>
  rw [tsame]
  unfold noN
  simp [lsame]
theorem noNode_at (h:Hd) (n:Nat) (a:Option Addr) (c:Nat) (w:World) :
  Calls Tryz.prog 116 #[h.val (.slice a n c)] w fun e w'=>e=.returned (.bool (noN h n))∧Gr w w':=by
 have e1:=eql_ref h.c1 h.r1 0 0 h.p1 h.q1 false false _ rfl
 have e2:=eql_ref h.c2 h.r2 0 0 h.p2 h.q2 false false _ rfl
 have hV:Hid (noN h n=(h.k == 0 && h.o == 0 && (h.x:Int) == 0 && decide (h.s.toList=[]) && !h.b && h.f == 0 && (h.c1 == 0 && h.r1 == 0 && h.p1 == false && h.q1 == false) && (h.c2 == 0 && h.r2 == 0 && h.p2 == false && h.q2 == false) && n == 0)):=rfl
 have G0:Hid (∀ a t,Gr w (w.alloc (.cells a t))):=fun a t=>(Gr.refl w).alloc _ _
 generalize noN h n=V at *
 generalize (h.c1 == 0 && h.r1 == 0 && h.p1 == false && h.q1 == false)=b1 at *
 generalize (h.c2 == 0 && h.r2 == 0 && h.p2 == false && h.q2 == false)=b2 at *
 obtain ⟨k,o,x,s,b,f,c1,r1,p1,q1,c2,r2,p2,q2⟩:=h
 simp only at *
 go_enter Tryz.func116,Tryz.ntmps116
 go_wp2
 all_goals
  go_ret
  refine ⟨rBool ?_,G0.out _ _⟩
  rw [hV.out]
  clear hV G0 e1 e2
  (try simp_all) <;> (try (rw [Bool.eq_iff_iff];simp))
theorem noValue_at (v:Vl) (w:World) :
  Calls Tryz.prog 115 #[v.val] w fun e w'=>e=.returned (.bool (zeroV v))∧Gr w w':=by
 have hV:Hid (zeroV v=(v.k == 0 && ((v.k == 1 || (v.x:Int) == 0) && (v.k == 2 || decide (v.s.toList=[])) && (v.k == 3 || !v.b) && (v.k == 4 || v.f == 0)))):=rfl
 have G0:Hid (∀ a t,Gr w (w.alloc (.cells a t))):=fun a t=>(Gr.refl w).alloc _ _
 generalize zeroV v=V at *
 obtain ⟨k,x,s,b,f⟩:=v
 simp only at *
 go_enter Tryz.func115,Tryz.ntmps115
 go_wp2
 all_goals
  go_ret
  refine ⟨rBool ?_,G0.out _ _⟩
  rw [hV.out]
  clear hV G0
  (try simp_all) <;> (try (rw [Bool.eq_iff_iff];simp))
theorem wm_k1 (o:Int) (x:Nat) (s:ByteArray) (b:Bool) (f c1 r1:Int) (p1 q1:Bool) (c2 r2:Int) (p2 q2:Bool) (n:Nat) (a:Option Addr) (c:Nat) (hx:x < 18446744073709551616) (w:World) :
  Calls Tryz.prog 207 #[Hd.val ⟨1,o,x,s,b,f,c1,r1,p1,q1,c2,r2,p2,q2⟩ (.slice a n c)] w fun e w'=>e=.returned (.bool (wm ⟨1,o,x,s,b,f,c1,r1,p1,q1,c2,r2,p2,q2⟩ n))∧Kp w w' Nul:=by
 have HS:Hid (∀ w,Calls Tryz.prog 177 #[Hd.val ⟨1,o,x,s,b,f,c1,r1,p1,q1,c2,r2,p2,q2⟩ (.slice a n c),Hd.val (⟨1,0,x,⟨#[]⟩,false,0,0,0,false,false,0,0,false,false⟩:Hd) (.slice none 0 0)] w fun e w'=>e=.returned (.bool (hsame ⟨1,o,x,s,b,f,c1,r1,p1,q1,c2,r2,p2,q2⟩ (⟨1,0,x,⟨#[]⟩,false,0,0,0,false,false,0,0,false,false⟩:Hd)))∧Gr w w'):=fun w=>sameFields_at _ _ hx hx _ _ w
 have HP:Hid (∀ w,Calls Tryz.prog 221 #[.float .f64 x] w fun e w'=>e=.returned (.bool (plainX x))∧w'=w):=isPlain_at x hx
 have hV:Hid (wm ⟨1,o,x,s,b,f,c1,r1,p1,q1,c2,r2,p2,q2⟩ n=(plainX x && (n == 0) && hsame ⟨1,o,x,s,b,f,c1,r1,p1,q1,c2,r2,p2,q2⟩ (⟨1,0,x,⟨#[]⟩,false,0,0,0,false,false,0,0,false,false⟩:Hd))):=rfl
 generalize wm ⟨1,o,x,s,b,f,c1,r1,p1,q1,c2,r2,p2,q2⟩ n=V at *
 generalize hsame ⟨1,o,x,s,b,f,c1,r1,p1,q1,c2,r2,p2,q2⟩ (⟨1,0,x,⟨#[]⟩,false,0,0,0,false,false,0,0,false,false⟩:Hd)=Z at *
 generalize plainX x=PX at *
 clear hx
 cases PX
 ·
  by_cases hn:n=0
  ·
   subst hn
   go_enter Tryz.func207,Tryz.ntmps207
   go_wp2_with fail
   go_region_with (go_at_call 221;refine (HP.out _).mono ?_;rintro e w' ⟨rfl,rfl⟩)
   all_goals
    go_wp2_with (go_at_call 177;refine (HS.out _).mono ?_;rintro e w' ⟨rfl,hg⟩;have HG:Hid (Kp w w' Nul):=Kp.trans (by repeat (first|exact Kp.refl _ _|refine Kp.alloc ?_ _|refine Kp.drew ?_)) (Kp.of_gr hg);clear hg)
    go_ret
    exact ⟨rBool (by rw [hV.out] <;> simp []),by first|exact HG.out|(repeat (first|exact Kp.refl _ _|refine Kp.alloc ?_ _|refine Kp.drew ?_))⟩
  ·
   have Hhn:Hid ((n == 0)=false):=by show _=_;simp [hn]
   go_enter Tryz.func207,Tryz.ntmps207
   go_wp2_with fail
   go_region_with (go_at_call 221;refine (HP.out _).mono ?_;rintro e w' ⟨rfl,rfl⟩)
   all_goals
    go_wp2_with (go_at_call 177;refine (HS.out _).mono ?_;rintro e w' ⟨rfl,hg⟩;have HG:Hid (Kp w w' Nul):=Kp.trans (by repeat (first|exact Kp.refl _ _|refine Kp.alloc ?_ _|refine Kp.drew ?_)) (Kp.of_gr hg);clear hg)
    go_ret
    exact ⟨rBool (by rw [hV.out] <;> simp [Hhn.out]),by first|exact HG.out|(repeat (first|exact Kp.refl _ _|refine Kp.alloc ?_ _|refine Kp.drew ?_))⟩
 ·
  by_cases hn:n=0
  ·
   subst hn
   go_enter Tryz.func207,Tryz.ntmps207
   go_wp2_with fail
   go_region_with (go_at_call 221;refine (HP.out _).mono ?_;rintro e w' ⟨rfl,rfl⟩)
   all_goals
    go_wp2_with (go_at_call 177;refine (HS.out _).mono ?_;rintro e w' ⟨rfl,hg⟩;have HG:Hid (Kp w w' Nul):=Kp.trans (by repeat (first|exact Kp.refl _ _|refine Kp.alloc ?_ _|refine Kp.drew ?_)) (Kp.of_gr hg);clear hg)
    go_ret
    exact ⟨rBool (by rw [hV.out] <;> simp []),by first|exact HG.out|(repeat (first|exact Kp.refl _ _|refine Kp.alloc ?_ _|refine Kp.drew ?_))⟩
  ·
   have Hhn:Hid ((n == 0)=false):=by show _=_;simp [hn]
   go_enter Tryz.func207,Tryz.ntmps207
   go_wp2_with fail
   go_region_with (go_at_call 221;refine (HP.out _).mono ?_;rintro e w' ⟨rfl,rfl⟩)
   all_goals
    go_wp2_with (go_at_call 177;refine (HS.out _).mono ?_;rintro e w' ⟨rfl,hg⟩;have HG:Hid (Kp w w' Nul):=Kp.trans (by repeat (first|exact Kp.refl _ _|refine Kp.alloc ?_ _|refine Kp.drew ?_)) (Kp.of_gr hg);clear hg)
    go_ret
    exact ⟨rBool (by rw [hV.out] <;> simp [Hhn.out]),by first|exact HG.out|(repeat (first|exact Kp.refl _ _|refine Kp.alloc ?_ _|refine Kp.drew ?_))⟩
def wds (cur:List UInt8):List UInt8→List (List UInt8)
 | []=>[cur]
 | c :: cs=>if c=32 then cur :: wds [] cs else wds (cur ++ [c]) cs
def oneB (s:ByteArray) (l:List UInt8):Bool:=decide (s.toList≠[]) && (wds [] l).any (fun x=>x == s.toList)
def oneAt (s:ByteArray) (l:List UInt8) (f i:Nat):Bool:=decide (s.toList≠[]) && (wds ((l.take i).drop f) (l.drop i)).any (fun x=>x == s.toList)
theorem oneAt_end (s:ByteArray) (l:List UInt8) (f:Nat):oneAt s l f l.length=(decide (s.toList≠[]) && ((l.take l.length).drop f == s.toList)):=by
 unfold oneAt
 rw [List.drop_length,wds]
 simp
theorem oneAt_blank {s:ByteArray} {l:List UInt8} {f i:Nat} (h:i < l.length) (hb:l[i]=32):oneAt s l f i=(decide (s.toList≠[]) && ((l.take i).drop f == s.toList) || oneAt s l (i+1) (i+1)):=by
 unfold oneAt
 rw [List.drop_eq_getElem_cons h,wds,if_pos hb]
 have:(l.take (i+1)).drop (i+1)=[]:=by rw [List.drop_eq_nil_iff,List.length_take];omega
 rw [this]
 simp only [List.any_cons]
 cases decide (s.toList≠[]) <;> simp
theorem oneAt_more {s:ByteArray} {l:List UInt8} {f i:Nat} (h:i < l.length) (hf:f≤i) (hb:l[i]≠32):oneAt s l f i=oneAt s l f (i+1):=by
 unfold oneAt
 rw [List.drop_eq_getElem_cons h,wds,if_neg hb]
 have:(l.take (i+1)).drop f=(l.take i).drop f ++ [l[i]]:=by
  rw [List.take_add_one,List.getElem?_eq_getElem h,List.drop_append_of_le_length (by rw [List.length_take];omega)]
  rfl
 rw [this]
theorem one_at (s:ByteArray) (l:List UInt8) (hl:l.length≤1048576) (w:World) :
  Calls Tryz.prog 224 #[.string s,.string ⟨l.toArray⟩] w fun e w'=>e=.returned (.bool (oneB s l))∧w'=w:=by
 have h0:oneB s l=oneAt s l 0 0:=by unfold oneB oneAt;simp
 rw [h0]
 obtain ⟨ANS,hA⟩:∃ A,oneAt s l 0 0=A:=⟨_,rfl⟩
 rw [hA]
 have HA:Hid (oneAt s l 0 0=ANS):=hA
 have hsz:(ByteArray.mk l.toArray).size=l.length:=by simp [ByteArray.size]
 obtain ⟨n,hn⟩:∃ n,l.length=n:=⟨_,rfl⟩
 have HN:Hid (l.length=n):=hn
 have HL:Hid (n≤1048576):=by show _≤_;omega
 have HEX:Hid (∀ f i:Nat,(ByteArray.mk l.toArray).extract f i=⟨((l.take i).drop f).toArray⟩):=fun f i=>by
  show _=_
  rw [ByteArray.extract_mk]
  congr 1
  apply Array.ext'
  simp [List.drop_take]
 rw [hn] at hsz
 clear hA h0 hl hn
 go_enter Tryz.func224,Tryz.ntmps224
 go_wp2_with fail
 go_loopw [5,6] (fun f i wr=>wr=w∧∃ a b:Nat,f=.int .i64 a∧i=.int .i64 b∧((a≤b∧b≤n∧oneAt s l a b=ANS)∨(b=n+1∧ANS=false))) (fun _ i _=>n+2 - (intOf i).toNat)
 case atStart=>exact ⟨rfl,0,0,rfl,rfl,.inl ⟨Nat.le_refl _,Nat.zero_le _,HA.out⟩⟩
 case round=>
  obtain ⟨rfl,a,b,rfl,rfl,hab⟩:=hrel
  rcases hab with ⟨h1,h2,h3⟩|⟨rfl,h3⟩
  ·have j1:(b:Int)≤(n:Int):=by omega
   have jb:(b:Int)+1≤9223372036854775807:=by have:=HL.out;omega
   have hx:=HEX.out a b
   have ja:(a:Int)≤(b:Int):=by omega
   have tl:(ByteArray.mk ((l.take b).drop a).toArray).toList=(l.take b).drop a:=ByteArray.toList_mk _
   by_cases hbn:b=n
   ·subst hbn
    have HE:Hid (ANS=(decide (s.toList≠[]) && ((l.take b).drop a == s.toList))):=by
     show _=_
     rw [← h3,← HN.out,oneAt_end]
    clear h3 j1 h1 h2 HA
    generalize (l.take b).drop a=X at *
    cases hq:X == s.toList with
    | true=>
     cases hs:s.toList == ([]:List UInt8) with
     | true=>
      have HE2:Hid (ANS=false):=by show _=_;rw [HE.out];simp at hs;simp [hs]
      clear HE
      go_wp2_with fail
      go_roundw
      case rel=>exact ⟨trivial,b+1,b+1,by go_num,by go_num,.inr ⟨rfl,HE2.out⟩⟩
      case measure=>simp only [intOf];omega
     | false=>
      have HE2:Hid (ANS=true):=by show _=_;rw [HE.out,hq];simp at hs;simp [hs]
      clear HE
      go_wp21
      go_ret
      exact ⟨rBool HE2.out.symm,rfl⟩
    | false=>
     have HE2:Hid (ANS=false):=by show _=_;rw [HE.out,hq];simp
     clear HE
     go_wp2_with fail
     go_roundw
     case rel=>exact ⟨trivial,b+1,b+1,by go_num,by go_num,.inr ⟨rfl,HE2.out⟩⟩
     case measure=>simp only [intOf];omega
   ·have hlt:b < n:=by omega
    have hll:b < l.length:=by rw [HN.out];exact hlt
    have hbsz:b < (ByteArray.mk l.toArray).size:=by rw [hsz];exact hlt
    have hgt:(ByteArray.mk l.toArray)[b]'hbsz=l[b]:=rfl
    have jbn:((b:Int) == (n:Int))=false:=by simp;omega
    have jb2:(b:Int) < (n:Int):=by omega
    have jb0:(0:Int)≤(b:Int):=by omega
    by_cases h32:l[b]=32
    ·have HE:Hid (ANS=(decide (s.toList≠[]) && ((l.take b).drop a == s.toList) || oneAt s l (b+1) (b+1))):=by
      show _=_
      rw [← h3,oneAt_blank hll h32]
     have h32n:(l[b]).toNat=32:=by rw [h32];rfl
     clear h3 h1 h2 HA h32
     generalize l[b]=ch at *
     have h32j:((ch.toNat:Nat):Int)=32:=by omega
     clear h32n
     generalize (l.take b).drop a=X at *
     generalize hO:oneAt s l (b+1) (b+1)=O at *
     cases hq:X == s.toList with
     | true=>
      cases hs:s.toList == ([]:List UInt8) with
      | true=>
       have HE2:Hid (O=ANS):=by show _=_;rw [HE.out];simp at hs;simp [hs]
       have HO:Hid (oneAt s l (b+1) (b+1)=O):=hO
       clear HE hO
       go_wp2_with fail
       go_roundw
       case rel=>exact ⟨trivial,b+1,b+1,by go_num,by go_num,.inl ⟨Nat.le_refl _,by omega,HO.out.trans HE2.out⟩⟩
       case measure=>simp only [intOf];omega
      | false=>
       have HE2:Hid (ANS=true):=by show _=_;rw [HE.out,hq];simp at hs;simp [hs]
       clear HE hO
       go_wp21
       go_ret
       exact ⟨rBool HE2.out.symm,rfl⟩
     | false=>
      have HE2:Hid (O=ANS):=by show _=_;rw [HE.out,hq];simp
      have HO:Hid (oneAt s l (b+1) (b+1)=O):=hO
      clear HE hO
      go_wp2_with fail
      go_roundw
      case rel=>exact ⟨trivial,b+1,b+1,by go_num,by go_num,.inl ⟨Nat.le_refl _,by omega,HO.out.trans HE2.out⟩⟩
      case measure=>simp only [intOf];omega
    ·have HE:Hid (oneAt s l a (b+1)=ANS):=by show _=_;rw [← h3,oneAt_more hll h1 h32]
     have h32n:¬ (l[b]).toNat=32:=fun e=>h32 (by rw [← UInt8.toNat_inj];exact e)
     generalize l[b]=ch at *
     have h32i:(((ch.toNat:Nat):Int) == 32)=false:=by simp;omega
     have h32j:¬ ((ch.toNat:Nat):Int)=32:=by omega
     clear h3 HA
     go_wp2_with fail
     go_roundw
     case rel=>exact ⟨trivial,a,b+1,rfl,by go_num,.inl ⟨by omega,by omega,HE.out⟩⟩
     case measure=>simp only [intOf];omega
  ·have j1:¬ ((n+1:Nat):Int)≤(n:Int):=by omega
   have H3:Hid (ANS=false):=h3
   clear h3
   go_wp2_with fail
   go_ret
   exact ⟨rBool H3.out.symm,rfl⟩
theorem isAny_eq (s:ByteArray) (l:List UInt8) (nm:List ByteArray) (h:wds [] l=nm.map (fun n=>n.data.toList)) (hne:∀ n∈nm,n.data.toList≠[]):oneB s l=isAny s nm:=by
 unfold oneB isAny
 rw [h,List.any_map]
 rw [Bool.eq_iff_iff,Bool.and_eq_true,List.any_eq_true,List.any_eq_true]
 constructor
 ·rintro ⟨_,n,hn,e⟩
  refine ⟨n,hn,?_⟩
  simp only [Function.comp,beq_iff_eq] at e
  rw [beq_iff_eq,Lib.toList_data n,e]
 ·rintro ⟨n,hn,e⟩
  rw [beq_iff_eq,Lib.toList_data n] at e
  refine ⟨?_,n,hn,?_⟩
  ·rw [decide_eq_true_eq,e];exact hne n hn
  ·simp only [Function.comp,beq_iff_eq];exact e.symm
theorem rone_row {s:ByteArray} {l:List UInt8} {nm:List ByteArray} (hl:l.length≤1048576) (h:wds [] l=nm.map (fun n=>n.data.toList)) (hne:∀ n∈nm,n.data.toList≠[]) (w:World) :
  Calls Tryz.prog 224 #[.string s,.string ⟨l.toArray⟩] w fun e w'=>e=.returned (.bool (isAny s nm))∧w'=w:=by
 rw [← isAny_eq s l nm h hne]
 exact one_at s l hl w
theorem rknown_ret {s:ByteArray} {a b:Int} {c:Bool} (h:known s=(a,b,c)):Ending.returned (.tuple #[.int .i64 a,.int .i64 b,.bool c])=.returned (.tuple #[.int .i64 (known s).1,.int .i64 (known s).2.1,.bool (known s).2.2]):=by rw [h]
theorem rknown_at (s:ByteArray) (w:World) :
  Calls Tryz.prog 212 #[.string s] w fun e w'=>e=.returned (.tuple #[.int .i64 (known s).1,.int .i64 (known s).2.1,.bool (known s).2.2])∧w'=w:=by
 have H1:Hid (∀ (l:List UInt8) (nm:List ByteArray),l.length≤1048576→wds [] l=nm.map (fun n=>n.data.toList)→(∀ n∈nm,n.data.toList≠[])→∀ w,Calls Tryz.prog 224 #[.string s,.string ⟨l.toArray⟩] w fun e w'=>e=.returned (.bool (isAny s nm))∧w'=w):=fun l nm h1 h2 h3 w=>rone_row h1 h2 h3 w
 have e0:(s.toList == [78,65])=isAny s nm0:=by unfold isAny nm0;simp
 have e6:(s.toList == [67,72,79,79,83,69])=isAny s nm6:=by unfold isAny nm6;simp
 have HKn:Hid (known s=(if isAny s nm0=true then (0,0,true) else if isAny s nm1=true then (1,1,true) else if isAny s nm2=true then (2,2,true) else if isAny s nm3=true then (2,3,true) else if isAny s nm4=true then (3,3,true) else if isAny s nm5=true then (1,256,true) else if isAny s nm6=true then (2,256,true) else (0,0,false))):=rfl
 go_enter Tryz.func212,Tryz.ntmps212
 cases h0:isAny s nm0 with
 | true=>
  rw [h0] at e0
  have HE:Hid (known s=(0,0,true)):=by show _=_;rw [HKn.out];simp [h0]
  go_wp2_with fail
  refine bodyPost_ret (results_three rfl _ _ _) rfl ?_
  exact ⟨rknown_ret HE.out,rfl⟩
 | false=>
 rw [h0] at e0
 go_wp2_with fail
 refine (H1.out _ nm1 ?a1 ?b1 ?c1 _).mono ?d1
 case a1=>decide
 case b1=>rfl
 case c1=>decide
 rintro e w1 ⟨rfl,hw1⟩
 replace hw1:=hw1.symm
 subst hw1
 cases h1:isAny s nm1 with
 | true=>
  have HE:Hid (known s=(1,1,true)):=by show _=_;rw [HKn.out];simp [h0,h1]
  go_wp2_with fail
  refine bodyPost_ret (results_three rfl _ _ _) rfl ?_
  exact ⟨rknown_ret HE.out,rfl⟩
 | false=>
 go_wp2_with fail
 refine (H1.out _ nm2 ?a2 ?b2 ?c2 _).mono ?d2
 case a2=>decide
 case b2=>rfl
 case c2=>decide
 rintro e w2 ⟨rfl,hw2⟩
 replace hw2:=hw2.symm
 subst hw2
 cases h2:isAny s nm2 with
 | true=>
  have HE:Hid (known s=(2,2,true)):=by show _=_;rw [HKn.out];simp [h0,h1,h2]
  go_wp2_with fail
  refine bodyPost_ret (results_three rfl _ _ _) rfl ?_
  exact ⟨rknown_ret HE.out,rfl⟩
 | false=>
 go_wp2_with fail
 refine (H1.out _ nm3 ?a3 ?b3 ?c3 _).mono ?d3
 case a3=>decide
 case b3=>rfl
 case c3=>decide
 rintro e w3 ⟨rfl,hw3⟩
 replace hw3:=hw3.symm
 subst hw3
 cases h3:isAny s nm3 with
 | true=>
  have HE:Hid (known s=(2,3,true)):=by show _=_;rw [HKn.out];simp [h0,h1,h2,h3]
  go_wp2_with fail
  refine bodyPost_ret (results_three rfl _ _ _) rfl ?_
  exact ⟨rknown_ret HE.out,rfl⟩
 | false=>
 go_wp2_with fail
 refine (H1.out _ nm4 ?a4 ?b4 ?c4 _).mono ?d4
 case a4=>decide
 case b4=>rfl
 case c4=>decide
 rintro e w4 ⟨rfl,hw4⟩
 replace hw4:=hw4.symm
 subst hw4
 cases h4:isAny s nm4 with
 | true=>
  have HE:Hid (known s=(3,3,true)):=by show _=_;rw [HKn.out];simp [h0,h1,h2,h3,h4]
  go_wp2_with fail
  refine bodyPost_ret (results_three rfl _ _ _) rfl ?_
  exact ⟨rknown_ret HE.out,rfl⟩
 | false=>
 go_wp2_with fail
 refine (H1.out _ nm5 ?a5 ?b5 ?c5 _).mono ?d5
 case a5=>decide
 case b5=>rfl
 case c5=>decide
 rintro e w5 ⟨rfl,hw5⟩
 replace hw5:=hw5.symm
 subst hw5
 cases h5:isAny s nm5 with
 | true=>
  have HE:Hid (known s=(1,256,true)):=by show _=_;rw [HKn.out];simp [h0,h1,h2,h3,h4,h5]
  go_wp2_with fail
  refine bodyPost_ret (results_three rfl _ _ _) rfl ?_
  exact ⟨rknown_ret HE.out,rfl⟩
 | false=>
 cases h6:isAny s nm6 with
 | true=>
  rw [h6] at e6
  have HE:Hid (known s=(2,256,true)):=by show _=_;rw [HKn.out];simp [h0,h1,h2,h3,h4,h5,h6]
  go_wp2_with fail
  refine bodyPost_ret (results_three rfl _ _ _) rfl ?_
  exact ⟨rknown_ret HE.out,rfl⟩
 | false=>
 rw [h6] at e6
 have HE:Hid (known s=(0,0,false)):=by show _=_;rw [HKn.out];simp [h0,h1,h2,h3,h4,h5,h6]
 go_wp2_with fail
 refine bodyPost_ret (results_three rfl _ _ _) rfl ?_
 exact ⟨rknown_ret HE.out,rfl⟩
end Go.Proofs.YtnceajanlnnfoaaGreatDoor
namespace Go.Proofs.YtnceajanlnnfoaaGreatDoor
def tb (b:Bool):UInt8:=if b then 1 else 0
def txtB (s:ByteArray):List UInt8:=le 2 s.size ++ s.data.toList
def refB (c r:Nat) (p q:Bool):List UInt8:=le 2 c ++ (le 2 r ++ [UInt8.ofNat ((if p then 1 else 0)+(if q then 2 else 0))])
def fldB (h:Hd) (n:Nat):List UInt8:=
 if h.k=1 then le 8 h.x else if h.k=2 then txtB h.s else if h.k=3 then [tb h.b] else if h.k=4 then [UInt8.ofNat h.f.toNat] else
 if h.k=5 then refB h.c1.toNat h.r1.toNat h.p1 h.q1 else if h.k=6 then refB h.c1.toNat h.r1.toNat h.p1 h.q1 ++ refB h.c2.toNat h.r2.toNat h.p2 h.q2 else
 if h.k=7 then [UInt8.ofNat h.o.toNat] else if h.k=8 then [UInt8.ofNat h.o.toNat] else if h.k=9 then txtB h.s ++ [UInt8.ofNat n] else []
mutual
def ndB:Nd→List UInt8
 | .mk h ts=>UInt8.ofNat h.k.toNat :: (fldB h ts.length ++ ndsB ts)
def ndsB:List Nd→List UInt8
 | []=>[]
 | t :: ts=>ndB t ++ ndsB ts
end
def vlF (v:Vl):List UInt8:=if v.k=1 then le 8 v.x else if v.k=2 then txtB v.s else if v.k=3 then [tb v.b] else if v.k=4 then [UInt8.ofNat v.f.toNat] else []
def vlB (v:Vl):List UInt8:=UInt8.ofNat v.k.toNat :: vlF v
def ctB (c:Ct):List UInt8:=UInt8.ofNat c.k.toNat :: (if c.k=2 then ndB c.t else vlB c.v)
def rNum (n:Nat) (l:List UInt8):Option (Nat×List UInt8):=if n≤l.length then some (unle (l.take n),l.drop n) else none
theorem rNum_iff {n x:Nat} {l l':List UInt8}:rNum n l=some (x,l') ↔ x < 256 ^ n∧l=le n x ++ l':=by
 unfold rNum
 constructor
 ·intro h
  split at h
  ·rename_i hn
   injection h with h
   obtain ⟨h1,h2⟩:=Prod.mk.inj h
   have hl:(l.take n).length=n:=by rw [List.length_take];omega
   have h3:=unle_lt (l.take n)
   rw [hl,h1] at h3
   refine ⟨h3,?_⟩
   rw [← h1,← h2]
   have h4:=le_unle (l.take n)
   rw [hl] at h4
   rw [h4,List.take_append_drop]
  ·cases h
 ·rintro ⟨h1,rfl⟩
  have hl:=le_len n x
  rw [if_pos (by rw [List.length_append];omega)]
  rw [List.take_append_of_le_length (by omega),List.drop_append_of_le_length (by omega),List.take_of_length_le (by omega),List.drop_of_length_le (by omega),unle_le,Nat.mod_eq_of_lt h1,List.nil_append]
def rTxt (l:List UInt8):Option (ByteArray×List UInt8):=(rNum 2 l).bind fun p=>if p.1≤p.2.length then some (⟨(p.2.take p.1).toArray⟩,p.2.drop p.1) else none
theorem rTxt_iff {s:ByteArray} {l l':List UInt8}:rTxt l=some (s,l') ↔ s.size < 65536∧l=txtB s ++ l':=by
 unfold rTxt txtB
 rw [Option.bind_eq_some_iff]
 constructor
 ·rintro ⟨⟨n,m⟩,h1,h2⟩
  obtain ⟨h3,rfl⟩:=rNum_iff.1 h1
  simp only at h2
  split at h2
  ·rename_i hn
   injection h2 with h2
   obtain ⟨rfl,rfl⟩:=Prod.mk.inj h2
   have hs:(ByteArray.mk (m.take n).toArray).size=n:=by
    show (m.take n).toArray.size=n
    rw [List.size_toArray,List.length_take];omega
   rw [hs]
   exact ⟨h3,by rw [List.append_assoc];congr 1;exact (List.take_append_drop n m).symm⟩
  ·cases h2
 ·rintro ⟨h1,rfl⟩
  refine ⟨(s.size,s.data.toList ++ l'),rNum_iff.2 ⟨h1,by rw [List.append_assoc]⟩,?_⟩
  have hl:s.data.toList.length=s.size:=by rw [Array.length_toList];rfl
  simp only
  rw [if_pos (by rw [List.length_append];omega),List.take_append_of_le_length (by omega),List.drop_append_of_le_length (by omega),List.take_of_length_le (by omega),List.drop_of_length_le (by omega),List.nil_append]
def rDbl (l:List UInt8):Option (Nat×List UInt8):=(rNum 8 l).bind fun p=>if one p.1=p.1 then some p else none
theorem rDbl_iff {x:Nat} {l l':List UInt8}:rDbl l=some (x,l') ↔ (x < 18446744073709551616∧one x=x)∧l=le 8 x ++ l':=by
 unfold rDbl
 rw [Option.bind_eq_some_iff]
 constructor
 ·rintro ⟨⟨n,m⟩,h1,h2⟩
  obtain ⟨h3,rfl⟩:=rNum_iff.1 h1
  simp only at h2
  split at h2
  ·rename_i hn
   injection h2 with h2
   obtain ⟨rfl,rfl⟩:=Prod.mk.inj h2
   exact ⟨⟨h3,hn⟩,rfl⟩
  ·cases h2
 ·rintro ⟨⟨h1,h2⟩,rfl⟩
  exact ⟨(x,l'),rNum_iff.2 ⟨h1,rfl⟩,by simp only;rw [if_pos h2]⟩
theorem le1 (n:Nat):le 1 n=[UInt8.ofNat n]:=rfl
def rTr (l:List UInt8):Option (Bool×List UInt8):=(rNum 1 l).bind fun p=>if p.1≤1 then some (decide (p.1=1),p.2) else none
theorem rTr_iff {b:Bool} {l l':List UInt8}:rTr l=some (b,l') ↔ l=[tb b] ++ l':=by
 unfold rTr
 rw [Option.bind_eq_some_iff]
 constructor
 ·rintro ⟨⟨n,m⟩,h1,h2⟩
  obtain ⟨h3,rfl⟩:=rNum_iff.1 h1
  simp only at h2
  split at h2
  ·rename_i hn
   injection h2 with h2
   obtain ⟨rfl,rfl⟩:=Prod.mk.inj h2
   rw [le1]
   match n,hn with
   | 0,_=>rfl
   | 1,_=>rfl
  ·cases h2
 ·rintro rfl
  refine ⟨((tb b).toNat,l'),rNum_iff.2 ⟨by cases b <;> decide,by cases b <;> rfl⟩,?_⟩
  cases b <;> rfl
theorem fix_eq:∀ f,f < 4→UInt8.ofNat f=UInt8.ofNat ((if decide (f % 2=1)=true then 1 else 0)+if decide (f / 2=1)=true then 2 else 0):=by decide
def rRef (l:List UInt8):Option ((Nat×Nat×Bool×Bool)×List UInt8):=(rNum 2 l).bind fun c=>(rNum 2 c.2).bind fun r=>(rNum 1 r.2).bind fun f=>if f.1≤3 then some ((c.1,r.1,decide (f.1 % 2=1),decide (f.1 / 2=1)),f.2) else none
theorem rRef_iff {c r:Nat} {p q:Bool} {l l':List UInt8}:rRef l=some ((c,r,p,q),l') ↔ (c < 65536∧r < 65536)∧l=refB c r p q ++ l':=by
 unfold rRef refB
 rw [Option.bind_eq_some_iff]
 constructor
 ·rintro ⟨⟨c1,m⟩,h1,h2⟩
  obtain ⟨h3,rfl⟩:=rNum_iff.1 h1
  rw [Option.bind_eq_some_iff] at h2
  obtain ⟨⟨r1,m1⟩,h4,h5⟩:=h2
  obtain ⟨h6,h7⟩:=rNum_iff.1 h4
  simp only at h7
  subst h7
  rw [Option.bind_eq_some_iff] at h5
  obtain ⟨⟨f1,m2⟩,h8,h9⟩:=h5
  obtain ⟨_,h10⟩:=rNum_iff.1 h8
  simp only at h10
  subst h10
  simp only at h9
  split at h9
  ·rename_i hn
   injection h9 with h9
   obtain ⟨h11,rfl⟩:=Prod.mk.inj h9
   obtain ⟨rfl,h12⟩:=Prod.mk.inj h11
   obtain ⟨rfl,h13⟩:=Prod.mk.inj h12
   obtain ⟨rfl,rfl⟩:=Prod.mk.inj h13
   refine ⟨⟨h3,h6⟩,?_⟩
   rw [le1,List.append_assoc,List.append_assoc,fix_eq f1 (by omega)]
  ·cases h9
 ·rintro ⟨⟨h1,h2⟩,rfl⟩
  refine ⟨(c,_),rNum_iff.2 ⟨h1,List.append_assoc _ _ _⟩,?_⟩
  rw [Option.bind_eq_some_iff]
  refine ⟨(r,_),rNum_iff.2 ⟨h2,List.append_assoc _ _ _⟩,?_⟩
  rw [Option.bind_eq_some_iff]
  refine ⟨((if p then 1 else 0)+(if q then 2 else 0),l'),rNum_iff.2 ⟨by cases p <;> cases q <;> decide,rfl⟩,?_⟩
  cases p <;> cases q <;> simp
structure Kn (h:Hd) (n:Nat):Prop where
 k:0≤h.k∧h.k < 10
 j:h=wmJ h
 x:h.x < 18446744073709551616∧one h.x=h.x
 s:h.s.size < 65536
 o:0≤h.o∧h.o < 256
 f:0≤h.f∧h.f < 256
 c1:0≤h.c1∧h.c1 < 65536
 r1:0≤h.r1∧h.r1 < 65536
 c2:0≤h.c2∧h.c2 < 65536
 r2:0≤h.r2∧h.r2 < 65536
 n:if h.k=7 then n=1 else if h.k=8 then n=2 else if h.k=9 then n < 256 else n=0
 z:h.k=0→h.s=⟨#[]⟩
def rFld (k:Nat) (l:List UInt8):Option ((Hd×Nat)×List UInt8):=
 if k=0 then some ((zHd,0),l) else
 if k=1 then (rDbl l).map fun p=>(({ zHd with k:=1,x:=p.1 },0),p.2) else
 if k=2 then (rTxt l).map fun p=>(({ zHd with k:=2,s:=p.1 },0),p.2) else
 if k=3 then (rTr l).map fun p=>(({ zHd with k:=3,b:=p.1 },0),p.2) else
 if k=4 then (rNum 1 l).map fun p=>(({ zHd with k:=4,f:=p.1 },0),p.2) else
 if k=5 then (rRef l).map fun p=>(({ zHd with k:=5,c1:=p.1.1,r1:=p.1.2.1,p1:=p.1.2.2.1,q1:=p.1.2.2.2 },0),p.2) else
 if k=6 then (rRef l).bind fun p=>(rRef p.2).map fun q=>(({ zHd with k:=6,c1:=p.1.1,r1:=p.1.2.1,p1:=p.1.2.2.1,q1:=p.1.2.2.2,c2:=q.1.1,r2:=q.1.2.1,p2:=q.1.2.2.1,q2:=q.1.2.2.2 },0),q.2) else
 if k=7 then (rNum 1 l).map fun p=>(({ zHd with k:=7,o:=p.1 },1),p.2) else
 if k=8 then (rNum 1 l).map fun p=>(({ zHd with k:=8,o:=p.1 },2),p.2) else
 if k=9 then (rTxt l).bind fun p=>(rNum 1 p.2).map fun q=>(({ zHd with k:=9,s:=p.1 },q.1),q.2) else none
theorem one_0:one 0=0:=by decide
theorem x_0:(0:Nat) < 18446744073709551616∧one 0=0:=⟨by decide,one_0⟩
theorem z_256:(0:Int)≤0∧(0:Int) < 256:=by decide
theorem z_64k:(0:Int)≤0∧(0:Int) < 65536:=by decide
theorem s_0:(ByteArray.mk #[]).size < 65536:=by decide
theorem rFld_iff {k n:Nat} {h:Hd} {l l':List UInt8}:rFld k l=some ((h,n),l') ↔ (Kn h n∧h.k=k)∧l=fldB h n ++ l':=by
 constructor
 ·intro e
  unfold rFld at e
  by_cases k0:k=0
  ·subst k0
   rw [if_pos rfl] at e
   injection e with e
   obtain ⟨e1,rfl⟩:=Prod.mk.inj e
   obtain ⟨rfl,rfl⟩:=Prod.mk.inj e1
   exact ⟨⟨⟨(by decide:(0:Int)≤0∧(0:Int) < 10),rfl,x_0,s_0,z_256,z_256,z_64k,z_64k,z_64k,z_64k,rfl,fun _=>rfl⟩,rfl⟩,rfl⟩
  rw [if_neg k0] at e
  by_cases k1:k=1
  ·subst k1
   rw [if_pos rfl,Option.map_eq_some_iff] at e
   obtain ⟨⟨x,m⟩,h1,h2⟩:=e
   obtain ⟨h3,rfl⟩:=rDbl_iff.1 h1
   obtain ⟨h4,rfl⟩:=Prod.mk.inj h2
   obtain ⟨rfl,rfl⟩:=Prod.mk.inj h4
   exact ⟨⟨⟨(by decide:(0:Int)≤1∧(1:Int) < 10),rfl,h3,s_0,z_256,z_256,z_64k,z_64k,z_64k,z_64k,rfl,fun q=>absurd q (by decide:¬ (1:Int)=0)⟩,rfl⟩,rfl⟩
  rw [if_neg k1] at e
  by_cases k2:k=2
  ·subst k2
   rw [if_pos rfl,Option.map_eq_some_iff] at e
   obtain ⟨⟨x,m⟩,h1,h2⟩:=e
   obtain ⟨h3,rfl⟩:=rTxt_iff.1 h1
   obtain ⟨h4,rfl⟩:=Prod.mk.inj h2
   obtain ⟨rfl,rfl⟩:=Prod.mk.inj h4
   exact ⟨⟨⟨(by decide:(0:Int)≤2∧(2:Int) < 10),rfl,x_0,h3,z_256,z_256,z_64k,z_64k,z_64k,z_64k,rfl,fun q=>absurd q (by decide:¬ (2:Int)=0)⟩,rfl⟩,rfl⟩
  rw [if_neg k2] at e
  by_cases k3:k=3
  ·subst k3
   rw [if_pos rfl,Option.map_eq_some_iff] at e
   obtain ⟨⟨x,m⟩,h1,h2⟩:=e
   have h3:=rTr_iff.1 h1
   subst h3
   obtain ⟨h4,rfl⟩:=Prod.mk.inj h2
   obtain ⟨rfl,rfl⟩:=Prod.mk.inj h4
   exact ⟨⟨⟨(by decide:(0:Int)≤3∧(3:Int) < 10),rfl,x_0,s_0,z_256,z_256,z_64k,z_64k,z_64k,z_64k,rfl,fun q=>absurd q (by decide:¬ (3:Int)=0)⟩,rfl⟩,rfl⟩
  rw [if_neg k3] at e
  by_cases k4:k=4
  ·subst k4
   rw [if_pos rfl,Option.map_eq_some_iff] at e
   obtain ⟨⟨x,m⟩,h1,h2⟩:=e
   obtain ⟨h3,rfl⟩:=rNum_iff.1 h1
   obtain ⟨h4,rfl⟩:=Prod.mk.inj h2
   obtain ⟨rfl,rfl⟩:=Prod.mk.inj h4
   exact ⟨⟨⟨(by decide:(0:Int)≤4∧(4:Int) < 10),rfl,x_0,s_0,z_256,⟨Int.natCast_nonneg _,by show (x:Int) < 256;omega⟩,z_64k,z_64k,z_64k,z_64k,rfl,fun q=>absurd q (by decide:¬ (4:Int)=0)⟩,rfl⟩,by rw [le1];rfl⟩
  rw [if_neg k4] at e
  by_cases k5:k=5
  ·subst k5
   rw [if_pos rfl,Option.map_eq_some_iff] at e
   obtain ⟨⟨⟨c,r,p,q⟩,m⟩,h1,h2⟩:=e
   obtain ⟨⟨h3,h3'⟩,rfl⟩:=rRef_iff.1 h1
   obtain ⟨h4,rfl⟩:=Prod.mk.inj h2
   obtain ⟨rfl,rfl⟩:=Prod.mk.inj h4
   exact ⟨⟨⟨(by decide:(0:Int)≤5∧(5:Int) < 10),rfl,x_0,s_0,z_256,z_256,⟨Int.natCast_nonneg _,by show (c:Int) < 65536;omega⟩,⟨Int.natCast_nonneg _,by show (r:Int) < 65536;omega⟩,z_64k,z_64k,rfl,fun q=>absurd q (by decide:¬ (5:Int)=0)⟩,rfl⟩,rfl⟩
  rw [if_neg k5] at e
  by_cases k6:k=6
  ·subst k6
   rw [if_pos rfl,Option.bind_eq_some_iff] at e
   obtain ⟨⟨⟨c,r,p,q⟩,m⟩,h1,h2⟩:=e
   obtain ⟨⟨h3,h3'⟩,rfl⟩:=rRef_iff.1 h1
   rw [Option.map_eq_some_iff] at h2
   obtain ⟨⟨⟨c',r',p',q'⟩,m'⟩,h5,h2⟩:=h2
   obtain ⟨⟨h6,h6'⟩,h7⟩:=rRef_iff.1 h5
   simp only at h7
   subst h7
   obtain ⟨h4,rfl⟩:=Prod.mk.inj h2
   obtain ⟨rfl,rfl⟩:=Prod.mk.inj h4
   exact ⟨⟨⟨(by decide:(0:Int)≤6∧(6:Int) < 10),rfl,x_0,s_0,z_256,z_256,⟨Int.natCast_nonneg _,by show (c:Int) < 65536;omega⟩,⟨Int.natCast_nonneg _,by show (r:Int) < 65536;omega⟩,⟨Int.natCast_nonneg _,by show (c':Int) < 65536;omega⟩,⟨Int.natCast_nonneg _,by show (r':Int) < 65536;omega⟩,rfl,fun q=>absurd q (by decide:¬ (6:Int)=0)⟩,rfl⟩,by rw [← List.append_assoc];rfl⟩
  rw [if_neg k6] at e
  by_cases k7:k=7
  ·subst k7
   rw [if_pos rfl,Option.map_eq_some_iff] at e
   obtain ⟨⟨x,m⟩,h1,h2⟩:=e
   obtain ⟨h3,rfl⟩:=rNum_iff.1 h1
   obtain ⟨h4,rfl⟩:=Prod.mk.inj h2
   obtain ⟨rfl,rfl⟩:=Prod.mk.inj h4
   exact ⟨⟨⟨(by decide:(0:Int)≤7∧(7:Int) < 10),rfl,x_0,s_0,⟨Int.natCast_nonneg _,by show (x:Int) < 256;omega⟩,z_256,z_64k,z_64k,z_64k,z_64k,rfl,fun q=>absurd q (by decide:¬ (7:Int)=0)⟩,rfl⟩,by rw [le1];rfl⟩
  rw [if_neg k7] at e
  by_cases k8:k=8
  ·subst k8
   rw [if_pos rfl,Option.map_eq_some_iff] at e
   obtain ⟨⟨x,m⟩,h1,h2⟩:=e
   obtain ⟨h3,rfl⟩:=rNum_iff.1 h1
   obtain ⟨h4,rfl⟩:=Prod.mk.inj h2
   obtain ⟨rfl,rfl⟩:=Prod.mk.inj h4
   exact ⟨⟨⟨(by decide:(0:Int)≤8∧(8:Int) < 10),rfl,x_0,s_0,⟨Int.natCast_nonneg _,by show (x:Int) < 256;omega⟩,z_256,z_64k,z_64k,z_64k,z_64k,rfl,fun q=>absurd q (by decide:¬ (8:Int)=0)⟩,rfl⟩,by rw [le1];rfl⟩
  rw [if_neg k8] at e
  by_cases k9:k=9
  ·subst k9
   rw [if_pos rfl,Option.bind_eq_some_iff] at e
   obtain ⟨⟨x,m⟩,h1,h2⟩:=e
   obtain ⟨h3,rfl⟩:=rTxt_iff.1 h1
   rw [Option.map_eq_some_iff] at h2
   obtain ⟨⟨y,m'⟩,h5,h2⟩:=h2
   obtain ⟨h6,h7⟩:=rNum_iff.1 h5
   simp only at h7
   subst h7
   obtain ⟨h4,rfl⟩:=Prod.mk.inj h2
   obtain ⟨rfl,rfl⟩:=Prod.mk.inj h4
   exact ⟨⟨⟨(by decide:(0:Int)≤9∧(9:Int) < 10),rfl,x_0,h3,z_256,z_256,z_64k,z_64k,z_64k,z_64k,(by show y < 256;omega),fun q=>absurd q (by decide:¬ (9:Int)=0)⟩,rfl⟩,by rw [← List.append_assoc];rfl⟩
  rw [if_neg k9] at e
  cases e
 ·rintro ⟨⟨hc,hk⟩,rfl⟩
  obtain ⟨b1,b2⟩:=hc.k
  have hj:=hc.j
  have hn:=hc.n
  have hk':h.k.toNat=k:=by omega
  have cases10:h.k=0∨h.k=1∨h.k=2∨h.k=3∨h.k=4∨h.k=5∨h.k=6∨h.k=7∨h.k=8∨h.k=9:=by omega
  obtain ⟨_,hx⟩:=hc.x
  have hs:=hc.s
  obtain ⟨o0,o1⟩:=hc.o
  obtain ⟨f0,f1⟩:=hc.f
  obtain ⟨c0,c1⟩:=hc.c1
  obtain ⟨r0,r1⟩:=hc.r1
  obtain ⟨d0,d1⟩:=hc.c2
  obtain ⟨s0,s1⟩:=hc.r2
  unfold rFld fldB
  unfold wmJ at hj
  rcases cases10 with q|q|q|q|q|q|q|q|q|q
  ·obtain rfl:k=0:=by omega
   simp only [q] at hj hn ⊢
   simp only [if_pos] at hn ⊢
   have hz:=hc.z q
   simp only [Int.reduceEq,if_false] at hj hn ⊢
   subst hn
   rw [hz] at hj
   rw [hj]
   rfl
  ·obtain rfl:k=1:=by omega
   simp only [q] at hj hn ⊢
   simp only [Int.reduceEq,Nat.reduceEqDiff,if_false,if_true,Nat.one_ne_zero] at hj hn ⊢
   subst hn
   rw [(rDbl_iff (x:=h.x) (l':=l')).2 ⟨hc.x,rfl⟩,Option.map_some]
   simp only
   rw [← hj]
  ·obtain rfl:k=2:=by omega
   simp only [q] at hj hn ⊢
   simp only [Int.reduceEq,Nat.reduceEqDiff,if_false,if_true] at hj hn ⊢
   subst hn
   rw [(rTxt_iff (s:=h.s) (l':=l')).2 ⟨hs,rfl⟩]
   simp only [Option.map_some]
   rw [← hj]
  ·obtain rfl:k=3:=by omega
   simp only [q] at hj hn ⊢
   simp only [Int.reduceEq,Nat.reduceEqDiff,if_false,if_true] at hj hn ⊢
   subst hn
   rw [(rTr_iff (b:=h.b) (l':=l')).2 rfl]
   simp only [Option.map_some]
   rw [← hj]
  ·obtain rfl:k=4:=by omega
   simp only [q] at hj hn ⊢
   simp only [Int.reduceEq,Nat.reduceEqDiff,if_false,if_true] at hj hn ⊢
   subst hn
   rw [← le1,(rNum_iff (n:=1) (x:=h.f.toNat) (l':=l')).2 ⟨by omega,rfl⟩]
   simp only [Option.map_some,Int.toNat_of_nonneg f0]
   rw [← hj]
  ·obtain rfl:k=5:=by omega
   simp only [q] at hj hn ⊢
   simp only [Int.reduceEq,Nat.reduceEqDiff,if_false,if_true] at hj hn ⊢
   subst hn
   rw [(rRef_iff (c:=h.c1.toNat) (r:=h.r1.toNat) (p:=h.p1) (q:=h.q1) (l':=l')).2 ⟨⟨by omega,by omega⟩,rfl⟩]
   simp only [Option.map_some,Int.toNat_of_nonneg c0,Int.toNat_of_nonneg r0]
   rw [← hj]
  ·obtain rfl:k=6:=by omega
   simp only [q] at hj hn ⊢
   simp only [Int.reduceEq,Nat.reduceEqDiff,if_false,if_true] at hj hn ⊢
   subst hn
   rw [(rRef_iff (c:=h.c1.toNat) (r:=h.r1.toNat) (p:=h.p1) (q:=h.q1)).2 ⟨⟨by omega,by omega⟩,List.append_assoc _ _ _⟩,Option.bind_some]
   simp only
   rw [(rRef_iff (c:=h.c2.toNat) (r:=h.r2.toNat) (p:=h.p2) (q:=h.q2) (l':=l')).2 ⟨⟨by omega,by omega⟩,rfl⟩]
   simp only [Option.map_some,Int.toNat_of_nonneg c0,Int.toNat_of_nonneg r0,Int.toNat_of_nonneg d0,Int.toNat_of_nonneg s0]
   rw [← hj]
  ·obtain rfl:k=7:=by omega
   simp only [q] at hj hn ⊢
   simp only [Int.reduceEq,Nat.reduceEqDiff,if_false,if_true] at hj hn ⊢
   subst hn
   rw [← le1,(rNum_iff (n:=1) (x:=h.o.toNat) (l':=l')).2 ⟨by omega,rfl⟩]
   simp only [Option.map_some,Int.toNat_of_nonneg o0]
   rw [← hj]
  ·obtain rfl:k=8:=by omega
   simp only [q] at hj hn ⊢
   simp only [Int.reduceEq,Nat.reduceEqDiff,if_false,if_true] at hj hn ⊢
   subst hn
   rw [← le1,(rNum_iff (n:=1) (x:=h.o.toNat) (l':=l')).2 ⟨by omega,rfl⟩]
   simp only [Option.map_some,Int.toNat_of_nonneg o0]
   rw [← hj]
  ·obtain rfl:k=9:=by omega
   simp only [q] at hj hn ⊢
   simp only [Int.reduceEq,Nat.reduceEqDiff,if_false,if_true] at hj hn ⊢
   rw [(rTxt_iff (s:=h.s)).2 ⟨hs,List.append_assoc _ _ _⟩,Option.bind_some]
   simp only
   rw [← le1,(rNum_iff (n:=1) (x:=n) (l':=l')).2 ⟨by omega,rfl⟩]
   simp only [Option.map_some]
   rw [← hj]
def rMany (R:Nat→List UInt8→Option (Nd×Nat×List UInt8)):Nat→Nat→List UInt8→Option (List Nd×Nat×List UInt8)
 | 0,f,l=>some ([],f,l)
 | c+1,f,l=>(R f l).bind fun p=>(rMany R c p.2.1 p.2.2).map fun q=>(p.1 :: q.1,q.2.1,q.2.2)
def rNd:Nat→Nat→List UInt8→Option (Nd×Nat×List UInt8)
 | 0,_,_=>none
 | d+1,f,l=>if f=0 then none else (rNum 1 l).bind fun p=>(rFld p.1 p.2).bind fun q=>(rMany (rNd d) q.1.2 (f - 1) q.2).map fun r=>(.mk q.1.1 r.1,r.2.1,r.2.2)
mutual
def KnN:Nd→Prop
 | .mk h ts=>Kn h ts.length∧KnL ts
def KnL:List Nd→Prop
 | []=>True
 | t :: ts=>KnN t∧KnL ts
end
theorem rMany_iff {R:Nat→List UInt8→Option (Nd×Nat×List UInt8)} {d:Nat} (hR:∀ {f f' l l' t},f≤d→(R f l=some (t,f',l') ↔ KnN t∧t.size+f'=f∧l=ndB t ++ l')) :
  ∀ (c:Nat) {f f':Nat} {l l':List UInt8} {ts:List Nd},f≤d→(rMany R c f l=some (ts,f',l') ↔ ts.length=c∧KnL ts∧sizeL ts+f'=f∧l=ndsB ts ++ l')
 | 0,f,f',l,l',ts,_=>by
  rw [rMany]
  constructor
  ·intro e
   injection e with e
   obtain ⟨rfl,e2⟩:=Prod.mk.inj e
   obtain ⟨rfl,rfl⟩:=Prod.mk.inj e2
   refine ⟨rfl,?_,?_,?_⟩
   ·rw [KnL];trivial
   ·rw [sizeL,Nat.zero_add]
   ·rw [ndsB,List.nil_append]
  ·rintro ⟨h1,_,h3,h4⟩
   obtain rfl:=List.length_eq_zero_iff.1 h1
   rw [sizeL,Nat.zero_add] at h3
   rw [ndsB,List.nil_append] at h4
   rw [h3,h4]
 | c+1,f,f',l,l',ts,hf=>by
  rw [rMany,Option.bind_eq_some_iff]
  constructor
  ·rintro ⟨⟨t,f1,l1⟩,h1,h2⟩
   obtain ⟨a1,a2,rfl⟩:=(hR hf).1 h1
   rw [Option.map_eq_some_iff] at h2
   obtain ⟨⟨us,f2,l2⟩,h3,h4⟩:=h2
   have hf1:f1≤d:=by omega
   obtain ⟨b1,b2,b3,b4⟩:=(rMany_iff hR c hf1).1 h3
   obtain ⟨rfl,h5⟩:=Prod.mk.inj h4
   obtain ⟨rfl,rfl⟩:=Prod.mk.inj h5
   simp only at b4
   subst b4
   refine ⟨by rw [List.length_cons,b1],?_,?_,?_⟩
   ·rw [KnL];exact ⟨a1,b2⟩
   ·rw [sizeL];show t.size+sizeL us+f2=f;omega
   ·rw [ndsB,List.append_assoc]
  ·rintro ⟨h1,h2,h3,rfl⟩
   cases ts with
   | nil=>simp at h1
   | cons t ts=>
    rw [KnL] at h2
    rw [sizeL] at h3
    rw [ndsB]
    refine ⟨(t,f - t.size,ndsB ts ++ l'),(hR hf).2 ⟨h2.1,by omega,List.append_assoc _ _ _⟩,?_⟩
    rw [Option.map_eq_some_iff]
    have hf1:f - t.size≤d:=by omega
    exact ⟨(ts,f',l'),(rMany_iff hR c hf1).2 ⟨by simpa using h1,h2.2,by omega,rfl⟩,rfl⟩
theorem rNd_iff:∀ (d:Nat) {f f':Nat} {l l':List UInt8} {t:Nd},f≤d→(rNd d f l=some (t,f',l') ↔ KnN t∧t.size+f'=f∧l=ndB t ++ l')
 | 0,f,f',l,l',t,hf=>by
  rw [rNd]
  refine ⟨fun e=>by (cases e),fun h=>?_⟩
  have:=size_pos t
  omega
 | d+1,f,f',l,l',t,hf=>by
  rw [rNd]
  by_cases h0:f=0
  ·rw [if_pos h0]
   refine ⟨fun e=>by (cases e),fun h=>?_⟩
   have:=size_pos t
   omega
  rw [if_neg h0,Option.bind_eq_some_iff]
  constructor
  ·rintro ⟨⟨k,l1⟩,h1,h2⟩
   obtain ⟨h3,rfl⟩:=rNum_iff.1 h1
   rw [Option.bind_eq_some_iff] at h2
   obtain ⟨⟨⟨h,n⟩,l2⟩,h4,h5⟩:=h2
   obtain ⟨⟨h6,h7⟩,h8⟩:=rFld_iff.1 h4
   simp only at h7 h8
   subst h8
   rw [Option.map_eq_some_iff] at h5
   obtain ⟨⟨ts,f1,l3⟩,h9,h10⟩:=h5
   have hf1:f - 1≤d:=by omega
   obtain ⟨b1,b2,b3,b4⟩:=(rMany_iff (fun {f f' l l' t} hf=>rNd_iff d hf) n hf1).1 h9
   simp only at b4
   subst b4
   obtain ⟨rfl,h11⟩:=Prod.mk.inj h10
   obtain ⟨rfl,rfl⟩:=Prod.mk.inj h11
   refine ⟨?_,?_,?_⟩
   ·rw [KnN,b1];exact ⟨h6,b2⟩
   ·rw [Nd.size];show 1+sizeL ts+f1=f;omega
   ·have e:h.k.toNat=k:=by omega
    rw [ndB,b1,e,le1]
    simp only [List.cons_append,List.nil_append,List.append_assoc]
  ·rintro ⟨h1,h2,rfl⟩
   obtain ⟨h,ts⟩:=t
   rw [KnN] at h1
   rw [Nd.size] at h2
   obtain ⟨hc,hts⟩:=h1
   obtain ⟨k0,k1⟩:=hc.k
   refine ⟨(h.k.toNat,fldB h ts.length ++ (ndsB ts ++ l')),rNum_iff.2 ⟨by omega,by rw [ndB,le1];simp only [List.cons_append,List.nil_append,List.append_assoc]⟩,?_⟩
   rw [Option.bind_eq_some_iff]
   refine ⟨((h,ts.length),ndsB ts ++ l'),rFld_iff.2 ⟨⟨hc,by simp only;omega⟩,rfl⟩,?_⟩
   rw [Option.map_eq_some_iff]
   have hf1:f - 1≤d:=by omega
   exact ⟨(ts,f',l'),(rMany_iff (fun {f f' l l' t} hf=>rNd_iff d hf) ts.length hf1).2 ⟨rfl,hts,by omega,rfl⟩,rfl⟩
end Go.Proofs.YtnceajanlnnfoaaGreatDoor
