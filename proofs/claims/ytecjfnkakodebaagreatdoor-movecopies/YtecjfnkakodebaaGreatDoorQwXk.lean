/-A world in which, of what lay, blocks of S alone may have turned. -/
import Derived.Test.YtecjfnkakodebaaGreatDoorQwGb
import Derived.Maps.OwnSet
import Derived.Deep.RegionHeld3
import Derived.ArgAppend
namespace Go.Proofs.YtecjfnkakodebaaGreatDoor
open Go.RowKit Go.Maps
@[go_sem] theorem run_store_float (P:Program) (w:World) (a:Addr) (m:Mode) (k:FloatKind) (b:Nat):(store a (.float k b) m).run P w=stored P w a (.float k b) m:=run_store P w a _ m rfl
structure Kp (w w':World) (S:Nat->Prop):Prop where
 os:w'.os=w.os
 tape:w'.tape=w.tape
 output:w'.output=w.output
 size:w.heap.size<=w'.heap.size
 block:∀i,i<w.heap.size->¬S i->w'.heap[i]? = w.heap[i]?
def Nul:Nat->Prop:=fun _=>False
namespace Kp
theorem refl (w:World) (S:Nat->Prop):Kp w w S:=⟨rfl,rfl,rfl,Nat.le_refl _,fun _ _ _=>rfl⟩
theorem trans {w w1 w2:World} {S:Nat->Prop} (h:Kp w w1 S) (g:Kp w1 w2 S):Kp w w2 S:=
 ⟨g.os.trans h.os,g.tape.trans h.tape,g.output.trans h.output,Nat.le_trans h.size g.size,fun i hi hs=>(g.block i (Nat.lt_of_lt_of_le hi h.size) hs).trans (h.block i hi hs)⟩
theorem trans' {w w1 w2:World} {S T:Nat->Prop} (h:Kp w w1 S) (g:Kp w1 w2 T) (hT:∀i,i<w.heap.size->T i->S i):Kp w w2 S:=
 ⟨g.os.trans h.os,g.tape.trans h.tape,g.output.trans h.output,Nat.le_trans h.size g.size,fun i hi hs=>(g.block i (Nat.lt_of_lt_of_le hi h.size) (fun t=>hs (hT i hi t))).trans (h.block i hi hs)⟩
theorem mono {w w':World} {S T:Nat->Prop} (h:Kp w w' S) (hT:∀i,i<w.heap.size->S i->T i):Kp w w' T:=
 ⟨h.os,h.tape,h.output,h.size,fun i hi hs=>h.block i hi (fun s=>hs (hT i hi s))⟩
theorem of_nul {w w':World} {S:Nat->Prop} (h:Kp w w' Nul):Kp w w' S:=h.mono fun _ _ s=>s.elim
theorem of_gr {w w':World} {S:Nat->Prop} (h:Gr w w'):Kp w w' S:=⟨h.ext.os,h.ext.tape,h.ext.output,h.ext.size,fun i hi _=>h.ext.block i hi⟩
theorem of_below {w w':World} {S:Nat->Prop} (h:Below w.heap.size w w'):Kp w w' S:=⟨h.os,h.tape,h.output,h.size,fun i hi _=>h.block i hi⟩
theorem below {w w':World} (h:Kp w w' Nul):Below w.heap.size w w':=⟨h.os,h.tape,h.output,h.size,fun i hi=>h.block i hi (fun s=>s)⟩
theorem of_grown {w w':World} {S:Nat->Prop} {row:Option Nat} (h:w.grownBy w' row) (hr:∀i,row=some i->S i):Kp w w' S:=
 ⟨h.os,h.tape,h.output,h.size,fun i hi hs=>h.block i hi (fun e=>hs (hr i e.symm))⟩
theorem drew {w w1:World} {S:Nat->Prop} (h:Kp w w1 S):Kp w w1.drew S:=⟨h.os,h.tape,h.output,h.size,h.block⟩
theorem drewN {w w1:World} {S:Nat->Prop} (h:Kp w w1 S) (n:Nat):Kp w (w1.drewN n) S:=⟨h.os,h.tape,h.output,h.size,h.block⟩
theorem alloc {w w1:World} {S:Nat->Prop} (h:Kp w w1 S) (o:Obj):Kp w (w1.alloc o) S:=by
 refine⟨h.os,h.tape,h.output,?_,fun i hi hs=>?_⟩
 ·show w.heap.size<=(w1.heap.push o).size
  rw[Array.size_push];exact Nat.le_succ_of_le h.size
 ·show (w1.heap.push o)[i]? = _
  rw[Array.getElem?_push,if_neg (Nat.ne_of_lt (Nat.lt_of_lt_of_le hi h.size))]
  exact h.block i hi hs
theorem setCell {w w1:World} {S:Nat->Prop} (h:Kp w w1 S) (a:Addr) (v:Value) (ha:w.heap.size<=a.block∨S a.block):Kp w (w1.setCell a v) S:=by
 have q:=(Below.refl 0 w1).setCell (p:=a) (Nat.zero_le _) v
 refine⟨q.os.trans h.os,q.tape.trans h.tape,q.output.trans h.output,Nat.le_trans h.size q.size,fun i hi hs=>?_⟩
 rw[heap_setCell_other w1 a i v (fun e=>by rcases ha with ha|ha;omega;exact hs (e ▸ ha))]
 exact h.block i hi hs
end Kp
theorem NdIn.kp {w w':World} {F S:Nat->Prop} {sl:Value} {t:Nd} (h:NdIn w F sl t) (g:Kp w w' S) (hd:∀b,F b->¬S b):NdIn w' F sl t:=
 h.mono fun b hb hlt=>⟨g.block b hlt (hd b hb),hb⟩
theorem NdIn.kpn {w w':World} {F:Nat->Prop} {sl:Value} {t:Nd} (h:NdIn w F sl t) (g:Kp w w' Nul):NdIn w' F sl t:=h.kp g fun _ _ s=>s
def setAll (z:Array Value) (o:Nat):List Value->Array Value
 | []=>z
 | v::vs=>setAll (z.setIfInBounds o v) (o+1) vs
theorem setAll_size:∀(vs:List Value) (z:Array Value) (o:Nat),(setAll z o vs).size=z.size
 | [],_,_=>rfl
 | v::vs,z,o=>by rw[setAll,setAll_size vs];simp
theorem setAll_get:∀(vs:List Value) (z:Array Value) (o i:Nat),o+vs.length<=z.size->(setAll z o vs)[i]? = if o<=i/\i<o+vs.length then vs[i-o]? else z[i]?
 | [],z,o,i,_=>by rw[setAll,if_neg (by simp)]
 | v::vs,z,o,i,h=>by
  simp only[List.length_cons] at h ⊢
  rw[setAll,setAll_get vs _ (o+1) i (by simp;omega)]
  by_cases h1:o+1<=i/\i<o+1+vs.length
  ·rw[if_pos h1,if_pos (by omega),show i-o=(i-(o+1))+1 by omega];simp
  ·rw[if_neg h1]
   by_cases h2:i=o
   ·subst h2
    rw[if_pos (by omega),Nat.sub_self,Array.getElem?_setIfInBounds_self_of_lt (by omega)];simp
   ·rw[if_neg (by omega),Array.getElem?_setIfInBounds_ne (by omega)]
theorem setAll_all (z cs:Array Value) (h:z.size=cs.size):setAll z 0 cs.toList=cs:=by
 apply Array.ext_getElem?
 intro i
 rw[setAll_get _ _ _ _ (by simp;omega)]
 by_cases hi:i<cs.size
 ·rw[if_pos (by simp;exact hi)];simp
 ·rw[if_neg (by simp;omega)]
  rw[Array.getElem?_eq_none (by omega),Array.getElem?_eq_none (by omega)]
theorem setCells_alloc (w:World) (t:TypeId):∀(vs:List Value) (z:Array Value) (o:Nat),(w.alloc (.cells z t)).setCells w.heap.size o vs=w.alloc (.cells (setAll z o vs) t)
 | [],_,_=>rfl
 | v::vs,z,o=>by
  rw[World.setCells,World.setCell_alloc_new,setAll]
  exact setCells_alloc w t vs _ _
theorem setCells_new (w:World) (t:TypeId) (z cs:Array Value) (h:z.size=cs.size):(w.alloc (.cells z t)).setCells w.heap.size 0 cs.toList=w.alloc (.cells cs t):=by
 rw[setCells_alloc,setAll_all z cs h]
theorem wpList_store_new {P:Program} {ops:Array Oper} {rest:List Oper} {op:Oper} {a:Act} {Q:Exit->Act->World->Prop} (hgd:op.guard=none) (ty:TypeId) (x y:Operand) (ho:op.op=.store ty x y)
  (w:World) (z cells:Array Value) (t:TypeId) (N:Nat) (hN:N=w.heap.size) (hx:a.eval x=.pointer (some ⟨N,0,none⟩)) (hy:a.eval y=.agg cells)
  (hz:z.size=cells.size) (hi:(P.info? ty).map (·.size)=some cells.size) (h1:cells.all (·.oneCell')=true)
  (h:wpList P ops Q rest (a.put op.dst undef) (w.alloc (.cells cells t))):wpList P ops Q (op::rest) a (w.alloc (.cells z t)):=by
 subst hN
 refine wpList_store_mid hgd ty x y ho w.heap.size 0 cells hx hy ?_ hi h1 ?_
 ·intro j hj
  constructor
  ·rw[World.cell?_alloc_at _ _ _ _ rfl,Array.getElem?_eq_getElem (by omega)];rfl
  ·rw[frozen?_alloc_cells,frozen_new]
 ·rw[setCells_new w t z cells hz];exact h
theorem heap_setCells_at {b:Nat} {t:TypeId}:∀(vs:List Value) (o:Nat) (w:World) (z:Array Value),w.heap[b]? = some (.cells z t (0,0))->(w.setCells b o vs).heap[b]? = some (.cells (setAll z o vs) t (0,0))
 | [],_,_,_,h=>h
 | v::vs,o,w,z,h=>by
  rw[World.setCells,setAll]
  exact heap_setCells_at vs (o+1) _ _ (heap_setCell_same w b o z t v h)
theorem heap_setCells_whole {b:Nat} {t:TypeId} {w:World} {z cs:Array Value} (h:w.heap[b]? = some (.cells z t (0,0))) (hz:z.size=cs.size):(w.setCells b 0 cs.toList).heap[b]? = some (.cells cs t (0,0)):=by
 rw[heap_setCells_at _ _ _ _ h,setAll_all z cs hz]
theorem heap_setCells_ne {b i:Nat} (hi:i≠b):∀(vs:List Value) (o:Nat) (w:World),(w.setCells b o vs).heap[i]? = w.heap[i]?
 | [],_,_=>rfl
 | v::vs,o,w=>by
  rw[World.setCells,heap_setCells_ne hi vs,heap_setCell_other w _ i v hi]
theorem setCells_kp {b:Nat} (S:Nat->Prop) (hS:S b):∀(vs:List Value) (o:Nat) (w:World),Kp w (w.setCells b o vs) S
 | [],_,w=>Kp.refl w S
 | v::vs,o,w=>by
  rw[World.setCells]
  exact(((Kp.refl w S).setCell ⟨b,o,none⟩ v (.inr hS))).trans (setCells_kp S hS vs (o+1) _)
theorem size_setCells {b:Nat}:∀(vs:List Value) (o:Nat) (w:World),(w.setCells b o vs).heap.size=w.heap.size
 | [],_,_=>rfl
 | v::vs,o,w=>by
  rw[World.setCells,size_setCells vs]
  show (w.heap.modify _ _).size=_
  simp
theorem setCells_below {b B:Nat} {w w1:World} (h:Below B w w1) (hB:B<=b) (vs:List Value) (o:Nat):Below B w (w1.setCells b o vs):=by
 have q:=setCells_kp (b:=b) (fun i=>i=b) rfl vs o w1
 exact⟨q.os.trans h.os,q.tape.trans h.tape,q.output.trans h.output,Nat.le_trans h.size q.size,fun i hi=>by rw[heap_setCells_ne (by omega)];exact h.block i hi⟩
theorem NdIn.one {w:World} {F:Nat->Prop} {sl:Value} {t:Nd} (h:NdIn w F sl t):sl.oneCell'=true:=by
 cases t;rw[NdIn] at h;obtain⟨a,c,rfl,_⟩:=h;rfl
theorem Hd.one (h:Hd) {sl:Value} (hs:sl.oneCell'=true):(#[.int .i64 h.k,.int .i64 h.o,.float .f64 h.x,.string h.s,.bool h.b,.int .i64 h.f,.int .i64 h.c1,.int .i64 h.r1,.bool h.p1,.bool h.q1,.int .i64 h.c2,.int .i64 h.r2,.bool h.p2,.bool h.q2,sl]:Array Value).all (·.oneCell')=true:=by
 simpa [Value.oneCell'] using hs
end Go.Proofs.YtecjfnkakodebaaGreatDoor
namespace Go.Proofs.YtecjfnkakodebaaGreatDoor
open Go.RowKit
mutual
def NdOwn (w:World) (sl:Value):Nd->List Nat->Prop
 | .mk _ ts,fp=>(ts=[]/\sl=.slice none 0 0/\fp=[]) ∨
  ∃b c fps cs,sl=.slice (some ⟨b,0,none⟩) ts.length c/\ts≠[]/\ts.length<=c/\c<=maxLen/\w.heap[b]? = some (.cells cs 48 (0,0))/\cs.size=c*15/\fp=b::fps/\NdsOwn w b 0 ts fps
def NdsOwn (w:World) (b o:Nat):List Nd->List Nat->Prop
 | [],fp=>fp=[]
 | t::ts,fp=>∃sl f1 f2,w.rangeAt b o (t.hd.cells sl)/\NdOwn w sl t f1/\fp=f1++f2/\NdsOwn w b (o+15) ts f2
end
mutual
theorem NdOwn.mono {w w':World} {sl:Value}:∀ {t:Nd} {fp:List Nat},NdOwn w sl t fp->(∀b∈fp,w'.heap[b]? = w.heap[b]?)->NdOwn w' sl t fp
 | .mk _ ts,fp,h,hF=>by
  rw[NdOwn] at h ⊢
  rcases h with h|⟨b,c,fps,cs,h1,h2,h3,h4,h5,h6,rfl,h8⟩
  ·exact .inl h
  ·refine .inr ⟨b,c,fps,cs,h1,h2,h3,h4,(hF b (List.mem_cons_self)).trans h5,h6,rfl,?_⟩
   exact NdsOwn.mono h8 (fun o' cs' _ _ hr=>rangeAt_block hr (hF b (List.mem_cons_self))) (fun b' hb'=>hF b' (List.mem_cons_of_mem _ hb'))
theorem NdsOwn.mono {w w':World} {b:Nat}:∀ {ts:List Nd} {o:Nat} {fp:List Nat},NdsOwn w b o ts fp->(∀o' cs,o<=o'->o'+cs.length<=o+ts.length*15->w.rangeAt b o' cs->w'.rangeAt b o' cs)->(∀b∈fp,w'.heap[b]? = w.heap[b]?)->NdsOwn w' b o ts fp
 | [],_,_,h,_,_=>by rw[NdsOwn] at h ⊢;exact h
 | t::ts,o,fp,h,hr,hF=>by
  rw[NdsOwn] at h ⊢
  obtain⟨sl,f1,f2,h1,h2,rfl,h4⟩:=h
  refine⟨sl,f1,f2,hr o _ (Nat.le_refl _) (by simp;omega) h1,NdOwn.mono h2 (fun b hb=>hF b (List.mem_append_left _ hb)),rfl,?_⟩
  exact NdsOwn.mono h4 (fun o' cs g1 g2 g3=>hr o' cs (by omega) (by simp at g2 ⊢;omega) g3) (fun b hb=>hF b (List.mem_append_right _ hb))
end
theorem NdsOwn.snoc {w:World} {b:Nat} {u:Nd} {f:List Nat} {sl:Value} (hu:NdOwn w sl u f):∀ {us:List Nd} {o:Nat} {fps:List Nat},NdsOwn w b o us fps->w.rangeAt b (o+us.length*15) (u.hd.cells sl)->NdsOwn w b o (us++[u]) (fps++f)
 | [],o,fps,h,hr=>by
  rw[NdsOwn] at h
  subst h
  rw[List.nil_append,NdsOwn]
  exact⟨sl,f,[],by simpa using hr,hu,by simp,by rw[NdsOwn]⟩
 | t::us,o,fps,h,hr=>by
  rw[NdsOwn] at h
  obtain⟨s1,f1,f2,h1,h2,rfl,h4⟩:=h
  rw[List.cons_append,NdsOwn]
  refine⟨s1,f1,f2++f,h1,h2,by rw[List.append_assoc],NdsOwn.snoc hu h4 ?_⟩
  rw[show o+15+us.length*15=o+(t::us).length*15 by simp;omega]
  exact hr
mutual
theorem NdOwn.isIn {w:World} {sl:Value}:∀ {t:Nd} {fp:List Nat} {F:Nat->Prop},NdOwn w sl t fp->(∀b∈fp,F b)->NdIn w F sl t
 | .mk _ ts,fp,F,h,hF=>by
  rw[NdOwn] at h
  rw[NdIn]
  rcases h with ⟨rfl,rfl,rfl⟩|⟨b,c,fps,cs,rfl,h2,h3,h4,h5,h6,rfl,h8⟩
  ·exact⟨none,0,rfl,by simp,by unfold maxLen;omega,.inl ⟨rfl,.inl rfl⟩⟩
  ·refine⟨_,c,rfl,h3,h4,.inr ⟨b,0,rfl,hF b (List.mem_cons_self),?_⟩⟩
   exact NdsOwn.isIn h8 (fun b' hb'=>hF b' (List.mem_cons_of_mem _ hb'))
theorem NdsOwn.isIn {w:World} {b:Nat}:∀ {ts:List Nd} {o:Nat} {fp:List Nat} {F:Nat->Prop},NdsOwn w b o ts fp->(∀b∈fp,F b)->NdsIn w F b o ts
 | [],_,_,_,_,_=>by rw[NdsIn];trivial
 | t::ts,o,fp,F,h,hF=>by
  rw[NdsOwn] at h
  obtain⟨sl,f1,f2,h1,h2,rfl,h4⟩:=h
  rw[NdsIn]
  exact⟨⟨sl,h1,NdOwn.isIn h2 (fun b hb=>hF b (List.mem_append_left _ hb))⟩,NdsOwn.isIn h4 (fun b hb=>hF b (List.mem_append_right _ hb))⟩
end
theorem NdOwn.one {w:World} {sl:Value} {t:Nd} {fp:List Nat} (h:NdOwn w sl t fp):sl.oneCell'=true:=(h.isIn (F:=fun _=>True) (fun _ _=>trivial)).one
structure Own (w:World) (B:Nat) (sl:Value) (t:Nd) (fp:List Nat):Prop where
 own:NdOwn w sl t fp
 nodup:fp.Nodup
 new:∀b∈fp,B<=b/\b<w.heap.size
theorem Own.isIn {w:World} {B:Nat} {sl:Value} {t:Nd} {fp:List Nat} (h:Own w B sl t fp):NdIn w (fun b=>B<=b/\b<w.heap.size) sl t:=h.own.isIn h.new
def Blk (w:World) (b:Nat) (cs:List Value) (t:TypeId):Prop:=w.heap[b]? = some (.cells cs.toArray t (0,0))
namespace Blk
theorem lt {w:World} {b:Nat} {cs:List Value} {t:TypeId} (h:Blk w b cs t):b<w.heap.size:=by
 rcases Nat.lt_or_ge b w.heap.size with c|c
 ·exact c
 ·unfold Blk at h;rw[Array.getElem?_eq_none c] at h;cases h
theorem at' {w:World} {b i:Nat} {cs:List Value} {t:TypeId} (h:Blk w b cs t):w.cell? ⟨b,i,none⟩=cs[i]?:=by
 unfold Blk at h
 simp[World.cell?,h]
theorem cell {w:World} {b i:Nat} {cs:List Value} {t:TypeId} {v:Value} (h:Blk w b cs t) (hi:cs[i]? = some v):w.cell? ⟨b,i,none⟩=some v:=h.at'.trans hi
theorem froz {w:World} {b:Nat} {cs:List Value} {t:TypeId} (h:Blk w b cs t) (i:Nat):w.frozen? ⟨b,i,none⟩=false:=by
 unfold Blk at h
 simp[World.frozen?,h]
theorem set {w:World} {b:Nat} {cs:List Value} {t:TypeId} (h:Blk w b cs t) (i:Nat) (v:Value):Blk (w.setCell ⟨b,i,none⟩ v) b (cs.set i v) t:=by
 have:=heap_setCell_same w b i cs.toArray t v h
 unfold Blk
 rw[this]
 simp
theorem other {w:World} {b:Nat} {cs:List Value} {t:TypeId} (h:Blk w b cs t) (a:Addr) (v:Value) (hb:b≠a.block):Blk (w.setCell a v) b cs t:=by
 unfold Blk
 rw[heap_setCell_other w a b v hb];exact h
theorem kp {w w':World} {b:Nat} {cs:List Value} {t:TypeId} {S:Nat->Prop} (h:Blk w b cs t) (g:Kp w w' S) (hb:¬S b):Blk w' b cs t:=
 (g.block b h.lt hb).trans h
theorem gr {w w':World} {b:Nat} {cs:List Value} {t:TypeId} (h:Blk w b cs t) (g:Gr w w'):Blk w' b cs t:=h.kp (S:=Nul) (Kp.of_gr g) (fun x=>x)
theorem alloc {w:World} {b:Nat} {cs:List Value} {t:TypeId} (h:Blk w b cs t) (o:Obj):Blk (w.alloc o) b cs t:=h.kp (S:=Nul) ((Kp.refl w Nul).alloc o) (fun x=>x)
theorem drewN {w:World} {b:Nat} {cs:List Value} {t:TypeId} (h:Blk w b cs t) (n:Nat):Blk (w.drewN n) b cs t:=h
theorem drew {w:World} {b:Nat} {cs:List Value} {t:TypeId} (h:Blk w b cs t):Blk w.drew b cs t:=h
theorem ne {w:World} {b b':Nat} {cs cs':List Value} {t t':TypeId} (h:Blk w b cs t) (h':Blk w b' cs' t') (ht:t≠t'):b≠b':=by
 intro e;subst e
 unfold Blk at h h'
 rw[h] at h'
 simp only[Option.some.injEq,Obj.cells.injEq] at h'
 exact ht h'.2.1
theorem new (w:World) (cs:List Value) (t:TypeId):Blk (w.alloc (.cells cs.toArray t)) w.heap.size cs t:=heap_alloc_new _ _
end Blk
def thr (at' n most a b:Int):Option (Int×Int):=
 if max a 1<=min b (at'-1) then
  (if max a (if n<0 then at'-n else at')<=min b (if n<0 then most else most-n) then some (max a 1,min b (if n<0 then most else most-n)+n) else some (max a 1,min b (at'-1)))
 else if max a (if n<0 then at'-n else at')<=min b (if n<0 then most else most-n) then some (max a (if n<0 then at'-n else at')+n,min b (if n<0 then most else most-n)+n) else none
structure LnOk (at' n most:Int):Prop where
 lo:1<=at'
 hi:at'<=most
 nl:-most<=n
 nh:n<=most
theorem thr_ok {at' n most a b:Int} (h:LnOk at' n most) (ha:1<=a) (hab:a<=b) (hb:b<=most) {r:Int×Int} (e:thr at' n most a b=some r):1<=r.1/\r.1<=r.2/\r.2<=most:=by
 obtain⟨h1,h2,h3,h4⟩:=h
 unfold thr at e
 by_cases hn:n<0
 ·simp only[if_pos hn] at e
  split at e
  ·split at e <;> (injection e with e;subst e;simp only;omega)
  ·split at e
   ·injection e with e;subst e;simp only;omega
   ·cases e
 ·simp only[if_neg hn] at e
  split at e
  ·split at e <;> (injection e with e;subst e;simp only;omega)
  ·split at e
   ·injection e with e;subst e;simp only;omega
   ·cases e
theorem thr_cell {at' n most a:Int} {r:Int×Int} (e:thr at' n most a a=some r):r.1=r.2/\r.1=(if a<at' then a else a+n):=by
 unfold thr at e
 by_cases hn:n<0
 ·simp only[if_pos hn] at e
  split at e
  ·split at e <;> (injection e with e;subst e;simp only;split <;> omega)
  ·split at e
   ·injection e with e;subst e;simp only;split <;> omega
   ·cases e
 ·simp only[if_neg hn] at e
  split at e
  ·split at e <;> (injection e with e;subst e;simp only;split <;> omega)
  ·split at e
   ·injection e with e;subst e;simp only;split <;> omega
   ·cases e
theorem thr_inj {at' n most a a':Int} {r r':Int×Int} (ha:1<=a) (ha':1<=a') (hne:a≠a') (e:thr at' n most a a=some r) (e':thr at' n most a' a'=some r'):r.1≠r'.1:=by
 obtain⟨_,q⟩:=thr_cell e
 obtain⟨_,q'⟩:=thr_cell e'
 rw[q,q']
 have hk:a<at'∨(n<0->at'-n<=a):=by
  by_cases h1:a<at'
  ·exact .inl h1
  ·right
   intro hn
   unfold thr at e
   simp only[if_pos hn] at e
   rw[if_neg (by omega)] at e
   split at e
   ·omega
   ·cases e
 have hk':a'<at'∨(n<0->at'-n<=a'):=by
  by_cases h1:a'<at'
  ·exact .inl h1
  ·right
   intro hn
   unfold thr at e'
   simp only[if_pos hn] at e'
   rw[if_neg (by omega)] at e'
   split at e'
   ·omega
   ·cases e'
 split <;> split <;> omega
def nx (at' n k:Int):Int:=if k<=at' then k else if n<0 then (if k<at'-n then at' else k+n) else k+n
end Go.Proofs.YtecjfnkakodebaaGreatDoor
namespace Go.Proofs.YtecjfnkakodebaaGreatDoor
open Go.RowKit
section
variable {P:Program} {ops:Array Oper} {Q:Exit->Act->World->Prop} {md:Region.Mode} {S:World->Prop}
theorem wpH_takes {i:Nat} {oi:Oper} {v:Value} {n:Nat} {on:Array Bool} {a:Act} {w:World} (d:Option Tmp) (hi:ops[i]? = some oi) (hd:oi.dst=d) (hb:(Region.noSelect ops&&(Region.free md ops on i&&((Region.ready md ops on).contains i)))=true)
  (hQ:∀c a w,Q (.panic c) (a.put d v) w->Q (.panic c) a w) (hy:YieldsIf P ops S oi v a) (hS:S w) (h:wpAnyH P md ops Q S n (on.setIfInBounds i true) (a.put d v) w):wpAnyH P md ops Q S (n+1) on a w:=by
 simp only[Bool.and_eq_true] at hb
 subst hd
 exact wpAnyH_take hi hb.1 hb.2.1 hb.2.2 hQ hy hS h
theorem wpH_step {i:Nat} {o:Oper} {n:Nat} {on:Array Bool} {a:Act} {w:World} (hr:Region.ready md ops on=[i]) (ho:ops[i]? = some o) (hg:o.guard=none)
  (h:∀K':Act->World->Prop,Hid (∀a w,S w->(S w->wpAnyH P md ops Q S n (on.setIfInBounds i true) a w)->K' a w)->o.wp P a w K' Q):wpAnyH P md ops Q S (n+1) on a w:=by
 refine wpAnyH_all hr (by simp) (fun j hj=>?_)
 obtain rfl:=List.mem_singleton.1 hj
 unfold wpOp
 rw[ho]
 simp only[Region.wanted,hg,if_true]
 exact .inl (h _ (fun a w hS hW=>⟨hS,hW hS⟩))
theorem wp_region_hel {id:Nat} {a:Act} {w:World} (S:World->Prop) (hm:P.follows .mixedOrders=true) (hS:S w.drew) (h:S w.drew->wpAnyH P .any ops Q S ops.size (Array.replicate ops.size false) a w.drew):(Code.region id ops true).wp P Q a w:=
 wp_region_held hm (h hS)
end
end Go.Proofs.YtecjfnkakodebaaGreatDoor
namespace Go.Proofs.YtecjfnkakodebaaGreatDoor
open Go.RowKit
section
variable {P:Program} {ops:Array Oper} {Q:Exit->Act->World->Prop} {md:Region.Mode} {S:World->Prop} {z:Nat}
def wpBut (P:Program) (md:Region.Mode) (ops:Array Oper) (Q:Exit->Act->World->Prop) (S:World->Prop) (z:Nat):Nat->Array Bool->Act->World->Prop
 | 0,on,a,w=>Region.ready md ops on=[]/\Q .normal a w
 | n+1,on,a,w=>(Region.ready md ops on=[]->Q .normal a w) /\
   ∀i∈Region.ready md ops on,wpOp P ops Q i (fun a' w'=>(i≠z->S w')/\wpBut P md ops Q S z n (on.setIfInBounds i true) a' w') a w
theorem wpBut_any:∀(n:Nat) (on:Array Bool) (a:Act) (w:World),wpBut P md ops Q S z n on a w->wpAny P md ops Q n on a w
 | 0,_,_,_,h=>h
 | n+1,_,_,_,h=>⟨h.1,fun i hi=>wpOp_mono (fun a' w' h'=>wpBut_any n _ a' w' h'.2) (h.2 i hi)⟩
def zWaits (md:Region.Mode) (ops:Array Oper) (z i:Nat):Bool:=match ops[z]? with|some o=>o.after.any (fun e=>Region.binds md e&&e.on==i)|none=>false
theorem not_ready_of_waits {on:Array Bool} {i:Nat} (h:zWaits md ops z i=true) (hi:on.getD i false=false):z∉Region.ready md ops on:=by
 intro hz
 obtain⟨_,o,ho,hall⟩:=mem_ready.1 hz
 unfold zWaits at h
 rw[ho] at h
 obtain⟨e,he,hb⟩:=Array.any_eq_true'.1 h
 simp only[Bool.and_eq_true,beq_iff_eq] at hb
 have:=hall e he hb.1
 rw[hb.2,hi] at this
 cases this
theorem getD_swap {on:Array Bool} {i:Nat} (h:on.getD i true=false):on.getD i false=false:=by
 rcases Nat.lt_or_ge i on.size with hl|hl
 ·simp[hl] at h ⊢;exact h
 ·simp[Nat.not_lt.2 hl] at h
theorem wpBut_front {i:Nat} {oi:Oper} {v:Value} (hi:ops[i]? = some oi) (hsel:∀(j:Nat) (o:Oper) cs b,ops[j]? = some o->o.op ≠ .select cs b) (hzi:zWaits md ops z i=true)
  (hQ:∀c a w,Q (.panic c) (a.put oi.dst v) w->Q (.panic c) a w) (n:Nat) :
  ∀(on:Array Bool) (a:Act) (w:World),
   (∀j oj,ops[j]? = some oj->j≠i->on.getD j true=false->(∀e∈oj.after,Region.binds md e=true->e.on≠i)->oi.apart ops oj=true) ->
   i∈Region.ready md ops on->YieldsIf P ops S oi v a->S w->wpBut P md ops Q S z n (on.setIfInBounds i true) (a.put oi.dst v) w->wpBut P md ops Q S z (n+1) on a w:=by
 have hiz:∀on:Array Bool,i∈Region.ready md ops on->z∉Region.ready md ops on:=fun on hr=>not_ready_of_waits hzi (getD_swap (mem_ready.1 hr).1)
 induction n with
 | zero=>
  intro on a w _ hr hy hS H
  refine⟨fun h=>(by rw[h] at hr;cases hr),fun j hj=>?_⟩
  rcases Decidable.em (j=i) with rfl|hji
  ·exact hy.wpOp hi hS ⟨fun _=>hS,H⟩
  ·have hc:=ready_mono hj hji
   rw[H.1] at hc
   cases hc
 | succ n ih=>
  intro on a w hfree hr hy hS H
  refine⟨fun h=>(by rw[h] at hr;cases hr),fun j hj=>?_⟩
  rcases Decidable.em (j=i) with rfl|hji
  ·exact hy.wpOp hi hS ⟨fun _=>hS,H⟩
  ·have hjz:j≠z:=fun e=>hiz on hr (e ▸ hj)
   obtain⟨hjun,oj,hoj,hall⟩:=mem_ready.1 hj
   have hun:=getD_swap (mem_ready.1 hr).1
   have hno:∀e∈oj.after,Region.binds md e=true->e.on≠i:=fun e he hb heq=>by
    have h1:=hall e he hb
    rw[heq,hun] at h1
    cases h1
   have h2:=wpOp_putIf hoj (hfree j oj hoj hji hjun hno) (fun cs b=>hsel i oi cs b hi) (fun cs b=>hsel j oj cs b hoj) hQ hy (H.2 j (ready_mono hj hji))
   refine wpOp_mono (fun a' w' h3=>⟨fun _=>h3.2.1 hjz,ih (on.setIfInBounds j true) a' w' ?_ (ready_mono hr (Ne.symm hji)) h3.1 (h3.2.1 hjz) ?_⟩) h2
   ·intro k ok hk hki hkun hkno
    refine hfree k ok hk hki ?_ hkno
    rcases Decidable.em (j=k) with rfl|hjk
    ·exact hjun
    ·rw[getD_set_ne true hjk] at hkun;exact hkun
   ·rw[Array.setIfInBounds_comm _ _ hji]
    exact h3.2.2
theorem wpBut_take {i:Nat} {oi:Oper} {v:Value} {n:Nat} {on:Array Bool} {a:Act} {w:World} (hi:ops[i]? = some oi) (hs:Region.noSelect ops=true) (hf:Region.free md ops on i=true) (hr:(Region.ready md ops on).contains i=true) (hz:zWaits md ops z i=true)
  (hQ:∀c a w,Q (.panic c) (a.put oi.dst v) w->Q (.panic c) a w) (hy:YieldsIf P ops S oi v a) (hS:S w) (h:wpBut P md ops Q S z n (on.setIfInBounds i true) (a.put oi.dst v) w):wpBut P md ops Q S z (n+1) on a w:=
 wpBut_front hi (Region.noSelect_spec hs) hz hQ n on a w (Region.free_spec hi hf) (by simpa using hr) hy hS h
theorem wpBut_takes {i:Nat} {oi:Oper} {v:Value} {n:Nat} {on:Array Bool} {a:Act} {w:World} (d:Option Tmp) (hi:ops[i]? = some oi) (hd:oi.dst=d) (hb:(Region.noSelect ops&&(Region.free md ops on i&&((Region.ready md ops on).contains i&&zWaits md ops z i)))=true)
  (hQ:∀c a w,Q (.panic c) (a.put d v) w->Q (.panic c) a w) (hy:YieldsIf P ops S oi v a) (hS:S w) (h:wpBut P md ops Q S z n (on.setIfInBounds i true) (a.put d v) w):wpBut P md ops Q S z (n+1) on a w:=by
 simp only[Bool.and_eq_true] at hb
 subst hd
 exact wpBut_take hi hb.1 hb.2.1 hb.2.2.1 hb.2.2.2 hQ hy hS h
theorem wpBut_one {i:Nat} {n:Nat} {on:Array Bool} {a:Act} {w:World} (hr:Region.ready md ops on=[i]) (h:wpOp P ops Q i (fun a' w'=>(i≠z->S w')/\wpBut P md ops Q S z n (on.setIfInBounds i true) a' w') a w):wpBut P md ops Q S z (n+1) on a w:=
 ⟨fun h0=>(by rw[hr] at h0;cases h0),fun j hj=>(by rw[hr] at hj;obtain rfl:=List.mem_singleton.1 hj;exact h)⟩
theorem wpBut_done {n:Nat} {on:Array Bool} {a:Act} {w:World} (hr:Region.ready md ops on=[]) (h:Q .normal a w):wpBut P md ops Q S z n on a w:=by
 cases n with
 | zero=>exact⟨hr,h⟩
 | succ n=>exact⟨fun _=>h,by rw[hr];simp⟩
theorem wpBut_step {i:Nat} {o:Oper} {n:Nat} {on:Array Bool} {a:Act} {w:World} (hr:Region.ready md ops on=[i]) (ho:ops[i]? = some o) (hg:o.guard=none)
  (h:∀K':Act->World->Prop,Hid (∀a w,(i≠z->S w)->((i≠z->S w)->wpBut P md ops Q S z n (on.setIfInBounds i true) a w)->K' a w)->o.wp P a w K' Q):wpBut P md ops Q S z (n+1) on a w:=by
 refine wpBut_one hr ?_
 unfold wpOp
 rw[ho]
 simp only[Region.wanted,hg,if_true]
 exact .inl (h _ (fun a w hS hW=>⟨hS,hW hS⟩))
theorem wp_region_but {id:Nat} {a:Act} {w:World} (S:World->Prop) (z:Nat) (hm:P.follows .mixedOrders=true) (hS:S w.drew) (h:S w.drew->wpBut P .any ops Q S z ops.size (Array.replicate ops.size false) a w.drew):(Code.region id ops true).wp P Q a w:=
 wp_region_any hm (wpBut_any _ _ _ _ (h hS))
end
end Go.Proofs.YtecjfnkakodebaaGreatDoor
namespace Go.Proofs.YtecjfnkakodebaaGreatDoor
open Go.RowKit
theorem run_append_tell {P:Program} (w:World) (base:Nat) (t ty e:TypeId) (i:TypeInfo) (z:Value) (size bytes:Nat) (h1:P.underlying t=some (.slice e)) (h2:P.info? e=some i) (h3:i.zero=some z) (h4:i.size=size) (h5:i.bytes=bytes) (h6:z.cells.size=size) (h7:0<size)
  (v:Value) (n:Nat) (xs:List Value) (hown:w.ownsRow base e size v n xs)
  (ad:Addr) (m c:Nat) (news:List Value) (hn:news.length=m*size) (hc:∀j u,news[j]? = some u->w.cell? (ad.add j)=some u) (h1c:∀u∈news,u.oneCell'=true)
  (hm:0<m) (b1:n+m<=maxLen) (b2:(n+m)*bytes<=140737488355328) (hbase:base<=w.heap.size) :
  ∃g c' w',(Builtin.append_ #[t,t] ty #[v,.slice (some ad) m c]).run P w=.ok (.slice (some ⟨g,0,none⟩) (n+m) c') w'/\w'.ownsRow base e size (.slice (some ⟨g,0,none⟩) (n+m) c') (n+m) (xs++news)/\w.grownBy w' v.ownBlock/\(v.ownBlock=some g∨w.heap.size<=g):=by
 have fin:∀v' w',(Builtin.append_ #[t,t] ty #[v,.slice (some ad) m c]).run P w=.ok v' w'->w'.ownsRow w.heap.size e size v' (n+m) (xs++news)->w.grownBy w' none ->
   ∃g c' w',(Builtin.append_ #[t,t] ty #[v,.slice (some ad) m c]).run P w=.ok (.slice (some ⟨g,0,none⟩) (n+m) c') w'/\w'.ownsRow base e size (.slice (some ⟨g,0,none⟩) (n+m) c') (n+m) (xs++news)/\w.grownBy w' v.ownBlock/\(v.ownBlock=some g∨w.heap.size<=g):=by
  intro v' w' hrun ho hgr
  rcases ho.2 with ⟨_,h0⟩|⟨g,c',cur,rfl,hbg,r⟩
  ·omega
  ·exact⟨g,c',w',hrun,⟨ho.1,.inr ⟨g,c',cur,rfl,Nat.le_trans hbase hbg,r⟩⟩,⟨hgr.os,hgr.tape,hgr.output,hgr.size,fun k hk _=>hgr.block k hk (by simp)⟩,.inr hbg⟩
 have hown':=hown
 rcases hown with ⟨hxl,⟨rfl,rfl⟩|⟨g,cap,cur,rfl,hb,hgg,hnc,hcm,hcs,htk⟩⟩
 ·have hxs:xs=[]:=List.length_eq_zero_iff.1 (by rw[hxl];simp)
  subst hxs
  obtain⟨v',w',hrun,r1,r2,_⟩:=run_append_own (P:=P) w w.heap.size t ty e i z size bytes h1 h2 h3 h4 h5 h6 h7 (.slice none 0 0) 0 [] (World.ownsRow_nil w _ e size) ad m c news hn hc h1c b1 b2 (Nat.le_refl _)
  exact fin v' w' hrun r1 r2
 ·by_cases hfit:n+m<=cap
  ·obtain⟨w',hrun,r1,r2⟩:=run_append_fits (P:=P) w base t ty e i size h1 h2 h4 g n cap xs hown' ad m c news hn hc h1c hfit
   exact⟨g,cap,w',hrun,r1,r2,.inl rfl⟩
  ·obtain⟨v',w',hrun,r1,r2⟩:=run_append_arg_grows (P:=P) w t ty e i z size bytes h1 h2 h3 h4 h5 h6 h7 ⟨g,0,none⟩ n cap xs hxl (hown'.cells rfl) ad m c news hn hc (by omega) b1 b2
   exact fin v' w' hrun r1 r2
theorem addr_at (b off i:Nat):(⟨b,off,none⟩:Addr).add i=⟨b,off+i,none⟩:=by unfold Addr.add;split <;> simp_all
end Go.Proofs.YtecjfnkakodebaaGreatDoor
