/- A world in which, of what lay, blocks of S alone may have turned. Small closers. No function of the program here. Blocks that are known whole. No function of the program here. Move: lines' places by a table, as the document has them. No function of the program here. Trees in memory of their own: each list in a block of its own, none twice. No function of the program here. A region that draws its order, walked by hand: S holds behind each operation. No function of the program here. A region that draws its order and whose last operation, number z, .. .. -/
import Derived.Test.YtnceajanlnnfoaaGreatDoorQsGa
import Derived.Maps.OwnSet
import Derived.Deep.RegionHeld3
import Derived.ArgAppend
import Derived.Shelf.Strings.BuilderK
import Derived.Lib.FrozenHead
import Derived.Deep.AppendSrc
import Derived.Deep.Upon
set_option maxHeartbeats 4000000
set_option maxRecDepth 100000
namespace Go.Proofs.YtnceajanlnnfoaaGreatDoor
open Go.RowKit Go.Maps
@[go_sem] theorem run_store_float (P:Program) (w:World) (a:Addr) (m:Mode) (k:FloatKind) (b:Nat):(store a (.float k b) m).run P w=stored P w a (.float k b) m:=run_store P w a _ m rfl
structure Kp (w w':World) (S:Nat→Prop):Prop where
 os:w'.os=w.os
 tape:w'.tape=w.tape
 output:w'.output=w.output
 size:w.heap.size≤w'.heap.size
 block:∀ i,i < w.heap.size → ¬ S i→w'.heap[i]? = w.heap[i]?
def Nul:Nat→Prop:=fun _=>False
namespace Kp
theorem refl (w:World) (S:Nat→Prop):Kp w w S:=⟨rfl,rfl,rfl,Nat.le_refl _,fun _ _ _=>rfl⟩
theorem trans {w w1 w2:World} {S:Nat→Prop} (h:Kp w w1 S) (g:Kp w1 w2 S):Kp w w2 S:=
 ⟨g.os.trans h.os,g.tape.trans h.tape,g.output.trans h.output,Nat.le_trans h.size g.size,fun i hi hs=>(g.block i (Nat.lt_of_lt_of_le hi h.size) hs).trans (h.block i hi hs)⟩
theorem trans' {w w1 w2:World} {S T:Nat→Prop} (h:Kp w w1 S) (g:Kp w1 w2 T) (hT:∀ i,i < w.heap.size→T i→S i):Kp w w2 S:=
 ⟨g.os.trans h.os,g.tape.trans h.tape,g.output.trans h.output,Nat.le_trans h.size g.size,fun i hi hs=>(g.block i (Nat.lt_of_lt_of_le hi h.size) (fun t=>hs (hT i hi t))).trans (h.block i hi hs)⟩
theorem mono {w w':World} {S T:Nat→Prop} (h:Kp w w' S) (hT:∀ i,i < w.heap.size→S i→T i):Kp w w' T:=
 ⟨h.os,h.tape,h.output,h.size,fun i hi hs=>h.block i hi (fun s=>hs (hT i hi s))⟩
theorem of_nul {w w':World} {S:Nat→Prop} (h:Kp w w' Nul):Kp w w' S:=h.mono fun _ _ s=>s.elim
theorem of_gr {w w':World} {S:Nat→Prop} (h:Gr w w'):Kp w w' S:=⟨h.ext.os,h.ext.tape,h.ext.output,h.ext.size,fun i hi _=>h.ext.block i hi⟩
theorem of_below {w w':World} {S:Nat→Prop} (h:Below w.heap.size w w'):Kp w w' S:=⟨h.os,h.tape,h.output,h.size,fun i hi _=>h.block i hi⟩
theorem below {w w':World} (h:Kp w w' Nul):Below w.heap.size w w':=⟨h.os,h.tape,h.output,h.size,fun i hi=>h.block i hi (fun s=>s)⟩
theorem of_grown {w w':World} {S:Nat→Prop} {row:Option Nat} (h:w.grownBy w' row) (hr:∀ i,row=some i→S i):Kp w w' S:=
 ⟨h.os,h.tape,h.output,h.size,fun i hi hs=>h.block i hi (fun e=>hs (hr i e.symm))⟩
theorem drew {w w1:World} {S:Nat→Prop} (h:Kp w w1 S):Kp w w1.drew S:=⟨h.os,h.tape,h.output,h.size,h.block⟩
theorem drewN {w w1:World} {S:Nat→Prop} (h:Kp w w1 S) (n:Nat):Kp w (w1.drewN n) S:=⟨h.os,h.tape,h.output,h.size,h.block⟩
theorem alloc {w w1:World} {S:Nat→Prop} (h:Kp w w1 S) (o:Obj):Kp w (w1.alloc o) S:=by
 refine ⟨h.os,h.tape,h.output,?_,fun i hi hs=>?_⟩
 ·show w.heap.size≤(w1.heap.push o).size
  rw [Array.size_push];exact Nat.le_succ_of_le h.size
 ·show (w1.heap.push o)[i]? = _
  rw [Array.getElem?_push,if_neg (Nat.ne_of_lt (Nat.lt_of_lt_of_le hi h.size))]
  exact h.block i hi hs
theorem setCell {w w1:World} {S:Nat→Prop} (h:Kp w w1 S) (a:Addr) (v:Value) (ha:w.heap.size≤a.block∨S a.block):Kp w (w1.setCell a v) S:=by
 have q:=(Below.refl 0 w1).setCell (p:=a) (Nat.zero_le _) v
 refine ⟨q.os.trans h.os,q.tape.trans h.tape,q.output.trans h.output,Nat.le_trans h.size q.size,fun i hi hs=>?_⟩
 rw [heap_setCell_other w1 a i v (fun e=>by rcases ha with ha|ha;omega;exact hs (e ▸ ha))]
 exact h.block i hi hs
end Kp
theorem NdIn.kp {w w':World} {F S:Nat→Prop} {sl:Value} {t:Nd} (h:NdIn w F sl t) (g:Kp w w' S) (hd:∀ b,F b → ¬ S b):NdIn w' F sl t:=
 h.mono fun b hb hlt=>⟨g.block b hlt (hd b hb),hb⟩
theorem NdIn.kpn {w w':World} {F:Nat→Prop} {sl:Value} {t:Nd} (h:NdIn w F sl t) (g:Kp w w' Nul):NdIn w' F sl t:=h.kp g fun _ _ s=>s
def setAll (z:Array Value) (o:Nat):List Value→Array Value
 | []=>z
 | v :: vs=>setAll (z.setIfInBounds o v) (o+1) vs
theorem setAll_size:∀ (vs:List Value) (z:Array Value) (o:Nat),(setAll z o vs).size=z.size
 | [],_,_=>rfl
 | v :: vs,z,o=>by rw [setAll,setAll_size vs];simp
theorem setAll_get:∀ (vs:List Value) (z:Array Value) (o i:Nat),o+vs.length≤z.size→(setAll z o vs)[i]? = if o≤i∧i < o+vs.length then vs[i - o]? else z[i]?
 | [],z,o,i,_=>by rw [setAll,if_neg (by simp)]
 | v :: vs,z,o,i,h=>by
  simp only [List.length_cons] at h ⊢
  rw [setAll,setAll_get vs _ (o+1) i (by simp;omega)]
  by_cases h1:o+1≤i∧i < o+1+vs.length
  ·rw [if_pos h1,if_pos (by omega),show i - o=(i - (o+1))+1 by omega];simp
  ·rw [if_neg h1]
   by_cases h2:i=o
   ·subst h2
    rw [if_pos (by omega),Nat.sub_self,Array.getElem?_setIfInBounds_self_of_lt (by omega)];simp
   ·rw [if_neg (by omega),Array.getElem?_setIfInBounds_ne (by omega)]
theorem setAll_all (z cs:Array Value) (h:z.size=cs.size):setAll z 0 cs.toList=cs:=by
 apply Array.ext_getElem?
 intro i
 rw [setAll_get _ _ _ _ (by simp;omega)]
 by_cases hi:i < cs.size
 ·rw [if_pos (by simp;exact hi)];simp
 ·rw [if_neg (by simp;omega)]
  rw [Array.getElem?_eq_none (by omega),Array.getElem?_eq_none (by omega)]
theorem setCells_alloc (w:World) (t:TypeId):∀ (vs:List Value) (z:Array Value) (o:Nat),(w.alloc (.cells z t)).setCells w.heap.size o vs=w.alloc (.cells (setAll z o vs) t)
 | [],_,_=>rfl
 | v :: vs,z,o=>by
  rw [World.setCells,World.setCell_alloc_new,setAll]
  exact setCells_alloc w t vs _ _
theorem setCells_new (w:World) (t:TypeId) (z cs:Array Value) (h:z.size=cs.size):(w.alloc (.cells z t)).setCells w.heap.size 0 cs.toList=w.alloc (.cells cs t):=by
 rw [setCells_alloc,setAll_all z cs h]
theorem wpList_store_new {P:Program} {ops:Array Oper} {rest:List Oper} {op:Oper} {a:Act} {Q:Exit→Act→World→Prop} (hgd:op.guard=none) (ty:TypeId) (x y:Operand) (ho:op.op=.store ty x y)
  (w:World) (z cells:Array Value) (t:TypeId) (N:Nat) (hN:N=w.heap.size) (hx:a.eval x=.pointer (some ⟨N,0,none⟩)) (hy:a.eval y=.agg cells)
  (hz:z.size=cells.size) (hi:(P.info? ty).map (·.size)=some cells.size) (h1:cells.all (·.oneCell')=true)
  (h:wpList P ops Q rest (a.put op.dst undef) (w.alloc (.cells cells t))):wpList P ops Q (op :: rest) a (w.alloc (.cells z t)):=by
 subst hN
 refine wpList_store_mid hgd ty x y ho w.heap.size 0 cells hx hy ?_ hi h1 ?_
 ·intro j hj
  constructor
  ·rw [World.cell?_alloc_at _ _ _ _ rfl,Array.getElem?_eq_getElem (by omega)];rfl
  ·rw [frozen?_alloc_cells,frozen_new]
 ·rw [setCells_new w t z cells hz];exact h
theorem heap_setCells_at {b:Nat} {t:TypeId}:∀ (vs:List Value) (o:Nat) (w:World) (z:Array Value),w.heap[b]? = some (.cells z t (0,0))→(w.setCells b o vs).heap[b]? = some (.cells (setAll z o vs) t (0,0))
 | [],_,_,_,h=>h
 | v :: vs,o,w,z,h=>by
  rw [World.setCells,setAll]
  exact heap_setCells_at vs (o+1) _ _ (heap_setCell_same w b o z t v h)
theorem heap_setCells_whole {b:Nat} {t:TypeId} {w:World} {z cs:Array Value} (h:w.heap[b]? = some (.cells z t (0,0))) (hz:z.size=cs.size):(w.setCells b 0 cs.toList).heap[b]? = some (.cells cs t (0,0)):=by
 rw [heap_setCells_at _ _ _ _ h,setAll_all z cs hz]
theorem heap_setCells_ne {b i:Nat} (hi:i≠b):∀ (vs:List Value) (o:Nat) (w:World),(w.setCells b o vs).heap[i]? = w.heap[i]?
 | [],_,_=>rfl
 | v :: vs,o,w=>by
  rw [World.setCells,heap_setCells_ne hi vs,heap_setCell_other w _ i v hi]
theorem setCells_kp {b:Nat} (S:Nat→Prop) (hS:S b):∀ (vs:List Value) (o:Nat) (w:World),Kp w (w.setCells b o vs) S
 | [],_,w=>Kp.refl w S
 | v :: vs,o,w=>by
  rw [World.setCells]
  exact (((Kp.refl w S).setCell ⟨b,o,none⟩ v (.inr hS))).trans (setCells_kp S hS vs (o+1) _)
theorem size_setCells {b:Nat}:∀ (vs:List Value) (o:Nat) (w:World),(w.setCells b o vs).heap.size=w.heap.size
 | [],_,_=>rfl
 | v :: vs,o,w=>by
  rw [World.setCells,size_setCells vs]
  show (w.heap.modify _ _).size=_
  simp
theorem setCells_below {b B:Nat} {w w1:World} (h:Below B w w1) (hB:B≤b) (vs:List Value) (o:Nat):Below B w (w1.setCells b o vs):=by
 have q:=setCells_kp (b:=b) (fun i=>i=b) rfl vs o w1
 exact ⟨q.os.trans h.os,q.tape.trans h.tape,q.output.trans h.output,Nat.le_trans h.size q.size,fun i hi=>by rw [heap_setCells_ne (by omega)];exact h.block i hi⟩
theorem NdIn.one {w:World} {F:Nat→Prop} {sl:Value} {t:Nd} (h:NdIn w F sl t):sl.oneCell'=true:=by
 cases t;rw [NdIn] at h;obtain ⟨a,c,rfl,_⟩:=h;rfl
theorem Hd.one (h:Hd) {sl:Value} (hs:sl.oneCell'=true):(#[.int .i64 h.k,.int .i64 h.o,.float .f64 h.x,.string h.s,.bool h.b,.int .i64 h.f,.int .i64 h.c1,.int .i64 h.r1,.bool h.p1,.bool h.q1,.int .i64 h.c2,.int .i64 h.r2,.bool h.p2,.bool h.q2,sl]:Array Value).all (·.oneCell')=true:=by
 simpa [Value.oneCell'] using hs
end Go.Proofs.YtnceajanlnnfoaaGreatDoor
namespace Go.Proofs.YtnceajanlnnfoaaGreatDoor
open Go.RowKit
def Blk (w:World) (b:Nat) (cs:List Value) (t:TypeId):Prop:=w.heap[b]? = some (.cells cs.toArray t (0,0))
namespace Blk
theorem lt {w:World} {b:Nat} {cs:List Value} {t:TypeId} (h:Blk w b cs t):b < w.heap.size:=by
 rcases Nat.lt_or_ge b w.heap.size with c|c
 ·exact c
 ·unfold Blk at h;rw [Array.getElem?_eq_none c] at h;cases h
theorem at' {w:World} {b i:Nat} {cs:List Value} {t:TypeId} (h:Blk w b cs t):w.cell? ⟨b,i,none⟩=cs[i]?:=by
 unfold Blk at h
 simp [World.cell?,h]
theorem cell {w:World} {b i:Nat} {cs:List Value} {t:TypeId} {v:Value} (h:Blk w b cs t) (hi:cs[i]? = some v):w.cell? ⟨b,i,none⟩=some v:=h.at'.trans hi
theorem froz {w:World} {b:Nat} {cs:List Value} {t:TypeId} (h:Blk w b cs t) (i:Nat):w.frozen? ⟨b,i,none⟩=false:=by
 unfold Blk at h
 simp [World.frozen?,h]
theorem set {w:World} {b:Nat} {cs:List Value} {t:TypeId} (h:Blk w b cs t) (i:Nat) (v:Value):Blk (w.setCell ⟨b,i,none⟩ v) b (cs.set i v) t:=by
 have:=heap_setCell_same w b i cs.toArray t v h
 unfold Blk
 rw [this]
 simp
theorem other {w:World} {b:Nat} {cs:List Value} {t:TypeId} (h:Blk w b cs t) (a:Addr) (v:Value) (hb:b≠a.block):Blk (w.setCell a v) b cs t:=by
 unfold Blk
 rw [heap_setCell_other w a b v hb];exact h
theorem kp {w w':World} {b:Nat} {cs:List Value} {t:TypeId} {S:Nat→Prop} (h:Blk w b cs t) (g:Kp w w' S) (hb:¬ S b):Blk w' b cs t:=
 (g.block b h.lt hb).trans h
theorem gr {w w':World} {b:Nat} {cs:List Value} {t:TypeId} (h:Blk w b cs t) (g:Gr w w'):Blk w' b cs t:=h.kp (S:=Nul) (Kp.of_gr g) (fun x=>x)
theorem alloc {w:World} {b:Nat} {cs:List Value} {t:TypeId} (h:Blk w b cs t) (o:Obj):Blk (w.alloc o) b cs t:=h.kp (S:=Nul) ((Kp.refl w Nul).alloc o) (fun x=>x)
theorem drewN {w:World} {b:Nat} {cs:List Value} {t:TypeId} (h:Blk w b cs t) (n:Nat):Blk (w.drewN n) b cs t:=h
theorem drew {w:World} {b:Nat} {cs:List Value} {t:TypeId} (h:Blk w b cs t):Blk w.drew b cs t:=h
theorem ne {w:World} {b b':Nat} {cs cs':List Value} {t t':TypeId} (h:Blk w b cs t) (h':Blk w b' cs' t') (ht:t≠t'):b≠b':=by
 intro e;subst e
 unfold Blk at h h'
 rw [h] at h'
 simp only [Option.some.injEq,Obj.cells.injEq] at h'
 exact ht h'.2.1
theorem new (w:World) (cs:List Value) (t:TypeId):Blk (w.alloc (.cells cs.toArray t)) w.heap.size cs t:=heap_alloc_new _ _
end Blk
def nx (at' n k:Int):Int:=if k≤at' then k else if n < 0 then (if k < at' - n then at' else k+n) else k+n
mutual
def NdOwn (w:World) (sl:Value):Nd→List Nat→Prop
 | .mk _ ts,fp=>(ts=[]∧sl=.slice none 0 0∧fp=[]) ∨
  ∃ b c fps cs,sl=.slice (some ⟨b,0,none⟩) ts.length c∧ts≠[]∧ts.length≤c∧c≤maxLen∧w.heap[b]? = some (.cells cs 64 (0,0))∧cs.size=c * 15∧fp=b :: fps∧NdsOwn w b 0 ts fps
def NdsOwn (w:World) (b o:Nat):List Nd→List Nat→Prop
 | [],fp=>fp=[]
 | t :: ts,fp=>∃ sl f1 f2,w.rangeAt b o (t.hd.cells sl)∧NdOwn w sl t f1∧fp=f1 ++ f2∧NdsOwn w b (o+15) ts f2
end
mutual
theorem NdOwn.mono {w w':World} {sl:Value}:∀ {t:Nd} {fp:List Nat},NdOwn w sl t fp→(∀ b∈fp,w'.heap[b]? = w.heap[b]?)→NdOwn w' sl t fp
 | .mk _ ts,fp,h,hF=>by
  rw [NdOwn] at h ⊢
  rcases h with h|⟨b,c,fps,cs,h1,h2,h3,h4,h5,h6,rfl,h8⟩
  ·exact .inl h
  ·refine .inr ⟨b,c,fps,cs,h1,h2,h3,h4,(hF b (List.mem_cons_self)).trans h5,h6,rfl,?_⟩
   exact NdsOwn.mono h8 (fun o' cs' _ _ hr=>rangeAt_block hr (hF b (List.mem_cons_self))) (fun b' hb'=>hF b' (List.mem_cons_of_mem _ hb'))
theorem NdsOwn.mono {w w':World} {b:Nat}:∀ {ts:List Nd} {o:Nat} {fp:List Nat},NdsOwn w b o ts fp→(∀ o' cs,o≤o'→o'+cs.length≤o+ts.length * 15→w.rangeAt b o' cs→w'.rangeAt b o' cs)→(∀ b∈fp,w'.heap[b]? = w.heap[b]?)→NdsOwn w' b o ts fp
 | [],_,_,h,_,_=>by rw [NdsOwn] at h ⊢;exact h
 | t :: ts,o,fp,h,hr,hF=>by
  rw [NdsOwn] at h ⊢
  obtain ⟨sl,f1,f2,h1,h2,rfl,h4⟩:=h
  refine ⟨sl,f1,f2,hr o _ (Nat.le_refl _) (by simp;omega) h1,NdOwn.mono h2 (fun b hb=>hF b (List.mem_append_left _ hb)),rfl,?_⟩
  exact NdsOwn.mono h4 (fun o' cs g1 g2 g3=>hr o' cs (by omega) (by simp at g2 ⊢;omega) g3) (fun b hb=>hF b (List.mem_append_right _ hb))
end
theorem NdsOwn.snoc {w:World} {b:Nat} {u:Nd} {f:List Nat} {sl:Value} (hu:NdOwn w sl u f):∀ {us:List Nd} {o:Nat} {fps:List Nat},NdsOwn w b o us fps→w.rangeAt b (o+us.length * 15) (u.hd.cells sl)→NdsOwn w b o (us ++ [u]) (fps ++ f)
 | [],o,fps,h,hr=>by
  rw [NdsOwn] at h
  subst h
  rw [List.nil_append,NdsOwn]
  exact ⟨sl,f,[],by simpa using hr,hu,by simp,by rw [NdsOwn]⟩
 | t :: us,o,fps,h,hr=>by
  rw [NdsOwn] at h
  obtain ⟨s1,f1,f2,h1,h2,rfl,h4⟩:=h
  rw [List.cons_append,NdsOwn]
  refine ⟨s1,f1,f2 ++ f,h1,h2,by rw [List.append_assoc],NdsOwn.snoc hu h4 ?_⟩
  rw [show o+15+us.length * 15=o+(t :: us).length * 15 by simp;omega]
  exact hr
mutual
theorem NdOwn.isIn {w:World} {sl:Value}:∀ {t:Nd} {fp:List Nat} {F:Nat→Prop},NdOwn w sl t fp→(∀ b∈fp,F b)→NdIn w F sl t
 | .mk _ ts,fp,F,h,hF=>by
  rw [NdOwn] at h
  rw [NdIn]
  rcases h with ⟨rfl,rfl,rfl⟩|⟨b,c,fps,cs,rfl,h2,h3,h4,h5,h6,rfl,h8⟩
  ·exact ⟨none,0,rfl,by simp,by unfold maxLen;omega,.inl ⟨rfl,.inl rfl⟩⟩
  ·refine ⟨_,c,rfl,h3,h4,.inr ⟨b,0,rfl,hF b (List.mem_cons_self),?_⟩⟩
   exact NdsOwn.isIn h8 (fun b' hb'=>hF b' (List.mem_cons_of_mem _ hb'))
theorem NdsOwn.isIn {w:World} {b:Nat}:∀ {ts:List Nd} {o:Nat} {fp:List Nat} {F:Nat→Prop},NdsOwn w b o ts fp→(∀ b∈fp,F b)→NdsIn w F b o ts
 | [],_,_,_,_,_=>by rw [NdsIn];trivial
 | t :: ts,o,fp,F,h,hF=>by
  rw [NdsOwn] at h
  obtain ⟨sl,f1,f2,h1,h2,rfl,h4⟩:=h
  rw [NdsIn]
  exact ⟨⟨sl,h1,NdOwn.isIn h2 (fun b hb=>hF b (List.mem_append_left _ hb))⟩,NdsOwn.isIn h4 (fun b hb=>hF b (List.mem_append_right _ hb))⟩
end
theorem NdOwn.one {w:World} {sl:Value} {t:Nd} {fp:List Nat} (h:NdOwn w sl t fp):sl.oneCell'=true:=(h.isIn (F:=fun _=>True) (fun _ _=>trivial)).one
structure Own (w:World) (B:Nat) (sl:Value) (t:Nd) (fp:List Nat):Prop where
 own:NdOwn w sl t fp
 nodup:fp.Nodup
 new:∀ b∈fp,B≤b∧b < w.heap.size
theorem Own.below {w w':World} {B:Nat} {sl:Value} {t:Nd} {fp:List Nat} (h:Own w B sl t fp) (g:Below w.heap.size w w'):Own w' B sl t fp:=
 ⟨h.own.mono (fun b hb=>g.block b (h.new b hb).2),h.nodup,fun b hb=>⟨(h.new b hb).1,Nat.lt_of_lt_of_le (h.new b hb).2 g.size⟩⟩
theorem Own.le {w:World} {B B':Nat} {sl:Value} {t:Nd} {fp:List Nat} (h:Own w B sl t fp) (hB:B'≤B):Own w B' sl t fp:=
 ⟨h.own,h.nodup,fun b hb=>⟨Nat.le_trans hB (h.new b hb).1,(h.new b hb).2⟩⟩
theorem Own.isIn {w:World} {B:Nat} {sl:Value} {t:Nd} {fp:List Nat} (h:Own w B sl t fp):NdIn w (fun b=>B≤b∧b < w.heap.size) sl t:=h.own.isIn h.new
end Go.Proofs.YtnceajanlnnfoaaGreatDoor
namespace Go.Proofs.YtnceajanlnnfoaaGreatDoor
open Go.RowKit
section
variable {P:Program} {ops:Array Oper} {Q:Exit→Act→World→Prop} {md:Region.Mode} {S:World→Prop}
theorem wpH_takes {i:Nat} {oi:Oper} {v:Value} {n:Nat} {on:Array Bool} {a:Act} {w:World} (d:Option Tmp) (hi:ops[i]? = some oi) (hd:oi.dst=d) (hs:Region.noSelect ops=true) (hf:Region.free md ops on i=true) (hr:(Region.ready md ops on).contains i=true)
  (hQ:∀ c a w,Q (.panic c) (a.put d v) w→Q (.panic c) a w) (hy:YieldsIf P ops S oi v a) (hS:S w) (h:wpAnyH P md ops Q S n (on.setIfInBounds i true) (a.put d v) w):wpAnyH P md ops Q S (n+1) on a w:=by
 subst hd
 exact wpAnyH_take hi hs hf hr hQ hy hS h
theorem wpH_step {i:Nat} {o:Oper} {n:Nat} {on:Array Bool} {a:Act} {w:World} (hr:Region.ready md ops on=[i]) (ho:ops[i]? = some o) (hg:o.guard=none)
  (h:∀ K':Act→World→Prop,Hid (∀ a w,S w→(S w→wpAnyH P md ops Q S n (on.setIfInBounds i true) a w)→K' a w)→o.wp P a w K' Q):wpAnyH P md ops Q S (n+1) on a w:=by
 refine wpAnyH_all hr (by simp) (fun j hj=>?_)
 obtain rfl:=List.mem_singleton.1 hj
 unfold wpOp
 rw [ho]
 simp only [Region.wanted,hg,if_true]
 exact .inl (h _ (fun a w hS hW=>⟨hS,hW hS⟩))
theorem wp_region_hel {id:Nat} {a:Act} {w:World} (S:World→Prop) (hm:P.follows .mixedOrders=true) (hS:S w.drew) (h:S w.drew→wpAnyH P .any ops Q S ops.size (Array.replicate ops.size false) a w.drew):(Code.region id ops true).wp P Q a w:=
 wp_region_held hm (h hS)
end
end Go.Proofs.YtnceajanlnnfoaaGreatDoor
namespace Go.Proofs.YtnceajanlnnfoaaGreatDoor
open Go.RowKit
section
variable {P:Program} {ops:Array Oper} {Q:Exit→Act→World→Prop} {md:Region.Mode} {S:World→Prop} {z:Nat}
def wpBut (P:Program) (md:Region.Mode) (ops:Array Oper) (Q:Exit→Act→World→Prop) (S:World→Prop) (z:Nat):Nat→Array Bool→Act→World→Prop
 | 0,on,a,w=>Region.ready md ops on=[]∧Q .normal a w
 | n+1,on,a,w=>(Region.ready md ops on=[]→Q .normal a w) ∧
   ∀ i∈Region.ready md ops on,wpOp P ops Q i (fun a' w'=>(i≠z→S w')∧wpBut P md ops Q S z n (on.setIfInBounds i true) a' w') a w
theorem wpBut_any:∀ (n:Nat) (on:Array Bool) (a:Act) (w:World),wpBut P md ops Q S z n on a w→wpAny P md ops Q n on a w
 | 0,_,_,_,h=>h
 | n+1,_,_,_,h=>⟨h.1,fun i hi=>wpOp_mono (fun a' w' h'=>wpBut_any n _ a' w' h'.2) (h.2 i hi)⟩
def zWaits (md:Region.Mode) (ops:Array Oper) (z i:Nat):Bool:=match ops[z]? with|some o=>o.after.any (fun e=>Region.binds md e && e.on == i)|none=>false
theorem not_ready_of_waits {on:Array Bool} {i:Nat} (h:zWaits md ops z i=true) (hi:on.getD i false=false):z ∉ Region.ready md ops on:=by
 intro hz
 obtain ⟨_,o,ho,hall⟩:=mem_ready.1 hz
 unfold zWaits at h
 rw [ho] at h
 obtain ⟨e,he,hb⟩:=Array.any_eq_true'.1 h
 simp only [Bool.and_eq_true,beq_iff_eq] at hb
 have:=hall e he hb.1
 rw [hb.2,hi] at this
 cases this
theorem getD_swap {on:Array Bool} {i:Nat} (h:on.getD i true=false):on.getD i false=false:=by
 rcases Nat.lt_or_ge i on.size with hl|hl
 ·simp [hl] at h ⊢;exact h
 ·simp [Nat.not_lt.2 hl] at h
theorem wpBut_front {i:Nat} {oi:Oper} {v:Value} (hi:ops[i]? = some oi) (hsel:∀ (j:Nat) (o:Oper) cs b,ops[j]? = some o→o.op ≠ .select cs b) (hzi:zWaits md ops z i=true)
  (hQ:∀ c a w,Q (.panic c) (a.put oi.dst v) w→Q (.panic c) a w) (n:Nat) :
  ∀ (on:Array Bool) (a:Act) (w:World),
   (∀ j oj,ops[j]? = some oj→j≠i→on.getD j true=false→(∀ e∈oj.after,Region.binds md e=true→e.on≠i)→oi.apart ops oj=true) →
   i∈Region.ready md ops on→YieldsIf P ops S oi v a→S w→wpBut P md ops Q S z n (on.setIfInBounds i true) (a.put oi.dst v) w→wpBut P md ops Q S z (n+1) on a w:=by
 have hiz:∀ on:Array Bool,i∈Region.ready md ops on→z ∉ Region.ready md ops on:=fun on hr=>not_ready_of_waits hzi (getD_swap (mem_ready.1 hr).1)
 induction n with
 | zero=>
  intro on a w _ hr hy hS H
  refine ⟨fun h=>(by rw [h] at hr;cases hr),fun j hj=>?_⟩
  rcases Decidable.em (j=i) with rfl|hji
  ·exact hy.wpOp hi hS ⟨fun _=>hS,H⟩
  ·have hc:=ready_mono hj hji
   rw [H.1] at hc
   cases hc
 | succ n ih=>
  intro on a w hfree hr hy hS H
  refine ⟨fun h=>(by rw [h] at hr;cases hr),fun j hj=>?_⟩
  rcases Decidable.em (j=i) with rfl|hji
  ·exact hy.wpOp hi hS ⟨fun _=>hS,H⟩
  ·have hjz:j≠z:=fun e=>hiz on hr (e ▸ hj)
   obtain ⟨hjun,oj,hoj,hall⟩:=mem_ready.1 hj
   have hun:=getD_swap (mem_ready.1 hr).1
   have hno:∀ e∈oj.after,Region.binds md e=true→e.on≠i:=fun e he hb heq=>by
    have h1:=hall e he hb
    rw [heq,hun] at h1
    cases h1
   have h2:=wpOp_putIf hoj (hfree j oj hoj hji hjun hno) (fun cs b=>hsel i oi cs b hi) (fun cs b=>hsel j oj cs b hoj) hQ hy (H.2 j (ready_mono hj hji))
   refine wpOp_mono (fun a' w' h3=>⟨fun _=>h3.2.1 hjz,ih (on.setIfInBounds j true) a' w' ?_ (ready_mono hr (Ne.symm hji)) h3.1 (h3.2.1 hjz) ?_⟩) h2
   ·intro k ok hk hki hkun hkno
    refine hfree k ok hk hki ?_ hkno
    rcases Decidable.em (j=k) with rfl|hjk
    ·exact hjun
    ·rw [getD_set_ne true hjk] at hkun;exact hkun
   ·rw [Array.setIfInBounds_comm _ _ hji]
    exact h3.2.2
theorem wpBut_take {i:Nat} {oi:Oper} {v:Value} {n:Nat} {on:Array Bool} {a:Act} {w:World} (hi:ops[i]? = some oi) (hs:Region.noSelect ops=true) (hf:Region.free md ops on i=true) (hr:(Region.ready md ops on).contains i=true) (hz:zWaits md ops z i=true)
  (hQ:∀ c a w,Q (.panic c) (a.put oi.dst v) w→Q (.panic c) a w) (hy:YieldsIf P ops S oi v a) (hS:S w) (h:wpBut P md ops Q S z n (on.setIfInBounds i true) (a.put oi.dst v) w):wpBut P md ops Q S z (n+1) on a w:=
 wpBut_front hi (Region.noSelect_spec hs) hz hQ n on a w (Region.free_spec hi hf) (by simpa using hr) hy hS h
theorem wpBut_takes {i:Nat} {oi:Oper} {v:Value} {n:Nat} {on:Array Bool} {a:Act} {w:World} (d:Option Tmp) (hi:ops[i]? = some oi) (hd:oi.dst=d) (hs:Region.noSelect ops=true) (hf:Region.free md ops on i=true) (hr:(Region.ready md ops on).contains i=true) (hz:zWaits md ops z i=true)
  (hQ:∀ c a w,Q (.panic c) (a.put d v) w→Q (.panic c) a w) (hy:YieldsIf P ops S oi v a) (hS:S w) (h:wpBut P md ops Q S z n (on.setIfInBounds i true) (a.put d v) w):wpBut P md ops Q S z (n+1) on a w:=by
 subst hd
 exact wpBut_take hi hs hf hr hz hQ hy hS h
theorem wpBut_one {i:Nat} {n:Nat} {on:Array Bool} {a:Act} {w:World} (hr:Region.ready md ops on=[i]) (h:wpOp P ops Q i (fun a' w'=>(i≠z→S w')∧wpBut P md ops Q S z n (on.setIfInBounds i true) a' w') a w):wpBut P md ops Q S z (n+1) on a w:=
 ⟨fun h0=>(by rw [hr] at h0;cases h0),fun j hj=>(by rw [hr] at hj;obtain rfl:=List.mem_singleton.1 hj;exact h)⟩
theorem wpBut_done {n:Nat} {on:Array Bool} {a:Act} {w:World} (hr:Region.ready md ops on=[]) (h:Q .normal a w):wpBut P md ops Q S z n on a w:=by
 cases n with
 | zero=>exact ⟨hr,h⟩
 | succ n=>exact ⟨fun _=>h,by rw [hr];simp⟩
theorem wpBut_step {i:Nat} {o:Oper} {n:Nat} {on:Array Bool} {a:Act} {w:World} (hr:Region.ready md ops on=[i]) (ho:ops[i]? = some o) (hg:o.guard=none)
  (h:∀ K':Act→World→Prop,Hid (∀ a w,(i≠z→S w)→((i≠z→S w)→wpBut P md ops Q S z n (on.setIfInBounds i true) a w)→K' a w)→o.wp P a w K' Q):wpBut P md ops Q S z (n+1) on a w:=by
 refine wpBut_one hr ?_
 unfold wpOp
 rw [ho]
 simp only [Region.wanted,hg,if_true]
 exact .inl (h _ (fun a w hS hW=>⟨hS,hW hS⟩))
theorem wp_region_but {id:Nat} {a:Act} {w:World} (S:World→Prop) (z:Nat) (hm:P.follows .mixedOrders=true) (hS:S w.drew) (h:S w.drew→wpBut P .any ops Q S z ops.size (Array.replicate ops.size false) a w.drew):(Code.region id ops true).wp P Q a w:=
 wp_region_any hm (wpBut_any _ _ _ _ (h hS))
end
end Go.Proofs.YtnceajanlnnfoaaGreatDoor
namespace Go.Proofs.YtnceajanlnnfoaaGreatDoor
open Go.RowKit
theorem modify_comm {α:Type} (xs:Array α) (i j:Nat) (f g:α→α) (h:i≠j):(xs.modify i f).modify j g=(xs.modify j g).modify i f:=by
 apply Array.ext_getElem?
 intro k
 simp only [Array.getElem?_modify]
 by_cases h1:j=k
 ·subst h1
  simp [h]
 ·simp [h1]
theorem setCell_comm (w:World) (a b:Addr) (u v:Value) (h:a.block≠b.block):(w.setCell a u).setCell b v=(w.setCell b v).setCell a u:=by
 unfold World.setCell
 simp only
 rw [modify_comm _ _ _ _ _ h]
theorem setCells_setCell {a:Addr} {v:Value} {b:Nat} (h:a.block≠b):∀ (vs:List Value) (o:Nat) (w:World),(w.setCell a v).setCells b o vs=(w.setCells b o vs).setCell a v
 | [],_,_=>rfl
 | x :: vs,o,w=>by
  rw [World.setCells,World.setCells,← setCells_setCell h vs,setCell_comm _ _ _ _ _ h]
section
variable {P:Program} {ops:Array Oper} {Q:Exit→Act→World→Prop} {md:Region.Mode} {S:World→Prop} {Z:Nat→Bool}
def wpPh (P:Program) (md:Region.Mode) (ops:Array Oper) (Q:Exit→Act→World→Prop) (S:World→Prop) (Z:Nat→Bool):Nat→Array Bool→Act→World→Prop
 | 0,on,a,w=>Region.ready md ops on=[]∧Q .normal a w
 | n+1,on,a,w=>(Region.ready md ops on=[]→Q .normal a w) ∧
   ∀ i∈Region.ready md ops on,wpOp P ops Q i (fun a' w'=>(Z i=false→S w')∧wpPh P md ops Q S Z n (on.setIfInBounds i true) a' w') a w
theorem wpPh_any:∀ (n:Nat) (on:Array Bool) (a:Act) (w:World),wpPh P md ops Q S Z n on a w→wpAny P md ops Q n on a w
 | 0,_,_,_,h=>h
 | n+1,_,_,_,h=>⟨h.1,fun i hi=>wpOp_mono (fun a' w' h'=>wpPh_any n _ a' w' h'.2) (h.2 i hi)⟩
theorem wpPh_of_any:∀ (n:Nat) (on:Array Bool) (a:Act) (w:World),(∀ i o,ops[i]? = some o→on.getD i true=false→Z i=true)→wpAny P md ops Q n on a w→wpPh P md ops Q S Z n on a w
 | 0,_,_,_,_,h=>h
 | n+1,on,_,_,hl,h=>⟨h.1,fun i hi=>wpOp_mono (fun a' w' h'=>by
   obtain ⟨hun,o,ho,_⟩:=mem_ready.1 hi
   refine ⟨fun hz=>?_,wpPh_of_any n _ a' w' (fun j oj hj hjun=>?_) h'⟩
   ·rw [hl i o ho hun] at hz;cases hz
   ·refine hl j oj hj ?_
    rcases Decidable.em (i=j) with rfl|hij
    ·exact hun
    ·rw [getD_set_ne true hij] at hjun;exact hjun) (h.2 i hi)⟩
def allLate (ops:Array Oper) (Z:Nat→Bool) (on:Array Bool):Bool:=(List.range ops.size).all fun i=>on.getD i true || Z i
theorem allLate_spec {on:Array Bool} (h:allLate ops Z on=true) (i:Nat) (o:Oper) (ho:ops[i]? = some o) (hi:on.getD i true=false):Z i=true:=by
 unfold allLate at h
 have:=List.all_eq_true.1 h i (List.mem_range.2 (Array.getElem?_eq_some_iff.1 ho).1)
 rw [hi] at this
 simpa using this
theorem wpPh_anew {S':World→Prop} {Z':Nat→Bool} {n:Nat} {on:Array Bool} {a:Act} {w:World} (hl:allLate ops Z on=true) (h:wpPh P md ops Q S' Z' n on a w):wpPh P md ops Q S Z n on a w:=
 wpPh_of_any n on a w (allLate_spec hl) (wpPh_any n on a w h)
def lateW (md:Region.Mode) (ops:Array Oper) (Z:Nat→Bool) (i:Nat):Bool:=(List.range ops.size).all fun j=>!Z j || zWaits md ops j i
theorem not_late {on:Array Bool} {i j:Nat} (h:lateW md ops Z i=true) (hi:on.getD i false=false) (hj:j∈Region.ready md ops on):Z j=false:=by
 obtain ⟨_,o,ho,_⟩:=mem_ready.1 hj
 unfold lateW at h
 have h1:=List.all_eq_true.1 h j (List.mem_range.2 (Array.getElem?_eq_some_iff.1 ho).1)
 cases hz:Z j with
 | false=>rfl
 | true=>
  rw [hz] at h1
  exact absurd hj (not_ready_of_waits (by simpa using h1) hi)
theorem wpPh_front {i:Nat} {oi:Oper} {v:Value} (hi:ops[i]? = some oi) (hsel:∀ (j:Nat) (o:Oper) cs b,ops[j]? = some o→o.op ≠ .select cs b) (hzi:lateW md ops Z i=true)
  (hQ:∀ c a w,Q (.panic c) (a.put oi.dst v) w→Q (.panic c) a w) (n:Nat) :
  ∀ (on:Array Bool) (a:Act) (w:World),
   (∀ j oj,ops[j]? = some oj→j≠i→on.getD j true=false→(∀ e∈oj.after,Region.binds md e=true→e.on≠i)→oi.apart ops oj=true) →
   i∈Region.ready md ops on→YieldsIf P ops S oi v a→S w→wpPh P md ops Q S Z n (on.setIfInBounds i true) (a.put oi.dst v) w→wpPh P md ops Q S Z (n+1) on a w:=by
 have hiz:∀ (on:Array Bool) (j:Nat),i∈Region.ready md ops on→j∈Region.ready md ops on→Z j=false:=fun on j hr hj=>not_late hzi (getD_swap (mem_ready.1 hr).1) hj
 induction n with
 | zero=>
  intro on a w _ hr hy hS H
  refine ⟨fun h=>(by rw [h] at hr;cases hr),fun j hj=>?_⟩
  rcases Decidable.em (j=i) with rfl|hji
  ·exact hy.wpOp hi hS ⟨fun _=>hS,H⟩
  ·have hc:=ready_mono hj hji
   rw [H.1] at hc
   cases hc
 | succ n ih=>
  intro on a w hfree hr hy hS H
  refine ⟨fun h=>(by rw [h] at hr;cases hr),fun j hj=>?_⟩
  rcases Decidable.em (j=i) with rfl|hji
  ·exact hy.wpOp hi hS ⟨fun _=>hS,H⟩
  ·have hjz:Z j=false:=hiz on j hr hj
   obtain ⟨hjun,oj,hoj,hall⟩:=mem_ready.1 hj
   have hun:=getD_swap (mem_ready.1 hr).1
   have hno:∀ e∈oj.after,Region.binds md e=true→e.on≠i:=fun e he hb heq=>by
    have h1:=hall e he hb
    rw [heq,hun] at h1
    cases h1
   have h2:=wpOp_putIf hoj (hfree j oj hoj hji hjun hno) (fun cs b=>hsel i oi cs b hi) (fun cs b=>hsel j oj cs b hoj) hQ hy (H.2 j (ready_mono hj hji))
   refine wpOp_mono (fun a' w' h3=>⟨fun _=>h3.2.1 hjz,ih (on.setIfInBounds j true) a' w' ?_ (ready_mono hr (Ne.symm hji)) h3.1 (h3.2.1 hjz) ?_⟩) h2
   ·intro k ok hk hki hkun hkno
    refine hfree k ok hk hki ?_ hkno
    rcases Decidable.em (j=k) with rfl|hjk
    ·exact hjun
    ·rw [getD_set_ne true hjk] at hkun;exact hkun
   ·rw [Array.setIfInBounds_comm _ _ hji]
    exact h3.2.2
theorem wpPh_takes {i:Nat} {oi:Oper} {v:Value} {n:Nat} {on:Array Bool} {a:Act} {w:World} (d:Option Tmp) (hi:ops[i]? = some oi) (hd:oi.dst=d) (hs:Region.noSelect ops=true) (hf:Region.free md ops on i=true) (hr:(Region.ready md ops on).contains i=true) (hz:lateW md ops Z i=true)
  (hQ:∀ c a w,Q (.panic c) (a.put d v) w→Q (.panic c) a w) (hy:YieldsIf P ops S oi v a) (hS:S w) (h:wpPh P md ops Q S Z n (on.setIfInBounds i true) (a.put d v) w):wpPh P md ops Q S Z (n+1) on a w:=by
 subst hd
 exact wpPh_front hi (Region.noSelect_spec hs) hz hQ n on a w (Region.free_spec hi hf) (by simpa using hr) hy hS h
theorem wpPh_done {n:Nat} {on:Array Bool} {a:Act} {w:World} (hr:Region.ready md ops on=[]) (h:Q .normal a w):wpPh P md ops Q S Z n on a w:=by
 cases n with
 | zero=>exact ⟨hr,h⟩
 | succ n=>exact ⟨fun _=>h,by rw [hr];simp⟩
theorem wpPh_step {i:Nat} {o:Oper} {n:Nat} {on:Array Bool} {a:Act} {w:World} (hr:Region.ready md ops on=[i]) (ho:ops[i]? = some o) (hg:o.guard=none)
  (h:∀ K':Act→World→Prop,Hid (∀ a w,(Z i=false→S w)→wpPh P md ops Q S Z n (on.setIfInBounds i true) a w→K' a w)→o.wp P a w K' Q):wpPh P md ops Q S Z (n+1) on a w:=by
 refine ⟨fun h0=>(by rw [hr] at h0;cases h0),fun j hj=>?_⟩
 rw [hr] at hj
 obtain rfl:=List.mem_singleton.1 hj
 unfold wpOp
 rw [ho]
 simp only [Region.wanted,hg,if_true]
 exact .inl (h _ (fun a w hS hW=>⟨hS,hW⟩))
theorem wpPh_fork {i j:Nat} {oi oj:Oper} {n:Nat} {on:Array Bool} {a:Act} {w:World} (hr:Region.ready md ops on=[i,j]) (hoi:ops[i]? = some oi) (hoj:ops[j]? = some oj) (hgi:oi.guard=none) (hgj:oj.guard=none)
  (h1:∀ K':Act→World→Prop,Hid (∀ a w,(Z i=false→S w)→wpPh P md ops Q S Z n (on.setIfInBounds i true) a w→K' a w)→oi.wp P a w K' Q)
  (h2:∀ K':Act→World→Prop,Hid (∀ a w,(Z j=false→S w)→wpPh P md ops Q S Z n (on.setIfInBounds j true) a w→K' a w)→oj.wp P a w K' Q):wpPh P md ops Q S Z (n+1) on a w:=by
 refine ⟨fun h0=>(by rw [hr] at h0;cases h0),fun k hk=>?_⟩
 rw [hr] at hk
 rcases List.mem_cons.1 hk with rfl|hk
 ·unfold wpOp
  rw [hoi]
  simp only [Region.wanted,hgi,if_true]
  exact .inl (h1 _ (fun a w hS hW=>⟨hS,hW⟩))
 ·obtain rfl:=List.mem_singleton.1 hk
  unfold wpOp
  rw [hoj]
  simp only [Region.wanted,hgj,if_true]
  exact .inl (h2 _ (fun a w hS hW=>⟨hS,hW⟩))
theorem wp_region_ph {id:Nat} {a:Act} {w:World} (S:World→Prop) (Z:Nat→Bool) (hm:P.follows .mixedOrders=true) (hS:S w.drew) (h:S w.drew→wpPh P .any ops Q S Z ops.size (Array.replicate ops.size false) a w.drew):(Code.region id ops true).wp P Q a w:=
 wp_region_any hm (wpPh_any _ _ _ _ (h hS))
end
end Go.Proofs.YtnceajanlnnfoaaGreatDoor
namespace Go.Proofs.YtnceajanlnnfoaaGreatDoor
open Go.RowKit
theorem run_append_tell {P:Program} (w:World) (base:Nat) (t ty e:TypeId) (i:TypeInfo) (z:Value) (size bytes:Nat) (h1:P.underlying t=some (.slice e)) (h2:P.info? e=some i) (h3:i.zero=some z) (h4:i.size=size) (h5:i.bytes=bytes) (h6:z.cells.size=size) (h7:0 < size)
  (v:Value) (n:Nat) (xs:List Value) (hown:w.ownsRow base e size v n xs)
  (ad:Addr) (m c:Nat) (news:List Value) (hn:news.length=m * size) (hc:∀ j u,news[j]? = some u→w.cell? (ad.add j)=some u) (h1c:∀ u∈news,u.oneCell'=true)
  (hm:0 < m) (b1:n+m≤maxLen) (b2:(n+m) * bytes≤140737488355328) (hbase:base≤w.heap.size) :
  ∃ g c' w',(Builtin.append_ #[t,t] ty #[v,.slice (some ad) m c]).run P w=.ok (.slice (some ⟨g,0,none⟩) (n+m) c') w'∧w'.ownsRow base e size (.slice (some ⟨g,0,none⟩) (n+m) c') (n+m) (xs ++ news)∧w.grownBy w' v.ownBlock∧(v.ownBlock=some g∨w.heap.size≤g):=by
 have fin:∀ v' w',(Builtin.append_ #[t,t] ty #[v,.slice (some ad) m c]).run P w=.ok v' w'→w'.ownsRow w.heap.size e size v' (n+m) (xs ++ news)→w.grownBy w' none →
   ∃ g c' w',(Builtin.append_ #[t,t] ty #[v,.slice (some ad) m c]).run P w=.ok (.slice (some ⟨g,0,none⟩) (n+m) c') w'∧w'.ownsRow base e size (.slice (some ⟨g,0,none⟩) (n+m) c') (n+m) (xs ++ news)∧w.grownBy w' v.ownBlock∧(v.ownBlock=some g∨w.heap.size≤g):=by
  intro v' w' hrun ho hgr
  rcases ho.2 with ⟨_,h0⟩|⟨g,c',cur,rfl,hbg,r⟩
  ·omega
  ·exact ⟨g,c',w',hrun,⟨ho.1,.inr ⟨g,c',cur,rfl,Nat.le_trans hbase hbg,r⟩⟩,⟨hgr.os,hgr.tape,hgr.output,hgr.size,fun k hk _=>hgr.block k hk (by simp)⟩,.inr hbg⟩
 have hown':=hown
 rcases hown with ⟨hxl,⟨rfl,rfl⟩|⟨g,cap,cur,rfl,hb,hgg,hnc,hcm,hcs,htk⟩⟩
 ·have hxs:xs=[]:=List.length_eq_zero_iff.1 (by rw [hxl];simp)
  subst hxs
  obtain ⟨v',w',hrun,r1,r2,_⟩:=run_append_own (P:=P) w w.heap.size t ty e i z size bytes h1 h2 h3 h4 h5 h6 h7 (.slice none 0 0) 0 [] (World.ownsRow_nil w _ e size) ad m c news hn hc h1c b1 b2 (Nat.le_refl _)
  exact fin v' w' hrun r1 r2
 ·by_cases hfit:n+m≤cap
  ·obtain ⟨w',hrun,r1,r2⟩:=run_append_fits (P:=P) w base t ty e i size h1 h2 h4 g n cap xs hown' ad m c news hn hc h1c hfit
   exact ⟨g,cap,w',hrun,r1,r2,.inl rfl⟩
  ·obtain ⟨v',w',hrun,r1,r2⟩:=run_append_arg_grows (P:=P) w t ty e i z size bytes h1 h2 h3 h4 h5 h6 h7 ⟨g,0,none⟩ n cap xs hxl (hown'.cells rfl) ad m c news hn hc (by omega) b1 b2
   exact fin v' w' hrun r1 r2
theorem wp_append_tell {P:Program} (w:World) {o:Oper} {a:Act} {K:Act→World→Prop} {Q:Exit→Act→World→Prop} (s x:Operand) (t:TypeId) (ho:o.op=Op.call { callee:=Callee.builtin Builtin.append,args:=#[s,x],argTypes:=#[t,t] })
  (base:Nat) (e:TypeId) (i:TypeInfo) (z:Value) (size bytes:Nat) (h1:P.underlying t=some (.slice e)) (h2:P.info? e=some i) (h3:i.zero=some z) (h4:i.size=size) (h5:i.bytes=bytes) (h6:z.cells.size=size) (h7:0 < size)
  (v:Value) (n:Nat) (xs:List Value) (hs:a.eval s=v) (hown:w.ownsRow base e size v n xs)
  (ad:Addr) (m c:Nat) (news:List Value) (hx:a.eval x=.slice (some ad) m c) (hn:news.length=m * size) (hc:∀ j u,news[j]? = some u→w.cell? (ad.add j)=some u) (h1c:∀ u∈news,u.oneCell'=true)
  (hm:0 < m) (b1:n+m≤maxLen) (b2:(n+m) * bytes≤140737488355328) (hbase:base≤w.heap.size)
  (h:∀ g c' w',w'.ownsRow base e size (.slice (some ⟨g,0,none⟩) (n+m) c') (n+m) (xs ++ news)→w.grownBy w' v.ownBlock→(v.ownBlock=some g∨w.heap.size≤g)→K (a.put o.dst (.slice (some ⟨g,0,none⟩) (n+m) c')) w'):o.wp P a w K Q:=by
 obtain ⟨g,c',w',hr,h2',h3',h4'⟩:=run_append_tell (P:=P) w base t o.type e i z size bytes h1 h2 h3 h4 h5 h6 h7 v n xs hown ad m c news hn hc h1c hm b1 b2 hbase
 unfold Oper.wp execOp
 simp only [ho,resolve,invoke,builtin,Sem.run_bind,Sem.run_pure,Result.andThen_ok,List.map_toArray,List.map_cons,List.map_nil,hs,hx,hr]
 exact h g c' w' h2' h3' h4'
theorem NdsOwn.move {w w':World} {b b':Nat}:∀ {ts:List Nd} {o:Nat} {fp:List Nat},NdsOwn w b o ts fp→(∀ o' cs,o≤o'→o'+cs.length≤o+ts.length * 15→w.rangeAt b o' cs→w'.rangeAt b' o' cs)→(∀ b∈fp,w'.heap[b]? = w.heap[b]?)→NdsOwn w' b' o ts fp
 | [],_,_,h,_,_=>by rw [NdsOwn] at h ⊢;exact h
 | t :: ts,o,fp,h,hr,hF=>by
  rw [NdsOwn] at h ⊢
  obtain ⟨sl,f1,f2,h1,h2,rfl,h4⟩:=h
  refine ⟨sl,f1,f2,hr o _ (Nat.le_refl _) (by simp;omega) h1,NdOwn.mono h2 (fun b hb=>hF b (List.mem_append_left _ hb)),rfl,?_⟩
  exact NdsOwn.move h4 (fun o' cs g1 g2 g3=>hr o' cs (by omega) (by simp at g2 ⊢;omega) g3) (fun b hb=>hF b (List.mem_append_right _ hb))
theorem Own.row {w:World} {B:Nat} {v:Value} {h:Hd} {us:List Nd} {fp:List Nat} (q:Own w B v (.mk h us) fp):∃ xs,w.ownsRow B 64 15 v us.length xs:=by
 have q1:=q.own
 rw [NdOwn] at q1
 rcases q1 with ⟨rfl,rfl,_⟩|⟨b,c,fps,cs,rfl,h2,h3,h4,h5,h6,rfl,h8⟩
 ·exact ⟨[],World.ownsRow_nil _ _ _ _⟩
 ·refine ⟨cs.toList.take (us.length * 15),?_,.inr ⟨b,c,cs,rfl,(q.new b (List.mem_cons_self)).1,h5,h3,h4,h6,rfl⟩⟩
  have hl:cs.toList.length=c * 15:=by simpa using h6
  rw [List.length_take,hl]
  exact Nat.min_eq_left (Nat.mul_le_mul_right 15 h3)
theorem addr_at (b off i:Nat):(⟨b,off,none⟩:Addr).add i=⟨b,off+i,none⟩:=by unfold Addr.add;split <;> simp_all
theorem Own.grow {w w':World} {B:Nat} {v:Value} {h:Hd} {us:List Nd} {fp:List Nat} {xs:List Value} (q:Own w B v (.mk h us) fp) (hx:w.ownsRow B 64 15 v us.length xs)
  {sl:Value} {u:Nd} {f:List Nat} (hu:Own w B sl u f) (hd:∀ b∈f,b ∉ fp) {g c:Nat}
  (ho:w'.ownsRow B 64 15 (.slice (some ⟨g,0,none⟩) (us.length+1) c) (us.length+1) (xs ++ u.hd.cells sl)) (hg:w.grownBy w' v.ownBlock) (ht:v.ownBlock=some g∨w.heap.size≤g) (h':Hd) :
  ∃ fp',Own w' B (.slice (some ⟨g,0,none⟩) (us.length+1) c) (.mk h' (us ++ [u])) fp':=by
 have hcell:∀ j x,(xs ++ u.hd.cells sl)[j]? = some x→w'.cell? ⟨g,j,none⟩=some x:=fun j x hj=>by
  have:=ho.cells (g:=g) rfl j x hj
  rw [addr_at,Nat.zero_add] at this;exact this
 have hrow:∃ cur,w'.heap[g]? = some (.cells cur 64 (0,0))∧B≤g∧us.length+1≤c∧c≤maxLen∧cur.size=c * 15:=by
  rcases ho.2 with ⟨e,_⟩|⟨g',c',cur,e,hbg,hgg,hnc,hcm,hcs,_⟩
  ·cases e
  ·simp only [Value.slice.injEq,Option.some.injEq,Addr.mk.injEq] at e
   obtain ⟨⟨rfl,_⟩,_,rfl⟩:=e
   exact ⟨cur,hgg,hbg,hnc,hcm,hcs⟩
 obtain ⟨cur,hgg,hbg,hnc,hcm,hcs⟩:=hrow
 have hgl:g < w'.heap.size:=(Array.getElem?_eq_some_iff.1 hgg).1
 have hxl:xs.length=us.length * 15:=hx.1
 have hru:w'.rangeAt g (0+us.length * 15) (u.hd.cells sl):=by
  intro j x hj
  refine hcell _ _ ?_
  rw [List.getElem?_append_right (by omega),show 0+us.length * 15+j - xs.length=j by omega]
  exact hj
 have q1:=q.own
 rw [NdOwn] at q1
 rcases q1 with ⟨rfl,rfl,rfl⟩|⟨b,c0,fps,cs,rfl,h2,h3,h4,h5,h6,rfl,h8⟩
 ·have hu':NdOwn w' sl u f:=hu.own.mono (fun b hb=>hg.block b (hu.new b hb).2 (by simp [Value.ownBlock]))
  have hgn:w.heap.size≤g:=by
   rcases ht with e|e
   ·simp [Value.ownBlock] at e
   ·exact e
  refine ⟨g :: f,?_,?_,?_⟩
  ·rw [NdOwn]
   refine .inr ⟨g,c,f,cur,by simp,by simp,by simpa using hnc,hcm,hgg,hcs,rfl,?_⟩
   have:=NdsOwn.snoc (b:=g) (us:=[]) (o:=0) (fps:=[]) hu' (by rw [NdsOwn]) hru
   simpa using this
  ·rw [List.nodup_cons]
   exact ⟨fun hb=>by have:=(hu.new g hb).2;omega,hu.nodup⟩
  ·intro b hb
   rcases List.mem_cons.1 hb with rfl|hb
   ·exact ⟨hbg,hgl⟩
   ·exact ⟨(hu.new b hb).1,Nat.lt_of_lt_of_le (hu.new b hb).2 hg.size⟩
 ·have hnd:=q.nodup
  rw [List.nodup_cons] at hnd
  have hblk:∀ k,k < w.heap.size→k≠b→w'.heap[k]? = w.heap[k]?:=fun k hk hne=>hg.block k hk (by simpa [Value.ownBlock] using hne)
  have hfb:∀ k∈f,k≠b:=fun k hk e=>hd k hk (e ▸ List.mem_cons_self)
  have hpb:∀ k∈fps,k≠b:=fun k hk e=>hnd.1 (e ▸ hk)
  have hu':NdOwn w' sl u f:=hu.own.mono (fun k hk=>hblk k (hu.new k hk).2 (hfb k hk))
  have hxc:∀ j,j < us.length * 15→xs[j]? = w.cell? ⟨b,j,none⟩:=by
   intro j hj
   rcases hx.2 with ⟨e,_⟩|⟨g',c',cur',e,_,hgg',_,_,_,htk⟩
   ·cases e
   ·simp only [Value.slice.injEq,Option.some.injEq,Addr.mk.injEq] at e
    obtain ⟨⟨rfl,_⟩,_⟩:=e
    rw [cell_of_row w b j cur' _ _ hgg',← htk,List.getElem?_take_of_lt hj];simp
  have hus:NdsOwn w' g 0 us fps:=by
   refine h8.move (fun o' cs' _ h10 hr=>?_) (fun k hk=>hblk k (q.new k (List.mem_cons_of_mem _ hk)).2 (hpb k hk))
   intro j x hj
   have hjl:j < cs'.length:=(List.getElem?_eq_some_iff.1 hj).1
   refine hcell _ _ ?_
   rw [List.getElem?_append_left (by omega),hxc _ (by omega)]
   exact hr j x hj
  have hgn:g=b∨w.heap.size≤g:=by
   rcases ht with e|e
   ·simp [Value.ownBlock] at e;exact .inl e.symm
   ·exact .inr e
  refine ⟨g :: (fps ++ f),?_,?_,?_⟩
  ·rw [NdOwn]
   refine .inr ⟨g,c,fps ++ f,cur,by simp,by simp,by simpa using hnc,hcm,hgg,hcs,rfl,NdsOwn.snoc hu' hus hru⟩
  ·rw [List.nodup_cons]
   refine ⟨fun hb=>?_,?_⟩
   ·rcases List.mem_append.1 hb with hb|hb
    ·rcases hgn with e|e
     ·exact hpb g hb e
     ·have:=(q.new g (List.mem_cons_of_mem _ hb)).2;omega
    ·rcases hgn with e|e
     ·exact hfb g hb e
     ·have:=(hu.new g hb).2;omega
   ·rw [List.nodup_append]
    exact ⟨hnd.2,hu.nodup,fun k hk k' hk' e=>hd k' hk' (e ▸ List.mem_cons_of_mem _ hk)⟩
  ·intro k hk
   rcases List.mem_cons.1 hk with rfl|hk
   ·exact ⟨hbg,hgl⟩
   ·rcases List.mem_append.1 hk with hk|hk
    ·exact ⟨(q.new k (List.mem_cons_of_mem _ hk)).1,Nat.lt_of_lt_of_le (q.new k (List.mem_cons_of_mem _ hk)).2 hg.size⟩
    ·exact ⟨(hu.new k hk).1,Nat.lt_of_lt_of_le (hu.new k hk).2 hg.size⟩
end Go.Proofs.YtnceajanlnnfoaaGreatDoor
namespace Go.Proofs.YtnceajanlnnfoaaGreatDoor
open Go.RowKit Go.Shelf
def Bw (w:World) (b:Nat) (g:Option Nat) (l:List UInt8):Prop:=
 ∃ p v,(p=.pointer none∨p=.pointer (some ⟨b,0,none⟩))∧w.heap[b]? = some (.cells #[p,v] 74 (0,0))∧w.ownsRowF 0 5 1 v l.length (Lib.byteCells l)∧v.ownBlock=g∧g≠some b
structure Wr (b:Nat) (w w':World) (g g':Option Nat):Prop where
 kp:Kp w w' (fun i=>i=b∨g=some i)
 row:g'=g∨∃ i,g'=some i∧w.heap.size≤i
theorem Wr.refl (b:Nat) (w:World) (g:Option Nat):Wr b w w g g:=⟨Kp.refl _ _,.inl rfl⟩
theorem Wr.trans {b:Nat} {w w1 w2:World} {g g1 g2:Option Nat} (h:Wr b w w1 g g1) (k:Wr b w1 w2 g1 g2):Wr b w w2 g g2:=by
 refine ⟨h.kp.trans' k.kp (fun i hi e=>?_),?_⟩
 ·rcases e with e|e
  ·exact .inl e
  ·rcases h.row with r|⟨j,r,hj⟩
   ·exact .inr (r ▸ e)
   ·rw [r] at e
    injection e with e
    omega
 ·rcases k.row with r|⟨j,r,hj⟩
  ·rw [r];exact h.row
  ·exact .inr ⟨j,r,Nat.le_trans h.kp.size hj⟩
theorem Wr.nul {b:Nat} {w w1:World} {g:Option Nat} (h:Kp w w1 Nul):Wr b w w1 g g:=⟨h.of_nul,.inl rfl⟩
theorem Bw.kp {w w':World} {b:Nat} {g:Option Nat} {l:List UInt8} (h:Bw w b g l) (k:Kp w w' Nul):Bw w' b g l:=by
 obtain ⟨p,v,hp,hb,ho,hg,hne⟩:=h
 have hlt:b < w.heap.size:=(Array.getElem?_eq_some_iff.1 hb).1
 refine ⟨p,v,hp,(k.block b hlt (fun x=>x)).trans hb,?_,hg,hne⟩
 refine ho.kept (row:=none) ⟨k.os,k.tape,k.output,k.size,fun i hi _=>k.block i hi (fun x=>x)⟩ ?_
 cases v.ownBlock <;> simp
theorem Bw.lt {w:World} {b:Nat} {g:Option Nat} {l:List UInt8} (h:Bw w b g l):b < w.heap.size:=by
 obtain ⟨p,v,hp,hb,_⟩:=h
 exact (Array.getElem?_eq_some_iff.1 hb).1
theorem infoBd:∃ j,Tryz.prog.info? 72=some j∧j.size=2:=by
 have h:(Tryz.prog.info? 72).map (·.size)=some 2:=by kernel_rfl
 exact Option.map_eq_some_iff.1 h
theorem liesW:liesAt Tryz.prog Tryz.prog.depth 74 (2 / Tryz.prog.cellsOf 74) 0 72 1=true:=by kernel_rfl
theorem infoU8:∃ i,Tryz.prog.info? 5=some i∧i.zero=some (.int .u8 0)∧i.size=1∧i.bytes=1:=by
 have h:(Tryz.prog.info? 5).map (fun i=>(i.zero,i.size,i.bytes))=some (some (.int .u8 0),1,1):=by kernel_rfl
 obtain ⟨i,h1,h2⟩:=Option.map_eq_some_iff.1 h
 obtain ⟨h3,h4⟩:=Prod.mk.inj h2
 obtain ⟨h5,h6⟩:=Prod.mk.inj h4
 exact ⟨i,h1,h3,h5,h6⟩
theorem neWU:(74:TypeId)≠5:=by decide
theorem bcheck_used (b:Nat) (w:World) (h0:w.cell? ⟨b,0,none⟩=some (.pointer (some ⟨b,0,none⟩))) :
  Calls Tryz.prog 66 #[.pointer (some ⟨b,0,none⟩)] w fun e w'=>e=.returned (.tuple #[])∧w'=w:=by
 obtain ⟨j,hj,_⟩:=infoBd
 go_enter Tryz.func66,Tryz.ntmps66
 go_wp2
 rw [Lib.run_neq_ptr_same w _ Tryz.underlying69 hj]
 go_wp2
 go_end0
 exact ⟨rfl,rfl⟩
theorem bcheck_new (b:Nat) (w:World) (h0:w.cell? ⟨b,0,none⟩=some (.pointer none)) (hsh:w.shape? b=some (74,2)) (hfz:w.frozen? ⟨b,0,none⟩=false) :
  Calls Tryz.prog 66 #[.pointer (some ⟨b,0,none⟩)] w fun e w'=>e=.returned (.tuple #[])∧w'=w.setCell ⟨b,0,none⟩ (.pointer (some ⟨b,0,none⟩)):=by
 obtain ⟨j,hj,hjs⟩:=infoBd
 go_enter Tryz.func66,Tryz.ntmps66
 go_wp2
 rw [Lib.run_to_unsafe w ⟨b,0,none⟩ Tryz.underlying69 Tryz.underlying197 hj (by rw [hjs];decide) hsh (Nat.zero_lt_succ 1)]
 simp only [Result.andThen]
 rw [Oper.upon_value]
 go_wp2
 rw [run_callFunc_extern Tryz.func122 (by kernel_rfl) (by kernel_rfl) (by kernel_rfl) (e:=Extern.AbiNoEscape.same) (by kernel_rfl)]
 rw [Lib.run_noEscape]
 simp only [Result.andThen]
 rw [Oper.upon_value]
 go_wp2
 rw [Lib.run_from_unsafe w ⟨b,0,none⟩ Tryz.underlying197 Tryz.underlying69 hj hsh liesW]
 simp only [Result.andThen]
 rw [Oper.upon_value]
 go_wp2
 go_end0
 exact ⟨rfl,rfl⟩
theorem bcheck_at (b:Nat) (g:Option Nat) (l:List UInt8) (w:World) (h:Bw w b g l) :
  Calls Tryz.prog 66 #[.pointer (some ⟨b,0,none⟩)] w fun e w'=>e=.returned (.tuple #[])∧(∃ v,w'.heap[b]? = some (.cells #[.pointer (some ⟨b,0,none⟩),v] 74 (0,0))∧w'.ownsRowF 0 5 1 v l.length (Lib.byteCells l)∧v.ownBlock=g)∧Wr b w w' g g:=by
 obtain ⟨p,v,hp,hb,ho,hg,hne⟩:=h
 have hl:(Lib.byteCells l).length=l.length:=Lib.byteCells_length l
 have hA:Lib.BuilderAtF 74 5 0 b p (Lib.byteCells l) w:=⟨Nat.zero_le _,v,hb,by rw [hl];exact ho,by rw [hg];exact hne⟩
 rcases hp with rfl|rfl
 ·refine (bcheck_new b w hA.cell0 hA.shape hA.frozen0).mono ?_
  rintro e w' ⟨rfl,rfl⟩
  obtain ⟨_,v',hb',ho',hne'⟩:=hA.used (.pointer (some ⟨b,0,none⟩))
  have hv:v'=v:=by
   have h1:(w.setCell ⟨b,0,none⟩ (.pointer (some ⟨b,0,none⟩))).heap[b]? = some (.cells #[.pointer (some ⟨b,0,none⟩),v] 74 (0,0)):=by simp [World.setCell,Array.getElem?_modify,hb]
   rw [h1] at hb'
   simpa using hb'.symm
  subst hv
  exact ⟨rfl,⟨_,hb',by rw [hl] at ho';exact ho',hg⟩,⟨(Kp.refl w _).setCell _ _ (.inr (.inl rfl)),.inl rfl⟩⟩
 ·refine (bcheck_used b w hA.cell0).mono ?_
  rintro e w' ⟨rfl,rfl⟩
  exact ⟨rfl,⟨_,hb,ho,hg⟩,Wr.refl _ _ _⟩
theorem tell_bytes {w w':World} {v v':Value} {n:Nat} {xs:List Value} {i:TypeInfo} (hi:Tryz.prog.info? 5=some i) (hz:i.zero=some (.int .u8 0)) (hs:i.size=1) (hb:i.bytes=1) (hown:w.ownsRowF 0 5 1 v n xs)
  (a:Addr) (c:Nat) (u:Value) (hu:w.cell? a=some u) (h1:u.oneCell'=true) (h63:n+1≤maxLen) (hbytes:n+1≤140737488355328) {ty:TypeId}
  (hrun:(Builtin.append_ #[70,70] ty #[v,.slice (some a) 1 c]).run Tryz.prog w=.ok v' w'):v'.ownBlock=v.ownBlock∨∃ i,v'.ownBlock=some i∧w.heap.size≤i:=by
 have hnews:∀ j x,[u][j]? = some x→w.cell? (a.add j)=some x:=by
  intro j x hj
  match j,hj with
  | 0,hj=>
   simp at hj
   subst hj
   have:a.add 0=a:=by unfold Addr.add;split <;> simp_all
   rw [this]
   exact hu
 have hone:∀ x∈[u],x.oneCell'=true:=by
  intro x hx
  simp at hx
  subst hx
  exact h1
 rcases hown.2 with ⟨rfl,rfl⟩|⟨g,cap,cur,fz,rfl,hbg,hg,hfz,hnc,hcm,hcs,htake⟩
 ·have hx:xs=[]:=List.length_eq_zero_iff.1 (by rw [hown.1])
  subst hx
  obtain ⟨v2,w2,r1,r2,_,r4⟩:=run_append_own (P:=Tryz.prog) w w.heap.size 70 ty 5 i (.int .u8 0) 1 1 Tryz.underlying70 hi hz hs hb rfl (by decide) (.slice none 0 0) 0 [] (World.ownsRow_nil w _ _ _) a 1 c [u] rfl hnews hone h63 (by omega) (Nat.le_refl _)
  rw [r1] at hrun
  injection hrun with e1 e2
  subst e1
  rcases r2.2 with ⟨_,h0⟩|⟨g,c',cur,rfl,hbg,_⟩
  ·omega
  ·exact .inr ⟨g,rfl,hbg⟩
 ·by_cases hroom:n+1≤cap
  ·have hfit:n * i.size+[u].length≤cur.size:=by rw [hs,hcs];simp;omega
   have hr:=run_append_roomF (P:=Tryz.prog) w 70 ty 5 i Tryz.underlying70 hi g n cap cur fz hg (by rw [hs];exact hfz) a 1 c [u] (by rw [hs];rfl) hnews hone hroom hfit
   rw [hr] at hrun
   injection hrun with e1 e2
   subst e1
   exact .inl rfl
  ·have holds:∀ j u,xs[j]? = some u→w.cell? ((⟨g,0,none⟩:Addr).add j)=some u:=hown.cells (g:=g) rfl
   have hr:=run_append_grow (P:=Tryz.prog) w 70 ty 5 i (.int .u8 0) Tryz.underlying70 hi hz ⟨g,0,none⟩ n cap xs (by rw [hs];exact hown.1) holds a 1 c [u] (by rw [hs];rfl) hnews (by omega) (by unfold maxLen at h63;omega) (growslice_fits (by omega) (by rw [hb];omega))
   rw [hr] at hrun
   injection hrun with e1 e2
   subst e1
   exact .inr ⟨_,rfl,Nat.le_refl _⟩
theorem tell_text {w w':World} {v v':Value} {n:Nat} {xs:List Value} {i:TypeInfo} (hi:Tryz.prog.info? 5=some i) (hz:i.zero=some (.int .u8 0)) (hs:i.size=1) (hb:i.bytes=1) (hown:w.ownsRowF 0 5 1 v n xs)
  (s:ByteArray) (h63:n+s.size≤maxLen) (hbytes:n+s.size≤140737488355328) {ty:TypeId}
  (hrun:(Builtin.append_ #[70,9] ty #[v,.string s]).run Tryz.prog w=.ok v' w'):v'.ownBlock=v.ownBlock∨∃ i,v'.ownBlock=some i∧w.heap.size≤i:=by
 rcases hown.2 with ⟨rfl,rfl⟩|⟨g,cap,cur,fz,rfl,hbg,hg,hfz,hnc,hcm,hcs,htake⟩
 ·have hx:xs=[]:=List.length_eq_zero_iff.1 (by rw [hown.1])
  subst hx
  obtain ⟨v2,w2,r1,r2,_,r4⟩:=Lib.run_append_own_string (P:=Tryz.prog) w w.heap.size 70 9 ty 5 i Tryz.underlying70 Tryz.underlying9 hi hz hs hb (.slice none 0 0) 0 [] (World.ownsRow_nil w _ _ _) s h63 hbytes (Nat.le_refl _)
  rw [r1] at hrun
  injection hrun with e1 e2
  subst e1
  rcases r2.2 with ⟨rfl,h0⟩|⟨g,c',cur,rfl,hbg,_⟩
  ·exact .inl rfl
  ·exact .inr ⟨g,rfl,hbg⟩
 ·have hcs':cur.size=cap:=by simpa using hcs
  by_cases hroom:n+s.size≤cap
  ·have hr:=Lib.run_append_room_stringF (P:=Tryz.prog) w 70 9 ty 5 i Tryz.underlying70 Tryz.underlying9 hi hs g n cap cur fz hg (by simpa using hfz) s hroom (by omega)
   rw [hr] at hrun
   injection hrun with e1 e2
   subst e1
   exact .inl rfl
  ·have holds:∀ j u,xs[j]? = some u→w.cell? ((⟨g,0,none⟩:Addr).add j)=some u:=hown.cells (g:=g) rfl
   have hr:=Lib.run_append_grow_string (P:=Tryz.prog) w 70 9 ty 5 i (.int .u8 0) Tryz.underlying70 Tryz.underlying9 hi hz ⟨g,0,none⟩ n cap xs (by rw [hs];exact hown.1) holds s (by omega) (by unfold maxLen at h63;omega) (growslice_fits (by omega) (by rw [hb];omega))
   rw [hr] at hrun
   injection hrun with e1 e2
   subst e1
   exact .inr ⟨_,rfl,Nat.le_refl _⟩
structure ApR (l:List UInt8) (v:Value) (w:World) (v':Value) (w':World):Prop where
 own:w'.ownsRowF 0 5 1 v' l.length (Lib.byteCells l)
 grow:w.grownBy w' v.ownBlock
 row:v'.ownBlock=v.ownBlock∨∃ i,v'.ownBlock=some i∧w.heap.size≤i
 sl:∃ ao n k,v'=.slice ao n k
theorem wpList_append_byte {ops:Array Oper} {rest:List Oper} {o:Oper} {a:Act} {w:World} {Q:Exit→Act→World→Prop} (hgd:o.guard=none) (s x:Operand)
  (ho:o.op=Op.call { callee:=Callee.builtin Builtin.append,args:=#[s,x],argTypes:=#[70,70] })
  (v:Value) (l:List UInt8) (hs:a.eval s=v) (hown:w.ownsRowF 0 5 1 v l.length (Lib.byteCells l)) (ad:Addr) (k:Nat) (c:UInt8) (hx:a.eval x=.slice (some ad) 1 k) (hc:w.cell? ad=some (.int .u8 c.toNat)) (hlen:l.length+1≤140737488355328)
  (h:∀ v' w',ApR (l ++ [c]) v w v' w'→wpList Tryz.prog ops Q rest (a.put o.dst v') w'):wpList Tryz.prog ops Q (o :: rest) a w:=by
 obtain ⟨i,hi,hz,h4,h5⟩:=infoU8
 have hnews:∀ j x,[Value.int .u8 c.toNat][j]? = some x→w.cell? (ad.add j)=some x:=by
  intro j x hj
  match j,hj with
  | 0,hj=>
   simp at hj
   subst hj
   have:ad.add 0=ad:=by unfold Addr.add;split <;> simp_all
   rw [this]
   exact hc
 have hone:∀ x∈[Value.int .u8 c.toNat],x.oneCell'=true:=by
  intro x hx
  simp at hx
  subst hx
  rfl
 have h63:l.length+1≤maxLen:=by unfold maxLen;omega
 refine wpList_plain hgd fun K hK=>?_
 obtain ⟨v',w',hr,h2,h3,h6⟩:=run_append_ownF (P:=Tryz.prog) w 0 70 o.type 5 i (.int .u8 0) 1 1 Tryz.underlying70 hi hz h4 h5 rfl (by decide) v l.length (Lib.byteCells l) hown ad 1 k [.int .u8 c.toNat] rfl hnews hone h63 (by omega) (Nat.zero_le _)
 have ht:=tell_bytes hi hz h4 h5 hown ad k _ hc rfl h63 hlen hr
 unfold Oper.wp execOp
 simp only [ho,resolve,invoke,builtin,Sem.run_bind,Sem.run_pure,Result.andThen_ok,List.map_toArray,List.map_cons,List.map_nil,hs,hx,hr]
 refine hK _ _ (h v' w' ⟨?_,h3,ht,?_⟩)
 ·have e:Lib.byteCells (l ++ [c])=Lib.byteCells l ++ [.int .u8 c.toNat]:=List.map_append
  rw [e,List.length_append];exact h2
 ·rcases h2.2 with ⟨rfl,_⟩|⟨g,cap,cur,fz,rfl,_⟩
  ·exact ⟨_,_,_,rfl⟩
  ·exact ⟨_,_,_,rfl⟩
theorem wpList_append_text {ops:Array Oper} {rest:List Oper} {o:Oper} {a:Act} {w:World} {Q:Exit→Act→World→Prop} (hgd:o.guard=none) (s x:Operand)
  (ho:o.op=Op.call { callee:=Callee.builtin Builtin.append,args:=#[s,x],argTypes:=#[70,9] })
  (v:Value) (l:List UInt8) (hs:a.eval s=v) (hown:w.ownsRowF 0 5 1 v l.length (Lib.byteCells l)) (t:ByteArray) (hx:a.eval x=.string t) (hlen:l.length+t.size≤140737488355328)
  (h:∀ v' w',ApR (l ++ t.data.toList) v w v' w'→wpList Tryz.prog ops Q rest (a.put o.dst v') w'):wpList Tryz.prog ops Q (o :: rest) a w:=by
 obtain ⟨i,hi,hz,h4,h5⟩:=infoU8
 have h63:l.length+t.size≤maxLen:=by unfold maxLen;omega
 refine wpList_plain hgd fun K hK=>?_
 obtain ⟨v',w',hr,h2,h3,h6⟩:=Lib.run_append_own_stringF (P:=Tryz.prog) w 0 70 9 o.type 5 i Tryz.underlying70 Tryz.underlying9 hi hz h4 h5 v l.length (Lib.byteCells l) hown t h63 hlen (Nat.zero_le _)
 have ht:=tell_text hi hz h4 h5 hown t h63 hlen hr
 unfold Oper.wp execOp
 simp only [ho,resolve,invoke,builtin,Sem.run_bind,Sem.run_pure,Result.andThen_ok,List.map_toArray,List.map_cons,List.map_nil,hs,hx,hr]
 refine hK _ _ (h v' w' ⟨?_,h3,ht,?_⟩)
 ·have e:Lib.byteCells (l ++ t.data.toList)=Lib.byteCells l ++ Lib.strCells t:=List.map_append
  have hl2:t.data.toList.length=t.size:=by rw [Array.length_toList];rfl
  rw [e,List.length_append,hl2];exact h2
 ·rcases h2.2 with ⟨rfl,_⟩|⟨g,cap,cur,fz,rfl,_⟩
  ·exact ⟨_,_,_,rfl⟩
  ·exact ⟨_,_,_,rfl⟩
theorem Bw.put {w:World} {b:Nat} {p v v':Value} {l:List UInt8} (hp:p=.pointer none∨p=.pointer (some ⟨b,0,none⟩)) (hb:w.heap[b]? = some (.cells #[p,v] 74 (0,0))) (ho:w.ownsRowF 0 5 1 v' l.length (Lib.byteCells l)):Bw (w.setCell ⟨b,1,none⟩ v') b v'.ownBlock l:=by
 obtain ⟨_,v2,h2,h3,h4⟩:=Lib.BuilderAtF.put (T:=74) (e:=5) (B:=0) (Nat.zero_le b) hb (bs':=Lib.byteCells l) (by rw [Lib.byteCells_length];exact ho) neWU
 have e:v2=v':=by
  have h1:(w.setCell ⟨b,1,none⟩ v').heap[b]? = some (.cells #[p,v'] 74 (0,0)):=by simp [World.setCell,Array.getElem?_modify,hb]
  rw [h1] at h2
  simpa using h2.symm
 subst e
 rw [Lib.byteCells_length] at h3
 exact ⟨p,v2,hp,h2,h3,rfl,h4⟩
theorem wbyte_at (b:Nat) (g:Option Nat) (l:List UInt8) (c:UInt8) (w:World) (h:Bw w b g l) (hl:l.length+1≤140737488355328) :
  Calls Tryz.prog 67 #[.pointer (some ⟨b,0,none⟩),.int .u8 c.toNat] w fun e w'=>e=.returned .nilIface∧∃ g',Bw w' b g' (l ++ [c])∧Wr b w w' g g':=by
 have H:Hid (∀ wq,wq=w→Calls Tryz.prog 66 #[.pointer (some ⟨b,0,none⟩)] wq fun e w'=>e=.returned (.tuple #[])∧(∃ v,w'.heap[b]? = some (.cells #[.pointer (some ⟨b,0,none⟩),v] 74 (0,0))∧w'.ownsRowF 0 5 1 v l.length (Lib.byteCells l)∧v.ownBlock=g)∧Wr b w w' g g):=fun wq e=>by rw [e];exact bcheck_at b g l w h
 go_enter Tryz.func67,Tryz.ntmps67
 go_wp2_with fail
 refine (H.out _ rfl).mono ?_
 rintro e w1 ⟨rfl,⟨v,hbk,hown,hg⟩,hwr⟩
 have c1:w1.cell? ⟨b,1,none⟩=some v:=by rw [Lib.cell_of_heap hbk];rfl
 have hlt:b < w1.heap.size:=(Array.getElem?_eq_some_iff.1 hbk).1
 have HG:Hid (v.ownBlock=g):=hg
 clear H hg
 go_wp2_with (at_builtin;refine wpList_append_byte rfl _ _ rfl v l rfl (hown.alloc _) ⟨w1.heap.size,0,none⟩ _ c rfl (by simp) hl ?_)
 rintro v' w2 ⟨hown',hgrow,hrow,hsl⟩
 obtain ⟨ao,n',k',rfl⟩:=hsl
 have hne:¬ some b=v.ownBlock:=fun e=>by
  obtain ⟨c',fz,hc'⟩:=Lib.ownsRowF_kind hown b e.symm
  rw [hbk] at hc'
  simp at hc'
 have hb2:w2.heap[b]? = some (.cells #[.pointer (some ⟨b,0,none⟩),v] 74 (0,0)):=by
  rw [hgrow.block b (by simp;omega) hne,Lib.alloc_old w1 _ b hlt]
  exact hbk
 have d0:w2.cell? ⟨b,0,none⟩=some (.pointer (some ⟨b,0,none⟩)):=by rw [Lib.cell_of_heap hb2];rfl
 have d1:w2.cell? ⟨b,1,none⟩=some v:=by rw [Lib.cell_of_heap hb2];rfl
 have f1:w2.frozen? ⟨b,1,none⟩=false:=Lib.frozen_of_heap hb2 1
 go_wp2_with fail
 go_ret
 refine ⟨rfl,_,Bw.put (.inr rfl) hb2 hown',⟨?_,?_⟩⟩
 ·exact (((hwr.kp.alloc _).trans' (T:=fun i=>some i=v.ownBlock) (Kp.of_grown hgrow (fun i e=>e.symm)) (fun i _ e=>.inr (HG.out ▸ e.symm)))).setCell _ _ (.inr (.inl rfl))
 ·rcases hrow with r|⟨i,r,hi⟩
  ·exact .inl (r.trans HG.out)
  ·exact .inr ⟨i,r,by have:=hwr.kp.size;simp at hi;omega⟩
theorem wstr_at (b:Nat) (g:Option Nat) (l:List UInt8) (t:ByteArray) (w:World) (h:Bw w b g l) (hl:l.length+t.size≤140737488355328) :
  Calls Tryz.prog 27 #[.pointer (some ⟨b,0,none⟩),.string t] w fun e w'=>(∃ v,e=.returned v)∧∃ g',Bw w' b g' (l ++ t.data.toList)∧Wr b w w' g g':=by
 have H:Hid (∀ wq,wq=w→Calls Tryz.prog 66 #[.pointer (some ⟨b,0,none⟩)] wq fun e w'=>e=.returned (.tuple #[])∧(∃ v,w'.heap[b]? = some (.cells #[.pointer (some ⟨b,0,none⟩),v] 74 (0,0))∧w'.ownsRowF 0 5 1 v l.length (Lib.byteCells l)∧v.ownBlock=g)∧Wr b w w' g g):=fun wq e=>by rw [e];exact bcheck_at b g l w h
 go_enter Tryz.func27,Tryz.ntmps27
 go_wp2_with fail
 refine (H.out _ rfl).mono ?_
 rintro e w1 ⟨rfl,⟨v,hbk,hown,hg⟩,hwr⟩
 have c1:w1.cell? ⟨b,1,none⟩=some v:=by rw [Lib.cell_of_heap hbk];rfl
 have hlt:b < w1.heap.size:=(Array.getElem?_eq_some_iff.1 hbk).1
 have HG:Hid (v.ownBlock=g):=hg
 clear H hg
 go_wp2_with (at_builtin;refine wpList_append_text rfl _ _ rfl v l rfl hown t rfl hl ?_)
 rintro v' w2 ⟨hown',hgrow,hrow,hsl⟩
 obtain ⟨ao,n',k',rfl⟩:=hsl
 have hne:¬ some b=v.ownBlock:=fun e=>by
  obtain ⟨c',fz,hc'⟩:=Lib.ownsRowF_kind hown b e.symm
  rw [hbk] at hc'
  simp at hc'
 have hb2:w2.heap[b]? = some (.cells #[.pointer (some ⟨b,0,none⟩),v] 74 (0,0)):=by
  rw [hgrow.block b hlt hne]
  exact hbk
 have d0:w2.cell? ⟨b,0,none⟩=some (.pointer (some ⟨b,0,none⟩)):=by rw [Lib.cell_of_heap hb2];rfl
 have d1:w2.cell? ⟨b,1,none⟩=some v:=by rw [Lib.cell_of_heap hb2];rfl
 have f1:w2.frozen? ⟨b,1,none⟩=false:=Lib.frozen_of_heap hb2 1
 go_wp2_with fail
 go_ret2
 refine ⟨⟨_,rfl⟩,_,Bw.put (.inr rfl) hb2 hown',⟨?_,?_⟩⟩
 ·exact ((hwr.kp.trans' (T:=fun i=>some i=v.ownBlock) (Kp.of_grown hgrow (fun i e=>e.symm)) (fun i _ e=>.inr (HG.out ▸ e.symm)))).setCell _ _ (.inr (.inl rfl))
 ·rcases hrow with r|⟨i,r,hi⟩
  ·exact .inl (r.trans HG.out)
  ·exact .inr ⟨i,r,by have:=hwr.kp.size;omega⟩
theorem wlen_at (b:Nat) (g:Option Nat) (l:List UInt8) (w:World) (h:Bw w b g l) :
  Calls Tryz.prog 32 #[.pointer (some ⟨b,0,none⟩)] w fun e w'=>e=.returned (.int .i64 l.length)∧w'=w:=by
 obtain ⟨p,v,hp,hbk,hown,hg,hne⟩:=h
 obtain ⟨ao,cap,rfl⟩:∃ ao cap,v=.slice ao l.length cap:=by
  rcases hown.2 with ⟨hv,h0⟩|⟨g,cap,cur,fz,hv,_⟩
  ·exact ⟨none,0,by rw [hv,h0]⟩
  ·exact ⟨_,_,hv⟩
 have c1:w.cell? ⟨b,1,none⟩=some (.slice ao l.length cap):=by rw [Lib.cell_of_heap hbk];rfl
 go_enter Tryz.func32,Tryz.ntmps32
 go_wp2_with fail
 go_ret
 exact ⟨rfl,rfl⟩
inductive By (e:TypeId) (w:World):Option Nat→Value→List Value→Prop
 | none:By e w none (.slice none 0 0) []
 | some {b n cap:Nat} {cur:Array Value} {fz:Nat×Nat} {xs:List Value} (hn:xs.length=n) (hb:w.heap[b]? = some (.cells cur e fz)) (hf:∀ i,i < cur.size → ¬ (fz.1≤i∧i < fz.2)) (hc:cur.size=cap) (ht:cur.toList.take n=xs) (h1:∀ u∈xs,u.oneCell'=true):By e w (some b) (.slice (some ⟨b,0,none⟩) n cap) xs
theorem By.kp {e:TypeId} {w w':World} {S:Nat→Prop} {g:Option Nat} {v:Value} {xs:List Value} (h:By e w g v xs) (k:Kp w w' S) (hS:∀ b,g=.some b → ¬ S b):By e w' g v xs:=by
 cases h with
 | none=>exact .none
 | some hn hb hf hc ht h1=>exact .some hn ((k.block _ (Array.getElem?_eq_some_iff.1 hb).1 (hS _ rfl)).trans hb) hf hc ht h1
theorem By.cell {e:TypeId} {w:World} {b n cap:Nat} {g:Option Nat} {xs:List Value} (h:By e w g (.slice (.some ⟨b,0,.none⟩) n cap) xs) (j:Nat) (x:Value) (hx:xs[j]? = .some x):w.cell? ⟨b,j,.none⟩=.some x:=by
 cases h with
 | some hn hb hf hc ht h1=>
  rw [cell_of_row w b j _ _ _ hb]
  rw [← ht,List.getElem?_take] at hx
  split at hx
  ·simpa using hx
  ·cases hx
theorem By.shape {e:TypeId} {w:World} {g:Option Nat} {v:Value} {xs:List Value} (h:By e w g v xs):∃ p c,v=.slice p xs.length c∧xs.length≤c:=by
 cases h with
 | none=>exact ⟨_,_,rfl,Nat.le_refl _⟩
 | some hn hb hf hc ht h1=>
  subst hn
  refine ⟨_,_,rfl,?_⟩
  rename_i cur _
  have:=congrArg List.length ht
  rw [List.length_take] at this
  have h2:cur.toList.length=cur.size:=Array.length_toList
  omega
theorem By.form {e:TypeId} {w:World} {g:Option Nat} {v:Value} {xs:List Value} (h:By e w g v xs):(v=.slice .none 0 0∧g=.none∧xs=[])∨∃ b c,v=.slice (.some ⟨b,0,.none⟩) xs.length c∧g=.some b:=by
 cases h with
 | none=>exact .inl ⟨rfl,rfl,rfl⟩
 | some hn hb hf hc ht h1=>subst hn;exact .inr ⟨_,_,rfl,rfl⟩
theorem By.src {P:Program} {e t:TypeId} {w:World} {g:Option Nat} {v:Value} {xs:List Value} (h:By e w g v xs) (hk:P.underlying t=.some (.slice e)):Src P 1 t v xs.length xs w:=by
 have h0:=h
 cases h with
 | none=>exact Src.ofNil w hk 0
 | some hn hb hf hc ht h1=>
  subst hn
  refine Src.ofSlice w hk _ _ _ _ (by rw [Nat.mul_one]) (fun j u hu=>?_) h1
  have hadd:∀ b,(⟨b,0,.none⟩:Addr).add j=⟨b,j,.none⟩:=fun b=>by unfold Addr.add;split <;> simp_all
  rw [hadd]
  exact h0.cell j u hu
theorem src_string {P:Program} {t:TypeId} (hk:P.underlying t=some .string) (k:List UInt8) (w:World):Src P 1 t (.string ⟨k.toArray⟩) (Lib.byteCells k).length (Lib.byteCells k) w:=by
 have:=Src.ofString (P:=P) w hk ⟨k.toArray⟩
 have e1:(ByteArray.mk k.toArray).size=(Lib.byteCells k).length:=by show k.toArray.size=_;rw [List.size_toArray,Lib.byteCells_length]
 have e2:byteCells ⟨k.toArray⟩=Lib.byteCells k:=by unfold byteCells Lib.byteCells;simp
 rw [e1,e2] at this
 exact this
theorem src_one {P:Program} {t e t':TypeId} (hk:P.underlying t=some (.slice e)) (x:Value) (h1:x.oneCell'=true) (w:World):Src P 1 t (.slice (some ⟨w.heap.size,0,none⟩) 1 1) [x].length [x] (w.alloc (.cells #[x] t')):=by
 refine Src.ofSlice _ hk _ _ _ _ rfl (fun j u hu=>?_) (fun u hu=>by rw [List.mem_singleton.1 hu];exact h1)
 match j,hu with
 | 0,hu=>
  simp at hu
  subst hu
  simp [Addr.add]
theorem setCells_setRow (g:Nat) (t:TypeId) (fz:Nat×Nat):∀ (vs:List Value) (o:Nat) (w:World) (cur:Array Value),w.heap[g]? = some (.cells cur t fz)→o+vs.length≤cur.size→w.setCells g o vs=w.setRow g (cur.toList.take o ++ vs ++ cur.toList.drop (o+vs.length)).toArray
 | [],o,w,cur,hg,_=>by
  simp only [World.setCells,List.append_nil,List.length_nil,Nat.add_zero,List.take_append_drop,Array.toArray_toList]
  rw [setRow_self w g cur t fz hg]
 | v :: rest,o,w,cur,hg,hl=>by
  have hi:o < cur.size:=by simp at hl;omega
  rw [World.setCells,setCell_eq_setRow w g o cur t fz v hg,setCells_setRow g t fz rest (o+1) (w.setRow g (cur.setIfInBounds o v)) (cur.setIfInBounds o v) (setRow_heap w g cur _ t _ hg) (by simp at hl ⊢;omega),setRow_setRow]
  congr 2
  have e:=list_seg_step cur.toList o v rest (by simp at hl ⊢;omega)
  simpa [Array.toList_setIfInBounds,Nat.add_assoc] using e
structure Ap (w w':World) (g g':Option Nat):Prop where
 kp:Kp w w' (fun b=>g=some b)
 row:g'=g∨∃ b,g'=some b∧w.heap.size≤b
theorem run_append_by {P:Program} (t tx ty e:TypeId) (i:TypeInfo) (z:Value) (bytes:Nat) (ht:P.underlying t=some (.slice e)) (hi:P.info? e=some i) (hz:i.zero=some z) (hs1:i.size=1) (hby:i.bytes=bytes) (hzs:z.cells.size=1)
  {w:World} {g:Option Nat} {v x:Value} {xs ys:List Value} (h:By e w g v xs) (hx:Src P 1 tx x ys.length ys w) (h63:xs.length+ys.length≤9223372036854775807) (h47:(xs.length+ys.length) * bytes≤140737488355328) :
  ∃ v' g' w',(Builtin.append_ #[t,tx] ty #[v,x]).run P w=.ok v' w'∧By e w' g' v' (xs ++ ys)∧Ap w w' g g':=by
 obtain ⟨p,c,hv,hlc⟩:=h.shape
 have hx':Src P i.size tx x ys.length ys w:=by rw [hs1];exact hx
 by_cases hroom:xs.length+ys.length≤c
 ·cases h with
  | none=>
   injection hv with e1 e2 e3
   subst e3
   have h0:ys=[]:=List.length_eq_zero_iff.1 (by rw [List.length_nil,Nat.zero_add] at hroom;omega)
   subst h0
   exact ⟨_,_,_,run_append_nothing w t tx ty e i ht hi _ 0 0 (Nat.le_refl _) x hx',.none,Kp.refl _ _,.inl rfl⟩
  | some hn hb hf hc htk h1=>
   rename_i b n c' cur fz
   injection hv with e1 e2 e3
   subst e1
   subst e3
   subst e2
   have hcell:∀ j,j < ys.length→xs.length+j < cur.size:=fun j hj=>by omega
   have hr:=run_append_room_src (P:=P) w t tx ty e i ht hi b 0 xs.length c' x ys.length ys hx' hroom (fun j hj=>by
    rw [hs1,Nat.mul_one,Nat.zero_add,cell_of_row w b _ cur _ fz hb,Array.getElem?_eq_getElem (hcell j hj)];rfl) (fun j hj=>by
    rw [hs1,Nat.mul_one,Nat.zero_add]
    have:=hf (xs.length+j) (hcell j hj)
    obtain ⟨f1,f2⟩:=fz
    simp only [World.frozen?,hb,Bool.and_eq_false_iff,decide_eq_false_iff_not]
    simp only at this
    omega)
   rw [hs1,Nat.mul_one,Nat.zero_add] at hr
   have hset:(w.setCells b xs.length ys).heap[b]? = .some (.cells (cur.toList.take xs.length ++ ys ++ cur.toList.drop (xs.length+ys.length)).toArray e fz):=by
    rw [setCells_setRow b e fz _ _ w cur hb (by omega)]
    exact setRow_heap w b cur _ _ _ hb
   refine ⟨_,_,_,hr,By.some (by rw [List.length_append]) hset (by
    intro i hi
    simp only [List.size_toArray,List.length_append,List.length_take,List.length_drop,Array.length_toList] at hi
    exact hf i (by omega)) (by
    simp only [List.size_toArray,List.length_append,List.length_take,List.length_drop,Array.length_toList]
    omega) (by
    rw [List.toList_toArray,htk]
    exact List.take_left' (by rw [List.length_append])) (fun u hu=>(List.mem_append.1 hu).elim (h1 u) (hx.one u)),⟨setCells_kp (fun i=>some b=some i) rfl _ _ _,.inl rfl⟩⟩
 ·subst hv
  have hold:(Builtin.firstCells i.size xs.length (.slice p xs.length c)).run P w.drew=.ok xs.toArray w.drew:=by
   have:=(h.src ht).cellsD
   rw [hs1]
   exact this
  have hr:=run_append_grow_src (P:=P) w t tx ty e i z ht hi hz p xs.length c xs hold x ys.length ys hx' (by omega) (by omega) (growslice_fits (by omega) (by rw [hby];exact h47))
  have hge:=grownCap_ge w (xs.length+ys.length) c e
  have h1:∀ u∈xs,u.oneCell'=true:=(h.src ht).one
  refine ⟨_,_,_,hr,By.some (by rw [List.length_append]) (fz:=(0,0)) (heap_alloc_new _ _) (fun i _ hh=>by have:=hh.2;omega) ?_ ?_ (fun u hu=>(List.mem_append.1 hu).elim (h1 u) (hx.one u)),((Kp.refl w _).drew).alloc _,.inr ⟨_,rfl,Nat.le_refl _⟩⟩
  ·rw [Array.size_append,List.size_toArray,List.length_append,size_zeroCells,hzs]
   omega
  ·rw [Array.toList_append,List.toList_toArray]
   exact List.take_left' (by rw [List.length_append])
theorem wpList_append_eq' {P:Program} {w:World} {ops:Array Oper} {rest:List Oper} {o:Oper} {a:Act} {Q:Exit→Act→World→Prop} (hgd:o.guard=none) (s x:Operand) (t tx:TypeId) (ho:o.op=Op.call { callee:=Callee.builtin Builtin.append,args:=#[s,x],argTypes:=#[t,tx] })
  (v1 v2 v':Value) (w':World) (hs:a.eval s=v1) (hx:a.eval x=v2) (hr:(Builtin.append_ #[t,tx] o.type #[v1,v2]).run P w=.ok v' w') (h:wpList P ops Q rest (a.put o.dst v') w'):wpList P ops Q (o :: rest) a w:=by
 refine wpList_plain hgd fun K hK=>?_
 unfold Oper.wp execOp
 simp only [ho,resolve,invoke,builtin,Sem.run_bind,Sem.run_pure,Result.andThen_ok,List.map_toArray,List.map_cons,List.map_nil,hs,hx,hr]
 exact hK _ _ h
theorem wpList_append_by {P:Program} {w:World} {ops:Array Oper} {rest:List Oper} {o:Oper} {a:Act} {Q:Exit→Act→World→Prop} (hgd:o.guard=none) (s x:Operand) (t tx:TypeId) (ho:o.op=Op.call { callee:=Callee.builtin Builtin.append,args:=#[s,x],argTypes:=#[t,tx] })
  (e:TypeId) (i:TypeInfo) (z:Value) (bytes:Nat) (ht:P.underlying t=some (.slice e)) (hi:P.info? e=some i) (hz:i.zero=some z) (hs1:i.size=1) (hby:i.bytes=bytes) (hzs:z.cells.size=1)
  {g:Option Nat} {v v2:Value} {xs ys:List Value} (hs:a.eval s=v) (hx:a.eval x=v2) (hb:By e w g v xs) (hsrc:Src P 1 tx v2 ys.length ys w) (h63:xs.length+ys.length≤9223372036854775807) (h47:(xs.length+ys.length) * bytes≤140737488355328)
  (h:∀ v' g' w',By e w' g' v' (xs ++ ys)→Ap w w' g g'→wpList P ops Q rest (a.put o.dst v') w'):wpList P ops Q (o :: rest) a w:=by
 obtain ⟨v',g',w',hr,h1,h2⟩:=run_append_by t tx o.type e i z bytes ht hi hz hs1 hby hzs hb hsrc h63 h47
 exact wpList_append_eq' hgd s x t tx ho v v2 v' w' hs hx hr (h v' g' w' h1 h2)
def ByF (e:TypeId) (W w:World) (v:Value) (xs:List Value):Prop:=∃ g,By e w g v xs∧(∀ b,g=some b→W.heap.size≤b)∧Kp W w Nul
theorem ByF.kp {e:TypeId} {W w w':World} {v:Value} {xs:List Value} (h:ByF e W w v xs) (k:Kp w w' Nul):ByF e W w' v xs:=by
 obtain ⟨g,h1,h2,h3⟩:=h
 exact ⟨g,h1.kp k (fun _ _ x=>x),h2,h3.trans k⟩
theorem ByF.nil (e:TypeId) (W:World):ByF e W W (.slice none 0 0) []:=⟨none,.none,fun _ h=>(by cases h),Kp.refl _ _⟩
theorem ByF.ap {e:TypeId} {W w w':World} {g g':Option Nat} {v':Value} {xs:List Value} (hk:Kp W w Nul) (hg:∀ b,g=some b→W.heap.size≤b) (h:By e w' g' v' xs) (k:Ap w w' g g'):ByF e W w' v' xs:=by
 refine ⟨g',h,fun b hb=>?_,hk.trans' k.kp (fun j hj e=>by have:=hg j e;omega)⟩
 rcases k.row with r|⟨c,r,hc⟩
 ·exact hg b (r ▸ hb)
 ·rw [r] at hb
  injection hb with hb
  have:=hk.size
  omega
theorem le_snoc:∀ (k n:Nat),le (k+1) n=le k n ++ [UInt8.ofNat (n / 256 ^ k)]
 | 0,n=>by rw [Nat.pow_zero,Nat.div_one];rfl
 | k+1,n=>by
  rw [le,le_snoc k (n / 256),Nat.div_div_eq_div_mul,← Nat.pow_succ',← List.cons_append]
  rfl
theorem bc_snoc (l:List UInt8) (x:UInt8):Lib.byteCells (l ++ [x])=Lib.byteCells l ++ [.int .u8 (UInt8.toNat x)]:=by unfold Lib.byteCells;rw [List.map_append];rfl
theorem bc_app (l k:List UInt8):Lib.byteCells (l ++ k)=Lib.byteCells l ++ Lib.byteCells k:=by unfold Lib.byteCells;rw [List.map_append]
theorem run_u64b (m:Nat) (w:World):(convert 80 5 (.int .u64 ((m:Int) % 256))).run Tryz.prog w=.ok (.int .u8 (UInt8.ofNat m).toNat) w:=by
 have e:((UInt8.ofNat m).toNat:Int)=(m:Int) % 256:=by rw [UInt8.toNat_ofNat'];omega
 rw [e]
 have e2:(m:Int) % 256 % 256=(m:Int) % 256:=by omega
 simp [go_sem,convert,run_underlying Tryz.underlying80,run_underlying Tryz.underlying5,IntKind.wrap,IntKind.signed,e2]
theorem rnum24_at (n k:Nat) (hn:n < 18446744073709551616) (hk:k≤8) (w:World) :
  Calls Tryz.prog 35 #[.int .u64 n,.int .i64 k] w fun e w'=>∃ v,e=.returned v∧ByF 5 w w' v (Lib.byteCells (le k n)):=by
 have HK:Hid (k≤8):=hk
 have HN:Hid (n < 18446744073709551616):=hn
 obtain ⟨i8,hi8,hz8,hsz8,hby8⟩:=infoU8
 clear hn hk
 go_enter Tryz.func35,Tryz.ntmps35
 go_wp2_with fail
 go_loopw [0,5,6] (fun s0 s5 s6 wr=>∃ i:Nat,i≤k∧s6=.int .i64 i∧s0=.int .u64 (n / 256 ^ i:Nat)∧ByF 5 w wr s5 (Lib.byteCells (le i n))) (fun _ _ s6 _=>((k:Int) - intOf s6).toNat)
 case atStart=>exact ⟨0,Nat.zero_le _,by simp,by rw [Nat.pow_zero,Nat.div_one],ByF.nil _ _⟩
 case round=>
  obtain ⟨i,hi,rfl,rfl,g,hb,hg,hkp⟩:=hrel
  have HB:Hid (By 5 wr g u5 (Lib.byteCells (le i n))):=hb
  have HG:Hid (∀ b,g=some b→w.heap.size≤b):=hg
  have HKP:Hid (Kp w wr Nul):=hkp
  clear hb hg hkp
  by_cases hlt:i < k
  ·have hlt':(i:Int) < (k:Int):=by omega
   have HLT:Hid (i < k):=hlt
   have HLE:Hid (Lib.byteCells (le (i+1) n)=Lib.byteCells (le i n) ++ [.int .u8 (UInt8.ofNat (n / 256 ^ i)).toNat]):=by show _=_;rw [le_snoc,bc_snoc]
   have HDV:Hid (n / 256 ^ (i+1)=n / 256 ^ i / 256):=by show _=_;rw [Nat.div_div_eq_div_mul,← Nat.pow_succ]
   have HMB:Hid (n / 256 ^ i < 18446744073709551616):=Nat.lt_of_le_of_lt (Nat.div_le_self _ _) HN.out
   obtain ⟨m,hm⟩:∃ m,n / 256 ^ i=m:=⟨_,rfl⟩
   rw [hm] at HLE HDV HMB ⊢
   have hcv:=run_u64b m
   have hwq:IntKind.u64.wrap ((m:Int) / 256)=(m:Int) / 256:=by have:=HMB.out;rw [IntKind.wrap_u64];omega
   have HD2:Hid (((m / 256:Nat):Int)=(m:Int) / 256):=by show _=_;omega
   have hib:(i:Int)+1≤9223372036854775807:=by have:=HK.out;omega
   have hi0:(0:Int)≤(i:Int):=by omega
   clear hm hlt hi
   go_wp2_with (at_builtin;refine wpList_append_by rfl (.tmp 12) (.tmp 16) 70 70 rfl 5 i8 (.int .u8 0) 1 Tryz.underlying70 hi8 hz8 hsz8 hby8 rfl rfl rfl (HB.out.kp ((Kp.refl wr Nul).alloc _) (fun _ _ x=>x)) (src_one Tryz.underlying70 _ rfl wr) ?a1 ?a2 ?_)
   case a1=>rw [Lib.byteCells_length,le_len];have:=HK.out;have:=HLT.out;simp;omega
   case a2=>rw [Lib.byteCells_length,le_len];have:=HK.out;have:=HLT.out;simp;omega
   intro v' g' w' hb' hap
   have HBY:Hid (ByF 5 w w' v' (Lib.byteCells (le (i+1) n))):=by
    show ByF _ _ _ _ _
    rw [HLE.out]
    exact ByF.ap (HKP.out.alloc _) HG.out hb' hap
   clear hb' hap hcv
   go_wp2_with fail
   go_roundw
   case rel=>exact ⟨i+1,by have:=HLT.out;omega,by go_num,by rw [HDV.out,HD2.out],HBY.out⟩
   case measure=>simp only [intOf];have:=HLT.out;omega
  ·have hie:i=k:=by omega
   subst hie
   clear hi hlt
   go_wp2_with fail
   go_ret
   exact ⟨_,rfl,g,HB.out,HG.out,HKP.out⟩
end Go.Proofs.YtnceajanlnnfoaaGreatDoor
