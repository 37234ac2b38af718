/-Variables of two and of four cells. -/
import Derived.Test.YtecjfnkakodebaaGreatDoorQwGa
import Derived.Deep.MidRow
namespace Go.Proofs.YtecjfnkakodebaaGreatDoor
open Go.RowKit
def Has2 (w:World) (b:Nat) (x y:Value):Prop:=(w.cell? ⟨b,0,none⟩=some x/\w.cell? ⟨b,1,none⟩=some y)/\(w.frozen? ⟨b,0,none⟩=false/\w.frozen? ⟨b,1,none⟩=false)
theorem has2_new (w:World) (x y:Value) (t:TypeId):Has2 (w.alloc (.cells #[x,y] t)) w.heap.size x y:=by
 refine⟨⟨?_,?_⟩,?_,?_⟩
 ·rw[World.cell?_alloc_at _ _ _ _ rfl];rfl
 ·rw[World.cell?_alloc_at _ _ _ _ rfl];rfl
 ·rw[frozen?_alloc_cells,frozen_new]
 ·rw[frozen?_alloc_cells,frozen_new]
theorem Has2.gr {w w':World} {b:Nat} {x y:Value} (h:Has2 w b x y) (g:Gr w w'):Has2 w' b x y:=by
 obtain⟨⟨h0,h1⟩,f0,f1⟩:=h
 exact⟨⟨g.cell (cell_lt h0) h0,g.cell (cell_lt h1) h1⟩,by rw[g.froz,f0],by rw[g.froz,f1]⟩
structure Hd where
 k:Int
 o:Int
 x:Nat
 s:ByteArray
 b:Bool
 f:Int
 c1:Int
 r1:Int
 p1:Bool
 q1:Bool
 c2:Int
 r2:Int
 p2:Bool
 q2:Bool
inductive Nd where
 | mk (h:Hd) (ts:List Nd)
def Nd.hd:Nd->Hd
 | .mk h _=>h
def Nd.ts:Nd->List Nd
 | .mk _ ts=>ts
theorem Nd.eta (t:Nd):t=.mk t.hd t.ts:=by cases t;rfl
mutual
def Nd.size:Nd->Nat
 | .mk _ ts=>1+sizeL ts
def sizeL:List Nd->Nat
 | []=>0
 | t::ts=>t.size+sizeL ts
end
theorem sizeL_append (a b:List Nd):sizeL (a++b)=sizeL a+sizeL b:=by
 induction a with
 | nil=>simp[sizeL]
 | cons t ts ih=>rw[List.cons_append,sizeL,sizeL,ih,Nat.add_assoc]
theorem sizeL_take (ts:List Nd) (i:Nat) (h:i<ts.length):sizeL (ts.take (i+1))=sizeL (ts.take i)+(ts[i]).size:=by
 rw[List.take_add_one,List.getElem?_eq_getElem h,sizeL_append]
 simp[sizeL]
theorem sizeL_take_le (ts:List Nd) (i:Nat):sizeL (ts.take i)<=sizeL ts:=by
 conv=>rhs;rw[<- List.take_append_drop i ts,sizeL_append]
 exact Nat.le_add_right _ _
theorem size_pos (t:Nd):1<=t.size:=by cases t;rw[Nd.size];omega
theorem size_get (ts:List Nd) (i:Nat) (h:i<ts.length):(ts[i]).size<=sizeL ts:=by
 have:=sizeL_take ts i h
 have:=sizeL_take_le ts (i+1)
 omega
theorem length_sizeL (ts:List Nd):ts.length<=sizeL ts:=by
 induction ts with
 | nil=>simp
 | cons t ts ih=>have:=size_pos t;rw[sizeL,List.length_cons];omega
abbrev Hd.cells (h:Hd) (sl:Value):List Value:=[.int .i64 h.k,.int .i64 h.o,.float .f64 h.x,.string h.s,.bool h.b,.int .i64 h.f,.int .i64 h.c1,.int .i64 h.r1,.bool h.p1,.bool h.q1,.int .i64 h.c2,.int .i64 h.r2,.bool h.p2,.bool h.q2,sl]
abbrev Hd.val (h:Hd) (sl:Value):Value:=.agg #[.int .i64 h.k,.int .i64 h.o,.float .f64 h.x,.string h.s,.bool h.b,.int .i64 h.f,.int .i64 h.c1,.int .i64 h.r1,.bool h.p1,.bool h.q1,.int .i64 h.c2,.int .i64 h.r2,.bool h.p2,.bool h.q2,sl]
mutual
def NdIn (w:World) (F:Nat->Prop) (sl:Value):Nd->Prop
 | .mk _ ts=>∃(a:Option Addr) (c:Nat),sl=.slice a ts.length c/\ts.length<=c/\c<=maxLen/\((ts=[]/\(c=0∨a≠none))∨∃b o,a=some ⟨b,o,none⟩/\F b/\NdsIn w F b o ts)
def NdsIn (w:World) (F:Nat->Prop) (b o:Nat):List Nd->Prop
 | []=>True
 | t::ts=>(∃sl,w.rangeAt b o (t.hd.cells sl)/\NdIn w F sl t)/\NdsIn w F b (o+15) ts
end
theorem NdsIn.get {w:World} {F:Nat->Prop} {b:Nat} {ts:List Nd}:∀ {o:Nat},NdsIn w F b o ts->∀i,(h:i<ts.length)->∃sl,w.rangeAt b (o+i*15) ((ts[i]).hd.cells sl)/\NdIn w F sl ts[i]:=by
 induction ts with
 | nil=>intro o _ i h;exact absurd h (by simp)
 | cons t ts ih=>
  intro o hn i h
  rw[NdsIn] at hn
  cases i with
  | zero=>simpa using hn.1
  | succ i=>
   obtain⟨sl,h1,h2⟩:=ih hn.2 i (by simpa using h)
   refine⟨sl,?_,h2⟩
   rw[show o+(i+1)*15=o+15+i*15 by omega]
   exact h1
theorem rangeAt_lt {w:World} {b o:Nat} {v:Value} {cs:List Value} (h:w.rangeAt b o (v::cs)):b<w.heap.size:=
 cell_lt (h 0 v rfl)
theorem rangeAt_block {w w':World} {b o:Nat} {cs:List Value} (h:w.rangeAt b o cs) (hb:w'.heap[b]? = w.heap[b]?):w'.rangeAt b o cs:=by
 intro j v hj
 have:=h j v hj
 simp only[World.cell?] at this ⊢
 rw[hb];exact this
theorem rangeAt_gr {w w':World} {b o:Nat} {v:Value} {cs:List Value} (h:w.rangeAt b o (v::cs)) (g:Gr w w'):w'.rangeAt b o (v::cs):=
 rangeAt_block h (g.ext.block b (rangeAt_lt h))
mutual
theorem NdIn.mono {w w':World} {F F':Nat->Prop} (hF:∀b,F b->b<w.heap.size->w'.heap[b]? = w.heap[b]? /\ F' b) {sl:Value}:∀ {t:Nd},NdIn w F sl t->NdIn w' F' sl t
 | .mk _ ts,h=>by
  rw[NdIn] at h ⊢
  obtain⟨a,c,h1,h2,h3,h4⟩:=h
  refine⟨a,c,h1,h2,h3,?_⟩
  rcases h4 with h4|⟨b,o,h4,h5,h6⟩
  ·exact .inl h4
  ·cases ts with
   | nil=>
    subst h4
    exact .inl ⟨rfl,.inr (by simp)⟩
   | cons t ts=>
    have hb:b<w.heap.size:=by
     rw[NdsIn] at h6
     obtain⟨⟨_,h7,_⟩,_⟩:=h6
     exact rangeAt_lt h7
    exact .inr ⟨b,o,h4,(hF b h5 hb).2,NdsIn.mono hF (hF b h5 hb).1 h6⟩
theorem NdsIn.mono {w w':World} {F F':Nat->Prop} (hF:∀b,F b->b<w.heap.size->w'.heap[b]? = w.heap[b]? /\ F' b) {b:Nat} (hb:w'.heap[b]? = w.heap[b]?):∀ {ts:List Nd} {o:Nat},NdsIn w F b o ts->NdsIn w' F' b o ts
 | [],_,_=>by rw[NdsIn];trivial
 | t::ts,o,h=>by
  rw[NdsIn] at h ⊢
  obtain⟨⟨sl,h1,h2⟩,h3⟩:=h
  exact⟨⟨sl,rangeAt_block h1 hb,NdIn.mono hF h2⟩,NdsIn.mono hF hb h3⟩
end
theorem NdIn.gr {w w':World} {F:Nat->Prop} {sl:Value} {t:Nd} (h:NdIn w F sl t) (g:Gr w w'):NdIn w' F sl t:=
 h.mono fun b hb hlt=>⟨g.ext.block b hlt,hb⟩
theorem infoNode:(Tryz.prog.info? 48).map (·.size)=some 15:=by kernel_rfl
structure Vl where
 k:Int
 x:Nat
 s:ByteArray
 b:Bool
 f:Int
structure Ct where
 k:Int
 v:Vl
 t:Nd
abbrev Vl.val (v:Vl):Value:=.agg #[.int .i64 v.k,.float .f64 v.x,.string v.s,.bool v.b,.int .i64 v.f]
abbrev Ct.cells (c:Ct) (sl:Value):List Value:=[.int .i64 c.k,.int .i64 c.v.k,.float .f64 c.v.x,.string c.v.s,.bool c.v.b,.int .i64 c.v.f,
 .int .i64 c.t.hd.k,.int .i64 c.t.hd.o,.float .f64 c.t.hd.x,.string c.t.hd.s,.bool c.t.hd.b,.int .i64 c.t.hd.f,.int .i64 c.t.hd.c1,.int .i64 c.t.hd.r1,.bool c.t.hd.p1,.bool c.t.hd.q1,.int .i64 c.t.hd.c2,.int .i64 c.t.hd.r2,.bool c.t.hd.p2,.bool c.t.hd.q2,sl]
abbrev Ct.val (c:Ct) (sl:Value):Value:=.agg #[.int .i64 c.k,.int .i64 c.v.k,.float .f64 c.v.x,.string c.v.s,.bool c.v.b,.int .i64 c.v.f,
 .int .i64 c.t.hd.k,.int .i64 c.t.hd.o,.float .f64 c.t.hd.x,.string c.t.hd.s,.bool c.t.hd.b,.int .i64 c.t.hd.f,.int .i64 c.t.hd.c1,.int .i64 c.t.hd.r1,.bool c.t.hd.p1,.bool c.t.hd.q1,.int .i64 c.t.hd.c2,.int .i64 c.t.hd.r2,.bool c.t.hd.p2,.bool c.t.hd.q2,sl]
end Go.Proofs.YtecjfnkakodebaaGreatDoor
