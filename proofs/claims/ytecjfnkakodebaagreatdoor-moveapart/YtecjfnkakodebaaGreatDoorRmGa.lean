/-A world with new blocks laid behind it and draws made: nothing that wa. -/
import Derived.Below
import Derived.RowKit3
import Derived.Extends
import Derived.Deep.Draws
import Derived.Test.YtecjfnkakodebaaGreatDoorRows
import Derived.WalkKit
import Derived.WalkSpells
import Derived.WalkLawsBesides
open Go.Value renaming bool->E,tuple->au
open Bool renaming false->R
open Option renaming some->H,none->G
open Go.Ending renaming returned->Q
namespace Go.Proofs.YtecjfnkakodebaaGreatDoor
open Go.RowKit
theorem _root_.Go.RowKit.Hid.o {p:Prop}(h:Hid p):p:=h
theorem Sz0 {α:Type}(l:List α)(i:Nat)(a:α):l.toArray.setIfInBounds i a=(l.set i a).toArray:=List.setIfInBounds_toArray ..
theorem Sz1 {α:Type}(a b:α)(l:List α):(a::l).set 0 b=b::l:=rfl
theorem Sz2 {α:Type}(a b:α)(n:Nat)(l:List α):(a::l).set (n+1) b=a::l.set n b:=rfl
structure Gr (w w':World):Prop where
 ext:w.Extends w'
 froz:∀a,w'.frozen? a=w.frozen? a
namespace Gr
theorem refl (w:World):Gr w w:=⟨World.Extends.refl w,fun _=>rfl⟩
theorem trans {w w1 w2:World}(h:Gr w w1)(g:Gr w1 w2):Gr w w2:=⟨h.ext.trans g.ext,fun a=>(g.froz a).trans (h.froz a)⟩
theorem alloc {w w1:World}(h:Gr w w1)(c:Array Value)(t:TypeId):Gr w (w1.alloc (.cells c t)):=⟨h.ext.alloc _,fun a=>(frozen?_alloc_cells _ _ _ a).trans (h.froz a)⟩
theorem setCell {w w1:World}(h:Gr w w1)(a:Addr)(v:Value)(ha:w.heap.size<=a.block):Gr w (w1.setCell a v):=⟨h.ext.setCell a v ha,fun x=>(World.frozen?_setCell _ _ _ _).trans (h.froz x)⟩
theorem drew {w w1:World}(h:Gr w w1):Gr w w1.drew:=⟨h.ext.drew,h.froz⟩
theorem drewN {w w1:World}(h:Gr w w1)(n:Nat):Gr w (w1.drewN n):=⟨⟨h.ext.os,h.ext.tape,h.ext.output,h.ext.size,h.ext.cell,h.ext.frozen,h.ext.block⟩,h.froz⟩
theorem kept {w w':World}(h:Gr w w')(may:MemPlace->Prop):w.keptBut w' may:=by
 refine⟨h.ext.os,h.ext.output,fun i hi=>?_⟩;rw[h.ext.block i hi];cases w.heap[i]? with
 | none=>rfl
 | some o=>cases o <;> simp
theorem cell {w w':World}(h:Gr w w'){a:Addr}{v:Value}(hb:a.block<w.heap.size)(hc:w.cell? a=H v):w'.cell? a=H v:=by rw[h.ext.cell a hb,hc]
end Gr
theorem J7 {w:World}{b j:Nat}{v:Value}(h:w.cell? ⟨b,j,G⟩=H v):b<w.heap.size:=by
 rcases Nat.lt_or_ge b w.heap.size with c|c
 ·exact c
 ·have:w.heap[b]? = G:=by simp[c]
  simp[World.cell?,this] at h
theorem j1G (w:World)(j:Nat):w.frozen? ⟨w.heap.size,j,G⟩=R:=by
 simp[World.frozen?]
theorem rInt {k:IntKind}{a b:Int}(h:a=b):Q (.int k a)=Q (.int k b):=by rw[h]
theorem j4 {a b:Bool}(h:a=b):Q (E a)=Q (E b):=by rw[h]
theorem rTwo {a b c d:Value}(h1:a=c)(h2:b=d):Q (au #[a,b])=Q (au #[c,d]):=by rw[h1,h2]
theorem j7N {a b:Bool}(h:a=b):E a=E b:=by rw[h]
theorem h_ {p:Prop}(h:p):Hid p:=h
theorem e_ {α:Sort _}(a:α):∃v,a=v:=⟨a,rfl⟩
end Go.Proofs.YtecjfnkakodebaaGreatDoor
