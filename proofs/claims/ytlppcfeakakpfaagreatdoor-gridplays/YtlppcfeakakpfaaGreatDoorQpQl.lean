/- The kit's contract of utf8.ValidString, laid over this dump (by wip/shelfv.py: the numbers are this seat's). GridFull: how a grid is filled; puts into it. GridFull: the puts behind the loop. -/
import Derived.Shelf.Unicode.ValidAny
import Derived.Test.YtlppcfeakakpfaaGreatDoorProg
import Derived.Test.YtlppcfeakakpfaaGreatDoorQpQu
import Derived.Test.YtlppcfeakakpfaaGreatDoorQpUj
namespace Go.Proofs
open Go.Shelf
def Tryz.laysValid_ren : Go.Shelf.Ren := ⟨fun | 196 => 77 | 259 => 102 | n => n, fun | 9 => 9 | 4 => 4 | 3 => 3 | 5 => 5 | 12 => 12 | 119 => 127 | 0 => 0 | 46 => 123 | 139 => 130 | 138 => 129 | 53 => 89 | n => n, fun | 3 => 1 | 4 => 2 | n => n⟩
theorem Tryz.laysValid : Go.Proofs.Lays.n196 Tryz.prog Tryz.laysValid_ren := {
 mixed := by kernel_rfl
 f196 := Tryz.func77.trans (congrArg some (by kernel_rfl))
 f259 := Tryz.func102.trans (congrArg some (by kernel_rfl))
 t0 := Tryz.underlying0
 a0 := Tryz.isAgg0
 z0 := Tryz.sizeOf0
 v0 := Tryz.zeroValue0
 t3 := Tryz.underlying3
 a3 := Tryz.isAgg3
 z3 := Tryz.sizeOf3
 v3 := Tryz.zeroValue3
 t4 := Tryz.underlying4
 a4 := Tryz.isAgg4
 z4 := Tryz.sizeOf4
 v4 := Tryz.zeroValue4
 t5 := Tryz.underlying5
 a5 := Tryz.isAgg5
 z5 := Tryz.sizeOf5
 v5 := Tryz.zeroValue5
 t9 := Tryz.underlying9
 a9 := Tryz.isAgg9
 z9 := Tryz.sizeOf9
 v9 := Tryz.zeroValue9
 t12 := Tryz.underlying12
 a12 := Tryz.isAgg12
 z12 := Tryz.sizeOf12
 v12 := Tryz.zeroValue12
 t46 := Tryz.underlying123
 a46 := Tryz.isAgg123
 z46 := Tryz.sizeOf123
 v46 := Tryz.zeroValue123
 t53 := Tryz.underlying89
 a53 := Tryz.isAgg89
 z53 := Tryz.sizeOf89
 v53 := Tryz.zeroValue89
 t119 := Tryz.underlying127
 a119 := Tryz.isAgg127
 z119 := Tryz.sizeOf127
 t138 := Tryz.underlying129
 a138 := Tryz.isAgg129
 z138 := Tryz.sizeOf129
 v138 := Tryz.zeroValue129
 t139 := Tryz.underlying130
 a139 := Tryz.isAgg130
 z139 := Tryz.sizeOf130
 v139 := Tryz.zeroValue130
 g3 := by kernel_rfl
 g4 := by kernel_rfl }
end Go.Proofs
namespace Go.Proofs.YtlppcfeakakpfaaGreatDoor
open Go.RowKit Go.Maps
theorem vs_of {w : World} (hT : Lib.Utf8Tabs (Tryz.laysValid_ren.g 3) (Tryz.laysValid_ren.g 4) w) : VS w := fun s wq hs hk => by
 have hc : ∀ {b j : Nat} {v : Value}, w.cell? ⟨b, j, none⟩ = some v → wq.cell? ⟨b, j, none⟩ = some v := fun {b j v} h => by
  have := hk.block b (cell_lt h) (fun x => x)
  simp only [World.cell?] at h ⊢
  rw [this]; exact h
 have hT' : Lib.Utf8Tabs (Tryz.laysValid_ren.g 3) (Tryz.laysValid_ren.g 4) wq := ⟨fun c h => hc (hT.1 c h), fun i h => ⟨hc (hT.2 i h).1, hc (hT.2 i h).2⟩⟩
 refine (Any.utf8_ValidString Tryz.laysValid s wq (by omega) hT').mono ?_
 rintro e w' ⟨h1, h2⟩
 exact ⟨h1, Kp.of_below h2⟩
structure Cn (w : World) (ct : Ct) (sl : Value) : Prop where
 ok : ct.t.ok
 vx : ct.v.x < 18446744073709551616
 inn : NdIn w (fun _ => True) sl ct.t
def ct0 : Ct := ⟨0, ⟨0, 0, ⟨#[]⟩, false, 0⟩, zNd⟩
section
variable {w w2 u u' : World} {g : Nat} {L L' : List Cc}
end
end Go.Proofs.YtlppcfeakakpfaaGreatDoor
namespace Go.Proofs.YtlppcfeakakpfaaGreatDoor
open Go.RowKit Go.Maps
section
variable {w w2 u u' : World} {g p1 p2 : Nat} {x y : Int} {L L' : List Cc}
end
mutual
theorem NdIn.monoR {w w' : World} {F F' : Nat → Prop} (hF : ∀ b, F b → (∃ o h sl, w.rangeAt b o (Hd.cells h sl)) → w'.heap[b]? = w.heap[b]? ∧ F' b) {sl : Value} : ∀ {t : Nd}, NdIn w F sl t → NdIn w' F' sl t
 | .mk _ ts, h => by
  rw [NdIn] at h ⊢
  obtain ⟨a, c, h1, h2, h3, h4⟩ := h
  refine ⟨a, c, h1, h2, h3, ?_⟩
  rcases h4 with h4 | ⟨b, o, h4, h5, h6⟩
  ·exact .inl h4
  ·cases ts with
   | nil =>
    subst h4
    exact .inl ⟨rfl, .inr (by simp)⟩
   | cons t ts =>
    have hb : ∃ o h sl, w.rangeAt b o (Hd.cells h sl) := by
     rw [NdsIn] at h6
     obtain ⟨⟨_, h7, _⟩, _⟩ := h6
     exact ⟨o, _, _, h7⟩
    exact .inr ⟨b, o, h4, (hF b h5 hb).2, NdsIn.monoR hF (hF b h5 hb).1 h6⟩
theorem NdsIn.monoR {w w' : World} {F F' : Nat → Prop} (hF : ∀ b, F b → (∃ o h sl, w.rangeAt b o (Hd.cells h sl)) → w'.heap[b]? = w.heap[b]? ∧ F' b) {b : Nat} (hb : w'.heap[b]? = w.heap[b]?) : ∀ {ts : List Nd} {o : Nat}, NdsIn w F b o ts → NdsIn w' F' b o ts
 | [], _, _ => by rw [NdsIn]; trivial
 | t :: ts, o, h => by
  rw [NdsIn] at h ⊢
  obtain ⟨⟨sl, h1, h2⟩, h3⟩ := h
  exact ⟨⟨sl, rangeAt_block h1 hb, NdIn.monoR hF h2⟩, NdsIn.monoR hF hb h3⟩
end
end Go.Proofs.YtlppcfeakakpfaaGreatDoor
