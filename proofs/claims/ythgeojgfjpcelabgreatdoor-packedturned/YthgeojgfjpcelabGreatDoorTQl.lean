/- The kit's contract of utf8.ValidString, laid over this dump (by wip/shelfv.py: the numbers are this seat's). GridFull: how a grid is filled; puts into it. GridFull: the puts behind the loop. -/
import Derived.Shelf.Unicode.ValidAny
import Derived.Test.YthgeojgfjpcelabGreatDoorProg
import Derived.Test.YthgeojgfjpcelabGreatDoorTQq
import Derived.Test.YthgeojgfjpcelabGreatDoorTUc
import Derived.Deep.RegionHeld3
namespace Go.Proofs
open Go.Shelf
def Tryz.laysValid_ren : Go.Shelf.Ren := ⟨fun | 196 => 102 | 259 => 117 | n => n, fun | 9 => 9 | 4 => 4 | 3 => 3 | 5 => 5 | 12 => 12 | 119 => 181 | 0 => 0 | 46 => 122 | 139 => 184 | 138 => 183 | 53 => 39 | n => n, fun | 3 => 3 | 4 => 4 | n => n⟩
theorem Tryz.laysValid : Go.Proofs.Lays.n196 Tryz.prog Tryz.laysValid_ren := {
  mixed := by kernel_rfl
  f196 := Tryz.func102.trans (congrArg some (by kernel_rfl))
  f259 := Tryz.func117.trans (congrArg some (by kernel_rfl))
  t0 := Tryz.underlying0
  a0 := Tryz.isAgg0
  z0 := Tryz.sizeOf0
  v0 := Tryz.zeroValue0
  t3 := Tryz.underlying3
  a3 := Tryz.isAgg3
  z3 := Tryz.sizeOf3
  v3 := Tryz.zeroValue3
  t4 := Tryz.underlying4
  a4 := Tryz.isAgg4
  z4 := Tryz.sizeOf4
  v4 := Tryz.zeroValue4
  t5 := Tryz.underlying5
  a5 := Tryz.isAgg5
  z5 := Tryz.sizeOf5
  v5 := Tryz.zeroValue5
  t9 := Tryz.underlying9
  a9 := Tryz.isAgg9
  z9 := Tryz.sizeOf9
  v9 := Tryz.zeroValue9
  t12 := Tryz.underlying12
  a12 := Tryz.isAgg12
  z12 := Tryz.sizeOf12
  v12 := Tryz.zeroValue12
  t46 := Tryz.underlying122
  a46 := Tryz.isAgg122
  z46 := Tryz.sizeOf122
  v46 := Tryz.zeroValue122
  t53 := Tryz.underlying39
  a53 := Tryz.isAgg39
  z53 := Tryz.sizeOf39
  v53 := Tryz.zeroValue39
  t119 := Tryz.underlying181
  a119 := Tryz.isAgg181
  z119 := Tryz.sizeOf181
  t138 := Tryz.underlying183
  a138 := Tryz.isAgg183
  z138 := Tryz.sizeOf183
  v138 := Tryz.zeroValue183
  t139 := Tryz.underlying184
  a139 := Tryz.isAgg184
  z139 := Tryz.sizeOf184
  v139 := Tryz.zeroValue184
  g3 := by kernel_rfl
  g4 := by kernel_rfl }
end Go.Proofs
namespace Go.Proofs.YthgeojgfjpcelabGreatDoor
open Go.RowKit Go.Maps

theorem vs_of {w : World} (hT : Lib.Utf8Tabs (Tryz.laysValid_ren.g 3) (Tryz.laysValid_ren.g 4) w) : VS w := fun s wq hs hk => by
  have hc : ∀ {b j : Nat} {v : Value}, w.cell? ⟨b, j, none⟩ = some v → wq.cell? ⟨b, j, none⟩ = some v := fun {b j v} h => by
    have := hk.block b (cell_lt h) (fun x => x)
    simp only [World.cell?] at h ⊢
    rw [this]; exact h
  have hT' : Lib.Utf8Tabs (Tryz.laysValid_ren.g 3) (Tryz.laysValid_ren.g 4) wq := ⟨fun c h => hc (hT.1 c h), fun i h => ⟨hc (hT.2 i h).1, hc (hT.2 i h).2⟩⟩
  refine (Any.utf8_ValidString Tryz.laysValid s wq (by omega) hT').mono ?_
  rintro e w' ⟨h1, h2⟩
  exact ⟨h1, Kp.of_below h2⟩
/-- A content that came in. -/
structure Cn (w : World) (ct : Ct) (sl : Value) : Prop where
  ok : ct.t.ok
  vx : ct.v.x < 18446744073709551616
  inn : NdIn w (fun _ => True) sl ct.t
def ct0 : Ct := ⟨0, ⟨0, 0, ⟨#[]⟩, false, 0⟩, zNd⟩
section
variable {w w2 u u' : World} {g : Nat} {L L' : List Cc}
end
end Go.Proofs.YthgeojgfjpcelabGreatDoor
namespace Go.Proofs.YthgeojgfjpcelabGreatDoor
open Go.RowKit Go.Maps

section
variable {w w2 u u' : World} {g p1 p2 : Nat} {x y : Int} {L L' : List Cc}
end
end Go.Proofs.YthgeojgfjpcelabGreatDoor
