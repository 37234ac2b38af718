/- settle. -/
import Derived.Test.YtkgolfmnlbmmeaaGreatDoorYl
namespace Go.Proofs.YtkgolfmnlbmmeaaGreatDoor
open Go.RowKit

/-- Pointers, as cells. -/
def vals (f : Nat → Value) (n : Nat) : List Value := (List.range n).map f
theorem vals_get {f : Nat → Value} {n i : Nat} (h : i < n) : (vals f n)[i]? = some (f i) := by
  unfold vals; rw [List.getElem?_map, List.getElem?_range h]; rfl
theorem vals_set (f : Nat → Value) (n i : Nat) (v : Value) : (vals f n).set i v = vals (fun j => if j = i then v else f j) n := by
  apply List.ext_getElem?
  intro j
  by_cases hj : j < n
  · rw [vals_get hj]
    by_cases e : i = j
    · subst e; rw [List.getElem?_set_self (by simp [vals]; exact hj), if_pos rfl]
    · rw [List.getElem?_set_ne e, vals_get hj, if_neg (Ne.symm e)]
  · rw [List.getElem?_eq_none (by simp [vals]; omega), List.getElem?_eq_none (by simp [vals]; omega)]
/-- The blocks of turns. -/
structure Tb where
  t : Nat
  B : Nat
  ub : Nat
  mb : Nat
  un : Nat
  qb : Nat
  sb : Nat
  wb : Nat
/-- What stands in memory and is not written by settle. -/
structure TStay (w : World) (F : Nat → Prop) (E : Tb) (L : List (Int × Int)) (M : Nat → Bool) : Prop where
  t : Blk w E.t [.pointer (some ⟨E.B, 0, none⟩), .slice (some ⟨E.un, 0, none⟩) ((L.length + 63) / 64) ((L.length + 63) / 64), .pointer (some ⟨E.qb, 0, none⟩), .slice (some ⟨E.wb, 0, none⟩) L.length L.length] 113
  board : BoardIn w F E.B E.ub E.mb L
  u : Blk w E.un (wds M ((L.length + 63) / 64)) 123
/-- The queue. -/
structure QIn (w : World) (E : Tb) (N : Nat) (s : Nat → Int) (z : Int) : Prop where
  qq : Blk w E.qb [.int .i64 z, .slice (some ⟨E.sb, 0, none⟩) (N + 1) (N + 1)] 115
  ss : Blk w E.sb (nums s (N + 1)) 3
  lo : ∀ j, -4294967296 ≤ s j
  hi : ∀ j, s j ≤ 4294967296
  zlo : -4294967296 ≤ z
  zhi : z ≤ 4294967296
/-- A wait in memory: its block, its place; C and al are what may still be to wait for; U all that it uses. -/
structure WtIn (w : World) (F : Nat → Prop) (L : List (Int × Int)) (mb b p : Nat) (nx : Value) (C : Nat → Bool) (al : List Ar) (U : Nat → Bool) : Prop where
  form : ∃ v1 v2 v3 v4 av, Blk w b [.int .i64 (p : Int), v1, v2, v3, v4, av, nx] 143 ∧ PcIs L mb v1 v2 v3 v4 C ∧ ArSl w F av al
  ok : ∀ a ∈ al, a.ok
  cu : ∀ q, C q = true → U q = true
  au : ∀ a ∈ al, ∀ q, inPl L a q = true → U q = true
/-- Blocks that settle writes. -/
def Wr (E : Tb) (b : Nat) : Nat → Prop := fun i => i = b ∨ i = E.qb ∨ i = E.sb ∨ i = E.wb
theorem TStay.kp {w w' : World} {F S : Nat → Prop} {E : Tb} {L : List (Int × Int)} {M : Nat → Bool} (h : TStay w F E L M) (g : Kp w w' S) (h1 : ¬ S E.t) (h2 : ¬ S E.B) (h3 : ¬ S E.ub) (h4 : ¬ S E.mb) (h5 : ¬ S E.un) (hF : ∀ b, F b → ¬ S b) : TStay w' F E L M :=
  ⟨h.t.kp g h1, h.board.kp g h2 h3 h4 hF, h.u.kp g h5⟩
theorem QIn.kp {w w' : World} {S : Nat → Prop} {E : Tb} {N : Nat} {s : Nat → Int} {z : Int} (h : QIn w E N s z) (g : Kp w w' S) (h1 : ¬ S E.qb) (h2 : ¬ S E.sb) : QIn w' E N s z := ⟨h.qq.kp g h1, h.ss.kp g h2, h.lo, h.hi, h.zlo, h.zhi⟩
theorem WtIn.kp {w w' : World} {F S : Nat → Prop} {L : List (Int × Int)} {mb b p : Nat} {nx : Value} {C : Nat → Bool} {al : List Ar} {U : Nat → Bool} (h : WtIn w F L mb b p nx C al U) (g : Kp w w' S) (h1 : ¬ S b) (hF : ∀ b, F b → ¬ S b) : WtIn w' F L mb b p nx C al U := by
  obtain ⟨⟨v1, v2, v3, v4, av, e1, e2, e3⟩, h2, h3, h4⟩ := h
  exact ⟨⟨v1, v2, v3, v4, av, e1.kp g h1, e2, e3.kp g hF⟩, h2, h3, h4⟩
/-- How many areas are left to look into. -/
def leftOf (w : World) (b : Nat) : Nat := match w.cell? ⟨b, 5, none⟩ with | some (.slice _ n _) => n | _ => 0
/-- All that is not told yet and is used is still looked at. -/
def Covers (L : List (Int × Int)) (M C : Nat → Bool) (al : List Ar) (U : Nat → Bool) : Prop := ∀ q, M q = true → U q = true → C q = true ∨ ∃ a ∈ al, inPl L a q = true
def SetR (F : Nat → Prop) (E : Tb) (L : List (Int × Int)) (M : Nat → Bool) (b p : Nat) (nx : Value) (U : Nat → Bool) (w wr : World) : Prop :=
  ∃ C al, WtIn wr F L E.mb b p nx C al U ∧ Covers L M C al U ∧ Kp w wr (fun i => i = b)
end Go.Proofs.YtkgolfmnlbmmeaaGreatDoor
