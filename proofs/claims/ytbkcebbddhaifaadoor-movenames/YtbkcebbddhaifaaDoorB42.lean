/- Puts: the puts that lead from one grid to another. -/
import Derived.Test.YtbkcebbddhaifaaDoorB41
namespace Go.Proofs.YtbkcebbddhaifaaDoor
open Go.RowKit Go.Maps Go.Sort Go.Lib

/-- What a put of Puts has: the other grid's content, or the empty one. -/
def PutOf (M : List Cc) (x : Cc) : Prop := x ∈ M ∨ (x.2 = ct0 ∧ ∀ b, (x.1, b) ∉ M)
/-- What Puts tells. -/
structure PutsR (w w' : World) (L M : List Cc) (v : Value) (ys : List (Cc × Value)) : Prop where
  pts : Pts w' w.heap.size (fun _ => True) v ys
  strict : Strict (ys.map (·.1.1))
  mem : ∀ x, x ∈ ys.map (·.1.1) ↔ Un L M x
  put : ∀ y ∈ ys, PutOf M y.1
  kp : Kp w w' Nul
theorem nodup_le {α : Type} [DecidableEq α] : ∀ (l m : List α), l.Nodup → (∀ x ∈ l, x ∈ m) → l.length ≤ m.length
  | [], m, _, _ => Nat.zero_le _
  | x :: l, m, hn, hs => by
    rw [List.nodup_cons] at hn
    have hx : x ∈ m := hs x List.mem_cons_self
    have h := nodup_le l (m.erase x) hn.2 (fun y hy => (List.mem_erase_of_ne (by rintro rfl; exact hn.1 hy)).2 (hs y (List.mem_cons_of_mem _ hy)))
    rw [List.length_erase_of_mem hx] at h
    have : 0 < m.length := List.length_pos_of_mem hx
    rw [List.length_cons]; omega
theorem strict_nodup {U : List (Int × Int)} (h : Strict U) : U.Nodup := h.imp (fun {x y} h e => by subst e; rw [swoA.irrefl] at h; cases h)
end Go.Proofs.YtbkcebbddhaifaaDoor
