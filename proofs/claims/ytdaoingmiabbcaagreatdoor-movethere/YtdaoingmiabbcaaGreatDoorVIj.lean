/- unlike: the walk. Puts: the puts that lead from one grid to another. -/
import Derived.Test.YtdaoingmiabbcaaGreatDoorVIg
import Derived.Test.YtdaoingmiabbcaaGreatDoorVIh
import Derived.Test.YtdaoingmiabbcaaGreatDoorVIk
namespace Go.Proofs.YtdaoingmiabbcaaGreatDoor
open Go.RowKit Go.Maps Go.Sort Go.Lib

/-- What a look into a grid tells, as a content. -/
theorem look_ct {w : World} {g : Nat} {L : List Cc} (h : GI 0 w g L) (gL : ∀ x ∈ L, Gd x.2) {c s : Int} (hc : I64 c) (hs : I64 s) {mv : Option Nat} (hb : Blk w g [.map mv] 88) :
    ∃ a sa b, Lk w g c s mv (a.val sa) b ∧ NdIn w (fun b => 0 ≤ b) sa a.t ∧ a.v.x < 18446744073709551616 ∧ a.t.ok ∧ a.t.size ≤ 1048576 ∧ cpC a = a ∧ ((b = true ∧ ((c, s), a) ∈ L) ∨ (b = false ∧ a = ct0 ∧ sa = .slice none 0 0 ∧ ∀ a', ((c, s), a') ∉ L)) := by
  obtain ⟨mv', v, b, q1, q2⟩ := lk_of h hc hs
  have e : mv' = mv := by
    have q := q1.cell.symm.trans hb
    simpa using q
  subst e
  rcases q2 with ⟨rfl, ct, sl, h1, rfl, h3⟩ | ⟨rfl, rfl, h2⟩
  · have hgd := gL _ h1
    exact ⟨ct, sl, true, q1, h3, hgd.x, hgd.ok, hgd.size, hgd.cp, .inl ⟨rfl, h1⟩⟩
  · refine ⟨ct0, .slice none 0 0, false, q1, zNd_in w _, by decide, zNd_ok, by show zNd.size ≤ _; rw [zsize]; decide, ?_, .inr ⟨rfl, rfl, rfl, h2⟩⟩
    unfold cpC ct0
    simp only [cpy_zNd]
    rfl
end Go.Proofs.YtdaoingmiabbcaaGreatDoor
namespace Go.Proofs.YtdaoingmiabbcaaGreatDoor
open Go.RowKit Go.Maps Go.Sort Go.Lib

theorem nodup_le {α : Type} [DecidableEq α] : ∀ (l m : List α), l.Nodup → (∀ x ∈ l, x ∈ m) → l.length ≤ m.length
  | [], m, _, _ => Nat.zero_le _
  | x :: l, m, hn, hs => by
    rw [List.nodup_cons] at hn
    have hx : x ∈ m := hs x List.mem_cons_self
    have h := nodup_le l (m.erase x) hn.2 (fun y hy => (List.mem_erase_of_ne (by rintro rfl; exact hn.1 hy)).2 (hs y (List.mem_cons_of_mem _ hy)))
    rw [List.length_erase_of_mem hx] at h
    have : 0 < m.length := List.length_pos_of_mem hx
    rw [List.length_cons]; omega
theorem strict_nodup {U : List (Int × Int)} (h : Strict U) : U.Nodup := h.imp (fun {x y} h e => by subst e; rw [swoA.irrefl] at h; cases h)
end Go.Proofs.YtdaoingmiabbcaaGreatDoor
