/- pick; has. -/
import Derived.Test.YtdlieecpckpemaaGreatDoorLcYe
import Derived.Test.YtdlieecpckpemaaGreatDoorLcOd
import Derived.BigQuiet
namespace Go.Proofs.YtdlieecpckpemaaGreatDoor
open Go.RowKit

/-- Whole numbers in memory. -/
def IntsAt (w : World) (b o : Nat) (P : List Int) : Prop := ∀ (i : Nat) (x : Int), P[i]? = some x → w.cell? ⟨b, o + i, none⟩ = some (.int .i64 x)
theorem IntsAt.kp {w w' : World} {b o : Nat} {P : List Int} {S : Nat → Prop} (h : IntsAt w b o P) (g : Kp w w' S) (hb : ¬ S b) : IntsAt w' b o P := fun i x hx => by
  have h1 := h i x hx
  have e := g.block b (cell_lt h1) hb
  simp only [World.cell?] at h1 ⊢
  rw [e]; exact h1
theorem wrapI (z : Int) (h1 : -9223372036854775808 ≤ z) (h2 : z ≤ 9223372036854775807) : IntKind.i64.wrap z = z := by rw [IntKind.wrap_i64]; omega
theorem pk_some {P : List Int} {k : Nat} {x : Int} (h : P[k]? = some x) (n : Nat) (hn : 0 < n) : ((Od.pk P k n : Nat) : Int) = (x.tmod n + n).tmod n ∧ -(n : Int) < x.tmod n ∧ x.tmod n < n ∧ 0 ≤ (x.tmod n + n).tmod n ∧ (x.tmod n + n).tmod n < n := by
  have h1 : -(n : Int) < x.tmod n := by
    have := Int.lt_tmod_of_pos x (b := n) (by omega); omega
  have h2 : x.tmod n < n := Int.tmod_lt_of_pos x (by omega)
  have h3 : 0 ≤ x.tmod n + n := by omega
  have h4 := Int.tmod_lt_of_pos (x.tmod n + n) (b := n) (by omega)
  have h5 := Int.tmod_nonneg (n : Int) h3
  refine ⟨?_, h1, h2, h5, h4⟩
  unfold Od.pk
  rw [h]
  simp only
  omega
set_option maxHeartbeats 2000000 in
theorem pick_at (P : List Int) (a : Option Addr) (c k n : Nat) (w : World) (hk : k < 4294967296) (hn0 : 0 < n) (hn : n < 4294967296) (_hP : P.length ≤ maxLen) (ha : 0 < P.length → ∃ b o, a = some ⟨b, o, none⟩ ∧ IntsAt w b o P) :
    Calls Tryz.prog 76 #[.slice a P.length c, .int .i64 (k : Int), .int .i64 (n : Int)] w fun e w' => e = .returned (.int .i64 ((Od.pk P k n : Nat) : Int)) ∧ w' = w := by
  by_cases hlt : k < P.length
  · obtain ⟨b, o, rfl, hp⟩ := ha (by omega)
    obtain ⟨x, hx⟩ : ∃ x, P[k]? = some x := ⟨_, List.getElem?_eq_getElem hlt⟩
    have hc := hp k x hx
    obtain ⟨e1, e2, e3, e4, e5⟩ := pk_some hx n hn0
    rw [e1]
    have hz : ((n : Int) == 0) = false := by simp; omega
    have hz2 : (n : Int) ≠ 0 := by omega
    have hw1 : IntKind.i64.wrap (x.tmod n) = x.tmod n := wrapI _ (by omega) (by omega)
    have hw2 : IntKind.i64.wrap (x.tmod n + n) = x.tmod n + n := wrapI _ (by omega) (by omega)
    have hw3 : IntKind.i64.wrap ((x.tmod n + n).tmod n) = (x.tmod n + n).tmod n := wrapI _ (by omega) (by omega)
    have hl : (k : Int) < (P.length : Int) := by omega
    have hk0 : (0 : Int) ≤ (k : Int) := by omega
    generalize P.length = N at *
    clear hp hx ha e1 e2 e3 e4 e5
    go_enter Tryz.func76, Tryz.ntmps76
    go_wp2
    go_ret
    exact ⟨rfl, rfl⟩
  · have e : Od.pk P k n = 0 := by unfold Od.pk; rw [List.getElem?_eq_none (by omega)]
    rw [e]
    have hl : (P.length : Int) ≤ (k : Int) := by omega
    generalize P.length = N at *
    clear ha e
    go_enter Tryz.func76, Tryz.ntmps76
    go_wp2
    go_ret
    exact ⟨rfl, rfl⟩
end Go.Proofs.YtdlieecpckpemaaGreatDoor
