/- gone, over a slice that holds the document's cells. -/
import Derived.Test.YthehdloofamadaaDoorMb
namespace Go.Proofs.YthehdloofamadaaDoor
open Go.RowKit

theorem clV_len (c r : Int) (wd k : Nat) : (clV c r wd k).length = k * 2 := by
  induction k with
  | zero => rfl
  | succ k ih => rw [clV_succ, List.length_append, ih]; simp; omega
theorem clV_get (c r : Int) (wd k j : Nat) (h : j < k) : (clV c r wd k)[j * 2]? = some (.int .i64 (c + (j % wd : Nat))) ∧ (clV c r wd k)[j * 2 + 1]? = some (.int .i64 (r + (j / wd : Nat))) := by
  induction k with
  | zero => omega
  | succ k ih =>
    rw [clV_succ]
    have hl := clV_len c r wd k
    by_cases e : j = k
    · subst e
      rw [List.getElem?_append_right (by omega), List.getElem?_append_right (by omega), hl, Nat.sub_self, show j * 2 + 1 - j * 2 = 1 by omega]
      exact ⟨rfl, rfl⟩
    · rw [List.getElem?_append_left (by omega), List.getElem?_append_left (by omega)]
      exact ih (by omega)
theorem nA_le (c r d s : Int) : ((nA c r d s : Nat) : Int) ≤ 1048576 := by
  unfold nA
  by_cases h : vA c r d s = true
  · rw [if_pos h]
    have hb := (vA_iff c r d s).1 h
    obtain ⟨_, m⟩ := mul_bd ((s - r + 1).toNat : Int) ((d - c + 1).toNat : Int) (by omega) (by omega) (by omega) (by omega)
    have h1 : ((s - r + 1).toNat : Int) ≤ 4096 := by omega
    have h2 : ((d - c + 1).toNat : Int) ≤ 256 := by omega
    have := Int.mul_le_mul h1 h2 (by omega) (by decide)
    rw [Int.natCast_mul]
    omega
  · rw [if_neg h]; decide
theorem gone_says : SaysGone := fun c r d s k hk0 hk1 b v w hb ho => by
  obtain ⟨hlen, ho⟩ := ho
  rcases ho with ⟨rfl, h0⟩ | ⟨g, cap, cur, rfl, hbg, hg, hle, hcap, hsz, htk⟩
  · have := gone_core c r d s k hk0 hk1 (nA c r d s) (nA_le c r d s) rfl none 0 0 w (fun h => by omega) (fun h => by omega) (fun j hj => by omega) (fun w => says.cells c r d s w)
    rw [h0] at this
    exact this
  · refine gone_core c r d s k hk0 hk1 (nA c r d s) (nA_le c r d s) rfl _ cap g w (fun _ => rfl) (fun _ => (Array.getElem?_eq_some_iff.1 hg).1) (fun j hj => ?_) (fun w => says.cells c r d s w)
    obtain ⟨e1, e2⟩ := clV_get c r (d - c + 1).toNat (nA c r d s) j hj
    have key : ∀ o x, o < nA c r d s * 2 → (clV c r (d - c + 1).toNat (nA c r d s))[o]? = some x → w.cell? ⟨g, o, none⟩ = some x := by
      intro o x ho hx
      rw [← htk, List.getElem?_take_of_lt ho] at hx
      rw [Array.getElem?_toList] at hx
      simp [World.cell?, hg, hx]
    exact ⟨key _ _ (by omega) e1, key _ _ (by omega) e2⟩
end Go.Proofs.YthehdloofamadaaDoor
