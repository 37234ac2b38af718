/- Marks: put, drop. -/
import Derived.Test.YtdlieecpckpemaaGreatDoorLcYk
import Derived.Test.YtdlieecpckpemaaGreatDoorLcWd
import Derived.RegionTactic
import Derived.BigRegion
import Derived.Laws.BitsAllLaws
import Derived.Laws.ShiftsVarLaws
namespace Go.Proofs.YtdlieecpckpemaaGreatDoor
open Go.RowKit

theorem wrap_pow (k : Nat) (h : k < 64) : IntKind.u64.wrap (2 ^ k) = ((2 ^ k : Nat) : Int) := by
  rw [IntKind.wrap_u64]
  have h1 : 2 ^ k ≤ 2 ^ 63 := Nat.pow_le_pow_right (by omega) (by omega)
  have h2 : ((2 : Int) ^ k) = ((2 ^ k : Nat) : Int) := by push_cast; rfl
  rw [h2]
  generalize 2 ^ k = z at h1 ⊢
  rw [Int.emod_eq_of_lt (by omega) (by omega)]
/-- Words of marks, as cells. -/
def wds (M : Nat → Bool) (n : Nat) : List Value := (List.range n).map fun i => .int .u64 ((Wd.wd M i : Nat) : Int)
theorem wds_get {M : Nat → Bool} {n i : Nat} (h : i < n) : (wds M n)[i]? = some (.int .u64 ((Wd.wd M i : Nat) : Int)) := by
  unfold wds; rw [List.getElem?_map, List.getElem?_range h]; rfl
theorem wds_set {M N : Nat → Bool} {n i : Nat} (h : ∀ j, j < n → j ≠ i → Wd.wd M j = Wd.wd N j) : (wds M n).set i (.int .u64 ((Wd.wd N i : Nat) : Int)) = wds N n := by
  apply List.ext_getElem?
  intro j
  by_cases hj : j < n
  · rw [wds_get hj]
    by_cases e : i = j
    · subst e; rw [List.getElem?_set_self (by simp [wds]; exact hj)]
    · rw [List.getElem?_set_ne e, wds_get hj, h j hj (Ne.symm e)]
  · rw [List.getElem?_eq_none (by simp [wds]; omega), List.getElem?_eq_none (by simp [wds]; omega)]
/-- One mark more; one less. -/
def ins (M : Nat → Bool) (p : Nat) : Nat → Bool := fun q => if q = p then true else M q
theorem or_put (M : Nat → Bool) (p : Nat) : bits .or .u64 ((Wd.wd M (p / 64) : Nat) : Int) (IntKind.u64.wrap (2 ^ (p % 64))) = ((Wd.wd (ins M p) (p / 64) : Nat) : Int) := by
  rw [wrap_pow _ (by omega), Wd.wd_one p, u64_or_nat _ _ (Wd.wd_lt _ _) (Wd.wd_lt _ _), Wd.wd_or]
  congr 1
  apply Wd.wd_congr
  intro j hj
  unfold ins
  by_cases h : 64 * (p / 64) + j = p <;> simp [h]
theorem andNot_drop (M : Nat → Bool) (p : Nat) : bits .andNot .u64 ((Wd.wd M (p / 64) : Nat) : Int) (IntKind.u64.wrap (2 ^ (p % 64))) = ((Wd.wd (fun q => if q = p then false else M q) (p / 64) : Nat) : Int) := by
  rw [wrap_pow _ (by omega), Wd.wd_one p, u64_andNot_nat _ _ (Wd.wd_lt _ _) (Wd.wd_lt _ _), Wd.wd_andNot]
  congr 1
  apply Wd.wd_congr
  intro j hj
  by_cases h : 64 * (p / 64) + j = p <;> simp [h]
theorem wd_far {M : Nat → Bool} {p j : Nat} (v : Bool) (h : j ≠ p / 64) : Wd.wd M j = Wd.wd (fun q => if q = p then v else M q) j := by
  apply Wd.wd_congr
  intro k hk
  rw [if_neg (by omega)]

set_option maxHeartbeats 1000000 in
theorem put_at (b o n c p : Nat) (x y : Int) (w : World) (hn : p / 64 < n) (hp : p < 4294967296) (hy : bits .or .u64 x (IntKind.u64.wrap (2 ^ (p % 64))) = y) (h : w.cell? ⟨b, o + p / 64, none⟩ = some (.int .u64 x)) (hf : w.frozen? ⟨b, o + p / 64, none⟩ = false) :
    Calls Tryz.prog 57 #[.slice (some ⟨b, o, none⟩) n c, .int .i64 (p : Int)] w fun e w' => e = .returned (.tuple #[]) ∧ w' = (w.setCell ⟨b, o + p / 64, none⟩ (.int .u64 y)).drew := by
  have h1 : (0 : Int) ≤ (p : Int) / 64 := by omega
  have h2 : (p : Int) / 64 < (n : Int) := by omega
  have h3 : (0 : Int) ≤ (p : Int) % 64 := by omega
  have HY : Hid (bits .or .u64 x (IntKind.u64.wrap (2 ^ (p % 64))) = y) := hy
  clear hy
  go_enter Tryz.func57, Tryz.ntmps57
  go_wp2
  go_region
  go_end0
  exact ⟨rfl, by rw [HY.out]⟩
set_option maxHeartbeats 1000000 in
theorem drop_at (b o n c p : Nat) (x y : Int) (w : World) (hn : p / 64 < n) (hp : p < 4294967296) (hy : bits .andNot .u64 x (IntKind.u64.wrap (2 ^ (p % 64))) = y) (h : w.cell? ⟨b, o + p / 64, none⟩ = some (.int .u64 x)) (hf : w.frozen? ⟨b, o + p / 64, none⟩ = false) :
    Calls Tryz.prog 106 #[.slice (some ⟨b, o, none⟩) n c, .int .i64 (p : Int)] w fun e w' => e = .returned (.tuple #[]) ∧ w' = (w.setCell ⟨b, o + p / 64, none⟩ (.int .u64 y)).drew := by
  have h1 : (0 : Int) ≤ (p : Int) / 64 := by omega
  have h2 : (p : Int) / 64 < (n : Int) := by omega
  have h3 : (0 : Int) ≤ (p : Int) % 64 := by omega
  have HY : Hid (bits .andNot .u64 x (IntKind.u64.wrap (2 ^ (p % 64))) = y) := hy
  clear hy
  go_enter Tryz.func106, Tryz.ntmps106
  go_wp2
  go_region
  go_end0
  exact ⟨rfl, by rw [HY.out]⟩
end Go.Proofs.YtdlieecpckpemaaGreatDoor
