/- A board's marks in memory. -/
import Derived.Test.YtkgolfmnlbmmeaaGreatDoorYf
namespace Go.Proofs.YtkgolfmnlbmmeaaGreatDoor
open Go.RowKit

/-- m rows of W words each, one behind the other. -/
def memL (rows : Nat → Nat → Bool) (W m : Nat) : List Value := (List.range (m * W)).map fun j => .int .u64 ((Wd.wd (rows (j / W)) (j % W) : Nat) : Int)
theorem mem_at {c i W m : Nat} (hc : c < m) (hi : i < W) : c * W + i < m * W ∧ (c * W + i) / W = c ∧ (c * W + i) % W = i := by
  refine ⟨?_, ?_, ?_⟩
  · have : (c + 1) * W ≤ m * W := Nat.mul_le_mul_right W hc
    rw [Nat.add_mul, Nat.one_mul] at this; omega
  · rw [Nat.add_comm, Nat.add_mul_div_right _ _ (by omega), Nat.div_eq_of_lt hi, Nat.zero_add]
  · rw [Nat.add_comm, Nat.add_mul_mod_self_right, Nat.mod_eq_of_lt hi]
theorem memL_get {rows : Nat → Nat → Bool} {c i W m : Nat} (hc : c < m) (hi : i < W) : (memL rows W m)[c * W + i]? = some (.int .u64 ((Wd.wd (rows c) i : Nat) : Int)) := by
  obtain ⟨h1, h2, h3⟩ := mem_at hc hi
  unfold memL
  rw [List.getElem?_map, List.getElem?_range h1]
  simp only [Option.map_some, h2, h3]
theorem memL_zero (W m : Nat) : wds (fun _ => false) (m * W) = memL (fun _ _ => false) W m := by
  unfold memL wds
  apply List.map_congr_left
  intro j _
  rw [Wd.wd_zero, Wd.wd_zero]
theorem memL_set {rows rows' : Nat → Nat → Bool} {c i W m : Nat} (hc : c < m) (hi : i < W) (h : ∀ c' i', c' < m → i' < W → (c' ≠ c ∨ i' ≠ i) → Wd.wd (rows c') i' = Wd.wd (rows' c') i') :
    (memL rows W m).set (c * W + i) (.int .u64 ((Wd.wd (rows' c) i : Nat) : Int)) = memL rows' W m := by
  obtain ⟨h1, h2, h3⟩ := mem_at hc hi
  apply List.ext_getElem?
  intro j
  by_cases hj : j < m * W
  · by_cases e : c * W + i = j
    · subst e
      rw [List.getElem?_set_self (by simp [memL]; exact h1), memL_get hc hi]
    · rw [List.getElem?_set_ne e]
      have hW : 0 < W := by omega
      have hjm : j / W < m := by rw [Nat.div_lt_iff_lt_mul hW]; exact hj
      have hjw : j % W < W := Nat.mod_lt _ hW
      have hdm : j / W * W + j % W = j := by have := Nat.div_add_mod j W; rw [Nat.mul_comm] at this; exact this
      have q1 := memL_get (rows := rows) hjm hjw
      have q2 := memL_get (rows := rows') hjm hjw
      rw [hdm] at q1 q2
      rw [q1, q2, h _ _ hjm hjw]
      by_cases e1 : j / W = c
      · right; intro e2; rw [e1, e2] at hdm; exact e hdm
      · exact .inl e1
  · rw [List.getElem?_eq_none (by simp [memL]; omega), List.getElem?_eq_none (by simp [memL]; omega)]
/-- A board: B its struct, ub its list of marks, mb their memory. -/
structure BoardM (w : World) (B ub mb W : Nat) (cells : Value) (rows : Nat → Nat → Bool) : Prop where
  b : Blk w B [cells, .slice (some ⟨ub, 0, none⟩) 257 257] 109
  u : Blk w ub (upL mb W 257 257) 85
  m : Blk w mb (memL rows W 257) 123
theorem BoardM.kp {w w' : World} {B ub mb W : Nat} {cells : Value} {rows : Nat → Nat → Bool} {S : Nat → Prop} (h : BoardM w B ub mb W cells rows) (g : Kp w w' S) (h1 : ¬ S B) (h2 : ¬ S ub) (h3 : ¬ S mb) : BoardM w' B ub mb W cells rows :=
  ⟨h.b.kp g h1, h.u.kp g h2, h.m.kp g h3⟩
theorem BoardM.kpn {w w' : World} {B ub mb W : Nat} {cells : Value} {rows : Nat → Nat → Bool} (h : BoardM w B ub mb W cells rows) (g : Kp w w' Nul) : BoardM w' B ub mb W cells rows :=
  h.kp g (fun x => x) (fun x => x) (fun x => x)
theorem BoardM.set {w : World} {B ub mb W : Nat} {cells : Value} {rows rows' : Nat → Nat → Bool} (h : BoardM w B ub mb W cells rows) {c i : Nat} (hc : c < 257) (hi : i < W) (hr : ∀ c' i', c' < 257 → i' < W → (c' ≠ c ∨ i' ≠ i) → Wd.wd (rows c') i' = Wd.wd (rows' c') i') :
    BoardM (w.setCell ⟨mb, c * W + i, none⟩ (.int .u64 ((Wd.wd (rows' c) i : Nat) : Int))) B ub mb W cells rows' := by
  refine ⟨h.b.other _ _ (h.b.ne h.m (by decide)), h.u.other _ _ (h.u.ne h.m (by decide)), ?_⟩
  rw [← memL_set (rows := rows) hc hi hr]
  exact h.m.set _ _
/-- One place more in row c. -/
def putRow' (rows : Nat → Nat → Bool) (c p : Nat) : Nat → Nat → Bool := fun c' => if c' = c then ins (rows c) p else rows c'
theorem put_board {w : World} {B ub mb W : Nat} {cells : Value} {rows : Nat → Nat → Bool} (h : BoardM w B ub mb W cells rows) (c p cap : Nat) (hc : c < 257) (hp : p / 64 < W) (hp2 : p < 4294967296) :
    Calls Tryz.prog 58 #[.slice (some ⟨mb, c * W, none⟩) W cap, .int .i64 (p : Int)] w fun e w' => e = .returned (.tuple #[]) ∧ BoardM w' B ub mb W cells (putRow' rows c p) ∧ Kp w w' (fun i => i = mb) := by
  refine (put_at mb (c * W) W cap p (Wd.wd (rows c) (p / 64) : Nat) (Wd.wd (ins (rows c) p) (p / 64) : Nat) w hp hp2 (or_put _ _) (h.m.cell (memL_get hc hp)) (h.m.froz _)).mono ?_
  rintro e w' ⟨rfl, rfl⟩
  have hs := h.set (rows' := putRow' rows c p) hc hp (fun c' i' _ _ hor => by
    unfold putRow'
    by_cases e : c' = c
    · subst e
      rw [if_pos rfl]
      rcases hor with hor | hor
      · exact absurd rfl hor
      · exact wd_far true hor
    · rw [if_neg e])
  have e : putRow' rows c p c = ins (rows c) p := by unfold putRow'; rw [if_pos rfl]
  rw [e] at hs
  exact ⟨rfl, ⟨hs.b.drew, hs.u.drew, hs.m.drew⟩, ((Kp.refl w (fun i => i = mb)).setCell ⟨mb, c * W + p / 64, none⟩ _ (.inr rfl)).drew⟩
end Go.Proofs.YtkgolfmnlbmmeaaGreatDoor
