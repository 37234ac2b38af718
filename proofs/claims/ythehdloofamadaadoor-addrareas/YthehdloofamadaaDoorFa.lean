/- Cells' texts, there and back: facts on the plain functions. No function of the program here. -/
import Derived.Test.YthehdloofamadaaDoorBr
import Derived.Test.YthehdloofamadaaDoorAw
namespace Go.Proofs.YthehdloofamadaaDoor
open Go.RowKit

def isU (b : UInt8) : Bool := decide (65 ≤ b.toNat) && decide (b.toNat ≤ 90)
def okL (n : Nat) : Bool := (lets 9 n).length ≤ 2 && !(lets 9 n).isEmpty && (lets 9 n).all isU && colN (lets 9 n) == (n : Int)
def okD (n : Nat) : Bool := (digs 13 n).length ≤ 4 && (digs 13 n).all isD && nz (digs 13 n) && rowN (digs 13 n) == (n : Int)
theorem okL_all : ∀ n, n < 257 → n = 0 ∨ okL n = true := by decide +kernel
theorem okD_all : ∀ a, a < 64 → ∀ b, b < 65 → 65 * a + b = 0 ∨ okD (65 * a + b) = true := by decide +kernel
def okW1 (a : Nat) : Bool := lets 9 (colN [UInt8.ofNat (65 + a)]).toNat == [UInt8.ofNat (65 + a)]
def okW2 (a b : Nat) : Bool := lets 9 (colN [UInt8.ofNat (65 + a), UInt8.ofNat (65 + b)]).toNat == [UInt8.ofNat (65 + a), UInt8.ofNat (65 + b)]
theorem okW1_all : ∀ a, a < 26 → okW1 a = true := by decide +kernel
theorem okW2_all : ∀ a, a < 26 → ∀ b, b < 26 → okW2 a b = true := by decide +kernel

theorem byte_of (b : UInt8) (k : Nat) (h : k ≤ b.toNat) : b = UInt8.ofNat (k + (b.toNat - k)) := by
  rw [show k + (b.toNat - k) = b.toNat by omega, UInt8.ofNat_toNat]
/-- One or two capital letters are those of their column. -/
theorem lets_back (W : List UInt8) (h0 : W ≠ []) (h : W.length ≤ 2) (hb : ∀ b ∈ W, 65 ≤ (b.toNat : Int) ∧ (b.toNat : Int) ≤ 90) : lets 9 (colN W).toNat = W := by
  match W, h0, h with
  | [a], _, _ =>
    have h1 := hb a (by simp)
    have e := byte_of a 65 (by omega)
    have := okW1_all (a.toNat - 65) (by omega)
    rw [okW1, ← e] at this
    exact eq_of_beq this
  | [a, b], _, _ =>
    have h1 := hb a (by simp)
    have h2 := hb b (by simp)
    have e := byte_of a 65 (by omega)
    have e' := byte_of b 65 (by omega)
    have := okW2_all (a.toNat - 65) (by omega) (b.toNat - 65) (by omega)
    rw [okW2, ← e, ← e'] at this
    exact eq_of_beq this
  | _ :: _ :: _ :: _, _, h => simp only [List.length_cons] at h; omega
theorem digs_zero (k : Nat) : digs k 0 = [] := by
  cases k with
  | zero => rfl
  | succ k => unfold digs; rw [if_pos rfl]
theorem digs_step (k n : Nat) (b : UInt8) (h0 : 48 ≤ b.toNat) (h1 : b.toNat ≤ 57) (h : 0 < n ∨ 48 < b.toNat) : digs (k + 1) (10 * n + (b.toNat - 48)) = digs k n ++ [b] := by
  rw [digs, if_neg (by omega), show (10 * n + (b.toNat - 48)) / 10 = n by omega, show 48 + (10 * n + (b.toNat - 48)) % 10 = b.toNat by omega, UInt8.ofNat_toNat]
/-- One to four digits, the first of which is none of 0, are those of their number. -/
theorem digs_back (D : List UInt8) (h0 : nz D = true) (h : D.length ≤ 4) (hb : ∀ b ∈ D, 48 ≤ (b.toNat : Int) ∧ (b.toNat : Int) ≤ 57) : digs 13 (rowN D).toNat = D := by
  have hnz : ∀ a t, D = a :: t → 48 < a.toNat := by
    rintro a t rfl
    have h1 := hb a (by simp)
    have h2 : a ≠ 48 := by simpa [nz] using h0
    have h3 : a.toNat ≠ 48 := fun h => h2 (UInt8.toNat_inj.1 h)
    omega
  match D, h0, h with
  | [], h0, _ => simp [nz] at h0
  | [a], _, _ =>
    have h1 := hb a (by simp)
    have h2 := hnz a _ rfl
    rw [show (rowN [a]).toNat = 10 * 0 + (a.toNat - 48) by simp only [rowN, List.foldl]; omega, digs_step 12 0 a (by omega) (by omega) (.inr h2), digs_zero]
    rfl
  | [a, b], _, _ =>
    have h1 := hb a (by simp)
    have h2 := hnz a _ rfl
    have h3 := hb b (by simp)
    rw [show (rowN [a, b]).toNat = 10 * (10 * 0 + (a.toNat - 48)) + (b.toNat - 48) by simp only [rowN, List.foldl]; omega, digs_step 12 _ b (by omega) (by omega) (by omega), digs_step 11 0 a (by omega) (by omega) (.inr h2), digs_zero]
    rfl
  | [a, b, c], _, _ =>
    have h1 := hb a (by simp)
    have h2 := hnz a _ rfl
    have h3 := hb b (by simp)
    have h4 := hb c (by simp)
    rw [show (rowN [a, b, c]).toNat = 10 * (10 * (10 * 0 + (a.toNat - 48)) + (b.toNat - 48)) + (c.toNat - 48) by simp only [rowN, List.foldl]; omega, digs_step 12 _ c (by omega) (by omega) (by omega), digs_step 11 _ b (by omega) (by omega) (by omega), digs_step 10 0 a (by omega) (by omega) (.inr h2), digs_zero]
    rfl
  | [a, b, c, d], _, _ =>
    have h1 := hb a (by simp)
    have h2 := hnz a _ rfl
    have h3 := hb b (by simp)
    have h4 := hb c (by simp)
    have h5 := hb d (by simp)
    rw [show (rowN [a, b, c, d]).toNat = 10 * (10 * (10 * (10 * 0 + (a.toNat - 48)) + (b.toNat - 48)) + (c.toNat - 48)) + (d.toNat - 48) by simp only [rowN, List.foldl]; omega, digs_step 12 _ d (by omega) (by omega) (by omega), digs_step 11 _ c (by omega) (by omega) (by omega), digs_step 10 _ b (by omega) (by omega) (by omega), digs_step 9 0 a (by omega) (by omega) (.inr h2), digs_zero]
    rfl
  | _ :: _ :: _ :: _ :: _ :: _, _, h => simp only [List.length_cons] at h; omega

theorem isU_L {b : UInt8} (h : isU b = true) : isL b = true ∧ upB b = b ∧ b ≠ 36 ∧ b ≠ 58 ∧ isD b = false := by
  unfold isU at h
  simp only [Bool.and_eq_true, decide_eq_true_eq] at h
  refine ⟨?_, ?_, ?_, ?_, ?_⟩
  · unfold isL; simp only [Bool.or_eq_true, Bool.and_eq_true, decide_eq_true_eq]; exact .inl h
  · unfold upB; rw [if_neg (by omega)]
  · rintro rfl; exact absurd h (by decide)
  · rintro rfl; exact absurd h (by decide)
  · unfold isD; rw [Bool.and_eq_false_iff]; right; rw [decide_eq_false_iff_not]; omega
theorem isD_not {b : UInt8} (h : isD b = true) : isL b = false ∧ b ≠ 36 ∧ b ≠ 58 := by
  unfold isD at h
  simp only [Bool.and_eq_true, decide_eq_true_eq] at h
  refine ⟨?_, ?_, ?_⟩
  · unfold isL
    rw [Bool.or_eq_false_iff, Bool.and_eq_false_iff, Bool.and_eq_false_iff]
    exact ⟨.inl (decide_eq_false (by omega)), .inl (decide_eq_false (by omega))⟩
  · rintro rfl; exact absurd h (by decide)
  · rintro rfl; exact absurd h (by decide)
end Go.Proofs.YthehdloofamadaaDoor
