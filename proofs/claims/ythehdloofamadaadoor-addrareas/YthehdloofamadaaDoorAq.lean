/- A cell's text read: plain functions. No function of the program here. -/
import Derived.Test.YthehdloofamadaaDoorAp
namespace Go.Proofs.YthehdloofamadaaDoor
open Go.RowKit

def colN (W : List UInt8) : Int := W.foldl (fun c b => 26 * c + ((b.toNat : Int) - 65) + 1) 0
def rowN (D : List UInt8) : Int := D.foldl (fun r b => 10 * r + ((b.toNat : Int) - 48)) 0
/-- What reading a cell's text answers besides: 0, or an error. -/
def pE (l : List UInt8) : Int := if fOk l then if (fWord l).length ≤ 2 ∧ (fDig l).length ≤ 4 ∧ vC (colN (fWord l)) (rowN (fDig l)) = true then 0 else 20 else 3
def pc (l : List UInt8) : Int := if pE l = 0 then colN (fWord l) else 0
def pr (l : List UInt8) : Int := if pE l = 0 then rowN (fDig l) else 0
def pcf (l : List UInt8) : Bool := if pE l = 0 then dol l else false
def prf (l : List UInt8) : Bool := if pE l = 0 then fRow l else false
/-- The longest beginning of at most so many bytes that is a cell's text. -/
def pfxF : Nat → List UInt8 → Nat
  | 0, _ => 0
  | n + 1, l => if pE (l.take (n + 1)) = 0 then n + 1 else pfxF n l
def pfx (l : List UInt8) : Nat := pfxF (min l.length 8) l

theorem colN_snoc (p : List UInt8) (b : UInt8) : colN (p ++ [b]) = 26 * colN p + ((b.toNat : Int) - 65) + 1 := by
  unfold colN; rw [List.foldl_append]; rfl
theorem rowN_snoc (p : List UInt8) (b : UInt8) : rowN (p ++ [b]) = 10 * rowN p + ((b.toNat : Int) - 48) := by
  unfold rowN; rw [List.foldl_append]; rfl

theorem mem_takeWhile {p : UInt8 → Bool} {l : List UInt8} {b : UInt8} (h : b ∈ l.takeWhile p) : p b = true := by
  induction l with
  | nil => simp at h
  | cons a l ih =>
    by_cases c : p a = true
    · rw [List.takeWhile_cons, if_pos c] at h
      rcases List.mem_cons.1 h with rfl | h
      · exact c
      · exact ih h
    · rw [List.takeWhile_cons, if_neg c] at h
      simp at h
theorem upB_bd {b : UInt8} (h : isL b = true) : 65 ≤ (upB b).toNat ∧ (upB b).toNat ≤ 90 := by
  unfold isL at h
  simp only [Bool.or_eq_true, Bool.and_eq_true, decide_eq_true_eq] at h
  unfold upB
  split
  · rw [UInt8.toNat_ofNat']; omega
  · omega
theorem fWord_bd (l : List UInt8) : ∀ b ∈ fWord l, 65 ≤ (b.toNat : Int) ∧ (b.toNat : Int) ≤ 90 := by
  intro b hb
  obtain ⟨a, ha, rfl⟩ := List.mem_map.1 hb
  have := upB_bd (mem_takeWhile ha)
  omega
theorem fDig_bd (l : List UInt8) : ∀ b ∈ fDig l, 48 ≤ (b.toNat : Int) ∧ (b.toNat : Int) ≤ 57 := by
  intro b hb
  have := mem_takeWhile hb
  unfold isD at this
  simp only [Bool.and_eq_true, decide_eq_true_eq] at this
  omega
theorem colN_bd (W : List UInt8) (h : W.length ≤ 2) (hb : ∀ b ∈ W, 65 ≤ (b.toNat : Int) ∧ (b.toNat : Int) ≤ 90) : 0 ≤ colN W ∧ colN W ≤ 702 := by
  match W, h with
  | [], _ => exact ⟨by decide, by decide⟩
  | [a], _ =>
    have := hb a (by simp)
    simp only [colN, List.foldl]; omega
  | [a, b], _ =>
    have := hb a (by simp)
    have := hb b (by simp)
    simp only [colN, List.foldl]; omega
  | _ :: _ :: _ :: _, h => simp only [List.length_cons] at h; omega
theorem rowN_bd (D : List UInt8) (h : D.length ≤ 4) (hb : ∀ b ∈ D, 48 ≤ (b.toNat : Int) ∧ (b.toNat : Int) ≤ 57) : 0 ≤ rowN D ∧ rowN D ≤ 9999 := by
  match D, h with
  | [], _ => exact ⟨by decide, by decide⟩
  | [a], _ =>
    have := hb a (by simp)
    simp only [rowN, List.foldl]; omega
  | [a, b], _ =>
    have := hb a (by simp)
    have := hb b (by simp)
    simp only [rowN, List.foldl]; omega
  | [a, b, c], _ =>
    have := hb a (by simp)
    have := hb b (by simp)
    have := hb c (by simp)
    simp only [rowN, List.foldl]; omega
  | [a, b, c, d], _ =>
    have := hb a (by simp)
    have := hb b (by simp)
    have := hb c (by simp)
    have := hb d (by simp)
    simp only [rowN, List.foldl]; omega
  | _ :: _ :: _ :: _ :: _ :: _, h => simp only [List.length_cons] at h; omega
end Go.Proofs.YthehdloofamadaaDoor
