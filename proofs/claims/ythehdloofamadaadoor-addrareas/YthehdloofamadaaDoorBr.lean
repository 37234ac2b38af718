/- An area's text read: plain functions. No function of the program here. -/
import Derived.Test.YthehdloofamadaaDoorAq
namespace Go.Proofs.YthehdloofamadaaDoor
open Go.RowKit

/-- Where the first : stands in s, which begins at p; -1: nowhere. -/
def atF (p : Int) : List UInt8 → Int
  | [] => -1
  | b :: s => if b = 58 then p else atF (p + 1) s
theorem atF_spec (p : Int) (s : List UInt8) (h0 : 0 ≤ p) : (atF p s = -1 ∧ ∀ b ∈ s, b ≠ 58) ∨ (∃ a t, s = a ++ 58 :: t ∧ (∀ b ∈ a, b ≠ 58) ∧ atF p s = p + a.length) := by
  induction s generalizing p with
  | nil => exact .inl ⟨rfl, by simp⟩
  | cons b s ih =>
    unfold atF
    by_cases hb : b = 58
    · rw [if_pos hb, hb]
      exact .inr ⟨[], s, rfl, by simp, by simp⟩
    · rw [if_neg hb]
      rcases ih (p + 1) (by omega) with ⟨h1, h2⟩ | ⟨a, t, h1, h2, h3⟩
      · exact .inl ⟨h1, fun x hx => by
          rcases List.mem_cons.1 hx with rfl | hx
          · exact hb
          · exact h2 x hx⟩
      · refine .inr ⟨b :: a, t, by rw [h1]; rfl, fun x hx => ?_, by rw [h3, List.length_cons]; omega⟩
        rcases List.mem_cons.1 hx with rfl | hx
        · exact hb
        · exact h2 x hx
/-- What stands ahead of the first :, and what behind it. -/
def ahead (l : List UInt8) : List UInt8 := l.take (atF 0 l).toNat
def behind (l : List UInt8) : List UInt8 := l.drop ((atF 0 l).toNat + 1)
def paE (l : List UInt8) : Int :=
  if atF 0 l < 0 then pE l
  else if pE (ahead l) = 3 ∨ pE (behind l) = 3 then 3 else if pE (ahead l) ≠ 0 then pE (ahead l) else if pE (behind l) ≠ 0 then pE (behind l)
  else arE (pc (ahead l)) (pr (ahead l)) (pc (behind l)) (pr (behind l))
def paV (l : List UInt8) : Value :=
  if atF 0 l < 0 then if pE l = 0 then areaV (pc l) (pr l) (pc l) (pr l) else areaV 0 0 0 0
  else if pE (ahead l) = 0 ∧ pE (behind l) = 0 then arV (pc (ahead l)) (pr (ahead l)) (pc (behind l)) (pr (behind l)) else areaV 0 0 0 0

end Go.Proofs.YthehdloofamadaaDoor
