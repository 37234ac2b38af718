/- All that the program's calls of layer 10 answer. -/
import Derived.Test.YthehdloofamadaaDoorHh
import Derived.Test.YthehdloofamadaaDoorDb
import Derived.Test.YthehdloofamadaaDoorDd
import Derived.Test.YthehdloofamadaaDoorDf
import Derived.Test.YthehdloofamadaaDoorTb
namespace Go.Proofs.YthehdloofamadaaDoor
open Go.RowKit

theorem pE_three (l : List UInt8) : pE l = 0 ∨ pE l = 3 ∨ pE l = 20 := by
  unfold pE
  split
  · split
    · exact .inl rfl
    · exact .inr (.inr rfl)
  · exact .inr (.inl rfl)
theorem pE_cell (l : List UInt8) (h : pE l = 0) : vC (pc l) (pr l) = true := by
  have hf := pE_fOk l h
  obtain ⟨k1, k2, _⟩ := ok_valid l hf
  obtain ⟨q1, q2, _⟩ := k2 h
  rw [← q1, ← q2]
  exact k1.2 h
theorem pE_not (l : List UInt8) (h : pE l ≠ 0) : pc l = 0 ∧ pr l = 0 := by
  unfold pc pr
  rw [if_neg h, if_neg h]
  exact ⟨rfl, rfl⟩
theorem pArea_says : SaysArea 29 := fun c r d s w => by
  have := Below.of_gr (P := fun e => e = .returned (.tuple #[arV c r d s, .int .i64 (arE c r d s)])) (pArea_any c r d s w)
  rw [arV_eq] at this
  exact this
theorem pArea_gr (c r d s : Int) (w : World) : Calls Tryd.prog 29 #[.agg #[.int .i64 c, .int .i64 r], .agg #[.int .i64 d, .int .i64 s]] w fun e w' => e = .returned (.tuple #[.agg #[.int .i64 (ar1 c r d s), .int .i64 (ar2 c r d s), .int .i64 (ar3 c r d s), .int .i64 (ar4 c r d s)], .int .i64 (arE c r d s)]) ∧ Gr w w' := by
  have := pArea_any c r d s w
  rw [arV_eq] at this
  exact this
theorem pParseArea_says : SaysParseArea 19 := fun l n hn hl w => by
  have hb := atF_bd l
  by_cases h0 : atF 0 l < 0
  · refine pParseArea_core l l [] l false w _ _ _ _ _ _ _ _ _ _ _ _ _ _ _ _ _ _ _ _ (fun w => by
      have := pCut_any l (by omega) w
      unfold cutV at this
      rw [if_neg (by omega)] at this
      exact this) rfl (fun w => pParse_any l n hn hl w) (fun w => pParse_any l n hn hl w) (fun w => pArea_gr _ _ _ _ w) ?_
    have e1 : paE l = pE l := by unfold paE; rw [if_pos h0]
    have e2 : pa1 l = pc l ∧ pa2 l = pr l ∧ pa3 l = pc l ∧ pa4 l = pr l := by
      unfold pa1 pa2 pa3 pa4; rw [if_pos h0, if_pos h0, if_pos h0, if_pos h0]; exact ⟨rfl, rfl, rfl, rfl⟩
    obtain ⟨a1, a2, a3, a4⟩ := e2
    rw [e1, a1, a2, a3, a4]
    rcases pE_three l with h | h | h
    · right
      have hv := pE_cell l h
      have hvv : (vC (pc l) (pr l) && vC (pc l) (pr l)) = true := by rw [hv]; rfl
      unfold ar1 ar2 ar3 ar4 arE
      rw [if_pos hvv, if_pos hvv, if_pos hvv, if_pos hvv, if_pos hvv]
      exact ⟨by omega, by omega, h, by omega, by omega, by omega, by omega⟩
    · left
      obtain ⟨z1, z2⟩ := pE_not l (by omega)
      exact ⟨.inl h, h, z1, z2, z1, z2⟩
    · right
      obtain ⟨z1, z2⟩ := pE_not l (by omega)
      rw [z1, z2]
      exact ⟨by omega, by omega, h, rfl, rfl, rfl, rfl⟩
  · have la : ((ahead l).length : Int) < 140737488355328 := by
      unfold ahead; rw [List.length_take]; omega
    have lb : ((behind l).length : Int) < 140737488355328 := by
      unfold behind; rw [List.length_drop]; omega
    refine pParseArea_core l (ahead l) (behind l) (behind l) true w _ _ _ _ _ _ _ _ _ _ _ _ _ _ _ _ _ _ _ _ (fun w => by
      have := pCut_any l (by omega) w
      unfold cutV at this
      rw [if_pos (by omega)] at this
      exact this) rfl (fun w => pParse_any (ahead l) _ rfl la w) (fun w => pParse_any (behind l) _ rfl lb w) (fun w => pArea_gr _ _ _ _ w) ?_
    unfold paE pa1 pa2 pa3 pa4
    simp only [if_neg h0]
    generalize ahead l = a
    generalize behind l = b
    rcases pE_three a with h | h | h <;> rcases pE_three b with k | k | k
    · right
      rw [if_neg (by omega), if_neg (by omega), if_neg (by omega)]
      simp only [if_pos (And.intro h k)]
      exact ⟨by omega, by omega, (by first | rfl | trivial), (by first | rfl | trivial), (by first | rfl | trivial), (by first | rfl | trivial), (by first | rfl | trivial)⟩
    all_goals have hne : ¬ (pE a = 0 ∧ pE b = 0) := by omega
    all_goals simp only [if_neg hne]
    all_goals first
      | (left; rw [if_pos (by omega)]; exact ⟨by omega, (by first | rfl | trivial), (by first | rfl | trivial), (by first | rfl | trivial), (by first | rfl | trivial), (by first | rfl | trivial)⟩)
      | (right
         have hz : vC (pc a) (pr a) = false ∨ vC (pc b) (pr b) = false := by
           rcases Classical.em (pE a = 0) with q | q
           · right; obtain ⟨z1, z2⟩ := pE_not b (by omega); rw [z1, z2]; rfl
           · left; obtain ⟨z1, z2⟩ := pE_not a q; rw [z1, z2]; rfl
         have hzz : ¬ (vC (pc a) (pr a) && vC (pc b) (pr b)) = true := by
           rcases hz with q | q <;> rw [q] <;> simp
         unfold ar1 ar2 ar3 ar4 arE
         rw [if_neg (by omega)]
         simp only [if_neg hzz]
         refine ⟨by omega, by omega, ?_, (by first | rfl | trivial), (by first | rfl | trivial), (by first | rfl | trivial), (by first | rfl | trivial)⟩
         (repeat' split) <;> omega)

theorem says : AddrSays where
  valid := fun c r w => (pValid_at c r w).mono fun e w' h => ⟨h.1, by rw [h.2]; exact (Below.refl _ _).alloc (Nat.le_refl _) _⟩
  order := fun c r d s w => Below.of_gr (pOrder_any c r d s w)
  text := fun c r cf rf w ht => pText_any c r cf rf w ht
  text27 := fun w => pText_27 w
  parse := fun l n hn hl w => pParse_any l n hn hl w
  prefix' := fun l n hn hl w => pPrefix_any l n hn hl w
  validArea := fun c r d s w => Below.of_gr (pValidArea_any c r d s w)
  area := pArea_says
  areaText := fun c r d s w ht => pAreaText_any c r d s w ht
  parseArea := pParseArea_says
  inn := fun c r d s x y w => Below.of_gr (pIn_any c r d s x y w)
  meet := fun c r d s c' r' d' s' w => by
    have := Below.of_gr (P := fun e => e = .returned (.tuple #[mtV c r d s c' r' d' s', .bool (mtO c r d s c' r' d' s')])) (pMeet_any c r d s c' r' d' s' w)
    rw [mtV_eq] at this
    exact this
  size := fun c r d s w => Below.of_gr (pSize_any c r d s w)
  cells := tCells (fun c r d s w => Below.of_gr (pValidArea_any c r d s w))
  shift := fun c r cf rf x y h1 h2 h3 h4 w => by
    have := Below.of_gr (P := fun e => e = .returned (.tuple #[shV c r cf rf x y, .bool (shOk c r cf rf x y)])) (pShift_any c r x y cf rf h1 h2 h3 h4 w)
    rw [shV_eq] at this
    exact this
end Go.Proofs.YthehdloofamadaaDoor
