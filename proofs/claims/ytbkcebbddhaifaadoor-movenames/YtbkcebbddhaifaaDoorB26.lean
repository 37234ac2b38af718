/- The document's Made (quadrilleref12). The document's Made (quadrilleref12): the other kinds. -/
import Derived.Test.YtbkcebbddhaifaaDoorB24
import Derived.Test.YtbkcebbddhaifaaDoorB25
namespace Go.Proofs.YtbkcebbddhaifaaDoor
open Go.RowKit Go.Lib

theorem plain_fin (x : Nat) (hx : x < 18446744073709551616) : (decide (mag x < 9218868437227405312) && decide (x < 9223372036854775808)) = plainX x := by
  have := mag_of x hx
  unfold plainX cls ngt isN
  rw [Bool.eq_iff_iff]
  unfold sgb at *
  by_cases h1 : 9223372036854775808 ≤ x
  · have h2 : ¬ x < 9223372036854775808 := by omega
    simp only [h1, h2, decide_true, decide_false, Bool.and_false, Bool.false_eq_true, false_iff, Bool.and_true, Bool.not_not, Bool.and_eq_true, bne_iff_ne, decide_eq_true_eq, not_and]
    intro h3
    by_cases c : 9218868437227405312 < mag x
    · rw [if_pos c] at h3; exact absurd rfl h3.1
    · exact c
  · have h1' : x < 9223372036854775808 := by omega
    have hm : mag x = x := by unfold mag; exact Nat.mod_eq_of_lt h1'
    rw [hm]
    simp only [h1, h1', decide_true, decide_false, Bool.and_true, Bool.and_false, Bool.not_false, decide_eq_true_eq, Bool.and_eq_true, bne_iff_ne]
    constructor
    · intro h2
      rw [if_neg (by omega), if_neg (by omega)]
      constructor <;> (split <;> (try split) <;> decide)
    · rintro ⟨h2, h3⟩
      by_cases c : 9218868437227405312 < x
      · rw [if_pos c] at h2; exact absurd rfl h2
      · by_cases d : x = 9218868437227405312
        · rw [if_neg c, if_pos d] at h3; exact absurd rfl h3
        · omega
end Go.Proofs.YtbkcebbddhaifaaDoor
namespace Go.Proofs.YtbkcebbddhaifaaDoor
open Go.RowKit Go.Lib

end Go.Proofs.YtbkcebbddhaifaaDoor
