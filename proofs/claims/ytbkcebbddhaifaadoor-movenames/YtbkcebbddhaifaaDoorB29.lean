/- The document's Same of nodes (quadrilleref12). -/
import Derived.Test.YtbkcebbddhaifaaDoorB24
import Derived.Test.YtbkcebbddhaifaaDoorB28
namespace Go.Proofs.YtbkcebbddhaifaaDoor
open Go.RowKit Go.Lib

theorem neq_ref (a b c d : Int) (p q s t : Bool) (T : Bool) (hT : (a == c && b == d && p == s && q == t) = T) (w : World) : (binOp .neq 34 (.agg #[.int .i64 a, .int .i64 b, .bool p, .bool q]) (.agg #[.int .i64 c, .int .i64 d, .bool s, .bool t])).run Tryd.prog w = .ok (.bool (!T)) w := by
  subst hT
  by_cases h1 : a = c
  · subst h1
    by_cases h2 : b = d
    · subst h2
      cases p <;> cases q <;> cases s <;> cases t <;> simp [go_sem]
    · have h2' : (b == d) = false := by simpa using h2
      simp [go_sem, h2']
  · have h1' : (a == c) = false := by simpa using h1
    simp [go_sem, h1']
end Go.Proofs.YtbkcebbddhaifaaDoor
