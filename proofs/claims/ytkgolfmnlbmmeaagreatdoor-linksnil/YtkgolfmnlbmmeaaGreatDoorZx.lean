/- Cells and areas held against one another by == and !=. -/
import Derived.Test.YtkgolfmnlbmmeaaGreatDoorGb
namespace Go.Proofs.YtkgolfmnlbmmeaaGreatDoor
open Go.RowKit

theorem eql_addr (a b c d : Int) (T : Bool) (hT : (a == c && b == d) = T) (w : World) : (binOp .eql 29 (.agg #[.int .i64 a, .int .i64 b]) (.agg #[.int .i64 c, .int .i64 d])).run Tryz.prog w = .ok (.bool T) w := by
  subst hT
  by_cases h1 : a = c
  · subst h1
    by_cases h2 : b = d
    · subst h2
      simp [go_sem]
    · have h2' : (b == d) = false := by simpa using h2
      simp [go_sem, h2']
  · have h1' : (a == c) = false := by simpa using h1
    simp [go_sem, h1']
theorem neq_addr (a b c d : Int) (T : Bool) (hT : (a == c && b == d) = T) (w : World) : (binOp .neq 29 (.agg #[.int .i64 a, .int .i64 b]) (.agg #[.int .i64 c, .int .i64 d])).run Tryz.prog w = .ok (.bool (!T)) w := by
  subst hT
  by_cases h1 : a = c
  · subst h1
    by_cases h2 : b = d
    · subst h2
      simp [go_sem]
    · have h2' : (b == d) = false := by simpa using h2
      simp [go_sem, h2']
  · have h1' : (a == c) = false := by simpa using h1
    simp [go_sem, h1']
theorem eql_area (a b c d e f g h : Int) (T : Bool) (hT : (a == e && b == f && (c == g && d == h)) = T) (w : World) : (binOp .eql 52 (.agg #[.int .i64 a, .int .i64 b, .int .i64 c, .int .i64 d]) (.agg #[.int .i64 e, .int .i64 f, .int .i64 g, .int .i64 h])).run Tryz.prog w = .ok (.bool T) w := by
  subst hT
  by_cases h1 : a = e
  · subst h1
    by_cases h2 : b = f
    · subst h2
      by_cases h3 : c = g
      · subst h3
        by_cases h4 : d = h
        · subst h4
          simp [go_sem]
        · have h4' : (d == h) = false := by simpa using h4
          simp [go_sem, h4']
      · have h3' : (c == g) = false := by simpa using h3
        simp [go_sem, h3']
    · have h2' : (b == f) = false := by simpa using h2
      simp [go_sem, h2']
  · have h1' : (a == e) = false := by simpa using h1
    simp [go_sem, h1']
theorem neq_area (a b c d e f g h : Int) (T : Bool) (hT : (a == e && b == f && (c == g && d == h)) = T) (w : World) : (binOp .neq 52 (.agg #[.int .i64 a, .int .i64 b, .int .i64 c, .int .i64 d]) (.agg #[.int .i64 e, .int .i64 f, .int .i64 g, .int .i64 h])).run Tryz.prog w = .ok (.bool (!T)) w := by
  subst hT
  by_cases h1 : a = e
  · subst h1
    by_cases h2 : b = f
    · subst h2
      by_cases h3 : c = g
      · subst h3
        by_cases h4 : d = h
        · subst h4
          simp [go_sem]
        · have h4' : (d == h) = false := by simpa using h4
          simp [go_sem, h4']
      · have h3' : (c == g) = false := by simpa using h3
        simp [go_sem, h3']
    · have h2' : (b == f) = false := by simpa using h2
      simp [go_sem, h2']
  · have h1' : (a == e) = false := by simpa using h1
    simp [go_sem, h1']
end Go.Proofs.YtkgolfmnlbmmeaaGreatDoor
