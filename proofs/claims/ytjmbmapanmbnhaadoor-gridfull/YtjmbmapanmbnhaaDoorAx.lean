/- Cells and areas: plain functions. No program here. -/
import Derived.Test.YtjmbmapanmbnhaaDoorGa
namespace Go.Proofs.YtjmbmapanmbnhaaDoor
open Go.RowKit

/-- Is it a cell? -/
def vC (c r : Int) : Bool := decide (1 ≤ c) && decide (c ≤ 256) && decide (1 ≤ r) && decide (r ≤ 4096)
def cmpI (a b : Int) : Int := if a < b then -1 else if b < a then 1 else 0
def ordC (c r d s : Int) : Int := if cmpI r s = 0 then cmpI c d else cmpI r s
/-- May an area be? -/
def vA (c r d s : Int) : Bool := vC c r && vC d s && decide (c ≤ d) && decide (r ≤ s)
def inA (c r d s x y : Int) : Bool := vA c r d s && decide (c ≤ x) && decide (x ≤ d) && decide (r ≤ y) && decide (y ≤ s)
def sizeA (c r d s : Int) : Int := if vA c r d s then (d - c + 1) * (s - r + 1) else 0
/-- A number, so much greater. -/
def shN (n by' most : Int) (fixed : Bool) : Int × Bool := if fixed then (n, true) else if by' < -n ∨ most < by' then (0, false) else (n + by', decide (1 ≤ n + by') && decide (n + by' ≤ most))
/-- Is there a cell where one would be copied to? -/
def shOk (c r : Int) (cf rf : Bool) (x y : Int) : Bool := vC c r && (shN c x 256 cf).2 && (shN r y 4096 rf).2
def refV (c r : Int) (cf rf : Bool) : Value := .agg #[.int .i64 c, .int .i64 r, .bool cf, .bool rf]
def areaV (c r d s : Int) : Value := .agg #[.int .i64 c, .int .i64 r, .int .i64 d, .int .i64 s]
def shV (c r : Int) (cf rf : Bool) (x y : Int) : Value := if shOk c r cf rf x y then refV (shN c x 256 cf).1 (shN r y 4096 rf).1 cf rf else refV 0 0 false false
/-- The least area that has both. -/
def arE (c r d s : Int) : Int := if vC c r && vC d s then 0 else 20
def arV (c r d s : Int) : Value := if vC c r && vC d s then areaV (min c d) (min r s) (max c d) (max r s) else areaV 0 0 0 0
/-- What both have. -/
def mtO (c r d s c' r' d' s' : Int) : Bool := vA c r d s && vA c' r' d' s' && vA (max c c') (max r r') (min d d') (min s s')
def mtV (c r d s c' r' d' s' : Int) : Value := if mtO c r d s c' r' d' s' then areaV (max c c') (max r r') (min d d') (min s s') else areaV 0 0 0 0

theorem vC_iff (c r : Int) : vC c r = true ↔ 1 ≤ c ∧ c ≤ 256 ∧ 1 ≤ r ∧ r ≤ 4096 := by
  simp [vC, Bool.and_eq_true, and_assoc]
theorem vA_bd (c r d s : Int) : vA c r d s = true → 1 ≤ c ∧ c ≤ d ∧ d ≤ 256 ∧ 1 ≤ r ∧ r ≤ s ∧ s ≤ 4096 := by
  simp only [vA, vC, Bool.and_eq_true, decide_eq_true_eq]
  omega
theorem vA_iff (c r d s : Int) : vA c r d s = true ↔ 1 ≤ c ∧ c ≤ d ∧ d ≤ 256 ∧ 1 ≤ r ∧ r ≤ s ∧ s ≤ 4096 := by
  simp only [vA, vC, Bool.and_eq_true, decide_eq_true_eq]
  omega
theorem mul_bd (a b : Int) (h0 : 0 ≤ a) (h1 : a ≤ 10000) (k0 : 0 ≤ b) (k1 : b ≤ 10000) : 0 ≤ a * b ∧ a * b ≤ 100000000 := by
  refine ⟨Int.mul_nonneg h0 k0, ?_⟩
  have := Int.mul_le_mul h1 k1 k0 (by decide)
  omega
end Go.Proofs.YtjmbmapanmbnhaaDoor
