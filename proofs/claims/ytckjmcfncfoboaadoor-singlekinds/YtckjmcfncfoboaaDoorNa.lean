/- Whole numbers as digits in base 2^32, the lowest first: no program here. -/
import Derived.Test.YtckjmcfncfoboaaDoorGw
namespace Go.Proofs.YtckjmcfncfoboaaDoor
open Go.RowKit

def dval : List Nat → Nat
  | [] => 0
  | d :: ds => d + 4294967296 * dval ds
/-- The first n digits, of a function. -/
def fval (f : Nat → Nat) : Nat → Nat
  | 0 => 0
  | n + 1 => fval f n + f n * 2 ^ (32 * n)
theorem fval_congr {f g : Nat → Nat} (n : Nat) (h : ∀ j, j < n → f j = g j) : fval f n = fval g n := by
  induction n with
  | zero => rfl
  | succ n ih => unfold fval; rw [ih (fun j hj => h j (by omega)), h n (by omega)]
theorem fval_zero (f : Nat → Nat) (k n : Nat) (hk : k ≤ n) (h : ∀ j, k ≤ j → j < n → f j = 0) : fval f n = fval f k := by
  induction n with
  | zero => have : k = 0 := by omega
            rw [this]
  | succ n ih =>
    by_cases c : k = n + 1
    · rw [c]
    · rw [fval, h n (by omega) (by omega), Nat.zero_mul, Nat.add_zero]
      exact ih (by omega) (fun j h1 h2 => h j h1 (by omega))
theorem fval_lt (f : Nat → Nat) (n : Nat) (h : ∀ j, j < n → f j < 4294967296) : fval f n < 2 ^ (32 * n) := by
  induction n with
  | zero => show 0 < 2 ^ (32 * 0); decide
  | succ n ih =>
    have i1 := ih (fun j hj => h j (by omega))
    have h1 := h n (by omega)
    rw [fval, show 32 * (n + 1) = 32 * n + 32 by omega, Nat.pow_add]
    have h2 : f n * 2 ^ (32 * n) ≤ 4294967295 * 2 ^ (32 * n) := Nat.mul_le_mul_right _ (by omega)
    have h3 : 2 ^ (32 * n) * 2 ^ 32 = 4294967296 * 2 ^ (32 * n) := Nat.mul_comm _ _
    omega

/-- The slice v of n cells from ⟨b, o⟩ on holds the digits f. -/
def Dg (w : World) (b o n : Nat) (f : Nat → Nat) : Prop := ∀ j, j < n → w.cell? ⟨b, o + j, none⟩ = some (.int .u32 (f j : Nat)) ∧ f j < 4294967296
/-- v is a slice that holds the number N: digits below 2^32, the last one not 0. -/
def NatAt (w : World) (v : Value) (N : Nat) : Prop :=
  ∃ (a : Option Addr) (n cap : Nat) (f : Nat → Nat), v = .slice a n cap ∧ n ≤ cap ∧ (0 < n → ∃ b o, a = some ⟨b, o, none⟩ ∧ Dg w b o n f) ∧ (0 < n → f (n - 1) ≠ 0) ∧ fval f n = N ∧ n < 1000000
theorem Dg.gr {w w' : World} {b o n : Nat} {f : Nat → Nat} (h : Dg w b o n f) (g : Gr w w') : Dg w' b o n f := fun j hj => ⟨g.cell (cell_lt (h j hj).1) (h j hj).1, (h j hj).2⟩
theorem NatAt.gr {w w' : World} {v : Value} {N : Nat} (h : NatAt w v N) (g : Gr w w') : NatAt w' v N := by
  obtain ⟨a, n, cap, f, e, hc, hd, hl, hv, hs⟩ := h
  refine ⟨a, n, cap, f, e, hc, fun hn => ?_, hl, hv, hs⟩
  obtain ⟨b, o, e1, d⟩ := hd hn
  exact ⟨b, o, e1, d.gr g⟩
theorem Dg.congr {w : World} {b o n : Nat} {f g : Nat → Nat} (h : Dg w b o n f) (e : ∀ j, j < n → f j = g j) : Dg w b o n g := fun j hj => by
  rw [← e j hj]; exact h j hj

def lenOfV : Value → Nat
  | .slice _ n _ => n
  | _ => 0
end Go.Proofs.YtckjmcfncfoboaaDoor
