/- The facts that the walks of PartsBack ask for. -/
import Derived.Test.YtokfmeainfkjfaaDoorPb
import Derived.Test.YtokfmeainfkjfaaDoorRo
namespace Go.Proofs.YtokfmeainfkjfaaDoor
open Go.RowKit

theorem ord_facts (p q : Int) : -1 ≤ ord p q ∧ ord p q ≤ 1 ∧ (ord p q < 0 ↔ p < q) ∧ (ord p q = 0 ↔ p = q) ∧ ord q p = -ord p q := by
  unfold ord
  by_cases h : p < q
  · rw [if_pos h, if_neg (by omega), if_pos h]; omega
  · by_cases g : q < p
    · rw [if_neg h, if_pos g, if_pos g]; omega
    · rw [if_neg h, if_neg g, if_neg g, if_neg h]; omega
theorem stp_zero (a b : Nat) (h : stpR a b = 0) : stpV a b = plc b - plc a ∧ -9223372036854775808 ≤ plc b - plc a ∧ plc b - plc a ≤ 9223372036854775807 := by
  unfold stpR at h
  unfold stpV
  by_cases n : (isN a || isN b) = true
  · rw [if_pos n] at h; cases h
  · rw [if_neg n] at h ⊢
    cases o : stpOk (plc a) (plc b)
    · rw [o] at h; cases h
    · have := of_decide_eq_true o
      exact ⟨rfl, this.1, this.2⟩
theorem next_facts (x : Nat) (hx : x < 18446744073709551616) (n : isN x = false) (h : plc x < 9218868437227405312) :
    isN (nxt x) = false ∧ plc (nxt x) = plc x + 1 ∧ nxt x < 18446744073709551616 ∧ prv (nxt x) = x ∧ stpV x (nxt x) = 1 ∧ stpR x (nxt x) = 0 ∧ (ord (plc (nxt x)) (plc x) == 0) = false := by
  have t := plc_top x n
  have e : nxt x = wordAt (plc x + 1) := by unfold nxt; rw [if_pos h]
  obtain ⟨f1, f2, f3⟩ := wordAt_facts (plc x + 1) (by omega) (by omega)
  rw [← e] at f1 f2 f3
  have nn : (isN x || isN (nxt x)) = false := by rw [n, f1]; rfl
  have ok : stpOk (plc x) (plc (nxt x)) = true := decide_eq_true (by rw [f2]; omega)
  have hne : ¬ (isN x || isN (nxt x)) = true := by rw [nn]; decide
  refine ⟨f1, f2, f3, ?_, ?_, ?_, ?_⟩
  · unfold prv
    rw [f2, if_pos ⟨by omega, by omega⟩, show plc x + 1 - 1 = plc x by omega]
    exact wordAt_plc x hx n
  · unfold stpV; rw [if_neg hne, ok, if_pos rfl, f2]; omega
  · unfold stpR; rw [if_neg hne, ok]; rfl
  · rw [f2]
    have := (ord_facts (plc x + 1) (plc x)).2.2.2.1
    have h0 : ord (plc x + 1) (plc x) ≠ 0 := fun c => by have := this.1 c; omega
    simpa using h0
theorem last_facts (a : Nat) (h : ¬ plc (one a) < 9218868437227405312) : nxt (one a) = one a ∧ (ord (plc (nxt (one a))) (plc (one a)) == 0) = true := by
  have e : nxt (one a) = one a := by unfold nxt; rw [if_neg h, one_self]
  refine ⟨e, ?_⟩
  rw [e]
  have := (ord_facts (plc (one a)) (plc (one a))).2.2.2.1.2 rfl
  rw [this]; rfl
theorem plc_fin (x : Nat) (h : mag x < 9218868437227405312) : isN x = false ∧ plc x < 9218868437227405312 ∧ -9218868437227405313 < plc x := by
  have n : isN x = false := decide_eq_false (by omega)
  refine ⟨n, ?_⟩
  unfold plc magZ; rw [n]
  cases sgb x
  · show (mag x : Int) < _ ∧ _ < (mag x : Int); omega
  · show -1 - (mag x : Int) < _ ∧ _ < -1 - (mag x : Int); omega
theorem plc_infs (x : Nat) (h : mag x = 9218868437227405312) : isN x = false ∧ cls x = 2 ∧ (plc x = 9218868437227405312 ∨ plc x = -9218868437227405313) := by
  have n : isN x = false := decide_eq_false (by omega)
  refine ⟨n, ?_, ?_⟩
  · unfold cls; rw [if_neg (by omega), if_pos h]
  · unfold plc magZ; rw [n, h]
    cases sgb x
    · exact Or.inl rfl
    · exact Or.inr rfl

/-- What the law asks of three numbers, whatever they are. -/
theorem three_facts (a b c : Nat) (ha : one a < 18446744073709551616) (hb : one b < 18446744073709551616) :
    (stpR (one a) (one b) = 0 → stpR (one b) (one c) = 0 → stpR (one a) (one c) = 0 → wrap64 (stpV (one a) (one b) + stpV (one b) (one c)) = stpV (one a) (one c)) ∧
    (stpR (one a) (one b) = 0 → (0 < stpV (one a) (one b) ↔ ord (plc (one a)) (plc (one b)) < 0)) ∧
    (ord (plc (one a)) (plc (one b)) ≤ 0 → ord (plc (one b)) (plc (one c)) ≤ 0 → ord (plc (one a)) (plc (one c)) ≤ 0) ∧
    (ord (plc (one a)) (plc (one b)) = 0 → (((one a : Nat) : Int) == ((one b : Nat) : Int)) = true) ∧
    ((FloatKind.f64.format.order (one a) (one b) == some .lt) = true → ord (plc (one a)) (plc (one b)) < 0) := by
  have o1 := ord_facts (plc (one a)) (plc (one b))
  have o2 := ord_facts (plc (one b)) (plc (one c))
  have o3 := ord_facts (plc (one a)) (plc (one c))
  refine ⟨?_, ?_, ?_, ?_, ?_⟩
  · intro h1 h2 h3
    obtain ⟨e1, _, _⟩ := stp_zero _ _ h1
    obtain ⟨e2, _, _⟩ := stp_zero _ _ h2
    obtain ⟨e3, b1, b2⟩ := stp_zero _ _ h3
    rw [e1, e2, e3]
    unfold wrap64
    generalize plc (one a) = p at *
    generalize plc (one b) = q at *
    generalize plc (one c) = r at *
    omega
  · intro h1
    obtain ⟨e1, _, _⟩ := stp_zero _ _ h1
    rw [e1, o1.2.2.1]
    generalize plc (one a) = p at *
    generalize plc (one b) = q at *
    omega
  · intro h1 h2
    generalize plc (one a) = p at *
    generalize plc (one b) = q at *
    generalize plc (one c) = r at *
    generalize ord p q = u at *
    generalize ord q r = v at *
    generalize ord p r = z at *
    omega
  · intro h
    rw [plc_inj ha hb (o1.2.2.2.1.1 h)]
    exact beq_self_eq_true _
  · intro h
    exact o1.2.2.1.2 (lt_plc _ _ ha hb h)
end Go.Proofs.YtokfmeainfkjfaaDoor
