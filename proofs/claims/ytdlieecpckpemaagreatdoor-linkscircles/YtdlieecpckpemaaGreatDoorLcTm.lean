/- The places that marks have, rising; the lowest bit of a word of marks, and the word without it. No function of the program here. -/
import Derived.Test.YtdlieecpckpemaaGreatDoorLcWd
import Derived.Lib.TrailingZeros
namespace Go.Proofs.YtdlieecpckpemaaGreatDoor
open Go.Lib
/-- The places below n. -/
def pl (M : Nat → Bool) (n : Nat) : List Nat := (List.range n).filter M
theorem pl_succ (M : Nat → Bool) (n : Nat) : pl M (n + 1) = if M n = true then pl M n ++ [n] else pl M n := by
  unfold pl
  rw [List.range_succ, List.filter_append]
  by_cases h : M n = true
  · rw [if_pos h]; simp [h]
  · rw [if_neg h]; simp [h]
theorem mem_pl {M : Nat → Bool} {n p : Nat} : p ∈ pl M n ↔ p < n ∧ M p = true := by unfold pl; rw [List.mem_filter, List.mem_range]
/-- From a on to b, where none stands between. -/
theorem pl_gap {M : Nat → Bool} {a : Nat} : ∀ {b : Nat}, a ≤ b → (∀ q, a ≤ q → q < b → M q = false) → pl M b = pl M a := by
  intro b
  induction b with
  | zero => intro h _; have : a = 0 := by omega
            rw [this]
  | succ b ih =>
    intro h hn
    rcases Nat.eq_or_lt_of_le h with e | e
    · rw [e]
    · rw [pl_succ, if_neg (by rw [hn b (by omega) (by omega)]; decide)]
      exact ih (by omega) (fun q h1 h2 => hn q h1 (by omega))
theorem pl_pre {M : Nat → Bool} {a : Nat} : ∀ {b : Nat}, a ≤ b → ∃ l, pl M b = pl M a ++ l := by
  intro b
  induction b with
  | zero => intro h; have : a = 0 := by omega
            exact ⟨[], by rw [this]; rfl⟩
  | succ b ih =>
    intro h
    rcases Nat.eq_or_lt_of_le h with e | e
    · exact ⟨[], by rw [e, List.append_nil]⟩
    · obtain ⟨l, hl⟩ := ih (by omega)
      rw [pl_succ]
      split
      · exact ⟨l ++ [b], by rw [hl, List.append_assoc]⟩
      · exact ⟨l, hl⟩
theorem pl_at {M : Nat → Bool} {q n : Nat} (hM : M q = true) (hq : q < n) : (pl M n)[(pl M q).length]? = some q := by
  obtain ⟨l, hl⟩ := pl_pre (M := M) (a := q + 1) (b := n) hq
  rw [hl, pl_succ, if_pos hM, List.append_assoc, List.getElem?_append_right (Nat.le_refl _), Nat.sub_self]
  rfl
theorem pl_lt {M : Nat → Bool} {q n : Nat} (hM : M q = true) (hq : q < n) : (pl M q).length < (pl M n).length := (List.getElem?_eq_some_iff.1 (pl_at hM hq)).1
/-- The lowest bit. -/
theorem low_bits (x k m : Nat) (hx : x = 2 ^ k * (2 * m + 1)) : x.testBit k = true ∧ (∀ j, j < k → x.testBit j = false) ∧ ∀ j, (x &&& (x - 1)).testBit j = (x.testBit j && decide (j ≠ k)) := by
  have hp : 0 < 2 ^ k := Nat.two_pow_pos k
  have h1 : x - 1 = 2 ^ k * (2 * m) + (2 ^ k - 1) := by
    rw [hx, Nat.mul_add, Nat.mul_one]
    omega
  have b1 : ∀ j, x.testBit j = (if j < k then false else (2 * m + 1).testBit (j - k)) := fun j => by
    have := Nat.testBit_two_pow_mul_add (i := k) (2 * m + 1) (b := 0) hp j
    rw [Nat.add_zero] at this
    rw [hx, this]; simp
  have b2 : ∀ j, (x - 1).testBit j = (if j < k then (2 ^ k - 1).testBit j else (2 * m).testBit (j - k)) := fun j => by
    rw [h1]; exact Nat.testBit_two_pow_mul_add (2 * m) (by omega) j
  refine ⟨?_, ?_, ?_⟩
  · rw [b1, if_neg (by omega), Nat.sub_self]; simp [Nat.testBit_zero]
  · intro j hj; rw [b1, if_pos hj]
  · intro j
    rw [Nat.testBit_and, b1, b2]
    rcases Nat.lt_trichotomy j k with c | c | c
    · simp [c]
    · subst c; simp [Nat.testBit_zero]
    · have c1 : ¬ j < k := by omega
      have c2 : j ≠ k := by omega
      obtain ⟨s, hs⟩ : ∃ s, j - k = s + 1 := ⟨j - k - 1, by omega⟩
      simp only [c1, if_false, c2, ne_eq, not_false_eq_true, decide_true, Bool.and_true, hs]
      have e1 : (2 * m + 1).testBit (s + 1) = m.testBit s := by rw [Nat.testBit_succ]; congr 1; omega
      have e2 : (2 * m).testBit (s + 1) = m.testBit s := by rw [Nat.testBit_succ]; congr 1; omega
      rw [e1, e2, Bool.and_self]
/-- The bits from p on. -/
def fromP (M : Nat → Bool) (p : Nat) : Nat → Bool := fun q => M q && decide (p ≤ q)
theorem wd_from (M : Nat → Bool) (i : Nat) : Wd.wd M i = Wd.wd (fromP M (64 * i)) i := Wd.wd_congr fun j _ => by unfold fromP; simp
/-- A word with marks: its lowest one, and what is left. -/
theorem wd_low {M : Nat → Bool} {i p : Nat} (hp : 64 * i ≤ p) (h : Wd.wd (fromP M p) i ≠ 0) : ∃ k, k = ctzFrom 64 (Wd.wd (fromP M p) i) ∧ k < 64 ∧ M (64 * i + k) = true ∧ p ≤ 64 * i + k ∧ (∀ q, p ≤ q → q < 64 * i + k → M q = false) ∧ (Wd.wd (fromP M p) i) &&& (Wd.wd (fromP M p) i - 1) = Wd.wd (fromP M (64 * i + k + 1)) i := by
  have hlt := Wd.wd_lt (fromP M p) i
  obtain ⟨m, hm, hk⟩ := ctzFrom_spec 64 (Wd.wd (fromP M p) i) (by omega) hlt
  obtain ⟨l1, l2, l3⟩ := low_bits _ _ m hm
  have tb : ∀ j, j < 64 → (Wd.wd (fromP M p) i).testBit j = (M (64 * i + j) && decide (p ≤ 64 * i + j)) := fun j hj => by
    rw [Wd.testBit_wd]; simp [hj, fromP]
  rw [tb _ hk] at l1
  simp only [Bool.and_eq_true, decide_eq_true_eq] at l1
  refine ⟨_, rfl, hk, l1.1, l1.2, ?_, ?_⟩
  · intro q h1 h2
    have h3 := l2 (q - 64 * i) (by omega)
    rw [tb _ (by omega), show 64 * i + (q - 64 * i) = q by omega] at h3
    simpa [h1] using h3
  · refine Wd.wd_eq (Nat.lt_of_le_of_lt Nat.and_le_left hlt) fun j hj => ?_
    rw [l3, tb j hj]
    have hno : j < ctzFrom 64 (Wd.wd (fromP M p) i) → (M (64 * i + j) && decide (p ≤ 64 * i + j)) = false := fun c => by rw [← tb j hj]; exact l2 j c
    clear l2 l3 hm
    generalize ctzFrom 64 (Wd.wd (fromP M p) i) = k at *
    show _ = (M (64 * i + j) && decide (64 * i + k + 1 ≤ 64 * i + j))
    rcases Nat.lt_trichotomy j k with c | c | c
    · rw [hno c]
      have : ¬ (64 * i + k + 1 ≤ 64 * i + j) := by omega
      simp [this]
    · have : ¬ (64 * i + k + 1 ≤ 64 * i + j) := by omega
      simp [c]
    · have h1 : 64 * i + k + 1 ≤ 64 * i + j := by omega
      have h2 : p ≤ 64 * i + j := by omega
      have h3 : j ≠ k := by omega
      simp [h1, h2, h3]
theorem wd_out {M : Nat → Bool} {i p : Nat} (hp : 64 * i ≤ p) (h : Wd.wd (fromP M p) i = 0) (q : Nat) (h1 : p ≤ q) (h2 : q < 64 * (i + 1)) : M q = false := by
  have := Wd.wd_eq_zero h (q - 64 * i) (by omega)
  rw [show 64 * i + (q - 64 * i) = q by omega] at this
  unfold fromP at this
  simpa [h1] using this
end Go.Proofs.YtdlieecpckpemaaGreatDoor
