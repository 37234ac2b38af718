/- What To's answer comes to: a front of the kind's bits at the place of its last digit. No walk here. -/
import Derived.Test.YtckjmcfncfoboaaDoorNf
import Derived.Test.YtckjmcfncfoboaaDoorSe
namespace Go.Proofs.YtckjmcfncfoboaaDoor
open Go.RowKit
open Ieee

/-- A 2^s, rounded down. -/
def qv (A : Nat) (s : Int) : Nat := bsN A s / bsD 1 s
theorem qv_lt (A : Nat) (s : Int) (k : Nat) (h : (A.log2 : Int) + 1 + s ≤ k) : qv A s < 2 ^ k := by
  unfold qv bsN bsD
  rw [Nat.one_mul, Nat.div_lt_iff_lt_mul (Nat.two_pow_pos _), ← Nat.pow_add]
  refine Nat.lt_of_lt_of_le (Nat.mul_lt_mul_of_pos_right (Nat.lt_log2_self (n := A)) (Nat.two_pow_pos _)) ?_
  rw [← Nat.pow_add]
  exact Nat.pow_le_pow_right (by decide) (by omega)
theorem le_qv (A : Nat) (s : Int) (k : Nat) (hA : A ≠ 0) (h : (k : Int) ≤ A.log2 + s) : 2 ^ k ≤ qv A s := by
  unfold qv bsN bsD
  rw [Nat.one_mul, Nat.le_div_iff_mul_le (Nat.two_pow_pos _), ← Nat.pow_add]
  refine Nat.le_trans ?_ (Nat.mul_le_mul_right _ (Nat.log2_self_le hA))
  rw [← Nat.pow_add]
  exact Nat.pow_le_pow_right (by decide) (by omega)
theorem bsD_one (E L : Int) : bsD 1 (E - L) = 2 ^ (L - E).toNat := by
  unfold bsD
  rw [Nat.one_mul, show -(E - L) = L - E by omega]
theorem cmpN_facts (r g : Nat) : (0 < cmpN (r * 2) g ↔ g < 2 * r) ∧ (cmpN (r * 2) g = 0 ↔ g = 2 * r) ∧ (cmpN (r * 2) g = -1 ∨ cmpN (r * 2) g = 0 ∨ cmpN (r * 2) g = 1) := by
  unfold cmpN
  split
  · omega
  · split <;> omega

/-- Rounded once. -/
theorem rndU_rnd (mode : Int) (neg : Bool) (A : Nat) (E L : Int) :
    (if rndU mode neg (qv A (E - L) : Nat) (cmpN (bsN A (E - L) % bsD 1 (E - L) * 2) (bsD 1 (E - L))) (decide (bsN A (E - L) % bsD 1 (E - L) = 0)) = true then ((qv A (E - L) : Nat) : Int) + 1 else ((qv A (E - L) : Nat) : Int)) = (Rn.rnd mode neg (A * 2 ^ (E - L).toNat) (L - E).toNat : Nat) := by
  unfold qv
  rw [bsD_one]
  show _ = ((Rn.rnd mode neg (bsN A (E - L)) (L - E).toNat : Nat) : Int)
  generalize bsN A (E - L) = m
  generalize (L - E).toNat = c
  have hg := Nat.two_pow_pos c
  unfold Rn.rnd rndU
  by_cases h0 : m % 2 ^ c = 0
  · rw [h0, Rn.upw_zero _ _ _ _ hg, decide_eq_true rfl, Bool.not_true, Bool.false_and, if_neg (by simp)]
    simp
  · rw [decide_eq_false h0, Bool.not_false, Bool.true_and]
    have ho : (((m / 2 ^ c : Nat) : Int) % 2 == 1) = (m / 2 ^ c % 2 == 1) := by
      rw [Bool.eq_iff_iff, beq_iff_eq, beq_iff_eq]; omega
    obtain ⟨c1, c2, _⟩ := cmpN_facts (m % 2 ^ c) (2 ^ c)
    rw [ho, awy_upw mode neg _ _ (m % 2 ^ c) (2 ^ c) h0 c1 c2]
    cases Rn.upw mode neg (m / 2 ^ c % 2 == 1) (m % 2 ^ c) (2 ^ c)
    · rw [if_neg (by simp)]; simp
    · rw [if_pos rfl]; simp

/-- Nothing beyond the kind: what To answers. -/
def fq (top half q1 : Int) : Int := if q1 = top then half else q1
def fe (top q1 L : Int) : Int := if q1 = top then L + 1 else L
theorem toOut_near {P T top half : Int} {neg : Bool} {mode q h : Int} {wh : Bool} {e q1 : Int} {vF vG : Value} (hno : e + P ≤ T)
    (hq : (if rndU mode neg q h wh = true then q + 1 else q) = q1) (h : ToOut P T top half neg mode q h wh e vF vG) :
    vF = .agg #[.bool neg, .bool false, .int .u64 (fq top half q1), .int .i64 (fe top q1 e)] ∧ vG = .agg #[.bool (!wh), .bool false, .bool (!wh && decide (q < half))] := by
  obtain ⟨q1', q2, e2, h1, h2, h3⟩ := h
  rw [hq] at h1
  subst h1
  have he : fq top half q1' = q2 ∧ fe top q1' e = e2 := by
    unfold fq fe
    rcases h2 with ⟨a, rfl, rfl⟩ | ⟨a, rfl, rfl⟩
    · rw [if_pos a, if_pos a]; exact ⟨rfl, rfl⟩
    · rw [if_neg a, if_neg a]; exact ⟨rfl, rfl⟩
  rw [he.1, he.2]
  rcases h3 with ⟨a, _⟩ | ⟨_, hG, hF⟩
  · exfalso
    rcases h2 with ⟨_, _, b⟩ | ⟨_, _, b⟩ <;> omega
  · exact ⟨hF, hG⟩
theorem natAbs_log (n : Nat) (h0 : n ≠ 0) (hn : n < 18446744073709551616) : n.log2 < 64 := (Nat.log2_lt h0).2 hn

/-- Whole numbers: the flags, and the numbers' words. -/
theorem fr_whole (n width : Nat) (L : Int) (hw : 0 < width) (hL : L = (n.log2 : Int) - (width - 1 : Nat)) : (!decide (bsN n (0 - L) % bsD 1 (0 - L) = 0)) = frX n width := by
  rw [bsD_one]
  unfold frX bsN
  have hc : (L - 0).toNat = cutOf n width := by unfold cutOf; omega
  rw [hc]
  by_cases h : 0 ≤ L
  · have : (0 - L).toNat = 0 := by omega
    rw [this, Nat.pow_zero, Nat.mul_one]
    by_cases hz : n % 2 ^ cutOf n width = 0
    · rw [decide_eq_true hz, decide_eq_false (fun c => c hz)]; rfl
    · rw [decide_eq_false hz, decide_eq_true hz]; rfl
  · have h2 : cutOf n width = 0 := by unfold cutOf; omega
    rw [h2, Nat.pow_zero, Nat.mod_one, Nat.mod_one]; rfl
theorem fr_rnd64 (mode : Int) (neg : Bool) (n : Nat) (L : Int) (h0 : n ≠ 0) (hL : L = (n.log2 : Int) - 52) :
    double.nearest neg (Rn.rnd mode neg (n * 2 ^ (0 - L).toNat) (L - 0).toNat) L = frW mode neg n 53 := by
  unfold frW
  rw [if_neg h0]
  by_cases h : 0 ≤ L
  · have a : (0 - L).toNat = 0 := by omega
    have b : (L - 0).toNat = cutOf n 53 := by unfold cutOf; omega
    have c : ((cutOf n 53 : Nat) : Int) = L := by unfold cutOf; omega
    rw [a, b, Nat.pow_zero, Nat.mul_one, c]
  · have a : (L - 0).toNat = 0 := by omega
    have b : cutOf n 53 = 0 := by unfold cutOf; omega
    rw [a, b, Rn.rnd_zero, Rn.rnd_zero]
    have := Fl.nearest_shift neg n 0 (0 - L).toNat
    rw [show (0 : Int) - ((0 - L).toNat : Int) = L by omega] at this
    rw [this]; rfl
theorem fq_near (neg : Bool) (q1 : Nat) (L : Int) : double.nearest neg (fq 9007199254740992 4503599627370496 q1).toNat (fe 9007199254740992 q1 L) = double.nearest neg q1 L := by
  unfold fq fe
  by_cases h : q1 = 9007199254740992
  · have h' : (q1 : Int) = 9007199254740992 := by omega
    rw [if_pos h', if_pos h', h]
    have s := Fl.nearest_shift neg 4503599627370496 (L + 1) 1
    rw [show (4503599627370496 * 2 ^ 1 : Nat) = 9007199254740992 from rfl, show L + 1 - ((1 : Nat) : Int) = L by omega] at s
    exact s.symm
  · rw [if_neg (by omega), if_neg (by omega), Int.toNat_natCast]
/-- The rung of the front. -/
theorem fq_rung (q1 : Nat) (L : Int) (hL : -149 ≤ L) :
    (fe 16777216 q1 L + 149).toNat * 8388608 + (fq 16777216 8388608 q1).toNat = (L - -149).toNat * 8388608 + q1 := by
  unfold fq fe
  by_cases h : q1 = 16777216
  · have h' : (q1 : Int) = 16777216 := by omega
    rw [if_pos h', if_pos h']; omega
  · rw [if_neg (by omega), if_neg (by omega), Int.toNat_natCast]
    omega
end Go.Proofs.YtckjmcfncfoboaaDoor
