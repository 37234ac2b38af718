/- The document's own functions for whole numbers: mode, away, whole. -/
import Derived.Test.YtckjmcfncfoboaaDoorSx
import Derived.Test.YtckjmcfncfoboaaDoorWr
import Derived.Test.YtckjmcfncfoboaaDoorRj
namespace Go.Proofs.YtckjmcfncfoboaaDoor
open Go.RowKit
open Ieee

set_option maxHeartbeats 400000 in
theorem rmode_any (mode : Int) (w : World) :
    Calls Tryd.prog 53 #[.int .i64 mode] w fun e w' => e = .returned (.bool (okMode mode)) ∧ w' = w := by
  go_enter Tryd.func53, Tryd.ntmps53
  go_wp2
  all_goals go_ret
  all_goals refine ⟨ret_bool ?_, rfl⟩
  · exact decide_eq_decide.2 (by omega)
  · exact (decide_eq_false (by omega)).symm

/-- The document's word for onward, of what isn't whole: half tells how it stands to one half. -/
def awy (mode : Int) (neg odd : Bool) (half : Int) : Bool :=
  if mode = 1 then decide (0 < half) || (decide (half = 0) && odd)
  else if mode = 2 then decide (0 ≤ half)
  else if mode = 3 then !neg
  else if mode = 4 then neg
  else if mode = 6 then !odd
  else false
theorem awy_upw (mode : Int) (neg odd : Bool) (half : Int) (r g : Nat) (h0 : r ≠ 0) (h1 : 0 < half ↔ g < 2 * r) (h2 : half = 0 ↔ g = 2 * r) : awy mode neg odd half = Rn.upw mode neg odd r g := by
  unfold awy Rn.upw
  rw [decide_eq_decide.2 h1, decide_eq_decide.2 h2, decide_eq_decide.2 (show 0 ≤ half ↔ g ≤ 2 * r by omega), decide_eq_true h0, Bool.true_and, Bool.true_and, Bool.true_and]

set_option maxHeartbeats 1000000 in
theorem away_any (mode : Int) (neg odd : Bool) (half : Int) (hh : half = -1 ∨ half = 0 ∨ half = 1) (w : World) :
    Calls Tryd.prog 89 #[.int .i64 mode, .bool neg, .bool odd, .int .i64 half] w fun e w' => e = .returned (.bool (awy mode neg odd half)) ∧ w' = w := by
  have hr : Hid (awy mode neg odd half = if mode = 1 then decide (0 < half) || (decide (half = 0) && odd) else if mode = 2 then decide (0 ≤ half) else if mode = 3 then !neg else if mode = 4 then neg else if mode = 6 then !odd else false) := rfl
  generalize awy mode neg odd half = r at *
  rcases mode_cases mode with (rfl | rfl | rfl | rfl | rfl) | ⟨h4, h3, h1, h2, h6⟩
  · rcases hh with rfl | rfl | rfl <;> cases odd
    all_goals
      go_enter Tryd.func89, Tryd.ntmps89
      go_wp2
      go_ret
      exact ⟨ret_bool hr.out.symm, rfl⟩
  · rcases hh with rfl | rfl | rfl
    all_goals
      go_enter Tryd.func89, Tryd.ntmps89
      go_wp2
      go_ret
      exact ⟨ret_bool hr.out.symm, rfl⟩
  · clear hh
    go_enter Tryd.func89, Tryd.ntmps89
    go_wp2
    go_ret
    exact ⟨ret_bool hr.out.symm, rfl⟩
  · clear hh
    go_enter Tryd.func89, Tryd.ntmps89
    go_wp2
    go_ret
    exact ⟨ret_bool hr.out.symm, rfl⟩
  · clear hh
    go_enter Tryd.func89, Tryd.ntmps89
    go_wp2
    go_ret
    exact ⟨ret_bool hr.out.symm, rfl⟩
  · clear hh
    have hf : Hid (r = false) := by
      have := hr.out
      simp only [beq_eq_false_iff_ne, ne_eq] at h1 h2 h3 h4 h6
      rw [if_neg h1, if_neg h2, if_neg h3, if_neg h4, if_neg h6] at this
      exact this
    clear hr
    go_enter Tryd.func89, Tryd.ntmps89
    go_wp2
    go_ret
    exact ⟨ret_bool hf.out.symm, rfl⟩

set_option maxHeartbeats 400000 in
theorem rwhole_big (neg : Bool) (m e by_ : Int) (he : 0 ≤ e) (w : World) :
    Calls Tryd.prog 67 #[.bool neg, .int .u64 m, .int .i64 e, .int .i64 by_] w fun ee w' => ee = .returned (.tuple #[.int .u64 m, .int .i64 e]) ∧ w' = w := by
  go_enter Tryd.func67, Tryd.ntmps67
  go_wp2
  go_ret2
  exact ⟨rfl, rfl⟩

set_option maxHeartbeats 1000000 in
theorem rwhole_far (neg U : Bool) (m k by_ R : Int) (hk : 64 ≤ k) (hk1 : k ≤ 1100) (m0 : 0 ≤ m) (m1 : m < 18446744073709551616)
    (H : Hid (∀ w, Calls Tryd.prog 89 #[.int .i64 by_, .bool neg, .bool false, .int .i64 (-1)] w fun e w' => e = .returned (.bool U) ∧ w' = w))
    (hR : Hid (R = if 0 < m ∧ U = true then 1 else 0)) (w : World) :
    Calls Tryd.prog 67 #[.bool neg, .int .u64 m, .int .i64 (-k), .int .i64 by_] w fun ee w' => ee = .returned (.tuple #[.int .u64 R, .int .i64 0]) ∧ w' = w := by
  by_cases c : 0 < m
  · cases U
    all_goals
      go_enter Tryd.func67, Tryd.ntmps67
      go_wp2_with (go_at_call 89; refine (H.out _).mono ?_; rintro e w' ⟨rfl, rfl⟩)
      go_ret2
      refine ⟨ret2 (int_eq ?_) rfl, rfl⟩
      rw [hR.out]; simp [c]
  · have c' : m = 0 := by omega
    subst c'
    go_enter Tryd.func67, Tryd.ntmps67
    go_wp2
    go_ret2
    refine ⟨ret2 (int_eq ?_) rfl, rfl⟩
    rw [hR.out]; simp

set_option maxHeartbeats 1000000 in
theorem rwhole_mid (neg U O : Bool) (m k by_ q p r h half R : Int) (hk : 1 ≤ k) (hk1 : k ≤ 63) (m0 : 0 ≤ m) (m1 : m < 18446744073709551616) (q0 : 0 ≤ q) (q1 : q < 9223372036854775808) (p0 : 0 ≤ p) (p1 : p ≤ m) (hpr : Hid (m - p = r)) (r0 : 0 ≤ r)
    (hq : Hid (m / 2 ^ k.toNat = q)) (hp : Hid (IntKind.u64.wrap (q * 2 ^ k.toNat) = p)) (hh : Hid (IntKind.u64.wrap (2 ^ (k.toNat - 1)) = h))
    (hhalf : (half = 1 ∧ h < r ∧ 0 < r) ∨ (half = 0 ∧ (r == h) = true ∧ r ≤ h ∧ 0 < r) ∨ (half = -1 ∧ (r == h) = false ∧ r ≤ h)) (hO : Hid ((q % 2 == 1) = O))
    (H : Hid (∀ w, Calls Tryd.prog 89 #[.int .i64 by_, .bool neg, .bool O, .int .i64 half] w fun e w' => e = .returned (.bool U) ∧ w' = w))
    (hR : Hid (R = if 0 < r ∧ U = true then q + 1 else q)) (w : World) :
    Calls Tryd.prog 67 #[.bool neg, .int .u64 m, .int .i64 (-k), .int .i64 by_] w fun ee w' => ee = .returned (.tuple #[.int .u64 R, .int .i64 0]) ∧ w' = w := by
  rcases hhalf with ⟨rfl, h1, c⟩ | ⟨rfl, h1, h2, c⟩ | ⟨rfl, h1, h2⟩
  · cases U
    all_goals
      go_enter Tryd.func67, Tryd.ntmps67
      go_wp2_with (first | (simp only [hq.out]) | (simp only [hp.out]) | (simp only [hpr.out]) | (simp only [hh.out]) | (simp only [hO.out]) | (go_at_call 89; refine (H.out _).mono ?_; rintro e w' ⟨rfl, rfl⟩))
      go_ret2
      refine ⟨ret2 (int_eq ?_) rfl, rfl⟩
      rw [hR.out]; simp [c]
  · cases U
    all_goals
      go_enter Tryd.func67, Tryd.ntmps67
      go_wp2_with (first | (simp only [hq.out]) | (simp only [hp.out]) | (simp only [hpr.out]) | (simp only [hh.out]) | (simp only [hO.out]) | (go_at_call 89; refine (H.out _).mono ?_; rintro e w' ⟨rfl, rfl⟩))
      go_ret2
      refine ⟨ret2 (int_eq ?_) rfl, rfl⟩
      rw [hR.out]; simp [c]
  · by_cases c : 0 < r
    · cases U
      all_goals
        go_enter Tryd.func67, Tryd.ntmps67
        go_wp2_with (first | (simp only [hq.out]) | (simp only [hp.out]) | (simp only [hpr.out]) | (simp only [hh.out]) | (simp only [hO.out]) | (go_at_call 89; refine (H.out _).mono ?_; rintro e w' ⟨rfl, rfl⟩))
        go_ret2
        refine ⟨ret2 (int_eq ?_) rfl, rfl⟩
        rw [hR.out]; simp [c]
    · have c' : r ≤ 0 := by omega
      have hR' : Hid (q = R) := by have := hR.out; rw [if_neg (fun x => c x.1)] at this; exact this.symm
      clear c hR
      go_enter Tryd.func67, Tryd.ntmps67
      go_wp2_with (first | (simp only [hq.out]) | (simp only [hp.out]) | (simp only [hpr.out]) | (simp only [hh.out]) | (simp only [hO.out]) | (go_at_call 89; refine (H.out _).mono ?_; rintro e w' ⟨rfl, rfl⟩))
      go_ret2
      exact ⟨ret2 (int_eq hR'.out) rfl, rfl⟩

/-- The document's whole. -/
theorem rwhole_any (neg : Bool) (m : Nat) (e by_ : Int) (hm : m < 9007199254740992) (he0 : -1074 ≤ e) (he1 : e ≤ 971) (w : World) :
    Calls Tryd.prog 67 #[.bool neg, .int .u64 m, .int .i64 e, .int .i64 by_] w fun ee w' => ee = .returned (.tuple #[.int .u64 (Rn.rnd by_ neg m (-e).toNat : Nat), .int .i64 (e.toNat : Nat)]) ∧ w' = w := by
  by_cases h0 : 0 ≤ e
  · rw [show (-e).toNat = 0 by omega, Rn.rnd_zero, show ((e.toNat : Nat) : Int) = e by omega]
    exact rwhole_big neg m e by_ h0 w
  · rw [show ((e.toNat : Nat) : Int) = 0 by omega]
    obtain ⟨k, hk⟩ : ∃ k : Nat, e = -(k : Int) := ⟨(-e).toNat, by omega⟩
    subst hk
    rw [show (-(-(k : Int))).toNat = k by omega]
    have hrnd : Rn.rnd by_ neg m k = m / 2 ^ k + (Rn.upw by_ neg (m / 2 ^ k % 2 == 1) (m % 2 ^ k) (2 ^ k)).toNat := rfl
    by_cases hk64 : 64 ≤ k
    · have hN : 18446744073709551616 ≤ 2 ^ k := by
        rw [show (18446744073709551616 : Nat) = 2 ^ 64 from rfl]
        exact Nat.pow_le_pow_right (by decide) hk64
      rw [Nat.div_eq_of_lt (show m < 2 ^ k by omega), Nat.mod_eq_of_lt (show m < 2 ^ k by omega), show (0 % 2 == 1) = false from rfl, Nat.zero_add] at hrnd
      refine rwhole_far neg (awy by_ neg false (-1)) m k by_ _ (by omega) (by omega) (by omega) (by omega) (fun w => away_any by_ neg false (-1) (Or.inl rfl) w) ?_ w
      show (Rn.rnd by_ neg m k : Int) = _
      rw [hrnd]
      by_cases hz : m = 0
      · subst hz
        rw [Rn.upw_zero _ _ _ _ (by omega), if_neg (by simp)]; rfl
      · rw [← awy_upw by_ neg false (-1) m (2 ^ k) hz (by omega) (by omega)]
        cases hU : awy by_ neg false (-1)
        · rw [if_neg (by simp)]; rfl
        · rw [if_pos ⟨by omega, rfl⟩]; rfl
    · have hp : 0 < 2 ^ k := Nat.two_pow_pos k
      have hp2 : 2 ^ k = 2 * 2 ^ (k - 1) := by
        obtain ⟨j, rfl⟩ : ∃ j, k = j + 1 := ⟨k - 1, by omega⟩
        rw [Nat.pow_succ, Nat.mul_comm]; rfl
      have hp63 : 2 ^ (k - 1) ≤ 4611686018427387904 := by
        rw [show (4611686018427387904 : Nat) = 2 ^ 62 from rfl]
        exact Nat.pow_le_pow_right (by decide) (by omega)
      have hdm := Nat.div_add_mod m (2 ^ k)
      have hml := Nat.mod_lt m hp
      have hql : m / 2 ^ k ≤ m := Nat.div_le_self _ _
      have hle : m / 2 ^ k * 2 ^ k ≤ m := Nat.div_mul_le_self m (2 ^ k)
      have hmc : 2 ^ k * (m / 2 ^ k) = m / 2 ^ k * 2 ^ k := Nat.mul_comm _ _
      have eq1 : (m : Int) / 2 ^ (k : Int).toNat = ((m / 2 ^ k : Nat) : Int) := by rw [Int.toNat_natCast]; exact_mod_cast rfl
      have eq2 : IntKind.u64.wrap (((m / 2 ^ k : Nat) : Int) * 2 ^ (k : Int).toNat) = ((m / 2 ^ k * 2 ^ k : Nat) : Int) := by
        rw [Int.toNat_natCast, IntKind.wrap_u64]
        have : ((m / 2 ^ k : Nat) : Int) * 2 ^ k = ((m / 2 ^ k * 2 ^ k : Nat) : Int) := by rw [Int.natCast_mul, Int.natCast_pow]; rfl
        rw [this]; omega
      have eq3 : IntKind.u64.wrap (2 ^ ((k : Int).toNat - 1)) = ((2 ^ (k - 1) : Nat) : Int) := by
        rw [Int.toNat_natCast, IntKind.wrap_u64]
        have : (2 : Int) ^ (k - 1) = ((2 ^ (k - 1) : Nat) : Int) := by rw [Int.natCast_pow]; rfl
        rw [this]; omega
      have hodd : (((m / 2 ^ k : Nat) : Int) % 2 == 1) = (m / 2 ^ k % 2 == 1) := by
        rw [Bool.eq_iff_iff, beq_iff_eq, beq_iff_eq]; omega
      obtain ⟨half, hh1, hh2, hh3⟩ : ∃ half : Int, (half = -1 ∨ half = 0 ∨ half = 1) ∧ (0 < half ↔ 2 ^ k < 2 * (m % 2 ^ k)) ∧ (half = 0 ↔ 2 ^ k = 2 * (m % 2 ^ k)) := by
        rcases Nat.lt_trichotomy (2 ^ k) (2 * (m % 2 ^ k)) with c | c | c
        · exact ⟨1, by omega, by omega, by omega⟩
        · exact ⟨0, by omega, by omega, by omega⟩
        · exact ⟨-1, by omega, by omega, by omega⟩
      refine rwhole_mid neg (awy by_ neg (m / 2 ^ k % 2 == 1) half) (m / 2 ^ k % 2 == 1) m k by_ (m / 2 ^ k : Nat) (m / 2 ^ k * 2 ^ k : Nat) (m % 2 ^ k : Nat) (2 ^ (k - 1) : Nat) half _ (by omega) (by omega) (by omega) (by omega) (Int.natCast_nonneg _) (Int.ofNat_lt.2 (show m / 2 ^ k < 9223372036854775808 by omega)) (Int.natCast_nonneg _) (Int.ofNat_le.2 hle) (by unfold Hid; omega) (Int.natCast_nonneg _) eq1 eq2 eq3 ?_ hodd (fun w => away_any by_ neg _ half hh1 w) ?_ w
      · rcases hh1 with c | c | c
        · right; right; exact ⟨c, by rw [beq_eq_false_iff_ne]; omega, by omega⟩
        · right; left; exact ⟨c, by rw [beq_iff_eq]; omega, by omega, by omega⟩
        · left; exact ⟨c, by omega, by omega⟩
      · show (Rn.rnd by_ neg m k : Int) = _
        rw [hrnd]
        by_cases hz : m % 2 ^ k = 0
        · rw [hz, Rn.upw_zero _ _ _ _ hp, if_neg (by simp)]; rfl
        · rw [← awy_upw by_ neg _ half (m % 2 ^ k) (2 ^ k) hz hh2 hh3]
          cases hU : awy by_ neg (m / 2 ^ k % 2 == 1) half
          · rw [if_neg (by simp)]; rfl
          · rw [if_pos ⟨by omega, rfl⟩]; rfl
end Go.Proofs.YtckjmcfncfoboaaDoor
