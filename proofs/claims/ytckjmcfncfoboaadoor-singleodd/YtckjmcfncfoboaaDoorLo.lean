/- SingleOdd: to 64 bits by Odd, and then to 32 by any mode, is to 32 at once. -/
import Derived.Test.YtckjmcfncfoboaaDoorSk
namespace Go.Proofs.YtckjmcfncfoboaaDoor
open Go.RowKit
open Ieee

/-- Twice, by Odd first, is once. -/
theorem odd_twice (mode : Int) (neg : Bool) (n : Nat) (hn : n < 18446744073709551616) : frW 6 neg n 53 < 18446744073709551616 ∧ isN (frW 6 neg n 53) = false ∧ nwW mode (frW 6 neg n 53) = siW mode neg n := by
  unfold siW
  by_cases h0 : n = 0
  · have hw := word64_lt neg 0 (by decide)
    have e : frW 6 neg n 53 = double.word neg 0 := by unfold frW; rw [if_pos h0]
    rw [e, if_pos h0]
    refine ⟨hw.1, by unfold isN; rw [hw.2.1]; decide, ?_⟩
    unfold nwW
    rw [hw.2.1, hw.2.2, if_neg (by decide), if_pos rfl]
  · obtain ⟨f1, f2, f3, f4⟩ := fr_facts 6 neg n 53 h0 hn (Or.inl rfl)
    have h3 : n.log2 < 64 := (Nat.log2_lt h0).2 hn
    -- what is cut by Odd has 53 digits at most
    have hlt : Rn.rnd 6 neg n (cutOf n 53) < 9007199254740992 := by
      by_cases hc : 0 < cutOf n 53
      · have hq : n / 2 ^ cutOf n 53 < 9007199254740992 := by
          rw [Nat.div_lt_iff_lt_mul (Nat.two_pow_pos _), show (9007199254740992 : Nat) = 2 ^ 53 from rfl, ← Nat.pow_add]
          refine Nat.lt_of_lt_of_le Nat.lt_log2_self (Nat.pow_le_pow_right (by decide) ?_)
          unfold cutOf; omega
        unfold Rn.rnd
        have ho : Rn.upw 6 neg (n / 2 ^ cutOf n 53 % 2 == 1) (n % 2 ^ cutOf n 53) (2 ^ cutOf n 53) = (decide (n % 2 ^ cutOf n 53 ≠ 0) && !(n / 2 ^ cutOf n 53 % 2 == 1)) := rfl
        rw [ho]
        generalize n / 2 ^ cutOf n 53 = q at *
        by_cases hp : q % 2 = 1
        · rw [show (q % 2 == 1) = true by rw [hp]; rfl, Bool.not_true, Bool.and_false]
          show q + 0 < _
          omega
        · have := Bool.toNat_le (decide (n % 2 ^ cutOf n 53 ≠ 0) && !(q % 2 == 1))
          omega
      · have hz : cutOf n 53 = 0 := by omega
        rw [hz, Rn.rnd_zero]
        exact (Nat.log2_lt h0).1 (show n.log2 < 53 by unfold cutOf at hz; omega)
    have hlog : (Rn.rnd 6 neg n (cutOf n 53)).log2 < 53 := (Nat.log2_lt f1).2 hlt
    have hf : Fl.Fits (Rn.rnd 6 neg n (cutOf n 53)) (cutOf n 53 : Nat) := ⟨f1, hlt, by omega, by omega⟩
    have e : frW 6 neg n 53 = double.nearest neg (Rn.rnd 6 neg n (cutOf n 53)) (cutOf n 53 : Nat) := by unfold frW; rw [if_neg h0]
    obtain ⟨k, s1, s2, s3, s4, s5⟩ := split_near neg hf
    obtain ⟨k', c', r', e', _⟩ := Fl.fit neg hf
    have hM : Rn.rnd 6 neg n (cutOf n 53) * 2 ^ k' ≠ 0 := Nat.mul_ne_zero f1 (by have := Nat.two_pow_pos k'; omega)
    have hw := word64_lt neg (Fl.rungOf (Rn.rnd 6 neg n (cutOf n 53) * 2 ^ k') ((cutOf n 53 : Nat) - k')) (by omega)
    have hr0 : Fl.rungOf (Rn.rnd 6 neg n (cutOf n 53) * 2 ^ k') ((cutOf n 53 : Nat) - k') ≠ 0 := by unfold Fl.rungOf; omega
    rw [← e'] at hw
    have hmag : mag (frW 6 neg n 53) < 9218868437227405312 ∧ mag (frW 6 neg n 53) ≠ 0 := by rw [e, hw.2.1]; exact ⟨r', hr0⟩
    refine ⟨by rw [e]; exact hw.1, decide_eq_false (by omega), ?_⟩
    rw [if_neg h0]
    unfold nwW
    rw [if_neg (by omega), if_neg hmag.2, e, s1, s2, hw.2.2]
    unfold Rn.word32
    rw [Rn.rung32_shift mode neg _ _ k f1]
    suffices key : Rn.rung32 mode neg (Rn.rnd 6 neg n (cutOf n 53)) (cutOf n 53 : Nat) = Rn.rung32 mode neg n 0 by rw [key]
    by_cases hc : 0 < cutOf n 53
    · obtain ⟨g1, g2, g3⟩ := f4 hc
      have hl52 : 52 ≤ (Rn.rnd 6 neg n (cutOf n 53)).log2 := (Nat.le_log2 f1).2 g1
      have hcut : cutOf n 53 = n.log2 - 52 := by unfold cutOf; omega
      have hL1 : Fs.lastOf (Rn.rnd 6 neg n (cutOf n 53)) (cutOf n 53 : Nat) = (cutOf n 53 + 29 : Nat) := by unfold Fs.lastOf; omega
      have hL2 : Fs.lastOf n 0 = (cutOf n 53 + 29 : Nat) := by unfold Fs.lastOf; omega
      unfold Rn.rung32 Rn.rungs
      rw [hL1, hL2, show (((cutOf n 53 : Nat) : Int) - (cutOf n 53 + 29 : Nat)).toNat = 0 by omega, show ((0 : Int) - (cutOf n 53 + 29 : Nat)).toNat = 0 by omega, Nat.pow_zero, Nat.mul_one, Nat.mul_one,
        show (((cutOf n 53 + 29 : Nat) : Int) - (cutOf n 53 : Nat)).toNat = 29 by omega, show (((cutOf n 53 + 29 : Nat) : Int) - 0).toNat = cutOf n 53 + 29 by omega, Rn.rnd_odd mode neg neg n (cutOf n 53) 29 (by decide)]
    · have hz : cutOf n 53 = 0 := by omega
      rw [hz, Rn.rnd_zero]; rfl

set_option maxHeartbeats 2000000 in
theorem odd_ok (n mode : Int) (x z : Nat) (a b c d o f g h i : Bool) (m0 : 1 ≤ mode) (m1 : mode ≤ 6)
    (H0 : Hid (∀ w, Tab w → Calls Tryd.prog 9 #[] w fun e w' => e = .returned (.bool true) ∧ Gr w w'))
    (H1 : Hid (∀ w, Tab w → Calls Tryd.prog 36 #[.int .i64 n, .int .i64 6] w fun ee w' => ee = .returned (.tuple #[.float .f64 x, .agg #[.bool a, .bool b, .bool c], .int .i64 0]) ∧ Gr w w'))
    (H2 : Hid (∀ w, Tab w → Calls Tryd.prog 20 #[.float .f64 x, .int .i64 mode] w fun ee w' => ee = .returned (.tuple #[.float .f32 z, .agg #[.bool d, .bool o, .bool f], .int .i64 0]) ∧ Gr w w'))
    (H3 : Hid (∀ w, Tab w → Calls Tryd.prog 40 #[.int .i64 n, .int .i64 mode] w fun ee w' => ee = .returned (.tuple #[.float .f32 z, .agg #[.bool g, .bool h, .bool i], .int .i64 0]) ∧ Gr w w'))
    (H4 : Hid (∀ w, Calls Tryd.prog 11 #[.float .f32 z, .int .u32 (z : Int)] w fun e w' => e = .returned (.bool true) ∧ w' = w))
    (w : World) (hT : Hid (Tab w)) :
    Calls Tryd.prog 8 #[.int .i64 n, .int .i64 mode] w fun e w' => e = .returned (.bool true) ∧ Gr w w' := by
  go_enter Tryd.func8, Tryd.ntmps8
  go_wp2_with fail
  refine (H0.out _ hT.out).mono ?_
  rintro e w1 ⟨rfl, hg1⟩
  have hG1 : Hid (Gr w w1) := hg1
  clear hg1
  go_wp2_with fail
  refine (H1.out _ (tab_gr hT.out hG1.out)).mono ?_
  rintro e w2 ⟨rfl, hg2⟩
  have hG2 : Hid (Gr w (w2.alloc (.cells #[.bool a, .bool b, .bool c] 36))) := (hG1.out.trans hg2).alloc _ _
  clear hg2 hG1
  go_wp2_with fail
  refine (H2.out _ (tab_gr hT.out hG2.out)).mono ?_
  rintro e w3 ⟨rfl, hg3⟩
  have hG3 : Hid (Gr w (w3.alloc (.cells #[.bool d, .bool o, .bool f] 36))) := (hG2.out.trans hg3).alloc _ _
  clear hg3 hG2
  go_wp2_with fail
  refine (H3.out _ (tab_gr hT.out hG3.out)).mono ?_
  rintro e w4 ⟨rfl, hg4⟩
  have hG4 : Hid (Gr w (w4.alloc (.cells #[.bool g, .bool h, .bool i] 36))) := (hG3.out.trans hg4).alloc _ _
  clear hg4 hG3
  go_wp2_with (first | (go_at_call 11; refine (H4.out _).mono ?_; rintro e w' ⟨rfl, rfl⟩))
  go_ret
  exact ⟨rfl, hG4.out⟩

set_option maxHeartbeats 2000000 in
theorem odd_no (n mode : Int) (x y z : Nat) (a b c d o f g h i : Bool) (m0 : mode < 1 ∨ 6 < mode)
    (H0 : Hid (∀ w, Tab w → Calls Tryd.prog 9 #[] w fun e w' => e = .returned (.bool true) ∧ Gr w w'))
    (H1 : Hid (∀ w, Tab w → Calls Tryd.prog 36 #[.int .i64 n, .int .i64 6] w fun ee w' => ee = .returned (.tuple #[.float .f64 x, .agg #[.bool a, .bool b, .bool c], .int .i64 0]) ∧ Gr w w'))
    (H2 : Hid (∀ w, Tab w → Calls Tryd.prog 20 #[.float .f64 x, .int .i64 mode] w fun ee w' => ee = .returned (.tuple #[.float .f32 y, .agg #[.bool d, .bool o, .bool f], .int .i64 1]) ∧ Gr w w'))
    (H3 : Hid (∀ w, Tab w → Calls Tryd.prog 40 #[.int .i64 n, .int .i64 mode] w fun ee w' => ee = .returned (.tuple #[.float .f32 z, .agg #[.bool g, .bool h, .bool i], .int .i64 1]) ∧ Gr w w'))
    (w : World) (hT : Hid (Tab w)) :
    Calls Tryd.prog 8 #[.int .i64 n, .int .i64 mode] w fun e w' => e = .returned (.bool true) ∧ Gr w w' := by
  rcases m0 with m0 | m0
  all_goals
    go_enter Tryd.func8, Tryd.ntmps8
    go_wp2_with fail
    refine (H0.out _ hT.out).mono ?_
    rintro e w1 ⟨rfl, hg1⟩
    have hG1 : Hid (Gr w w1) := hg1
    clear hg1
    go_wp2_with fail
    refine (H1.out _ (tab_gr hT.out hG1.out)).mono ?_
    rintro e w2 ⟨rfl, hg2⟩
    have hG2 : Hid (Gr w (w2.alloc (.cells #[.bool a, .bool b, .bool c] 36))) := (hG1.out.trans hg2).alloc _ _
    clear hg2 hG1
    go_wp2_with fail
    refine (H2.out _ (tab_gr hT.out hG2.out)).mono ?_
    rintro e w3 ⟨rfl, hg3⟩
    have hG3 : Hid (Gr w (w3.alloc (.cells #[.bool d, .bool o, .bool f] 36))) := (hG2.out.trans hg3).alloc _ _
    clear hg3 hG2
    go_wp2_with fail
    refine (H3.out _ (tab_gr hT.out hG3.out)).mono ?_
    rintro e w4 ⟨rfl, hg4⟩
    have hG4 : Hid (Gr w (w4.alloc (.cells #[.bool g, .bool h, .bool i] 36))) := (hG3.out.trans hg4).alloc _ _
    clear hg4 hG3
    go_wp2
    go_ret
    exact ⟨rfl, hG4.out⟩

theorem odd_walk (n mode : Int) (h0 : -9223372036854775808 ≤ n) (h1 : n ≤ 9223372036854775807) (_m0 : -9223372036854775808 ≤ mode) (_m1 : mode ≤ 9223372036854775807) (w : World) (hT : Tab w) :
    Calls Tryd.prog 8 #[.int .i64 n, .int .i64 mode] w fun e w' => e = .returned (.bool true) ∧ Gr w w' := by
  obtain ⟨t1, t2, t3⟩ := odd_twice mode (decide (n < 0)) n.natAbs (by omega)
  by_cases hm : okMode mode = true
  · have hm' := of_decide_eq_true hm
    refine odd_ok n mode _ (siW mode (decide (n < 0)) n.natAbs) _ _ _ (nwI mode (frW 6 (decide (n < 0)) n.natAbs 53)) (nwO mode (frW 6 (decide (n < 0)) n.natAbs 53)) (nwU mode (frW 6 (decide (n < 0)) n.natAbs 53)) _ _ _ hm'.1 hm'.2 (fun w hT => awake4_any w hT) (fun w hT => fromInt_any n 6 rfl h0 h1 w hT) (fun w hT => ?_) (fun w hT => singleInt_any n mode hm h0 h1 w hT) (fun w => has_yes _ _ rfl w) w hT
    have := narrow_any _ t1 mode hm t2 w hT
    rwa [t3] at this
  · have hm0 : okMode mode = false := by simpa using hm
    have hm' := of_decide_eq_false hm0
    exact odd_no n mode _ _ _ _ _ _ _ _ _ _ _ _ (by omega) (fun w hT => awake4_any w hT) (fun w hT => fromInt_any n 6 rfl h0 h1 w hT) (fun w hT => narrow_none _ mode hm0 w) (fun w hT => singleInt_bad n mode hm0 h0 h1 w hT) w hT
end Go.Proofs.YtckjmcfncfoboaaDoor
