/- SingleBack's walk. -/
import Derived.Test.YtckjmcfncfoboabDoorLb
namespace Go.Proofs.YtckjmcfncfoboabDoor
open Go.RowKit
open Ieee

set_option maxHeartbeats 4000000 in
set_option maxRecDepth 20000 in
theorem back_core (b n a mode N r s : Int) (y x xw u v : Nat) (V : Bool) (m0 : 1 ≤ mode) (m1 : mode ≤ 6) (hrs : ((r != 0) = true ∨ ((r == 0) = true ∧ (r != 0) = false ∧ (s == 0) = true ∧ V = true)))
    (hN : Hid (n.tmod 9007199254740993 = N))
    (H0 : Hid (∀ w, Tab w → Calls Tryd.prog 5 #[] w fun e w' => e = .returned (.bool true) ∧ Gr w w'))
    (H1 : Hid (∀ w, Calls Tryd.prog 6 #[.float .f32 b.toNat] w fun e w' => e = .returned (.float .f32 y) ∧ w' = w))
    (H2 : Hid (∀ w, Calls Tryd.prog 9 #[.float .f32 y] w fun e w' => e = .returned (.float .f64 x) ∧ ∃ d, w' = w.drewN d))
    (H3 : Hid (∀ w, Tab w → Calls Tryd.prog 8 #[.float .f64 x, .int .i64 mode] w fun ee w' => ee = .returned (.tuple #[.float .f32 y, .agg #[.bool false, .bool false, .bool false], .int .i64 0]) ∧ Gr w w'))
    (H4 : Hid (∀ w, Calls Tryd.prog 10 #[.float .f32 y, .int .u32 (y : Int)] w fun e w' => e = .returned (.bool true) ∧ w' = w))
    (H5 : Hid (∀ w, Tab w → Calls Tryd.prog 12 #[.int .i64 N, .int .i64 mode] w fun ee w' => ee = .returned (.tuple #[.float .f64 xw, .agg #[.bool false, .bool false, .bool false], .int .i64 0]) ∧ Gr w w'))
    (H6 : Hid (∀ w, Tab w → Calls Tryd.prog 13 #[.float .f64 xw, .int .i64 mode] w fun ee w' => ee = .returned (.tuple #[.int .i64 N, .int .i64 0]) ∧ ∃ d, w' = w.drewN d))
    (H7 : Hid (∀ w, Tab w → Calls Tryd.prog 14 #[.float .f64 a.toNat, .int .i64 mode] w fun ee w' => ee = .returned (.tuple #[.float .f64 u, .int .i64 r]) ∧ ∃ d, w' = w.drewN d))
    (H8 : Hid (∀ w, Tab w → Calls Tryd.prog 14 #[.float .f64 u, .int .i64 mode] w fun ee w' => ee = .returned (.tuple #[.float .f64 v, .int .i64 s]) ∧ ∃ d, w' = w.drewN d))
    (H9 : Hid (∀ w, Calls Tryd.prog 16 #[.float .f64 v, .int .u64 (u : Int)] w fun e w' => e = .returned (.bool V) ∧ w' = w))
    (w : World) (hT : Hid (Tab w)) :
    Calls Tryd.prog 3 #[.int .u32 b, .int .i64 n, .int .u64 a, .int .i64 mode] w fun e w' => e = .returned (.bool true) ∧ Gr w w' := by
  rcases hrs with hr | ⟨hr0, hr, hs, rfl⟩
  all_goals
    go_enter Tryd.func3, Tryd.ntmps3
    go_wp2_with fail
    refine (H0.out _ hT.out).mono ?_
    rintro e w1 ⟨rfl, hg1⟩
    have hG1 : Hid (Gr w w1) := hg1
    clear hg1
    go_wp2_with fail
    refine (H1.out _).mono ?_
    rintro e w' ⟨rfl, rfl⟩
    go_wp2_with fail
    refine (H2.out _).mono ?_
    rintro e w' ⟨rfl, d1, rfl⟩
    go_wp2_with fail
    refine (H3.out _ (tab_gr hT.out (hG1.out.drewN d1))).mono ?_
    rintro e w2 ⟨rfl, hg2⟩
    have hG2 : Hid (Gr w (w2.alloc (.cells #[.bool false, .bool false, .bool false] 29))) := ((hG1.out.drewN d1).trans hg2).alloc _ _
    clear hg2 hG1
    go_wp2_with (first | (simp only [hN.out]) | (go_at_call 10; refine (H4.out _).mono ?_; rintro e w' ⟨rfl, rfl⟩))
    refine (H5.out _ (tab_gr hT.out hG2.out)).mono ?_
    rintro e w3 ⟨rfl, hg3⟩
    have hG3 : Hid (Gr w (w3.alloc (.cells #[.bool false, .bool false, .bool false] 29))) := (hG2.out.trans hg3).alloc _ _
    clear hg3 hG2
    go_wp2_with fail
    refine (H6.out _ (tab_gr hT.out hG3.out)).mono ?_
    rintro e w' ⟨rfl, _, rfl⟩
    go_wp2_with fail
    refine (H7.out _ (tab_gr hT.out (hG3.out.drewN _))).mono ?_
    rintro e w' ⟨rfl, _, rfl⟩
    go_wp2_with fail
    refine (H8.out _ (tab_gr hT.out (hG3.out.drewN _))).mono ?_
    rintro e w' ⟨rfl, _, rfl⟩
    go_wp2_with (first | (go_at_call 16; refine (H9.out _).mono ?_; rintro e w' ⟨rfl, rfl⟩))
    go_ret
    exact ⟨rfl, hG3.out.drewN _⟩

set_option maxHeartbeats 1000000 in
theorem back_no (b n a mode : Int) (y : Nat) (m0 : mode < 1 ∨ 6 < mode)
    (H0 : Hid (∀ w, Tab w → Calls Tryd.prog 5 #[] w fun e w' => e = .returned (.bool true) ∧ Gr w w'))
    (H1 : Hid (∀ w, Calls Tryd.prog 6 #[.float .f32 b.toNat] w fun e w' => e = .returned (.float .f32 y) ∧ w' = w))
    (w : World) (hT : Hid (Tab w)) :
    Calls Tryd.prog 3 #[.int .u32 b, .int .i64 n, .int .u64 a, .int .i64 mode] w fun e w' => e = .returned (.bool true) ∧ Gr w w' := by
  rcases m0 with m0 | m0
  all_goals
    go_enter Tryd.func3, Tryd.ntmps3
    go_wp2_with fail
    refine (H0.out _ hT.out).mono ?_
    rintro e w1 ⟨rfl, hg1⟩
    have hG1 : Hid (Gr w w1) := hg1
    clear hg1
    go_wp2_with fail
    refine (H1.out _).mono ?_
    rintro e w' ⟨rfl, rfl⟩
    go_wp2
    go_ret
    exact ⟨rfl, hG1.out⟩

theorem back_walk (b n a mode : Int) (b0 : 0 ≤ b) (b1 : Hid (b < 4294967296)) (_n0 : -9223372036854775808 ≤ n) (_n1 : n ≤ 9223372036854775807) (a0 : 0 ≤ a) (a1 : Hid (a < 18446744073709551616)) (_m0 : -9223372036854775808 ≤ mode) (_m1 : mode ≤ 9223372036854775807) (w : World) (hT : Tab w) :
    Calls Tryd.prog 3 #[.int .u32 b, .int .i64 n, .int .u64 a, .int .i64 mode] w fun e w' => e = .returned (.bool true) ∧ Gr w w' := by
  have hb : b.toNat < 4294967296 := by have := b1.out; omega
  have ha : a.toNat < 18446744073709551616 := by have := a1.out; omega
  have h1 := fun w => one32_any b.toNat hb w
  by_cases hm : okMode mode = true
  · have hm' := of_decide_eq_true hm
    -- the single
    obtain ⟨x, k2, k3⟩ : ∃ x, (∀ w, Calls Tryd.prog 9 #[.float .f32 (one32 b.toNat)] w fun e w' => e = .returned (.float .f64 x) ∧ ∃ d, w' = w.drewN d) ∧
        (∀ w, Tab w → Calls Tryd.prog 8 #[.float .f64 x, .int .i64 mode] w fun ee w' => ee = .returned (.tuple #[.float .f32 (one32 b.toNat), .agg #[.bool false, .bool false, .bool false], .int .i64 0]) ∧ Gr w w') := by
      by_cases hn : isN32 b.toNat = true
      · have e : one32 b.toNat = 2143289344 := by unfold one32; rw [if_pos (of_decide_eq_true hn)]
        rw [e]
        exact ⟨9221120237041090560, fun w => widen_nan 2143289344 (by decide) (by decide +kernel) w, fun w _ => narrow_nan 9221120237041090560 (by unfold Hid; decide) mode hm (by decide +kernel) w⟩
      · have hle : mag32 b.toNat ≤ 2139095040 := by
          unfold isN32 at hn; rw [decide_eq_true_eq] at hn; omega
        have e : one32 b.toNat = single.word (sgb32 b.toNat) (mag32 b.toNat) := by
          rw [word_mag32 _ hb]; unfold one32; rw [if_neg (by omega)]
        rw [e]
        obtain ⟨q1, q2, q3, q4⟩ := back_single mode (sgb32 b.toNat) (mag32 b.toNat) hle
        obtain ⟨v1, v2⟩ := wd_word (sgb32 b.toNat) (mag32 b.toNat) hle
        refine ⟨wdW (sgb32 b.toNat) (mag32 b.toNat), fun w => (widen_any _ _ hle w).mono fun _ _ h => ⟨h.1, 0, h.2⟩, fun w hT => ?_⟩
        have := narrow_any _ v1 mode hm v2 w hT
        rwa [q1, q2, q3, q4] at this
    -- the whole number
    obtain ⟨N, hN⟩ : ∃ N, n.tmod 9007199254740993 = N := ⟨_, rfl⟩
    have hNb : -9007199254740992 ≤ N ∧ N ≤ 9007199254740992 := by
      rw [← hN]
      have t1 := Int.tmod_lt_of_pos n (show (0 : Int) < 9007199254740993 by decide)
      have t2 := Int.lt_tmod_of_pos n (show (0 : Int) < 9007199254740993 by decide)
      omega
    obtain ⟨g1, g2, g3, g4, g5⟩ := back_int mode (decide (N < 0)) N.natAbs (by omega)
    have hv : tiV mode (frW mode (decide (N < 0)) N.natAbs 53) = N := by
      rw [tiV_eq, g4]
      by_cases z : N.natAbs = 0
      · have : N = 0 := by omega
        rw [this]; simp
      · rw [g5 z]
        by_cases c : N < 0
        · rw [decide_eq_true c, if_pos rfl]; omega
        · rw [decide_eq_false c, if_neg Bool.false_ne_true]; omega
    have hok : tiOk mode (frW mode (decide (N < 0)) N.natAbs 53) = true := by unfold tiOk; rw [hv]; exact decide_eq_true (by omega)
    have k5 : ∀ w, Tab w → Calls Tryd.prog 12 #[.int .i64 N, .int .i64 mode] w fun ee w' => ee = .returned (.tuple #[.float .f64 (frW mode (decide (N < 0)) N.natAbs 53), .agg #[.bool false, .bool false, .bool false], .int .i64 0]) ∧ Gr w w' := fun w hT => by
      have := fromInt_any N mode hm (by omega) (by omega) w hT
      rwa [g1] at this
    have k6 : ∀ w, Tab w → Calls Tryd.prog 13 #[.float .f64 (frW mode (decide (N < 0)) N.natAbs 53), .int .i64 mode] w fun ee w' => ee = .returned (.tuple #[.int .i64 N, .int .i64 0]) ∧ ∃ d, w' = w.drewN d := fun w hT => by
      have := toInt_any _ g2 mode hm g3 w hT
      rwa [hok, if_pos rfl, if_pos rfl, hv] at this
    have k4 := fun w => has_yes (one32 b.toNat) _ rfl w
    -- Whole of Whole
    by_cases hn : isN a.toNat = true
    · have f0 : mag 0 < 9218868437227405312 := by decide
      exact back_core b n a mode N 10 0 _ x _ 0 _ _ hm'.1 hm'.2 (Or.inl rfl) hN (fun w hT => awake4_any w hT) h1 k2 k3 k4 k5 k6 (fun w _ => whole_isnan a.toNat ha mode hm hn w) (fun w hT => whole_any 0 (by unfold Hid; decide) mode hm f0 w hT) (fun w => is4_any _ _ w) w hT
    · have hle : mag a.toNat ≤ 9218868437227405312 := by
        have := isN_not (show isN a.toNat = false by simpa using hn)
        omega
      by_cases hi : mag a.toNat = 9218868437227405312
      · exact back_core b n a mode N 0 0 _ x _ a.toNat a.toNat true hm'.1 hm'.2 (Or.inr ⟨rfl, rfl, rfl, rfl⟩) hN (fun w hT => awake4_any w hT) h1 k2 k3 k4 k5 k6 (fun w _ => whole_isinf a.toNat ha mode hm hi w) (fun w _ => whole_isinf a.toNat ha mode hm hi w) (fun w => is4_yes _ _ rfl w) w hT
      · obtain ⟨p1, p2, p3⟩ := back_whole mode a.toNat (by omega)
        refine back_core b n a mode N 0 0 _ x _ (whW mode a.toNat) (whW mode a.toNat) true hm'.1 hm'.2 (Or.inr ⟨rfl, rfl, rfl, rfl⟩) hN (fun w hT => awake4_any w hT) h1 k2 k3 k4 k5 k6 (fun w hT => whole_any a.toNat ha mode hm (by omega) w hT) (fun w hT => ?_) (fun w => is4_yes _ _ rfl w) w hT
        have := whole_any (whW mode a.toNat) p1 mode hm p2 w hT
        rwa [p3] at this
  · have hm0 : okMode mode = false := by simpa using hm
    have hm' := of_decide_eq_false hm0
    exact back_no b n a mode _ (by omega) (fun w hT => awake4_any w hT) h1 w hT
end Go.Proofs.YtckjmcfncfoboabDoor
