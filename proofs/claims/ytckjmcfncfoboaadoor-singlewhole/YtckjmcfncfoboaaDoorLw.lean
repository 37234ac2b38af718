/- SingleWhole: any number to a whole one, by any mode: the code's answers are the document's. -/
import Derived.Test.YtckjmcfncfoboaaDoorRy
namespace Go.Proofs.YtckjmcfncfoboaaDoor
open Go.RowKit
open Ieee

set_option maxHeartbeats 4000000 in
theorem whole_core (a mode e n f u h : Int) (y : Nat)
    (H0 : Hid (∀ w, Tab w → Calls Tryd.prog 9 #[] w fun e w' => e = .returned (.bool true) ∧ Gr w w'))
    (H1 : Hid (∀ w, Tab w → Calls Tryd.prog 30 #[.float .f64 a.toNat, .int .i64 mode] w fun ee w' => ee = .returned (.tuple #[.float .f64 y, .int .i64 e]) ∧ ∃ d, w' = w.drewN d))
    (H2 : Hid (∀ w, Calls Tryd.prog 31 #[.int .u64 a, .int .i64 mode] w fun ee w' => ee = .returned (.tuple #[.int .u64 (y : Int), .int .i64 e]) ∧ w' = w))
    (H3 : Hid (∀ w, Tab w → Calls Tryd.prog 32 #[.float .f64 a.toNat, .int .i64 mode] w fun ee w' => ee = .returned (.tuple #[.int .i64 n, .int .i64 f]) ∧ ∃ d, w' = w.drewN d))
    (H4 : Hid (∀ w, Calls Tryd.prog 33 #[.int .u64 a, .int .i64 mode] w fun ee w' => ee = .returned (.tuple #[.int .i64 n, .int .i64 f]) ∧ ∃ d, w' = w.drewN d))
    (H5 : Hid (∀ w, Tab w → Calls Tryd.prog 34 #[.float .f64 a.toNat, .int .i64 mode] w fun ee w' => ee = .returned (.tuple #[.int .u64 u, .int .i64 h]) ∧ ∃ d, w' = w.drewN d))
    (H6 : Hid (∀ w, Calls Tryd.prog 35 #[.int .u64 a, .int .i64 mode] w fun ee w' => ee = .returned (.tuple #[.int .u64 u, .int .i64 h]) ∧ ∃ d, w' = w.drewN d))
    (H7 : Hid (∀ w, Calls Tryd.prog 15 #[.float .f64 y, .int .u64 (y : Int)] w fun e w' => e = .returned (.bool true) ∧ w' = w))
    (w : World) (hT : Hid (Tab w)) :
    Calls Tryd.prog 6 #[.int .u64 a, .int .i64 mode] w fun e w' => e = .returned (.bool true) ∧ Gr w w' := by
  go_enter Tryd.func6, Tryd.ntmps6
  go_wp2_with fail
  refine (H0.out _ hT.out).mono ?_
  rintro e w1 ⟨rfl, hg1⟩
  have hG1 : Hid (Gr w w1) := hg1
  clear hg1
  go_wp2_with fail
  refine (H1.out _ (tab_gr hT.out hG1.out)).mono ?_
  rintro e w' ⟨rfl, _, rfl⟩
  go_wp2_with fail
  refine (H2.out _).mono ?_
  rintro e w' ⟨rfl, rfl⟩
  go_wp2_with fail
  refine (H3.out _ (tab_gr hT.out (hG1.out.drewN _))).mono ?_
  rintro e w' ⟨rfl, _, rfl⟩
  go_wp2_with fail
  refine (H4.out _).mono ?_
  rintro e w' ⟨rfl, _, rfl⟩
  go_wp2_with fail
  refine (H5.out _ (tab_gr hT.out (hG1.out.drewN _))).mono ?_
  rintro e w' ⟨rfl, _, rfl⟩
  go_wp2_with fail
  refine (H6.out _).mono ?_
  rintro e w' ⟨rfl, _, rfl⟩
  go_wp2_with (first | (go_at_call 15; refine (H7.out _).mono ?_; rintro e w' ⟨rfl, rfl⟩))
  go_ret
  exact ⟨rfl, hG1.out.drewN _⟩

theorem whole_walk (a mode : Int) (a0 : 0 ≤ a) (a1 : Hid (a < 18446744073709551616)) (_m0 : -9223372036854775808 ≤ mode) (_m1 : mode ≤ 9223372036854775807) (w : World) (hT : Tab w) :
    Calls Tryd.prog 6 #[.int .u64 a, .int .i64 mode] w fun e w' => e = .returned (.bool true) ∧ Gr w w' := by
  have hb : Hid (a.toNat < 18446744073709551616) := by have := a1.out; unfold Hid; omega
  have k0 : ∀ w, Tab w → Calls Tryd.prog 9 #[] w fun e w' => e = .returned (.bool true) ∧ Gr w w' := fun w hT => awake4_any w hT
  have k7 : ∀ (y : Nat) w, Calls Tryd.prog 15 #[.float .f64 y, .int .u64 (y : Int)] w fun e w' => e = .returned (.bool true) ∧ w' = w := fun y w => is4_yes y _ rfl w
  have hz := andNot63I a a0 a1.out
  have rm : ∀ w, Calls Tryd.prog 53 #[.int .i64 mode] w fun e w' => e = .returned (.bool (okMode mode)) ∧ w' = w := fun w => rmode_any mode w
  have rn : ∀ w, Calls Tryd.prog 54 #[.int .u64 a] w fun e w' => e = .returned (.bool (isN a.toNat)) ∧ w' = w := fun w => isnan_any a a0 a1 w
  have rs : ∀ w, Calls Tryd.prog 55 #[.int .u64 a] w fun e w' => e = .returned (.tuple #[.bool (spN a.toNat), .int .u64 (spMz a.toNat), .int .i64 (spE a.toNat), .int .i64 (spR a.toNat)]) ∧ w' = w := fun w => rsplit_any a a0 a1 w
  obtain ⟨X, hX⟩ : ∃ X, (magZ a.toNat == 9218868437227405312) = X := ⟨_, rfl⟩
  -- the three ways on which there is no number to be rounded
  have hbadW : ∀ (y T : Int), (okMode mode = false ∨ isN a.toNat = true ∨ X = true) → (y = if okMode mode = false then 0 else if isN a.toNat = true then 0 else a) → (T = if okMode mode = false then 1 else if isN a.toNat = true then 10 else 0) →
      ∀ w, Calls Tryd.prog 31 #[.int .u64 a, .int .i64 mode] w fun ee w' => ee = .returned (.tuple #[.int .u64 y, .int .i64 T]) ∧ w' = w := by
    intro y T hh hy hT w
    refine rWhole_core a mode _ _ 0 0 0 _ _ 0 _ _ X _ hz hX y T rm rn rs ?_ ?_ ?_ ?_ w
    · intro c1 c2 c3; rcases hh with h | h | h
      · rw [c1] at h; cases h
      · rw [c2] at h; cases h
      · rw [c3] at h; cases h
    · intro c1 c2 c3; rcases hh with h | h | h
      · rw [c1] at h; cases h
      · rw [c2] at h; cases h
      · rw [c3] at h; cases h
    · show y = _
      rw [hy]
      by_cases c1 : okMode mode = false
      · rw [if_pos c1, if_pos c1]
      · rw [if_neg c1, if_neg c1]
        by_cases c2 : isN a.toNat = true
        · rw [if_pos c2, if_pos c2]
        · rw [if_neg c2, if_neg c2, if_pos (by rcases hh with h | h | h; exact absurd h c1; exact absurd h c2; exact h)]
    · exact hT
  have hbadM : ∀ (T : Int), (okMode mode = false ∨ isN a.toNat = true ∨ X = true) → (T = if okMode mode = false then 1 else if isN a.toNat = true then 10 else 11) →
      ∀ w, Calls Tryd.prog 68 #[.int .u64 a, .int .i64 mode] w fun ee w' => ee = .returned (.tuple #[.bool false, .int .u64 0, .int .i64 T]) ∧ ∃ d, w' = w.drewN d := by
    intro T hh hT w
    have hno : ¬ (okMode mode = true ∧ isN a.toNat = false ∧ X = false ∧ ¬ ((11 : Int) < 0 ∧ (0 : Int) < 0)) := by
      rintro ⟨c1, c2, c3, _⟩
      rcases hh with h | h | h
      · rw [c1] at h; cases h
      · rw [c2] at h; cases h
      · rw [c3] at h; cases h
    refine rmag_core a mode _ _ 0 0 0 _ _ _ _ X _ hz hX (by decide) (by decide) (by decide) (by decide) (fun _ => rfl) (fun _ => rfl) false 0 T rm rn rs ?_ ?_ ?_ ?_ w
    · intro c1 c2 c3; rcases hh with h | h | h
      · rw [c1] at h; cases h
      · rw [c2] at h; cases h
      · rw [c3] at h; cases h
    · show false = _
      rw [if_neg hno]
    · show (0 : Int) = _
      rw [if_neg hno]
    · show T = _
      rw [hT]
      by_cases c1 : okMode mode = false
      · rw [if_pos c1, if_pos c1]
      · rw [if_neg c1, if_neg c1]
        by_cases c2 : isN a.toNat = true
        · rw [if_pos c2, if_pos c2]
        · rw [if_neg c2, if_neg c2, if_pos (by rcases hh with h | h | h; exact absurd h c1; exact absurd h c2; exact h)]
  by_cases hm : okMode mode = true
  · by_cases hn : isN a.toNat = true
    · have c : okMode mode = false ∨ isN a.toNat = true ∨ X = true := Or.inr (Or.inl hn)
      have e1 : ¬ okMode mode = false := by rw [hm]; decide
      have m1 := hbadM 10 c (by rw [if_neg e1, if_pos hn])
      refine whole_core a mode 10 0 10 0 10 0 k0 (fun w _ => whole_isnan _ hb mode hm hn w) (hbadW 0 10 c (by rw [if_neg e1, if_pos hn]) (by rw [if_neg e1, if_pos hn])) (fun w hT => toInt_err _ _ mode 10 rfl (fun w _ => whole_isnan _ hb mode hm hn w) w hT) (fun w => rToInt_core a mode 0 10 _ _ false (by decide) (by decide) m1 (Or.inl ⟨rfl, rfl, rfl⟩) w) (fun w hT => toUint_err _ _ mode 10 rfl (fun w _ => whole_isnan _ hb mode hm hn w) w hT) (fun w => rToUint_core a mode 0 10 _ _ false m1 (Or.inr ⟨Or.inl rfl, rfl, rfl⟩) w) (k7 0) w hT
    · have hn0 : isN a.toNat = false := by simpa using hn
      have hle := isN_not hn0
      by_cases hi : mag a.toNat = 9218868437227405312
      · have hX1 : X = true := by rw [← hX]; unfold magZ; rw [hi]; rfl
        have c : okMode mode = false ∨ isN a.toNat = true ∨ X = true := Or.inr (Or.inr hX1)
        have e1 : ¬ okMode mode = false := by rw [hm]; decide
        have m1 := hbadM 11 c (by rw [if_neg e1, if_neg hn])
        have ha : ((a.toNat : Nat) : Int) = a := by omega
        have w1 : ∀ w, Calls Tryd.prog 31 #[.int .u64 a, .int .i64 mode] w fun ee w' => ee = .returned (.tuple #[.int .u64 ((a.toNat : Nat) : Int), .int .i64 0]) ∧ w' = w := by
          rw [ha]
          exact hbadW a 0 c (by rw [if_neg e1, if_neg hn]) (by rw [if_neg e1, if_neg hn])
        -- the code's: an infinity is beyond
        have hw := word_mag a.toNat hb.out
        have o1 := Fl.order_words (sgb a.toNat) true (mag a.toNat) 4890909195324358656 (by omega) (by decide)
        have o2 := Fl.order_words (sgb a.toNat) false (mag a.toNat) 4890909195324358656 (by omega) (by decide)
        have o3 := Fl.order_words (sgb a.toNat) false (mag a.toNat) 0 (by omega) (by decide)
        have o4 := Fl.order_words (sgb a.toNat) false (mag a.toNat) 4895412794951729152 (by omega) (by decide)
        rw [hw, show double.word true 4890909195324358656 = 14114281232179134464 from rfl] at o1
        rw [hw, show double.word false 4890909195324358656 = 4890909195324358656 from rfl] at o2
        rw [hw, show double.word false 0 = 0 from rfl] at o3
        rw [hw, show double.word false 4895412794951729152 = 4895412794951729152 from rfl] at o4
        have far1 : Fl.ordW (sgb a.toNat) true (mag a.toNat) 4890909195324358656 = .lt ∨ Fl.ordW (sgb a.toNat) false (mag a.toNat) 4890909195324358656 = .gt ∨ Fl.ordW (sgb a.toNat) false (mag a.toNat) 4890909195324358656 = .eq := by
          rw [hi]; cases sgb a.toNat <;> decide
        have far2 : Fl.ordW (sgb a.toNat) false (mag a.toNat) 0 = .lt ∨ Fl.ordW (sgb a.toNat) false (mag a.toNat) 4895412794951729152 = .gt ∨ Fl.ordW (sgb a.toNat) false (mag a.toNat) 4895412794951729152 = .eq := by
          rw [hi]; cases sgb a.toNat <;> decide
        exact whole_core a mode 0 0 11 0 11 a.toNat k0 (fun w _ => whole_isinf _ hb mode hm hi w) w1 (fun w hT => toInt_far _ _ mode _ _ far1 o1 o2 (fun w _ => whole_isinf _ hb mode hm hi w) w hT) (fun w => rToInt_core a mode 0 11 _ _ false (by decide) (by decide) m1 (Or.inl ⟨rfl, rfl, rfl⟩) w) (fun w hT => toUint_far _ _ mode _ _ far2 o3 o4 (fun w _ => whole_isinf _ hb mode hm hi w) w hT) (fun w => rToUint_core a mode 0 11 _ _ false m1 (Or.inr ⟨Or.inl rfl, rfl, rfl⟩) w) (k7 a.toNat) w hT
      · -- a finite number
        have hf : mag a.toNat < 9218868437227405312 := by omega
        have hX0 : X = false := by rw [← hX, beq_eq_false_iff_ne]; unfold magZ; omega
        obtain ⟨s1, s2, s3, s4, s5⟩ := spF a.toNat hf
        obtain ⟨f1, f2, f3⟩ := wh_facts mode a.toNat hf
        rw [s4] at rs
        have hwh : ∀ w, Calls Tryd.prog 67 #[.bool (sgb a.toNat), .int .u64 (spMz a.toNat), .int .i64 (spE a.toNat), .int .i64 mode] w fun e w' => e = .returned (.tuple #[.int .u64 (whM mode a.toNat : Int), .int .i64 (whL a.toNat : Int)]) ∧ w' = w := fun w =>
          rwhole_any (sgb a.toNat) (spM a.toNat) (spE a.toNat) mode s1 s2 s3 w
        have hj : joinW (sgb a.toNat) (whM mode a.toNat : Int) (whL a.toNat : Int) = whW mode a.toNat ∧ joinR (whM mode a.toNat : Int) (whL a.toNat : Int) = 0 := by
          unfold whW
          by_cases c : whM mode a.toNat = 0
          · rw [if_pos c, c]; exact join_nought _ _
          · rw [if_neg c]; exact join_ok _ _ _ c (by omega) (by omega) (by omega)
        have hjr : ∀ w, Calls Tryd.prog 46 #[.bool (sgb a.toNat), .int .u64 (whM mode a.toNat : Int), .int .i64 (whL a.toNat : Int)] w fun e w' => e = .returned (.tuple #[.int .u64 (whW mode a.toNat : Int), .int .i64 0]) ∧ w' = w := fun w => by
          have := rjoin_any (sgb a.toNat) (whM mode a.toNat) (whL a.toNat) (by omega) (by omega) w
          rwa [hj.1, hj.2] at this
        have e1 : ¬ okMode mode = false := by rw [hm]; decide
        have e2 : ¬ X = true := by rw [hX0]; decide
        have hW : ∀ w, Calls Tryd.prog 31 #[.int .u64 a, .int .i64 mode] w fun ee w' => ee = .returned (.tuple #[.int .u64 (whW mode a.toNat : Int), .int .i64 0]) ∧ w' = w := fun w => by
          refine rWhole_core a mode _ _ _ _ _ _ _ _ _ _ X _ hz hX _ _ rm rn rs (fun _ _ _ => hwh) (fun _ _ _ => hjr) ?_ ?_ w
          · show (whW mode a.toNat : Int) = _
            rw [if_neg e1, if_neg hn, if_neg e2]
          · show (0 : Int) = _
            rw [if_neg e1, if_neg hn]
        -- the magnitude
        have hp : 0 < 2 ^ whL a.toNat := Nat.two_pow_pos _
        have hVd : whV mode a.toNat = whM mode a.toNat * 2 ^ whL a.toNat := rfl
        have hbig : 11 < whL a.toNat → 0 < whM mode a.toNat → 18446744073709551616 ≤ whV mode a.toNat := by
          intro c1 c2
          have hE : 11 < spE a.toNat := by unfold whL at c1; omega
          have hne : mag a.toNat ≠ 0 := fun c => by
            have := (spl_0 a.toNat c).2.2.1; omega
          obtain ⟨_, _, _, _, g5, _, _⟩ := spM_facts a.toNat hf hne
          have hM : whM mode a.toNat = spM a.toNat := by unfold whM; rw [show (-(spE a.toNat)).toNat = 0 by omega, Rn.rnd_zero]
          have h52 : 4503599627370496 ≤ whM mode a.toNat := by omega
          have h12 : 2 ^ 12 ≤ 2 ^ whL a.toNat := Nat.pow_le_pow_right (by decide) (by omega)
          have := Nat.mul_le_mul h52 h12
          rw [hVd]; omega
        have hsmall : whL a.toNat ≤ 11 → whV mode a.toNat < 18446744073709551616 := by
          intro c1
          have h11 : 2 ^ whL a.toNat ≤ 2 ^ 11 := Nat.pow_le_pow_right (by decide) c1
          have : whM mode a.toNat * 2 ^ whL a.toNat ≤ 9007199254740991 * 2 ^ 11 := Nat.mul_le_mul (by omega) h11
          rw [hVd]; omega
        have hwrap : (whL a.toNat : Int) ≤ 11 → IntKind.u64.wrap ((whM mode a.toNat : Int) * 2 ^ ((whL a.toNat : Int)).toNat) = (whV mode a.toNat : Int) := by
          intro c1
          have := hsmall (by omega)
          have e : (whM mode a.toNat : Int) * 2 ^ ((whL a.toNat : Int)).toNat = (whV mode a.toNat : Int) := by
            rw [Int.toNat_natCast, hVd, Int.natCast_mul, Int.natCast_pow]; rfl
          rw [e, IntKind.wrap_u64]; omega
        have hzero : (whM mode a.toNat : Int) = 0 → (whV mode a.toNat : Int) = 0 := by
          intro c
          have : whM mode a.toNat = 0 := by omega
          rw [hVd, this, Nat.zero_mul]; rfl
        have hti := tiV_eq mode a.toNat
        by_cases hov : (11 : Int) < (whL a.toNat : Int) ∧ (0 : Int) < (whM mode a.toNat : Int)
        · have hV := hbig (by omega) (by omega)
          have m1 : ∀ w, Calls Tryd.prog 68 #[.int .u64 a, .int .i64 mode] w fun ee w' => ee = .returned (.tuple #[.bool false, .int .u64 0, .int .i64 11]) ∧ ∃ d, w' = w.drewN d := fun w => by
            refine rmag_core a mode _ _ _ _ (whV mode a.toNat) _ _ _ _ X _ hz hX (Int.natCast_nonneg _) (by omega) (by omega) (by omega) hwrap hzero _ _ _ rm rn rs (fun _ _ _ => hwh) ?_ ?_ ?_ w
            · show false = _
              rw [if_neg (fun c => c.2.2.2 hov)]
            · show (0 : Int) = _
              rw [if_neg (fun c => c.2.2.2 hov)]
            · show (11 : Int) = _
              rw [if_neg e1, if_neg hn, if_neg e2, if_pos hov]
          have hk1 : tiOk mode a.toNat = false := by
            unfold tiOk; refine decide_eq_false ?_
            rw [hti]; split <;> omega
          have hk2 : tuOk mode a.toNat = false := by
            unfold tuOk; refine decide_eq_false ?_
            rw [hti]; split <;> omega
          refine whole_core a mode 0 0 11 0 11 (whW mode a.toNat) k0 (fun w hT => whole_any _ hb mode hm hf w hT) hW (fun w hT => ?_) (fun w => rToInt_core a mode 0 11 _ _ false (by decide) (by decide) m1 (Or.inl ⟨rfl, rfl, rfl⟩) w) (fun w hT => ?_) (fun w => rToUint_core a mode 0 11 _ _ false m1 (Or.inr ⟨Or.inl rfl, rfl, rfl⟩) w) (k7 _) w hT
          · have := toInt_any _ hb mode hm hf w hT
            rwa [hk1, if_neg Bool.false_ne_true, if_neg Bool.false_ne_true] at this
          · have := toUint_any _ hb mode hm hf w hT
            rwa [hk2, if_neg Bool.false_ne_true, if_neg Bool.false_ne_true] at this
        · have hV : whV mode a.toNat < 18446744073709551616 := by
            by_cases c : whL a.toNat ≤ 11
            · exact hsmall c
            · have := hzero (by omega); omega
          have m1 : ∀ w, Calls Tryd.prog 68 #[.int .u64 a, .int .i64 mode] w fun ee w' => ee = .returned (.tuple #[.bool (sgb a.toNat), .int .u64 (whV mode a.toNat : Int), .int .i64 0]) ∧ ∃ d, w' = w.drewN d := fun w => by
            refine rmag_core a mode _ _ _ _ (whV mode a.toNat) _ _ _ _ X _ hz hX (Int.natCast_nonneg _) (by omega) (by omega) (by omega) hwrap hzero _ _ _ rm rn rs (fun _ _ _ => hwh) ?_ ?_ ?_ w
            · show sgb a.toNat = _
              rw [if_pos ⟨hm, hn0, hX0, hov⟩]
            · show (whV mode a.toNat : Int) = _
              rw [if_pos ⟨hm, hn0, hX0, hov⟩]
            · show (0 : Int) = _
              rw [if_neg e1, if_neg hn, if_neg e2, if_neg hov]
          refine whole_core a mode 0 _ _ _ _ (whW mode a.toNat) k0 (fun w hT => whole_any _ hb mode hm hf w hT) hW (fun w hT => toInt_any _ hb mode hm hf w hT) (fun w => rToInt_core a mode _ 0 _ _ _ (Int.natCast_nonneg _) (by omega) m1 (Or.inr ⟨rfl, ?_⟩) w) (fun w hT => toUint_any _ hb mode hm hf w hT) (fun w => rToUint_core a mode _ 0 _ _ _ m1 ?_ w) (k7 _) w hT
          · unfold tiOk
            rw [hti]
            cases hs : sgb a.toNat
            · simp only [Bool.false_eq_true, if_false]
              by_cases c : whV mode a.toNat < 9223372036854775808
              · right; right; right
                rw [decide_eq_true (show -9223372036854775808 ≤ (whV mode a.toNat : Int) ∧ (whV mode a.toNat : Int) ≤ 9223372036854775807 by omega), if_pos rfl, if_pos rfl]
                exact ⟨trivial, by omega, rfl, rfl⟩
              · right; right; left
                rw [decide_eq_false (show ¬ (-9223372036854775808 ≤ (whV mode a.toNat : Int) ∧ (whV mode a.toNat : Int) ≤ 9223372036854775807) by omega), if_neg Bool.false_ne_true, if_neg Bool.false_ne_true]
                exact ⟨trivial, by omega, rfl, rfl⟩
            · simp only [if_true]
              by_cases c : whV mode a.toNat ≤ 9223372036854775808
              · left
                rw [decide_eq_true (show -9223372036854775808 ≤ -(whV mode a.toNat : Int) ∧ -(whV mode a.toNat : Int) ≤ 9223372036854775807 by omega), if_pos rfl, if_pos rfl]
                exact ⟨trivial, by omega, rfl, rfl⟩
              · right; left
                rw [decide_eq_false (show ¬ (-9223372036854775808 ≤ -(whV mode a.toNat : Int) ∧ -(whV mode a.toNat : Int) ≤ 9223372036854775807) by omega), if_neg Bool.false_ne_true, if_neg Bool.false_ne_true]
                exact ⟨trivial, by omega, rfl, rfl⟩
          · unfold tuOk
            rw [hti]
            cases hs : sgb a.toNat
            · simp only [Bool.false_eq_true, if_false]
              right
              rw [decide_eq_true (show 0 ≤ (whV mode a.toNat : Int) ∧ (whV mode a.toNat : Int) < 18446744073709551616 by omega), if_pos rfl, if_pos rfl]
              exact ⟨Or.inr (Or.inl trivial), rfl, rfl⟩
            · simp only [if_true]
              by_cases c : whV mode a.toNat = 0
              · right
                rw [decide_eq_true (show 0 ≤ -(whV mode a.toNat : Int) ∧ -(whV mode a.toNat : Int) < 18446744073709551616 by omega), if_pos rfl, if_pos rfl]
                exact ⟨Or.inr (Or.inr (by omega)), by omega, rfl⟩
              · left
                rw [decide_eq_false (show ¬ (0 ≤ -(whV mode a.toNat : Int) ∧ -(whV mode a.toNat : Int) < 18446744073709551616) by omega), if_neg Bool.false_ne_true, if_neg Bool.false_ne_true]
                exact ⟨rfl, trivial, by omega, rfl, rfl⟩
  · have hm0 : okMode mode = false := by simpa using hm
    have c : okMode mode = false ∨ isN a.toNat = true ∨ X = true := Or.inl hm0
    have m1 := hbadM 1 c (by rw [if_pos hm0])
    exact whole_core a mode 1 0 1 0 1 0 k0 (fun w _ => whole_isbad _ mode hm0 w) (hbadW 0 1 c (by rw [if_pos hm0]) (by rw [if_pos hm0])) (fun w hT => toInt_err _ _ mode 1 rfl (fun w _ => whole_isbad _ mode hm0 w) w hT) (fun w => rToInt_core a mode 0 1 _ _ false (by decide) (by decide) m1 (Or.inl ⟨rfl, rfl, rfl⟩) w) (fun w hT => toUint_err _ _ mode 1 rfl (fun w _ => whole_isbad _ mode hm0 w) w hT) (fun w => rToUint_core a mode 0 1 _ _ false m1 (Or.inr ⟨Or.inl rfl, rfl, rfl⟩) w) (k7 0) w hT
end Go.Proofs.YtckjmcfncfoboaaDoor
