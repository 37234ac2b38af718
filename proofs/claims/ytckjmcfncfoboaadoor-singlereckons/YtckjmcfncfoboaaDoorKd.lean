/- The document's IsNaN, One, split, Widen and Next of singles, and the program's Next of any. -/
import Derived.Test.YtckjmcfncfoboaaDoorSq
import Derived.Test.YtckjmcfncfoboaaDoorRj
import Derived.Test.YtckjmcfncfoboaaDoorNz
namespace Go.Proofs.YtckjmcfncfoboaaDoor
open Go.RowKit
open Ieee

theorem andNot31I (b : Int) (h0 : 0 ≤ b) (h : b < 4294967296) : bits .andNot .u32 b 2147483648 = (mag32 b.toNat : Int) := by
  obtain ⟨n, rfl⟩ : ∃ n : Nat, b = n := ⟨b.toNat, by omega⟩
  rw [Int.toNat_natCast]
  exact andNot31 n (by omega)
theorem and31 (b : Nat) (h : b < 4294967296) : bits .and .u32 (b : Int) 2147483648 = if sgb32 b = true then 2147483648 else 0 := by
  have := u32_and_nat b 2147483648 h (by decide)
  rw [show ((2147483648 : Nat) : Int) = 2147483648 from rfl] at this
  rw [this, nat_bit 31 b]
  unfold sgb32
  by_cases c : 2147483648 ≤ b
  · simp only [c, decide_true, if_true]; omega
  · simp only [c, decide_false, Bool.false_eq_true, if_false]; omega
theorem and31I (b : Int) (h0 : 0 ≤ b) (h : b < 4294967296) : bits .and .u32 b 2147483648 = if sgb32 b.toNat = true then 2147483648 else 0 := by
  have := and31 b.toNat (by omega)
  rwa [Int.toNat_of_nonneg h0] at this

set_option maxHeartbeats 400000 in
theorem risnan_core (b z : Int) (hz : Hid (bits .andNot .u32 b 2147483648 = z)) (w : World) :
    Calls Tryd.prog 42 #[.int .u32 b] w fun e w' => e = .returned (.bool (decide (2139095040 < z))) ∧ w' = w := by
  go_enter Tryd.func42, Tryd.ntmps42
  go_wp2_with (first | (simp only [hz.out]))
  go_ret
  exact ⟨rfl, rfl⟩
theorem risnan_any (b : Int) (h0 : 0 ≤ b) (h : b < 4294967296) (w : World) :
    Calls Tryd.prog 42 #[.int .u32 b] w fun e w' => e = .returned (.bool (isN32 b.toNat)) ∧ w' = w := by
  have := risnan_core b _ (andNot31I b h0 h) w
  rwa [show decide ((2139095040 : Int) < (mag32 b.toNat : Nat)) = isN32 b.toNat from by unfold isN32; exact decide_eq_decide.2 (by omega)] at this

set_option maxHeartbeats 400000 in
theorem rone32_core (b v : Int) (N : Bool) (H : Hid (∀ w, Calls Tryd.prog 42 #[.int .u32 b] w fun e w' => e = .returned (.bool N) ∧ w' = w)) (hv : Hid (v = if N = true then 2143289344 else b)) (w : World) :
    Calls Tryd.prog 13 #[.int .u32 b] w fun e w' => e = .returned (.int .u32 v) ∧ w' = w := by
  cases N
  all_goals
    go_enter Tryd.func13, Tryd.ntmps13
    go_wp2_with (go_at_call 42; refine (H.out _).mono ?_; rintro e w' ⟨rfl, rfl⟩)
    go_ret
    exact ⟨ret_int hv.out.symm, rfl⟩
theorem rone32_any (b : Int) (h0 : 0 ≤ b) (h : b < 4294967296) (w : World) :
    Calls Tryd.prog 13 #[.int .u32 b] w fun e w' => e = .returned (.int .u32 (one32 b.toNat : Nat)) ∧ w' = w := by
  refine rone32_core b _ _ (fun w => risnan_any b h0 h w) ?_ w
  show _ = _
  unfold one32 isN32
  by_cases c : 2139095040 < mag32 b.toNat
  · rw [if_pos c, decide_eq_true c, if_pos rfl]; rfl
  · rw [if_neg c, decide_eq_false c, if_neg (by simp)]; omega

/-- Next: what it is. -/
def nx32 (b : Nat) : Nat := if isN32 b = true then 2143289344 else if b = 2139095040 then b else if b = 2147483648 then 0 else if 2147483648 < b then b - 1 else b + 1
set_option maxHeartbeats 1000000 in
theorem rnext32_core (b v o z : Int) (N : Bool) (h0 : 0 ≤ b) (h : b < 4294967296) (H : Hid (∀ w, Calls Tryd.prog 42 #[.int .u32 b] w fun e w' => e = .returned (.bool N) ∧ w' = w))
    (HO : Hid (∀ w, Calls Tryd.prog 13 #[.int .u32 b] w fun e w' => e = .returned (.int .u32 o) ∧ w' = w)) (hz : Hid (bits .and .u32 b 2147483648 = z))
    (hv : (N = true ∧ v = o) ∨ (N = false ∧ (b == 2139095040) = true ∧ v = o) ∨ (N = false ∧ (b == 2139095040) = false ∧ (b == 2147483648) = true ∧ v = 0) ∨
      (N = false ∧ (b == 2139095040) = false ∧ (b == 2147483648) = false ∧ (z == 0) = false ∧ 0 < b ∧ Hid (v = b - 1)) ∨ (N = false ∧ (b == 2139095040) = false ∧ (b == 2147483648) = false ∧ (z == 0) = true ∧ b < 4294967295 ∧ Hid (v = b + 1))) (w : World) :
    Calls Tryd.prog 19 #[.int .u32 b] w fun e w' => e = .returned (.int .u32 v) ∧ w' = w := by
  rcases hv with ⟨rfl, rfl⟩ | ⟨rfl, c1, rfl⟩ | ⟨rfl, c1, c2, rfl⟩ | ⟨rfl, c1, c2, c3, c4, hv⟩ | ⟨rfl, c1, c2, c3, c4, hv⟩
  all_goals
    go_enter Tryd.func19, Tryd.ntmps19
    go_wp2_with (first | (simp only [hz.out]) | (go_at_call 42; refine (H.out _).mono ?_; rintro e w' ⟨rfl, rfl⟩) | (go_at_call 13; refine (HO.out _).mono ?_; rintro e w' ⟨rfl, rfl⟩))
    go_ret
    first | exact ⟨rfl, rfl⟩ | exact ⟨ret_int hv.out.symm, rfl⟩
theorem rnext32_any (b : Int) (h0 : 0 ≤ b) (h : b < 4294967296) (w : World) :
    Calls Tryd.prog 19 #[.int .u32 b] w fun e w' => e = .returned (.int .u32 (nx32 b.toNat : Nat)) ∧ w' = w := by
  refine rnext32_core b _ _ _ _ h0 h (fun w => risnan_any b h0 h w) (fun w => rone32_any b h0 h w) (and31I b h0 h) ?_ w
  obtain ⟨n, rfl⟩ : ∃ n : Nat, b = n := ⟨b.toNat, by omega⟩
  rw [Int.toNat_natCast]
  unfold nx32 one32
  by_cases c : isN32 n = true
  · have c' : 2139095040 < mag32 n := of_decide_eq_true c
    rw [if_pos c, if_pos c']; exact Or.inl ⟨c, rfl⟩
  · have c' : ¬ 2139095040 < mag32 n := fun d => c (decide_eq_true d)
    rw [if_neg c, if_neg c']
    have cf : isN32 n = false := by simpa using c
    right
    by_cases d : n = 2139095040
    · rw [if_pos d]; exact Or.inl ⟨cf, by rw [beq_iff_eq]; omega, rfl⟩
    · rw [if_neg d]
      right
      by_cases f : n = 2147483648
      · rw [if_pos f]; exact Or.inl ⟨cf, by rw [beq_eq_false_iff_ne]; omega, by rw [beq_iff_eq]; omega, rfl⟩
      · rw [if_neg f]
        right
        unfold sgb32
        by_cases g : 2147483648 < n
        · rw [if_pos g, decide_eq_true (by omega : 2147483648 ≤ n), if_pos rfl]
          exact Or.inl ⟨cf, by rw [beq_eq_false_iff_ne]; omega, by rw [beq_eq_false_iff_ne]; omega, by decide, by omega, by unfold Hid; omega⟩
        · rw [if_neg g, decide_eq_false (by omega : ¬ 2147483648 ≤ n), if_neg (by simp)]
          exact Or.inr ⟨cf, by rw [beq_eq_false_iff_ne]; omega, by rw [beq_eq_false_iff_ne]; omega, by decide, by omega, by unfold Hid; omega⟩

set_option maxHeartbeats 1000000 in
theorem pnext32_core (x y v : Nat) (z : Int) (hz : Hid ((y : Int) = z)) (H : Hid (∀ w, Calls Tryd.prog 14 #[.float .f32 x] w fun e w' => e = .returned (.float .f32 y) ∧ w' = w))
    (h : ((z == 2147483648) = true ∧ Hid (v = 0)) ∨ ((z == 2147483648) = false ∧ 2147483648 < z ∧ z < 4294967296 ∧ Hid ((v : Int) = z - 1)) ∨ ((z == 2147483648) = false ∧ z ≤ 2147483648 ∧ 0 ≤ z ∧ z < 2139095040 ∧ Hid ((v : Int) = z + 1)) ∨ ((z == 2147483648) = false ∧ z ≤ 2147483648 ∧ 2139095040 ≤ z ∧ Hid ((v : Int) = z))) (w : World) :
    Calls Tryd.prog 18 #[.float .f32 x] w fun e w' => e = .returned (.float .f32 v) ∧ w' = w := by
  rcases h with ⟨h1, hv⟩ | ⟨h1, h2, h3, hv⟩ | ⟨h1, h2, h3, h4, hv⟩ | ⟨h1, h2, h3, hv⟩
  all_goals
    go_enter Tryd.func18, Tryd.ntmps18
    go_wp2_with (first | (simp only [hz.out]) | (go_at_call 14; refine (H.out _).mono ?_; rintro e w' ⟨rfl, rfl⟩))
    go_ret
    refine ⟨ret_f32 ?_, rfl⟩
    have := hv.out
    omega
theorem pnext32_any (b : Nat) (h : b < 4294967296) (w : World) :
    Calls Tryd.prog 18 #[.float .f32 b] w fun e w' => e = .returned (.float .f32 (nx32 b)) ∧ w' = w := by
  refine pnext32_core b (one32 b) _ _ rfl (fun w => one32_any b h w) ?_ w
  unfold nx32 one32 isN32
  by_cases c : 2139095040 < mag32 b
  · rw [if_pos c, decide_eq_true c, if_pos rfl]
    exact Or.inr (Or.inr (Or.inr ⟨by decide, by decide, by decide, rfl⟩))
  · rw [if_neg c, decide_eq_false c, if_neg (by simp)]
    unfold mag32 at c
    by_cases d : b = 2139095040
    · rw [if_pos d]; exact Or.inr (Or.inr (Or.inr ⟨by rw [beq_eq_false_iff_ne]; omega, by omega, by omega, rfl⟩))
    · rw [if_neg d]
      by_cases f : b = 2147483648
      · rw [if_pos f]; exact Or.inl ⟨by rw [beq_iff_eq]; omega, rfl⟩
      · rw [if_neg f]
        by_cases g : 2147483648 < b
        · rw [if_pos g]; exact Or.inr (Or.inl ⟨by rw [beq_eq_false_iff_ne]; omega, by omega, by omega, by unfold Hid; omega⟩)
        · rw [if_neg g]; exact Or.inr (Or.inr (Or.inl ⟨by rw [beq_eq_false_iff_ne]; omega, by omega, by omega, by omega, by unfold Hid; omega⟩))

set_option maxHeartbeats 1000000 in
theorem rsplit32_core (b x m o M E : Int) (hx : Hid (bits .and .u32 (b / 8388608) 255 = x)) (hm : Hid (bits .and .u32 b 8388607 = m)) (x0 : 0 ≤ x) (x1 : x < 256) (m0 : 0 ≤ m) (m1 : m < 8388608) (ho : Hid (bits .or .u64 m 8388608 = o))
    (hv : ((x == 0) = true ∧ M = m ∧ E = -149) ∨ ((x == 0) = false ∧ M = o ∧ Hid (E = x - 150))) (w : World) :
    Calls Tryd.prog 45 #[.int .u32 b] w fun e w' => e = .returned (.tuple #[.int .u64 M, .int .i64 E]) ∧ w' = w := by
  rcases hv with ⟨c, rfl, rfl⟩ | ⟨c, rfl, hE⟩
  all_goals
    go_enter Tryd.func45, Tryd.ntmps45
    go_wp2_with (first | (simp only [hx.out]) | (simp only [hm.out]) | (simp only [ho.out]))
    go_ret2
    first | exact ⟨rfl, rfl⟩ | exact ⟨ret2 rfl (int_eq hE.out.symm), rfl⟩
theorem and23E (b : Nat) (h : b < 4294967296) : bits .and .u32 ((b : Int) / 8388608) 255 = (mag32 b / 8388608 : Nat) := by
  have := u32_and_nat (b / 8388608) 255 (by omega) (by decide)
  rw [show ((255 : Nat) : Int) = 255 from rfl, show ((b / 8388608 : Nat) : Int) = (b : Int) / 8388608 by omega] at this
  rw [this, Nat.and_two_pow_sub_one_eq_mod _ 8]
  unfold mag32; omega
theorem and23M (b : Nat) (h : b < 4294967296) : bits .and .u32 (b : Int) 8388607 = (mag32 b % 8388608 : Nat) := by
  have := u32_and_nat b 8388607 h (by decide)
  rw [show ((8388607 : Nat) : Int) = 8388607 from rfl] at this
  rw [this, Nat.and_two_pow_sub_one_eq_mod _ 23]
  unfold mag32; omega
theorem or23 (m : Nat) (h : m < 8388608) : bits .or .u64 (m : Int) 8388608 = (8388608 + m : Nat) := by
  have := u64_or_nat m 8388608 (by omega) (by decide)
  rw [show ((8388608 : Nat) : Int) = 8388608 from rfl] at this
  rw [this, Nat.or_comm, nat_join 23 _ m (by decide) (by omega)]
theorem rsplit32_any (b : Nat) (h : b < 4294967296) (hb : mag32 b ≤ 2139095040) (w : World) :
    Calls Tryd.prog 45 #[.int .u32 (b : Int)] w fun e w' => e = .returned (.tuple #[.int .u64 (Fs.mantOf (mag32 b) : Nat), .int .i64 (Fs.placeOf (mag32 b))]) ∧ w' = w := by
  refine rsplit32_core b _ _ _ _ _ (and23E b h) (and23M b h) (by omega) (by omega) (by omega) (by omega) (or23 _ (by omega)) ?_ w
  unfold Fs.mantOf Fs.placeOf
  by_cases c : mag32 b < 8388608
  · rw [if_pos c]; exact Or.inl ⟨by rw [beq_iff_eq]; omega, by omega, by omega⟩
  · rw [if_neg c]; exact Or.inr ⟨by rw [beq_eq_false_iff_ne]; omega, rfl, by unfold Hid; omega⟩

set_option maxHeartbeats 1000000 in
theorem rwiden_core (b z y M E j r v : Int) (N neg : Bool) (H : Hid (∀ w, Calls Tryd.prog 42 #[.int .u32 b] w fun e w' => e = .returned (.bool N) ∧ w' = w))
    (hz : Hid (bits .andNot .u32 b 2147483648 = z)) (hy : Hid (bits .and .u32 b 2147483648 = y)) (hneg : (y != 0) = neg)
    (hv : (N = true ∧ v = 9221120237041090560) ∨ (N = false ∧ (z == 2139095040) = true ∧ neg = false ∧ Hid (bits .or .u64 0 9218868437227405312 = v)) ∨ (N = false ∧ (z == 2139095040) = true ∧ neg = true ∧ Hid (bits .or .u64 9223372036854775808 9218868437227405312 = v)) ∨
      (N = false ∧ (z == 2139095040) = false ∧ v = j ∧ Hid (∀ w, Calls Tryd.prog 45 #[.int .u32 b] w fun e w' => e = .returned (.tuple #[.int .u64 M, .int .i64 E]) ∧ w' = w) ∧ Hid (∀ w, Calls Tryd.prog 46 #[.bool neg, .int .u64 M, .int .i64 E] w fun e w' => e = .returned (.tuple #[.int .u64 j, .int .i64 r]) ∧ w' = w))) (w : World) :
    Calls Tryd.prog 17 #[.int .u32 b] w fun e w' => e = .returned (.int .u64 v) ∧ w' = w := by
  rcases hv with ⟨rfl, rfl⟩ | ⟨rfl, c, rfl, hv⟩ | ⟨rfl, c, rfl, hv⟩ | ⟨rfl, c, rfl, HS, HJ⟩
  · go_enter Tryd.func17, Tryd.ntmps17
    go_wp2_with (go_at_call 42; refine (H.out _).mono ?_; rintro e w' ⟨rfl, rfl⟩)
    go_ret
    exact ⟨rfl, rfl⟩
  · go_enter Tryd.func17, Tryd.ntmps17
    go_wp2_with (first | (simp only [hz.out]) | (simp only [hy.out]) | (go_at_call 42; refine (H.out _).mono ?_; rintro e w' ⟨rfl, rfl⟩))
    go_ret
    exact ⟨ret_int hv.out, rfl⟩
  · go_enter Tryd.func17, Tryd.ntmps17
    go_wp2_with (first | (simp only [hz.out]) | (simp only [hy.out]) | (go_at_call 42; refine (H.out _).mono ?_; rintro e w' ⟨rfl, rfl⟩))
    go_ret
    exact ⟨ret_int hv.out, rfl⟩
  · cases neg
    all_goals
      go_enter Tryd.func17, Tryd.ntmps17
      go_wp2_with (first | (simp only [hz.out]) | (simp only [hy.out]) | (go_at_call 42; refine (H.out _).mono ?_; rintro e w' ⟨rfl, rfl⟩) | (go_at_call 45; refine (HS.out _).mono ?_; rintro e w' ⟨rfl, rfl⟩) | (go_at_call 46; refine (HJ.out _).mono ?_; rintro e w' ⟨rfl, rfl⟩))
      go_ret
      exact ⟨rfl, rfl⟩
/-- Widen of any. -/
def wd32 (b : Nat) : Nat := if isN32 b = true then 9221120237041090560 else wdW (sgb32 b) (mag32 b)
theorem rwiden_any (b : Nat) (h : b < 4294967296) (w : World) :
    Calls Tryd.prog 17 #[.int .u32 (b : Int)] w fun e w' => e = .returned (.int .u64 (wd32 b : Nat)) ∧ w' = w := by
  have hand := and31 b h
  have hneg : ((if sgb32 b = true then (2147483648 : Int) else 0) != 0) = sgb32 b := by cases sgb32 b <;> rfl
  have hN : ∀ w, Calls Tryd.prog 42 #[.int .u32 (b : Int)] w fun e w' => e = .returned (.bool (isN32 b)) ∧ w' = w := fun w => by
    have := risnan_any b (by omega) (by omega) w
    rwa [Int.toNat_natCast] at this
  refine rwiden_core b _ _ (Fs.mantOf (mag32 b) : Nat) (Fs.placeOf (mag32 b)) (wd32 b : Nat) (joinR (Fs.mantOf (mag32 b) : Nat) (Fs.placeOf (mag32 b))) _ _ _ hN (andNot31 b h) hand hneg ?_ w
  unfold wd32
  by_cases c : isN32 b = true
  · rw [if_pos c]; exact Or.inl ⟨c, rfl⟩
  · rw [if_neg c]
    have cf : isN32 b = false := by simpa using c
    have c' : mag32 b ≤ 2139095040 := Nat.le_of_not_lt fun d => c (decide_eq_true d)
    right
    by_cases i : mag32 b = 2139095040
    · unfold wdW
      rw [if_pos i]
      cases hs : sgb32 b
      · exact Or.inl ⟨cf, by rw [beq_iff_eq]; omega, rfl, by show _ = _; decide +kernel⟩
      · exact Or.inr (Or.inl ⟨cf, by rw [beq_iff_eq]; omega, rfl, by show _ = _; decide +kernel⟩)
    · right; right
      refine ⟨cf, by rw [beq_eq_false_iff_ne]; omega, rfl, fun w => rsplit32_any b h c' w, fun w => ?_⟩
      have := rjoin_any (sgb32 b) (Fs.mantOf (mag32 b) : Nat) (Fs.placeOf (mag32 b)) (by omega) (by have := (Fs.canon_of (mag32 b)).1; omega) w
      have hw : joinW (sgb32 b) (Fs.mantOf (mag32 b) : Nat) (Fs.placeOf (mag32 b)) = wdW (sgb32 b) (mag32 b) := by
        unfold wdW
        rw [if_neg i]
        by_cases z : mag32 b = 0
        · rw [if_pos z, z]; exact (join_nought (sgb32 b) (Fs.placeOf 0)).1
        · rw [if_neg z]
          have f := fits32 (mag32 b) (by omega) z
          exact (join_ok (sgb32 b) _ _ f.1 (by have := (Fs.canon_of (mag32 b)).1; omega) f.2.2.1 f.2.2.2).1
      rwa [hw] at this
theorem pwiden_any (b : Nat) (h : b < 4294967296) (w : World) :
    Calls Tryd.prog 16 #[.float .f32 b] w fun e w' => e = .returned (.float .f64 (wd32 b)) ∧ ∃ d, w' = w.drewN d := by
  unfold wd32
  by_cases c : isN32 b = true
  · rw [if_pos c]; exact widen_nan b h c w
  · rw [if_neg c]
    have c' : mag32 b ≤ 2139095040 := Nat.le_of_not_lt fun d => c (decide_eq_true d)
    have := widen_any (sgb32 b) (mag32 b) c' w
    rw [word_mag32 b h] at this
    exact this.mono fun e w' ⟨h1, h2⟩ => ⟨h1, 0, h2⟩
end Go.Proofs.YtckjmcfncfoboaaDoor
