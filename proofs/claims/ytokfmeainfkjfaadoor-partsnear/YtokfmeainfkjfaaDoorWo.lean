/- The order of numbers: place, Order, Same, Next, Prev, Steps. -/
import Derived.Test.YtokfmeainfkjfaaDoorWj
namespace Go.Proofs.YtokfmeainfkjfaaDoor
open Go.RowKit

def plc (b : Nat) : Int := if isN b then 9221120237041090560 else if sgb b then -1 - magZ b else magZ b
def ord (p q : Int) : Int := if p < q then -1 else if q < p then 1 else 0
def wordAt (p : Int) : Nat := if p < 0 then 9223372036854775808 + (-1 - p).toNat else p.toNat

theorem one_lt (b : Nat) (hb : b < 18446744073709551616) : one b < 18446744073709551616 := by unfold one; split <;> omega
theorem plc_n (b : Nat) (h : ngt b = true) : -1 - magZ (one b) = plc b := by
  unfold ngt at h
  simp only [Bool.and_eq_true, Bool.not_eq_true'] at h
  unfold plc one
  rw [h.1, h.2, if_neg (isN_not h.1)]; rfl
theorem plc_p (b : Nat) (h : ngt b = false) : magZ (one b) = plc b := by
  unfold ngt at h
  unfold plc one
  by_cases hn : isN b = true
  · rw [if_pos hn, if_pos (isN_of hn)]; decide
  · have hn' : isN b = false := by simpa using hn
    rw [hn'] at h
    have hs : sgb b = false := by simpa using h
    rw [hn', hs, if_neg (isN_not hn')]; rfl
theorem plc_bd (b : Nat) : -9223372036854775808 ≤ plc b ∧ plc b ≤ 9223372036854775807 := by
  have := magZ_bd b
  unfold plc; split
  · omega
  · split <;> omega

set_option maxHeartbeats 400000 in
theorem place_any (b : Nat) (hb : Hid (b < 18446744073709551616)) (w : World) :
    Calls Tryd.prog 45 #[.float .f64 b] w fun e w' => e = .returned (.int .i64 (plc b)) ∧ w' = w := by
  have ho : Hid (one b < 18446744073709551616) := one_lt b hb.out
  go_enter Tryd.func45, Tryd.ntmps45
  go_wp2_with (first | (go_at_call 13; refine (one_any _ hb _).mono ?_; rintro e w' ⟨rfl, rfl⟩) | (go_at_call 39; refine (magnitude_any _ ho _).mono ?_; rintro e w' ⟨rfl, rfl⟩; have hb0 := (magZ_bd (one b)).1; have hb1 := Int.le_sub_one_of_lt (magZ_bd (one b)).2; generalize hz0 : magZ (one b) = z at *; have hz : Hid (magZ (one b) = z) := hz0; clear hz0) | (go_at_call 16; refine (negative_any _ hb _).mono ?_; rintro e w' ⟨rfl, rfl⟩))
  all_goals go_ret
  all_goals refine ⟨ret_int ?_, rfl⟩
  · rw [← plc_n b ‹_›, hz.out]
  · rw [← plc_p b ‹_›, hz.out]

set_option maxHeartbeats 400000 in
theorem order_any (a b : Nat) (ha : Hid (a < 18446744073709551616)) (hb : Hid (b < 18446744073709551616)) (w : World) :
    Calls Tryd.prog 22 #[.float .f64 a, .float .f64 b] w fun e w' => e = .returned (.int .i64 (ord (plc a) (plc b))) ∧ w' = w := by
  have H1 : Hid (∀ w, Calls Tryd.prog 45 #[.float .f64 a] w fun e w' => e = .returned (.int .i64 (plc a)) ∧ w' = w) := place_any a ha
  have H2 : Hid (∀ w, Calls Tryd.prog 45 #[.float .f64 b] w fun e w' => e = .returned (.int .i64 (plc b)) ∧ w' = w) := place_any b hb
  generalize plc a = p at *
  generalize plc b = q at *
  clear ha hb
  go_enter Tryd.func22, Tryd.ntmps22
  go_wp2_with fail
  refine (H1.out _).mono ?_
  rintro e w' ⟨rfl, rfl⟩
  go_wp2_with fail
  refine (H2.out _).mono ?_
  rintro e w' ⟨rfl, rfl⟩
  go_wp2
  all_goals go_ret
  all_goals refine ⟨ret_int ?_, rfl⟩
  · unfold ord; rw [if_pos ‹_›]
  · unfold ord; rw [if_neg (by omega), if_pos ‹_›]
  · unfold ord; rw [if_neg (by omega), if_neg (by omega)]

set_option maxHeartbeats 400000 in
theorem same_any (a b : Nat) (ha : Hid (a < 18446744073709551616)) (hb : Hid (b < 18446744073709551616)) (w : World) :
    Calls Tryd.prog 24 #[.float .f64 a, .float .f64 b] w fun e w' => e = .returned (.bool (ord (plc a) (plc b) == 0)) ∧ w' = w := by
  have H1 : Hid (∀ w, Calls Tryd.prog 22 #[.float .f64 a, .float .f64 b] w fun e w' => e = .returned (.int .i64 (ord (plc a) (plc b))) ∧ w' = w) := order_any a b ha hb
  generalize ord (plc a) (plc b) = p at *
  go_enter Tryd.func24, Tryd.ntmps24
  go_wp2_with (go_at_call 22; refine (H1.out _).mono ?_; rintro e w' ⟨rfl, rfl⟩)
  go_ret
  exact ⟨rfl, rfl⟩

set_option maxHeartbeats 400000 in
theorem at_any (p : Int) (h0 : -9223372036854775808 ≤ p) (h1 : p ≤ 9223372036854775807) (w : World) :
    Calls Tryd.prog 47 #[.int .i64 p] w fun e w' => e = .returned (.float .f64 (wordAt p)) ∧ w' = w := by
  by_cases h : p < 0
  · obtain ⟨n, hn⟩ : ∃ n : Nat, (-1 - p) = (n : Int) := ⟨(-1 - p).toNat, by omega⟩
    have hn' : Hid (n < 9223372036854775808) := by unfold Hid; omega
    have HN : Hid (-1 - p = (n : Int)) := hn
    clear hn
    go_enter Tryd.func47, Tryd.ntmps47
    go_wp2_with (first | (go_at_call 41; rw [HN.out, Int.toNat_natCast]; refine (signed_any _ _ hn' _).mono ?_; rintro e w' ⟨rfl, rfl⟩))
    go_ret
    refine ⟨ret_f64 ?_, rfl⟩
    unfold wordAt; rw [if_pos h, HN.out, Int.toNat_natCast]; rfl
  · go_enter Tryd.func47, Tryd.ntmps47
    go_wp2
    go_ret
    refine ⟨ret_f64 ?_, rfl⟩
    unfold wordAt; rw [if_neg (by omega)]

def nxt (b : Nat) : Nat := if plc b < 9218868437227405312 then wordAt (plc b + 1) else one b
def prv (b : Nat) : Nat := if plc b ≤ 9218868437227405312 ∧ -9218868437227405313 < plc b then wordAt (plc b - 1) else one b

set_option maxHeartbeats 400000 in
theorem next_any (b : Nat) (hb : Hid (b < 18446744073709551616)) (w : World) :
    Calls Tryd.prog 26 #[.float .f64 b] w fun e w' => e = .returned (.float .f64 (nxt b)) ∧ w' = w := by
  have H1 : Hid (∀ w, Calls Tryd.prog 45 #[.float .f64 b] w fun e w' => e = .returned (.int .i64 (plc b)) ∧ w' = w) := place_any b hb
  have HN : Hid (nxt b = if plc b < 9218868437227405312 then wordAt (plc b + 1) else one b) := rfl
  have hb0 := (plc_bd b).1
  have hb1 := (plc_bd b).2
  generalize plc b = p at *
  go_enter Tryd.func26, Tryd.ntmps26
  go_wp2_with (first | (go_at_call 45; refine (H1.out _).mono ?_; rintro e w' ⟨rfl, rfl⟩) | (go_at_call 47; refine (at_any (p + 1) (by omega) (by omega) _).mono ?_; rintro e w' ⟨rfl, rfl⟩) | (go_at_call 13; refine (one_any b hb _).mono ?_; rintro e w' ⟨rfl, rfl⟩))
  all_goals go_ret
  all_goals refine ⟨ret_f64 ?_, rfl⟩
  · rw [HN.out, if_pos ‹_›]
  · rw [HN.out, if_neg (by omega)]

set_option maxHeartbeats 400000 in
theorem prev_any (b : Nat) (hb : Hid (b < 18446744073709551616)) (w : World) :
    Calls Tryd.prog 28 #[.float .f64 b] w fun e w' => e = .returned (.float .f64 (prv b)) ∧ w' = w := by
  have H1 : Hid (∀ w, Calls Tryd.prog 45 #[.float .f64 b] w fun e w' => e = .returned (.int .i64 (plc b)) ∧ w' = w) := place_any b hb
  have HN : Hid (prv b = if plc b ≤ 9218868437227405312 ∧ -9218868437227405313 < plc b then wordAt (plc b - 1) else one b) := rfl
  have hb0 := (plc_bd b).1
  have hb1 := (plc_bd b).2
  generalize plc b = p at *
  go_enter Tryd.func28, Tryd.ntmps28
  go_wp2_with (first | (go_at_call 45; refine (H1.out _).mono ?_; rintro e w' ⟨rfl, rfl⟩) | (go_at_call 47; refine (at_any (p - 1) (by omega) (by omega) _).mono ?_; rintro e w' ⟨rfl, rfl⟩) | (go_at_call 13; refine (one_any b hb _).mono ?_; rintro e w' ⟨rfl, rfl⟩))
  all_goals go_ret
  all_goals refine ⟨ret_f64 ?_, rfl⟩
  all_goals first | rw [HN.out, if_pos (by omega)] | rw [HN.out, if_neg (by omega)]

/-- Steps: the way between two places, if an int64 holds it. -/
def stpOk (p q : Int) : Bool := decide (-9223372036854775808 ≤ q - p ∧ q - p ≤ 9223372036854775807)
def stpV (a b : Nat) : Int := if isN a || isN b then 0 else if stpOk (plc a) (plc b) then plc b - plc a else 0
def stpR (a b : Nat) : Int := if isN a || isN b then 10 else if stpOk (plc a) (plc b) then 0 else 11

set_option maxHeartbeats 400000 in
theorem steps_nan (a b : Nat) (c d : Int) (hc : (c == 1 || d == 1) = true) (H1 : Hid (∀ w, Calls Tryd.prog 14 #[.float .f64 a] w fun e w' => e = .returned (.int .i64 c) ∧ w' = w))
    (H2 : Hid (∀ w, Calls Tryd.prog 14 #[.float .f64 b] w fun e w' => e = .returned (.int .i64 d) ∧ w' = w)) (w : World) :
    Calls Tryd.prog 30 #[.float .f64 a, .float .f64 b] w fun e w' => e = .returned (.tuple #[.int .i64 0, .int .i64 10]) ∧ w' = w := by
  by_cases h1 : (c == 1) = true
  · clear hc
    go_enter Tryd.func30, Tryd.ntmps30
    go_wp2_with fail
    refine (H1.out _).mono ?_
    rintro e w' ⟨rfl, rfl⟩
    go_wp2
    go_ret2
    exact ⟨rfl, rfl⟩
  · have h1' : (c == 1) = false := by simpa using h1
    have h2 : (d == 1) = true := by rw [h1'] at hc; simpa using hc
    clear h1 hc
    go_enter Tryd.func30, Tryd.ntmps30
    go_wp2_with fail
    refine (H1.out _).mono ?_
    rintro e w' ⟨rfl, rfl⟩
    go_wp2_with fail
    refine (H2.out _).mono ?_
    rintro e w' ⟨rfl, rfl⟩
    go_wp2
    go_ret2
    exact ⟨rfl, rfl⟩

theorem stp_test (p q : Int) (hp0 : -9223372036854775808 ≤ p) (hp1 : p ≤ 9223372036854775807) (hq0 : -9223372036854775808 ≤ q) (hq1 : q ≤ 9223372036854775807) :
    (stpOk p q = true → wrap64 (q - p) = q - p ∧ (!decide (wrap64 (q - p) < 0) == decide (q < p)) = false) ∧ (stpOk p q = false → (!decide (wrap64 (q - p) < 0) == decide (q < p)) = true) := by
  constructor
  · intro h
    have := of_decide_eq_true h
    have e : wrap64 (q - p) = q - p := by unfold wrap64; omega
    refine ⟨e, ?_⟩
    rw [e]
    have : decide (q - p < 0) = decide (q < p) := decide_eq_decide.2 (by omega)
    rw [this]; simp
  · intro h
    have := of_decide_eq_false h
    by_cases c : q < p
    · have e : ¬ wrap64 (q - p) < 0 := by unfold wrap64; omega
      rw [decide_eq_false e, decide_eq_true c]; rfl
    · have e : wrap64 (q - p) < 0 := by unfold wrap64; omega
      rw [decide_eq_true e, decide_eq_false c]; rfl

set_option maxHeartbeats 400000 in
theorem steps_far (a b : Nat) (c d p q : Int) (hc : (c == 1) = false) (hd : (d == 1) = false)
    (H1 : Hid (∀ w, Calls Tryd.prog 14 #[.float .f64 a] w fun e w' => e = .returned (.int .i64 c) ∧ w' = w))
    (H2 : Hid (∀ w, Calls Tryd.prog 14 #[.float .f64 b] w fun e w' => e = .returned (.int .i64 d) ∧ w' = w))
    (H3 : Hid (∀ w, Calls Tryd.prog 45 #[.float .f64 a] w fun e w' => e = .returned (.int .i64 p) ∧ w' = w))
    (H4 : Hid (∀ w, Calls Tryd.prog 45 #[.float .f64 b] w fun e w' => e = .returned (.int .i64 q) ∧ w' = w)) (w : World) (T : (!decide (wrap64 (q - p) < 0) == decide (q < p)) = true) :
    Calls Tryd.prog 30 #[.float .f64 a, .float .f64 b] w fun e w' => e = .returned (.tuple #[.int .i64 0, .int .i64 11]) ∧ w' = w := by
  go_enter Tryd.func30, Tryd.ntmps30
  go_wp2_with fail
  refine (H1.out _).mono ?_
  rintro e w' ⟨rfl, rfl⟩
  go_wp2_with fail
  refine (H2.out _).mono ?_
  rintro e w' ⟨rfl, rfl⟩
  go_wp2_with fail
  refine (H3.out _).mono ?_
  rintro e w' ⟨rfl, rfl⟩
  go_wp2_with fail
  refine (H4.out _).mono ?_
  rintro e w' ⟨rfl, rfl⟩
  go_wp2
  go_ret2
  exact ⟨rfl, rfl⟩

set_option maxHeartbeats 400000 in
theorem steps_fine (a b : Nat) (c d p q : Int) (hc : (c == 1) = false) (hd : (d == 1) = false)
    (H1 : Hid (∀ w, Calls Tryd.prog 14 #[.float .f64 a] w fun e w' => e = .returned (.int .i64 c) ∧ w' = w))
    (H2 : Hid (∀ w, Calls Tryd.prog 14 #[.float .f64 b] w fun e w' => e = .returned (.int .i64 d) ∧ w' = w))
    (H3 : Hid (∀ w, Calls Tryd.prog 45 #[.float .f64 a] w fun e w' => e = .returned (.int .i64 p) ∧ w' = w))
    (H4 : Hid (∀ w, Calls Tryd.prog 45 #[.float .f64 b] w fun e w' => e = .returned (.int .i64 q) ∧ w' = w)) (w : World) (T : (!decide (wrap64 (q - p) < 0) == decide (q < p)) = false) :
    Calls Tryd.prog 30 #[.float .f64 a, .float .f64 b] w fun e w' => e = .returned (.tuple #[.int .i64 (wrap64 (q - p)), .int .i64 0]) ∧ w' = w := by
  go_enter Tryd.func30, Tryd.ntmps30
  go_wp2_with fail
  refine (H1.out _).mono ?_
  rintro e w' ⟨rfl, rfl⟩
  go_wp2_with fail
  refine (H2.out _).mono ?_
  rintro e w' ⟨rfl, rfl⟩
  go_wp2_with fail
  refine (H3.out _).mono ?_
  rintro e w' ⟨rfl, rfl⟩
  go_wp2_with fail
  refine (H4.out _).mono ?_
  rintro e w' ⟨rfl, rfl⟩
  go_wp2
  go_ret2
  exact ⟨rfl, rfl⟩

theorem steps_any (a b : Nat) (ha : Hid (a < 18446744073709551616)) (hb : Hid (b < 18446744073709551616)) (w : World) :
    Calls Tryd.prog 30 #[.float .f64 a, .float .f64 b] w fun e w' => e = .returned (.tuple #[.int .i64 (stpV a b), .int .i64 (stpR a b)]) ∧ w' = w := by
  have bp := plc_bd a
  have bq := plc_bd b
  unfold stpV stpR
  by_cases hn : (isN a || isN b) = true
  · rw [if_pos hn, if_pos hn]
    exact steps_nan a b _ _ (by rw [cls1, cls1]; exact hn) (class_any a ha) (class_any b hb) w
  · rw [if_neg hn, if_neg hn]
    have hn1 : isN a = false := by cases h : isN a <;> simp_all
    have hn2 : isN b = false := by cases h : isN b <;> simp_all
    have t := stp_test (plc a) (plc b) bp.1 bp.2 bq.1 bq.2
    cases ho : stpOk (plc a) (plc b)
    · exact steps_far a b _ _ _ _ (by rw [cls1]; exact hn1) (by rw [cls1]; exact hn2) (class_any a ha) (class_any b hb) (place_any a ha) (place_any b hb) w (t.2 ho)
    · have := steps_fine a b _ _ _ _ (by rw [cls1]; exact hn1) (by rw [cls1]; exact hn2) (class_any a ha) (class_any b hb) (place_any a ha) (place_any b hb) w (t.1 ho).2
      rw [(t.1 ho).1] at this
      exact this
end Go.Proofs.YtokfmeainfkjfaaDoor
