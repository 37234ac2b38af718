/- The document's Steps. -/
import Derived.Test.YtokfmeainfkjfaaDoorRo
namespace Go.Proofs.YtokfmeainfkjfaaDoor
open Go.RowKit

theorem st_bad {p q V R : Int} (HV : Hid ((if stpOk p q then q - p else 0) = V)) (HR : Hid ((if stpOk p q then (0 : Int) else 11) = R)) (h : ¬ (-9223372036854775808 ≤ q - p ∧ q - p ≤ 9223372036854775807)) : 0 = V ∧ 11 = R := by
  have e : stpOk p q = false := decide_eq_false h
  have v := HV.out
  have r := HR.out
  rw [e] at v r
  exact ⟨v, r⟩
theorem st_ok {p q V R : Int} (HV : Hid ((if stpOk p q then q - p else 0) = V)) (HR : Hid ((if stpOk p q then (0 : Int) else 11) = R)) (h : -9223372036854775808 ≤ q - p ∧ q - p ≤ 9223372036854775807) : q - p = V ∧ 0 = R := by
  have e : stpOk p q = true := decide_eq_true h
  have v := HV.out
  have r := HR.out
  rw [e] at v r
  exact ⟨v, r⟩
theorem udiff (p q : Int) (hp : Hid (-9223372036854775808 ≤ p ∧ p ≤ 9223372036854775807)) (hq : Hid (-9223372036854775808 ≤ q ∧ q ≤ 9223372036854775807)) (h : p ≤ q) : IntKind.u64.wrap (IntKind.u64.wrap q - IntKind.u64.wrap p) = q - p := by
  have := hp.out
  have := hq.out
  simp only [IntKind.wrap_u64]
  omega
theorem uneg (d : Int) (h0 : 0 ≤ d) (h1 : d ≤ 9223372036854775808) : wrap64 (IntKind.u64.wrap (-d)) = -d := by
  simp only [IntKind.wrap_u64]
  unfold wrap64
  omega

set_option maxHeartbeats 400000 in
theorem rsteps_nan (a b : Int) (n m : Bool) (hn : (n || m) = true) (N0 : Hid (∀ w, Calls Tryd.prog 38 #[.int .u64 a] w fun e w' => e = .returned (.bool n) ∧ w' = w))
    (N1 : Hid (∀ w, Calls Tryd.prog 38 #[.int .u64 b] w fun e w' => e = .returned (.bool m) ∧ w' = w)) (w : World) :
    Calls Tryd.prog 31 #[.int .u64 a, .int .u64 b] w fun e w' => e = .returned (.tuple #[.int .i64 0, .int .i64 10]) ∧ w' = w := by
  cases n
  · cases m
    · cases hn
    · clear hn
      go_enter Tryd.func31, Tryd.ntmps31
      go_wp2_with fail
      refine (N0.out _).mono ?_
      rintro e w' ⟨rfl, rfl⟩
      go_wp2_with fail
      refine (N1.out _).mono ?_
      rintro e w' ⟨rfl, rfl⟩
      go_wp2
      go_ret2
      exact ⟨rfl, rfl⟩
  · clear hn
    go_enter Tryd.func31, Tryd.ntmps31
    go_wp2_with fail
    refine (N0.out _).mono ?_
    rintro e w' ⟨rfl, rfl⟩
    go_wp2_with fail
    refine (N1.out _).mono ?_
    rintro e w' ⟨rfl, rfl⟩
    go_wp2
    go_ret2
    exact ⟨rfl, rfl⟩

set_option maxHeartbeats 400000 in
theorem rsteps_core (a b p q : Int) (N0 : Hid (∀ w, Calls Tryd.prog 38 #[.int .u64 a] w fun e w' => e = .returned (.bool false) ∧ w' = w))
    (N1 : Hid (∀ w, Calls Tryd.prog 38 #[.int .u64 b] w fun e w' => e = .returned (.bool false) ∧ w' = w))
    (K0 : Hid (∀ w, Calls Tryd.prog 46 #[.int .u64 a] w fun e w' => e = .returned (.int .i64 p) ∧ w' = w))
    (K1 : Hid (∀ w, Calls Tryd.prog 46 #[.int .u64 b] w fun e w' => e = .returned (.int .i64 q) ∧ w' = w))
    (hp : Hid (-9223372036854775808 ≤ p ∧ p ≤ 9223372036854775807)) (hq : Hid (-9223372036854775808 ≤ q ∧ q ≤ 9223372036854775807)) (w : World) :
    Calls Tryd.prog 31 #[.int .u64 a, .int .u64 b] w fun e w' => e = .returned (.tuple #[.int .i64 (if stpOk p q then q - p else 0), .int .i64 (if stpOk p q then 0 else 11)]) ∧ w' = w := by
  generalize hV : (if stpOk p q then q - p else 0) = V
  generalize hR : (if stpOk p q then (0 : Int) else 11) = R
  have HV : Hid ((if stpOk p q then q - p else 0) = V) := hV
  have HR : Hid ((if stpOk p q then (0 : Int) else 11) = R) := hR
  clear hV hR
  go_enter Tryd.func31, Tryd.ntmps31
  go_wp2_with fail
  refine (N0.out _).mono ?_
  rintro e w' ⟨rfl, rfl⟩
  go_wp2_with fail
  refine (N1.out _).mono ?_
  rintro e w' ⟨rfl, rfl⟩
  go_wp2_with fail
  refine (K0.out _).mono ?_
  rintro e w' ⟨rfl, rfl⟩
  go_wp2_with fail
  refine (K1.out _).mono ?_
  rintro e w' ⟨rfl, rfl⟩
  go_wp2
  all_goals go_ret2
  · have hd := udiff p q hp hq ‹_›
    have h9 := ‹9223372036854775807 < IntKind.u64.wrap (IntKind.u64.wrap q - IntKind.u64.wrap p)›
    rw [hd] at h9
    obtain ⟨y1, y2⟩ := st_bad HV HR (by omega)
    exact ⟨ret2 (int_eq y1) (int_eq y2), rfl⟩
  · have hd := udiff p q hp hq ‹_›
    have h9 := ‹IntKind.u64.wrap (IntKind.u64.wrap q - IntKind.u64.wrap p) ≤ 9223372036854775807›
    rw [hd] at h9
    obtain ⟨y1, y2⟩ := st_ok HV HR (by omega)
    exact ⟨ret2 (int_eq (by rw [hd, ← y1]; unfold wrap64; omega)) (int_eq y2), rfl⟩
  · have hd := udiff q p hq hp (by omega)
    have h9 := ‹9223372036854775808 < IntKind.u64.wrap (IntKind.u64.wrap p - IntKind.u64.wrap q)›
    rw [hd] at h9
    obtain ⟨y1, y2⟩ := st_bad HV HR (by omega)
    exact ⟨ret2 (int_eq y1) (int_eq y2), rfl⟩
  · have hd := udiff q p hq hp (by omega)
    have h9 := ‹IntKind.u64.wrap (IntKind.u64.wrap p - IntKind.u64.wrap q) ≤ 9223372036854775808›
    rw [hd] at h9
    obtain ⟨y1, y2⟩ := st_ok HV HR (by omega)
    exact ⟨ret2 (int_eq (by rw [hd, uneg _ (by omega) (by omega), ← y1]; omega)) (int_eq y2), rfl⟩

theorem rsteps_any (a b : Int) (h0 : Hid (0 ≤ a)) (h : Hid (a < 18446744073709551616)) (g0 : Hid (0 ≤ b)) (g : Hid (b < 18446744073709551616)) (w : World) :
    Calls Tryd.prog 31 #[.int .u64 a, .int .u64 b] w fun e w' => e = .returned (.tuple #[.int .i64 (stpV a.toNat b.toNat), .int .i64 (stpR a.toNat b.toNat)]) ∧ w' = w := by
  unfold stpV stpR
  by_cases hn : (isN a.toNat || isN b.toNat) = true
  · rw [if_pos hn, if_pos hn]
    exact rsteps_nan a b _ _ hn (isnan_any a h0 h) (isnan_any b g0 g) w
  · rw [if_neg hn, if_neg hn]
    have hn1 : isN a.toNat = false := by cases h : isN a.toNat <;> simp_all
    have hn2 : isN b.toNat = false := by cases h : isN b.toNat <;> simp_all
    have N0 := isnan_any a h0 h
    have N1 := isnan_any b g0 g
    have K0 := rkey_any a h0 h
    have K1 := rkey_any b g0 g
    rw [hn1] at N0
    rw [hn2] at N1
    rw [key_plc _ hn1] at K0
    rw [key_plc _ hn2] at K1
    exact rsteps_core a b _ _ N0 N1 K0 K1 (plc_bd _) (plc_bd _) w
end Go.Proofs.YtokfmeainfkjfaaDoor
