/- The contract of the document's Split. -/
import Derived.Test.YtckjmcfncfoboaaDoorWa
namespace Go.Proofs.YtckjmcfncfoboaaDoor
open Go.RowKit

set_option maxHeartbeats 400000 in
theorem rsplit_core (a E M : Int) (s : Bool) (_ha : 0 ≤ a) (hE0 : 0 ≤ E) (hE1 : E ≤ 2047) (hM0 : 0 ≤ M) (hM1 : M ≤ 4503599627370495)
    (K1 : Hid ((bits .and .u64 a 9223372036854775808 != 0) = s)) (K2 : Hid (bits .and .u64 (a / 4503599627370496) 2047 = E)) (K3 : Hid (bits .and .u64 a 4503599627370495 = M))
    (h0 : Hid (0 ≤ a)) (h : Hid (a < 18446744073709551616)) (w : World) :
    Calls Tryd.prog 55 #[.int .u64 a] w fun e w' => e = .returned (.tuple #[.bool (spN a.toNat), .int .u64 (spMz a.toNat), .int .i64 (spE a.toNat), .int .i64 (spR a.toNat)]) ∧ w' = w := by
  go_enter Tryd.func55, Tryd.ntmps55
  go_wp2_with (first | (go_at_call 84; refine (finite_any _ h0 h _).mono ?_; rintro e w' ⟨rfl, rfl⟩; generalize hz0 : (decide (mag a.toNat < 9218868437227405312)) = z; have hz : Hid (decide (mag a.toNat < 9218868437227405312) = z) := hz0; clear hz0) | (simp only [K1.out]) | (simp only [K2.out]) | (simp only [K3.out]))
  · have hx : 9218868437227405312 ≤ mag a.toNat := by
      have := hz.out
      cases z
      · have := of_decide_eq_false this; omega
      · cases ‹(!true) = true›
    obtain ⟨e1, e2, e3, e4⟩ := spl_bad a.toNat hx
    refine bodyPost_ret (results_four rfl _ _ _) rfl ?_
    exact ⟨ret4 (bool_eq e1) (int_eq e2) (int_eq e3) (int_eq e4), rfl⟩
  all_goals
    have hx : mag a.toNat < 9218868437227405312 := by
      have := hz.out
      cases z
      · cases ‹(!false) = false›
      · exact of_decide_eq_true this
    have k1 := K1.out
    rw [and63_neI a h0.out h.out] at k1
    have k2 := K2.out
    rw [and52E a h0.out h.out] at k2
    have k3 := K3.out
    rw [and52M a h0.out h.out] at k3
    have bd := magZ_bd a.toNat
    refine bodyPost_ret (results_four rfl _ _ _) rfl ?_
  · have hM := eq_of_beq ‹(M == 0) = true›
    obtain ⟨e1, e2, e3, e4⟩ := spl_0 a.toNat (by unfold magZ at *; omega)
    exact ⟨ret4 (bool_eq (k1.symm.trans e1)) (int_eq e2) (int_eq e3) (int_eq e4), rfl⟩
  · have hM : M ≠ 0 := by simpa using ‹(M == 0) = false›
    obtain ⟨e1, e2, e3, e4⟩ := spl_s a.toNat (by unfold magZ at *; omega) (by unfold magZ at *; omega)
    exact ⟨ret4 (bool_eq (k1.symm.trans e1)) (int_eq (by rw [← e2]; omega)) (int_eq e3) (int_eq e4), rfl⟩
  · obtain ⟨e1, e2, e3, e4⟩ := spl_n a.toNat hx (by unfold magZ at *; omega)
    exact ⟨ret4 (bool_eq (k1.symm.trans e1)) (int_eq (by rw [or52 M hM0 (by omega), ← e2]; omega)) (int_eq (by rw [← e3]; omega)) (int_eq e4), rfl⟩

theorem rsplit_any (a : Int) (h0 : Hid (0 ≤ a)) (h : Hid (a < 18446744073709551616)) (w : World) :
    Calls Tryd.prog 55 #[.int .u64 a] w fun e w' => e = .returned (.tuple #[.bool (spN a.toNat), .int .u64 (spMz a.toNat), .int .i64 (spE a.toNat), .int .i64 (spR a.toNat)]) ∧ w' = w := by
  have bd := magZ_bd a.toNat
  have k2 := and52E a h0.out h.out
  have k3 := and52M a h0.out h.out
  exact rsplit_core a (magZ a.toNat / 4503599627370496) (magZ a.toNat % 4503599627370496) (sgb a.toNat) h0.out (by omega) (by omega) (by omega) (by omega) (and63_neI a h0.out h.out) k2 k3 h0 h w
end Go.Proofs.YtckjmcfncfoboaaDoor
