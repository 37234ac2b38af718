/- The contracts of the two Splits. -/
import Derived.Test.YtckjmcfncfoboaaDoorWa
namespace Go.Proofs.YtckjmcfncfoboaaDoor
open Go.RowKit

set_option maxHeartbeats 400000 in
theorem split_any (b : Nat) (hb : Hid (b < 18446744073709551616)) (w : World) :
    Calls Tryd.prog 48 #[.float .f64 b] w fun e w' => e = .returned (.tuple #[.bool (spN b), .int .u64 (spMz b), .int .i64 (spE b), .int .i64 (spR b)]) ∧ w' = w := by
  go_enter Tryd.func48, Tryd.ntmps48
  go_wp2_with (first | (go_at_call 77; refine (magnitude_any _ hb _).mono ?_; rintro e w' ⟨rfl, rfl⟩; have hb0 := (magZ_bd b).1; have hb1 := Int.le_sub_one_of_lt (magZ_bd b).2; generalize hz0 : magZ b = z at *; have hz : Hid (magZ b = z) := hz0; clear hz0) | (go_at_call 66; refine (class_any _ hb _).mono ?_; rintro e w' ⟨rfl, rfl⟩; generalize hc0 : cls b = c; have hc : Hid (cls b = c) := hc0; clear hc0) | (go_at_call 78; refine (negative_any _ hb _).mono ?_; rintro e w' ⟨rfl, rfl⟩))
  · have hx := (cls_of_c hc).1 ‹_›
    obtain ⟨e1, e2, e3, e4⟩ := spl_bad b hx
    refine bodyPost_ret (results_four rfl _ _ _) rfl ?_
    exact ⟨ret4 (bool_eq e1) (int_eq e2) (int_eq e3) (int_eq e4), rfl⟩
  · have hx := (cls_of_c hc).2.1 ‹_›
    obtain ⟨e1, e2, e3, e4⟩ := spl_bad b hx
    refine bodyPost_ret (results_four rfl _ _ _) rfl ?_
    exact ⟨ret4 (bool_eq e1) (int_eq e2) (int_eq e3) (int_eq e4), rfl⟩
  · have hx := (cls_of_c hc).2.2.1 ‹_›
    obtain ⟨e1, e2, e3, e4⟩ := spl_0 b hx
    have hn : isN b = false := by rw [cls_isN hc]; assumption
    have hn' := (ngt_n b hn).symm.trans e1
    refine bodyPost_ret (results_four rfl _ _ _) rfl ?_
    exact ⟨ret4 (bool_eq hn') (int_eq e2) (int_eq e3) (int_eq e4), rfl⟩
  · have hx := (cls_of_c hc).2.2.2.1 ‹_›
    obtain ⟨e1, e2, e3, e4⟩ := spl_s b hx.1 hx.2
    have hn : isN b = false := by rw [cls_isN hc]; assumption
    have hn' := (ngt_n b hn).symm.trans e1
    refine bodyPost_ret (results_four rfl _ _ _) rfl ?_
    exact ⟨ret4 (bool_eq hn') (int_eq (hz.out.symm.trans e2)) (int_eq e3) (int_eq e4), rfl⟩
  · have hx := (cls_of_c hc).2.2.2.2 ‹_› ‹_› ‹_› ‹_›
    obtain ⟨e1, e2, e3, e4⟩ := spl_n b hx.1 hx.2
    have hn : isN b = false := by rw [cls_isN hc]; assumption
    have hn' := (ngt_n b hn).symm.trans e1
    rw [hz.out] at e2 e3
    refine bodyPost_ret (results_four rfl _ _ _) rfl ?_
    exact ⟨ret4 (bool_eq hn') (int_eq e2) (int_eq (by rw [← e3]; omega)) (int_eq e4), rfl⟩

end Go.Proofs.YtckjmcfncfoboaaDoor
