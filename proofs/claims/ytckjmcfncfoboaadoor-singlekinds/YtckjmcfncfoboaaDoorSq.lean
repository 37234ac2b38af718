/- The NaN widened and narrowed: its bits are drawn, and One takes them away. -/
import Derived.Test.YtckjmcfncfoboaaDoorSk
namespace Go.Proofs.YtckjmcfncfoboaaDoor
open Go.RowKit
open Ieee

theorem word_mag32 (b : Nat) (h : b < 4294967296) : single.word (sgb32 b) (mag32 b) = b := by
  unfold Format.word sgb32 mag32
  rw [Fs.sw]
  by_cases c : 2147483648 ≤ b
  · rw [decide_eq_true c, if_pos rfl]; omega
  · rw [decide_eq_false c, if_neg Bool.false_ne_true]; omega
theorem nan_read64 (b : Nat) (hb : b < 18446744073709551616) (h : isN b = true) : ∃ s f, FloatKind.f64.decode b = .nan s f := by
  have := isN_of h
  have hl := mag_lt b
  have e := Fl.read_word (sgb b) (mag b) hl
  rw [word_mag b hb, if_neg (by omega), if_neg (by omega), if_neg (by omega)] at e
  exact ⟨_, _, e⟩
theorem nan_read32 (b : Nat) (hb : b < 4294967296) (h : isN32 b = true) : ∃ s f, FloatKind.f32.decode b = .nan s f := by
  have : 2139095040 < mag32 b := of_decide_eq_true h
  have hl : mag32 b < 2147483648 := Nat.mod_lt _ (by decide)
  have e := Fs.read_word (sgb32 b) (mag32 b) hl
  rw [word_mag32 b hb, if_neg (by omega), if_neg (by omega), if_neg (by omega)] at e
  exact ⟨_, _, e⟩
theorem cut32 (t : Nat) : isN32 (t % 2 * 2 ^ 31 + 2139095040 + 1 + t / 2 % (2 ^ 23 - 1)) = true ∧ t % 2 * 2 ^ 31 + 2139095040 + 1 + t / 2 % (2 ^ 23 - 1) < 4294967296 := by
  have h1 : t / 2 % (2 ^ 23 - 1) < 8388607 := Nat.mod_lt _ (by decide)
  unfold isN32 mag32
  generalize t / 2 % (2 ^ 23 - 1) = u at *
  rcases Nat.mod_two_eq_zero_or_one t with h | h <;> rw [h]
  · exact ⟨decide_eq_true (by omega), by omega⟩
  · exact ⟨decide_eq_true (by omega), by omega⟩
theorem cut64 (t : Nat) : isN (t % 2 * 2 ^ 63 + 9218868437227405312 + 1 + t / 2 % (2 ^ 52 - 1)) = true ∧ t % 2 * 2 ^ 63 + 9218868437227405312 + 1 + t / 2 % (2 ^ 52 - 1) < 18446744073709551616 := by
  have h1 : t / 2 % (2 ^ 52 - 1) < 4503599627370495 := Nat.mod_lt _ (by decide)
  unfold isN mag
  generalize t / 2 % (2 ^ 52 - 1) = u at *
  rcases Nat.mod_two_eq_zero_or_one t with h | h <;> rw [h]
  · exact ⟨decide_eq_true (by omega), by omega⟩
  · exact ⟨decide_eq_true (by omega), by omega⟩

theorem run_conv32_nan (b : Nat) (hb : b < 18446744073709551616) (h : isN b = true) (w : World) : ∃ r, isN32 r = true ∧ r < 4294967296 ∧ (convert 32 25 (.float .f64 b)).run Tryd.prog w = .ok (.float .f32 r) w.drew := by
  obtain ⟨s, f, hd⟩ := nan_read64 b hb h
  refine ⟨Question.cut (.nanConv .f32 b) (w.tape w.drawn (.nanConv .f32 b)), ?_, ?_, ?_⟩
  · exact (cut32 _).1
  · exact (cut32 _).2
  · simp [convert, run_underlying Tryd.underlying32, run_underlying Tryd.underlying25, Conv.floatToFloat, hd, choose, Sem.run, Question.forced]
theorem run_conv64_nan (b : Nat) (hb : b < 4294967296) (h : isN32 b = true) (w : World) : ∃ r, isN r = true ∧ r < 18446744073709551616 ∧ (convert 25 32 (.float .f32 b)).run Tryd.prog w = .ok (.float .f64 r) w.drew := by
  obtain ⟨s, f, hd⟩ := nan_read32 b hb h
  refine ⟨Question.cut (.nanConv .f64 b) (w.tape w.drawn (.nanConv .f64 b)), ?_, ?_, ?_⟩
  · exact (cut64 _).1
  · exact (cut64 _).2
  · simp [convert, run_underlying Tryd.underlying32, run_underlying Tryd.underlying25, Conv.floatToFloat, hd, choose, Sem.run, Question.forced]

set_option maxHeartbeats 400000 in
theorem widen_nan (b : Nat) (hb : b < 4294967296) (h : isN32 b = true) (w : World) :
    Calls Tryd.prog 16 #[.float .f32 b] w fun e w' => e = .returned (.float .f64 9221120237041090560) ∧ ∃ d, w' = w.drewN d := by
  obtain ⟨r, r1, r2, C⟩ := run_conv64_nan b hb h w
  have H : Hid (∀ w, Calls Tryd.prog 44 #[.float .f64 r] w fun e w' => e = .returned (.float .f64 9221120237041090560) ∧ w' = w) := fun w => by
    have := one_any r r2 w
    unfold one at this
    rwa [if_pos (isN_of r1)] at this
  clear r1 r2
  go_enter Tryd.func16, Tryd.ntmps16
  go_wp2_with (go_at_call 44; refine (H.out _).mono ?_; rintro e w' ⟨rfl, rfl⟩)
  go_ret
  exact ⟨rfl, 1, rfl⟩

set_option maxHeartbeats 1000000 in
theorem narrow_nan_core (x y : Nat) (mode r M E : Int) (neg : Bool) (hr : (r != 0) = true)
    (H0 : Hid (∀ w, Calls Tryd.prog 47 #[.int .i64 mode] w fun e w' => e = .returned (.bool true) ∧ w' = w))
    (H1 : Hid (∀ w, Calls Tryd.prog 48 #[.float .f64 x] w fun e w' => e = .returned (.tuple #[.bool neg, .int .u64 M, .int .i64 E, .int .i64 r]) ∧ w' = w)) (w : World)
    (C : (convert 32 25 (.float .f64 x)).run Tryd.prog (w.alloc (.cells #[.bool false, .bool false, .bool false] 36)) = .ok (.float .f32 y) (w.alloc (.cells #[.bool false, .bool false, .bool false] 36)).drew)
    (H2 : Hid (∀ w, Calls Tryd.prog 14 #[.float .f32 y] w fun e w' => e = .returned (.float .f32 2143289344) ∧ w' = w)) :
    Calls Tryd.prog 20 #[.float .f64 x, .int .i64 mode] w fun e w' => e = .returned (.tuple #[.float .f32 2143289344, .agg #[.bool false, .bool false, .bool false], .int .i64 0]) ∧ Gr w w' := by
  go_enter Tryd.func20, Tryd.ntmps20
  go_wp2_with (first | (go_at_call 47; refine (H0.out _).mono ?_; rintro e w' ⟨rfl, rfl⟩) | (go_at_call 48; refine (H1.out _).mono ?_; rintro e w' ⟨rfl, rfl⟩) | (go_at_call 14; refine (H2.out _).mono ?_; rintro e w' ⟨rfl, rfl⟩))
  refine bodyPost_ret (v := .tuple #[.float .f32 2143289344, .agg #[.bool false, .bool false, .bool false], .int .i64 0]) (by simp [results, Tryd.results20, go_sem]) rfl ?_
  exact ⟨rfl, by (repeat (first | exact Gr.refl _ | refine Gr.setCell ?_ _ _ (Nat.le_refl _) | refine Gr.alloc ?_ _ _ | refine Gr.drewN ?_ _ | refine Gr.drew ?_))⟩

theorem narrow_nan (b : Nat) (hb : Hid (b < 18446744073709551616)) (mode : Int) (hm : okMode mode = true) (h : isN b = true) (w : World) :
    Calls Tryd.prog 20 #[.float .f64 b, .int .i64 mode] w fun e w' => e = .returned (.tuple #[.float .f32 2143289344, .agg #[.bool false, .bool false, .bool false], .int .i64 0]) ∧ Gr w w' := by
  obtain ⟨r, r1, r2, C⟩ := run_conv32_nan b hb h (w.alloc (.cells #[.bool false, .bool false, .bool false] 36))
  have hR : spR b = 10 := by unfold spR; rw [if_pos (by have := isN_of h; omega)]
  refine narrow_nan_core b r mode (spR b) (spMz b) (spE b) (spN b) (by rw [hR]; rfl) (fun w => by have := mayBe_any mode w; rwa [hm] at this) (fun w => split_any b hb w) w C (fun w => ?_)
  have := one32_any r r2 w
  unfold one32 at this
  rwa [if_pos (of_decide_eq_true r1)] at this
end Go.Proofs.YtckjmcfncfoboaaDoor
