/- The document's ToInt and ToUint; what both sides answer. -/
import Derived.Test.YtckjmcfncfoboaaDoorRx
import Derived.Test.YtckjmcfncfoboaaDoorSk
namespace Go.Proofs.YtckjmcfncfoboaaDoor
open Go.RowKit
open Ieee

set_option maxHeartbeats 1000000 in
theorem rToInt_core (a mode R T x s : Int) (A : Bool) (r0 : 0 ≤ R) (r1 : R < 18446744073709551616)
    (H : Hid (∀ w, Calls Tryd.prog 68 #[.int .u64 a, .int .i64 mode] w fun e w' => e = .returned (.tuple #[.bool A, .int .u64 R, .int .i64 T]) ∧ ∃ d, w' = w.drewN d))
    (hx : (((T != 0) = true ∧ x = 0 ∧ s = T) ∨ ((T != 0) = false ∧ ((A = true ∧ R ≤ 9223372036854775808 ∧ x = -R ∧ s = 0) ∨ (A = true ∧ 9223372036854775808 < R ∧ x = 0 ∧ s = 11) ∨ (A = false ∧ 9223372036854775808 ≤ R ∧ x = 0 ∧ s = 11) ∨ (A = false ∧ R < 9223372036854775808 ∧ x = R ∧ s = 0))))) (w : World) :
    Calls Tryd.prog 33 #[.int .u64 a, .int .i64 mode] w fun e w' => e = .returned (.tuple #[.int .i64 x, .int .i64 s]) ∧ ∃ d, w' = w.drewN d := by
  rcases hx with ⟨hT, rfl, rfl⟩ | ⟨hT, ⟨rfl, hc, hx, rfl⟩ | ⟨rfl, hc, rfl, rfl⟩ | ⟨rfl, hc, rfl, rfl⟩ | ⟨rfl, hc, hx, rfl⟩⟩
  · go_enter Tryd.func33, Tryd.ntmps33
    go_wp2_with (go_at_call 68; refine (H.out _).mono ?_; rintro e w' ⟨rfl, d, rfl⟩)
    go_ret2
    exact ⟨rfl, _, rfl⟩
  · have HX : Hid (x = -R) := hx
    clear hx
    go_enter Tryd.func33, Tryd.ntmps33
    go_wp2_with (go_at_call 68; refine (H.out _).mono ?_; rintro e w' ⟨rfl, d, rfl⟩)
    go_ret2
    refine ⟨ret2 (int_eq ?_) rfl, _, rfl⟩
    rw [HX.out, IntKind.wrap_u64]
    unfold wrap64
    omega
  · go_enter Tryd.func33, Tryd.ntmps33
    go_wp2_with (go_at_call 68; refine (H.out _).mono ?_; rintro e w' ⟨rfl, d, rfl⟩)
    go_ret2
    exact ⟨rfl, _, rfl⟩
  · go_enter Tryd.func33, Tryd.ntmps33
    go_wp2_with (go_at_call 68; refine (H.out _).mono ?_; rintro e w' ⟨rfl, d, rfl⟩)
    go_ret2
    exact ⟨rfl, _, rfl⟩
  · have HX : Hid (x = R) := hx
    clear hx
    go_enter Tryd.func33, Tryd.ntmps33
    go_wp2_with (go_at_call 68; refine (H.out _).mono ?_; rintro e w' ⟨rfl, d, rfl⟩)
    go_ret2
    exact ⟨ret2 (int_eq HX.out.symm) rfl, _, rfl⟩

set_option maxHeartbeats 1000000 in
theorem rToUint_core (a mode R T x s : Int) (A : Bool)
    (H : Hid (∀ w, Calls Tryd.prog 68 #[.int .u64 a, .int .i64 mode] w fun e w' => e = .returned (.tuple #[.bool A, .int .u64 R, .int .i64 T]) ∧ ∃ d, w' = w.drewN d))
    (hx : ((T == 0) = true ∧ A = true ∧ 0 < R ∧ x = 0 ∧ s = 11) ∨ (((T == 0) = false ∨ A = false ∨ R ≤ 0) ∧ x = R ∧ s = T)) (w : World) :
    Calls Tryd.prog 35 #[.int .u64 a, .int .i64 mode] w fun e w' => e = .returned (.tuple #[.int .u64 x, .int .i64 s]) ∧ ∃ d, w' = w.drewN d := by
  rcases hx with ⟨hT, rfl, hR, rfl, rfl⟩ | ⟨hh, hx, hs⟩
  · go_enter Tryd.func35, Tryd.ntmps35
    go_wp2_with (go_at_call 68; refine (H.out _).mono ?_; rintro e w' ⟨rfl, d, rfl⟩)
    go_ret2
    exact ⟨rfl, _, rfl⟩
  · have HX : Hid (x = R) := hx
    have HS : Hid (s = T) := hs
    clear hx hs
    by_cases c1 : (T == 0) = true
    · cases A
      · clear hh
        go_enter Tryd.func35, Tryd.ntmps35
        go_wp2_with (go_at_call 68; refine (H.out _).mono ?_; rintro e w' ⟨rfl, d, rfl⟩)
        go_ret2
        exact ⟨ret2 (int_eq HX.out.symm) (int_eq HS.out.symm), _, rfl⟩
      · have c2 : R ≤ 0 := by
          rcases hh with h | h | h
          · rw [c1] at h; cases h
          · cases h
          · exact h
        clear hh
        go_enter Tryd.func35, Tryd.ntmps35
        go_wp2_with (go_at_call 68; refine (H.out _).mono ?_; rintro e w' ⟨rfl, d, rfl⟩)
        go_ret2
        exact ⟨ret2 (int_eq HX.out.symm) (int_eq HS.out.symm), _, rfl⟩
    · have c1' : (T == 0) = false := by simpa using c1
      clear hh c1
      go_enter Tryd.func35, Tryd.ntmps35
      go_wp2_with (go_at_call 68; refine (H.out _).mono ?_; rintro e w' ⟨rfl, d, rfl⟩)
      go_ret2
      exact ⟨ret2 (int_eq HX.out.symm) (int_eq HS.out.symm), _, rfl⟩

/-- The code's ToUint, of a finite number. -/
def tuOk (mode : Int) (b : Nat) : Bool := decide (0 ≤ tiV mode b ∧ tiV mode b < 18446744073709551616)

theorem order64 (mode : Int) (b : Nat) (h : mag b < 9218868437227405312) :
    FloatKind.f64.format.order (whW mode b) 0 = some (if whV mode b = 0 then .eq else if sgb b then .lt else .gt) ∧
    FloatKind.f64.format.order (whW mode b) 4895412794951729152 = some (if sgb b then .lt else (if whV mode b < 18446744073709551616 then .lt else if whV mode b = 18446744073709551616 then .eq else .gt)) := by
  obtain ⟨R, e, r1, r2, r3, _⟩ := whW_word mode b h
  obtain ⟨t1, t2⟩ := r3 64 (by decide) (by decide)
  rw [show (64 + 1023) * 4503599627370496 = 4895412794951729152 from rfl, show (2 : Nat) ^ 64 = 18446744073709551616 from rfl] at t1 t2
  have o1 := Fl.order_words (sgb b) false R 0 (by omega) (by decide)
  have o2 := Fl.order_words (sgb b) false R 4895412794951729152 (by omega) (by decide)
  rw [show double.word false 0 = 0 from rfl] at o1
  rw [show double.word false 4895412794951729152 = 4895412794951729152 from rfl] at o2
  rw [e]
  refine ⟨o1.trans ?_, o2.trans ?_⟩
  · congr 1
    unfold Fl.ordW
    by_cases hz : R = 0
    · rw [if_pos ⟨hz, rfl⟩, if_pos (r2.1 hz)]
    · rw [if_neg (fun c => hz c.1), if_neg (mt r2.2 hz)]
      cases sgb b
      · simp only [Bool.false_eq_true, if_false]
        rw [if_neg (by omega), if_neg hz]
      · rfl
  · congr 1
    unfold Fl.ordW
    rw [if_neg (by omega)]
    cases sgb b
    · simp only [Bool.false_eq_true, if_false]
      by_cases x : R < 4895412794951729152
      · rw [if_pos x, if_pos (t1.1 x)]
      · rw [if_neg x, if_neg (mt t1.2 x)]
        by_cases y : R = 4895412794951729152
        · rw [if_pos y, if_pos (by omega)]
        · rw [if_neg y, if_neg (by omega)]
    · rfl

theorem run_conv_u64 {b : Nat} {n : Int} (h : floatToIntVal .f64 b .u64 = some n) (w : World) : (convert 32 23 (.float .f64 b)).run Tryd.prog w = .ok (.int .u64 n) w :=
  run_convert_float_int w 32 23 .f64 .u64 b n (by rw [Tryd.underlying32]; rfl) Tryd.underlying23 h

theorem toUint_any (b : Nat) (hb : Hid (b < 18446744073709551616)) (mode : Int) (hm : okMode mode = true) (h : mag b < 9218868437227405312) (w : World) (hT : Tab w) :
    Calls Tryd.prog 34 #[.float .f64 b, .int .i64 mode] w fun e w' => e = .returned (.tuple #[.int .u64 (if tuOk mode b then tiV mode b else 0), .int .i64 (if tuOk mode b then 0 else 11)]) ∧ ∃ d, w' = w.drewN d := by
  obtain ⟨o1, o2⟩ := order64 mode b h
  have hv := tiV_eq mode b
  by_cases hk : tuOk mode b = true
  · rw [hk, if_pos rfl, if_pos rfl]
    have hk' := of_decide_eq_true hk
    obtain ⟨R, e, r1, r2, r3, r4⟩ := whW_word mode b h
    have hc : floatToIntVal .f64 (whW mode b) .u64 = some (tiV mode b) := by
      unfold floatToIntVal
      have : (FloatKind.f64.decode (whW mode b)).toInt .zero = some (tiV mode b) := r4
      rw [this]
      simp only
      have hk2 : IntKind.u64.min ≤ tiV mode b ∧ tiV mode b ≤ IntKind.u64.max := ⟨hk'.1, by have := hk'.2; show tiV mode b ≤ 18446744073709551615; omega⟩
      rw [if_pos hk2]
    have hlt : (if sgb b then Ordering.lt else (if whV mode b < 18446744073709551616 then .lt else if whV mode b = 18446744073709551616 then .eq else .gt)) = Ordering.lt := by
      cases hs : sgb b
      · rw [hs] at hv
        simp only [Bool.false_eq_true, if_false] at hv ⊢
        rw [if_pos (by omega)]
      · rfl
    rw [hlt] at o2
    refine toUint_near b (whW mode b) mode (tiV mode b) _ ?_ o1 o2 (fun w => run_conv_u64 hc w) (fun w hT => whole_any b hb mode hm h w hT) w hT
    by_cases hz : whV mode b = 0
    · rw [if_pos hz]; simp
    · rw [if_neg hz]
      cases hs : sgb b
      · simp
      · rw [hs] at hv
        simp only [if_true] at hv
        omega
  · have hk0 : tuOk mode b = false := by simpa using hk
    rw [hk0, if_neg Bool.false_ne_true, if_neg Bool.false_ne_true]
    have hk' := of_decide_eq_false hk0
    refine toUint_far b (whW mode b) mode _ _ ?_ o1 o2 (fun w hT => whole_any b hb mode hm h w hT) w hT
    cases hs : sgb b
    · rw [hs] at hv
      simp only [Bool.false_eq_true, if_false] at hv ⊢
      right
      rw [if_neg (by omega)]
      split <;> simp
    · rw [hs] at hv
      simp only [if_true] at hv ⊢
      left
      rw [if_neg (by omega)]
end Go.Proofs.YtckjmcfncfoboaaDoor
