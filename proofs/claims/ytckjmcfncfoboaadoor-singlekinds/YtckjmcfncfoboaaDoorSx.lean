/- What Whole, ToInt and ToUint answer. -/
import Derived.Test.YtckjmcfncfoboaaDoorSw
import Derived.Test.YtckjmcfncfoboaaDoorWv
namespace Go.Proofs.YtckjmcfncfoboaaDoor
open Go.RowKit
open Ieee

def whL (b : Nat) : Nat := (spE b).toNat
def whM (mode : Int) (b : Nat) : Nat := Rn.rnd mode (sgb b) (spM b) (-(spE b)).toNat
/-- The magnitude of what is rounded to a whole number. -/
def whV (mode : Int) (b : Nat) : Nat := whM mode b * 2 ^ whL b
def whW (mode : Int) (b : Nat) : Nat := if whM mode b = 0 then double.word (sgb b) 0 else double.nearest (sgb b) (whM mode b) (whL b)

theorem spF (b : Nat) (h : mag b < 9218868437227405312) : spM b < 9007199254740992 ∧ -1074 ≤ spE b ∧ spE b ≤ 971 ∧ spN b = sgb b ∧ spR b = 0 := by
  by_cases h0 : mag b = 0
  · obtain ⟨e1, e2, e3, e4⟩ := spl_0 b h0
    have e2' : (0 : Int) = (spM b : Int) := e2
    exact ⟨by omega, by omega, by omega, e1.symm, e4.symm⟩
  · obtain ⟨_, a2, a3, a4, _, a6, a7⟩ := spM_facts b h h0
    exact ⟨a2, a3, a4, a6, a7⟩

theorem wh_facts (mode : Int) (b : Nat) (h : mag b < 9218868437227405312) : whM mode b < 9007199254740992 ∧ whL b + (whM mode b).log2 ≤ 1023 ∧ whL b ≤ 971 := by
  obtain ⟨a2, a3, a4, _, _⟩ := spF b h
  have hlt : whM mode b < 9007199254740992 := by
    have : whM mode b ≤ spM b := Rn.rnd_le mode _ _ (Nat.le_mul_of_pos_right _ (Nat.two_pow_pos _))
    omega
  have hlog : (whM mode b).log2 ≤ 52 := by
    by_cases c : whM mode b = 0
    · rw [c]; decide
    · have := (Nat.log2_lt c).2 (show whM mode b < 2 ^ 53 from hlt); omega
  refine ⟨hlt, ?_, ?_⟩ <;> (unfold whL at *; omega)

theorem whole_any (b : Nat) (hb : Hid (b < 18446744073709551616)) (mode : Int) (hm : okMode mode = true) (h : mag b < 9218868437227405312) (w : World) (hT : Tab w) :
    Calls Tryd.prog 30 #[.float .f64 b, .int .i64 mode] w fun e w' => e = .returned (.tuple #[.float .f64 (whW mode b), .int .i64 0]) ∧ ∃ d, w' = w.drewN d := by
  obtain ⟨a2, a3, a4, a5, a6⟩ := spF b h
  obtain ⟨f1, f2, f3⟩ := wh_facts mode b h
  have hmb : ∀ w, Calls Tryd.prog 47 #[.int .i64 mode] w fun e w' => e = .returned (.bool true) ∧ w' = w := fun w => by
    have := mayBe_any mode w; rwa [hm] at this
  have hc1 : (cls b == 1) = false := by rw [cls1]; exact decide_eq_false (by omega)
  have hc2 : (cls b == 2) = false := by
    unfold cls
    rw [if_neg (by omega), if_neg (by omega)]
    split
    · rfl
    · split <;> rfl
  have hj : joinW (sgb b) (whM mode b : Int) (whL b : Int) = whW mode b ∧ joinR (whM mode b : Int) (whL b : Int) = 0 := by
    unfold whW
    by_cases c : whM mode b = 0
    · rw [if_pos c, c]; exact join_nought _ _
    · rw [if_neg c]; exact join_ok _ _ _ c (by omega) (by omega) (by omega)
  refine whole_fin b (whW mode b) mode (cls b) (spMz b) (spE b) (whL b) (whM mode b) 0 0 (sgb b) (decide ((spMz b).toNat % 2 ^ ((whL b : Int) - spE b).toNat ≠ 0)) hc1 hc2 a3 a4 (by unfold whL; omega) hmb (class_any b hb) (fun w => ?_) (fun w => ?_) (fun w hT => ?_) w hT
  · have := split_any b hb w
    rwa [a5, a6] at this
  · have hz : (spMz b) = (spM b : Int) := rfl
    have := rounded_any (sgb b) (spMz b) ((whL b : Int) - spE b) mode (by rw [hz]; omega) (by rw [hz]; omega) (by unfold whL; omega) (Or.inr (by rw [hz]; omega)) w
    have e : Rn.rnd mode (sgb b) (spMz b).toNat ((whL b : Int) - spE b).toNat = whM mode b := by
      unfold whM
      rw [hz, Int.toNat_natCast]
      by_cases c : 0 ≤ spE b
      · rw [show ((whL b : Int) - spE b).toNat = 0 by unfold whL; omega, show (-(spE b)).toNat = 0 by omega]
      · rw [show ((whL b : Int) - spE b).toNat = (-(spE b)).toNat by unfold whL; omega]
    rwa [e] at this
  · have := join_any (sgb b) (whM mode b) (whL b) (by omega) (by omega) (by omega) w hT
    rwa [hj.1, hj.2] at this

theorem whole_isbad (b : Nat) (mode : Int) (hm : okMode mode = false) (w : World) :
    Calls Tryd.prog 30 #[.float .f64 b, .int .i64 mode] w fun e w' => e = .returned (.tuple #[.float .f64 0, .int .i64 1]) ∧ ∃ d, w' = w.drewN d :=
  (whole_bad b mode (fun w => by have := mayBe_any mode w; rwa [hm] at this) w).mono fun _ _ h => ⟨h.1, 0, h.2⟩
theorem whole_isnan (b : Nat) (hb : Hid (b < 18446744073709551616)) (mode : Int) (hm : okMode mode = true) (h : isN b = true) (w : World) :
    Calls Tryd.prog 30 #[.float .f64 b, .int .i64 mode] w fun e w' => e = .returned (.tuple #[.float .f64 0, .int .i64 10]) ∧ ∃ d, w' = w.drewN d :=
  (whole_nan b mode (fun w => by have := mayBe_any mode w; rwa [hm] at this) (fun w => by
    have := class_any b hb w
    rwa [eq_of_beq (show (cls b == 1) = true by rw [cls1]; exact h)] at this) w).mono fun _ _ h => ⟨h.1, 0, h.2⟩
theorem cls_inf (b : Nat) (h : mag b = 9218868437227405312) : cls b = 2 := by
  unfold cls; rw [if_neg (by omega), if_pos h]
theorem whole_isinf (b : Nat) (hb : Hid (b < 18446744073709551616)) (mode : Int) (hm : okMode mode = true) (h : mag b = 9218868437227405312) (w : World) :
    Calls Tryd.prog 30 #[.float .f64 b, .int .i64 mode] w fun e w' => e = .returned (.tuple #[.float .f64 b, .int .i64 0]) ∧ ∃ d, w' = w.drewN d :=
  (whole_inf b mode (fun w => by have := mayBe_any mode w; rwa [hm] at this) (fun w => by
    have := class_any b hb w
    rwa [cls_inf b h] at this) w).mono fun _ _ h => ⟨h.1, 0, h.2⟩

/-- What Whole's word is: its rung against a power of two, and the whole number itself. -/
theorem whW_word (mode : Int) (b : Nat) (h : mag b < 9218868437227405312) : ∃ R, whW mode b = double.word (sgb b) R ∧ R < 9218868437227405312 ∧ (R = 0 ↔ whV mode b = 0) ∧
    (∀ t, 52 ≤ t → t ≤ 1000 → (R < (t + 1023) * 4503599627370496 ↔ whV mode b < 2 ^ t) ∧ ((t + 1023) * 4503599627370496 < R ↔ 2 ^ t < whV mode b)) ∧
    (double.read (whW mode b)).toInt .zero = some (signed (sgb b) (whV mode b) 0) := by
  obtain ⟨f1, f2, f3⟩ := wh_facts mode b h
  have hv : whV mode b = whM mode b * 2 ^ whL b := rfl
  have hp : 0 < 2 ^ whL b := Nat.two_pow_pos _
  by_cases c : whM mode b = 0
  · have hv0 : whV mode b = 0 := by rw [hv, c, Nat.zero_mul]
    have hw : whW mode b = double.word (sgb b) 0 := by unfold whW; rw [if_pos c]
    rw [hw, hv0]
    refine ⟨0, rfl, by decide, by simp, fun t ht0 ht1 => ?_, ?_⟩
    · have := Nat.two_pow_pos t
      constructor <;> constructor <;> intro h <;> omega
    · cases sgb b <;> decide +kernel
  · have hw : whW mode b = double.nearest (sgb b) (whM mode b) (whL b) := by unfold whW; rw [if_neg c]
    have hv0 : whV mode b ≠ 0 := by rw [hv]; exact Nat.mul_ne_zero c (by omega)
    obtain ⟨R, e, r1, r2, r3, r4⟩ := whole_word (sgb b) (whM mode b) (whL b) c f1 f2
    rw [hw]
    exact ⟨R, e, r1, by omega, r3, r4⟩

theorem order63 (mode : Int) (b : Nat) (h : mag b < 9218868437227405312) :
    FloatKind.f64.format.order (whW mode b) 14114281232179134464 = some (if sgb b then (if 9223372036854775808 < whV mode b then .lt else if whV mode b = 9223372036854775808 then .eq else .gt) else .gt) ∧
    FloatKind.f64.format.order (whW mode b) 4890909195324358656 = some (if sgb b then .lt else (if whV mode b < 9223372036854775808 then .lt else if whV mode b = 9223372036854775808 then .eq else .gt)) := by
  obtain ⟨R, e, r1, r2, r3, _⟩ := whW_word mode b h
  obtain ⟨t1, t2⟩ := r3 63 (by decide) (by decide)
  rw [show (63 + 1023) * 4503599627370496 = 4890909195324358656 from rfl, show (2 : Nat) ^ 63 = 9223372036854775808 from rfl] at t1 t2
  have o1 := Fl.order_words (sgb b) true R 4890909195324358656 (by omega) (by decide)
  have o2 := Fl.order_words (sgb b) false R 4890909195324358656 (by omega) (by decide)
  rw [show double.word true 4890909195324358656 = 14114281232179134464 from rfl] at o1
  rw [show double.word false 4890909195324358656 = 4890909195324358656 from rfl] at o2
  rw [e]
  refine ⟨o1.trans ?_, o2.trans ?_⟩
  · congr 1
    unfold Fl.ordW
    rw [if_neg (by omega)]
    cases sgb b
    · rfl
    · simp only [if_true]
      by_cases x : 4890909195324358656 < R
      · rw [if_pos x, if_pos (t2.1 x)]
      · rw [if_neg x, if_neg (mt t2.2 x)]
        by_cases y : R = 4890909195324358656
        · rw [if_pos y, if_pos (by omega)]
        · rw [if_neg y, if_neg (by omega)]
  · congr 1
    unfold Fl.ordW
    rw [if_neg (by omega)]
    cases sgb b
    · simp only [Bool.false_eq_true, if_false]
      by_cases x : R < 4890909195324358656
      · rw [if_pos x, if_pos (t1.1 x)]
      · rw [if_neg x, if_neg (mt t1.2 x)]
        by_cases y : R = 4890909195324358656
        · rw [if_pos y, if_pos (by omega)]
        · rw [if_neg y, if_neg (by omega)]
    · rfl

/-- The whole number, and whether an int64 holds it. -/
def tiV (mode : Int) (b : Nat) : Int := signed (sgb b) (whV mode b) 0
def tiOk (mode : Int) (b : Nat) : Bool := decide (-9223372036854775808 ≤ tiV mode b ∧ tiV mode b ≤ 9223372036854775807)
theorem tiV_eq (mode : Int) (b : Nat) : tiV mode b = if sgb b then -(whV mode b : Int) else whV mode b := by
  unfold tiV signed
  rw [Nat.shiftLeft_zero]

theorem run_conv_i64 {b : Nat} {n : Int} (h : floatToIntVal .f64 b .i64 = some n) (w : World) : (convert 32 2 (.float .f64 b)).run Tryd.prog w = .ok (.int .i64 n) w :=
  run_convert_float_int w 32 2 .f64 .i64 b n (by rw [Tryd.underlying32]; rfl) Tryd.underlying2 h

theorem toInt_any (b : Nat) (hb : Hid (b < 18446744073709551616)) (mode : Int) (hm : okMode mode = true) (h : mag b < 9218868437227405312) (w : World) (hT : Tab w) :
    Calls Tryd.prog 32 #[.float .f64 b, .int .i64 mode] w fun e w' => e = .returned (.tuple #[.int .i64 (if tiOk mode b then tiV mode b else 0), .int .i64 (if tiOk mode b then 0 else 11)]) ∧ ∃ d, w' = w.drewN d := by
  obtain ⟨o1, o2⟩ := order63 mode b h
  have hv := tiV_eq mode b
  by_cases hk : tiOk mode b = true
  · rw [hk, if_pos rfl, if_pos rfl]
    have hk' := of_decide_eq_true hk
    obtain ⟨R, e, r1, r2, r3, r4⟩ := whW_word mode b h
    have hc : floatToIntVal .f64 (whW mode b) .i64 = some (tiV mode b) := by
      unfold floatToIntVal
      have : (FloatKind.f64.decode (whW mode b)).toInt .zero = some (tiV mode b) := r4
      rw [this]
      simp only
      have hk2 : IntKind.i64.min ≤ tiV mode b ∧ tiV mode b ≤ IntKind.i64.max := hk'
      rw [if_pos hk2]
    have hlt : (if sgb b then Ordering.lt else (if whV mode b < 9223372036854775808 then .lt else if whV mode b = 9223372036854775808 then .eq else .gt)) = Ordering.lt := by
      cases hs : sgb b
      · rw [hs] at hv
        simp only [Bool.false_eq_true, if_false] at hv ⊢
        rw [if_pos (by omega)]
      · rfl
    rw [hlt] at o2
    refine toInt_near b (whW mode b) mode (tiV mode b) _ ?_ o1 o2 (fun w => run_conv_i64 hc w) (fun w hT => whole_any b hb mode hm h w hT) w hT
    cases hs : sgb b
    · simp
    · rw [hs] at hv
      simp only [if_true] at hv ⊢
      rw [if_neg (by omega)]
      split <;> simp
  · have hk0 : tiOk mode b = false := by simpa using hk
    rw [hk0, if_neg Bool.false_ne_true, if_neg Bool.false_ne_true]
    have hk' := of_decide_eq_false hk0
    refine toInt_far b (whW mode b) mode _ _ ?_ o1 o2 (fun w hT => whole_any b hb mode hm h w hT) w hT
    cases hs : sgb b
    · rw [hs] at hv
      simp only [Bool.false_eq_true, if_false] at hv ⊢
      right
      rw [if_neg (by omega)]
      split <;> simp
    · rw [hs] at hv
      simp only [if_true] at hv ⊢
      left
      rw [if_pos (by omega)]
end Go.Proofs.YtckjmcfncfoboaaDoor
