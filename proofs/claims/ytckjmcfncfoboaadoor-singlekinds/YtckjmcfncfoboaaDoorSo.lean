/- Narrow of any number but the NaN; Widen of any single but the NaN. -/
import Derived.Test.YtckjmcfncfoboaaDoorSn
namespace Go.Proofs.YtckjmcfncfoboaaDoor
open Go.RowKit
open Ieee

def nwW (mode : Int) (b : Nat) : Nat := if mag b = 9218868437227405312 then single.word (sgb b) 2139095040 else if mag b = 0 then single.word (sgb b) 0 else Rn.word32 mode (sgb b) (spM b) (spE b)
def plainB (b : Nat) : Bool := decide (mag b = 9218868437227405312) || decide (mag b = 0)
def nwO (mode : Int) (b : Nat) : Bool := !plainB b && nrO mode (sgb b) (spM b) (spE b)
def nwI (mode : Int) (b : Nat) : Bool := !plainB b && (nrO mode (sgb b) (spM b) (spE b) || nrI (spM b) (spE b))
def nwU (mode : Int) (b : Nat) : Bool := !plainB b && (!nrO mode (sgb b) (spM b) (spE b) && nrU (spM b) (spE b))

theorem word32_lt (neg : Bool) (r : Nat) (h : r ≤ 2139095040) : single.word neg r < 4294967296 ∧ mag32 (single.word neg r) = r ∧ sgb32 (single.word neg r) = neg ∧ one32 (single.word neg r) = single.word neg r := by
  have hm : mag32 (single.word neg r) = r := by
    unfold mag32 Format.word
    rw [Fs.sw]
    cases neg
    · simp only [Bool.false_eq_true, if_false]; omega
    · simp only [if_true]; omega
  refine ⟨?_, hm, ?_, ?_⟩
  · unfold Format.word
    rw [Fs.sw]
    split <;> omega
  · unfold sgb32 Format.word
    rw [Fs.sw]
    cases neg
    · simp only [Bool.false_eq_true, if_false]; exact decide_eq_false (by omega)
    · simp only [if_true]; exact decide_eq_true (by omega)
  · unfold one32; rw [hm, if_neg (by omega)]

theorem narrow_any (b : Nat) (hb : Hid (b < 18446744073709551616)) (mode : Int) (hm : okMode mode = true) (hn : isN b = false) (w : World) (hT : Tab w) :
    Calls Tryd.prog 20 #[.float .f64 b, .int .i64 mode] w fun e w' =>
      e = .returned (.tuple #[.float .f32 (nwW mode b), .agg #[.bool (nwI mode b), .bool (nwO mode b), .bool (nwU mode b)], .int .i64 0]) ∧ Gr w w' := by
  have hmb : ∀ w, Calls Tryd.prog 47 #[.int .i64 mode] w fun e w' => e = .returned (.bool true) ∧ w' = w := fun w => by
    have := mayBe_any mode w; rwa [hm] at this
  have hle := isN_not hn
  have hw := word_mag b hb.out
  by_cases hp : plainB b = true
  · have key : spR b ≠ 0 ∨ spMz b = 0 := by
      unfold plainB at hp
      rw [Bool.or_eq_true, decide_eq_true_eq, decide_eq_true_eq] at hp
      rcases hp with hp | hp
      · left; unfold spR; rw [if_pos (by omega)]; decide
      · right; unfold spMz spM; rw [if_neg (by omega), if_pos (by omega), hp]; rfl
    obtain ⟨r, hr, hc, hW⟩ : ∃ r, r ≤ 2139095040 ∧ floatToFloatBits .f64 b .f32 = some (single.word (sgb b) r) ∧ nwW mode b = single.word (sgb b) r := by
      unfold plainB at hp
      rw [Bool.or_eq_true, decide_eq_true_eq, decide_eq_true_eq] at hp
      unfold nwW
      by_cases hi : mag b = 9218868437227405312
      · refine ⟨2139095040, by decide, ?_, by rw [if_pos hi]⟩
        rw [← hw, hi, (word64_lt (sgb b) 9218868437227405312 (by decide)).2.2]
        exact conv32_inf _
      · have hz : mag b = 0 := by omega
        refine ⟨0, by decide, ?_, by rw [if_neg hi, if_pos hz]⟩
        rw [← hw, hz, (word64_lt (sgb b) 0 (by decide)).2.2]
        exact conv32_nought _
    have ho := word32_lt (sgb b) r hr
    have h1 : nwI mode b = false := by unfold nwI; rw [hp, Bool.not_true, Bool.false_and]
    have h2 : nwO mode b = false := by unfold nwO; rw [hp, Bool.not_true, Bool.false_and]
    have h3 : nwU mode b = false := by unfold nwU; rw [hp, Bool.not_true, Bool.false_and]
    rw [h1, h2, h3, hW]
    refine narrow_plain b (single.word (sgb b) r) _ mode (spMz b) (spE b) (spR b) (spN b) ?_ hmb (fun w => split_any b hb w) (fun w => run_conv32 hc w) (fun w => by
      have := one32_any (single.word (sgb b) r) ho.1 w
      rwa [ho.2.2.2] at this) w
    rcases key with k | k
    · rw [bne_iff_ne.2 k, Bool.true_or]
    · rw [k, show ((0 : Int) == 0) = true from rfl, Bool.or_true]
  · have hp' : plainB b = false := by simpa using hp
    have hx : mag b ≠ 9218868437227405312 ∧ mag b ≠ 0 := by
      unfold plainB at hp'
      rw [Bool.or_eq_false_iff, decide_eq_false_iff_not, decide_eq_false_iff_not] at hp'
      exact hp'
    have h1 : nwI mode b = (nrO mode (sgb b) (spM b) (spE b) || nrI (spM b) (spE b)) := by unfold nwI; rw [hp', Bool.not_false, Bool.true_and]
    have h2 : nwO mode b = nrO mode (sgb b) (spM b) (spE b) := by unfold nwO; rw [hp', Bool.not_false, Bool.true_and]
    have h3 : nwU mode b = (!nrO mode (sgb b) (spM b) (spE b) && nrU (spM b) (spE b)) := by unfold nwU; rw [hp', Bool.not_false, Bool.true_and]
    have h4 : nwW mode b = Rn.word32 mode (sgb b) (spM b) (spE b) := by unfold nwW; rw [if_neg hx.1, if_neg hx.2]
    rw [h1, h2, h3, h4]
    exact narrow_finite b hb mode hm (by omega) hx.2 w hT

theorem narrow_none (b : Nat) (mode : Int) (hm : okMode mode = false) (w : World) :
    Calls Tryd.prog 20 #[.float .f64 b, .int .i64 mode] w fun e w' => e = .returned (.tuple #[.float .f32 0, .agg #[.bool false, .bool false, .bool false], .int .i64 1]) ∧ Gr w w' :=
  narrow_bad b mode (fun w => by have := mayBe_any mode w; rwa [hm] at this) w

set_option maxHeartbeats 400000 in
theorem widen_core (b y z : Nat) (C : ∀ w, (convert 25 32 (.float .f32 b)).run Tryd.prog w = .ok (.float .f64 y) w)
    (H : Hid (∀ w, Calls Tryd.prog 44 #[.float .f64 y] w fun e w' => e = .returned (.float .f64 z) ∧ w' = w)) (w : World) :
    Calls Tryd.prog 16 #[.float .f32 b] w fun e w' => e = .returned (.float .f64 z) ∧ w' = w := by
  go_enter Tryd.func16, Tryd.ntmps16
  go_wp2_with (go_at_call 44; refine (H.out _).mono ?_; rintro e w' ⟨rfl, rfl⟩)
  go_ret
  exact ⟨rfl, rfl⟩

theorem run_conv64 {b r : Nat} (h : floatToFloatBits .f32 b .f64 = some r) (w : World) : (convert 25 32 (.float .f32 b)).run Tryd.prog w = .ok (.float .f64 r) w :=
  run_convert_float_float w 25 32 .f32 .f64 b r (by rw [Tryd.underlying25]; rfl) Tryd.underlying32 h

/-- The number of a single that is finite. -/
def wdW (neg : Bool) (r : Nat) : Nat := if r = 2139095040 then double.word neg 9218868437227405312 else if r = 0 then double.word neg 0 else double.nearest neg (Fs.mantOf r) (Fs.placeOf r)
theorem fits32 (r : Nat) (h : r < 2139095040) (h0 : r ≠ 0) : Fl.Fits (Fs.mantOf r) (Fs.placeOf r) := by
  have c := Fs.canon_of r
  have e := Fs.rungOf_of r
  have hz : Fs.mantOf r ≠ 0 := fun c => h0 ((Fs.mant_zero r).1 c)
  have hl : (Fs.mantOf r).log2 < 24 := (Nat.log2_lt hz).2 c.1
  unfold Fs.canon at c
  unfold Fs.rungOf at e
  exact ⟨hz, by omega, by omega, by omega⟩
theorem wd_conv (neg : Bool) (r : Nat) (h : r ≤ 2139095040) : floatToFloatBits .f32 (single.word neg r) .f64 = some (wdW neg r) := by
  unfold wdW
  by_cases hi : r = 2139095040
  · rw [if_pos hi, hi]; cases neg <;> decide +kernel
  · rw [if_neg hi]
    by_cases h0 : r = 0
    · rw [if_pos h0, h0]; cases neg <;> decide +kernel
    · rw [if_neg h0]
      have hlt : r < 2139095040 := by omega
      have f := fits32 r hlt h0
      obtain ⟨k, c, hr, e, rd⟩ := Fl.fit neg f
      have hd : FloatKind.f32.decode (single.word neg r) = .number neg (Fs.mantOf r) (Fs.placeOf r) := Fs.read_fin neg r hlt
      have hn : FloatKind.f64.encode (.number neg (Fs.mantOf r) (Fs.placeOf r)) = double.nearest neg (Fs.mantOf r) (Fs.placeOf r) := rfl
      have hi : (FloatKind.f64.decode (double.nearest neg (Fs.mantOf r) (Fs.placeOf r))).isInfinity = false := by
        show (double.read _).isInfinity = false
        rw [rd]; rfl
      unfold floatToFloatBits
      rw [if_neg (by decide), hd]
      simp only [hn, hi]
      rfl
theorem wd_word (neg : Bool) (r : Nat) (h : r ≤ 2139095040) : wdW neg r < 18446744073709551616 ∧ isN (wdW neg r) = false := by
  unfold wdW
  by_cases hi : r = 2139095040
  · rw [if_pos hi]
    have := word64_lt neg 9218868437227405312 (by decide)
    exact ⟨this.1, by unfold isN; rw [this.2.1]; decide⟩
  · rw [if_neg hi]
    by_cases h0 : r = 0
    · rw [if_pos h0]
      have := word64_lt neg 0 (by decide)
      exact ⟨this.1, by unfold isN; rw [this.2.1]; decide⟩
    · rw [if_neg h0]
      obtain ⟨k, c, hr, e, rd⟩ := Fl.fit neg (fits32 r (by omega) h0)
      rw [e]
      have := word64_lt neg (Fl.rungOf (Fs.mantOf r * 2 ^ k) (Fs.placeOf r - k)) (by omega)
      exact ⟨this.1, by unfold isN; rw [this.2.1]; exact decide_eq_false (by omega)⟩
theorem one_of (b : Nat) (h : isN b = false) : one b = b := by unfold one; rw [if_neg (isN_not h)]

theorem widen_any (neg : Bool) (r : Nat) (h : r ≤ 2139095040) (w : World) :
    Calls Tryd.prog 16 #[.float .f32 (single.word neg r)] w fun e w' => e = .returned (.float .f64 (wdW neg r)) ∧ w' = w := by
  obtain ⟨h1, h2⟩ := wd_word neg r h
  refine widen_core _ (wdW neg r) _ (fun w => run_conv64 (wd_conv neg r h) w) (fun w => ?_) w
  have := one_any (wdW neg r) h1 w
  rwa [one_of _ h2] at this
end Go.Proofs.YtckjmcfncfoboaaDoor
