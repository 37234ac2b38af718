/- What FromInt, FromUint and SingleInt answer. -/
import Derived.Test.YtckjmcfncfoboaaDoorSc
import Derived.Test.YtckjmcfncfoboaaDoorSd
namespace Go.Proofs.YtckjmcfncfoboaaDoor
open Go.RowKit
open Ieee

/-- How many bits go. -/
def cutOf (n width : Nat) : Nat := n.log2 + 1 - width
/-- A whole number rounded to so many bits, as a number. -/
def frW (mode : Int) (neg : Bool) (n width : Nat) : Nat := if n = 0 then double.word neg 0 else double.nearest neg (Rn.rnd mode neg n (cutOf n width)) (cutOf n width : Nat)
def frX (n width : Nat) : Bool := decide (n % 2 ^ cutOf n width ≠ 0)

theorem fr_facts (mode : Int) (neg : Bool) (n width : Nat) (h0 : n ≠ 0) (hn : n < 18446744073709551616) (hw : width = 53 ∨ width = 24) :
    Rn.rnd mode neg n (cutOf n width) ≠ 0 ∧ Rn.rnd mode neg n (cutOf n width) ≤ 2 ^ width ∧ cutOf n width ≤ 40 ∧ (0 < cutOf n width → 2 ^ (width - 1) ≤ Rn.rnd mode neg n (cutOf n width) ∧ cutOf n width = n.log2 + 1 - width ∧ width ≤ n.log2) := by
  have h1 := Nat.log2_self_le h0
  have h2 : n < 2 ^ (n.log2 + 1) := Nat.lt_log2_self
  have h3 : n.log2 < 64 := (Nat.log2_lt h0).2 hn
  have hle : Rn.rnd mode neg n (cutOf n width) ≤ 2 ^ width := by
    refine Rn.rnd_le mode neg _ ?_
    rw [← Nat.pow_add]
    refine Nat.le_trans (Nat.le_of_lt h2) (Nat.pow_le_pow_right (by decide) ?_)
    unfold cutOf; omega
  have hge : 0 < cutOf n width → 2 ^ (width - 1) ≤ Rn.rnd mode neg n (cutOf n width) := by
    intro hc
    refine Rn.le_rnd mode neg _ ?_
    rw [← Nat.pow_add]
    refine Nat.le_trans (Nat.pow_le_pow_right (by decide) ?_) h1
    unfold cutOf at *; omega
  refine ⟨?_, hle, by unfold cutOf; omega, fun hc => ⟨hge hc, rfl, by unfold cutOf at hc; omega⟩⟩
  by_cases hc : 0 < cutOf n width
  · have := hge hc
    have hp : 0 < 2 ^ (width - 1) := Nat.two_pow_pos _
    omega
  · have : cutOf n width = 0 := by omega
    rw [this, Rn.rnd_zero]; exact h0

theorem fr_join (mode : Int) (neg : Bool) (n width : Nat) (hn : n < 18446744073709551616) (hw : width = 53 ∨ width = 24) :
    joinW neg (Rn.rnd mode neg n (cutOf n width) : Nat) (cutOf n width : Nat) = frW mode neg n width ∧ joinR (Rn.rnd mode neg n (cutOf n width) : Nat) (cutOf n width : Nat) = 0 := by
  by_cases h0 : n = 0
  · subst h0
    unfold frW
    rw [if_pos rfl, Rn.rnd_nought]
    exact join_nought neg _
  · obtain ⟨f1, f2, f3, _⟩ := fr_facts mode neg n width h0 hn hw
    unfold frW
    rw [if_neg h0]
    have hb : 2 ^ width ≤ 9007199254740992 := by rcases hw with rfl | rfl <;> decide
    have hl : (Rn.rnd mode neg n (cutOf n width)).log2 < 54 := (Nat.log2_lt f1).2 (Nat.lt_of_le_of_lt f2 (Nat.lt_of_le_of_lt hb (by decide)))
    exact join_ok neg _ _ f1 (Nat.le_trans f2 hb) (by omega) (by omega)

theorem fr_fits (mode : Int) (neg : Bool) (n width : Nat) (h0 : n ≠ 0) (hn : n < 18446744073709551616) (hw : width = 24) : Fl.Fits (Rn.rnd mode neg n (cutOf n width)) (cutOf n width : Nat) := by
  obtain ⟨f1, f2, f3, _⟩ := fr_facts mode neg n width h0 hn (Or.inr hw)
  subst hw
  have hl : (Rn.rnd mode neg n (cutOf n 24)).log2 < 25 := (Nat.log2_lt f1).2 (Nat.lt_of_le_of_lt f2 (by decide))
  exact ⟨f1, Nat.lt_of_le_of_lt f2 (by decide), by omega, by omega⟩

theorem bitLen_eq (n : Nat) (hn : n < 18446744073709551616) : (Lib.bitLen n : Int) = (if n = 0 then 0 else n.log2 + 1 : Nat) ∧ (if n = 0 then 0 else n.log2 + 1) ≤ 64 := by
  by_cases h0 : n = 0
  · subst h0; exact ⟨rfl, by decide⟩
  · rw [if_neg h0, bitLen_log n h0 hn]
    have h3 : n.log2 < 64 := (Nat.log2_lt h0).2 hn
    exact ⟨rfl, h3⟩

theorem fromWhole_any (neg : Bool) (n width : Nat) (mode : Int) (hm : okMode mode = true) (hn : n < 18446744073709551616) (hw : width = 53 ∨ width = 24) (w : World) (hT : Tab w) :
    Calls Tryd.prog 69 #[.bool neg, .int .u64 n, .int .i64 width, .int .i64 mode] w fun e w' => e = .returned (.tuple #[.float .f64 (frW mode neg n width), .agg #[.bool (frX n width), .bool false, .bool false], .int .i64 0]) ∧ Gr w w' := by
  obtain ⟨hb, hb1⟩ := bitLen_eq n hn
  obtain ⟨j1, j2⟩ := fr_join mode neg n width hn hw
  have hc : cutOf n width ≤ 40 := by
    by_cases h0 : n = 0
    · subst h0; have : Nat.log2 0 = 0 := by decide
      unfold cutOf; rw [this]; omega
    · exact (fr_facts mode neg n width h0 hn hw).2.2.1
  have hcut : (0 ≤ (cutOf n width : Int) ∧ ((if n = 0 then 0 else n.log2 + 1 : Nat) : Int) = cutOf n width + width) ∨ (((if n = 0 then 0 else n.log2 + 1 : Nat) : Int) < width ∧ (cutOf n width : Int) = 0) := by
    unfold cutOf
    by_cases h0 : n = 0
    · subst h0
      have : Nat.log2 0 = 0 := by decide
      rw [this, if_pos rfl]; right; omega
    · rw [if_neg h0]; omega
  refine fromWhole_core neg (frX n width) n width mode _ (Rn.rnd mode neg n (cutOf n width) : Nat) 0 (cutOf n width : Nat) (frW mode neg n width) (by omega) (by omega) (by omega) (by omega) hcut ?_ ?_ ?_ ?_ w hT
  · intro w; have := mayBe_any mode w; rwa [hm] at this
  · intro w; have := len64_any n w (by omega) (by omega); rwa [Int.toNat_natCast, hb] at this
  · intro w
    have := rounded_any neg n (cutOf n width : Nat) mode (by omega) (by omega) (by omega) (Or.inl (by omega)) w
    rwa [Int.toNat_natCast, Int.toNat_natCast] at this
  · intro w hT
    have := join_any neg (Rn.rnd mode neg n (cutOf n width) : Nat) (cutOf n width : Nat) (by omega) (by
      by_cases h0 : n = 0
      · subst h0; rw [Rn.rnd_nought]; decide
      · have := (fr_facts mode neg n width h0 hn hw).2.1
        have hb : 2 ^ width ≤ 9007199254740992 := by rcases hw with rfl | rfl <;> decide
        omega) (by omega) w hT
    rwa [j1, j2] at this

theorem fromInt_any (n mode : Int) (hm : okMode mode = true) (h0 : -9223372036854775808 ≤ n) (h1 : n ≤ 9223372036854775807) (w : World) (hT : Tab w) :
    Calls Tryd.prog 36 #[.int .i64 n, .int .i64 mode] w fun e w' => e = .returned (.tuple #[.float .f64 (frW mode (decide (n < 0)) n.natAbs 53), .agg #[.bool (frX n.natAbs 53), .bool false, .bool false], .int .i64 0]) ∧ Gr w w' :=
  fromInt_core n _ mode 0 _ _ _ _ (smagnitude_any n h0 h1) (fun w hT => fromWhole_any _ n.natAbs 53 mode hm (by omega) (Or.inl rfl) w hT) w hT
theorem fromInt_bad (n mode : Int) (hm : okMode mode = false) (h0 : -9223372036854775808 ≤ n) (h1 : n ≤ 9223372036854775807) (w : World) (hT : Tab w) :
    Calls Tryd.prog 36 #[.int .i64 n, .int .i64 mode] w fun e w' => e = .returned (.tuple #[.float .f64 0, .agg #[.bool false, .bool false, .bool false], .int .i64 1]) ∧ Gr w w' :=
  fromInt_core n _ mode 1 _ _ _ _ (smagnitude_any n h0 h1) (fun w _ => fromWhole_bad _ _ _ mode (fun w => by have := mayBe_any mode w; rwa [hm] at this) w) w hT
theorem fromUint_any (n : Nat) (mode : Int) (hm : okMode mode = true) (hn : n < 18446744073709551616) (w : World) (hT : Tab w) :
    Calls Tryd.prog 38 #[.int .u64 n, .int .i64 mode] w fun e w' => e = .returned (.tuple #[.float .f64 (frW mode false n 53), .agg #[.bool (frX n 53), .bool false, .bool false], .int .i64 0]) ∧ Gr w w' :=
  fromUint_core n mode 0 _ _ _ _ (fun w hT => fromWhole_any _ n 53 mode hm hn (Or.inl rfl) w hT) w hT
theorem fromUint_bad (n mode : Int) (hm : okMode mode = false) (w : World) (hT : Tab w) :
    Calls Tryd.prog 38 #[.int .u64 n, .int .i64 mode] w fun e w' => e = .returned (.tuple #[.float .f64 0, .agg #[.bool false, .bool false, .bool false], .int .i64 1]) ∧ Gr w w' :=
  fromUint_core n mode 1 _ _ _ _ (fun w _ => fromWhole_bad _ _ _ mode (fun w => by have := mayBe_any mode w; rwa [hm] at this) w) w hT

/-- The single of a whole number. -/
def siW (mode : Int) (neg : Bool) (n : Nat) : Nat := if n = 0 then single.word neg 0 else Rn.word32 mode neg n 0

theorem conv_si (mode : Int) (neg : Bool) (n : Nat) (hn : n < 18446744073709551616) : floatToFloatBits .f64 (frW mode neg n 24) .f32 = some (siW mode neg n) := by
  unfold frW siW
  by_cases h0 : n = 0
  · rw [if_pos h0, if_pos h0]; exact conv32_nought neg
  · rw [if_neg h0, if_neg h0]
    obtain ⟨f1, f2, f3, f4⟩ := fr_facts mode neg n 24 h0 hn (Or.inr rfl)
    have h3 : n.log2 < 64 := (Nat.log2_lt h0).2 hn
    by_cases hc : 0 < cutOf n 24
    · obtain ⟨g1, g2, g3⟩ := f4 hc
      have hL : Fs.lastOf n 0 = (cutOf n 24 : Nat) := by unfold Fs.lastOf cutOf; omega
      have hr : Rn.rung32 mode neg n 0 = ((cutOf n 24 : Nat) + 149 : Int).toNat * 8388608 + Rn.rnd mode neg n (cutOf n 24) := by
        unfold Rn.rung32 Rn.rungs
        rw [hL, show (0 - ((cutOf n 24 : Nat) : Int)).toNat = 0 by omega, Nat.pow_zero, Nat.mul_one, show (((cutOf n 24 : Nat) : Int) - 0).toNat = cutOf n 24 by omega, show ((cutOf n 24 : Nat) : Int) - -149 = (cutOf n 24 : Nat) + 149 by omega]
      have hlt : ((cutOf n 24 : Nat) + 149 : Int).toNat * 8388608 + Rn.rnd mode neg n (cutOf n 24) < 2139095040 := by
        have : (2 : Nat) ^ 24 = 16777216 := rfl
        omega
      have := conv32_front neg (Rn.rnd mode neg n (cutOf n 24)) (cutOf n 24 : Nat) f1 f2 (by omega) (by omega) (fun _ => g1) hlt
      rw [this]
      unfold Rn.word32 Rn.cap32
      rw [hr, if_pos hlt]
    · have hz : cutOf n 24 = 0 := by omega
      have hl : n.log2 ≤ 23 := by unfold cutOf at hz; omega
      have hf : Fl.Fits n 0 := ⟨h0, (Nat.log2_lt h0).1 (show n.log2 < 53 by omega), by omega, by omega⟩
      have hL : Fs.lastOf n 0 ≤ 0 := by unfold Fs.lastOf; omega
      have hL0 : -149 ≤ Fs.lastOf n 0 := by unfold Fs.lastOf; omega
      have hany : ∀ md, Rn.rung32 md neg n 0 = (Fs.lastOf n 0 - -149).toNat * 8388608 + n * 2 ^ (0 - Fs.lastOf n 0).toNat := by
        intro md
        unfold Rn.rung32 Rn.rungs
        rw [show (Fs.lastOf n 0 - 0).toNat = 0 by omega, Rn.rnd_zero]
      have hlt : Rn.rung32 1 neg n 0 < 2139095040 := by
        have b := (Rn.rnd32_bd 1 neg n 0 h0).1
        unfold Rn.rung32 Rn.rungs
        omega
      rw [hz, Rn.rnd_zero, show (((0 : Nat) : Nat) : Int) = 0 from rfl, conv32 neg hf hlt]
      unfold Rn.word32 Rn.cap32
      rw [if_pos hlt, hany mode, ← hany 1, if_pos hlt]

theorem run_conv32 {b r : Nat} (h : floatToFloatBits .f64 b .f32 = some r) (w : World) : (convert 32 25 (.float .f64 b)).run Tryd.prog w = .ok (.float .f32 r) w :=
  run_convert_float_float w 32 25 .f64 .f32 b r (by rw [Tryd.underlying32]; rfl) Tryd.underlying25 h

theorem singleInt_any (n mode : Int) (hm : okMode mode = true) (h0 : -9223372036854775808 ≤ n) (h1 : n ≤ 9223372036854775807) (w : World) (hT : Tab w) :
    Calls Tryd.prog 40 #[.int .i64 n, .int .i64 mode] w fun e w' => e = .returned (.tuple #[.float .f32 (siW mode (decide (n < 0)) n.natAbs), .agg #[.bool (frX n.natAbs 24), .bool false, .bool false], .int .i64 0]) ∧ Gr w w' :=
  singleInt_core n _ mode 0 _ _ _ _ _ (smagnitude_any n h0 h1) (fun w hT => fromWhole_any _ n.natAbs 24 mode hm (by omega) (Or.inr rfl) w hT) (fun w => run_conv32 (conv_si mode _ _ (by omega)) w) w hT
theorem singleInt_bad (n mode : Int) (hm : okMode mode = false) (h0 : -9223372036854775808 ≤ n) (h1 : n ≤ 9223372036854775807) (w : World) (hT : Tab w) :
    Calls Tryd.prog 40 #[.int .i64 n, .int .i64 mode] w fun e w' => e = .returned (.tuple #[.float .f32 0, .agg #[.bool false, .bool false, .bool false], .int .i64 1]) ∧ Gr w w' :=
  singleInt_core n _ mode 1 _ _ _ _ _ (smagnitude_any n h0 h1) (fun w _ => fromWhole_bad _ _ _ mode (fun w => by have := mayBe_any mode w; rwa [hm] at this) w) (fun w => run_conv32 (conv32_nought false) w) w hT
end Go.Proofs.YtckjmcfncfoboaaDoor
