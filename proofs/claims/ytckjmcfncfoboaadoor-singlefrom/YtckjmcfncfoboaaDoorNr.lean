/- The document's FromInt, FromUint and SingleInt: a whole number rounded once. -/
import Derived.Test.YtckjmcfncfoboaaDoorNy
import Derived.Test.YtckjmcfncfoboaaDoorNg
import Derived.Test.YtckjmcfncfoboaaDoorRw
namespace Go.Proofs.YtckjmcfncfoboaaDoor
open Go.RowKit
open Ieee

/-- The front of a whole number rounded to a kind. -/
def r24 (mode : Int) (neg : Bool) (n : Nat) : Nat := Rn.rnd mode neg (n * 2 ^ (0 - Fs.lastOf n 0).toNat) (Fs.lastOf n 0 - 0).toNat
def r53 (mode : Int) (neg : Bool) (n : Nat) : Nat := Rn.rnd mode neg (n * 2 ^ (0 - Fl.lastOf n 0).toNat) (Fl.lastOf n 0 - 0).toNat
theorem last24 (n : Nat) : Fs.lastOf n 0 = (n.log2 : Int) - 23 := by unfold Fs.lastOf; omega
theorem last53 (n : Nat) : Fl.lastOf n 0 = (n.log2 : Int) - 52 := by unfold Fl.lastOf; omega
theorem lt_bigA (n : Nat) (hn : n < 18446744073709551616) : n < 2 ^ bigA :=
  Nat.lt_of_lt_of_le (show n < 2 ^ 64 from hn) (Nat.pow_le_pow_right (by decide) (by unfold bigA; decide))

theorem to24_whole (neg : Bool) (num den : Value) (n : Nat) (mode : Int) (w : World) (h0 : n ≠ 0) (hn : n < 18446744073709551616) (hnum : NatAt w num n) (hden : NatAt w den 1) (hm0 : 1 ≤ mode) (hm1 : mode ≤ 6) :
    Calls Tryd.prog 56 #[.agg #[.bool neg, num, den, .int .i64 0, .bool false], .agg #[.int .i64 24, .int .i64 (-149), .int .i64 127], .int .i64 mode] w fun e w' =>
      e = .returned (.tuple #[.agg #[.bool neg, .bool false, .int .u64 (fq 16777216 8388608 (r24 mode neg n)), .int .i64 (fe 16777216 (r24 mode neg n) (Fs.lastOf n 0))], .agg #[.bool (frX n 24), .bool false, .bool false]]) ∧ Gr w w' := by
  have hl := natAbs_log n h0 hn
  have hL := last24 n
  have := to24_near neg num den n 0 mode w h0 (lt_bigA n hn) (by omega) hnum hden (by omega) (by omega) (by omega) (by omega) hm0 hm1
  have hq : decide (((qv n (0 - Fs.lastOf n 0) : Nat) : Int) < 8388608) = false := by
    have := le_qv n (0 - Fs.lastOf n 0) 23 h0 (by omega)
    have e : (2 ^ 23 : Nat) = 8388608 := by decide
    exact decide_eq_false (by omega)
  rwa [hq, Bool.and_false, fr_whole n 24 (Fs.lastOf n 0) (by decide) (by rw [hL]; rfl)] at this
theorem to53_whole (neg : Bool) (num den : Value) (n : Nat) (mode : Int) (w : World) (h0 : n ≠ 0) (hn : n < 18446744073709551616) (hnum : NatAt w num n) (hden : NatAt w den 1) (hm0 : 1 ≤ mode) (hm1 : mode ≤ 6) :
    Calls Tryd.prog 56 #[.agg #[.bool neg, num, den, .int .i64 0, .bool false], .agg #[.int .i64 53, .int .i64 (-1074), .int .i64 1023], .int .i64 mode] w fun e w' =>
      e = .returned (.tuple #[.agg #[.bool neg, .bool false, .int .u64 (fq 9007199254740992 4503599627370496 (r53 mode neg n)), .int .i64 (fe 9007199254740992 (r53 mode neg n) (Fl.lastOf n 0))], .agg #[.bool (frX n 53), .bool false, .bool false]]) ∧ Gr w w' := by
  have hl := natAbs_log n h0 hn
  have hL := last53 n
  have := to53_near neg num den n 0 mode w h0 (lt_bigA n hn) (by omega) hnum hden (by omega) (by omega) (by omega) (by omega) hm0 hm1
  have hq : decide (((qv n (0 - Fl.lastOf n 0) : Nat) : Int) < 4503599627370496) = false := by
    have := le_qv n (0 - Fl.lastOf n 0) 52 h0 (by omega)
    have e : (2 ^ 52 : Nat) = 4503599627370496 := by decide
    exact decide_eq_false (by omega)
  rwa [hq, Bool.and_false, fr_whole n 53 (Fl.lastOf n 0) (by decide) (by rw [hL]; rfl)] at this

theorem from24 (neg : Bool) (n : Nat) (mode : Int) (h0 : n ≠ 0) (hn : n < 18446744073709551616) (hm0 : 1 ≤ mode) (hm1 : mode ≤ 6) (w : World) :
    Calls Tryd.prog 73 #[.bool neg, .int .u64 (n : Int), .agg #[.int .i64 24, .int .i64 (-149), .int .i64 127], .int .i64 mode] w fun e w' =>
      e = .returned (.tuple #[.agg #[.bool neg, .bool false, .int .u64 (fq 16777216 8388608 (r24 mode neg n)), .int .i64 (fe 16777216 (r24 mode neg n) (Fs.lastOf n 0))], .agg #[.bool (frX n 24), .bool false, .bool false]]) ∧ Gr w w' :=
  from_core neg (frX n 24) n 24 (-149) 127 mode _ _ n w (of_any n hn) (fun w => of_any 1 (by decide) w) (fun w num den h1 h2 => to24_whole neg num den n mode w h0 hn h1 h2 hm0 hm1)
theorem from53 (neg : Bool) (n : Nat) (mode : Int) (h0 : n ≠ 0) (hn : n < 18446744073709551616) (hm0 : 1 ≤ mode) (hm1 : mode ≤ 6) (w : World) :
    Calls Tryd.prog 73 #[.bool neg, .int .u64 (n : Int), .agg #[.int .i64 53, .int .i64 (-1074), .int .i64 1023], .int .i64 mode] w fun e w' =>
      e = .returned (.tuple #[.agg #[.bool neg, .bool false, .int .u64 (fq 9007199254740992 4503599627370496 (r53 mode neg n)), .int .i64 (fe 9007199254740992 (r53 mode neg n) (Fl.lastOf n 0))], .agg #[.bool (frX n 53), .bool false, .bool false]]) ∧ Gr w w' :=
  from_core neg (frX n 53) n 53 (-1074) 1023 mode _ _ n w (of_any n hn) (fun w => of_any 1 (by decide) w) (fun w num den h1 h2 => to53_whole neg num den n mode w h0 hn h1 h2 hm0 hm1)

theorem word_intR (neg : Bool) (r : Nat) : (if neg = true then 2147483648 + (r : Int) else (r : Int)) = ((single.word neg r : Nat) : Int) := by
  unfold Format.word
  rw [Fs.sw]
  cases neg
  · rw [if_neg (by simp), if_neg (by simp)]
  · rw [if_pos rfl, if_pos rfl]; omega
theorem bits24 (neg : Bool) (n : Nat) (mode : Int) (h0 : n ≠ 0) (hn : n < 18446744073709551616) (w : World) :
    Calls Tryd.prog 59 #[.agg #[.bool neg, .bool false, .int .u64 (fq 16777216 8388608 (r24 mode neg n)), .int .i64 (fe 16777216 (r24 mode neg n) (Fs.lastOf n 0))]] w fun e w' => e = .returned (.int .u32 (siW mode neg n : Nat)) ∧ Gr w w' := by
  have hl := natAbs_log n h0 hn
  have hL := last24 n
  obtain ⟨b1, b2⟩ := Rn.rnd32_bd mode neg n 0 h0
  have b2 := b2 (by omega)
  have hr := fq_rung (r24 mode neg n) (Fs.lastOf n 0) (by omega)
  have hR : Rn.rung32 mode neg n 0 = (Fs.lastOf n 0 - -149).toNat * 8388608 + r24 mode neg n := rfl
  change r24 mode neg n ≤ 16777216 at b1
  change 8388608 ≤ r24 mode neg n at b2
  rw [← hR] at hr
  have hfq : 8388608 ≤ fq 16777216 8388608 (r24 mode neg n) ∧ fq 16777216 8388608 (r24 mode neg n) < 16777216 := by unfold fq; split <;> omega
  have hfe : Fs.lastOf n 0 ≤ fe 16777216 (r24 mode neg n) (Fs.lastOf n 0) ∧ fe 16777216 (r24 mode neg n) (Fs.lastOf n 0) ≤ Fs.lastOf n 0 + 1 := by unfold fe; split <;> omega
  refine bits32_core neg _ _ (Rn.rung32 mode neg n 0 : Nat) _ w (by omega) (by omega) (by omega) (by omega) (fun c => by omega) (by unfold Hid; omega) ?_
  show _ = ((siW mode neg n : Nat) : Int)
  unfold siW Rn.word32 Rn.cap32
  rw [if_neg h0, if_pos (show Rn.rung32 mode neg n 0 < 2139095040 by omega)]
  exact word_intR neg _
theorem bits53 (neg : Bool) (n : Nat) (mode : Int) (h0 : n ≠ 0) (hn : n < 18446744073709551616) (w : World) :
    Calls Tryd.prog 75 #[.agg #[.bool neg, .bool false, .int .u64 (fq 9007199254740992 4503599627370496 (r53 mode neg n)), .int .i64 (fe 9007199254740992 (r53 mode neg n) (Fl.lastOf n 0))]] w fun e w' => e = .returned (.int .u64 (frW mode neg n 53 : Nat)) ∧ Gr w w' := by
  have hl := natAbs_log n h0 hn
  have hL := last53 n
  obtain ⟨b1, b2⟩ := Rn.rnd64_bd mode neg n 0 h0
  have b2 := b2 (by omega)
  change r53 mode neg n ≤ 9007199254740992 at b1
  change 4503599627370496 ≤ r53 mode neg n at b2
  have hw : double.nearest neg (r53 mode neg n) (Fl.lastOf n 0) = frW mode neg n 53 := fr_rnd64 mode neg n (Fl.lastOf n 0) h0 hL
  have hn := fq_near neg (r53 mode neg n) (Fl.lastOf n 0)
  rw [hw] at hn
  have hfq : 4503599627370496 ≤ fq 9007199254740992 4503599627370496 (r53 mode neg n) ∧ fq 9007199254740992 4503599627370496 (r53 mode neg n) < 9007199254740992 := by unfold fq; split <;> omega
  have hfe : Fl.lastOf n 0 ≤ fe 9007199254740992 (r53 mode neg n) (Fl.lastOf n 0) ∧ fe 9007199254740992 (r53 mode neg n) (Fl.lastOf n 0) ≤ Fl.lastOf n 0 + 1 := by unfold fe; split <;> omega
  generalize fq 9007199254740992 4503599627370496 (r53 mode neg n) = M at *
  generalize fe 9007199254740992 (r53 mode neg n) (Fl.lastOf n 0) = E at *
  obtain ⟨m, rfl⟩ : ∃ m : Nat, M = m := ⟨M.toNat, by omega⟩
  rw [Int.toNat_natCast] at hn
  have hm : m.log2 < 53 := (Nat.log2_lt (by omega)).2 (by have e : (2 ^ 53 : Nat) = 9007199254740992 := by decide
                                                          omega)
  have hj := join_ok neg m E (by omega) (by omega) (by omega) (by omega)
  refine bits64_core neg _ _ _ (joinR m E) w (fun w => ?_)
  have := rjoin_any neg m E (by omega) (by omega) w
  rwa [hj.1, hn] at this

theorem rsint_any (n mode : Int) (hm : okMode mode = true) (h0 : n ≠ 0) (hl : -9223372036854775808 ≤ n) (hh : n ≤ 9223372036854775807) (w : World) :
    Calls Tryd.prog 41 #[.int .i64 n, .int .i64 mode] w fun e w' => e = .returned (.tuple #[.int .u32 (siW mode (decide (n < 0)) n.natAbs : Nat), .agg #[.bool (frX n.natAbs 24), .bool false, .bool false], .int .i64 0]) ∧ Gr w w' := by
  have hm' := of_decide_eq_true hm
  exact rsint_core (decide (n < 0)) (frX n.natAbs 24) n (n.natAbs : Nat) 24 (-149) 127 mode _ _ _ w (by rw [beq_eq_false_iff_ne]; exact h0) (fun w => by have := rmode_any mode w; rwa [hm] at this) (fun w => parted_any n hl hh w) (fun w => thirty_any w)
    (fun w => from24 (decide (n < 0)) n.natAbs mode (by omega) (by omega) hm'.1 hm'.2 w) (fun w => bits24 (decide (n < 0)) n.natAbs mode (by omega) (by omega) w)
theorem rfint_any (n mode : Int) (hm : okMode mode = true) (h0 : n ≠ 0) (hl : -9223372036854775808 ≤ n) (hh : n ≤ 9223372036854775807) (w : World) :
    Calls Tryd.prog 37 #[.int .i64 n, .int .i64 mode] w fun e w' => e = .returned (.tuple #[.int .u64 (frW mode (decide (n < 0)) n.natAbs 53 : Nat), .agg #[.bool (frX n.natAbs 53), .bool false, .bool false], .int .i64 0]) ∧ Gr w w' := by
  have hm' := of_decide_eq_true hm
  exact rfint_core (decide (n < 0)) (frX n.natAbs 53) n (n.natAbs : Nat) 53 (-1074) 1023 mode _ _ _ w (by rw [beq_eq_false_iff_ne]; exact h0) (fun w => by have := rmode_any mode w; rwa [hm] at this) (fun w => parted_any n hl hh w) (fun w => sixty_any w)
    (fun w => from53 (decide (n < 0)) n.natAbs mode (by omega) (by omega) hm'.1 hm'.2 w) (fun w => bits53 (decide (n < 0)) n.natAbs mode (by omega) (by omega) w)
theorem rfuint_any (n : Nat) (mode : Int) (hm : okMode mode = true) (h0 : n ≠ 0) (hn : n < 18446744073709551616) (w : World) :
    Calls Tryd.prog 39 #[.int .u64 (n : Int), .int .i64 mode] w fun e w' => e = .returned (.tuple #[.int .u64 (frW mode false n 53 : Nat), .agg #[.bool (frX n 53), .bool false, .bool false], .int .i64 0]) ∧ Gr w w' := by
  have hm' := of_decide_eq_true hm
  exact rfuint_core (frX n 53) n 53 (-1074) 1023 mode _ _ _ w (by rw [beq_eq_false_iff_ne]; omega) (fun w => by have := rmode_any mode w; rwa [hm] at this) (fun w => sixty_any w)
    (fun w => from53 false n mode h0 hn hm'.1 hm'.2 w) (fun w => bits53 false n mode h0 hn w)

/-- Either way: what the three answer. -/
def rfS (mode : Int) (neg : Bool) (n : Nat) : Nat := if okMode mode = true then siW mode neg n else 0
def rfW (mode : Int) (neg : Bool) (n : Nat) : Nat := if okMode mode = true then frW mode neg n 53 else 0
def rfX (mode : Int) (n width : Nat) : Bool := okMode mode && frX n width
def rfE (mode : Int) : Int := if okMode mode = true then 0 else 1
theorem frX_nought (width : Nat) : frX 0 width = false := by unfold frX; simp

theorem rfS_bad (mode : Int) (neg : Bool) (n : Nat) (x : Bool) (hb : okMode mode = false ∨ (okMode mode = true ∧ n = 0)) (hneg : n = 0 → neg = false) (hx : x = rfX mode n 24 ∨ x = rfX mode n 53) : rfS mode neg n = 0 ∧ rfW mode neg n = 0 ∧ x = false := by
  unfold rfS rfW rfX at *
  rcases hb with h | ⟨h, h0⟩
  · rw [h] at hx ⊢
    exact ⟨rfl, rfl, by simpa using hx⟩
  · replace hneg := hneg h0
    subst h0; subst hneg
    rw [h] at hx ⊢
    rw [frX_nought, frX_nought] at hx
    refine ⟨?_, ?_, by simpa using hx⟩
    · rw [if_pos rfl]; unfold siW; rw [if_pos rfl]; rfl
    · rw [if_pos rfl]; unfold frW; rw [if_pos rfl]; rfl

theorem rsint_all (n mode : Int) (hl : -9223372036854775808 ≤ n) (hh : n ≤ 9223372036854775807) (w : World) :
    Calls Tryd.prog 41 #[.int .i64 n, .int .i64 mode] w fun e w' => e = .returned (.tuple #[.int .u32 (rfS mode (decide (n < 0)) n.natAbs : Nat), .agg #[.bool (rfX mode n.natAbs 24), .bool false, .bool false], .int .i64 (rfE mode)]) ∧ Gr w w' := by
  by_cases hb : okMode mode = false ∨ (okMode mode = true ∧ n.natAbs = 0)
  · obtain ⟨a, _, c⟩ := rfS_bad mode (decide (n < 0)) n.natAbs (rfX mode n.natAbs 24) hb (fun h => decide_eq_false (by omega)) (Or.inl rfl)
    rw [a, c]
    have := rsint_bad n mode (rfE mode) (okMode mode) w (by rcases hb with h | ⟨h, h0⟩; exact Or.inl h; exact Or.inr ⟨h, by omega⟩) (fun w => rmode_any mode w) (fun w => errOf_any (okMode mode) w)
    exact this
  · have hm : okMode mode = true := by cases h : okMode mode; exact absurd (Or.inl h) hb; rfl
    have h0 : n ≠ 0 := fun c => hb (Or.inr ⟨hm, by omega⟩)
    unfold rfS rfX rfE
    rw [hm, if_pos rfl, if_pos rfl, Bool.true_and]
    exact rsint_any n mode hm h0 hl hh w
theorem rfint_all (n mode : Int) (hl : -9223372036854775808 ≤ n) (hh : n ≤ 9223372036854775807) (w : World) :
    Calls Tryd.prog 37 #[.int .i64 n, .int .i64 mode] w fun e w' => e = .returned (.tuple #[.int .u64 (rfW mode (decide (n < 0)) n.natAbs : Nat), .agg #[.bool (rfX mode n.natAbs 53), .bool false, .bool false], .int .i64 (rfE mode)]) ∧ Gr w w' := by
  by_cases hb : okMode mode = false ∨ (okMode mode = true ∧ n.natAbs = 0)
  · obtain ⟨_, a, c⟩ := rfS_bad mode (decide (n < 0)) n.natAbs (rfX mode n.natAbs 53) hb (fun h => decide_eq_false (by omega)) (Or.inr rfl)
    rw [a, c]
    have := rfint_bad n mode (rfE mode) (okMode mode) w (by rcases hb with h | ⟨h, h0⟩; exact Or.inl h; exact Or.inr ⟨h, by omega⟩) (fun w => rmode_any mode w) (fun w => errOf_any (okMode mode) w)
    exact this
  · have hm : okMode mode = true := by cases h : okMode mode; exact absurd (Or.inl h) hb; rfl
    have h0 : n ≠ 0 := fun c => hb (Or.inr ⟨hm, by omega⟩)
    unfold rfW rfX rfE
    rw [hm, if_pos rfl, if_pos rfl, Bool.true_and]
    exact rfint_any n mode hm h0 hl hh w
theorem rfuint_all (n : Nat) (mode : Int) (hn : n < 18446744073709551616) (w : World) :
    Calls Tryd.prog 39 #[.int .u64 (n : Int), .int .i64 mode] w fun e w' => e = .returned (.tuple #[.int .u64 (rfW mode false n : Nat), .agg #[.bool (rfX mode n 53), .bool false, .bool false], .int .i64 (rfE mode)]) ∧ Gr w w' := by
  by_cases hb : okMode mode = false ∨ (okMode mode = true ∧ n = 0)
  · obtain ⟨_, a, c⟩ := rfS_bad mode false n (rfX mode n 53) hb (fun _ => rfl) (Or.inr rfl)
    rw [a, c]
    have := rfuint_bad n mode (rfE mode) (okMode mode) w (by rcases hb with h | ⟨h, h0⟩; exact Or.inl h; exact Or.inr ⟨h, by omega⟩) (fun w => rmode_any mode w) (fun w => errOf_any (okMode mode) w)
    exact this
  · have hm : okMode mode = true := by cases h : okMode mode; exact absurd (Or.inl h) hb; rfl
    have h0 : n ≠ 0 := fun c => hb (Or.inr ⟨hm, c⟩)
    unfold rfW rfX rfE
    rw [hm, if_pos rfl, if_pos rfl, Bool.true_and]
    exact rfuint_any n mode hm h0 hn w
/-- The program's three, said so too. -/
theorem psint_all (n mode : Int) (hl : -9223372036854775808 ≤ n) (hh : n ≤ 9223372036854775807) (w : World) (hT : Tab w) :
    Calls Tryd.prog 40 #[.int .i64 n, .int .i64 mode] w fun e w' => e = .returned (.tuple #[.float .f32 (rfS mode (decide (n < 0)) n.natAbs), .agg #[.bool (rfX mode n.natAbs 24), .bool false, .bool false], .int .i64 (rfE mode)]) ∧ Gr w w' := by
  unfold rfS rfX rfE
  cases hm : okMode mode
  · exact singleInt_bad n mode hm hl hh w hT
  · rw [if_pos rfl, if_pos rfl, Bool.true_and]; exact singleInt_any n mode hm hl hh w hT
theorem pfint_all (n mode : Int) (hl : -9223372036854775808 ≤ n) (hh : n ≤ 9223372036854775807) (w : World) (hT : Tab w) :
    Calls Tryd.prog 36 #[.int .i64 n, .int .i64 mode] w fun e w' => e = .returned (.tuple #[.float .f64 (rfW mode (decide (n < 0)) n.natAbs), .agg #[.bool (rfX mode n.natAbs 53), .bool false, .bool false], .int .i64 (rfE mode)]) ∧ Gr w w' := by
  unfold rfW rfX rfE
  cases hm : okMode mode
  · exact fromInt_bad n mode hm hl hh w hT
  · rw [if_pos rfl, if_pos rfl, Bool.true_and]; exact fromInt_any n mode hm hl hh w hT
theorem pfuint_all (n : Nat) (mode : Int) (hn : n < 18446744073709551616) (w : World) (hT : Tab w) :
    Calls Tryd.prog 38 #[.int .u64 (n : Int), .int .i64 mode] w fun e w' => e = .returned (.tuple #[.float .f64 (rfW mode false n), .agg #[.bool (rfX mode n 53), .bool false, .bool false], .int .i64 (rfE mode)]) ∧ Gr w w' := by
  unfold rfW rfX rfE
  cases hm : okMode mode
  · exact fromUint_bad n mode hm w hT
  · rw [if_pos rfl, if_pos rfl, Bool.true_and]; exact fromUint_any n mode hm hn w hT
end Go.Proofs.YtckjmcfncfoboaaDoor
