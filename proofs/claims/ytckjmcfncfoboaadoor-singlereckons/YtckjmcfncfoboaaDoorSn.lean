/- Narrow's ways. -/
import Derived.Test.YtckjmcfncfoboaaDoorSe
namespace Go.Proofs.YtckjmcfncfoboaaDoor
open Go.RowKit
open Ieee

set_option maxHeartbeats 1000000 in
theorem narrow_bad (x : Nat) (mode : Int)
    (H0 : Hid (∀ w, Calls Tryd.prog 47 #[.int .i64 mode] w fun e w' => e = .returned (.bool false) ∧ w' = w)) (w : World) :
    Calls Tryd.prog 20 #[.float .f64 x, .int .i64 mode] w fun e w' => e = .returned (.tuple #[.float .f32 0, .agg #[.bool false, .bool false, .bool false], .int .i64 1]) ∧ Gr w w' := by
  go_enter Tryd.func20, Tryd.ntmps20
  go_wp2_with (first | (go_at_call 47; refine (H0.out _).mono ?_; rintro e w' ⟨rfl, rfl⟩))
  refine bodyPost_ret (v := .tuple #[.float .f32 0, .agg #[.bool false, .bool false, .bool false], .int .i64 1]) (by simp [results, Tryd.results20, go_sem]) rfl ?_
  exact ⟨rfl, by (repeat (first | exact Gr.refl _ | refine Gr.setCell ?_ _ _ (Nat.le_refl _) | refine Gr.alloc ?_ _ _ | refine Gr.drewN ?_ _))⟩

set_option maxHeartbeats 1000000 in
theorem narrow_plain (x y z : Nat) (mode M E r : Int) (neg : Bool) (hr : (r != 0 || M == 0) = true)
    (H0 : Hid (∀ w, Calls Tryd.prog 47 #[.int .i64 mode] w fun e w' => e = .returned (.bool true) ∧ w' = w))
    (H1 : Hid (∀ w, Calls Tryd.prog 48 #[.float .f64 x] w fun e w' => e = .returned (.tuple #[.bool neg, .int .u64 M, .int .i64 E, .int .i64 r]) ∧ w' = w))
    (C : ∀ w, (convert 32 25 (.float .f64 x)).run Tryd.prog w = .ok (.float .f32 y) w)
    (H2 : Hid (∀ w, Calls Tryd.prog 14 #[.float .f32 y] w fun e w' => e = .returned (.float .f32 z) ∧ w' = w)) (w : World) :
    Calls Tryd.prog 20 #[.float .f64 x, .int .i64 mode] w fun e w' => e = .returned (.tuple #[.float .f32 z, .agg #[.bool false, .bool false, .bool false], .int .i64 0]) ∧ Gr w w' := by
  by_cases c : r = 0
  · subst c
    have cM : (M == 0) = true := by simpa using hr
    clear hr
    go_enter Tryd.func20, Tryd.ntmps20
    go_wp2_with (first | (go_at_call 47; refine (H0.out _).mono ?_; rintro e w' ⟨rfl, rfl⟩) | (go_at_call 48; refine (H1.out _).mono ?_; rintro e w' ⟨rfl, rfl⟩) | (go_at_call 14; refine (H2.out _).mono ?_; rintro e w' ⟨rfl, rfl⟩))
    refine bodyPost_ret (v := .tuple #[.float .f32 z, .agg #[.bool false, .bool false, .bool false], .int .i64 0]) (by simp [results, Tryd.results20, go_sem]) rfl ?_
    exact ⟨rfl, by (repeat (first | exact Gr.refl _ | refine Gr.setCell ?_ _ _ (Nat.le_refl _) | refine Gr.alloc ?_ _ _ | refine Gr.drewN ?_ _))⟩
  · have c' : (r != 0) = true := by simpa using c
    clear hr c
    go_enter Tryd.func20, Tryd.ntmps20
    go_wp2_with (first | (go_at_call 47; refine (H0.out _).mono ?_; rintro e w' ⟨rfl, rfl⟩) | (go_at_call 48; refine (H1.out _).mono ?_; rintro e w' ⟨rfl, rfl⟩) | (go_at_call 14; refine (H2.out _).mono ?_; rintro e w' ⟨rfl, rfl⟩))
    refine bodyPost_ret (v := .tuple #[.float .f32 z, .agg #[.bool false, .bool false, .bool false], .int .i64 0]) (by simp [results, Tryd.results20, go_sem]) rfl ?_
    exact ⟨rfl, by (repeat (first | exact Gr.refl _ | refine Gr.setCell ?_ _ _ (Nat.le_refl _) | refine Gr.alloc ?_ _ _ | refine Gr.drewN ?_ _))⟩

set_option maxHeartbeats 1000000 in
theorem narrow_over (x z : Nat) (mode M E l L F k : Int) (neg X : Bool) (hM : (M == 0) = false) (hE0 : -1074 ≤ E) (hE1 : E ≤ 971) (hl0 : 0 ≤ l) (hl1 : l ≤ 64) (hL : (L = E + l - 24 ∧ -149 ≤ L) ∨ (E + l - 24 < -149 ∧ L = -149)) (hk0 : 0 ≤ k) (hk1 : k ≤ 64) (ho : 128 < L + k)
    (H0 : Hid (∀ w, Calls Tryd.prog 47 #[.int .i64 mode] w fun e w' => e = .returned (.bool true) ∧ w' = w))
    (H1 : Hid (∀ w, Calls Tryd.prog 48 #[.float .f64 x] w fun e w' => e = .returned (.tuple #[.bool neg, .int .u64 M, .int .i64 E, .int .i64 0]) ∧ w' = w))
    (H2 : Hid (∀ w, Calls Tryd.prog 49 #[.int .u64 M] w fun e w' => e = .returned (.int .i64 l) ∧ w' = w))
    (H3 : Hid (∀ w, Calls Tryd.prog 50 #[.bool neg, .int .u64 M, .int .i64 (L - E), .int .i64 mode] w fun e w' => e = .returned (.tuple #[.int .u64 F, .bool X]) ∧ ∃ d, w' = w.drewN d))
    (H4 : Hid (∀ w, Calls Tryd.prog 49 #[.int .u64 F] w fun e w' => e = .returned (.int .i64 k) ∧ w' = w))
    (H5 : Hid (∀ w, Calls Tryd.prog 51 #[.bool neg, .int .i64 mode] w fun e w' => e = .returned (.float .f32 z) ∧ w' = w)) (w : World) :
    Calls Tryd.prog 20 #[.float .f64 x, .int .i64 mode] w fun e w' => e = .returned (.tuple #[.float .f32 z, .agg #[.bool true, .bool true, .bool false], .int .i64 0]) ∧ Gr w w' := by
  rcases hL with ⟨rfl, hL⟩ | ⟨hL, rfl⟩
  · skip
    go_enter Tryd.func20, Tryd.ntmps20
    go_wp2_with (first | (go_at_call 47; refine (H0.out _).mono ?_; rintro e w' ⟨rfl, rfl⟩) | (go_at_call 48; refine (H1.out _).mono ?_; rintro e w' ⟨rfl, rfl⟩))
    refine (H2.out _).mono ?_
    rintro e w' ⟨rfl, rfl⟩
    go_wp2_with (first | (go_at_call 50; refine (H3.out _).mono ?_; rintro e w' ⟨rfl, d, rfl⟩))
    refine (H4.out _).mono ?_
    rintro e w' ⟨rfl, rfl⟩
    go_wp2_with (first | (go_at_call 51; refine (H5.out _).mono ?_; rintro e w' ⟨rfl, rfl⟩))
    refine bodyPost_ret (v := .tuple #[.float .f32 z, .agg #[.bool true, .bool true, .bool false], .int .i64 0]) (by simp [results, Tryd.results20, go_sem]) rfl ?_
    exact ⟨rfl, by (repeat (first | exact Gr.refl _ | refine Gr.setCell ?_ _ _ (Nat.le_refl _) | refine Gr.alloc ?_ _ _ | refine Gr.drewN ?_ _))⟩
  · exfalso; omega

set_option maxHeartbeats 1000000 in
theorem narrow_fin (x y z : Nat) (mode M E l L F k : Int) (neg X U : Bool) (hM : (M == 0) = false) (hE0 : -1074 ≤ E) (hE1 : E ≤ 971) (hl0 : 0 ≤ l) (hl1 : l ≤ 64) (hL : (L = E + l - 24 ∧ -149 ≤ L) ∨ (E + l - 24 < -149 ∧ L = -149)) (hk0 : 0 ≤ k) (hk1 : k ≤ 64) (ho : L + k ≤ 128)
    (hU : Hid ((X && decide (E + l < -125)) = U))
    (H0 : Hid (∀ w, Calls Tryd.prog 47 #[.int .i64 mode] w fun e w' => e = .returned (.bool true) ∧ w' = w))
    (H1 : Hid (∀ w, Calls Tryd.prog 48 #[.float .f64 x] w fun e w' => e = .returned (.tuple #[.bool neg, .int .u64 M, .int .i64 E, .int .i64 0]) ∧ w' = w))
    (H2 : Hid (∀ w, Calls Tryd.prog 49 #[.int .u64 M] w fun e w' => e = .returned (.int .i64 l) ∧ w' = w))
    (H3 : Hid (∀ w, Calls Tryd.prog 50 #[.bool neg, .int .u64 M, .int .i64 (L - E), .int .i64 mode] w fun e w' => e = .returned (.tuple #[.int .u64 F, .bool X]) ∧ ∃ d, w' = w.drewN d))
    (H4 : Hid (∀ w, Calls Tryd.prog 49 #[.int .u64 F] w fun e w' => e = .returned (.int .i64 k) ∧ w' = w))
    (H5 : Hid (∀ w, Tab w → Calls Tryd.prog 52 #[.bool neg, .int .u64 F, .int .i64 L] w fun e w' => e = .returned (.tuple #[.float .f64 y, .int .i64 0]) ∧ w' = w))
    (C : ∀ w, (convert 32 25 (.float .f64 y)).run Tryd.prog w = .ok (.float .f32 z) w) (w : World) (hT : Hid (Tab w)) :
    Calls Tryd.prog 20 #[.float .f64 x, .int .i64 mode] w fun e w' => e = .returned (.tuple #[.float .f32 z, .agg #[.bool X, .bool false, .bool U], .int .i64 0]) ∧ Gr w w' := by
  cases X
  all_goals
    rcases hL with ⟨rfl, hL⟩ | ⟨hL, rfl⟩
    all_goals
      go_enter Tryd.func20, Tryd.ntmps20
      go_wp2_with (first | (go_at_call 47; refine (H0.out _).mono ?_; rintro e w' ⟨rfl, rfl⟩) | (go_at_call 48; refine (H1.out _).mono ?_; rintro e w' ⟨rfl, rfl⟩))
      refine (H2.out _).mono ?_
      rintro e w' ⟨rfl, rfl⟩
      go_wp2_with (first | (go_at_call 50; refine (H3.out _).mono ?_; rintro e w' ⟨rfl, d, rfl⟩))
      refine (H4.out _).mono ?_
      rintro e w' ⟨rfl, rfl⟩
      go_wp2_with (first | (go_at_call 52; refine (H5.out _ (tab_gr hT.out (((Gr.refl _).alloc _ _).drewN _))).mono ?_; rintro e w' ⟨rfl, rfl⟩))
  · have hU' : false = U := hU.out
    subst hU'
    refine bodyPost_ret (v := .tuple #[.float .f32 z, .agg #[.bool false, .bool false, .bool false], .int .i64 0]) (by simp [results, Tryd.results20, go_sem]) rfl ?_
    exact ⟨rfl, by (repeat (first | exact Gr.refl _ | refine Gr.setCell ?_ _ _ (Nat.le_refl _) | refine Gr.alloc ?_ _ _ | refine Gr.drewN ?_ _))⟩
  · have hU' : false = U := hU.out
    subst hU'
    refine bodyPost_ret (v := .tuple #[.float .f32 z, .agg #[.bool false, .bool false, .bool false], .int .i64 0]) (by simp [results, Tryd.results20, go_sem]) rfl ?_
    exact ⟨rfl, by (repeat (first | exact Gr.refl _ | refine Gr.setCell ?_ _ _ (Nat.le_refl _) | refine Gr.alloc ?_ _ _ | refine Gr.drewN ?_ _))⟩
  · have hU' : decide (E + l < -125) = U := hU.out
    subst hU'
    refine bodyPost_ret (v := .tuple #[.float .f32 z, .agg #[.bool true, .bool false, .bool (decide (E + l < -125))], .int .i64 0]) (by simp [results, Tryd.results20, go_sem]) rfl ?_
    exact ⟨rfl, by (repeat (first | exact Gr.refl _ | refine Gr.setCell ?_ _ _ (Nat.le_refl _) | refine Gr.alloc ?_ _ _ | refine Gr.drewN ?_ _))⟩
  · have hU' : decide (E + l < -125) = U := hU.out
    have hU2 : U = true := by rw [← hU']; exact decide_eq_true (by omega)
    subst hU2
    refine bodyPost_ret (v := .tuple #[.float .f32 z, .agg #[.bool true, .bool false, .bool true], .int .i64 0]) (by simp [results, Tryd.results20, go_sem, hU']) rfl ?_
    exact ⟨rfl, by (repeat (first | exact Gr.refl _ | refine Gr.setCell ?_ _ _ (Nat.le_refl _) | refine Gr.alloc ?_ _ _ | refine Gr.drewN ?_ _))⟩

/-- Narrow of a finite number that is not 0: is it beyond, is it inexact, is it below the normal ones? -/
def nrO (mode : Int) (neg : Bool) (m : Nat) (e : Int) : Bool := decide (2139095040 ≤ Rn.rung32 mode neg m e)
def nrI (m : Nat) (e : Int) : Bool := decide (m % 2 ^ (Fs.lastOf m e - e).toNat ≠ 0)
def nrU (m : Nat) (e : Int) : Bool := nrI m e && decide (e + m.log2 + 1 < -125)

theorem spM_facts (b : Nat) (h : mag b < 9218868437227405312) (h0 : mag b ≠ 0) : spM b ≠ 0 ∧ spM b < 9007199254740992 ∧ -1074 ≤ spE b ∧ spE b ≤ 971 ∧ (4503599627370496 ≤ spM b ∨ spE b = -1074) ∧ spN b = sgb b ∧ spR b = 0 := by
  have h1 : ¬ 9218868437227405312 ≤ mag b := by omega
  unfold spM spE spN spR
  rw [if_neg h1, if_neg h1, if_neg h1, if_neg h1, if_neg h0]
  by_cases hl : mag b < 4503599627370496
  · rw [if_pos hl, if_pos hl]; exact ⟨by omega, by omega, by omega, by omega, Or.inr rfl, rfl, rfl⟩
  · rw [if_neg hl, if_neg hl]; exact ⟨by omega, by omega, by omega, by omega, Or.inl (by omega), rfl, rfl⟩

/-- The place of the last digit is not below the number's own. -/
theorem last_ge (m : Nat) (e : Int) (h : 4503599627370496 ≤ m ∨ e = -1074) : e ≤ Fs.lastOf m e := by
  unfold Fs.lastOf
  rcases h with h | h
  · have : 52 ≤ m.log2 := (Nat.le_log2 (by omega)).2 h
    omega
  · omega

theorem narrow_finite (b : Nat) (hb : Hid (b < 18446744073709551616)) (mode : Int) (hm : okMode mode = true) (h : mag b < 9218868437227405312) (h0 : mag b ≠ 0) (w : World) (hT : Tab w) :
    Calls Tryd.prog 20 #[.float .f64 b, .int .i64 mode] w fun e w' =>
      e = .returned (.tuple #[.float .f32 (Rn.word32 mode (sgb b) (spM b) (spE b)), .agg #[.bool (nrO mode (sgb b) (spM b) (spE b) || nrI (spM b) (spE b)), .bool (nrO mode (sgb b) (spM b) (spE b)), .bool (!nrO mode (sgb b) (spM b) (spE b) && nrU (spM b) (spE b))], .int .i64 0]) ∧ Gr w w' := by
  obtain ⟨s1, s2, s3, s4, s5, s6, s7⟩ := spM_facts b h h0
  have hge := last_ge (spM b) (spE b) s5
  have hS : ∀ w, Calls Tryd.prog 48 #[.float .f64 b] w fun e w' => e = .returned (.tuple #[.bool (sgb b), .int .u64 (spM b : Int), .int .i64 (spE b), .int .i64 0]) ∧ w' = w := fun w => by
    have := split_any b hb w
    rw [s6, s7] at this
    exact this
  generalize sgb b = neg at *
  generalize spE b = e at *
  generalize hmm : spM b = m at *
  clear hmm s6 s7
  have hlog : m.log2 < 53 := (Nat.log2_lt s1).2 s2
  have hL : Fs.lastOf m e = max (e + m.log2 - 23) (-149) := rfl
  obtain ⟨hL1, hL2⟩ : (Fs.lastOf m e = e + (m.log2 + 1 : Nat) - 24 ∧ -149 ≤ Fs.lastOf m e) ∨ (e + (m.log2 + 1 : Nat) - 24 < -149 ∧ Fs.lastOf m e = -149) ↔ True := ⟨fun _ => trivial, fun _ => by omega⟩
  have hbd := Rn.rnd32_bd mode neg m e s1
  have z1 : (e - Fs.lastOf m e).toNat = 0 := by omega
  rw [z1, Nat.pow_zero, Nat.mul_one] at hbd
  have hR : Rn.rung32 mode neg m e = (Fs.lastOf m e + 149).toNat * 8388608 + Rn.rnd mode neg m (Fs.lastOf m e - e).toNat := by
    unfold Rn.rung32 Rn.rungs
    rw [z1, Nat.pow_zero, Nat.mul_one, show Fs.lastOf m e - -149 = Fs.lastOf m e + 149 by omega]
  have hl0 : -149 ≤ Fs.lastOf m e := by omega
  have hl9 : Fs.lastOf m e ≤ 1000 := by omega
  have hX : nrI m e = decide (m % 2 ^ (Fs.lastOf m e - e).toNat ≠ 0) := rfl
  have hU : nrU m e = (nrI m e && decide (e + (m.log2 + 1 : Nat) < -125)) := by
    unfold nrU; congr 1
    exact decide_eq_decide.2 (by omega)
  have hW : Rn.word32 mode neg m e = single.word neg (Rn.cap32 mode neg (Rn.rung32 mode neg m e)) := rfl
  have hO : nrO mode neg m e = decide (2139095040 ≤ Rn.rung32 mode neg m e) := rfl
  have hrd : ∀ w, Calls Tryd.prog 50 #[.bool neg, .int .u64 (m : Int), .int .i64 (Fs.lastOf m e - e), .int .i64 mode] w fun ee w' => ee = .returned (.tuple #[.int .u64 (Rn.rnd mode neg m (Fs.lastOf m e - e).toNat : Nat), .bool (nrI m e)]) ∧ ∃ d, w' = w.drewN d := fun w => by
    have := rounded_any neg m (Fs.lastOf m e - e) mode (by omega) (by omega) (by omega) (Or.inr (by omega)) w
    rw [Int.toNat_natCast] at this
    rw [hX]
    exact this
  have hl1 := hL2 trivial
  generalize Rn.rnd mode neg m (Fs.lastOf m e - e).toNat = F at *
  generalize nrI m e = X at *
  obtain ⟨fb, fb1⟩ := bitLen_eq F (by omega)
  have hml : ∀ w, Calls Tryd.prog 49 #[.int .u64 (m : Int)] w fun ee w' => ee = .returned (.int .i64 (m.log2 + 1 : Nat)) ∧ w' = w := fun w => by
    have := len64_any m w (by omega) (by omega)
    rwa [Int.toNat_natCast, bitLen_log m s1 (by omega)] at this
  have hfl : ∀ w, Calls Tryd.prog 49 #[.int .u64 (F : Int)] w fun ee w' => ee = .returned (.int .i64 (if F = 0 then 0 else F.log2 + 1 : Nat)) ∧ w' = w := fun w => by
    have := len64_any F w (by omega) (by omega)
    rwa [Int.toNat_natCast, fb] at this
  have hmb : ∀ w, Calls Tryd.prog 47 #[.int .i64 mode] w fun e w' => e = .returned (.bool true) ∧ w' = w := fun w => by
    have := mayBe_any mode w; rwa [hm] at this
  -- beyond just if the rung is the infinity's or above
  have hover : 128 < Fs.lastOf m e + ((if F = 0 then 0 else F.log2 + 1 : Nat) : Int) ↔ 2139095040 ≤ Rn.rung32 mode neg m e := by
    rw [hR]
    by_cases hF : F = 0
    · subst hF
      have : Fs.lastOf m e = -149 := by
        rcases Int.lt_or_le (-149) (Fs.lastOf m e) with c | c
        · have := hbd.2 c; omega
        · omega
      rw [if_pos rfl, this]; decide
    · rw [if_neg hF]
      have fl : F.log2 < 25 := (Nat.log2_lt hF).2 (show F < 2 ^ 25 by omega)
      by_cases h24 : F = 16777216
      · have : F.log2 = 24 := by rw [h24]; decide
        rw [this, h24]; omega
      · have fl2 : F.log2 < 24 := (Nat.log2_lt hF).2 (show F < 2 ^ 24 by omega)
        by_cases h23 : 8388608 ≤ F
        · have : 23 ≤ F.log2 := (Nat.le_log2 hF).2 h23
          omega
        · have : Fs.lastOf m e = -149 := by
            rcases Int.lt_or_le (-149) (Fs.lastOf m e) with c | c
            · have := hbd.2 c; omega
            · omega
          rw [this]; omega
  by_cases hov : 2139095040 ≤ Rn.rung32 mode neg m e
  · have hz : Rn.word32 mode neg m e = endW mode neg := by
      rw [hW]; unfold Rn.cap32 endW; rw [if_neg (by omega)]
    rw [hO, decide_eq_true hov, hz]
    exact narrow_over b _ mode m e _ (Fs.lastOf m e) F _ neg X (by simpa using s1) s3 s4 (by omega) (by omega) hl1 (by omega) (by omega) (hover.2 hov) hmb hS hml hrd hfl (fun w => beyond_any neg mode w) w
  · have hlt : (Fs.lastOf m e + 149).toNat * 8388608 + F < 2139095040 := by omega
    have hcap : Rn.word32 mode neg m e = single.word neg ((Fs.lastOf m e + 149).toNat * 8388608 + F) := by
      rw [hW]; unfold Rn.cap32; rw [if_pos (by omega), hR]
    rw [hO, decide_eq_false hov, hcap, hU]
    have hj : joinR (F : Int) (Fs.lastOf m e) = 0 ∧ floatToFloatBits .f64 (joinW neg (F : Int) (Fs.lastOf m e)) .f32 = some (single.word neg ((Fs.lastOf m e + 149).toNat * 8388608 + F)) := by
      by_cases hF : F = 0
      · have : Fs.lastOf m e = -149 := by
          rcases Int.lt_or_le (-149) (Fs.lastOf m e) with c | c
          · have := hbd.2 c; omega
          · omega
        have hjn := join_nought neg (Fs.lastOf m e)
        rw [hF, show ((0 : Nat) : Int) = 0 from rfl, hjn.1, this]
        exact ⟨(join_nought neg _).2, conv32_nought neg⟩
      · have fl : F.log2 < 25 := (Nat.log2_lt hF).2 (show F < 2 ^ 25 by omega)
        have hl104 : Fs.lastOf m e ≤ 104 := by
          rcases Int.lt_or_le (-149) (Fs.lastOf m e) with c | c
          · have := hbd.2 c; omega
          · omega
        have hjo := join_ok neg F (Fs.lastOf m e) hF (by omega) (by omega) (by omega)
        refine ⟨hjo.2, ?_⟩
        rw [hjo.1]
        exact conv32_front neg F (Fs.lastOf m e) hF hbd.1 hl0 hl104 hbd.2 hlt
    have := narrow_fin b (joinW neg (F : Int) (Fs.lastOf m e)) _ mode m e _ (Fs.lastOf m e) F _ neg X _ (by simpa using s1) s3 s4 (by omega) (by omega) hl1 (by omega) (by omega) (by have := mt hover.1 hov; omega) rfl hmb hS hml hrd hfl (fun w hT => by
      have := join_any neg F (Fs.lastOf m e) (by omega) (by omega) (by omega) w hT
      rwa [hj.1] at this) (fun w => run_conv32 hj.2 w) w hT
    simpa using this
end Go.Proofs.YtckjmcfncfoboaaDoor
