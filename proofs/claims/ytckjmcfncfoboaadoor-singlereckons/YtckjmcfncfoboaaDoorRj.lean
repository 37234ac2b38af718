/- The contract of the document's Join. -/
import Derived.Test.YtckjmcfncfoboaaDoorPj
namespace Go.Proofs.YtckjmcfncfoboaaDoor
open Go.RowKit

def outW (neg : Bool) : Int := if neg then 9223372036854775808 else 0
theorem outW_bd (neg : Bool) : 0 ≤ outW neg ∧ outW neg ≤ 9223372036854775808 := by cases neg <;> decide
theorem or_out (neg : Bool) (x : Int) (h0 : 0 ≤ x) (h1 : x < 9223372036854775808) : bits .or .u64 (outW neg) x = outW neg + x := by
  obtain ⟨n, rfl⟩ := Int.eq_ofNat_of_zero_le h0
  cases neg
  · have := u64_or_nat 0 n (by decide) (by omega)
    rw [Nat.zero_or] at this
    exact this.trans (by show (n : Int) = 0 + n; omega)
  · have := u64_or_nat 9223372036854775808 n (by decide) (by omega)
    rw [nat_join 63 _ n (by decide) (by omega)] at this
    exact this.trans (by show ((9223372036854775808 + n : Nat) : Int) = 9223372036854775808 + n; omega)
theorem word_out (neg : Bool) (r : Nat) : (Ieee.double.word neg r : Int) = outW neg + r := by
  cases neg
  · show (r : Int) = 0 + r; omega
  · show ((9223372036854775808 + r : Nat) : Int) = 9223372036854775808 + r; omega
theorem or_both (neg : Bool) (x M : Int) (h0 : 0 ≤ x) (h1 : x < 2048) (m0 : 4503599627370496 ≤ M) (m1 : M < 9007199254740992) (hx : x ≤ 2046) :
    bits .or .u64 (bits .or .u64 (outW neg) (x * 4503599627370496)) (bits .and .u64 M 4503599627370495) = outW neg + x * 4503599627370496 + (M - 4503599627370496) := by
  have b := outW_bd neg
  rw [or_out neg _ (by omega) (by omega), and52M M (by omega) (by omega)]
  have e : magZ M.toNat % 4503599627370496 = M - 4503599627370496 := by unfold magZ mag; omega
  rw [e]
  obtain ⟨n, hn⟩ : ∃ n : Nat, M - 4503599627370496 = (n : Int) := ⟨(M - 4503599627370496).toNat, by omega⟩
  obtain ⟨k, hk⟩ : ∃ k : Nat, outW neg + x * 4503599627370496 = (k : Int) := ⟨(outW neg + x * 4503599627370496).toNat, by omega⟩
  have hk2 : k % 4503599627370496 = 0 := by
    cases neg
    · have : (k : Int) = 0 + x * 4503599627370496 := hk.symm
      omega
    · have : (k : Int) = 9223372036854775808 + x * 4503599627370496 := hk.symm
      omega
  rw [hn, hk]
  have := u64_or_nat k n (by omega) (by omega)
  rw [nat_join 52 k n hk2 (by omega)] at this
  rw [this]
  omega

theorem oddE_bd (m0 e0 : Int) (h0 : 0 < m0) (h1 : m0 < 18446744073709551616) : e0 ≤ oddE m0 e0 ∧ oddE m0 e0 ≤ e0 + 63 := by
  have := (odd_facts m0 h0 h1).1
  unfold oddE; omega
theorem jn_bad (neg : Bool) (m0 e0 : Int) (h0 : 0 < m0) (h : joinOk m0 e0 = false) : (0 : Int) = (joinW neg m0 e0 : Nat) ∧ 11 = joinR m0 e0 := by
  have hne : ¬ m0 = 0 := by omega
  unfold joinW joinR
  rw [if_neg hne, if_neg hne, h]
  exact ⟨rfl, rfl⟩
theorem jn_sub (neg : Bool) {m0 e0 M E : Int} (h0 : 0 < m0) (h1 : m0 < 18446744073709551616) (i : Inv2 (oddM m0) (oddE m0 e0) M E) (p : 1 ≤ M) (c1 : M < 4503599627370496) (c2 : E = -1074) :
    bits .or .u64 (outW neg) M = (joinW neg m0 e0 : Nat) ∧ 0 = joinR m0 e0 := by
  obtain ⟨k, e⟩ := exit_ok h0 h1 i neg (by omega) (by omega) (by omega) (by omega)
  have hne : ¬ m0 = 0 := by omega
  unfold joinW joinR
  rw [if_neg hne, if_neg hne, k, if_pos rfl, if_pos rfl, e, word_out, or_out neg M (by omega) (by omega)]
  have hr : (Fl.rungOf M.toNat E : Int) = M := by unfold Fl.rungOf; omega
  rw [hr]
  exact ⟨rfl, rfl⟩
theorem jn_nor (neg : Bool) {m0 e0 M E x : Int} (h0 : 0 < m0) (h1 : m0 < 18446744073709551616) (i : Inv2 (oddM m0) (oddE m0 e0) M E) (c0 : 4503599627370496 ≤ M) (c1 : M < 9007199254740992) (c2 : -1074 ≤ E) (c3 : E ≤ 971) (hx : x = (E + 1075) * 4503599627370496) :
    bits .or .u64 (bits .or .u64 (outW neg) x) (bits .and .u64 M 4503599627370495) = (joinW neg m0 e0 : Nat) ∧ 0 = joinR m0 e0 := by
  obtain ⟨k, e⟩ := exit_ok h0 h1 i neg c1 c2 c3 (by omega)
  have hne : ¬ m0 = 0 := by omega
  unfold joinW joinR
  rw [if_neg hne, if_neg hne, k, if_pos rfl, if_pos rfl, e, word_out, hx, or_both neg (E + 1075) M (by omega) (by omega) c0 c1 (by omega)]
  refine ⟨?_, rfl⟩
  unfold Fl.rungOf
  generalize outW neg = q
  omega

set_option maxHeartbeats 1000000 in
theorem rjoin_true (m0 e0 : Int) (h0 : 0 < m0) (h1 : m0 < 18446744073709551616) (he0 : -3000 ≤ e0) (he1 : e0 ≤ 3000) (w : World) :
    Calls Tryd.prog 46 #[.bool true, .int .u64 m0, .int .i64 e0] w fun e w' => e = .returned (.tuple #[.int .u64 (joinW true m0 e0), .int .i64 (joinR m0 e0)]) ∧ w' = w := by
  have hm : (m0 == 0) = false := by simp; omega
  go_enter Tryd.func46, Tryd.ntmps46
  go_wp2
  go_loop [1, 2] (fun m e => ∃ M E : Int, m = .int .u64 M ∧ e = .int .i64 E ∧ Inv1 m0 e0 M E) (fun m _ => (intOf m).toNat)
  case atStart => exact ⟨m0, e0, rfl, rfl, inv1_start m0 e0 h0 h1⟩
  case round =>
    obtain ⟨M, E, rfl, rfl, i0⟩ := hrel
    have i : Hid (Inv1 m0 e0 M E) := i0
    have hM0 := i0.1
    have hM1 := i0.2.1
    have hE := inv1_bd h0 h1 i0
    have hE0 := hE.1
    have hE1 := hE.2
    clear i0 hE
    by_cases he : M % 2 = 0
    · have ht : (M % 2 == 0) = true := by rw [he]; rfl
      have i' : Hid (Inv1 m0 e0 (M / 2) (E + 1)) := inv1_step i.out he
      clear he
      go_wp2
      go_round
      case rel => exact ⟨M / 2, E + 1, rfl, rfl, i'.out⟩
      case measure => simp [intOf]; omega
    · have ht : (M % 2 == 0) = false := by simpa using he
      obtain ⟨x1, x2⟩ := inv1_exit i.out he
      have hb := oddE_bd m0 e0 h0 h1
      obtain ⟨_, _, o1, _, ol⟩ := odd_facts m0 h0 h1
      have i2 : Hid (Inv2 (oddM m0) (oddE m0 e0) M E) := by
        show Inv2 (oddM m0) (oddE m0 e0) M E
        rw [x1, x2]
        exact inv2_start (oddM m0) (oddE m0 e0) ol
      have op : Hid (0 < oddM m0) := by unfold Hid; omega
      have hb' : Hid (e0 ≤ oddE m0 e0 ∧ oddE m0 e0 ≤ e0 + 63) := hb
      clear x1 x2 he o1 ol hb i
      go_wp2
      go_loop [1, 2] (fun m e => ∃ M E : Int, m = .int .u64 M ∧ e = .int .i64 E ∧ Inv2 (oddM m0) (oddE m0 e0) M E) (fun m _ => (4503599627370496 - intOf m).toNat)
      case atStart => exact ⟨M, E, rfl, rfl, i2.out⟩
      case round =>
        clear i2 hM0 hM1 hE0 hE1 ht
        obtain ⟨N, F, rfl, rfl, j0⟩ := hrel
        have j : Hid (Inv2 (oddM m0) (oddE m0 e0) N F) := j0
        have hN := inv2_pos op.out j0
        have hF : -3100 ≤ F ∧ F ≤ 3100 := by
          have := inv2_bd j0
          have := hb'.out
          omega
        have hF0 := hF.1
        have hF1 := hF.2
        have hN1 : N < 18446744073709551616 := by
          obtain ⟨_, _, _, _, x⟩ := j0
          exact x
        clear j0 hF
        by_cases hc : N < 4503599627370496 ∧ -1074 < F
        · obtain ⟨hc1, hc2⟩ := hc
          have j' : Hid (Inv2 (oddM m0) (oddE m0 e0) (2 * N) (F - 1)) := inv2_step j.out hc1 hc2
          go_wp2
          go_round
          case rel => exact ⟨2 * N, F - 1, rfl, rfl, j'.out⟩
          case measure => simp [intOf]; omega
        · have hc' : Hid (¬ (N < 4503599627370496 ∧ -1074 < F)) := hc
          clear hc
          go_wp2
          all_goals have hx := hc'.out
          · exfalso; omega
          all_goals go_ret2
          · obtain ⟨y1, y2⟩ := jn_sub true h0 h1 j.out hN (by omega) (by omega)
            exact ⟨ret2 (int_eq y1) (int_eq y2), rfl⟩
          · obtain ⟨y1, y2⟩ := jn_bad true m0 e0 h0 (exit_bad h0 h1 j.out hx (by omega))
            exact ⟨ret2 (int_eq y1) (int_eq y2), rfl⟩
          · obtain ⟨y1, y2⟩ := jn_bad true m0 e0 h0 (exit_bad h0 h1 j.out hx (by omega))
            exact ⟨ret2 (int_eq y1) (int_eq y2), rfl⟩
          · obtain ⟨y1, y2⟩ := jn_nor true h0 h1 j.out (by omega) (by omega) (by omega) (by omega) rfl
            exact ⟨ret2 (int_eq y1) (int_eq y2), rfl⟩
          · obtain ⟨y1, y2⟩ := jn_bad true m0 e0 h0 (exit_bad h0 h1 j.out hx (by omega))
            exact ⟨ret2 (int_eq y1) (int_eq y2), rfl⟩
          · obtain ⟨y1, y2⟩ := jn_bad true m0 e0 h0 (exit_bad h0 h1 j.out hx (by omega))
            exact ⟨ret2 (int_eq y1) (int_eq y2), rfl⟩

set_option maxHeartbeats 1000000 in
theorem rjoin_false (m0 e0 : Int) (h0 : 0 < m0) (h1 : m0 < 18446744073709551616) (he0 : -3000 ≤ e0) (he1 : e0 ≤ 3000) (w : World) :
    Calls Tryd.prog 46 #[.bool false, .int .u64 m0, .int .i64 e0] w fun e w' => e = .returned (.tuple #[.int .u64 (joinW false m0 e0), .int .i64 (joinR m0 e0)]) ∧ w' = w := by
  have hm : (m0 == 0) = false := by simp; omega
  go_enter Tryd.func46, Tryd.ntmps46
  go_wp2
  go_loop [1, 2] (fun m e => ∃ M E : Int, m = .int .u64 M ∧ e = .int .i64 E ∧ Inv1 m0 e0 M E) (fun m _ => (intOf m).toNat)
  case atStart => exact ⟨m0, e0, rfl, rfl, inv1_start m0 e0 h0 h1⟩
  case round =>
    obtain ⟨M, E, rfl, rfl, i0⟩ := hrel
    have i : Hid (Inv1 m0 e0 M E) := i0
    have hM0 := i0.1
    have hM1 := i0.2.1
    have hE := inv1_bd h0 h1 i0
    have hE0 := hE.1
    have hE1 := hE.2
    clear i0 hE
    by_cases he : M % 2 = 0
    · have ht : (M % 2 == 0) = true := by rw [he]; rfl
      have i' : Hid (Inv1 m0 e0 (M / 2) (E + 1)) := inv1_step i.out he
      clear he
      go_wp2
      go_round
      case rel => exact ⟨M / 2, E + 1, rfl, rfl, i'.out⟩
      case measure => simp [intOf]; omega
    · have ht : (M % 2 == 0) = false := by simpa using he
      obtain ⟨x1, x2⟩ := inv1_exit i.out he
      have hb := oddE_bd m0 e0 h0 h1
      obtain ⟨_, _, o1, _, ol⟩ := odd_facts m0 h0 h1
      have i2 : Hid (Inv2 (oddM m0) (oddE m0 e0) M E) := by
        show Inv2 (oddM m0) (oddE m0 e0) M E
        rw [x1, x2]
        exact inv2_start (oddM m0) (oddE m0 e0) ol
      have op : Hid (0 < oddM m0) := by unfold Hid; omega
      have hb' : Hid (e0 ≤ oddE m0 e0 ∧ oddE m0 e0 ≤ e0 + 63) := hb
      clear x1 x2 he o1 ol hb i
      go_wp2
      go_loop [1, 2] (fun m e => ∃ M E : Int, m = .int .u64 M ∧ e = .int .i64 E ∧ Inv2 (oddM m0) (oddE m0 e0) M E) (fun m _ => (4503599627370496 - intOf m).toNat)
      case atStart => exact ⟨M, E, rfl, rfl, i2.out⟩
      case round =>
        clear i2 hM0 hM1 hE0 hE1 ht
        obtain ⟨N, F, rfl, rfl, j0⟩ := hrel
        have j : Hid (Inv2 (oddM m0) (oddE m0 e0) N F) := j0
        have hN := inv2_pos op.out j0
        have hF : -3100 ≤ F ∧ F ≤ 3100 := by
          have := inv2_bd j0
          have := hb'.out
          omega
        have hF0 := hF.1
        have hF1 := hF.2
        have hN1 : N < 18446744073709551616 := by
          obtain ⟨_, _, _, _, x⟩ := j0
          exact x
        clear j0 hF
        by_cases hc : N < 4503599627370496 ∧ -1074 < F
        · obtain ⟨hc1, hc2⟩ := hc
          have j' : Hid (Inv2 (oddM m0) (oddE m0 e0) (2 * N) (F - 1)) := inv2_step j.out hc1 hc2
          go_wp2
          go_round
          case rel => exact ⟨2 * N, F - 1, rfl, rfl, j'.out⟩
          case measure => simp [intOf]; omega
        · have hc' : Hid (¬ (N < 4503599627370496 ∧ -1074 < F)) := hc
          clear hc
          go_wp2
          all_goals have hx := hc'.out
          · exfalso; omega
          all_goals go_ret2
          · obtain ⟨y1, y2⟩ := jn_sub false h0 h1 j.out hN (by omega) (by omega)
            exact ⟨ret2 (int_eq y1) (int_eq y2), rfl⟩
          · obtain ⟨y1, y2⟩ := jn_bad false m0 e0 h0 (exit_bad h0 h1 j.out hx (by omega))
            exact ⟨ret2 (int_eq y1) (int_eq y2), rfl⟩
          · obtain ⟨y1, y2⟩ := jn_bad false m0 e0 h0 (exit_bad h0 h1 j.out hx (by omega))
            exact ⟨ret2 (int_eq y1) (int_eq y2), rfl⟩
          · obtain ⟨y1, y2⟩ := jn_nor false h0 h1 j.out (by omega) (by omega) (by omega) (by omega) rfl
            exact ⟨ret2 (int_eq y1) (int_eq y2), rfl⟩
          · obtain ⟨y1, y2⟩ := jn_bad false m0 e0 h0 (exit_bad h0 h1 j.out hx (by omega))
            exact ⟨ret2 (int_eq y1) (int_eq y2), rfl⟩
          · obtain ⟨y1, y2⟩ := jn_bad false m0 e0 h0 (exit_bad h0 h1 j.out hx (by omega))
            exact ⟨ret2 (int_eq y1) (int_eq y2), rfl⟩

set_option maxHeartbeats 400000 in
theorem rjoin_zero (neg : Bool) (e0 : Int) (w : World) :
    Calls Tryd.prog 46 #[.bool neg, .int .u64 0, .int .i64 e0] w fun e w' => e = .returned (.tuple #[.int .u64 (outW neg), .int .i64 0]) ∧ w' = w := by
  cases neg
  all_goals
    go_enter Tryd.func46, Tryd.ntmps46
    go_wp2
    go_ret2
    exact ⟨rfl, rfl⟩
set_option maxHeartbeats 400000 in
theorem rjoin_far (neg : Bool) (m0 e0 : Int) (hm : (m0 == 0) = false) (he : 3000 < e0 ∨ e0 < -3000) (w : World) :
    Calls Tryd.prog 46 #[.bool neg, .int .u64 m0, .int .i64 e0] w fun e w' => e = .returned (.tuple #[.int .u64 0, .int .i64 11]) ∧ w' = w := by
  rcases he with he | he
  all_goals
    cases neg
    all_goals
      go_enter Tryd.func46, Tryd.ntmps46
      go_wp2
      go_ret2
      exact ⟨rfl, rfl⟩
theorem rjoin_any (neg : Bool) (m0 e0 : Int) (h0 : 0 ≤ m0) (h1 : m0 < 18446744073709551616) (w : World) :
    Calls Tryd.prog 46 #[.bool neg, .int .u64 m0, .int .i64 e0] w fun e w' => e = .returned (.tuple #[.int .u64 (joinW neg m0 e0), .int .i64 (joinR m0 e0)]) ∧ w' = w := by
  by_cases hm : m0 = 0
  · subst hm
    have := rjoin_zero neg e0 w
    have e1 : (joinW neg 0 e0 : Int) = outW neg := by unfold joinW; rw [if_pos rfl]; cases neg <;> rfl
    have e2 : joinR 0 e0 = 0 := by unfold joinR; rw [if_pos rfl]
    rw [e1, e2]
    exact this
  · by_cases he : -3000 ≤ e0 ∧ e0 ≤ 3000
    · cases neg
      · exact rjoin_false m0 e0 (by omega) h1 he.1 he.2 w
      · exact rjoin_true m0 e0 (by omega) h1 he.1 he.2 w
    · have hb := oddE_bd m0 e0 (by omega) h1
      have hj : joinOk m0 e0 = false := by
        unfold joinOk hld
        exact decide_eq_false (by omega)
      obtain ⟨y1, y2⟩ := jn_bad neg m0 e0 (by omega) hj
      have := rjoin_far neg m0 e0 (by simpa using hm) (by omega) w
      rw [← y1, ← y2]
      exact this
end Go.Proofs.YtckjmcfncfoboaaDoor
