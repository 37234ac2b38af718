/- The law PartsBack for every three numbers. -/
import Derived.Test.YtokfmeainfkjfaaDoorLba
import Derived.Test.YtokfmeainfkjfaaDoorLbn
import Derived.Test.YtokfmeainfkjfaaDoorLbp
import Derived.Test.YtokfmeainfkjfaaDoorLbm
import Derived.Test.YtokfmeainfkjfaaDoorPc
namespace Go.Proofs.YtokfmeainfkjfaaDoor
open Go.RowKit

theorem back_walk (a b c : Int) (h0 : Hid (0 ≤ a)) (h1 : Hid (a < 18446744073709551616)) (g0 : Hid (0 ≤ b)) (g1 : Hid (b < 18446744073709551616)) (k0 : Hid (0 ≤ c)) (k1 : Hid (c < 18446744073709551616)) (w : World) (hT : Hid (Tab w)) :
    Calls Tryd.prog 6 #[.int .u64 a, .int .u64 b, .int .u64 c] w fun e w' => e = .returned (.bool true) ∧ w' = w := by
  have hx : a.toNat < 18446744073709551616 := by have := h0.out; have := h1.out; omega
  have hy : b.toNat < 18446744073709551616 := by have := g0.out; have := g1.out; omega
  have hz : c.toNat < 18446744073709551616 := by have := k0.out; have := k1.out; omega
  have hX := one_lt _ hx
  have hY := one_lt _ hy
  have hZ := one_lt _ hz
  have o := ord_facts (plc (one a.toNat)) (plc (one b.toNat))
  obtain ⟨FA, FB, FC, FD, FE⟩ := three_facts a.toNat b.toNat c.toNat hX hY
  have S0 := split_any _ hX
  have C0 := class_any _ hX
  have N0 := next_any _ hX
  have R4 := order_any _ _ hY hX
  rw [o.2.2.2.2] at R4
  have O1 := one_any _ hx
  have O2 := one_any _ hy
  have O3 := one_any _ hz
  have T1 := steps_any _ _ hX hY
  have T2 := steps_any _ _ hY hZ
  have T3 := steps_any _ _ hX hZ
  have R1 := order_any _ _ hX hY
  have R2 := order_any _ _ hY hZ
  have R3 := order_any _ _ hX hZ
  have I2 : ∀ w, Calls Tryd.prog 10 #[.float .f64 (one a.toNat), .int .u64 (one b.toNat : Nat)] w fun e w' => e = .returned (.bool (((one a.toNat : Nat) : Int) == ((one b.toNat : Nat) : Int))) ∧ w' = w := is_any _ _
  have I1 : ∀ w, Calls Tryd.prog 10 #[.float .f64 (one a.toNat), .int .u64 (one a.toNat : Nat)] w fun e w' => e = .returned (.bool true) ∧ w' = w := is_yes _ _ rfl
  by_cases hf : mag (one a.toNat) < 9218868437227405312
  · obtain ⟨n, p1, _⟩ := plc_fin _ hf
    obtain ⟨_, _, hN, pv, sv, sr, la⟩ := next_facts _ hX n p1
    have Q0 := same_any _ _ hN hX
    rw [la] at Q0
    have P0 := prev_any _ hN
    rw [pv] at P0
    have T0 := steps_any _ _ hX hN
    rw [sv, sr] at T0
    rw [(spR_fin _).1.2 hf] at S0
    have js := join_split _ hX hf
    have mb := spMz_bd (one a.toNat)
    have eb := spE_bd (one a.toNat)
    have J0 : ∀ w, Tab w → Calls Tryd.prog 20 #[.bool (spN (one a.toNat)), .int .u64 (spMz (one a.toNat)), .int .i64 (spE (one a.toNat))] w fun e w' => e = .returned (.tuple #[.float .f64 (one a.toNat), .int .i64 0]) ∧ w' = w := fun w hT => by
      have := join_any (spN (one a.toNat)) (spMz (one a.toNat)) (spE (one a.toNat)) mb.1 (by omega) (by omega) w hT
      rwa [js.1, js.2] at this
    have hgt := gt_max _ hX
    rw [decide_eq_false (by omega)] at hgt
    exact back_fin a b c _ _ _ _ _ _ _ _ _ _ _ _ _ _ _ _ _ _ _ _ _ _ rfl rfl rfl ((cls_fin _).2 hf) hgt rfl mb.2 o.1 o.2.1 FA FB FC FD FE awake_any O1 O2 O3 S0 C0 J0 I1 N0 Q0 P0 T0 T1 T2 T3 R1 R2 R3 R4 I2 w hT
  · rw [(spR_fin _).2.2 (by omega)] at S0
    by_cases hi : mag (one a.toNat) = 9218868437227405312
    · obtain ⟨n, c2, pi⟩ := plc_infs _ hi
      rw [c2] at C0
      have hgt := gt_max _ hX
      rcases pi with pi | pi
      · obtain ⟨e, la⟩ := last_facts a.toNat (by rw [pi]; omega)
        have hN : nxt (one a.toNat) < 18446744073709551616 := by rw [e]; exact hX
        have Q0 := same_any _ _ hN hX
        rw [la] at Q0
        rw [decide_eq_true pi] at hgt
        exact back_pinf a b c _ _ _ _ _ _ _ _ _ _ _ _ _ _ _ _ _ _ _ _ _ _ _ _ rfl rfl rfl hgt rfl o.1 o.2.1 FA FB FC FD FE awake_any O1 O2 O3 S0 C0 N0 Q0 (prev_any _ hN) (steps_any _ _ hX hN) T1 T2 T3 R1 R2 R3 R4 I2 w hT
      · obtain ⟨_, _, hN, pv, sv, sr, la⟩ := next_facts _ hX n (by rw [pi]; omega)
        have Q0 := same_any _ _ hN hX
        rw [la] at Q0
        have P0 := prev_any _ hN
        rw [pv] at P0
        have T0 := steps_any _ _ hX hN
        rw [sv, sr] at T0
        rw [decide_eq_false (by rw [pi]; omega)] at hgt
        exact back_minf a b c _ _ _ _ _ _ _ _ _ _ _ _ _ _ _ _ _ _ _ _ _ rfl rfl rfl hgt rfl o.1 o.2.1 FA FB FC FD FE awake_any O1 O2 O3 S0 C0 I1 N0 Q0 P0 T0 T1 T2 T3 R1 R2 R3 R4 I2 w hT
    · have hn : isN (one a.toNat) = true := decide_eq_true (by omega)
      have c1 : cls (one a.toNat) = 1 := by
        have := cls1 (one a.toNat)
        rw [hn] at this
        exact eq_of_beq this
      rw [c1] at C0
      obtain ⟨e, la⟩ := last_facts a.toNat (by unfold plc; rw [hn, if_pos rfl]; omega)
      have hN : nxt (one a.toNat) < 18446744073709551616 := by rw [e]; exact hX
      have Q0 := same_any _ _ hN hX
      rw [la] at Q0
      exact back_nan a b c _ _ _ _ _ _ _ _ _ _ _ _ _ _ _ _ _ _ _ _ _ _ _ _ rfl rfl rfl rfl o.1 o.2.1 FA FB FC FD FE awake_any O1 O2 O3 S0 C0 N0 Q0 (prev_any _ hN) (steps_any _ _ hX hN) T1 T2 T3 R1 R2 R3 R4 I2 w hT
end Go.Proofs.YtokfmeainfkjfaaDoor
