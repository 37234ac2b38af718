/- The law PartsNear for every two numbers. -/
import Derived.Test.YtokfmeainfkjfaaDoorLni
import Derived.Test.YtokfmeainfkjfaaDoorLnz
import Derived.Test.YtokfmeainfkjfaaDoorLnu
import Derived.Test.YtokfmeainfkjfaaDoorLnv
import Derived.Test.YtokfmeainfkjfaaDoorLnd
import Derived.Test.YtokfmeainfkjfaaDoorPm
import Derived.Test.YtokfmeainfkjfaaDoorPc
namespace Go.Proofs.YtokfmeainfkjfaaDoor
open Go.RowKit

set_option maxHeartbeats 400000 in
theorem abs_raw (b : Nat) (w : World) :
    Calls Tryd.prog 37 #[.float .f64 b] w fun e w' => e = .returned (.float .f64 (bits .andNot .u64 (b : Int) 9223372036854775808).toNat) ∧ w' = w := by
  go_enter Tryd.func37, Tryd.ntmps37
  go_wp2
  go_ret
  exact ⟨rfl, rfl⟩
theorem abs_any (b : Nat) (hb : Hid (b < 18446744073709551616)) (w : World) :
    Calls Tryd.prog 37 #[.float .f64 b] w fun e w' => e = .returned (.float .f64 (mag b)) ∧ w' = w := by
  have := abs_raw b w
  rw [andNot63 b hb.out, Int.toNat_natCast] at this
  exact this

/-- The half of a number's magnitude, rounded. -/
def hlf (x : Nat) : Nat := Ieee.double.nearest false (Fl.mantOf (mag x)) (Fl.placeOf (mag x) - 1)
theorem nearest_le (m : Nat) (p : Int) : Ieee.double.nearest false m p ≤ 9218868437227405312 := by
  by_cases h : m = 0
  · subst h
    have : Ieee.double.nearest false 0 p = Ieee.double.word false 0 := by unfold Ieee.Format.nearest; exact if_pos rfl
    rw [this, word_pos]; exact Nat.zero_le _
  · rw [Fl.nearest_eq false m p h, word_pos]
    exact Nat.min_le_right _ _
theorem hlf_run (x : Nat) (h : mag x < 9218868437227405312) (w : World) : (binOp .quo 24 (.float .f64 (mag x)) (.float .f64 4611686018427387904)).run Tryd.prog w = .ok (.float .f64 (hlf x)) w :=
  run_float_arith w .quo 24 .f64 _ _ _ (Fl.half_word (mag x) h)
theorem hlf_gt (x y : Nat) (hy : mag y < 9218868437227405312) : (FloatKind.f64.format.order (hlf x) (mag y) == some .gt) = decide (mag y < hlf x) := abs_gt _ _ (nearest_le _ _) (by omega)
theorem bne_of {α : Type} [BEq α] {u v : α} (h : (u == v) = true) : (u != v) = false := by unfold bne; rw [h]; rfl
theorem bne_not (a b : Bool) (h : ¬ a = b) : a = !b := by cases a <;> cases b <;> simp_all

/-- Where the one's place is above the other's, and its half is not above the other. -/
theorem near_rungs (r r' : Nat) (h' : r' < 9218868437227405312) (hp : Fl.placeOf r < Fl.placeOf r') (hh : Ieee.double.nearest false (Fl.mantOf r') (Fl.placeOf r' - 1) ≤ r) :
    Fl.placeOf r' = Fl.placeOf r + 1 ∧ Fl.mantOf r' ≤ Fl.mantOf r ∧ 4503599627370496 ≤ Fl.mantOf r' := by
  have c := Fl.canon_of r
  have c' := Fl.canon_of r'
  have e := Fl.rungOf_of r
  have e' := Fl.rungOf_of r'
  have g : -1073 ≤ Fl.placeOf r' := by have := c.2.1; omega
  obtain ⟨x1, x2⟩ := Fl.half_exact r' h' g
  rw [x1] at hh
  have hb : 4503599627370496 ≤ Fl.mantOf r' := by have := c'.2.2; omega
  have key : ∀ (M M' : Nat) (E E' : Int), -1074 ≤ E → E < E' → M < 9007199254740992 → 4503599627370496 ≤ M' → Fl.rungOf M E = r → Fl.rungOf M' E' = r' → E' = E + 1 ∧ M' ≤ M := by
    intro M M' E E' a1 a2 a3 a4 a5 a6
    unfold Fl.rungOf at a5 a6
    obtain ⟨k, hk⟩ : ∃ k : Nat, E + 1074 = (k : Int) := ⟨(E + 1074).toNat, by omega⟩
    obtain ⟨d, hd⟩ : ∃ d : Nat, E' = E + 1 + (d : Int) := ⟨(E' - E - 1).toNat, by omega⟩
    rw [show (E + 1074).toNat = k by omega] at a5
    rw [show (E' + 1074).toNat = k + 1 + d by omega] at a6
    omega
  obtain ⟨y1, y2⟩ := key _ _ _ _ c.2.1 hp c.1 hb e e'
  exact ⟨y1, y2, hb⟩

theorem near_inf (a b : Int) (hx : a.toNat < 18446744073709551616) (hy : b.toNat < 18446744073709551616) (fx : mag (one a.toNat) < 9218868437227405312) (hn : ¬ mag (nxt (one a.toNat)) < 9218868437227405312) (w : World) (hT : Hid (Tab w)) :
    Calls Tryd.prog 7 #[.int .u64 a, .int .u64 b] w fun e w' => e = .returned (.bool true) ∧ w' = w := by
  have hX := one_lt _ hx
  have hY := one_lt _ hy
  have O1 := one_any _ hx
  have O2 := one_any _ hy
  have N0 := next_any _ hX
  have C1 := class_any _ hX
  have C3 := class_any _ hY
  have hc1 := (cls_fin _).2 fx
  have B2 := abs_any _ hX
  have nX : isN (one a.toNat) = false := decide_eq_false (by omega)
  have hN : (nxt (one a.toNat)) < 18446744073709551616 := by
    by_cases g : plc (one a.toNat) < 9218868437227405312
    · exact (next_facts _ hX nX g).2.2.1
    · rw [(last_facts a.toNat g).1]; exact hX
  have C2 := class_any _ hN
  have hc2 : cls (nxt (one a.toNat)) ≤ 2 := by have := (cls_fin (nxt (one a.toNat))).1; omega
  by_cases fy : mag (one b.toNat) < 9218868437227405312
  · have hc3 := (cls_fin _).2 fy
    have nY : isN (one b.toNat) = false := decide_eq_false (by omega)
    have G1 := negative_any _ hX
    have G2 := negative_any _ hY
    have sX : ngt (one a.toNat) = sgb (one a.toNat) := (ngt_n _ nX).symm
    have sY : ngt (one b.toNat) = sgb (one b.toNat) := (ngt_n _ nY).symm
    by_cases sg : ngt (one a.toNat) = ngt (one b.toNat)
    · rw [← sg] at G2
      have B3 := abs_any _ hY
      have DV1 := hlf_run _ fy
      have DV2 := hlf_run _ fx
      have hg1 := hlf_gt (one b.toNat) (one a.toNat) fx
      have hg2 := hlf_gt (one a.toNat) (one b.toNat) fy
      by_cases g1 : mag (one a.toNat) < hlf (one b.toNat)
      · rw [decide_eq_true g1] at hg1
        exact near_inf_X2 a b _ _ _ _ _ _ _ _ _ _ _ _  rfl rfl hc1 hc2 hc3 DV1 hg1 awake_any O1 O2 N0 C1 C2 C3 G1 G2 B2 B3 w hT
      · rw [decide_eq_false g1] at hg1
        by_cases g2 : mag (one b.toNat) < hlf (one a.toNat)
        · rw [decide_eq_true g2] at hg2
          exact near_inf_X3 a b _ _ _ _ _ _ _ _ _ _ _ _ _  rfl rfl hc1 hc2 hc3 DV1 hg1 DV2 hg2 awake_any O1 O2 N0 C1 C2 C3 G1 G2 B2 B3 w hT
        · rw [decide_eq_false g2] at hg2
          have S1 := split_any _ hX
          have S2 := split_any _ hY
          rw [(spR_fin _).1.2 fx] at S1
          rw [(spR_fin _).1.2 fy] at S2
          by_cases m0 : mag (one a.toNat) = 0
          · have hm : (spMz (one a.toNat) == 0) = true := by rw [(spMz_0 _ fx).2 m0]; rfl
            exact near_inf_X4 a b _ _ _ _ _ _ _ _ _ _ _ _ _ _ _ _ _ _ _  rfl rfl hc1 hc2 hc3 DV1 hg1 DV2 hg2 hm awake_any O1 O2 N0 C1 C2 C3 G1 G2 B2 B3 S1 S2 w hT
          · have hm' : spMz (one a.toNat) ≠ 0 := fun c => m0 ((spMz_0 _ fx).1 c)
            have hm : (spMz (one a.toNat) == 0) = false := by simpa using hm'
            by_cases n0 : mag (one b.toNat) = 0
            · have hn0 : (spMz (one b.toNat) == 0) = true := by rw [(spMz_0 _ fy).2 n0]; rfl
              exact near_inf_X5 a b _ _ _ _ _ _ _ _ _ _ _ _ _ _ _ _ _ _ _  rfl rfl hc1 hc2 hc3 DV1 hg1 DV2 hg2 hm hn0 awake_any O1 O2 N0 C1 C2 C3 G1 G2 B2 B3 S1 S2 w hT
            · have hn' : spMz (one b.toNat) ≠ 0 := fun c => n0 ((spMz_0 _ fy).1 c)
              have hn0 : (spMz (one b.toNat) == 0) = false := by simpa using hn'
              have mb := spMz_bd (one a.toNat)
              have nb := spMz_bd (one b.toNat)
              have eb := spE_bd (one a.toNat)
              have fb := spE_bd (one b.toNat)
              have mx := sp_mant _ fx
              have my := sp_mant _ fy
              have ex := sp_place _ fx m0
              have ey := sp_place _ fy n0
              have hss : sgb (one a.toNat) = sgb (one b.toNat) := by rw [← sX, ← sY]; exact sg
              have NJ := near_join _ _ hX hY fx fy hss
              rw [← ex, ← ey, ← mx, ← my, ← sX] at NJ
              have nr := near_rungs (mag (one a.toNat)) (mag (one b.toNat)) fy
              have nr' := near_rungs (mag (one b.toNat)) (mag (one a.toNat)) fx
              rw [← ex, ← ey, ← mx, ← my] at nr nr'
              have hg1' : Ieee.double.nearest false (spMz (one b.toNat)).toNat (spE (one b.toNat) - 1) ≤ mag (one a.toNat) := by rw [my, ey]; exact Nat.le_of_not_lt g1
              have hg2' : Ieee.double.nearest false (spMz (one a.toNat)).toNat (spE (one a.toNat) - 1) ≤ mag (one b.toNat) := by rw [mx, ex]; exact Nat.le_of_not_lt g2
              have JA : ∀ (ng : Bool) (D : Nat) (l : Int), D < 9007199254740992 → -9223372036854775808 ≤ l → joinR D l = 0 → ∀ w, Tab w → Calls Tryd.prog 20 #[.bool ng, .int .u64 D, .int .i64 l] w fun e w' => e = .returned (.tuple #[.float .f64 (joinW ng D l), .int .i64 0]) ∧ w' = w := fun ng D l d0 l0 r w hT => by
                have := join_any ng D l (by omega) (by omega) l0 w hT
                rwa [r] at this
              generalize ngt (one a.toNat) = s at *
              rcases Int.lt_trichotomy (spE (one a.toNat)) (spE (one b.toNat)) with c | c | c
              · obtain ⟨y1, y2, y3⟩ := nr c hg1'
                obtain ⟨D, hD⟩ : ∃ D : Nat, (D : Int) = 2 * spMz (one b.toNat) - spMz (one a.toNat) := ⟨(2 * spMz (one b.toNat) - spMz (one a.toNat)).toNat, by omega⟩
                obtain ⟨S, s1, s2, s3⟩ := NJ true D (by omega) (fun _ => by omega) (by
                  rw [if_pos rfl, Int.min_eq_left (by omega), show (spE (one a.toNat) - spE (one a.toNat)).toNat = 0 by omega, show (spE (one b.toNat) - spE (one a.toNat)).toNat = 1 by omega]
                  omega)
                rw [Int.min_eq_left (by omega)] at s2 s3
                have J0 := JA (s != true) D (spE (one a.toNat)) (by omega) (by omega) s2
                rw [hD] at J0 s3
                rw [Bool.bne_true] at J0 s3
                rw [y1] at S2
                exact near_inf_LT a b _ _ _ _ _ _ _ _ _ _ _ _ _ _ _ _ _ _ _ _  rfl rfl hc1 hc2 hc3 DV1 hg1 DV2 hg2 hm hn0 (by omega) mb.2 (by omega) nb.2 (by omega) (by omega) (by omega) (fun w => run_float_arith w .sub 24 .f64 _ _ _ s1) s3 awake_any O1 O2 N0 C1 C2 C3 G1 G2 B2 B3 S1 S2 J0 w hT
              · have hl : min (spE (one a.toNat)) (spE (one b.toNat)) = spE (one a.toNat) := by omega
                rw [hl, show (spE (one a.toNat) - spE (one a.toNat)).toNat = 0 by omega, show (spE (one b.toNat) - spE (one a.toNat)).toNat = 0 by omega] at NJ
                rw [← c] at S2
                by_cases le : spMz (one a.toNat) < spMz (one b.toNat)
                · obtain ⟨D, hD⟩ : ∃ D : Nat, (D : Int) = spMz (one b.toNat) - spMz (one a.toNat) := ⟨(spMz (one b.toNat) - spMz (one a.toNat)).toNat, by omega⟩
                  obtain ⟨S, s1, s2, s3⟩ := NJ true D (by omega) (fun _ => by omega) (by rw [if_pos rfl]; omega)
                  have J0 := JA (s != true) D (spE (one a.toNat)) (by omega) (by omega) s2
                  rw [hD] at J0 s3
                  rw [Bool.bne_true] at J0 s3
                  exact near_inf_EQ1 a b _ _ _ _ _ _ _ _ _ _ _ _ _ _ _ _ _ _ _ _  rfl rfl hc1 hc2 hc3 DV1 hg1 DV2 hg2 hm hn0 (by omega) mb.2 (by omega) nb.2 (by omega) (by omega) (by omega) (fun w => run_float_arith w .sub 24 .f64 _ _ _ s1) s3 awake_any O1 O2 N0 C1 C2 C3 G1 G2 B2 B3 S1 S2 J0 w hT
                · obtain ⟨D, hD⟩ : ∃ D : Nat, (D : Int) = spMz (one a.toNat) - spMz (one b.toNat) := ⟨(spMz (one a.toNat) - spMz (one b.toNat)).toNat, by omega⟩
                  obtain ⟨S, s1, s2, s3⟩ := NJ false D (by omega) (fun h => by cases h) (by rw [if_neg (by decide)]; omega)
                  have J0 := JA (s != false) D (spE (one a.toNat)) (by omega) (by omega) s2
                  rw [hD] at J0 s3
                  rw [Bool.bne_false] at J0 s3
                  exact near_inf_EQ0 a b _ _ _ _ _ _ _ _ _ _ _ _ _ _ _ _ _ _ _ _  rfl rfl hc1 hc2 hc3 DV1 hg1 DV2 hg2 hm hn0 (by omega) mb.2 (by omega) nb.2 (by omega) (by omega) (by omega) (by rw [decide_eq_false (by omega)]; cases s <;> rfl) (fun w => run_float_arith w .sub 24 .f64 _ _ _ s1) s3 awake_any O1 O2 N0 C1 C2 C3 G1 G2 B2 B3 S1 S2 J0 w hT
              · obtain ⟨y1, y2, y3⟩ := nr' c hg2'
                obtain ⟨D, hD⟩ : ∃ D : Nat, (D : Int) = 2 * spMz (one a.toNat) - spMz (one b.toNat) := ⟨(2 * spMz (one a.toNat) - spMz (one b.toNat)).toNat, by omega⟩
                obtain ⟨S, s1, s2, s3⟩ := NJ false D (by omega) (fun h => by cases h) (by
                  rw [if_neg (by decide), Int.min_eq_right (by omega), show (spE (one b.toNat) - spE (one b.toNat)).toNat = 0 by omega, show (spE (one a.toNat) - spE (one b.toNat)).toNat = 1 by omega]
                  omega)
                rw [Int.min_eq_right (by omega)] at s2 s3
                have J0 := JA (s != false) D (spE (one b.toNat)) (by omega) (by omega) s2
                rw [hD] at J0 s3
                rw [Bool.bne_false] at J0 s3
                rw [y1] at S1
                exact near_inf_GT a b _ _ _ _ _ _ _ _ _ _ _ _ _ _ _ _ _ _ _ _  rfl rfl hc1 hc2 hc3 DV1 hg1 DV2 hg2 hm hn0 (by omega) mb.2 (by omega) nb.2 (by omega) (by omega) (by omega) (by rw [decide_eq_false (by omega)]; cases s <;> rfl) (fun w => run_float_arith w .sub 24 .f64 _ _ _ s1) s3 awake_any O1 O2 N0 C1 C2 C3 G1 G2 B2 B3 S1 S2 J0 w hT
    · rw [bne_not _ _ sg] at G1
      exact near_inf_X1 a b _ _ _ _ _ _ _ _ _  rfl rfl hc1 hc2 hc3 awake_any O1 O2 N0 C1 C2 C3 G1 G2 w hT
  · have hc3 : cls (one b.toNat) ≤ 2 := by have := (cls_fin (one b.toNat)).1; omega
    exact near_inf_N1 a b _ _ _ _ _ _ _ _  rfl rfl hc1 hc2 hc3 awake_any O1 O2 N0 C1 C2 C3 w hT

theorem near_zero (a b : Int) (hx : a.toNat < 18446744073709551616) (hy : b.toNat < 18446744073709551616) (fx : mag (one a.toNat) < 9218868437227405312) (hn : mag (nxt (one a.toNat)) < 9218868437227405312) (z1 : mag (one a.toNat) = 0) (z2 : mag (nxt (one a.toNat)) = 0) (w : World) (hT : Hid (Tab w)) :
    Calls Tryd.prog 7 #[.int .u64 a, .int .u64 b] w fun e w' => e = .returned (.bool true) ∧ w' = w := by
  have hX := one_lt _ hx
  have hY := one_lt _ hy
  have O1 := one_any _ hx
  have O2 := one_any _ hy
  have N0 := next_any _ hX
  have C1 := class_any _ hX
  have C3 := class_any _ hY
  have hc1 := (cls_fin _).2 fx
  have B2 := abs_any _ hX
  have nX : isN (one a.toNat) = false := decide_eq_false (by omega)
  obtain ⟨nX', p1, _⟩ := plc_fin _ fx
  obtain ⟨nN, _, hN, _, _, _, _⟩ := next_facts _ hX nX p1
  have C2 := class_any _ hN
  have hc2 := (cls_fin _).2 hn
  have hz1 := is_zero _ hX nX
  have hz2 := is_zero _ hN nN
  rw [decide_eq_true z1] at hz1
  rw [decide_eq_true z2] at hz2
  by_cases fy : mag (one b.toNat) < 9218868437227405312
  · have hc3 := (cls_fin _).2 fy
    have nY : isN (one b.toNat) = false := decide_eq_false (by omega)
    have G1 := negative_any _ hX
    have G2 := negative_any _ hY
    have sX : ngt (one a.toNat) = sgb (one a.toNat) := (ngt_n _ nX).symm
    have sY : ngt (one b.toNat) = sgb (one b.toNat) := (ngt_n _ nY).symm
    by_cases sg : ngt (one a.toNat) = ngt (one b.toNat)
    · rw [← sg] at G2
      have B3 := abs_any _ hY
      have DV1 := hlf_run _ fy
      have DV2 := hlf_run _ fx
      have hg1 := hlf_gt (one b.toNat) (one a.toNat) fx
      have hg2 := hlf_gt (one a.toNat) (one b.toNat) fy
      by_cases g1 : mag (one a.toNat) < hlf (one b.toNat)
      · rw [decide_eq_true g1] at hg1
        exact near_zero_X2 a b _ _ _ _ _ _ _ _ _ _ _ _  rfl rfl hc1 hc2 hz1 hz2 hc3 DV1 hg1 awake_any O1 O2 N0 C1 C2 C3 G1 G2 B2 B3 w hT
      · rw [decide_eq_false g1] at hg1
        by_cases g2 : mag (one b.toNat) < hlf (one a.toNat)
        · rw [decide_eq_true g2] at hg2
          exact near_zero_X3 a b _ _ _ _ _ _ _ _ _ _ _ _ _  rfl rfl hc1 hc2 hz1 hz2 hc3 DV1 hg1 DV2 hg2 awake_any O1 O2 N0 C1 C2 C3 G1 G2 B2 B3 w hT
        · rw [decide_eq_false g2] at hg2
          have S1 := split_any _ hX
          have S2 := split_any _ hY
          rw [(spR_fin _).1.2 fx] at S1
          rw [(spR_fin _).1.2 fy] at S2
          by_cases m0 : mag (one a.toNat) = 0
          · have hm : (spMz (one a.toNat) == 0) = true := by rw [(spMz_0 _ fx).2 m0]; rfl
            exact near_zero_X4 a b _ _ _ _ _ _ _ _ _ _ _ _ _ _ _ _ _ _ _  rfl rfl hc1 hc2 hz1 hz2 hc3 DV1 hg1 DV2 hg2 hm awake_any O1 O2 N0 C1 C2 C3 G1 G2 B2 B3 S1 S2 w hT
          · exact absurd z1 m0
    · rw [bne_not _ _ sg] at G1
      exact near_zero_X1 a b _ _ _ _ _ _ _ _ _  rfl rfl hc1 hc2 hz1 hz2 hc3 awake_any O1 O2 N0 C1 C2 C3 G1 G2 w hT
  · have hc3 : cls (one b.toNat) ≤ 2 := by have := (cls_fin (one b.toNat)).1; omega
    exact near_zero_N1 a b _ _ _ _ _ _ _ _  rfl rfl hc1 hc2 hz1 hz2 hc3 awake_any O1 O2 N0 C1 C2 C3 w hT

theorem near_up0 (a b : Int) (hx : a.toNat < 18446744073709551616) (hy : b.toNat < 18446744073709551616) (fx : mag (one a.toNat) < 9218868437227405312) (hn : mag (nxt (one a.toNat)) < 9218868437227405312) (z1 : mag (one a.toNat) = 0) (z2 : ¬ mag (nxt (one a.toNat)) = 0) (w : World) (hT : Hid (Tab w)) :
    Calls Tryd.prog 7 #[.int .u64 a, .int .u64 b] w fun e w' => e = .returned (.bool true) ∧ w' = w := by
  have hX := one_lt _ hx
  have hY := one_lt _ hy
  have O1 := one_any _ hx
  have O2 := one_any _ hy
  have N0 := next_any _ hX
  have C1 := class_any _ hX
  have C3 := class_any _ hY
  have hc1 := (cls_fin _).2 fx
  have B2 := abs_any _ hX
  have nX : isN (one a.toNat) = false := decide_eq_false (by omega)
  obtain ⟨nX', p1, _⟩ := plc_fin _ fx
  obtain ⟨nN, _, hN, _, _, _, _⟩ := next_facts _ hX nX p1
  have C2 := class_any _ hN
  have hc2 := (cls_fin _).2 hn
  have hz1 := is_zero _ hX nX
  have hz2 := is_zero _ hN nN
  rw [decide_eq_true z1] at hz1
  rw [decide_eq_false z2] at hz2
  have la : ¬ mag (nxt (one a.toNat)) < mag (one a.toNat) := by rw [z1]; omega
  obtain ⟨D, sb, q2, q1⟩ := step_unit _ hX fx hn (by omega)
  have SB : ∀ w, (binOp .sub 24 (.float .f64 (nxt (one a.toNat))) (.float .f64 (one a.toNat))).run Tryd.prog w = .ok (.float .f64 D) w := fun w => run_float_arith w .sub 24 .f64 _ _ _ sb
  have B1 := abs_any _ hN
  have hla := abs_lt (mag (nxt (one a.toNat))) (mag (one a.toNat)) (by omega) (by omega)
  rw [decide_eq_false la] at hla
  have U0 := unit_any _ hX
  rw [(spR_fin _).1.2 fx] at U0
  have hn1 := bne_of (q1 la)
  by_cases fy : mag (one b.toNat) < 9218868437227405312
  · have hc3 := (cls_fin _).2 fy
    have nY : isN (one b.toNat) = false := decide_eq_false (by omega)
    have G1 := negative_any _ hX
    have G2 := negative_any _ hY
    have sX : ngt (one a.toNat) = sgb (one a.toNat) := (ngt_n _ nX).symm
    have sY : ngt (one b.toNat) = sgb (one b.toNat) := (ngt_n _ nY).symm
    by_cases sg : ngt (one a.toNat) = ngt (one b.toNat)
    · rw [← sg] at G2
      have B3 := abs_any _ hY
      have DV1 := hlf_run _ fy
      have DV2 := hlf_run _ fx
      have hg1 := hlf_gt (one b.toNat) (one a.toNat) fx
      have hg2 := hlf_gt (one a.toNat) (one b.toNat) fy
      by_cases g1 : mag (one a.toNat) < hlf (one b.toNat)
      · rw [decide_eq_true g1] at hg1
        exact near_up0_X2 a b _ _ _ _ _ _ _ _ _ _ _ _ _ _ _  rfl rfl hc1 hc2 hz1 hz2 hla SB hn1 hc3 DV1 hg1 awake_any O1 O2 N0 C1 C2 C3 B1 B2 U0 G1 G2 B3 w hT
      · rw [decide_eq_false g1] at hg1
        by_cases g2 : mag (one b.toNat) < hlf (one a.toNat)
        · rw [decide_eq_true g2] at hg2
          exact near_up0_X3 a b _ _ _ _ _ _ _ _ _ _ _ _ _ _ _ _  rfl rfl hc1 hc2 hz1 hz2 hla SB hn1 hc3 DV1 hg1 DV2 hg2 awake_any O1 O2 N0 C1 C2 C3 B1 B2 U0 G1 G2 B3 w hT
        · rw [decide_eq_false g2] at hg2
          have S1 := split_any _ hX
          have S2 := split_any _ hY
          rw [(spR_fin _).1.2 fx] at S1
          rw [(spR_fin _).1.2 fy] at S2
          by_cases m0 : mag (one a.toNat) = 0
          · have hm : (spMz (one a.toNat) == 0) = true := by rw [(spMz_0 _ fx).2 m0]; rfl
            exact near_up0_X4 a b _ _ _ _ _ _ _ _ _ _ _ _ _ _ _ _ _ _ _ _ _ _  rfl rfl hc1 hc2 hz1 hz2 hla SB hn1 hc3 DV1 hg1 DV2 hg2 hm awake_any O1 O2 N0 C1 C2 C3 B1 B2 U0 G1 G2 B3 S1 S2 w hT
          · have hm' : spMz (one a.toNat) ≠ 0 := fun c => m0 ((spMz_0 _ fx).1 c)
            have hm : (spMz (one a.toNat) == 0) = false := by simpa using hm'
            by_cases n0 : mag (one b.toNat) = 0
            · have hn0 : (spMz (one b.toNat) == 0) = true := by rw [(spMz_0 _ fy).2 n0]; rfl
              exact near_up0_X5 a b _ _ _ _ _ _ _ _ _ _ _ _ _ _ _ _ _ _ _ _ _ _  rfl rfl hc1 hc2 hz1 hz2 hla SB hn1 hc3 DV1 hg1 DV2 hg2 hm hn0 awake_any O1 O2 N0 C1 C2 C3 B1 B2 U0 G1 G2 B3 S1 S2 w hT
            · have hn' : spMz (one b.toNat) ≠ 0 := fun c => n0 ((spMz_0 _ fy).1 c)
              have hn0 : (spMz (one b.toNat) == 0) = false := by simpa using hn'
              have mb := spMz_bd (one a.toNat)
              have nb := spMz_bd (one b.toNat)
              have eb := spE_bd (one a.toNat)
              have fb := spE_bd (one b.toNat)
              have mx := sp_mant _ fx
              have my := sp_mant _ fy
              have ex := sp_place _ fx m0
              have ey := sp_place _ fy n0
              have hss : sgb (one a.toNat) = sgb (one b.toNat) := by rw [← sX, ← sY]; exact sg
              have NJ := near_join _ _ hX hY fx fy hss
              rw [← ex, ← ey, ← mx, ← my, ← sX] at NJ
              have nr := near_rungs (mag (one a.toNat)) (mag (one b.toNat)) fy
              have nr' := near_rungs (mag (one b.toNat)) (mag (one a.toNat)) fx
              rw [← ex, ← ey, ← mx, ← my] at nr nr'
              have hg1' : Ieee.double.nearest false (spMz (one b.toNat)).toNat (spE (one b.toNat) - 1) ≤ mag (one a.toNat) := by rw [my, ey]; exact Nat.le_of_not_lt g1
              have hg2' : Ieee.double.nearest false (spMz (one a.toNat)).toNat (spE (one a.toNat) - 1) ≤ mag (one b.toNat) := by rw [mx, ex]; exact Nat.le_of_not_lt g2
              have JA : ∀ (ng : Bool) (D : Nat) (l : Int), D < 9007199254740992 → -9223372036854775808 ≤ l → joinR D l = 0 → ∀ w, Tab w → Calls Tryd.prog 20 #[.bool ng, .int .u64 D, .int .i64 l] w fun e w' => e = .returned (.tuple #[.float .f64 (joinW ng D l), .int .i64 0]) ∧ w' = w := fun ng D l d0 l0 r w hT => by
                have := join_any ng D l (by omega) (by omega) l0 w hT
                rwa [r] at this
              generalize ngt (one a.toNat) = s at *
              rcases Int.lt_trichotomy (spE (one a.toNat)) (spE (one b.toNat)) with c | c | c
              · obtain ⟨y1, y2, y3⟩ := nr c hg1'
                obtain ⟨D, hD⟩ : ∃ D : Nat, (D : Int) = 2 * spMz (one b.toNat) - spMz (one a.toNat) := ⟨(2 * spMz (one b.toNat) - spMz (one a.toNat)).toNat, by omega⟩
                obtain ⟨S, s1, s2, s3⟩ := NJ true D (by omega) (fun _ => by omega) (by
                  rw [if_pos rfl, Int.min_eq_left (by omega), show (spE (one a.toNat) - spE (one a.toNat)).toNat = 0 by omega, show (spE (one b.toNat) - spE (one a.toNat)).toNat = 1 by omega]
                  omega)
                rw [Int.min_eq_left (by omega)] at s2 s3
                have J0 := JA (s != true) D (spE (one a.toNat)) (by omega) (by omega) s2
                rw [hD] at J0 s3
                rw [Bool.bne_true] at J0 s3
                rw [y1] at S2
                exact near_up0_LT a b _ _ _ _ _ _ _ _ _ _ _ _ _ _ _ _ _ _ _ _ _ _ _  rfl rfl hc1 hc2 hz1 hz2 hla SB hn1 hc3 DV1 hg1 DV2 hg2 hm hn0 (by omega) mb.2 (by omega) nb.2 (by omega) (by omega) (by omega) (fun w => run_float_arith w .sub 24 .f64 _ _ _ s1) s3 awake_any O1 O2 N0 C1 C2 C3 B1 B2 U0 G1 G2 B3 S1 S2 J0 w hT
              · have hl : min (spE (one a.toNat)) (spE (one b.toNat)) = spE (one a.toNat) := by omega
                rw [hl, show (spE (one a.toNat) - spE (one a.toNat)).toNat = 0 by omega, show (spE (one b.toNat) - spE (one a.toNat)).toNat = 0 by omega] at NJ
                rw [← c] at S2
                by_cases le : spMz (one a.toNat) < spMz (one b.toNat)
                · obtain ⟨D, hD⟩ : ∃ D : Nat, (D : Int) = spMz (one b.toNat) - spMz (one a.toNat) := ⟨(spMz (one b.toNat) - spMz (one a.toNat)).toNat, by omega⟩
                  obtain ⟨S, s1, s2, s3⟩ := NJ true D (by omega) (fun _ => by omega) (by rw [if_pos rfl]; omega)
                  have J0 := JA (s != true) D (spE (one a.toNat)) (by omega) (by omega) s2
                  rw [hD] at J0 s3
                  rw [Bool.bne_true] at J0 s3
                  exact near_up0_EQ1 a b _ _ _ _ _ _ _ _ _ _ _ _ _ _ _ _ _ _ _ _ _ _ _  rfl rfl hc1 hc2 hz1 hz2 hla SB hn1 hc3 DV1 hg1 DV2 hg2 hm hn0 (by omega) mb.2 (by omega) nb.2 (by omega) (by omega) (by omega) (fun w => run_float_arith w .sub 24 .f64 _ _ _ s1) s3 awake_any O1 O2 N0 C1 C2 C3 B1 B2 U0 G1 G2 B3 S1 S2 J0 w hT
                · obtain ⟨D, hD⟩ : ∃ D : Nat, (D : Int) = spMz (one a.toNat) - spMz (one b.toNat) := ⟨(spMz (one a.toNat) - spMz (one b.toNat)).toNat, by omega⟩
                  obtain ⟨S, s1, s2, s3⟩ := NJ false D (by omega) (fun h => by cases h) (by rw [if_neg (by decide)]; omega)
                  have J0 := JA (s != false) D (spE (one a.toNat)) (by omega) (by omega) s2
                  rw [hD] at J0 s3
                  rw [Bool.bne_false] at J0 s3
                  exact near_up0_EQ0 a b _ _ _ _ _ _ _ _ _ _ _ _ _ _ _ _ _ _ _ _ _ _ _  rfl rfl hc1 hc2 hz1 hz2 hla SB hn1 hc3 DV1 hg1 DV2 hg2 hm hn0 (by omega) mb.2 (by omega) nb.2 (by omega) (by omega) (by omega) (by rw [decide_eq_false (by omega)]; cases s <;> rfl) (fun w => run_float_arith w .sub 24 .f64 _ _ _ s1) s3 awake_any O1 O2 N0 C1 C2 C3 B1 B2 U0 G1 G2 B3 S1 S2 J0 w hT
              · obtain ⟨y1, y2, y3⟩ := nr' c hg2'
                obtain ⟨D, hD⟩ : ∃ D : Nat, (D : Int) = 2 * spMz (one a.toNat) - spMz (one b.toNat) := ⟨(2 * spMz (one a.toNat) - spMz (one b.toNat)).toNat, by omega⟩
                obtain ⟨S, s1, s2, s3⟩ := NJ false D (by omega) (fun h => by cases h) (by
                  rw [if_neg (by decide), Int.min_eq_right (by omega), show (spE (one b.toNat) - spE (one b.toNat)).toNat = 0 by omega, show (spE (one a.toNat) - spE (one b.toNat)).toNat = 1 by omega]
                  omega)
                rw [Int.min_eq_right (by omega)] at s2 s3
                have J0 := JA (s != false) D (spE (one b.toNat)) (by omega) (by omega) s2
                rw [hD] at J0 s3
                rw [Bool.bne_false] at J0 s3
                rw [y1] at S1
                exact near_up0_GT a b _ _ _ _ _ _ _ _ _ _ _ _ _ _ _ _ _ _ _ _ _ _ _  rfl rfl hc1 hc2 hz1 hz2 hla SB hn1 hc3 DV1 hg1 DV2 hg2 hm hn0 (by omega) mb.2 (by omega) nb.2 (by omega) (by omega) (by omega) (by rw [decide_eq_false (by omega)]; cases s <;> rfl) (fun w => run_float_arith w .sub 24 .f64 _ _ _ s1) s3 awake_any O1 O2 N0 C1 C2 C3 B1 B2 U0 G1 G2 B3 S1 S2 J0 w hT
    · rw [bne_not _ _ sg] at G1
      exact near_up0_X1 a b _ _ _ _ _ _ _ _ _ _ _ _ _  rfl rfl hc1 hc2 hz1 hz2 hla SB hn1 hc3 awake_any O1 O2 N0 C1 C2 C3 B1 B2 U0 G1 G2 w hT
  · have hc3 : cls (one b.toNat) ≤ 2 := by have := (cls_fin (one b.toNat)).1; omega
    exact near_up0_N1 a b _ _ _ _ _ _ _ _ _ _ _ _  rfl rfl hc1 hc2 hz1 hz2 hla SB hn1 hc3 awake_any O1 O2 N0 C1 C2 C3 B1 B2 U0 w hT

theorem near_up1 (a b : Int) (hx : a.toNat < 18446744073709551616) (hy : b.toNat < 18446744073709551616) (fx : mag (one a.toNat) < 9218868437227405312) (hn : mag (nxt (one a.toNat)) < 9218868437227405312) (z1 : ¬ mag (one a.toNat) = 0) (la : ¬ mag (nxt (one a.toNat)) < mag (one a.toNat)) (w : World) (hT : Hid (Tab w)) :
    Calls Tryd.prog 7 #[.int .u64 a, .int .u64 b] w fun e w' => e = .returned (.bool true) ∧ w' = w := by
  have hX := one_lt _ hx
  have hY := one_lt _ hy
  have O1 := one_any _ hx
  have O2 := one_any _ hy
  have N0 := next_any _ hX
  have C1 := class_any _ hX
  have C3 := class_any _ hY
  have hc1 := (cls_fin _).2 fx
  have B2 := abs_any _ hX
  have nX : isN (one a.toNat) = false := decide_eq_false (by omega)
  obtain ⟨nX', p1, _⟩ := plc_fin _ fx
  obtain ⟨nN, _, hN, _, _, _, _⟩ := next_facts _ hX nX p1
  have C2 := class_any _ hN
  have hc2 := (cls_fin _).2 hn
  have hz1 := is_zero _ hX nX
  have hz2 := is_zero _ hN nN
  rw [decide_eq_false z1] at hz1
  obtain ⟨D, sb, q2, q1⟩ := step_unit _ hX fx hn (by omega)
  have SB : ∀ w, (binOp .sub 24 (.float .f64 (nxt (one a.toNat))) (.float .f64 (one a.toNat))).run Tryd.prog w = .ok (.float .f64 D) w := fun w => run_float_arith w .sub 24 .f64 _ _ _ sb
  have B1 := abs_any _ hN
  have hla := abs_lt (mag (nxt (one a.toNat))) (mag (one a.toNat)) (by omega) (by omega)
  rw [decide_eq_false la] at hla
  have U0 := unit_any _ hX
  rw [(spR_fin _).1.2 fx] at U0
  have hn1 := bne_of (q1 la)
  by_cases fy : mag (one b.toNat) < 9218868437227405312
  · have hc3 := (cls_fin _).2 fy
    have nY : isN (one b.toNat) = false := decide_eq_false (by omega)
    have G1 := negative_any _ hX
    have G2 := negative_any _ hY
    have sX : ngt (one a.toNat) = sgb (one a.toNat) := (ngt_n _ nX).symm
    have sY : ngt (one b.toNat) = sgb (one b.toNat) := (ngt_n _ nY).symm
    by_cases sg : ngt (one a.toNat) = ngt (one b.toNat)
    · rw [← sg] at G2
      have B3 := abs_any _ hY
      have DV1 := hlf_run _ fy
      have DV2 := hlf_run _ fx
      have hg1 := hlf_gt (one b.toNat) (one a.toNat) fx
      have hg2 := hlf_gt (one a.toNat) (one b.toNat) fy
      by_cases g1 : mag (one a.toNat) < hlf (one b.toNat)
      · rw [decide_eq_true g1] at hg1
        exact near_up1_X2 a b _ _ _ _ _ _ _ _ _ _ _ _ _ _ _  rfl rfl hc1 hc2 hz1 hla SB hn1 hc3 DV1 hg1 awake_any O1 O2 N0 C1 C2 C3 B1 B2 U0 G1 G2 B3 w hT
      · rw [decide_eq_false g1] at hg1
        by_cases g2 : mag (one b.toNat) < hlf (one a.toNat)
        · rw [decide_eq_true g2] at hg2
          exact near_up1_X3 a b _ _ _ _ _ _ _ _ _ _ _ _ _ _ _ _  rfl rfl hc1 hc2 hz1 hla SB hn1 hc3 DV1 hg1 DV2 hg2 awake_any O1 O2 N0 C1 C2 C3 B1 B2 U0 G1 G2 B3 w hT
        · rw [decide_eq_false g2] at hg2
          have S1 := split_any _ hX
          have S2 := split_any _ hY
          rw [(spR_fin _).1.2 fx] at S1
          rw [(spR_fin _).1.2 fy] at S2
          by_cases m0 : mag (one a.toNat) = 0
          · have hm : (spMz (one a.toNat) == 0) = true := by rw [(spMz_0 _ fx).2 m0]; rfl
            exact near_up1_X4 a b _ _ _ _ _ _ _ _ _ _ _ _ _ _ _ _ _ _ _ _ _ _  rfl rfl hc1 hc2 hz1 hla SB hn1 hc3 DV1 hg1 DV2 hg2 hm awake_any O1 O2 N0 C1 C2 C3 B1 B2 U0 G1 G2 B3 S1 S2 w hT
          · have hm' : spMz (one a.toNat) ≠ 0 := fun c => m0 ((spMz_0 _ fx).1 c)
            have hm : (spMz (one a.toNat) == 0) = false := by simpa using hm'
            by_cases n0 : mag (one b.toNat) = 0
            · have hn0 : (spMz (one b.toNat) == 0) = true := by rw [(spMz_0 _ fy).2 n0]; rfl
              exact near_up1_X5 a b _ _ _ _ _ _ _ _ _ _ _ _ _ _ _ _ _ _ _ _ _ _  rfl rfl hc1 hc2 hz1 hla SB hn1 hc3 DV1 hg1 DV2 hg2 hm hn0 awake_any O1 O2 N0 C1 C2 C3 B1 B2 U0 G1 G2 B3 S1 S2 w hT
            · have hn' : spMz (one b.toNat) ≠ 0 := fun c => n0 ((spMz_0 _ fy).1 c)
              have hn0 : (spMz (one b.toNat) == 0) = false := by simpa using hn'
              have mb := spMz_bd (one a.toNat)
              have nb := spMz_bd (one b.toNat)
              have eb := spE_bd (one a.toNat)
              have fb := spE_bd (one b.toNat)
              have mx := sp_mant _ fx
              have my := sp_mant _ fy
              have ex := sp_place _ fx m0
              have ey := sp_place _ fy n0
              have hss : sgb (one a.toNat) = sgb (one b.toNat) := by rw [← sX, ← sY]; exact sg
              have NJ := near_join _ _ hX hY fx fy hss
              rw [← ex, ← ey, ← mx, ← my, ← sX] at NJ
              have nr := near_rungs (mag (one a.toNat)) (mag (one b.toNat)) fy
              have nr' := near_rungs (mag (one b.toNat)) (mag (one a.toNat)) fx
              rw [← ex, ← ey, ← mx, ← my] at nr nr'
              have hg1' : Ieee.double.nearest false (spMz (one b.toNat)).toNat (spE (one b.toNat) - 1) ≤ mag (one a.toNat) := by rw [my, ey]; exact Nat.le_of_not_lt g1
              have hg2' : Ieee.double.nearest false (spMz (one a.toNat)).toNat (spE (one a.toNat) - 1) ≤ mag (one b.toNat) := by rw [mx, ex]; exact Nat.le_of_not_lt g2
              have JA : ∀ (ng : Bool) (D : Nat) (l : Int), D < 9007199254740992 → -9223372036854775808 ≤ l → joinR D l = 0 → ∀ w, Tab w → Calls Tryd.prog 20 #[.bool ng, .int .u64 D, .int .i64 l] w fun e w' => e = .returned (.tuple #[.float .f64 (joinW ng D l), .int .i64 0]) ∧ w' = w := fun ng D l d0 l0 r w hT => by
                have := join_any ng D l (by omega) (by omega) l0 w hT
                rwa [r] at this
              generalize ngt (one a.toNat) = s at *
              rcases Int.lt_trichotomy (spE (one a.toNat)) (spE (one b.toNat)) with c | c | c
              · obtain ⟨y1, y2, y3⟩ := nr c hg1'
                obtain ⟨D, hD⟩ : ∃ D : Nat, (D : Int) = 2 * spMz (one b.toNat) - spMz (one a.toNat) := ⟨(2 * spMz (one b.toNat) - spMz (one a.toNat)).toNat, by omega⟩
                obtain ⟨S, s1, s2, s3⟩ := NJ true D (by omega) (fun _ => by omega) (by
                  rw [if_pos rfl, Int.min_eq_left (by omega), show (spE (one a.toNat) - spE (one a.toNat)).toNat = 0 by omega, show (spE (one b.toNat) - spE (one a.toNat)).toNat = 1 by omega]
                  omega)
                rw [Int.min_eq_left (by omega)] at s2 s3
                have J0 := JA (s != true) D (spE (one a.toNat)) (by omega) (by omega) s2
                rw [hD] at J0 s3
                rw [Bool.bne_true] at J0 s3
                rw [y1] at S2
                exact near_up1_LT a b _ _ _ _ _ _ _ _ _ _ _ _ _ _ _ _ _ _ _ _ _ _ _  rfl rfl hc1 hc2 hz1 hla SB hn1 hc3 DV1 hg1 DV2 hg2 hm hn0 (by omega) mb.2 (by omega) nb.2 (by omega) (by omega) (by omega) (fun w => run_float_arith w .sub 24 .f64 _ _ _ s1) s3 awake_any O1 O2 N0 C1 C2 C3 B1 B2 U0 G1 G2 B3 S1 S2 J0 w hT
              · have hl : min (spE (one a.toNat)) (spE (one b.toNat)) = spE (one a.toNat) := by omega
                rw [hl, show (spE (one a.toNat) - spE (one a.toNat)).toNat = 0 by omega, show (spE (one b.toNat) - spE (one a.toNat)).toNat = 0 by omega] at NJ
                rw [← c] at S2
                by_cases le : spMz (one a.toNat) < spMz (one b.toNat)
                · obtain ⟨D, hD⟩ : ∃ D : Nat, (D : Int) = spMz (one b.toNat) - spMz (one a.toNat) := ⟨(spMz (one b.toNat) - spMz (one a.toNat)).toNat, by omega⟩
                  obtain ⟨S, s1, s2, s3⟩ := NJ true D (by omega) (fun _ => by omega) (by rw [if_pos rfl]; omega)
                  have J0 := JA (s != true) D (spE (one a.toNat)) (by omega) (by omega) s2
                  rw [hD] at J0 s3
                  rw [Bool.bne_true] at J0 s3
                  exact near_up1_EQ1 a b _ _ _ _ _ _ _ _ _ _ _ _ _ _ _ _ _ _ _ _ _ _ _  rfl rfl hc1 hc2 hz1 hla SB hn1 hc3 DV1 hg1 DV2 hg2 hm hn0 (by omega) mb.2 (by omega) nb.2 (by omega) (by omega) (by omega) (fun w => run_float_arith w .sub 24 .f64 _ _ _ s1) s3 awake_any O1 O2 N0 C1 C2 C3 B1 B2 U0 G1 G2 B3 S1 S2 J0 w hT
                · obtain ⟨D, hD⟩ : ∃ D : Nat, (D : Int) = spMz (one a.toNat) - spMz (one b.toNat) := ⟨(spMz (one a.toNat) - spMz (one b.toNat)).toNat, by omega⟩
                  obtain ⟨S, s1, s2, s3⟩ := NJ false D (by omega) (fun h => by cases h) (by rw [if_neg (by decide)]; omega)
                  have J0 := JA (s != false) D (spE (one a.toNat)) (by omega) (by omega) s2
                  rw [hD] at J0 s3
                  rw [Bool.bne_false] at J0 s3
                  exact near_up1_EQ0 a b _ _ _ _ _ _ _ _ _ _ _ _ _ _ _ _ _ _ _ _ _ _ _  rfl rfl hc1 hc2 hz1 hla SB hn1 hc3 DV1 hg1 DV2 hg2 hm hn0 (by omega) mb.2 (by omega) nb.2 (by omega) (by omega) (by omega) (by rw [decide_eq_false (by omega)]; cases s <;> rfl) (fun w => run_float_arith w .sub 24 .f64 _ _ _ s1) s3 awake_any O1 O2 N0 C1 C2 C3 B1 B2 U0 G1 G2 B3 S1 S2 J0 w hT
              · obtain ⟨y1, y2, y3⟩ := nr' c hg2'
                obtain ⟨D, hD⟩ : ∃ D : Nat, (D : Int) = 2 * spMz (one a.toNat) - spMz (one b.toNat) := ⟨(2 * spMz (one a.toNat) - spMz (one b.toNat)).toNat, by omega⟩
                obtain ⟨S, s1, s2, s3⟩ := NJ false D (by omega) (fun h => by cases h) (by
                  rw [if_neg (by decide), Int.min_eq_right (by omega), show (spE (one b.toNat) - spE (one b.toNat)).toNat = 0 by omega, show (spE (one a.toNat) - spE (one b.toNat)).toNat = 1 by omega]
                  omega)
                rw [Int.min_eq_right (by omega)] at s2 s3
                have J0 := JA (s != false) D (spE (one b.toNat)) (by omega) (by omega) s2
                rw [hD] at J0 s3
                rw [Bool.bne_false] at J0 s3
                rw [y1] at S1
                exact near_up1_GT a b _ _ _ _ _ _ _ _ _ _ _ _ _ _ _ _ _ _ _ _ _ _ _  rfl rfl hc1 hc2 hz1 hla SB hn1 hc3 DV1 hg1 DV2 hg2 hm hn0 (by omega) mb.2 (by omega) nb.2 (by omega) (by omega) (by omega) (by rw [decide_eq_false (by omega)]; cases s <;> rfl) (fun w => run_float_arith w .sub 24 .f64 _ _ _ s1) s3 awake_any O1 O2 N0 C1 C2 C3 B1 B2 U0 G1 G2 B3 S1 S2 J0 w hT
    · rw [bne_not _ _ sg] at G1
      exact near_up1_X1 a b _ _ _ _ _ _ _ _ _ _ _ _ _  rfl rfl hc1 hc2 hz1 hla SB hn1 hc3 awake_any O1 O2 N0 C1 C2 C3 B1 B2 U0 G1 G2 w hT
  · have hc3 : cls (one b.toNat) ≤ 2 := by have := (cls_fin (one b.toNat)).1; omega
    exact near_up1_N1 a b _ _ _ _ _ _ _ _ _ _ _ _  rfl rfl hc1 hc2 hz1 hla SB hn1 hc3 awake_any O1 O2 N0 C1 C2 C3 B1 B2 U0 w hT

theorem near_dn (a b : Int) (hx : a.toNat < 18446744073709551616) (hy : b.toNat < 18446744073709551616) (fx : mag (one a.toNat) < 9218868437227405312) (hn : mag (nxt (one a.toNat)) < 9218868437227405312) (z1 : ¬ mag (one a.toNat) = 0) (la : mag (nxt (one a.toNat)) < mag (one a.toNat)) (w : World) (hT : Hid (Tab w)) :
    Calls Tryd.prog 7 #[.int .u64 a, .int .u64 b] w fun e w' => e = .returned (.bool true) ∧ w' = w := by
  have hX := one_lt _ hx
  have hY := one_lt _ hy
  have O1 := one_any _ hx
  have O2 := one_any _ hy
  have N0 := next_any _ hX
  have C1 := class_any _ hX
  have C3 := class_any _ hY
  have hc1 := (cls_fin _).2 fx
  have B2 := abs_any _ hX
  have nX : isN (one a.toNat) = false := decide_eq_false (by omega)
  obtain ⟨nX', p1, _⟩ := plc_fin _ fx
  obtain ⟨nN, _, hN, _, _, _, _⟩ := next_facts _ hX nX p1
  have C2 := class_any _ hN
  have hc2 := (cls_fin _).2 hn
  have hz1 := is_zero _ hX nX
  have hz2 := is_zero _ hN nN
  rw [decide_eq_false z1] at hz1
  obtain ⟨D, sb, q2, q1⟩ := step_unit _ hX fx hn (by omega)
  have SB : ∀ w, (binOp .sub 24 (.float .f64 (nxt (one a.toNat))) (.float .f64 (one a.toNat))).run Tryd.prog w = .ok (.float .f64 D) w := fun w => run_float_arith w .sub 24 .f64 _ _ _ sb
  have B1 := abs_any _ hN
  have hla := abs_lt (mag (nxt (one a.toNat))) (mag (one a.toNat)) (by omega) (by omega)
  rw [decide_eq_true la] at hla
  have U0 := unit_any _ hN
  rw [(spR_fin _).1.2 hn] at U0
  have hn1 := bne_of (q2 la)
  by_cases fy : mag (one b.toNat) < 9218868437227405312
  · have hc3 := (cls_fin _).2 fy
    have nY : isN (one b.toNat) = false := decide_eq_false (by omega)
    have G1 := negative_any _ hX
    have G2 := negative_any _ hY
    have sX : ngt (one a.toNat) = sgb (one a.toNat) := (ngt_n _ nX).symm
    have sY : ngt (one b.toNat) = sgb (one b.toNat) := (ngt_n _ nY).symm
    by_cases sg : ngt (one a.toNat) = ngt (one b.toNat)
    · rw [← sg] at G2
      have B3 := abs_any _ hY
      have DV1 := hlf_run _ fy
      have DV2 := hlf_run _ fx
      have hg1 := hlf_gt (one b.toNat) (one a.toNat) fx
      have hg2 := hlf_gt (one a.toNat) (one b.toNat) fy
      by_cases g1 : mag (one a.toNat) < hlf (one b.toNat)
      · rw [decide_eq_true g1] at hg1
        exact near_dn_X2 a b _ _ _ _ _ _ _ _ _ _ _ _ _ _ _  rfl rfl hc1 hc2 hz1 hla SB hn1 hc3 DV1 hg1 awake_any O1 O2 N0 C1 C2 C3 B1 B2 U0 G1 G2 B3 w hT
      · rw [decide_eq_false g1] at hg1
        by_cases g2 : mag (one b.toNat) < hlf (one a.toNat)
        · rw [decide_eq_true g2] at hg2
          exact near_dn_X3 a b _ _ _ _ _ _ _ _ _ _ _ _ _ _ _ _  rfl rfl hc1 hc2 hz1 hla SB hn1 hc3 DV1 hg1 DV2 hg2 awake_any O1 O2 N0 C1 C2 C3 B1 B2 U0 G1 G2 B3 w hT
        · rw [decide_eq_false g2] at hg2
          have S1 := split_any _ hX
          have S2 := split_any _ hY
          rw [(spR_fin _).1.2 fx] at S1
          rw [(spR_fin _).1.2 fy] at S2
          by_cases m0 : mag (one a.toNat) = 0
          · have hm : (spMz (one a.toNat) == 0) = true := by rw [(spMz_0 _ fx).2 m0]; rfl
            exact near_dn_X4 a b _ _ _ _ _ _ _ _ _ _ _ _ _ _ _ _ _ _ _ _ _ _  rfl rfl hc1 hc2 hz1 hla SB hn1 hc3 DV1 hg1 DV2 hg2 hm awake_any O1 O2 N0 C1 C2 C3 B1 B2 U0 G1 G2 B3 S1 S2 w hT
          · have hm' : spMz (one a.toNat) ≠ 0 := fun c => m0 ((spMz_0 _ fx).1 c)
            have hm : (spMz (one a.toNat) == 0) = false := by simpa using hm'
            by_cases n0 : mag (one b.toNat) = 0
            · have hn0 : (spMz (one b.toNat) == 0) = true := by rw [(spMz_0 _ fy).2 n0]; rfl
              exact near_dn_X5 a b _ _ _ _ _ _ _ _ _ _ _ _ _ _ _ _ _ _ _ _ _ _  rfl rfl hc1 hc2 hz1 hla SB hn1 hc3 DV1 hg1 DV2 hg2 hm hn0 awake_any O1 O2 N0 C1 C2 C3 B1 B2 U0 G1 G2 B3 S1 S2 w hT
            · have hn' : spMz (one b.toNat) ≠ 0 := fun c => n0 ((spMz_0 _ fy).1 c)
              have hn0 : (spMz (one b.toNat) == 0) = false := by simpa using hn'
              have mb := spMz_bd (one a.toNat)
              have nb := spMz_bd (one b.toNat)
              have eb := spE_bd (one a.toNat)
              have fb := spE_bd (one b.toNat)
              have mx := sp_mant _ fx
              have my := sp_mant _ fy
              have ex := sp_place _ fx m0
              have ey := sp_place _ fy n0
              have hss : sgb (one a.toNat) = sgb (one b.toNat) := by rw [← sX, ← sY]; exact sg
              have NJ := near_join _ _ hX hY fx fy hss
              rw [← ex, ← ey, ← mx, ← my, ← sX] at NJ
              have nr := near_rungs (mag (one a.toNat)) (mag (one b.toNat)) fy
              have nr' := near_rungs (mag (one b.toNat)) (mag (one a.toNat)) fx
              rw [← ex, ← ey, ← mx, ← my] at nr nr'
              have hg1' : Ieee.double.nearest false (spMz (one b.toNat)).toNat (spE (one b.toNat) - 1) ≤ mag (one a.toNat) := by rw [my, ey]; exact Nat.le_of_not_lt g1
              have hg2' : Ieee.double.nearest false (spMz (one a.toNat)).toNat (spE (one a.toNat) - 1) ≤ mag (one b.toNat) := by rw [mx, ex]; exact Nat.le_of_not_lt g2
              have JA : ∀ (ng : Bool) (D : Nat) (l : Int), D < 9007199254740992 → -9223372036854775808 ≤ l → joinR D l = 0 → ∀ w, Tab w → Calls Tryd.prog 20 #[.bool ng, .int .u64 D, .int .i64 l] w fun e w' => e = .returned (.tuple #[.float .f64 (joinW ng D l), .int .i64 0]) ∧ w' = w := fun ng D l d0 l0 r w hT => by
                have := join_any ng D l (by omega) (by omega) l0 w hT
                rwa [r] at this
              generalize ngt (one a.toNat) = s at *
              rcases Int.lt_trichotomy (spE (one a.toNat)) (spE (one b.toNat)) with c | c | c
              · obtain ⟨y1, y2, y3⟩ := nr c hg1'
                obtain ⟨D, hD⟩ : ∃ D : Nat, (D : Int) = 2 * spMz (one b.toNat) - spMz (one a.toNat) := ⟨(2 * spMz (one b.toNat) - spMz (one a.toNat)).toNat, by omega⟩
                obtain ⟨S, s1, s2, s3⟩ := NJ true D (by omega) (fun _ => by omega) (by
                  rw [if_pos rfl, Int.min_eq_left (by omega), show (spE (one a.toNat) - spE (one a.toNat)).toNat = 0 by omega, show (spE (one b.toNat) - spE (one a.toNat)).toNat = 1 by omega]
                  omega)
                rw [Int.min_eq_left (by omega)] at s2 s3
                have J0 := JA (s != true) D (spE (one a.toNat)) (by omega) (by omega) s2
                rw [hD] at J0 s3
                rw [Bool.bne_true] at J0 s3
                rw [y1] at S2
                exact near_dn_LT a b _ _ _ _ _ _ _ _ _ _ _ _ _ _ _ _ _ _ _ _ _ _ _  rfl rfl hc1 hc2 hz1 hla SB hn1 hc3 DV1 hg1 DV2 hg2 hm hn0 (by omega) mb.2 (by omega) nb.2 (by omega) (by omega) (by omega) (fun w => run_float_arith w .sub 24 .f64 _ _ _ s1) s3 awake_any O1 O2 N0 C1 C2 C3 B1 B2 U0 G1 G2 B3 S1 S2 J0 w hT
              · have hl : min (spE (one a.toNat)) (spE (one b.toNat)) = spE (one a.toNat) := by omega
                rw [hl, show (spE (one a.toNat) - spE (one a.toNat)).toNat = 0 by omega, show (spE (one b.toNat) - spE (one a.toNat)).toNat = 0 by omega] at NJ
                rw [← c] at S2
                by_cases le : spMz (one a.toNat) < spMz (one b.toNat)
                · obtain ⟨D, hD⟩ : ∃ D : Nat, (D : Int) = spMz (one b.toNat) - spMz (one a.toNat) := ⟨(spMz (one b.toNat) - spMz (one a.toNat)).toNat, by omega⟩
                  obtain ⟨S, s1, s2, s3⟩ := NJ true D (by omega) (fun _ => by omega) (by rw [if_pos rfl]; omega)
                  have J0 := JA (s != true) D (spE (one a.toNat)) (by omega) (by omega) s2
                  rw [hD] at J0 s3
                  rw [Bool.bne_true] at J0 s3
                  exact near_dn_EQ1 a b _ _ _ _ _ _ _ _ _ _ _ _ _ _ _ _ _ _ _ _ _ _ _  rfl rfl hc1 hc2 hz1 hla SB hn1 hc3 DV1 hg1 DV2 hg2 hm hn0 (by omega) mb.2 (by omega) nb.2 (by omega) (by omega) (by omega) (fun w => run_float_arith w .sub 24 .f64 _ _ _ s1) s3 awake_any O1 O2 N0 C1 C2 C3 B1 B2 U0 G1 G2 B3 S1 S2 J0 w hT
                · obtain ⟨D, hD⟩ : ∃ D : Nat, (D : Int) = spMz (one a.toNat) - spMz (one b.toNat) := ⟨(spMz (one a.toNat) - spMz (one b.toNat)).toNat, by omega⟩
                  obtain ⟨S, s1, s2, s3⟩ := NJ false D (by omega) (fun h => by cases h) (by rw [if_neg (by decide)]; omega)
                  have J0 := JA (s != false) D (spE (one a.toNat)) (by omega) (by omega) s2
                  rw [hD] at J0 s3
                  rw [Bool.bne_false] at J0 s3
                  exact near_dn_EQ0 a b _ _ _ _ _ _ _ _ _ _ _ _ _ _ _ _ _ _ _ _ _ _ _  rfl rfl hc1 hc2 hz1 hla SB hn1 hc3 DV1 hg1 DV2 hg2 hm hn0 (by omega) mb.2 (by omega) nb.2 (by omega) (by omega) (by omega) (by rw [decide_eq_false (by omega)]; cases s <;> rfl) (fun w => run_float_arith w .sub 24 .f64 _ _ _ s1) s3 awake_any O1 O2 N0 C1 C2 C3 B1 B2 U0 G1 G2 B3 S1 S2 J0 w hT
              · obtain ⟨y1, y2, y3⟩ := nr' c hg2'
                obtain ⟨D, hD⟩ : ∃ D : Nat, (D : Int) = 2 * spMz (one a.toNat) - spMz (one b.toNat) := ⟨(2 * spMz (one a.toNat) - spMz (one b.toNat)).toNat, by omega⟩
                obtain ⟨S, s1, s2, s3⟩ := NJ false D (by omega) (fun h => by cases h) (by
                  rw [if_neg (by decide), Int.min_eq_right (by omega), show (spE (one b.toNat) - spE (one b.toNat)).toNat = 0 by omega, show (spE (one a.toNat) - spE (one b.toNat)).toNat = 1 by omega]
                  omega)
                rw [Int.min_eq_right (by omega)] at s2 s3
                have J0 := JA (s != false) D (spE (one b.toNat)) (by omega) (by omega) s2
                rw [hD] at J0 s3
                rw [Bool.bne_false] at J0 s3
                rw [y1] at S1
                exact near_dn_GT a b _ _ _ _ _ _ _ _ _ _ _ _ _ _ _ _ _ _ _ _ _ _ _  rfl rfl hc1 hc2 hz1 hla SB hn1 hc3 DV1 hg1 DV2 hg2 hm hn0 (by omega) mb.2 (by omega) nb.2 (by omega) (by omega) (by omega) (by rw [decide_eq_false (by omega)]; cases s <;> rfl) (fun w => run_float_arith w .sub 24 .f64 _ _ _ s1) s3 awake_any O1 O2 N0 C1 C2 C3 B1 B2 U0 G1 G2 B3 S1 S2 J0 w hT
    · rw [bne_not _ _ sg] at G1
      exact near_dn_X1 a b _ _ _ _ _ _ _ _ _ _ _ _ _  rfl rfl hc1 hc2 hz1 hla SB hn1 hc3 awake_any O1 O2 N0 C1 C2 C3 B1 B2 U0 G1 G2 w hT
  · have hc3 : cls (one b.toNat) ≤ 2 := by have := (cls_fin (one b.toNat)).1; omega
    exact near_dn_N1 a b _ _ _ _ _ _ _ _ _ _ _ _  rfl rfl hc1 hc2 hz1 hla SB hn1 hc3 awake_any O1 O2 N0 C1 C2 C3 B1 B2 U0 w hT

theorem near_walk (a b : Int) (h0 : Hid (0 ≤ a)) (h1 : Hid (a < 18446744073709551616)) (g0 : Hid (0 ≤ b)) (g1 : Hid (b < 18446744073709551616)) (w : World) (hT : Hid (Tab w)) :
    Calls Tryd.prog 7 #[.int .u64 a, .int .u64 b] w fun e w' => e = .returned (.bool true) ∧ w' = w := by
  have hx : a.toNat < 18446744073709551616 := by have := h0.out; have := h1.out; omega
  have hy : b.toNat < 18446744073709551616 := by have := g0.out; have := g1.out; omega
  have hX := one_lt _ hx
  have hY := one_lt _ hy
  by_cases fx : mag (one a.toNat) < 9218868437227405312
  · by_cases hn : mag (nxt (one a.toNat)) < 9218868437227405312
    · by_cases z1 : mag (one a.toNat) = 0
      · by_cases z2 : mag (nxt (one a.toNat)) = 0
        · exact near_zero a b hx hy fx hn z1 z2 w hT
        · exact near_up0 a b hx hy fx hn z1 z2 w hT
      · by_cases la : mag (nxt (one a.toNat)) < mag (one a.toNat)
        · exact near_dn a b hx hy fx hn z1 la w hT
        · exact near_up1 a b hx hy fx hn z1 la w hT
    · exact near_inf a b hx hy fx hn w hT
  · have hN : nxt (one a.toNat) < 18446744073709551616 := by
      by_cases g : plc (one a.toNat) < 9218868437227405312
      · cases n : isN (one a.toNat)
        · exact (next_facts _ hX n g).2.2.1
        · have : plc (one a.toNat) = 9221120237041090560 := by unfold plc; rw [n, if_pos rfl]
          omega
      · rw [(last_facts a.toNat g).1]; exact hX
    have hc1 : cls (one a.toNat) ≤ 2 := by have := (cls_fin (one a.toNat)).1; omega
    exact near_inf_N0 a b _ _ _ _ _ _ _ _ rfl rfl hc1 awake_any (one_any _ hx) (one_any _ hy) (next_any _ hX) (class_any _ hX) (class_any _ hN) (class_any _ hY) w hT
end Go.Proofs.YtokfmeainfkjfaaDoor
