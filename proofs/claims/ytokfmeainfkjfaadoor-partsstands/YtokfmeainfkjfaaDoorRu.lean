/- Unit and Single: the document's. -/
import Derived.Test.YtokfmeainfkjfaaDoorWu
import Derived.Test.YtokfmeainfkjfaaDoorWr
import Derived.Test.YtokfmeainfkjfaaDoorRj
namespace Go.Proofs.YtokfmeainfkjfaaDoor
open Go.RowKit

theorem join_one (e0 : Int) (h0 : -1074 ≤ e0) (h1 : e0 ≤ 1023) : joinW false 1 e0 = Fl.pw e0 ∧ joinR 1 e0 = 0 := by
  have c : Lib.ctz 64 (1 : Int).toNat = 0 := by decide
  have o : oddM 1 = 1 := by decide
  have e : oddE 1 e0 = e0 := by unfold oddE; rw [c]; omega
  have k : joinOk 1 e0 = true := by
    unfold joinOk hld; rw [o, e, Fl.log2_one]
    exact decide_eq_true (by omega)
  have hne : ¬ (1 : Int) = 0 := by decide
  unfold joinW joinR
  rw [if_neg hne, if_neg hne, k, o, e, if_pos rfl, if_pos rfl]
  unfold Fl.pw
  exact ⟨rfl, rfl⟩

set_option maxHeartbeats 400000 in
theorem runit_bad (a : Int) (s : Bool) (m e f : Int) (hf : (f == 0) = false) (S0 : Hid (∀ w, Calls Tryd.prog 19 #[.int .u64 a] w fun e1 w' => e1 = .returned (.tuple #[.bool s, .int .u64 m, .int .i64 e, .int .i64 f]) ∧ w' = w)) (w : World) :
    Calls Tryd.prog 33 #[.int .u64 a] w fun e w' => e = .returned (.tuple #[.int .u64 0, .int .i64 f]) ∧ w' = w := by
  go_enter Tryd.func33, Tryd.ntmps33
  go_wp2_with (go_at_call 19; refine (S0.out _).mono ?_; rintro e1 w' ⟨rfl, rfl⟩)
  go_ret2
  exact ⟨rfl, rfl⟩
set_option maxHeartbeats 400000 in
theorem runit_0 (a p : Int) (s : Bool) (m e r : Int) (hc : (m == 0) = true) (S0 : Hid (∀ w, Calls Tryd.prog 19 #[.int .u64 a] w fun e1 w' => e1 = .returned (.tuple #[.bool s, .int .u64 m, .int .i64 e, .int .i64 0]) ∧ w' = w))
    (P0 : Hid (∀ w, Calls Tryd.prog 21 #[.bool false, .int .u64 1, .int .i64 (-1074)] w fun e w' => e = .returned (.tuple #[.int .u64 p, .int .i64 r]) ∧ w' = w)) (w : World) :
    Calls Tryd.prog 33 #[.int .u64 a] w fun e w' => e = .returned (.tuple #[.int .u64 p, .int .i64 r]) ∧ w' = w := by
  go_enter Tryd.func33, Tryd.ntmps33
  go_wp2_with (first | (go_at_call 19; refine (S0.out _).mono ?_; rintro e1 w' ⟨rfl, rfl⟩) | (go_at_call 21; refine (P0.out _).mono ?_; rintro e1 w' ⟨rfl, rfl⟩))
  go_ret2
  exact ⟨rfl, rfl⟩
set_option maxHeartbeats 400000 in
theorem runit_n (a p : Int) (s : Bool) (m e r : Int) (hc : (m == 0) = false) (S0 : Hid (∀ w, Calls Tryd.prog 19 #[.int .u64 a] w fun e1 w' => e1 = .returned (.tuple #[.bool s, .int .u64 m, .int .i64 e, .int .i64 0]) ∧ w' = w))
    (P0 : Hid (∀ w, Calls Tryd.prog 21 #[.bool false, .int .u64 1, .int .i64 e] w fun e w' => e = .returned (.tuple #[.int .u64 p, .int .i64 r]) ∧ w' = w)) (w : World) :
    Calls Tryd.prog 33 #[.int .u64 a] w fun e w' => e = .returned (.tuple #[.int .u64 p, .int .i64 r]) ∧ w' = w := by
  go_enter Tryd.func33, Tryd.ntmps33
  go_wp2_with (first | (go_at_call 19; refine (S0.out _).mono ?_; rintro e1 w' ⟨rfl, rfl⟩) | (go_at_call 21; refine (P0.out _).mono ?_; rintro e1 w' ⟨rfl, rfl⟩))
  go_ret2
  exact ⟨rfl, rfl⟩
theorem runit_any (a : Int) (h0 : Hid (0 ≤ a)) (h1 : Hid (a < 18446744073709551616)) (w : World) :
    Calls Tryd.prog 33 #[.int .u64 a] w fun e w' => e = .returned (.tuple #[.int .u64 (untW a.toNat : Nat), .int .i64 (spR a.toNat)]) ∧ w' = w := by
  have S0 := rsplit_any a h0 h1
  by_cases h : 9218868437227405312 ≤ mag a.toNat
  · have e : untW a.toNat = 0 := by unfold untW; rw [if_pos h]
    rw [e]
    exact runit_bad a _ _ _ _ (by rw [(spR_fin _).2.2 h]; rfl) S0 w
  · have h' : mag a.toNat < 9218868437227405312 := by omega
    have e : untW a.toNat = Fl.pw (untE a.toNat) := by unfold untW; rw [if_neg h]
    have r := (spR_fin a.toNat).1.2 h'
    rw [r] at S0
    rw [e, r]
    have bd := spE_bd a.toNat
    have J : ∀ e0, -1074 ≤ e0 → e0 ≤ 1023 → ∀ w, Calls Tryd.prog 21 #[.bool false, .int .u64 1, .int .i64 e0] w fun e w' => e = .returned (.tuple #[.int .u64 (Fl.pw e0 : Nat), .int .i64 0]) ∧ w' = w := fun e0 g0 g1 w => by
      have := rjoin_any false 1 e0 (by decide) (by decide) w
      rwa [(join_one e0 g0 g1).1, (join_one e0 g0 g1).2] at this
    by_cases z : mag a.toNat = 0
    · have e2 : untE a.toNat = -1074 := by unfold untE; rw [if_pos z]
      rw [e2]
      exact runit_0 a _ _ _ _ _ (by rw [(spMz_0 _ h').2 z]; rfl) S0 (J _ (by omega) (by omega)) w
    · have e2 : untE a.toNat = spE a.toNat := by unfold untE; rw [if_neg z]
      rw [e2]
      exact runit_n a _ _ _ _ _ (by have : spMz a.toNat ≠ 0 := fun c => z ((spMz_0 _ h').1 c); simpa using this) S0 (J _ (by omega) (by omega)) w

set_option maxHeartbeats 400000 in
theorem rsingle_yes (a : Int) (s : Bool) (m e f : Int) (hf : (f != 0 || m == 0) = true) (S0 : Hid (∀ w, Calls Tryd.prog 19 #[.int .u64 a] w fun e1 w' => e1 = .returned (.tuple #[.bool s, .int .u64 m, .int .i64 e, .int .i64 f]) ∧ w' = w)) (w : World) :
    Calls Tryd.prog 35 #[.int .u64 a] w fun e w' => e = .returned (.bool true) ∧ w' = w := by
  by_cases h : (f == 0) = true
  · have hm : (m == 0) = true := by
      have : (f != 0) = false := by rw [bne, h]; rfl
      rw [this] at hf; simpa using hf
    obtain rfl : f = 0 := by simpa using h
    clear hf h
    go_enter Tryd.func35, Tryd.ntmps35
    go_wp2_with (go_at_call 19; refine (S0.out _).mono ?_; rintro e1 w' ⟨rfl, rfl⟩)
    go_ret
    exact ⟨rfl, rfl⟩
  · have h' : (f == 0) = false := by simpa using h
    clear hf h
    go_enter Tryd.func35, Tryd.ntmps35
    go_wp2_with (go_at_call 19; refine (S0.out _).mono ?_; rintro e1 w' ⟨rfl, rfl⟩)
    go_ret
    exact ⟨rfl, rfl⟩

/-- What the second loop keeps: how often k can still be halved, and how often it was. -/
def Inv3 (o : Nat) (E' T K : Int) : Prop := 1 ≤ K ∧ K < 18446744073709551616 ∧ T + (K.toNat.log2 : Nat) = E' + (o.log2 : Nat)
theorem inv3_step {o : Nat} {E' T K : Int} (i : Inv3 o E' T K) (h : 1 < K) : Inv3 o E' (T + 1) (K / 2) := by
  obtain ⟨a, b, c⟩ := i
  refine ⟨by omega, by omega, ?_⟩
  have e : (K / 2).toNat = K.toNat / 2 := by omega
  have l : K.toNat.log2 = (K.toNat / 2).log2 + 1 := by
    rw [Nat.log2_def, if_pos (by omega)]
  rw [e]
  omega
theorem inv3_exit {o : Nat} {E' T K : Int} (i : Inv3 o E' T K) (h : ¬ 1 < K) : T = E' + (o.log2 : Nat) := by
  obtain ⟨a, b, c⟩ := i
  have : K.toNat = 1 := by omega
  rw [this, Fl.log2_one] at c
  omega
theorem inv3_bd {o : Nat} {E' T K : Int} (i : Inv3 o E' T K) (ho : o.log2 < 64) : E' - 64 ≤ T ∧ T ≤ E' + 64 := by
  obtain ⟨a, b, c⟩ := i
  have : K.toNat.log2 < 64 := (Nat.log2_lt (by omega)).2 (show K.toNat < 2 ^ 64 by omega)
  omega

set_option maxHeartbeats 1000000 in
theorem rsingle_odd (a : Int) (s : Bool) (m0 e0 : Int) (r : Bool) (hr : Hid (hld ((oddM m0).log2 + 1 : Nat) (oddE m0 e0) 24 (-149) 128 = r)) (h0 : 0 < m0) (h1 : m0 < 18446744073709551616) (he0 : -3000 ≤ e0) (he1 : e0 ≤ 3000) (S0 : Hid (∀ w, Calls Tryd.prog 19 #[.int .u64 a] w fun e1 w' => e1 = .returned (.tuple #[.bool s, .int .u64 m0, .int .i64 e0, .int .i64 0]) ∧ w' = w))
    (w : World) :
    Calls Tryd.prog 35 #[.int .u64 a] w fun e w' => e = .returned (.bool r) ∧ w' = w := by
  have hm : (m0 == 0) = false := by simp; omega
  go_enter Tryd.func35, Tryd.ntmps35
  go_wp2_with (go_at_call 19; refine (S0.out _).mono ?_; rintro e1 w' ⟨rfl, rfl⟩)
  go_loop [4, 5] (fun m e => ∃ M E : Int, m = .int .u64 M ∧ e = .int .i64 E ∧ Inv1 m0 e0 M E) (fun m _ => (intOf m).toNat)
  case atStart => exact ⟨m0, e0, rfl, rfl, inv1_start m0 e0 h0 h1⟩
  case round =>
    obtain ⟨M, E, rfl, rfl, i0⟩ := hrel
    have i : Hid (Inv1 m0 e0 M E) := i0
    have hM0 := i0.1
    have hM1 := i0.2.1
    have hE := inv1_bd h0 h1 i0
    have hE0 := hE.1
    have hE1 := hE.2
    clear i0 hE
    by_cases he : M % 2 = 0
    · have ht : (M % 2 == 0) = true := by rw [he]; rfl
      have i' : Hid (Inv1 m0 e0 (M / 2) (E + 1)) := inv1_step i.out he
      clear he
      go_wp2
      go_round
      case rel => exact ⟨M / 2, E + 1, rfl, rfl, i'.out⟩
      case measure => simp [intOf]; omega
    · have ht : (M % 2 == 0) = false := by simpa using he
      obtain ⟨x1, x2⟩ := inv1_exit i.out he
      have X1 : Hid (M = oddM m0) := x1
      have X2 : Hid (E = oddE m0 e0) := x2
      have oo := odd_facts m0 h0 h1
      have ol := (oddM_log m0 h0 h1).2
      have OL : Hid ((oddM m0).log2 < 64) := ol
      have OO : Hid (oddM m0 % 2 = 1) := oo.2.2.1
      have i2 : Hid (Inv3 (oddM m0) E E M) := by
        refine ⟨by omega, by omega, ?_⟩
        rw [x1, Int.toNat_natCast]
      clear x1 x2 he oo ol i
      go_wp2
      go_loop [7, 8] (fun t k => ∃ T K : Int, t = .int .i64 T ∧ k = .int .u64 K ∧ Inv3 (oddM m0) E T K) (fun _ k => (intOf k).toNat)
      case atStart => exact ⟨E, M, rfl, rfl, i2.out⟩
      case round =>
        obtain ⟨T, K, rfl, rfl, j0⟩ := hrel
        have j : Hid (Inv3 (oddM m0) E T K) := j0
        have hK := j0.1
        have hK1 := j0.2.1
        have hT := inv3_bd j0 OL.out
        have hT0 := hT.1
        have hT1 := hT.2
        clear j0 hT i2 ht
        by_cases hc : 1 < K
        · have j' : Hid (Inv3 (oddM m0) E (T + 1) (K / 2)) := inv3_step j.out hc
          go_wp2
          go_round
          case rel => exact ⟨T + 1, K / 2, rfl, rfl, j'.out⟩
          case measure => simp [intOf]; omega
        · have hx : Hid (T = E + ((oddM m0).log2 : Nat)) := inv3_exit j.out hc
          have ho0 : oddM m0 ≠ 0 := by have := OO.out; omega
          have hlg : Hid (M < 16777216 ↔ ((oddM m0).log2 + 1 : Nat) ≤ (24 : Int)) := by
            show M < 16777216 ↔ ((oddM m0).log2 + 1 : Nat) ≤ (24 : Int)
            have := @Nat.log2_lt (oddM m0) 24 ho0
            have x1 := X1.out
            have e24 : (2 : Nat) ^ 24 = 16777216 := by decide
            rw [e24] at this
            omega
          clear ho0
          go_wp2
          all_goals go_ret
          all_goals refine ⟨ret_bool ?_, rfl⟩
          all_goals rw [← hr.out]
          all_goals have y1 := hx.out
          all_goals have y2 := hlg.out
          all_goals have y3 := X2.out
          all_goals unfold hld
          · exact decide_eq_decide.2 (by omega)
          · exact (decide_eq_false (by omega)).symm
          · exact (decide_eq_false (by omega)).symm

theorem rsingle_any (a : Int) (h0 : Hid (0 ≤ a)) (h1 : Hid (a < 18446744073709551616)) (w : World) :
    Calls Tryd.prog 35 #[.int .u64 a] w fun e w' => e = .returned (.bool (sgl a.toNat)) ∧ w' = w := by
  have S0 := rsplit_any a h0 h1
  by_cases h : 9218868437227405312 ≤ mag a.toNat ∨ mag a.toNat = 0
  · have e : sgl a.toNat = true := by unfold sgl; rw [if_pos h]
    rw [e]
    refine rsingle_yes a _ _ _ _ ?_ S0 w
    rcases h with h | h
    · rw [(spR_fin _).2.2 h]; rfl
    · rw [(spMz_0 _ (by omega)).2 h]; simp
  · have e : sgl a.toNat = hld ((oddM (spMz a.toNat)).log2 + 1 : Nat) (oddE (spMz a.toNat) (spE a.toNat)) 24 (-149) 128 := by unfold sgl; rw [if_neg h]
    have h' : mag a.toNat < 9218868437227405312 := by omega
    have r := (spR_fin a.toNat).1.2 h'
    rw [r] at S0
    have bd := spE_bd a.toNat
    have mb := spMz_bd a.toNat
    have m0 : spMz a.toNat ≠ 0 := fun c => h (Or.inr ((spMz_0 _ h').1 c))
    exact rsingle_odd a _ _ _ _ e.symm (by omega) (by omega) (by omega) (by omega) S0 w
end Go.Proofs.YtokfmeainfkjfaaDoor
