/- Quo. -/
import Derived.Test.YtckjmcfncfoboaaDoorNl
namespace Go.Proofs.YtckjmcfncfoboaaDoor
open Go.RowKit

theorem quo_step (A B K : Nat) (hB : 0 < B) : B * 2 ^ (K + 1) / 2 = B * 2 ^ K ∧ (A % (B * 2 ^ (K + 1)) < B * 2 ^ K → A / (B * 2 ^ K) = 2 * (A / (B * 2 ^ (K + 1))) ∧ A % (B * 2 ^ K) = A % (B * 2 ^ (K + 1))) ∧
    (B * 2 ^ K ≤ A % (B * 2 ^ (K + 1)) → A / (B * 2 ^ K) = 2 * (A / (B * 2 ^ (K + 1))) + 1 ∧ A % (B * 2 ^ K) = A % (B * 2 ^ (K + 1)) - B * 2 ^ K) := by
  have hp : 0 < B * 2 ^ K := Nat.mul_pos hB (Nat.two_pow_pos K)
  have e : B * 2 ^ (K + 1) = 2 * (B * 2 ^ K) := by rw [Nat.pow_succ, ← Nat.mul_assoc, Nat.mul_comm]
  rw [e]
  generalize B * 2 ^ K = D at *
  have d1 := Nat.div_add_mod A (2 * D)
  have l1 := Nat.mod_lt A (show 0 < 2 * D by omega)
  have e3 : 2 * D * (A / (2 * D)) = D * (2 * (A / (2 * D))) := by rw [Nat.mul_comm 2 D, Nat.mul_assoc]
  rw [e3] at d1
  generalize A / (2 * D) = Q at *
  generalize A % (2 * D) = R at *
  have d2 := Nat.div_add_mod A D
  have l2 := Nat.mod_lt A hp
  refine ⟨by omega, fun h => ?_, fun h => ?_⟩
  · have : A / D = 2 * Q := by
      refine Nat.div_eq_of_lt_le ?_ ?_
      · rw [Nat.mul_comm]; omega
      · rw [Nat.mul_comm, Nat.mul_add, Nat.mul_one]; omega
    rw [this] at d2
    exact ⟨this, by omega⟩
  · have : A / D = 2 * Q + 1 := by
      refine Nat.div_eq_of_lt_le ?_ ?_
      · rw [Nat.mul_comm, Nat.mul_add, Nat.mul_one]; omega
      · rw [Nat.mul_comm, Nat.mul_add, Nat.mul_one, Nat.mul_add, Nat.mul_one]; omega
    rw [this, Nat.mul_add, Nat.mul_one] at d2
    exact ⟨this, by omega⟩
theorem quo_start (A B n : Nat) (hB : 0 < B) (h : blen A + 1 ≤ blen B + n ∨ (blen A ≤ blen B ∧ False) ∨ blen A < blen B + n) : A < B * 2 ^ (n + 1) := by
  have hB1 := Nat.log2_self_le (show B ≠ 0 by omega)
  have eB : blen B = B.log2 + 1 := by unfold blen; rw [if_neg (by omega)]
  by_cases hA : A = 0
  · subst hA; exact Nat.mul_pos hB (Nat.two_pow_pos _)
  · have hA1 : A < 2 ^ (A.log2 + 1) := Nat.lt_log2_self
    have eA : blen A = A.log2 + 1 := by unfold blen; rw [if_neg hA]
    have : 2 ^ (A.log2 + 1) ≤ 2 ^ (B.log2 + (n + 1)) := Nat.pow_le_pow_right (by decide) (by omega)
    have h2 : 2 ^ (B.log2 + (n + 1)) ≤ B * 2 ^ (n + 1) := by rw [Nat.pow_add]; exact Nat.mul_le_mul_right _ hB1
    omega
theorem or_one (q : Nat) (h : 2 * q < 18446744073709551616) : bits .or .u64 ((2 * q : Nat) : Int) 1 = ((2 * q + 1 : Nat) : Int) := by
  have := u64_or_nat (2 * q) 1 h (by decide)
  rw [nat_join 1 (2 * q) 1 (by omega) (by decide)] at this
  exact this
theorem cmp_ge (A B : Nat) : (0 ≤ cmpN A B) ↔ B ≤ A := by
  unfold cmpN
  by_cases h : A < B
  · rw [if_pos h]; omega
  · rw [if_neg h]; split <;> omega

set_option maxHeartbeats 4000000 in
set_option maxRecDepth 20000 in
theorem quo_any (u v : Value) (A B : Nat) (hB : 0 < B) (hq : A / B < 18446744073709551616) (hBl : B < 2 ^ (32 * kk)) (hAl : blen A < 2000000) (w : World) (h : NatAt w u A) (h' : NatAt w v B) :
    Calls Tryd.prog 93 #[u, v] w fun e w' => (∃ x, e = .returned (.tuple #[.int .u64 (A / B : Nat), x]) ∧ NatAt w' x (A % B)) ∧ Gr w w' := by
  obtain ⟨n, hn⟩ : ∃ n : Nat, n = blen A + 1 - blen B := ⟨_, rfl⟩
  have H1 : Hid (Calls Tryd.prog 91 #[u] w fun e w' => e = .returned (.int .i64 (blen A : Nat)) ∧ w' = w) := len_any u A w h
  have H2 : Hid (Calls Tryd.prog 91 #[v] w fun e w' => e = .returned (.int .i64 (blen B : Nat)) ∧ w' = w) := len_any v B w h'
  have H3 : Hid (Calls Tryd.prog 60 #[v, .int .i64 (n : Int)] w fun e w' => (∃ x, e = .returned x ∧ NatAt w' x (B * 2 ^ n)) ∧ Gr w w') := left_any v B n n rfl (by omega) hBl w h'
  have hst : A < B * 2 ^ (n + 1) := quo_start A B n hB (by omega)
  have HST : Hid (A < B * 2 ^ (n + 1)) := hst
  have HSTEP : Hid (∀ K, B * 2 ^ (K + 1) / 2 = B * 2 ^ K ∧ (A % (B * 2 ^ (K + 1)) < B * 2 ^ K → A / (B * 2 ^ K) = 2 * (A / (B * 2 ^ (K + 1))) ∧ A % (B * 2 ^ K) = A % (B * 2 ^ (K + 1))) ∧
    (B * 2 ^ K ≤ A % (B * 2 ^ (K + 1)) → A / (B * 2 ^ K) = 2 * (A / (B * 2 ^ (K + 1))) + 1 ∧ A % (B * 2 ^ K) = A % (B * 2 ^ (K + 1)) - B * 2 ^ K)) := fun K => quo_step A B K hB
  have HLE : Hid (∀ K, A / (B * 2 ^ K) ≤ A / B) := fun K => Nat.div_le_div_left (Nat.le_mul_of_pos_right _ (Nat.two_pow_pos K)) hB
  have HQ : Hid (A / B < 18446744073709551616) := hq
  have HU : Hid (NatAt w u A) := h
  have hbb : (blen A : Int) - blen B + 1 ≤ n := by omega
  have hb3 : (0 : Int) ≤ (blen A : Int) - blen B + 1 → (n : Int) = (blen A : Int) - blen B + 1 := by omega
  have hb4 : (blen A : Int) - blen B + 1 < 0 → n = 0 := by omega
  have hbB : blen B < 2000000 := by
    by_cases hz : B = 0
    · omega
    · have := (Nat.log2_lt hz).2 hBl
      unfold kk at this
      unfold blen; rw [if_neg hz]; omega
  clear h h' hst hq hn hBl
  generalize blen A = lA at *
  generalize blen B = lB at *
  have HNB : Hid (n + 1 < 3000000) := by show _ < _; omega
  by_cases c : (0 : Int) < (lA : Int) - lB + 1
  · have hE : Hid ((lA : Int) - lB + 1 = n) := (hb3 (by omega)).symm
    have hn0 : (0 : Int) < n := by rw [← hE.out]; exact c
    clear hb3 hb4 hbb
    go_enter Tryd.func93, Tryd.ntmps93
    go_wp2_with fail
    refine H1.out.mono ?_
    rintro e w' ⟨rfl, hw'⟩
    subst w'
    go_wp2_with fail
    refine H2.out.mono ?_
    rintro e w' ⟨rfl, hw'⟩
    subst w'
    go_wp2_with (simp only [hE.out])
    clear hE c hn0
    refine H3.out.mono ?_
    rintro e w1 ⟨⟨x, rfl, hx⟩, hg⟩
    have HG0 : Hid (Gr w w1) := hg
    have HX0 : Hid (NatAt w1 x (B * 2 ^ n)) := hx
    clear hg hx H1 H2 H3 hAl hbB
    go_wp2
    go_loopw [0, 6, 7, 8] (fun sa sq si sx wr => ∃ (K : Nat) (va vx : Value), sa = va ∧ NatAt wr va (A % (B * 2 ^ K)) ∧ sq = .int .u64 (A / (B * 2 ^ K) : Nat) ∧ si = .int .i64 ((K : Int) - 1) ∧ sx = vx ∧ NatAt wr vx (B * 2 ^ K / 2) ∧ Gr w wr ∧ K < 3000000) (fun _ _ si _ _ => (intOf si + 1).toNat)
    case atStart => exact ⟨n + 1, u, x, rfl, by rw [Nat.mod_eq_of_lt HST.out]; exact HU.out.gr HG0.out, by rw [Nat.div_eq_of_lt HST.out]; rfl, by show Value.int .i64 (n : Int) = .int .i64 (((n + 1 : Nat) : Int) - 1); rw [show (((n + 1 : Nat) : Int) - 1) = n by omega], rfl, by rw [(HSTEP.out n).1]; exact HX0.out, HG0.out, HNB.out⟩
    case round =>
      obtain ⟨K, va, vx, hsa, ha, rfl, rfl, hsx, hx, hg, hKb⟩ := hrel
      have hsa' := hsa.symm
      have hsx' := hsx.symm
      clear hsa hsx
      subst hsa' hsx'
      have HA : Hid (NatAt wr va (A % (B * 2 ^ K))) := ha
      have HX : Hid (NatAt wr vx (B * 2 ^ K / 2)) := hx
      have HG : Hid (Gr w wr) := hg
      have HKB : Hid (K < 3000000) := hKb
      have hq0 : Hid (A / (B * 2 ^ K) < 18446744073709551616) := Nat.lt_of_le_of_lt (HLE.out K) HQ.out
      clear ha hx hg hKb
      cases K with
      | zero =>
        have HA' : Hid (NatAt wr va (A % B)) := by have := HA.out; rwa [Nat.pow_zero, Nat.mul_one] at this
        have HQ' : Hid (A / (B * 2 ^ 0) = A / B) := by show _ = _; rw [Nat.pow_zero, Nat.mul_one]
        go_wp2
        go_ret2
        exact ⟨⟨va, by rw [HQ'.out]; rfl, HA'.out⟩, HG.out⟩
      | succ K =>
        obtain ⟨t1, t2, t3⟩ := HSTEP.out K
        have HX1 : Hid (NatAt wr vx (B * 2 ^ K)) := by have := HX.out; rwa [t1] at this
        have HC : Hid (Calls Tryd.prog 63 #[va, vx] wr fun e w' => e = .returned (.int .i64 (cmpN (A % (B * 2 ^ (K + 1))) (B * 2 ^ K))) ∧ ∃ d, w' = wr.drewN d) := cmp_any va vx _ _ wr HA.out HX1.out
        have hge := cmp_ge (A % (B * 2 ^ (K + 1))) (B * 2 ^ K)
        by_cases c : B * 2 ^ K ≤ A % (B * 2 ^ (K + 1))
        · have hc0 : 0 ≤ cmpN (A % (B * 2 ^ (K + 1))) (B * 2 ^ K) := hge.2 c
          obtain ⟨s1, s2⟩ := t3 c
          have HS1 : Hid (A / (B * 2 ^ K) = 2 * (A / (B * 2 ^ (K + 1))) + 1) := s1
          have HS2 : Hid (A % (B * 2 ^ K) = A % (B * 2 ^ (K + 1)) - B * 2 ^ K) := s2
          have hq1 : A / (B * 2 ^ K) < 18446744073709551616 := Nat.lt_of_le_of_lt (HLE.out K) HQ.out
          have HQ2 : Hid (2 * (A / (B * 2 ^ (K + 1))) + 1 < 18446744073709551616) := by show _ < _; rw [← s1]; exact hq1
          have HSub : Hid (∀ d, Calls Tryd.prog 64 #[va, vx] (wr.drewN d) fun e w' => (∃ x, e = .returned x ∧ NatAt w' x (A % (B * 2 ^ (K + 1)) - B * 2 ^ K)) ∧ Gr (wr.drewN d) w') := fun d => sub_any va vx _ _ c (wr.drewN d) (HA.out.gr ((Gr.refl _).drewN d)) (HX1.out.gr ((Gr.refl _).drewN d))
          clear t1 t2 t3 hge c s1 s2 hq1
          generalize cmpN (A % (B * 2 ^ (K + 1))) (B * 2 ^ K) = cv at *
          generalize hQQ : A / (B * 2 ^ (K + 1)) = Q at *
          have hQ3 : (Q : Int) * 2 < 18446744073709551616 := by have := HQ2.out; omega
          have HOr : Hid (bits .or .u64 ((Q : Int) * 2) 1 = ((2 * Q + 1 : Nat) : Int)) := by
            show _ = _
            have := or_one Q (by have := HQ2.out; omega)
            rwa [show ((2 * Q : Nat) : Int) = (Q : Int) * 2 by omega] at this
          clear hQQ
          have HH : Hid (∀ w2, Gr wr w2 → Calls Tryd.prog 94 #[vx] w2 fun e w' => (∃ x, e = .returned x ∧ NatAt w' x (B * 2 ^ K / 2)) ∧ Gr w2 w') := fun w2 g => half_any vx _ w2 (HX1.out.gr g)
          go_wp2_with fail
          refine HC.out.mono ?_
          rintro e w' ⟨rfl, d, rfl⟩
          go_wp2_with fail
          refine (HSub.out d).mono ?_
          rintro e w2 ⟨⟨x1, rfl, hx1⟩, hg2⟩
          have G2 : Hid (Gr wr w2) := ((Gr.refl _).drewN d).trans hg2
          have X1 : Hid (NatAt w2 x1 (A % (B * 2 ^ (K + 1)) - B * 2 ^ K)) := hx1
          clear hx1 hg2
          go_wp2_with (simp only [HOr.out])
          refine (HH.out w2 G2.out).mono ?_
          rintro e w3 ⟨⟨x2, rfl, hx2⟩, hg3⟩
          have G3 : Hid (Gr w2 w3) := hg3
          have X2 : Hid (NatAt w3 x2 (B * 2 ^ K / 2)) := hx2
          clear hx2 hg3
          go_wp2
          go_roundw
          case rel => exact ⟨K, x1, x2, rfl, by rw [HS2.out]; exact X1.out.gr G3.out, by rw [HS1.out, show ((2 * Q + 1 : Nat) : Int) = 2 * (Q : Int) + 1 by omega], by rw [show wrap64 ((K : Int) - 1) = (K : Int) - 1 by have := HKB.out; unfold wrap64; omega], rfl, X2.out, (HG.out.trans G2.out).trans G3.out, by have := HKB.out; omega⟩
          case measure =>
            have := HKB.out
            simp only [intOf]
            unfold wrap64
            omega
        · have hc0 : cmpN (A % (B * 2 ^ (K + 1))) (B * 2 ^ K) < 0 := by
            have := mt hge.1 c
            omega
          obtain ⟨s1, s2⟩ := t2 (by omega)
          have HS1 : Hid (A / (B * 2 ^ K) = 2 * (A / (B * 2 ^ (K + 1)))) := s1
          have HS2 : Hid (A % (B * 2 ^ K) = A % (B * 2 ^ (K + 1))) := s2
          have hq1 : A / (B * 2 ^ K) < 18446744073709551616 := Nat.lt_of_le_of_lt (HLE.out K) HQ.out
          have HQ2 : Hid (2 * (A / (B * 2 ^ (K + 1))) < 18446744073709551616) := by show _ < _; rw [← s1]; exact hq1
          have HH : Hid (∀ w2, Gr wr w2 → Calls Tryd.prog 94 #[vx] w2 fun e w' => (∃ x, e = .returned x ∧ NatAt w' x (B * 2 ^ K / 2)) ∧ Gr w2 w') := fun w2 g => half_any vx _ w2 (HX1.out.gr g)
          clear t1 t2 t3 hge c s1 s2 hq1
          generalize cmpN (A % (B * 2 ^ (K + 1))) (B * 2 ^ K) = cv at *
          generalize hQQ : A / (B * 2 ^ (K + 1)) = Q at *
          have hQ3 : (Q : Int) * 2 < 18446744073709551616 := by have := HQ2.out; omega
          clear hQQ
          go_wp2_with fail
          refine HC.out.mono ?_
          rintro e w' ⟨rfl, d, rfl⟩
          have G2 : Hid (Gr wr (wr.drewN d)) := (Gr.refl _).drewN d
          clear hQ3
          go_wp2_with fail
          refine (HH.out _ G2.out).mono ?_
          rintro e w3 ⟨⟨x2, rfl, hx2⟩, hg3⟩
          have G3 : Hid (Gr (wr.drewN d) w3) := hg3
          have X2 : Hid (NatAt w3 x2 (B * 2 ^ K / 2)) := hx2
          clear hx2 hg3
          go_wp2
          go_roundw
          case rel => exact ⟨K, va, x2, rfl, by rw [HS2.out]; exact (HA.out.gr G2.out).gr G3.out, by rw [HS1.out, show ((2 * Q : Nat) : Int) = (Q : Int) * 2 by omega], by rw [show wrap64 ((K : Int) - 1) = (K : Int) - 1 by have := HKB.out; unfold wrap64; omega], rfl, X2.out, (HG.out.trans G2.out).trans G3.out, by have := HKB.out; omega⟩
          case measure =>
            have := HKB.out
            simp only [intOf]
            unfold wrap64
            omega
  · obtain rfl : n = 0 := by omega
    have c' : (lA : Int) - lB + 1 ≤ 0 := by omega
    clear c hb3 hb4 hbb
    go_enter Tryd.func93, Tryd.ntmps93
    go_wp2_with fail
    refine H1.out.mono ?_
    rintro e w' ⟨rfl, hw'⟩
    subst w'
    go_wp2_with fail
    refine H2.out.mono ?_
    rintro e w' ⟨rfl, hw'⟩
    subst w'
    go_wp2_with fail
    clear c'
    refine H3.out.mono ?_
    rintro e w1 ⟨⟨x, rfl, hx⟩, hg⟩
    have HG0 : Hid (Gr w w1) := hg
    have HX0 : Hid (NatAt w1 x (B * 2 ^ 0)) := hx
    clear hg hx H1 H2 H3 hAl hbB
    go_wp2
    go_loopw [0, 6, 7, 8] (fun sa sq si sx wr => ∃ (K : Nat) (va vx : Value), sa = va ∧ NatAt wr va (A % (B * 2 ^ K)) ∧ sq = .int .u64 (A / (B * 2 ^ K) : Nat) ∧ si = .int .i64 ((K : Int) - 1) ∧ sx = vx ∧ NatAt wr vx (B * 2 ^ K / 2) ∧ Gr w wr ∧ K < 3000000) (fun _ _ si _ _ => (intOf si + 1).toNat)
    case atStart => exact ⟨0 + 1, u, x, rfl, by rw [Nat.mod_eq_of_lt HST.out]; exact HU.out.gr HG0.out, by rw [Nat.div_eq_of_lt HST.out]; rfl, by rfl, rfl, by rw [(HSTEP.out 0).1]; exact HX0.out, HG0.out, HNB.out⟩
    case round =>
      obtain ⟨K, va, vx, hsa, ha, rfl, rfl, hsx, hx, hg, hKb⟩ := hrel
      have hsa' := hsa.symm
      have hsx' := hsx.symm
      clear hsa hsx
      subst hsa' hsx'
      have HA : Hid (NatAt wr va (A % (B * 2 ^ K))) := ha
      have HX : Hid (NatAt wr vx (B * 2 ^ K / 2)) := hx
      have HG : Hid (Gr w wr) := hg
      have HKB : Hid (K < 3000000) := hKb
      have hq0 : Hid (A / (B * 2 ^ K) < 18446744073709551616) := Nat.lt_of_le_of_lt (HLE.out K) HQ.out
      clear ha hx hg hKb
      cases K with
      | zero =>
        have HA' : Hid (NatAt wr va (A % B)) := by have := HA.out; rwa [Nat.pow_zero, Nat.mul_one] at this
        have HQ' : Hid (A / (B * 2 ^ 0) = A / B) := by show _ = _; rw [Nat.pow_zero, Nat.mul_one]
        go_wp2
        go_ret2
        exact ⟨⟨va, by rw [HQ'.out]; rfl, HA'.out⟩, HG.out⟩
      | succ K =>
        obtain ⟨t1, t2, t3⟩ := HSTEP.out K
        have HX1 : Hid (NatAt wr vx (B * 2 ^ K)) := by have := HX.out; rwa [t1] at this
        have HC : Hid (Calls Tryd.prog 63 #[va, vx] wr fun e w' => e = .returned (.int .i64 (cmpN (A % (B * 2 ^ (K + 1))) (B * 2 ^ K))) ∧ ∃ d, w' = wr.drewN d) := cmp_any va vx _ _ wr HA.out HX1.out
        have hge := cmp_ge (A % (B * 2 ^ (K + 1))) (B * 2 ^ K)
        by_cases c : B * 2 ^ K ≤ A % (B * 2 ^ (K + 1))
        · have hc0 : 0 ≤ cmpN (A % (B * 2 ^ (K + 1))) (B * 2 ^ K) := hge.2 c
          obtain ⟨s1, s2⟩ := t3 c
          have HS1 : Hid (A / (B * 2 ^ K) = 2 * (A / (B * 2 ^ (K + 1))) + 1) := s1
          have HS2 : Hid (A % (B * 2 ^ K) = A % (B * 2 ^ (K + 1)) - B * 2 ^ K) := s2
          have hq1 : A / (B * 2 ^ K) < 18446744073709551616 := Nat.lt_of_le_of_lt (HLE.out K) HQ.out
          have HQ2 : Hid (2 * (A / (B * 2 ^ (K + 1))) + 1 < 18446744073709551616) := by show _ < _; rw [← s1]; exact hq1
          have HSub : Hid (∀ d, Calls Tryd.prog 64 #[va, vx] (wr.drewN d) fun e w' => (∃ x, e = .returned x ∧ NatAt w' x (A % (B * 2 ^ (K + 1)) - B * 2 ^ K)) ∧ Gr (wr.drewN d) w') := fun d => sub_any va vx _ _ c (wr.drewN d) (HA.out.gr ((Gr.refl _).drewN d)) (HX1.out.gr ((Gr.refl _).drewN d))
          clear t1 t2 t3 hge c s1 s2 hq1
          generalize cmpN (A % (B * 2 ^ (K + 1))) (B * 2 ^ K) = cv at *
          generalize hQQ : A / (B * 2 ^ (K + 1)) = Q at *
          have hQ3 : (Q : Int) * 2 < 18446744073709551616 := by have := HQ2.out; omega
          have HOr : Hid (bits .or .u64 ((Q : Int) * 2) 1 = ((2 * Q + 1 : Nat) : Int)) := by
            show _ = _
            have := or_one Q (by have := HQ2.out; omega)
            rwa [show ((2 * Q : Nat) : Int) = (Q : Int) * 2 by omega] at this
          clear hQQ
          have HH : Hid (∀ w2, Gr wr w2 → Calls Tryd.prog 94 #[vx] w2 fun e w' => (∃ x, e = .returned x ∧ NatAt w' x (B * 2 ^ K / 2)) ∧ Gr w2 w') := fun w2 g => half_any vx _ w2 (HX1.out.gr g)
          go_wp2_with fail
          refine HC.out.mono ?_
          rintro e w' ⟨rfl, d, rfl⟩
          go_wp2_with fail
          refine (HSub.out d).mono ?_
          rintro e w2 ⟨⟨x1, rfl, hx1⟩, hg2⟩
          have G2 : Hid (Gr wr w2) := ((Gr.refl _).drewN d).trans hg2
          have X1 : Hid (NatAt w2 x1 (A % (B * 2 ^ (K + 1)) - B * 2 ^ K)) := hx1
          clear hx1 hg2
          go_wp2_with (simp only [HOr.out])
          refine (HH.out w2 G2.out).mono ?_
          rintro e w3 ⟨⟨x2, rfl, hx2⟩, hg3⟩
          have G3 : Hid (Gr w2 w3) := hg3
          have X2 : Hid (NatAt w3 x2 (B * 2 ^ K / 2)) := hx2
          clear hx2 hg3
          go_wp2
          go_roundw
          case rel => exact ⟨K, x1, x2, rfl, by rw [HS2.out]; exact X1.out.gr G3.out, by rw [HS1.out, show ((2 * Q + 1 : Nat) : Int) = 2 * (Q : Int) + 1 by omega], by rw [show wrap64 ((K : Int) - 1) = (K : Int) - 1 by have := HKB.out; unfold wrap64; omega], rfl, X2.out, (HG.out.trans G2.out).trans G3.out, by have := HKB.out; omega⟩
          case measure =>
            have := HKB.out
            simp only [intOf]
            unfold wrap64
            omega
        · have hc0 : cmpN (A % (B * 2 ^ (K + 1))) (B * 2 ^ K) < 0 := by
            have := mt hge.1 c
            omega
          obtain ⟨s1, s2⟩ := t2 (by omega)
          have HS1 : Hid (A / (B * 2 ^ K) = 2 * (A / (B * 2 ^ (K + 1)))) := s1
          have HS2 : Hid (A % (B * 2 ^ K) = A % (B * 2 ^ (K + 1))) := s2
          have hq1 : A / (B * 2 ^ K) < 18446744073709551616 := Nat.lt_of_le_of_lt (HLE.out K) HQ.out
          have HQ2 : Hid (2 * (A / (B * 2 ^ (K + 1))) < 18446744073709551616) := by show _ < _; rw [← s1]; exact hq1
          have HH : Hid (∀ w2, Gr wr w2 → Calls Tryd.prog 94 #[vx] w2 fun e w' => (∃ x, e = .returned x ∧ NatAt w' x (B * 2 ^ K / 2)) ∧ Gr w2 w') := fun w2 g => half_any vx _ w2 (HX1.out.gr g)
          clear t1 t2 t3 hge c s1 s2 hq1
          generalize cmpN (A % (B * 2 ^ (K + 1))) (B * 2 ^ K) = cv at *
          generalize hQQ : A / (B * 2 ^ (K + 1)) = Q at *
          have hQ3 : (Q : Int) * 2 < 18446744073709551616 := by have := HQ2.out; omega
          clear hQQ
          go_wp2_with fail
          refine HC.out.mono ?_
          rintro e w' ⟨rfl, d, rfl⟩
          have G2 : Hid (Gr wr (wr.drewN d)) := (Gr.refl _).drewN d
          clear hQ3
          go_wp2_with fail
          refine (HH.out _ G2.out).mono ?_
          rintro e w3 ⟨⟨x2, rfl, hx2⟩, hg3⟩
          have G3 : Hid (Gr (wr.drewN d) w3) := hg3
          have X2 : Hid (NatAt w3 x2 (B * 2 ^ K / 2)) := hx2
          clear hx2 hg3
          go_wp2
          go_roundw
          case rel => exact ⟨K, va, x2, rfl, by rw [HS2.out]; exact (HA.out.gr G2.out).gr G3.out, by rw [HS1.out, show ((2 * Q : Nat) : Int) = (Q : Int) * 2 by omega], by rw [show wrap64 ((K : Int) - 1) = (K : Int) - 1 by have := HKB.out; unfold wrap64; omega], rfl, X2.out, (HG.out.trans G2.out).trans G3.out, by have := HKB.out; omega⟩
          case measure =>
            have := HKB.out
            simp only [intOf]
            unfold wrap64
            omega
end Go.Proofs.YtckjmcfncfoboaaDoor
