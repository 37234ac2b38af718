/- up, size, beside. -/
import Derived.Test.YtckjmcfncfoboaaDoorNq
import Derived.Test.YtckjmcfncfoboaaDoorRw
import Derived.Deep.RegionWith
namespace Go.Proofs.YtckjmcfncfoboaaDoor
open Go.RowKit

set_option maxHeartbeats 1000000 in
theorem up_any (mode : Int) (neg odd : Bool) (half : Int) (hh : half = -1 ∨ half = 0 ∨ half = 1) (w : World) :
    Calls Tryd.prog 87 #[.int .i64 mode, .bool neg, .bool odd, .int .i64 half] w fun e w' => e = .returned (.bool (awy mode neg odd half)) ∧ w' = w := by
  have hr : Hid (awy mode neg odd half = if mode = 1 then decide (0 < half) || (decide (half = 0) && odd) else if mode = 2 then decide (0 ≤ half) else if mode = 3 then !neg else if mode = 4 then neg else if mode = 6 then !odd else false) := rfl
  generalize awy mode neg odd half = r at *
  rcases mode_cases mode with (rfl | rfl | rfl | rfl | rfl) | ⟨h4, h3, h1, h2, h6⟩
  · rcases hh with rfl | rfl | rfl <;> cases odd
    all_goals
      go_enter Tryd.func87, Tryd.ntmps87
      go_wp2
      go_ret
      exact ⟨ret_bool hr.out.symm, rfl⟩
  · rcases hh with rfl | rfl | rfl
    all_goals
      go_enter Tryd.func87, Tryd.ntmps87
      go_wp2
      go_ret
      exact ⟨ret_bool hr.out.symm, rfl⟩
  · clear hh
    go_enter Tryd.func87, Tryd.ntmps87
    go_wp2
    go_ret
    exact ⟨ret_bool hr.out.symm, rfl⟩
  · clear hh
    go_enter Tryd.func87, Tryd.ntmps87
    go_wp2
    go_ret
    exact ⟨ret_bool hr.out.symm, rfl⟩
  · clear hh
    go_enter Tryd.func87, Tryd.ntmps87
    go_wp2
    go_ret
    exact ⟨ret_bool hr.out.symm, rfl⟩
  · clear hh
    have hf : Hid (r = false) := by
      have := hr.out
      simp only [beq_eq_false_iff_ne, ne_eq] at h1 h2 h3 h4 h6
      rw [if_neg h1, if_neg h2, if_neg h3, if_neg h4, if_neg h6] at this
      exact this
    clear hr
    go_enter Tryd.func87, Tryd.ntmps87
    go_wp2
    go_ret
    exact ⟨ret_bool hf.out.symm, rfl⟩


theorem results_three {fn : Func} {t u v : Tmp} (h : fn.results = #[.tmp t, .tmp u, .tmp v]) (tmps : Array Value) (P : Program) (w : World) :
    (results fn tmps).run P w = .ok (.tuple #[tmps.getD t undef, tmps.getD u undef, tmps.getD v undef]) w := by
  simp [results, h]
theorem ret3 {a b c a' b' c' : Value} (h1 : a = a') (h2 : b = b') (h3 : c = c') : Ending.returned (.tuple #[a, b, c]) = .returned (.tuple #[a', b', c']) := by rw [h1, h2, h3]

/-- The value of a Value: its sign, numerator, denominator, exponent; no root. -/
def valV (neg : Bool) (num den : Value) (E : Int) : Value := .agg #[.bool neg, num, den, .int .i64 E, .bool false]

set_option maxHeartbeats 1000000 in
theorem size_core (neg : Bool) (num den : Value) (E lA lD : Int) (hA0 : 0 ≤ lA) (hA1 : lA < 10000) (hD0 : 0 ≤ lD) (hD1 : lD < 10000) (hE0 : -10000 < E) (hE1 : E < 10000)
    (w : World)
    (H1 : Hid (∀ w', Gr w w' → Calls Tryd.prog 91 #[num] w' fun e w'' => e = .returned (.int .i64 lA) ∧ w'' = w'))
    (H2 : Hid (∀ w', Gr w w' → Calls Tryd.prog 91 #[den] w' fun e w'' => e = .returned (.int .i64 lD) ∧ w'' = w')) :
    Calls Tryd.prog 85 #[.agg #[.bool neg, num, den, .int .i64 E, .bool false]] w fun e w' => e = .returned (.int .i64 (lA - lD + E)) ∧ Gr w w' := by
  have G0 : Hid (Gr w (w.alloc (.cells #[.bool neg, num, den, .int .i64 E, .bool false] 96))) := (Gr.refl w).alloc _ _
  go_enter Tryd.func85, Tryd.ntmps85
  go_wp2
  go_quiet (first | (go_at_call_of 91 num; refine Calls.quiet_of_same (H1.out _ (G0.out.drewN _))) | (go_at_call_of 91 den; refine Calls.quiet_of_same (H2.out _ (G0.out.drewN _))))
  go_wp2
  go_ret
  exact ⟨rfl, G0.out.drewN _⟩
theorem size_any (neg : Bool) (num den : Value) (E : Int) (A D : Nat) (w : World) (hA : NatAt w num A) (hD : NatAt w den D) (hA1 : blen A < 10000) (hD1 : blen D < 10000) (hE0 : -10000 < E) (hE1 : E < 10000) :
    Calls Tryd.prog 85 #[.agg #[.bool neg, num, den, .int .i64 E, .bool false]] w fun e w' => e = .returned (.int .i64 ((blen A : Int) - blen D + E)) ∧ Gr w w' :=
  size_core neg num den E (blen A) (blen D) (by omega) (by omega) (by omega) (by omega) hE0 hE1 w (fun w' g => len_any num A w' (hA.gr g)) (fun w' g => len_any den D w' (hD.gr g))

/-- So many bits at most. -/
def bigA : Nat := 32000
/-- What beside reckons of num / den 2^s. -/
def bsN (A : Nat) (s : Int) : Nat := A * 2 ^ s.toNat
def bsD (D : Nat) (s : Int) : Nat := D * 2 ^ (-s).toNat

theorem natAt_len {w : World} {v : Value} {N : Nat} (h : NatAt w v N) : ∃ (a : Option Addr) (n cap : Nat), v = .slice a n cap ∧ ((n : Int) == 0) = decide (N = 0) := by
  obtain ⟨a, n, cap, f, e, _, hd, hl, hv, _⟩ := h
  refine ⟨a, n, cap, e, ?_⟩
  rw [Bool.eq_iff_iff, beq_iff_eq, decide_eq_true_eq]
  constructor
  · intro c
    have : n = 0 := by omega
    subst this
    exact hv.symm
  · intro c
    by_cases h0 : n = 0
    · omega
    · obtain ⟨m, rfl⟩ : ∃ m, n = m + 1 := ⟨n - 1, by omega⟩
      have h1 : f m ≠ 0 := hl (by omega)
      have h2 : fval f (m + 1) = fval f m + f m * 2 ^ (32 * m) := rfl
      have h3 : 1 * 2 ^ (32 * m) ≤ f m * 2 ^ (32 * m) := Nat.mul_le_mul_right _ (by omega)
      have := Nat.two_pow_pos (32 * m)
      omega

/-- beside, its shift done: from the quotient on. -/
theorem bs_bound (A n : Nat) (hA : A < 2 ^ bigA) (hn : n < 20000) : blen (A * 2 ^ n) < 2000000 ∧ A * 2 ^ n < 2 ^ (32 * kk) := by
  have h1 : A * 2 ^ n < 2 ^ bigA * 2 ^ n := Nat.mul_lt_mul_of_pos_right hA (Nat.two_pow_pos n)
  rw [← Nat.pow_add] at h1
  constructor
  · unfold blen
    split
    · decide
    · rename_i h
      have := (Nat.log2_lt h).2 h1
      unfold bigA at this
      omega
  · exact Nat.lt_of_lt_of_le h1 (Nat.pow_le_pow_right (by decide) (by unfold bigA kk; omega))

set_option maxHeartbeats 4000000 in
theorem beside_any (neg : Bool) (num den : Value) (E e : Int) (A D : Nat) (w : World) (hA : NatAt w num A) (hD : NatAt w den D) (hD0 : 0 < D) (hE0 : -10000 < E) (hE1 : E < 10000) (he0 : -10000 < e) (he1 : e < 10000)
    (hAl : A < 2 ^ bigA) (hDl : D < 2 ^ bigA) (hq : bsN A (E - e) / bsD D (E - e) < 18446744073709551616) :
    Calls Tryd.prog 86 #[.agg #[.bool neg, num, den, .int .i64 E, .bool false], .int .i64 e] w fun ee w' =>
      ee = .returned (.tuple #[.int .u64 (bsN A (E - e) / bsD D (E - e) : Nat), .int .i64 (cmpN (bsN A (E - e) % bsD D (E - e) * 2) (bsD D (E - e))), .bool (decide (bsN A (E - e) % bsD D (E - e) = 0))]) ∧ Gr w w' := by
  have G0 : Hid (Gr w (w.alloc (.cells #[.bool neg, num, den, .int .i64 E, .bool false] 96))) := (Gr.refl w).alloc _ _
  have HA : Hid (NatAt w num A) := hA
  have HD : Hid (NatAt w den D) := hD
  have hN0 : 0 < bsD D (E - e) := Nat.mul_pos hD0 (Nat.two_pow_pos _)
  have hbN := bs_bound A (E - e).toNat hAl (by omega)
  have hbD := bs_bound D (-(E - e)).toNat hDl (by omega)
  have hbR : bsN A (E - e) % bsD D (E - e) < 2 ^ (32 * kk) := Nat.lt_trans (Nat.mod_lt _ hN0) hbD.2
  -- what follows, once the two are shifted
  have TAIL : Hid (∀ w1 n d, Gr w w1 → NatAt w1 n (bsN A (E - e)) → NatAt w1 d (bsD D (E - e)) → Calls Tryd.prog 93 #[n, d] w1 fun e' w' => (∃ x, e' = .returned (.tuple #[.int .u64 (bsN A (E - e) / bsD D (E - e) : Nat), x]) ∧ NatAt w' x (bsN A (E - e) % bsD D (E - e))) ∧ Gr w1 w') :=
    fun w1 n d _ h1 h2 => quo_any n d _ _ hN0 hq hbD.2 hbN.1 w1 h1 h2
  have LEFT1 : Hid (∀ w1 x, NatAt w1 x (bsN A (E - e) % bsD D (E - e)) → Calls Tryd.prog 60 #[x, .int .i64 1] w1 fun e' w' => (∃ u, e' = .returned u ∧ NatAt w' u (bsN A (E - e) % bsD D (E - e) * 2)) ∧ Gr w1 w') :=
    fun w1 x h => left_any x _ 1 1 rfl (by decide) hbR w1 h
  have CMP : Hid (∀ w1 x d, NatAt w1 x (bsN A (E - e) % bsD D (E - e) * 2) → NatAt w1 d (bsD D (E - e)) → Calls Tryd.prog 63 #[x, d] w1 fun e' w' => e' = .returned (.int .i64 (cmpN (bsN A (E - e) % bsD D (E - e) * 2) (bsD D (E - e)))) ∧ ∃ k, w' = w1.drewN k) :=
    fun w1 x d h1 h2 => cmp_any x d _ _ w1 h1 h2
  by_cases hs : 0 ≤ E - e
  · have hD1 : bsD D (E - e) = D := by unfold bsD; rw [show (-(E - e)).toNat = 0 by omega, Nat.pow_zero, Nat.mul_one]
    have HL : Hid (∀ w1, Gr w w1 → Calls Tryd.prog 60 #[num, .int .i64 (E - e)] w1 fun e' w' => (∃ u, e' = .returned u ∧ NatAt w' u (bsN A (E - e))) ∧ Gr w1 w') :=
      fun w1 g => left_any num A (E - e).toNat (E - e) (by omega) (by omega) (Nat.lt_of_lt_of_le hAl (Nat.pow_le_pow_right (by decide) (by unfold bigA kk; decide))) w1 (HA.out.gr g)
    have HD' : Hid (∀ w1, Gr w w1 → NatAt w1 den (bsD D (E - e))) := fun w1 g => by rw [hD1]; exact HD.out.gr g
    clear hA hD hN0 hbN hbD hbR hq hAl hDl hD1 hD0
    generalize bsN A (E - e) / bsD D (E - e) = q at *
    generalize bsN A (E - e) % bsD D (E - e) = r at *
    generalize bsN A (E - e) = NN at *
    generalize bsD D (E - e) = DD at *
    go_enter Tryd.func86, Tryd.ntmps86
    go_wp2_with fail
    refine (HL.out _ G0.out).mono ?_
    rintro e' w1 ⟨⟨n1, rfl, hn1⟩, hg1⟩
    have G1 : Hid (Gr w w1) := G0.out.trans hg1
    have N1 : Hid (NatAt w1 n1 NN) := hn1
    have C1 : w1.cell? ⟨w.heap.size, 4, none⟩ = some (.bool false) := hg1.cell (by show w.heap.size < (w.heap.push _).size; simp) (by rw [World.cell?_alloc_at _ _ _ _ rfl]; rfl)
    clear hn1 hg1
    go_wp2_with fail
    refine (TAIL.out w1 n1 den G1.out N1.out (HD'.out w1 G1.out)).mono ?_
    rintro e' w2 ⟨⟨x, rfl, hx⟩, hg2⟩
    have G2 : Hid (Gr w w2) := G1.out.trans hg2
    have X2 : Hid (NatAt w2 x r) := hx
    clear hx hg2 C1
    go_wp2_with fail
    refine (LEFT1.out w2 x X2.out).mono ?_
    rintro e' w3 ⟨⟨y, rfl, hy⟩, hg3⟩
    have G3 : Hid (Gr w w3) := G2.out.trans hg3
    have Y3 : Hid (NatAt w3 y (r * 2)) := hy
    have X3 : Hid (NatAt w3 x r) := X2.out.gr hg3
    clear hy hg3
    go_wp2_with fail
    refine (CMP.out w3 y den Y3.out (HD'.out w3 G3.out)).mono ?_
    rintro e' w' ⟨rfl, k, rfl⟩
    obtain ⟨a, m, cap, rfl, _hm⟩ := natAt_len X3.out
    go_wp2
    refine bodyPost_ret (results_three rfl _ _ _) rfl ?_
    exact ⟨ret3 rfl rfl rfl, G3.out.drewN k⟩
  · have hN1 : bsN A (E - e) = A := by unfold bsN; rw [show (E - e).toNat = 0 by omega, Nat.pow_zero, Nat.mul_one]
    have hs' : E - e < 0 := by omega
    have HL : Hid (∀ w1, Gr w w1 → Calls Tryd.prog 60 #[den, .int .i64 (-(E - e))] w1 fun e' w' => (∃ u, e' = .returned u ∧ NatAt w' u (bsD D (E - e))) ∧ Gr w1 w') :=
      fun w1 g => left_any den D (-(E - e)).toNat (-(E - e)) (by omega) (by omega) (Nat.lt_of_lt_of_le hDl (Nat.pow_le_pow_right (by decide) (by unfold bigA kk; decide))) w1 (HD.out.gr g)
    have HA' : Hid (∀ w1, Gr w w1 → NatAt w1 num (bsN A (E - e))) := fun w1 g => by rw [hN1]; exact HA.out.gr g
    clear hA hD hN0 hbN hbD hbR hq hAl hDl hN1 hD0 hs
    generalize bsN A (E - e) / bsD D (E - e) = q at *
    generalize bsN A (E - e) % bsD D (E - e) = r at *
    generalize bsN A (E - e) = NN at *
    generalize bsD D (E - e) = DD at *
    go_enter Tryd.func86, Tryd.ntmps86
    go_wp2_with fail
    refine (HL.out _ G0.out).mono ?_
    rintro e' w1 ⟨⟨d1, rfl, hd1⟩, hg1⟩
    have G1 : Hid (Gr w w1) := G0.out.trans hg1
    have N1 : Hid (NatAt w1 d1 DD) := hd1
    have C1 : w1.cell? ⟨w.heap.size, 4, none⟩ = some (.bool false) := hg1.cell (by show w.heap.size < (w.heap.push _).size; simp) (by rw [World.cell?_alloc_at _ _ _ _ rfl]; rfl)
    clear hd1 hg1
    go_wp2_with fail
    refine (TAIL.out w1 num d1 G1.out (HA'.out w1 G1.out) N1.out).mono ?_
    rintro e' w2 ⟨⟨x, rfl, hx⟩, hg2⟩
    have G2 : Hid (Gr w w2) := G1.out.trans hg2
    have X2 : Hid (NatAt w2 x r) := hx
    have D2 : Hid (NatAt w2 d1 DD) := N1.out.gr hg2
    clear hx hg2 C1
    go_wp2_with fail
    refine (LEFT1.out w2 x X2.out).mono ?_
    rintro e' w3 ⟨⟨y, rfl, hy⟩, hg3⟩
    have G3 : Hid (Gr w w3) := G2.out.trans hg3
    have Y3 : Hid (NatAt w3 y (r * 2)) := hy
    have X3 : Hid (NatAt w3 x r) := X2.out.gr hg3
    have D3 : Hid (NatAt w3 d1 DD) := D2.out.gr hg3
    clear hy hg3
    go_wp2_with fail
    refine (CMP.out w3 y d1 Y3.out D3.out).mono ?_
    rintro e' w' ⟨rfl, k, rfl⟩
    obtain ⟨a, m, cap, rfl, _hm⟩ := natAt_len X3.out
    go_wp2
    refine bodyPost_ret (results_three rfl _ _ _) rfl ?_
    exact ⟨ret3 rfl rfl rfl, G3.out.drewN k⟩
end Go.Proofs.YtckjmcfncfoboaaDoor
