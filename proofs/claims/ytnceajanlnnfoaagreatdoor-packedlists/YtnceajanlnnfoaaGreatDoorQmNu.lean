/- up, size, beside. Cells of a variable that stay. Of lays its digits anew; a number's digits stand where another variable is written. What To's answer comes to: a front of the kind's bits at the place of its last digit. No walk here. To's last statement, in a frame of its own: the two results laid. The document's kinds, bits of a float, and whole numbers rounded to a kind. The document's IsNaN, One, split, Widen and Next of singles, and the program's Next of any. -/
import Derived.Test.YtnceajanlnnfoaaGreatDoorQmNm
import Derived.Test.YtnceajanlnnfoaaGreatDoorQmSb
import Derived.Deep.RegionWith
import Derived.Deep.CutRange
import Derived.Deep.DeepCutAuto
import Derived.Test.YtnceajanlnnfoaaGreatDoorQmWl
namespace Go.Proofs.YtnceajanlnnfoaaGreatDoor
open Go.RowKit
set_option maxHeartbeats 1000000 in
theorem up_any (mode : Int) (neg odd : Bool) (half : Int) (hh : half = -1 ∨ half = 0 ∨ half = 1) (w : World) :
    Calls Tryz.prog 155 #[.int .i64 mode, .bool neg, .bool odd, .int .i64 half] w fun e w' => e = .returned (.bool (awy mode neg odd half)) ∧ w' = w := by
  have hr : Hid (awy mode neg odd half = if mode = 1 then decide (0 < half) || (decide (half = 0) && odd) else if mode = 2 then decide (0 ≤ half) else if mode = 3 then !neg else if mode = 4 then neg else if mode = 6 then !odd else false) := rfl
  generalize awy mode neg odd half = r at *
  rcases mode_cases mode with (rfl | rfl | rfl | rfl | rfl) | ⟨h4, h3, h1, h2, h6⟩
  · rcases hh with rfl | rfl | rfl <;> cases odd
    all_goals
      go_enter Tryz.func155, Tryz.ntmps155
      go_wp2
      go_ret
      exact ⟨ret_bool hr.out.symm, rfl⟩
  · rcases hh with rfl | rfl | rfl
    all_goals
      go_enter Tryz.func155, Tryz.ntmps155
      go_wp2
      go_ret
      exact ⟨ret_bool hr.out.symm, rfl⟩
  · clear hh
    go_enter Tryz.func155, Tryz.ntmps155
    go_wp2
    go_ret
    exact ⟨ret_bool hr.out.symm, rfl⟩
  · clear hh
    go_enter Tryz.func155, Tryz.ntmps155
    go_wp2
    go_ret
    exact ⟨ret_bool hr.out.symm, rfl⟩
  · clear hh
    go_enter Tryz.func155, Tryz.ntmps155
    go_wp2
    go_ret
    exact ⟨ret_bool hr.out.symm, rfl⟩
  · clear hh
    have hf : Hid (r = false) := by
      have := hr.out
      simp only [beq_eq_false_iff_ne, ne_eq] at h1 h2 h3 h4 h6
      rw [if_neg h1, if_neg h2, if_neg h3, if_neg h4, if_neg h6] at this
      exact this
    clear hr
    go_enter Tryz.func155, Tryz.ntmps155
    go_wp2
    go_ret
    exact ⟨ret_bool hf.out.symm, rfl⟩
theorem results_threeN {fn : Func} {t u v : Tmp} (h : fn.results = #[.tmp t, .tmp u, .tmp v]) (tmps : Array Value) (P : Program) (w : World) :
    (results fn tmps).run P w = .ok (.tuple #[tmps.getD t undef, tmps.getD u undef, tmps.getD v undef]) w := by
  simp [results, h]
theorem ret3 {a b c a' b' c' : Value} (h1 : a = a') (h2 : b = b') (h3 : c = c') : Ending.returned (.tuple #[a, b, c]) = .returned (.tuple #[a', b', c']) := by rw [h1, h2, h3]
set_option maxHeartbeats 1000000 in
theorem size_core (neg : Bool) (num den : Value) (E lA lD : Int) (hA0 : 0 ≤ lA) (hA1 : lA < 10000) (hD0 : 0 ≤ lD) (hD1 : lD < 10000) (hE0 : -10000 < E) (hE1 : E < 10000)
    (w : World)
    (H1 : Hid (∀ w', Gr w w' → Calls Tryz.prog 180 #[num] w' fun e w'' => e = .returned (.int .i64 lA) ∧ w'' = w'))
    (H2 : Hid (∀ w', Gr w w' → Calls Tryz.prog 180 #[den] w' fun e w'' => e = .returned (.int .i64 lD) ∧ w'' = w')) :
    Calls Tryz.prog 153 #[.agg #[.bool neg, num, den, .int .i64 E, .bool false]] w fun e w' => e = .returned (.int .i64 (lA - lD + E)) ∧ Gr w w' := by
  have G0 : Hid (Gr w (w.alloc (.cells #[.bool neg, num, den, .int .i64 E, .bool false] 177))) := (Gr.refl w).alloc _ _
  go_enter Tryz.func153, Tryz.ntmps153
  go_wp2
  go_quiet (first | (go_at_call_of 180 num; refine Calls.quiet_of_same (H1.out _ (G0.out.drewN _))) | (go_at_call_of 180 den; refine Calls.quiet_of_same (H2.out _ (G0.out.drewN _))))
  go_wp2
  go_ret
  exact ⟨rfl, G0.out.drewN _⟩
theorem size_any (neg : Bool) (num den : Value) (E : Int) (A D : Nat) (w : World) (hA : NatAt w num A) (hD : NatAt w den D) (hA1 : blen A < 10000) (hD1 : blen D < 10000) (hE0 : -10000 < E) (hE1 : E < 10000) :
    Calls Tryz.prog 153 #[.agg #[.bool neg, num, den, .int .i64 E, .bool false]] w fun e w' => e = .returned (.int .i64 ((blen A : Int) - blen D + E)) ∧ Gr w w' :=
  size_core neg num den E (blen A) (blen D) (by omega) (by omega) (by omega) (by omega) hE0 hE1 w (fun w' g => len_any num A w' (hA.gr g)) (fun w' g => len_any den D w' (hD.gr g))
def bigA : Nat := 32000
def bsN (A : Nat) (s : Int) : Nat := A * 2 ^ s.toNat
def bsD (D : Nat) (s : Int) : Nat := D * 2 ^ (-s).toNat
theorem natAt_len {w : World} {v : Value} {N : Nat} (h : NatAt w v N) : ∃ (a : Option Addr) (n cap : Nat), v = .slice a n cap ∧ ((n : Int) == 0) = decide (N = 0) := by
  obtain ⟨a, n, cap, f, e, _, hd, hl, hv, _⟩ := h
  refine ⟨a, n, cap, e, ?_⟩
  rw [Bool.eq_iff_iff, beq_iff_eq, decide_eq_true_eq]
  constructor
  · intro c
    have : n = 0 := by omega
    subst this
    exact hv.symm
  · intro c
    by_cases h0 : n = 0
    · omega
    · obtain ⟨m, rfl⟩ : ∃ m, n = m + 1 := ⟨n - 1, by omega⟩
      have h1 : f m ≠ 0 := hl (by omega)
      have h2 : fval f (m + 1) = fval f m + f m * 2 ^ (32 * m) := rfl
      have h3 : 1 * 2 ^ (32 * m) ≤ f m * 2 ^ (32 * m) := Nat.mul_le_mul_right _ (by omega)
      have := Nat.two_pow_pos (32 * m)
      omega
theorem bs_bound (A n : Nat) (hA : A < 2 ^ bigA) (hn : n < 20000) : blen (A * 2 ^ n) < 2000000 ∧ A * 2 ^ n < 2 ^ (32 * kk) := by
  have h1 : A * 2 ^ n < 2 ^ bigA * 2 ^ n := Nat.mul_lt_mul_of_pos_right hA (Nat.two_pow_pos n)
  rw [← Nat.pow_add] at h1
  constructor
  · unfold blen
    split
    · decide
    · rename_i h
      have := (Nat.log2_lt h).2 h1
      unfold bigA at this
      omega
  · exact Nat.lt_of_lt_of_le h1 (Nat.pow_le_pow_right (by decide) (by unfold bigA kk; omega))
set_option maxHeartbeats 4000000 in
theorem beside_any (neg : Bool) (num den : Value) (E e : Int) (A D : Nat) (w : World) (hA : NatAt w num A) (hD : NatAt w den D) (hD0 : 0 < D) (hE0 : -10000 < E) (hE1 : E < 10000) (he0 : -10000 < e) (he1 : e < 10000)
    (hAl : A < 2 ^ bigA) (hDl : D < 2 ^ bigA) (hq : bsN A (E - e) / bsD D (E - e) < 18446744073709551616) :
    Calls Tryz.prog 154 #[.agg #[.bool neg, num, den, .int .i64 E, .bool false], .int .i64 e] w fun ee w' =>
      ee = .returned (.tuple #[.int .u64 (bsN A (E - e) / bsD D (E - e) : Nat), .int .i64 (cmpN (bsN A (E - e) % bsD D (E - e) * 2) (bsD D (E - e))), .bool (decide (bsN A (E - e) % bsD D (E - e) = 0))]) ∧ Gr w w' := by
  have G0 : Hid (Gr w (w.alloc (.cells #[.bool neg, num, den, .int .i64 E, .bool false] 177))) := (Gr.refl w).alloc _ _
  have HA : Hid (NatAt w num A) := hA
  have HD : Hid (NatAt w den D) := hD
  have hN0 : 0 < bsD D (E - e) := Nat.mul_pos hD0 (Nat.two_pow_pos _)
  have hbN := bs_bound A (E - e).toNat hAl (by omega)
  have hbD := bs_bound D (-(E - e)).toNat hDl (by omega)
  have hbR : bsN A (E - e) % bsD D (E - e) < 2 ^ (32 * kk) := Nat.lt_trans (Nat.mod_lt _ hN0) hbD.2
  -- what follows, once the two are shifted
  have TAIL : Hid (∀ w1 n d, Gr w w1 → NatAt w1 n (bsN A (E - e)) → NatAt w1 d (bsD D (E - e)) → Calls Tryz.prog 183 #[n, d] w1 fun e' w' => (∃ x, e' = .returned (.tuple #[.int .u64 (bsN A (E - e) / bsD D (E - e) : Nat), x]) ∧ NatAt w' x (bsN A (E - e) % bsD D (E - e))) ∧ Gr w1 w') :=
    fun w1 n d _ h1 h2 => quo_any n d _ _ hN0 hq hbD.2 hbN.1 w1 h1 h2
  have LEFT1 : Hid (∀ w1 x, NatAt w1 x (bsN A (E - e) % bsD D (E - e)) → Calls Tryz.prog 181 #[x, .int .i64 1] w1 fun e' w' => (∃ u, e' = .returned u ∧ NatAt w' u (bsN A (E - e) % bsD D (E - e) * 2)) ∧ Gr w1 w') :=
    fun w1 x h => left_any x _ 1 1 rfl (by decide) hbR w1 h
  have CMP : Hid (∀ w1 x d, NatAt w1 x (bsN A (E - e) % bsD D (E - e) * 2) → NatAt w1 d (bsD D (E - e)) → Calls Tryz.prog 184 #[x, d] w1 fun e' w' => e' = .returned (.int .i64 (cmpN (bsN A (E - e) % bsD D (E - e) * 2) (bsD D (E - e)))) ∧ ∃ k, w' = w1.drewN k) :=
    fun w1 x d h1 h2 => cmp_any x d _ _ w1 h1 h2
  by_cases hs : 0 ≤ E - e
  · have hD1 : bsD D (E - e) = D := by unfold bsD; rw [show (-(E - e)).toNat = 0 by omega, Nat.pow_zero, Nat.mul_one]
    have HL : Hid (∀ w1, Gr w w1 → Calls Tryz.prog 181 #[num, .int .i64 (E - e)] w1 fun e' w' => (∃ u, e' = .returned u ∧ NatAt w' u (bsN A (E - e))) ∧ Gr w1 w') :=
      fun w1 g => left_any num A (E - e).toNat (E - e) (by omega) (by omega) (Nat.lt_of_lt_of_le hAl (Nat.pow_le_pow_right (by decide) (by unfold bigA kk; decide))) w1 (HA.out.gr g)
    have HD' : Hid (∀ w1, Gr w w1 → NatAt w1 den (bsD D (E - e))) := fun w1 g => by rw [hD1]; exact HD.out.gr g
    clear hA hD hN0 hbN hbD hbR hq hAl hDl hD1 hD0
    generalize bsN A (E - e) / bsD D (E - e) = q at *
    generalize bsN A (E - e) % bsD D (E - e) = r at *
    generalize bsN A (E - e) = NN at *
    generalize bsD D (E - e) = DD at *
    go_enter Tryz.func154, Tryz.ntmps154
    go_wp2_with fail
    refine (HL.out _ G0.out).mono ?_
    rintro e' w1 ⟨⟨n1, rfl, hn1⟩, hg1⟩
    have G1 : Hid (Gr w w1) := G0.out.trans hg1
    have N1 : Hid (NatAt w1 n1 NN) := hn1
    have C1 : w1.cell? ⟨w.heap.size, 4, none⟩ = some (.bool false) := hg1.cell (by show w.heap.size < (w.heap.push _).size; simp) (by rw [World.cell?_alloc_at _ _ _ _ rfl]; rfl)
    clear hn1 hg1
    go_wp2_with fail
    refine (TAIL.out w1 n1 den G1.out N1.out (HD'.out w1 G1.out)).mono ?_
    rintro e' w2 ⟨⟨x, rfl, hx⟩, hg2⟩
    have G2 : Hid (Gr w w2) := G1.out.trans hg2
    have X2 : Hid (NatAt w2 x r) := hx
    clear hx hg2 C1
    go_wp2_with fail
    refine (LEFT1.out w2 x X2.out).mono ?_
    rintro e' w3 ⟨⟨y, rfl, hy⟩, hg3⟩
    have G3 : Hid (Gr w w3) := G2.out.trans hg3
    have Y3 : Hid (NatAt w3 y (r * 2)) := hy
    have X3 : Hid (NatAt w3 x r) := X2.out.gr hg3
    clear hy hg3
    go_wp2_with fail
    refine (CMP.out w3 y den Y3.out (HD'.out w3 G3.out)).mono ?_
    rintro e' w' ⟨rfl, k, rfl⟩
    obtain ⟨a, m, cap, rfl, _hm⟩ := natAt_len X3.out
    go_wp2
    refine bodyPost_ret (results_threeN rfl _ _ _) rfl ?_
    exact ⟨ret3 rfl rfl rfl, G3.out.drewN k⟩
  · have hN1 : bsN A (E - e) = A := by unfold bsN; rw [show (E - e).toNat = 0 by omega, Nat.pow_zero, Nat.mul_one]
    have hs' : E - e < 0 := by omega
    have HL : Hid (∀ w1, Gr w w1 → Calls Tryz.prog 181 #[den, .int .i64 (-(E - e))] w1 fun e' w' => (∃ u, e' = .returned u ∧ NatAt w' u (bsD D (E - e))) ∧ Gr w1 w') :=
      fun w1 g => left_any den D (-(E - e)).toNat (-(E - e)) (by omega) (by omega) (Nat.lt_of_lt_of_le hDl (Nat.pow_le_pow_right (by decide) (by unfold bigA kk; decide))) w1 (HD.out.gr g)
    have HA' : Hid (∀ w1, Gr w w1 → NatAt w1 num (bsN A (E - e))) := fun w1 g => by rw [hN1]; exact HA.out.gr g
    clear hA hD hN0 hbN hbD hbR hq hAl hDl hN1 hD0 hs
    generalize bsN A (E - e) / bsD D (E - e) = q at *
    generalize bsN A (E - e) % bsD D (E - e) = r at *
    generalize bsN A (E - e) = NN at *
    generalize bsD D (E - e) = DD at *
    go_enter Tryz.func154, Tryz.ntmps154
    go_wp2_with fail
    refine (HL.out _ G0.out).mono ?_
    rintro e' w1 ⟨⟨d1, rfl, hd1⟩, hg1⟩
    have G1 : Hid (Gr w w1) := G0.out.trans hg1
    have N1 : Hid (NatAt w1 d1 DD) := hd1
    have C1 : w1.cell? ⟨w.heap.size, 4, none⟩ = some (.bool false) := hg1.cell (by show w.heap.size < (w.heap.push _).size; simp) (by rw [World.cell?_alloc_at _ _ _ _ rfl]; rfl)
    clear hd1 hg1
    go_wp2_with fail
    refine (TAIL.out w1 num d1 G1.out (HA'.out w1 G1.out) N1.out).mono ?_
    rintro e' w2 ⟨⟨x, rfl, hx⟩, hg2⟩
    have G2 : Hid (Gr w w2) := G1.out.trans hg2
    have X2 : Hid (NatAt w2 x r) := hx
    have D2 : Hid (NatAt w2 d1 DD) := N1.out.gr hg2
    clear hx hg2 C1
    go_wp2_with fail
    refine (LEFT1.out w2 x X2.out).mono ?_
    rintro e' w3 ⟨⟨y, rfl, hy⟩, hg3⟩
    have G3 : Hid (Gr w w3) := G2.out.trans hg3
    have Y3 : Hid (NatAt w3 y (r * 2)) := hy
    have X3 : Hid (NatAt w3 x r) := X2.out.gr hg3
    have D3 : Hid (NatAt w3 d1 DD) := D2.out.gr hg3
    clear hy hg3
    go_wp2_with fail
    refine (CMP.out w3 y d1 Y3.out D3.out).mono ?_
    rintro e' w' ⟨rfl, k, rfl⟩
    obtain ⟨a, m, cap, rfl, _hm⟩ := natAt_len X3.out
    go_wp2
    refine bodyPost_ret (results_threeN rfl _ _ _) rfl ?_
    exact ⟨ret3 rfl rfl rfl, G3.out.drewN k⟩
end Go.Proofs.YtnceajanlnnfoaaGreatDoor
namespace Go.Proofs.YtnceajanlnnfoaaGreatDoor
open Go.RowKit
def Holds (w : World) (b : Nat) (vs : List Value) : Prop := ∀ j v, vs[j]? = some v → w.cell? ⟨b, j, none⟩ = some v ∧ w.frozen? ⟨b, j, none⟩ = false
theorem Holds.gr {w w' : World} {b : Nat} {vs : List Value} (h : Holds w b vs) (g : Gr w w') : Holds w' b vs := fun j v e => ⟨g.cell (cell_lt (h j v e).1) (h j v e).1, by rw [g.froz]; exact (h j v e).2⟩
theorem holds_new (w : World) (vs : Array Value) (t : TypeId) : Holds (w.alloc (.cells vs t)) w.heap.size vs.toList := fun j v e => by
  refine ⟨?_, by rw [frozen?_alloc_cells, frozen_new]⟩
  rw [World.cell?_alloc_at _ _ _ _ rfl, ← Array.getElem?_toList]; exact e
theorem Holds.c0 {w : World} {b : Nat} {v : Value} {r : List Value} (h : Holds w b (v :: r)) : w.cell? ⟨b, 0, none⟩ = some v ∧ w.frozen? ⟨b, 0, none⟩ = false := h 0 v rfl
theorem Holds.c1 {w : World} {b : Nat} {a v : Value} {r : List Value} (h : Holds w b (a :: v :: r)) : w.cell? ⟨b, 1, none⟩ = some v ∧ w.frozen? ⟨b, 1, none⟩ = false := h 1 v rfl
theorem Holds.c2 {w : World} {b : Nat} {a c v : Value} {r : List Value} (h : Holds w b (a :: c :: v :: r)) : w.cell? ⟨b, 2, none⟩ = some v ∧ w.frozen? ⟨b, 2, none⟩ = false := h 2 v rfl
theorem Holds.c3 {w : World} {b : Nat} {a c d v : Value} {r : List Value} (h : Holds w b (a :: c :: d :: v :: r)) : w.cell? ⟨b, 3, none⟩ = some v ∧ w.frozen? ⟨b, 3, none⟩ = false := h 3 v rfl
theorem Holds.c4 {w : World} {b : Nat} {a c d e v : Value} {r : List Value} (h : Holds w b (a :: c :: d :: e :: v :: r)) : w.cell? ⟨b, 4, none⟩ = some v ∧ w.frozen? ⟨b, 4, none⟩ = false := h 4 v rfl
theorem Holds.set {w : World} {b : Nat} {vs : List Value} (h : Holds w b vs) (i : Nat) (v : Value) (hi : i < vs.length) : Holds (w.setCell ⟨b, i, none⟩ v) b (vs.set i v) := fun j u e => by
  refine ⟨?_, by rw [World.frozen?_setCell]; rcases Nat.lt_or_ge j vs.length with c | c; exact (h j vs[j] (by simp [c])).2; simp [c] at e⟩
  by_cases hj : j = i
  · subst hj
    have : u = v := by simpa [List.getElem?_set, hi] using e.symm
    subst this
    exact World.cell?_setCell_same _ _ _ (h j vs[j] (by simp [hi])).1
  · rw [World.cell?_setCell_other _ _ _ _ (by intro c; injection c with _ c2; exact hj c2.symm)]
    refine (h j u ?_).1
    simpa [List.getElem?_set, Ne.symm hj] using e
theorem Holds.oth {w : World} {b : Nat} {vs : List Value} (h : Holds w b vs) (b' i : Nat) (v : Value) (hb : b ≠ b') : Holds (w.setCell ⟨b', i, none⟩ v) b vs := fun j u e => by
  refine ⟨?_, by rw [World.frozen?_setCell]; exact (h j u e).2⟩
  rw [World.cell?_setCell_other _ _ _ _ (by intro c; injection c with c1; exact hb c1.symm)]
  exact (h j u e).1
theorem Holds.drew {w : World} {b : Nat} {vs : List Value} (h : Holds w b vs) : Holds w.drew b vs := h.gr (Gr.refl w).drew
def rndU (mode : Int) (neg : Bool) (q h : Int) (wh : Bool) : Bool := !wh && awy mode neg (q % 2 == 1) h
def ToOut (P T top half : Int) (neg : Bool) (mode q h : Int) (wh : Bool) (e : Int) (vF vG : Value) : Prop :=
  ∃ q1 q2 e2 : Int, (q1 = if rndU mode neg q h wh = true then q + 1 else q) ∧ ((q1 = top ∧ q2 = half ∧ e2 = e + 1) ∨ (q1 ≠ top ∧ q2 = q1 ∧ e2 = e)) ∧
    ((T < e2 + P - 1 ∧ half ≤ q2 ∧ vG = .agg #[.bool true, .bool true, .bool (!wh && decide (q < half))] ∧ vF = (if Rn.far mode neg = true then .agg #[.bool neg, .bool true, .int .u64 0, .int .i64 0] else .agg #[.bool neg, .bool false, .int .u64 (top - 1), .int .i64 (T - P + 1)])) ∨
     (¬ (T < e2 + P - 1 ∧ half ≤ q2) ∧ vG = .agg #[.bool (!wh), .bool false, .bool (!wh && decide (q < half))] ∧ vF = .agg #[.bool neg, .bool false, .int .u64 q2, .int .i64 e2]))
end Go.Proofs.YtnceajanlnnfoaaGreatDoor
namespace Go.Proofs.YtnceajanlnnfoaaGreatDoor
open Go.RowKit
theorem NatAt.put {w : World} {a : Option Addr} {n c N : Nat} (h : NatAt w (.slice a n c) N) (b i : Nat) (v : Value) (hf : ∀ x, a = some x → x.block ≠ b) : NatAt (w.setCell ⟨b, i, none⟩ v) (.slice a n c) N := by
  obtain ⟨a', n', c', f, e, hc, hd, hl, hv, hs⟩ := h
  injection e with e1 e2 e3
  subst e1 e2 e3
  refine ⟨a, n, c, f, rfl, hc, fun hn => ?_, hl, hv, hs⟩
  obtain ⟨b', o, e1, d⟩ := hd hn
  refine ⟨b', o, e1, fun j hj => ⟨?_, (d j hj).2⟩⟩
  rw [World.cell?_setCell_other _ _ _ _ (by intro c; injection c with c1; exact hf _ e1 c1.symm)]
  exact (d j hj).1
set_option maxHeartbeats 1000000 in
theorem of_fresh (n : Nat) (hn : n < 18446744073709551616) (w : World) :
    Calls Tryz.prog 100 #[.int .u64 (n : Int)] w fun e w' => (∃ a m c, e = .returned (.slice a m c) ∧ NatAt w' (.slice a m c) n ∧ ∀ x, a = some x → x.block = w.heap.size) ∧ Gr w w' := by
  have HD : Hid (Dg (w.alloc (.cells #[.int .u32 ((n : Int) % 4294967296), .int .u32 ((n : Int) / 4294967296)] 86)) w.heap.size 0 2 (two n)) := two_dg n hn w
  have HV : Hid (fval (two n) 2 = n) := two_val n
  go_enter Tryz.func100, Tryz.ntmps100
  go_wp2_with (go_at_call 156; refine (trim_core w.heap.size 0 2 2 (two n) (Nat.le_refl _) (by omega) _ HD).mono ?_; rintro e w' ⟨⟨k, hk, rfl, hz, hl⟩, rfl⟩)
  go_ret
  refine ⟨⟨_, _, _, rfl, ⟨some ⟨w.heap.size, 0, none⟩, k, 2, two n, rfl, by omega, fun _ => ⟨_, _, rfl, fun j hj => HD.out j (by omega)⟩, hl, ?_, by omega⟩, ?_⟩, (Gr.refl _).alloc _ _⟩
  · exact (fval_zero (two n) k 2 hk hz).symm.trans HV.out
  · intro x hx; injection hx with hx; rw [← hx]
end Go.Proofs.YtnceajanlnnfoaaGreatDoor
namespace Go.Proofs.YtnceajanlnnfoaaGreatDoor
open Go.RowKit
open Ieee
def qv (A : Nat) (s : Int) : Nat := bsN A s / bsD 1 s
theorem qv_lt (A : Nat) (s : Int) (k : Nat) (h : (A.log2 : Int) + 1 + s ≤ k) : qv A s < 2 ^ k := by
  unfold qv bsN bsD
  rw [Nat.one_mul, Nat.div_lt_iff_lt_mul (Nat.two_pow_pos _), ← Nat.pow_add]
  refine Nat.lt_of_lt_of_le (Nat.mul_lt_mul_of_pos_right (Nat.lt_log2_self (n := A)) (Nat.two_pow_pos _)) ?_
  rw [← Nat.pow_add]
  exact Nat.pow_le_pow_right (by decide) (by omega)
theorem le_qv (A : Nat) (s : Int) (k : Nat) (hA : A ≠ 0) (h : (k : Int) ≤ A.log2 + s) : 2 ^ k ≤ qv A s := by
  unfold qv bsN bsD
  rw [Nat.one_mul, Nat.le_div_iff_mul_le (Nat.two_pow_pos _), ← Nat.pow_add]
  refine Nat.le_trans ?_ (Nat.mul_le_mul_right _ (Nat.log2_self_le hA))
  rw [← Nat.pow_add]
  exact Nat.pow_le_pow_right (by decide) (by omega)
theorem bsD_one (E L : Int) : bsD 1 (E - L) = 2 ^ (L - E).toNat := by
  unfold bsD
  rw [Nat.one_mul, show -(E - L) = L - E by omega]
theorem cmpN_facts (r g : Nat) : (0 < cmpN (r * 2) g ↔ g < 2 * r) ∧ (cmpN (r * 2) g = 0 ↔ g = 2 * r) ∧ (cmpN (r * 2) g = -1 ∨ cmpN (r * 2) g = 0 ∨ cmpN (r * 2) g = 1) := by
  unfold cmpN
  split
  · omega
  · split <;> omega
theorem rndU_rnd (mode : Int) (neg : Bool) (A : Nat) (E L : Int) :
    (if rndU mode neg (qv A (E - L) : Nat) (cmpN (bsN A (E - L) % bsD 1 (E - L) * 2) (bsD 1 (E - L))) (decide (bsN A (E - L) % bsD 1 (E - L) = 0)) = true then ((qv A (E - L) : Nat) : Int) + 1 else ((qv A (E - L) : Nat) : Int)) = (Rn.rnd mode neg (A * 2 ^ (E - L).toNat) (L - E).toNat : Nat) := by
  unfold qv
  rw [bsD_one]
  show _ = ((Rn.rnd mode neg (bsN A (E - L)) (L - E).toNat : Nat) : Int)
  generalize bsN A (E - L) = m
  generalize (L - E).toNat = c
  have hg := Nat.two_pow_pos c
  unfold Rn.rnd rndU
  by_cases h0 : m % 2 ^ c = 0
  · rw [h0, Rn.upw_zero _ _ _ _ hg, decide_eq_true rfl, Bool.not_true, Bool.false_and, if_neg (by simp)]
    simp
  · rw [decide_eq_false h0, Bool.not_false, Bool.true_and]
    have ho : (((m / 2 ^ c : Nat) : Int) % 2 == 1) = (m / 2 ^ c % 2 == 1) := by
      rw [Bool.eq_iff_iff, beq_iff_eq, beq_iff_eq]; omega
    obtain ⟨c1, c2, _⟩ := cmpN_facts (m % 2 ^ c) (2 ^ c)
    rw [ho, awy_upw mode neg _ _ (m % 2 ^ c) (2 ^ c) h0 c1 c2]
    cases Rn.upw mode neg (m / 2 ^ c % 2 == 1) (m % 2 ^ c) (2 ^ c)
    · rw [if_neg (by simp)]; simp
    · rw [if_pos rfl]; simp
def fq (top half q1 : Int) : Int := if q1 = top then half else q1
def fe (top q1 L : Int) : Int := if q1 = top then L + 1 else L
theorem fq_rung (q1 : Nat) (L : Int) (hL : -149 ≤ L) :
    (fe 16777216 q1 L + 149).toNat * 8388608 + (fq 16777216 8388608 q1).toNat = (L - -149).toNat * 8388608 + q1 := by
  unfold fq fe
  by_cases h : q1 = 16777216
  · have h' : (q1 : Int) = 16777216 := by omega
    rw [if_pos h', if_pos h']; omega
  · rw [if_neg (by omega), if_neg (by omega), Int.toNat_natCast]
    omega
end Go.Proofs.YtnceajanlnnfoaaGreatDoor
namespace Go.Proofs.YtnceajanlnnfoaaGreatDoor
open Go.RowKit
set_option maxHeartbeats 16000000 in
set_option maxRecDepth 20000 in
theorem to_last {vV vK : Value} {mode e2 q2 h : Int} {wh : Bool} {S S1 F1 F2 R1 R2 : Nat} {a b c f0 f1 : Bool} {f2 f3 : Int} {u14 u15 u16 u17 u18 u19 u20 u21 u22 u23 u24 u25 u26 u27 u28 u29 u30 u31 u32 u33 u34 u35 u36 u37 u38 u39 u40 u41 u42 u43 u44 u45 u46 u47 u48 u49 u50 u51 u52 u53 u54 u55 u56 u57 u58 u59 u60 u61 u62 u63 u64 u65 u66 u67 u68 u69 u70 u71 u72 u73 u74 u75 u76 u77 u78 u79 u80 u81 u82 u83 u84 u85 u86 u87 u88 u89 u90 u91 u92 u93 u94 u95 u96 u97 u98 u99 u100 u101 u102 u103 u104 u105 u106 u107 u108 u109 u110 u111 u112 u113 u114 u115 u116 u117 u118 u119 u120 u121 u122 u123 u124 u125 u126 u127 u128 u129 u130 u131 u132 u133 u134 u135 u136 u137 u138 u139 u140 u141 u142 u143 u144 u145 u146 u147 u148 u149 u150 u151 u152 u153 u154 u155 u156 u157 u158 u159 u160 u161 u162 : Value} {w wc : World}
    (d1 : R1 ≠ F1) (d2 : R1 ≠ F2) (d3 : R2 ≠ F1) (d4 : R2 ≠ F2) (d5 : F1 ≠ F2)
    (x10 : wc.cell? ⟨R1, 0, none⟩ = some (.bool a)) (x11 : wc.cell? ⟨R1, 1, none⟩ = some (.bool b)) (x12 : wc.cell? ⟨R1, 2, none⟩ = some (.bool c))
    (x20 : wc.cell? ⟨R2, 0, none⟩ = some (.bool f0)) (x21 : wc.cell? ⟨R2, 1, none⟩ = some (.bool f1)) (x22 : wc.cell? ⟨R2, 2, none⟩ = some (.int .u64 f2)) (x23 : wc.cell? ⟨R2, 3, none⟩ = some (.int .i64 f3))
    (x30 : wc.cell? ⟨F1, 0, none⟩ = some (.bool false)) (y30 : wc.frozen? ⟨F1, 0, none⟩ = false) (x31 : wc.cell? ⟨F1, 1, none⟩ = some (.bool false)) (y31 : wc.frozen? ⟨F1, 1, none⟩ = false) (x32 : wc.cell? ⟨F1, 2, none⟩ = some (.int .u64 0)) (y32 : wc.frozen? ⟨F1, 2, none⟩ = false) (x33 : wc.cell? ⟨F1, 3, none⟩ = some (.int .i64 0)) (y33 : wc.frozen? ⟨F1, 3, none⟩ = false)
    (x40 : wc.cell? ⟨F2, 0, none⟩ = some (.bool false)) (y40 : wc.frozen? ⟨F2, 0, none⟩ = false) (x41 : wc.cell? ⟨F2, 1, none⟩ = some (.bool false)) (y41 : wc.frozen? ⟨F2, 1, none⟩ = false) (x42 : wc.cell? ⟨F2, 2, none⟩ = some (.bool false)) (y42 : wc.frozen? ⟨F2, 2, none⟩ = false)
    {P : Ending → World → Prop} {K : Act → World → Prop} (hK : ∀ (x : Act) (z : World), Code.wp Tryz.prog Code.ret (bodyPost Tryz.prog Tryz.f99 P) x z → K x z) (HP : Hid (∀ W, Gr w W → P (.returned (.tuple #[.agg #[.bool f0, .bool f1, .int .u64 f2, .int .i64 f3], .agg #[.bool a, .bool b, .bool c]])) W)) (hg : Hid (Gr w wc)) (h2 : Hid (w.heap.size ≤ F1)) (h3 : Hid (w.heap.size ≤ F2)) :
    Code.wp Tryz.prog
    (Code.region 23
      #[{ dst := some 161, op := Op.load 170 (Operand.tmp 13), type := 170, pos := "ref.go:127", after := #[],
          guard := none },
        { dst := some 162, op := Op.load 103 (Operand.tmp 12), type := 103, pos := "ref.go:127",
          after := #[{ on := 2, ground := Ground.gcOnly Departure.lateStores }], guard := none },
        { dst := none, op := Op.store 170 (Operand.tmp 6) (Operand.tmp 161), type := 0, pos := "ref.go:127",
          after :=
            #[{ on := 0, ground := Ground.data }, { on := 0, ground := Ground.phase },
              { on := 1, ground := Ground.textOnly Departure.lateStores }],
          guard := none },
        { dst := none, op := Op.store 103 (Operand.tmp 7) (Operand.tmp 162), type := 0, pos := "ref.go:127",
          after :=
            #[{ on := 1, ground := Ground.data }, { on := 2, ground := Ground.chain },
              { on := 0, ground := Ground.phase }, { on := 1, ground := Ground.phase },
              { on := 2, ground := Ground.phase }],
          guard := none }]
      true)
    (Exit.then K (bodyPost Tryz.prog Tryz.f99 P))
    {
      tmps :=
        #[vV, vK, Value.int IntKind.i64 mode, Value.pointer (some { block := S, off := 0 }),
          Value.pointer (some { block := S1, off := 0 }), undef,
          Value.pointer (some { block := F1, off := 0 }),
          Value.pointer (some { block := F2, off := 0 }), Value.int IntKind.i64 e2, Value.int IntKind.u64 q2,
          Value.int IntKind.i64 h, Value.bool wh, Value.pointer (some { block := R1, off := 0 }),
          Value.pointer (some { block := R2, off := 0 }), u14, u15, u16, u17, u18, u19, u20, u21, u22, u23, u24, u25, u26, u27, u28, u29, u30, u31, u32, u33, u34, u35, u36, u37, u38, u39, u40, u41, u42, u43, u44, u45, u46, u47, u48, u49, u50, u51, u52, u53, u54, u55, u56, u57, u58, u59, u60, u61, u62, u63, u64, u65, u66, u67, u68, u69, u70, u71, u72, u73, u74, u75, u76, u77, u78, u79, u80, u81, u82, u83, u84, u85, u86, u87, u88, u89, u90, u91, u92, u93, u94, u95, u96, u97, u98, u99, u100, u101, u102, u103, u104, u105, u106, u107, u108, u109, u110, u111, u112, u113, u114, u115, u116, u117, u118, u119, u120, u121, u122, u123, u124, u125, u126, u127, u128, u129, u130, u131, u132, u133, u134, u135, u136, u137, u138, u139, u140, u141, u142, u143, u144, u145, u146, u147, u148, u149, u150, u151, u152, u153, u154, u155, u156, u157, u158, u159, u160, u161, u162],
      defers := [] }
    wc := by
  go_region
  all_goals
    refine hK _ _ ?_
    go_wp2
    refine bodyPost_ret (v := .tuple #[.agg #[.bool f0, .bool f1, .int .u64 f2, .int .i64 f3], .agg #[.bool a, .bool b, .bool c]]) (by simp [results, Tryz.results99, go_sem, *]) rfl (HP.out _ ?_)
    exact (((((((hg.out.setCell _ _ h2.out).setCell _ _ h2.out).setCell _ _ h2.out).setCell _ _ h2.out).setCell _ _ h3.out).setCell _ _ h3.out).setCell _ _ h3.out).drew
end Go.Proofs.YtnceajanlnnfoaaGreatDoor
namespace Go.Proofs.YtnceajanlnnfoaaGreatDoor
open Go.RowKit
open Ieee
theorem thirty_any (w : World) : Calls Tryz.prog 101 #[] w fun e w' => e = .returned (.agg #[.int .i64 24, .int .i64 (-149), .int .i64 127]) ∧ Gr w w' := by
  go_enter Tryz.func101, Tryz.ntmps101
  go_wp2
  refine bodyPost_ret (v := .agg #[.int .i64 24, .int .i64 (-149), .int .i64 127]) (by simp [results, Tryz.results101, go_sem, *]) rfl ?_
  exact ⟨rfl, (Gr.refl w).alloc _ _⟩
theorem b32_and (M : Int) (h0 : 0 ≤ M) (h1 : M < 4294967296) : bits .and .u32 M 8388607 = M % 8388608 := by
  rw [u32_and M 8388607 h0 h1 (by decide) (by decide), show (8388607 : Int).toNat = 2 ^ 23 - 1 from rfl, Nat.and_two_pow_sub_one_eq_mod]
  omega
theorem b32_or (x y : Int) (h0 : 0 ≤ x) (h1 : x < 4294967296) (hx : x % 8388608 = 0) (y0 : 0 ≤ y) (y1 : y < 8388608) : bits .or .u32 x y = x + y := by
  rw [u32_or x y h0 h1 y0 (by omega), nat_join 23 x.toNat y.toNat (by show x.toNat % 8388608 = 0; omega) (by show y.toNat < 8388608; omega)]
  omega
theorem b32_sign (b : Int) (h0 : 0 ≤ b) (h1 : b < 2147483648) : bits .or .u32 b 2147483648 = 2147483648 + b := by
  rw [u32_or b 2147483648 h0 (by omega) (by decide) (by decide), Nat.or_comm, nat_join 31 (2147483648 : Int).toNat b.toNat (by decide) (by show b.toNat < 2147483648; omega)]
  omega
set_option maxHeartbeats 1000000 in
theorem bits32_core (neg : Bool) (M E b s : Int) (w : World) (hM0 : 0 ≤ M) (hM1 : M < 16777216) (hE0 : -149 ≤ E) (hE1 : E ≤ 104) (hn : M < 8388608 → E = -149)
    (hb : Hid ((E + 149) * 8388608 + M = b)) (hs : Hid ((if neg = true then 2147483648 + b else b) = s)) :
    Calls Tryz.prog 102 #[.agg #[.bool neg, .bool false, .int .u64 M, .int .i64 E]] w fun e w' => e = .returned (.int .u32 s) ∧ Gr w w' := by
  go_enter Tryz.func102, Tryz.ntmps102
  go_wp2
  all_goals go_ret
  all_goals refine ⟨congrArg (fun z => Ending.returned (.int .u32 z)) ?_, (Gr.refl w).alloc _ _⟩
  all_goals rw [← hs.out, ← hb.out]
  · rename_i h1 h2
    subst h2
    rw [b32_and M hM0 (by omega), b32_or ((E + 150) * 8388608) (M % 8388608) (by omega) (by omega) (by omega) (by omega) (by omega), b32_sign _ (by omega) (by omega), if_pos rfl]
    omega
  · rename_i h1 h2
    subst h2
    rw [b32_and M hM0 (by omega), b32_or ((E + 150) * 8388608) (M % 8388608) (by omega) (by omega) (by omega) (by omega) (by omega), if_neg (by simp)]
    omega
  · rename_i h1 h2
    subst h2
    rw [b32_sign _ (by omega) (by omega), if_pos rfl, hn h1]
    omega
  · rename_i h1 h2
    subst h2
    rw [if_neg (by simp), hn h1]
    omega
end Go.Proofs.YtnceajanlnnfoaaGreatDoor
namespace Go.Proofs.YtnceajanlnnfoaaGreatDoor
open Go.RowKit
open Ieee
theorem andNot31I (b : Int) (h0 : 0 ≤ b) (h : b < 4294967296) : bits .andNot .u32 b 2147483648 = (mag32 b.toNat : Int) := by
  obtain ⟨n, rfl⟩ : ∃ n : Nat, b = n := ⟨b.toNat, by omega⟩
  rw [Int.toNat_natCast]
  exact andNot31 n (by omega)
theorem and31 (b : Nat) (h : b < 4294967296) : bits .and .u32 (b : Int) 2147483648 = if sgb32 b = true then 2147483648 else 0 := by
  have := u32_and_nat b 2147483648 h (by decide)
  rw [show ((2147483648 : Nat) : Int) = 2147483648 from rfl] at this
  rw [this, nat_bit 31 b]
  unfold sgb32
  by_cases c : 2147483648 ≤ b
  · simp only [c, decide_true, if_true]; omega
  · simp only [c, decide_false, Bool.false_eq_true, if_false]; omega
set_option maxHeartbeats 400000 in
theorem risnan_core (b z : Int) (hz : Hid (bits .andNot .u32 b 2147483648 = z)) (w : World) :
    Calls Tryz.prog 104 #[.int .u32 b] w fun e w' => e = .returned (.bool (decide (2139095040 < z))) ∧ w' = w := by
  go_enter Tryz.func104, Tryz.ntmps104
  go_wp2_with (first | (simp only [hz.out]))
  go_ret
  exact ⟨rfl, rfl⟩
theorem risnan_any (b : Int) (h0 : 0 ≤ b) (h : b < 4294967296) (w : World) :
    Calls Tryz.prog 104 #[.int .u32 b] w fun e w' => e = .returned (.bool (isN32 b.toNat)) ∧ w' = w := by
  have := risnan_core b _ (andNot31I b h0 h) w
  rwa [show decide ((2139095040 : Int) < (mag32 b.toNat : Nat)) = isN32 b.toNat from by unfold isN32; exact decide_eq_decide.2 (by omega)] at this
set_option maxHeartbeats 1000000 in
theorem rsplit32_core (b x m o M E : Int) (hx : Hid (bits .and .u32 (b / 8388608) 255 = x)) (hm : Hid (bits .and .u32 b 8388607 = m)) (x0 : 0 ≤ x) (x1 : x < 256) (m0 : 0 ≤ m) (m1 : m < 8388608) (ho : Hid (bits .or .u64 m 8388608 = o))
    (hv : ((x == 0) = true ∧ M = m ∧ E = -149) ∨ ((x == 0) = false ∧ M = o ∧ Hid (E = x - 150))) (w : World) :
    Calls Tryz.prog 105 #[.int .u32 b] w fun e w' => e = .returned (.tuple #[.int .u64 M, .int .i64 E]) ∧ w' = w := by
  rcases hv with ⟨c, rfl, rfl⟩ | ⟨c, rfl, hE⟩
  all_goals
    go_enter Tryz.func105, Tryz.ntmps105
    go_wp2_with (first | (simp only [hx.out]) | (simp only [hm.out]) | (simp only [ho.out]))
    go_ret2
    first | exact ⟨rfl, rfl⟩ | exact ⟨ret2 rfl (int_eq hE.out.symm), rfl⟩
theorem and23E (b : Nat) (h : b < 4294967296) : bits .and .u32 ((b : Int) / 8388608) 255 = (mag32 b / 8388608 : Nat) := by
  have := u32_and_nat (b / 8388608) 255 (by omega) (by decide)
  rw [show ((255 : Nat) : Int) = 255 from rfl, show ((b / 8388608 : Nat) : Int) = (b : Int) / 8388608 by omega] at this
  rw [this, Nat.and_two_pow_sub_one_eq_mod _ 8]
  unfold mag32; omega
theorem and23M (b : Nat) (h : b < 4294967296) : bits .and .u32 (b : Int) 8388607 = (mag32 b % 8388608 : Nat) := by
  have := u32_and_nat b 8388607 h (by decide)
  rw [show ((8388607 : Nat) : Int) = 8388607 from rfl] at this
  rw [this, Nat.and_two_pow_sub_one_eq_mod _ 23]
  unfold mag32; omega
theorem or23 (m : Nat) (h : m < 8388608) : bits .or .u64 (m : Int) 8388608 = (8388608 + m : Nat) := by
  have := u64_or_nat m 8388608 (by omega) (by decide)
  rw [show ((8388608 : Nat) : Int) = 8388608 from rfl] at this
  rw [this, Nat.or_comm, nat_join 23 _ m (by decide) (by omega)]
theorem rsplit32_any (b : Nat) (h : b < 4294967296) (hb : mag32 b ≤ 2139095040) (w : World) :
    Calls Tryz.prog 105 #[.int .u32 (b : Int)] w fun e w' => e = .returned (.tuple #[.int .u64 (Fs.mantOf (mag32 b) : Nat), .int .i64 (Fs.placeOf (mag32 b))]) ∧ w' = w := by
  refine rsplit32_core b _ _ _ _ _ (and23E b h) (and23M b h) (by omega) (by omega) (by omega) (by omega) (or23 _ (by omega)) ?_ w
  unfold Fs.mantOf Fs.placeOf
  by_cases c : mag32 b < 8388608
  · rw [if_pos c]; exact Or.inl ⟨by rw [beq_iff_eq]; omega, by omega, by omega⟩
  · rw [if_neg c]; exact Or.inr ⟨by rw [beq_eq_false_iff_ne]; omega, rfl, by unfold Hid; omega⟩
set_option maxHeartbeats 1000000 in
theorem rwiden_core (b z y M E j r v : Int) (N neg : Bool) (H : Hid (∀ w, Calls Tryz.prog 104 #[.int .u32 b] w fun e w' => e = .returned (.bool N) ∧ w' = w))
    (hz : Hid (bits .andNot .u32 b 2147483648 = z)) (hy : Hid (bits .and .u32 b 2147483648 = y)) (hneg : (y != 0) = neg)
    (hv : (N = true ∧ v = 9221120237041090560) ∨ (N = false ∧ (z == 2139095040) = true ∧ neg = false ∧ Hid (bits .or .u64 0 9218868437227405312 = v)) ∨ (N = false ∧ (z == 2139095040) = true ∧ neg = true ∧ Hid (bits .or .u64 9223372036854775808 9218868437227405312 = v)) ∨
      (N = false ∧ (z == 2139095040) = false ∧ v = j ∧ Hid (∀ w, Calls Tryz.prog 105 #[.int .u32 b] w fun e w' => e = .returned (.tuple #[.int .u64 M, .int .i64 E]) ∧ w' = w) ∧ Hid (∀ w, Calls Tryz.prog 106 #[.bool neg, .int .u64 M, .int .i64 E] w fun e w' => e = .returned (.tuple #[.int .u64 j, .int .i64 r]) ∧ w' = w))) (w : World) :
    Calls Tryz.prog 54 #[.int .u32 b] w fun e w' => e = .returned (.int .u64 v) ∧ w' = w := by
  rcases hv with ⟨rfl, rfl⟩ | ⟨rfl, c, rfl, hv⟩ | ⟨rfl, c, rfl, hv⟩ | ⟨rfl, c, rfl, HS, HJ⟩
  · go_enter Tryz.func54, Tryz.ntmps54
    go_wp2_with (go_at_call 104; refine (H.out _).mono ?_; rintro e w' ⟨rfl, rfl⟩)
    go_ret
    exact ⟨rfl, rfl⟩
  · go_enter Tryz.func54, Tryz.ntmps54
    go_wp2_with (first | (simp only [hz.out]) | (simp only [hy.out]) | (go_at_call 104; refine (H.out _).mono ?_; rintro e w' ⟨rfl, rfl⟩))
    go_ret
    exact ⟨ret_int hv.out, rfl⟩
  · go_enter Tryz.func54, Tryz.ntmps54
    go_wp2_with (first | (simp only [hz.out]) | (simp only [hy.out]) | (go_at_call 104; refine (H.out _).mono ?_; rintro e w' ⟨rfl, rfl⟩))
    go_ret
    exact ⟨ret_int hv.out, rfl⟩
  · cases neg
    all_goals
      go_enter Tryz.func54, Tryz.ntmps54
      go_wp2_with (first | (simp only [hz.out]) | (simp only [hy.out]) | (go_at_call 104; refine (H.out _).mono ?_; rintro e w' ⟨rfl, rfl⟩) | (go_at_call 105; refine (HS.out _).mono ?_; rintro e w' ⟨rfl, rfl⟩) | (go_at_call 106; refine (HJ.out _).mono ?_; rintro e w' ⟨rfl, rfl⟩))
      go_ret
      exact ⟨rfl, rfl⟩
def wd32 (b : Nat) : Nat := if isN32 b = true then 9221120237041090560 else wdW (sgb32 b) (mag32 b)
theorem rwiden_any (b : Nat) (h : b < 4294967296) (w : World) :
    Calls Tryz.prog 54 #[.int .u32 (b : Int)] w fun e w' => e = .returned (.int .u64 (wd32 b : Nat)) ∧ w' = w := by
  have hand := and31 b h
  have hneg : ((if sgb32 b = true then (2147483648 : Int) else 0) != 0) = sgb32 b := by cases sgb32 b <;> rfl
  have hN : ∀ w, Calls Tryz.prog 104 #[.int .u32 (b : Int)] w fun e w' => e = .returned (.bool (isN32 b)) ∧ w' = w := fun w => by
    have := risnan_any b (by omega) (by omega) w
    rwa [Int.toNat_natCast] at this
  refine rwiden_core b _ _ (Fs.mantOf (mag32 b) : Nat) (Fs.placeOf (mag32 b)) (wd32 b : Nat) (joinR (Fs.mantOf (mag32 b) : Nat) (Fs.placeOf (mag32 b))) _ _ _ hN (andNot31 b h) hand hneg ?_ w
  unfold wd32
  by_cases c : isN32 b = true
  · rw [if_pos c]; exact Or.inl ⟨c, rfl⟩
  · rw [if_neg c]
    have cf : isN32 b = false := by simpa using c
    have c' : mag32 b ≤ 2139095040 := Nat.le_of_not_lt fun d => c (decide_eq_true d)
    right
    by_cases i : mag32 b = 2139095040
    · unfold wdW
      rw [if_pos i]
      cases hs : sgb32 b
      · exact Or.inl ⟨cf, by rw [beq_iff_eq]; omega, rfl, by show _ = _; decide +kernel⟩
      · exact Or.inr (Or.inl ⟨cf, by rw [beq_iff_eq]; omega, rfl, by show _ = _; decide +kernel⟩)
    · right; right
      refine ⟨cf, by rw [beq_eq_false_iff_ne]; omega, rfl, fun w => rsplit32_any b h c' w, fun w => ?_⟩
      have := rjoin_any (sgb32 b) (Fs.mantOf (mag32 b) : Nat) (Fs.placeOf (mag32 b)) (by omega) (by have := (Fs.canon_of (mag32 b)).1; omega) w
      have hw : joinW (sgb32 b) (Fs.mantOf (mag32 b) : Nat) (Fs.placeOf (mag32 b)) = wdW (sgb32 b) (mag32 b) := by
        unfold wdW
        rw [if_neg i]
        by_cases z : mag32 b = 0
        · rw [if_pos z, z]; exact (join_nought (sgb32 b) (Fs.placeOf 0)).1
        · rw [if_neg z]
          have f := fits32 (mag32 b) (by omega) z
          exact (join_ok (sgb32 b) _ _ f.1 (by have := (Fs.canon_of (mag32 b)).1; omega) f.2.2.1 f.2.2.2).1
      rwa [hw] at this
end Go.Proofs.YtnceajanlnnfoaaGreatDoor
