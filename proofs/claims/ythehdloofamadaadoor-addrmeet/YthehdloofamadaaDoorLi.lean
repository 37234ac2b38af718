/- AddrMeet: its walk. (By gen_addrmeet.py.) -/
import Derived.Test.YthehdloofamadaaDoorLc
import Derived.Test.YthehdloofamadaaDoorGq
namespace Go.Proofs.YthehdloofamadaaDoor
open Go.RowKit Go.Shelf
attribute [local go_sem] Oper.semAt_some

theorem Has2.bel' {w w' : World} {b : Nat} {x y : Value} (h : Has2 w b x y) (g : Below w.heap.size w w') : Has2 w' b x y := by
  obtain ⟨⟨h0, h1⟩, f0, f1⟩ := h
  have hb := cell_lt h0
  exact ⟨⟨(g.cell (by exact hb)).trans h0, (g.cell (by exact hb)).trans h1⟩, (g.frozen (by exact hb)).trans f0, (g.frozen (by exact hb)).trans f1⟩
theorem boxBel {w w' : World} {b : Nat} {t : TypeId} {v : Value} (h : Boxed w b t v) (g : Below w.heap.size w w') : Boxed w' b t v := (g.block b h.lt).trans h
def Has1 (w : World) (b : Nat) (x : Value) : Prop := w.cell? ⟨b, 0, none⟩ = some x ∧ w.frozen? ⟨b, 0, none⟩ = false
theorem has1_new (w : World) (x : Value) (t : TypeId) : Has1 (w.alloc (.cells #[x] t)) w.heap.size x := ⟨Boxed.cell (Boxed.new w t x), Boxed.frozen (Boxed.new w t x)⟩
theorem Has1.bel {w w' : World} {b : Nat} {x : Value} (h : Has1 w b x) (g : Below w.heap.size w w') : Has1 w' b x := ⟨(g.cell (by exact cell_lt h.1)).trans h.1, (g.frozen (by exact cell_lt h.1)).trans h.2⟩
theorem keeps_below {W W' : World} (h : Below W.heap.size W W') : KeepsOthers W W' := ⟨h.size, fun k _ hk _ => (h.block k (Array.getElem?_eq_some_iff.1 hk).1).trans hk⟩
theorem nA_bd (c r d s : Int) : nA c r d s ≤ 1048576 := by
  unfold nA
  by_cases h : vA c r d s = true
  · have b := (vA_iff c r d s).1 h
    rw [if_pos h]
    have : (s - r + 1).toNat * (d - c + 1).toNat ≤ 4096 * 256 := Nat.mul_le_mul (by omega) (by omega)
    omega
  · rw [if_neg h]; omega
/-- The last one of those that have come. -/
def lastC : List (Int × Int) → Int × Int
  | [] => (0, 0)
  | [x] => x
  | _ :: y :: t => lastC (y :: t)
theorem lastC_snoc (p : List (Int × Int)) (x : Int × Int) : lastC (p ++ [x]) = x := by
  induction p with
  | nil => rfl
  | cons a p ih =>
    cases p with
    | nil => rfl
    | cons b p => exact ih
/-- What the law would refuse. -/
def Bad (c r d s : Int) (pre : List (Int × Int)) (x : Int × Int) : Prop := (pre ≠ [] ∧ 0 ≤ ordC (lastC pre).1 (lastC pre).2 x.1 x.2) ∨ inA c r d s x.1 x.2 = false ∨ vC x.1 x.2 = false
/-- It meets none of these. -/
theorem not_bad (c r d s : Int) (pre : List (Int × Int)) (x : Int × Int) (h : pre ++ [x] <+: clL c r d s) : ¬ Bad c r d s pre x := by
  obtain ⟨t, ht⟩ := h
  have hlen : pre.length < nA c r d s := by
    have := congrArg List.length ht
    simp only [clL, List.length_append, List.length_map, List.length_range, List.length_singleton] at this
    omega
  have hat : ∀ j y, (pre ++ [x])[j]? = some y → y = clA c r d j := by
    intro j y hj
    have h1 : (clL c r d s)[j]? = some y := by rw [← ht, List.getElem?_append_left (by have := (List.getElem?_eq_some_iff.1 hj).1; exact this)]; exact hj
    simp only [clL, List.getElem?_map] at h1
    cases hr : (List.range (nA c r d s))[j]? with
    | none => rw [hr] at h1; cases h1
    | some k =>
      rw [hr] at h1
      have := (List.getElem?_eq_some_iff.1 hr).2
      simp at this
      subst this
      simpa using h1.symm
  have hx : x = clA c r d pre.length := hat pre.length x (by simp)
  have hv : vA c r d s = true := by
    cases hv : vA c r d s
    · unfold nA at hlen; rw [hv] at hlen; simp at hlen
    · rfl
  have hk : pre.length < (s - r + 1).toNat * (d - c + 1).toNat := by unfold nA at hlen; rwa [if_pos hv] at hlen
  have hb := (vA_iff c r d s).1 hv
  rintro (⟨h1, h2⟩ | h2 | h2)
  · have hl : ∃ k, pre.length = k + 1 := by
      cases pre with
      | nil => exact absurd rfl h1
      | cons a p => exact ⟨p.length, rfl⟩
    obtain ⟨k, hk1⟩ := hl
    have hlast : lastC pre = clA c r d k := by
      have hne : pre ≠ [] := h1
      have e : pre = pre.dropLast ++ [pre.getLast hne] := (List.dropLast_concat_getLast hne).symm
      have e2 : lastC pre = pre.getLast hne := by
        have := lastC_snoc pre.dropLast (pre.getLast hne)
        rwa [List.dropLast_concat_getLast hne] at this
      rw [e2]
      refine hat k _ ?_
      rw [List.getElem?_append_left (by omega), List.getLast_eq_getElem]
      rw [List.getElem?_eq_getElem (by omega)]
      simp only [hk1, Nat.add_sub_cancel]
    rw [hlast, hx, hk1] at h2
    have := cell_rise c r (d - c + 1).toNat (by omega) k
    unfold clA at h2
    simp only at h2
    omega
  · rw [hx] at h2
    have := (cell_in c r d s hv pre.length hk).1
    unfold clA at h2
    simp only at h2
    rw [this] at h2
    cases h2
  · rw [hx] at h2
    have := (cell_in c r d s hv pre.length hk).2
    unfold clA at h2
    simp only at h2
    rw [this] at h2
    cases h2

set_option maxRecDepth 100000 in
set_option maxHeartbeats 16000000 in
theorem meet_core (w : World) (c r d s c' r' d' s' x y m1 m2 m3 m4 : Int) (O I1 I2 I3 : Bool)
    (H0 : Hid (∀ w, Calls Tryd.prog 8 #[] w fun e w' => e = .returned (.bool true) ∧ Below w.heap.size w w'))
    (H1 : Hid (∀ w, Calls Tryd.prog 33 #[.agg #[.int .i64 c, .int .i64 r, .int .i64 d, .int .i64 s], .agg #[.int .i64 c', .int .i64 r', .int .i64 d', .int .i64 s']] w fun e w' => e = .returned (.tuple #[.agg #[.int .i64 m1, .int .i64 m2, .int .i64 m3, .int .i64 m4], .bool O]) ∧ Below w.heap.size w w'))
    (H2 : Hid (∀ w, Calls Tryd.prog 33 #[.agg #[.int .i64 c', .int .i64 r', .int .i64 d', .int .i64 s'], .agg #[.int .i64 c, .int .i64 r, .int .i64 d, .int .i64 s]] w fun e w' => e = .returned (.tuple #[.agg #[.int .i64 m1, .int .i64 m2, .int .i64 m3, .int .i64 m4], .bool O]) ∧ Below w.heap.size w w'))
    (H3 : Hid (∀ w, Calls Tryd.prog 25 #[.agg #[.int .i64 c, .int .i64 r, .int .i64 d, .int .i64 s], .agg #[.int .i64 x, .int .i64 y]] w fun e w' => e = .returned (.bool I1) ∧ Below w.heap.size w w'))
    (H4 : Hid (∀ w, Calls Tryd.prog 25 #[.agg #[.int .i64 c', .int .i64 r', .int .i64 d', .int .i64 s'], .agg #[.int .i64 x, .int .i64 y]] w fun e w' => e = .returned (.bool I2) ∧ Below w.heap.size w w'))
    (H5 : Hid (∀ w, Calls Tryd.prog 25 #[.agg #[.int .i64 m1, .int .i64 m2, .int .i64 m3, .int .i64 m4], .agg #[.int .i64 x, .int .i64 y]] w fun e w' => e = .returned (.bool I3) ∧ Below w.heap.size w w'))
    (H6 : Hid (∀ w, Calls Tryd.prog 37 #[.agg #[.int .i64 c, .int .i64 r, .int .i64 d, .int .i64 s]] w fun e w' => ∃ lb, e = .returned (.func (.func 52) #[] lb) ∧ CellsSeq 52 lb c r d s w' ∧ Below w.heap.size w w'))
    (H7 : Hid (SaysOrder 11))
    (H8 : Hid (SaysIn 25))
    (H9 : Hid (SaysValid 9))
    (H10 : Hid (∀ w, Calls Tryd.prog 27 #[.agg #[.int .i64 c, .int .i64 r, .int .i64 d, .int .i64 s]] w fun e w' => e = .returned (.int .i64 (nA c r d s : Nat)) ∧ Below w.heap.size w w'))
    (hin : Hid ((O && I3) = (I1 && I2))) :
    Calls Tryd.prog 7 #[.agg #[.int .i64 c, .int .i64 r, .int .i64 d, .int .i64 s], .agg #[.int .i64 c', .int .i64 r', .int .i64 d', .int .i64 s'], .agg #[.int .i64 x, .int .i64 y]] w fun e w' => e = .returned (.bool true) ∧ Below w.heap.size w w' := by
  refine (callsIn_wide (n := 9)).1 ?_
  refine callsIn_of_wp_marks Tryd.func7 rfl trivial ?_ rfl
  simp only [Tryd.ntmps7, List.size_toArray, List.length_cons, List.length_nil, Nat.reduceAdd, Nat.reduceSub, Array.replicate_succ, Array.replicate_zero, List.push_toArray, List.append_toArray, List.nil_append, List.cons_append]
  have BA : Hid (Below w.heap.size w ((((w.alloc (.cells #[.int .i64 c, .int .i64 r, .int .i64 d, .int .i64 s] 38)).alloc (.cells #[.int .i64 c', .int .i64 r', .int .i64 d', .int .i64 s'] 38)).alloc (.cells #[.int .i64 x, .int .i64 y] 23)).alloc (.cells #[.bool false] 4))) := (((((Gr.refl w).alloc _ _).alloc _ _).alloc _ _).alloc _ _).below
  have A_0 : Hid (Has4 ((((w.alloc (.cells #[.int .i64 c, .int .i64 r, .int .i64 d, .int .i64 s] 38)).alloc (.cells #[.int .i64 c', .int .i64 r', .int .i64 d', .int .i64 s'] 38)).alloc (.cells #[.int .i64 x, .int .i64 y] 23)).alloc (.cells #[.bool false] 4)) w.heap.size (.int .i64 c) (.int .i64 r) (.int .i64 d) (.int .i64 s)) := (has4_new w _ _ _ _ _).gr ((((Gr.refl _).alloc _ _).alloc _ _).alloc _ _)
  have B_0 : Hid (Has4 ((((w.alloc (.cells #[.int .i64 c, .int .i64 r, .int .i64 d, .int .i64 s] 38)).alloc (.cells #[.int .i64 c', .int .i64 r', .int .i64 d', .int .i64 s'] 38)).alloc (.cells #[.int .i64 x, .int .i64 y] 23)).alloc (.cells #[.bool false] 4)) (w.heap.size + 1) (.int .i64 c') (.int .i64 r') (.int .i64 d') (.int .i64 s')) := by
    have := (has4_new (w.alloc (.cells #[.int .i64 c, .int .i64 r, .int .i64 d, .int .i64 s] 38)) (.int .i64 c') (.int .i64 r') (.int .i64 d') (.int .i64 s') 38).gr (((Gr.refl _).alloc #[.int .i64 x, .int .i64 y] 23).alloc #[.bool false] 4)
    rw [World.size_alloc] at this
    exact this
  have P_0 : Hid (Has2 ((((w.alloc (.cells #[.int .i64 c, .int .i64 r, .int .i64 d, .int .i64 s] 38)).alloc (.cells #[.int .i64 c', .int .i64 r', .int .i64 d', .int .i64 s'] 38)).alloc (.cells #[.int .i64 x, .int .i64 y] 23)).alloc (.cells #[.bool false] 4)) (w.heap.size + 1 + 1) (.int .i64 x) (.int .i64 y)) := by
    have := (has2_new ((w.alloc (.cells #[.int .i64 c, .int .i64 r, .int .i64 d, .int .i64 s] 38)).alloc (.cells #[.int .i64 c', .int .i64 r', .int .i64 d', .int .i64 s'] 38)) (.int .i64 x) (.int .i64 y) 23).bel' ((Below.refl _ _).alloc (Nat.le_refl _) (.cells #[.bool false] 4))
    simp only [World.size_alloc] at this
    exact this
  have Q_0 : Hid (Boxed ((((w.alloc (.cells #[.int .i64 c, .int .i64 r, .int .i64 d, .int .i64 s] 38)).alloc (.cells #[.int .i64 c', .int .i64 r', .int .i64 d', .int .i64 s'] 38)).alloc (.cells #[.int .i64 x, .int .i64 y] 23)).alloc (.cells #[.bool false] 4)) (w.heap.size + 1 + 1 + 1) 4 (.bool false)) := by
    have := Boxed.new (((w.alloc (.cells #[.int .i64 c, .int .i64 r, .int .i64 d, .int .i64 s] 38)).alloc (.cells #[.int .i64 c', .int .i64 r', .int .i64 d', .int .i64 s'] 38)).alloc (.cells #[.int .i64 x, .int .i64 y] 23)) 4 (.bool false)
    simp only [World.size_alloc] at this
    exact this
  gi_wp2_with (fail)
  refine ⟨trivial, (callsIn_wide.2 (H0.out _)).mono ?_⟩
  rintro e w1 ⟨rfl, hb⟩
  have Bw1 : Hid (Below w.heap.size w w1) := BA.out.trans (hb.mono BA.out.size)
  have A_w1 : Hid (Has4 w1 w.heap.size (.int .i64 c) (.int .i64 r) (.int .i64 d) (.int .i64 s)) := A_0.out.bel hb
  have B_w1 : Hid (Has4 w1 (w.heap.size + 1) (.int .i64 c') (.int .i64 r') (.int .i64 d') (.int .i64 s')) := B_0.out.bel hb
  have P_w1 : Hid (Has2 w1 (w.heap.size + 1 + 1) (.int .i64 x) (.int .i64 y)) := P_0.out.bel' hb
  have Q_w1 : Hid (Boxed w1 (w.heap.size + 1 + 1 + 1) 4 (.bool false)) := boxBel Q_0.out hb
  clear A_0 B_0 P_0 Q_0
  clear hb BA
  obtain ⟨uA0, uA1, uA2, uA3, _, _, _, _⟩ := A_w1.out
  obtain ⟨uB0, uB1, uB2, uB3, _, _, _, _⟩ := B_w1.out
  gi_wp2_with (fail)
  refine ⟨trivial, (callsIn_wide.2 (H1.out _)).mono ?_⟩
  rintro e w2 ⟨rfl, hb⟩
  clear uA0 uA1 uA2 uA3 uB0 uB1 uB2 uB3
  have Bw2 : Hid (Below w.heap.size w w2) := Bw1.out.trans (hb.mono Bw1.out.size)
  have A_w2 : Hid (Has4 w2 w.heap.size (.int .i64 c) (.int .i64 r) (.int .i64 d) (.int .i64 s)) := A_w1.out.bel hb
  have B_w2 : Hid (Has4 w2 (w.heap.size + 1) (.int .i64 c') (.int .i64 r') (.int .i64 d') (.int .i64 s')) := B_w1.out.bel hb
  have P_w2 : Hid (Has2 w2 (w.heap.size + 1 + 1) (.int .i64 x) (.int .i64 y)) := P_w1.out.bel' hb
  have Q_w2 : Hid (Boxed w2 (w.heap.size + 1 + 1 + 1) 4 (.bool false)) := boxBel Q_w1.out hb
  clear A_w1 B_w1 P_w1 Q_w1
  clear hb Bw1
  have CM : Hid (Below w.heap.size w (w2.alloc (.cells #[.int .i64 m1, .int .i64 m2, .int .i64 m3, .int .i64 m4] 38))) := Bw2.out.alloc Bw2.out.size _
  have A_M : Hid (Has4 (w2.alloc (.cells #[.int .i64 m1, .int .i64 m2, .int .i64 m3, .int .i64 m4] 38)) w.heap.size (.int .i64 c) (.int .i64 r) (.int .i64 d) (.int .i64 s)) := A_w2.out.bel ((Below.refl _ _).alloc (Nat.le_refl _) _)
  have B_M : Hid (Has4 (w2.alloc (.cells #[.int .i64 m1, .int .i64 m2, .int .i64 m3, .int .i64 m4] 38)) (w.heap.size + 1) (.int .i64 c') (.int .i64 r') (.int .i64 d') (.int .i64 s')) := B_w2.out.bel ((Below.refl _ _).alloc (Nat.le_refl _) _)
  have P_M : Hid (Has2 (w2.alloc (.cells #[.int .i64 m1, .int .i64 m2, .int .i64 m3, .int .i64 m4] 38)) (w.heap.size + 1 + 1) (.int .i64 x) (.int .i64 y)) := P_w2.out.bel' ((Below.refl _ _).alloc (Nat.le_refl _) _)
  have Q_M : Hid (Boxed (w2.alloc (.cells #[.int .i64 m1, .int .i64 m2, .int .i64 m3, .int .i64 m4] 38)) (w.heap.size + 1 + 1 + 1) 4 (.bool false)) := boxBel Q_w2.out ((Below.refl _ _).alloc (Nat.le_refl _) _)
  clear A_w2 B_w2 P_w2 Q_w2
  clear Bw2
  have M_M : Hid (Has4 (w2.alloc (.cells #[.int .i64 m1, .int .i64 m2, .int .i64 m3, .int .i64 m4] 38)) w2.heap.size (.int .i64 m1) (.int .i64 m2) (.int .i64 m3) (.int .i64 m4)) := has4_new _ _ _ _ _ _
  obtain ⟨uA0, uA1, uA2, uA3, _, _, _, _⟩ := A_M.out
  obtain ⟨uB0, uB1, uB2, uB3, _, _, _, _⟩ := B_M.out
  gi_wp2_with (fail)
  refine ⟨trivial, (callsIn_wide.2 (H2.out _)).mono ?_⟩
  rintro e w3 ⟨rfl, hb⟩
  clear uA0 uA1 uA2 uA3 uB0 uB1 uB2 uB3
  have Bw3 : Hid (Below w.heap.size w w3) := CM.out.trans (hb.mono CM.out.size)
  have A_w3 : Hid (Has4 w3 w.heap.size (.int .i64 c) (.int .i64 r) (.int .i64 d) (.int .i64 s)) := A_M.out.bel hb
  have B_w3 : Hid (Has4 w3 (w.heap.size + 1) (.int .i64 c') (.int .i64 r') (.int .i64 d') (.int .i64 s')) := B_M.out.bel hb
  have P_w3 : Hid (Has2 w3 (w.heap.size + 1 + 1) (.int .i64 x) (.int .i64 y)) := P_M.out.bel' hb
  have Q_w3 : Hid (Boxed w3 (w.heap.size + 1 + 1 + 1) 4 (.bool false)) := boxBel Q_M.out hb
  have M_w3 : Hid (Has4 w3 w2.heap.size (.int .i64 m1) (.int .i64 m2) (.int .i64 m3) (.int .i64 m4)) := M_M.out.bel hb
  clear A_M B_M P_M Q_M M_M
  clear hb CM
  have CN : Hid (Below w.heap.size w (w3.alloc (.cells #[.int .i64 m1, .int .i64 m2, .int .i64 m3, .int .i64 m4] 38))) := Bw3.out.alloc Bw3.out.size _
  have A_N : Hid (Has4 (w3.alloc (.cells #[.int .i64 m1, .int .i64 m2, .int .i64 m3, .int .i64 m4] 38)) w.heap.size (.int .i64 c) (.int .i64 r) (.int .i64 d) (.int .i64 s)) := A_w3.out.bel ((Below.refl _ _).alloc (Nat.le_refl _) _)
  have B_N : Hid (Has4 (w3.alloc (.cells #[.int .i64 m1, .int .i64 m2, .int .i64 m3, .int .i64 m4] 38)) (w.heap.size + 1) (.int .i64 c') (.int .i64 r') (.int .i64 d') (.int .i64 s')) := B_w3.out.bel ((Below.refl _ _).alloc (Nat.le_refl _) _)
  have P_N : Hid (Has2 (w3.alloc (.cells #[.int .i64 m1, .int .i64 m2, .int .i64 m3, .int .i64 m4] 38)) (w.heap.size + 1 + 1) (.int .i64 x) (.int .i64 y)) := P_w3.out.bel' ((Below.refl _ _).alloc (Nat.le_refl _) _)
  have Q_N : Hid (Boxed (w3.alloc (.cells #[.int .i64 m1, .int .i64 m2, .int .i64 m3, .int .i64 m4] 38)) (w.heap.size + 1 + 1 + 1) 4 (.bool false)) := boxBel Q_w3.out ((Below.refl _ _).alloc (Nat.le_refl _) _)
  have M_N : Hid (Has4 (w3.alloc (.cells #[.int .i64 m1, .int .i64 m2, .int .i64 m3, .int .i64 m4] 38)) w2.heap.size (.int .i64 m1) (.int .i64 m2) (.int .i64 m3) (.int .i64 m4)) := M_w3.out.bel ((Below.refl _ _).alloc (Nat.le_refl _) _)
  clear A_w3 B_w3 P_w3 Q_w3 M_w3
  clear Bw3
  have N_N : Hid (Has4 (w3.alloc (.cells #[.int .i64 m1, .int .i64 m2, .int .i64 m3, .int .i64 m4] 38)) w3.heap.size (.int .i64 m1) (.int .i64 m2) (.int .i64 m3) (.int .i64 m4)) := has4_new _ _ _ _ _ _
  obtain ⟨uA0, uA1, uA2, uA3, _, _, _, _⟩ := A_N.out
  obtain ⟨⟨uP0, uP1⟩, _, _⟩ := P_N.out
  gi_wp2_with (fail)
  refine ⟨trivial, (callsIn_wide.2 (H3.out _)).mono ?_⟩
  rintro e w4 ⟨rfl, hb⟩
  clear uA0 uA1 uA2 uA3 uP0 uP1
  have Bw4 : Hid (Below w.heap.size w w4) := CN.out.trans (hb.mono CN.out.size)
  have A_w4 : Hid (Has4 w4 w.heap.size (.int .i64 c) (.int .i64 r) (.int .i64 d) (.int .i64 s)) := A_N.out.bel hb
  have B_w4 : Hid (Has4 w4 (w.heap.size + 1) (.int .i64 c') (.int .i64 r') (.int .i64 d') (.int .i64 s')) := B_N.out.bel hb
  have P_w4 : Hid (Has2 w4 (w.heap.size + 1 + 1) (.int .i64 x) (.int .i64 y)) := P_N.out.bel' hb
  have Q_w4 : Hid (Boxed w4 (w.heap.size + 1 + 1 + 1) 4 (.bool false)) := boxBel Q_N.out hb
  have M_w4 : Hid (Has4 w4 w2.heap.size (.int .i64 m1) (.int .i64 m2) (.int .i64 m3) (.int .i64 m4)) := M_N.out.bel hb
  have N_w4 : Hid (Has4 w4 w3.heap.size (.int .i64 m1) (.int .i64 m2) (.int .i64 m3) (.int .i64 m4)) := N_N.out.bel hb
  clear A_N B_N P_N Q_N M_N N_N
  clear hb CN
  obtain ⟨uB0, uB1, uB2, uB3, _, _, _, _⟩ := B_w4.out
  obtain ⟨⟨uP0, uP1⟩, _, _⟩ := P_w4.out
  gi_wp2_with (fail)
  refine ⟨trivial, (callsIn_wide.2 (H4.out _)).mono ?_⟩
  rintro e w5 ⟨rfl, hb⟩
  clear uB0 uB1 uB2 uB3 uP0 uP1
  have Bw5 : Hid (Below w.heap.size w w5) := Bw4.out.trans (hb.mono Bw4.out.size)
  have A_w5 : Hid (Has4 w5 w.heap.size (.int .i64 c) (.int .i64 r) (.int .i64 d) (.int .i64 s)) := A_w4.out.bel hb
  have B_w5 : Hid (Has4 w5 (w.heap.size + 1) (.int .i64 c') (.int .i64 r') (.int .i64 d') (.int .i64 s')) := B_w4.out.bel hb
  have P_w5 : Hid (Has2 w5 (w.heap.size + 1 + 1) (.int .i64 x) (.int .i64 y)) := P_w4.out.bel' hb
  have Q_w5 : Hid (Boxed w5 (w.heap.size + 1 + 1 + 1) 4 (.bool false)) := boxBel Q_w4.out hb
  have M_w5 : Hid (Has4 w5 w2.heap.size (.int .i64 m1) (.int .i64 m2) (.int .i64 m3) (.int .i64 m4)) := M_w4.out.bel hb
  have N_w5 : Hid (Has4 w5 w3.heap.size (.int .i64 m1) (.int .i64 m2) (.int .i64 m3) (.int .i64 m4)) := N_w4.out.bel hb
  clear A_w4 B_w4 P_w4 Q_w4 M_w4 N_w4
  clear hb Bw4
  clear H0 H1 H2 H3 H4
  cases O
  · have hi2 : (I1 && I2) = false := hin.out.symm
    clear hin
    cases I1 <;> cases I2
    case true.true => exact absurd hi2 (by decide)
    all_goals
      clear hi2
      obtain ⟨uA0, uA1, uA2, uA3, _, _, _, _⟩ := A_w5.out
      obtain ⟨uM0, uM1, uM2, uM3, _, _, _, _⟩ := M_w5.out
      obtain ⟨uN0, uN1, uN2, uN3, _, _, _, _⟩ := N_w5.out
      have uQ0 := Boxed.cell Q_w5.out
      have uQ1 := Boxed.frozen Q_w5.out
      gi_wp2_with (fail)
      refine ⟨trivial, ?_⟩
      gi_wp2_with (fail)
      refine ⟨trivial, (callsIn_wide.2 (H6.out _)).mono ?_⟩
      rintro e w7 ⟨lb, rfl, hseq, hb⟩
      clear uA0 uA1 uA2 uA3 uM0 uM1 uM2 uM3 uN0 uN1 uN2 uN3 uQ0 uQ1
      have Bw7 : Hid (Below w.heap.size w w7) := Bw5.out.trans (hb.mono Bw5.out.size)
      have A_w7 : Hid (Has4 w7 w.heap.size (.int .i64 c) (.int .i64 r) (.int .i64 d) (.int .i64 s)) := A_w5.out.bel hb
      have B_w7 : Hid (Has4 w7 (w.heap.size + 1) (.int .i64 c') (.int .i64 r') (.int .i64 d') (.int .i64 s')) := B_w5.out.bel hb
      have P_w7 : Hid (Has2 w7 (w.heap.size + 1 + 1) (.int .i64 x) (.int .i64 y)) := P_w5.out.bel' hb
      have Q_w7 : Hid (Boxed w7 (w.heap.size + 1 + 1 + 1) 4 (.bool false)) := boxBel Q_w5.out hb
      have M_w7 : Hid (Has4 w7 w2.heap.size (.int .i64 m1) (.int .i64 m2) (.int .i64 m3) (.int .i64 m4)) := M_w5.out.bel hb
      have N_w7 : Hid (Has4 w7 w3.heap.size (.int .i64 m1) (.int .i64 m2) (.int .i64 m3) (.int .i64 m4)) := N_w5.out.bel hb
      clear A_w5 B_w5 P_w5 Q_w5 M_w5 N_w5
      clear hb Bw5
      have HSEQ : Hid (CellsSeq 52 lb c r d s w7) := hseq
      clear hseq
      obtain ⟨uA0, uA1, uA2, uA3, _, _, _, _⟩ := A_w7.out
      have uQ0 := Boxed.cell Q_w7.out
      have uQ1 := Boxed.frozen Q_w7.out
      gi_wp2_with (fail)
      clear uA0 uA1 uA2 uA3 uQ0 uQ1
      have hL0 : Has2 ((w7.alloc (.cells #[.int .i64 0, .int .i64 0] 23)).alloc (.cells #[.int .i64 0] 3)) w7.heap.size (.int .i64 0) (.int .i64 0) := (has2_new w7 _ _ _).bel' ((Below.refl _ _).alloc (Nat.le_refl _) _)
      have hK0 : Has1 ((w7.alloc (.cells #[.int .i64 0, .int .i64 0] 23)).alloc (.cells #[.int .i64 0] 3)) (w7.heap.size + 1) (.int .i64 0) := by
        have := has1_new (w7.alloc (.cells #[.int .i64 0, .int .i64 0] 23)) (.int .i64 0) 3
        rw [World.size_alloc] at this
        exact this
      have hB0 : Below w7.heap.size w7 ((w7.alloc (.cells #[.int .i64 0, .int .i64 0] 23)).alloc (.cells #[.int .i64 0] 3)) := (((Gr.refl w7).alloc _ _).alloc _ _).below
      have hq : w.heap.size + 1 + 1 + 1 < w7.heap.size := Boxed.lt Q_w7.out
      have HQ : Hid (w.heap.size + 1 + 1 + 1 < w7.heap.size) := hq
      clear hq
      generalize hact : Act.mk _ _ = a0
      refine wpIn_rangeFunc_ownH rfl (by decide) (gf := 52) (lb := lb) (by rw [← hact]; rfl) trivial (enters_of Tryd.func52 (by kernel_rfl) rfl)
        (HSEQ.out 8 (by decide)) belowK_t (belowK_b (by simp; omega)) hB0 (fun _ => rfl)
        (fun pre W => (Has2 W w7.heap.size (.int .i64 (lastC pre).1) (.int .i64 (lastC pre).2) ∧ Has1 W (w7.heap.size + 1) (.int .i64 (pre.length : Int))) ∧ Below w7.heap.size w7 W)
        (fun cd pre' _ => cd = .ret ∧ ∃ pre x, pre' = pre ++ [x] ∧ Bad c r d s pre x)
        (OwnFrom.and (Own.from (fun s A B row hs hg hr => ⟨⟨⟨cell_kept hs.1.1.1 hg hr, cell_kept hs.1.1.2 hg hr⟩, (frozen_kept hs.1.1.1 hg hr).trans hs.1.2.1, (frozen_kept hs.1.1.2 hg hr).trans hs.1.2.2⟩, cell_kept hs.2.1 hg hr, (frozen_kept hs.2.1 hg hr).trans hs.2.2⟩) _) (ownFrom_below (Nat.le_refl _) (by simp; omega)))
        (fun _ _ _ _ _ hs _ _ => hs)
        ⟨⟨hL0, hK0⟩, hB0⟩
        (fun x a' W => ∃ Bx, w7.heap.size + 1 < Bx ∧ Has2 W Bx (.int .i64 x.1) (.int .i64 x.2) ∧ a' = { tmps := (a0.tmps.setIfInBounds 69 (.agg #[.int .i64 x.1, .int .i64 x.2])).setIfInBounds 18 (.pointer (some ⟨Bx, 0, none⟩)), defers := [] })
        (fun x a' => Own.from (fun s A B row hs hg hr => by
          obtain ⟨Bx, h1, h2, h3⟩ := hs
          exact ⟨Bx, h1, ⟨⟨cell_kept h2.1.1 hg hr, cell_kept h2.1.2 hg hr⟩, (frozen_kept h2.1.1 hg hr).trans h2.2.1, (frozen_kept h2.1.2 hg hr).trans h2.2.2⟩, h3⟩) _)
        ?assign ?body ?done ?stop
      case assign =>
        subst hact
        rintro l pre x W K ⟨⟨hL, hk⟩, hB⟩ hK
        have hsz : w7.heap.size + 1 < W.heap.size := cell_lt hk.1
        simp only [encC]
        gi_wp2
        generalize hBx : W.heap.size = Bx at *
        have hX : Has2 (W.alloc (.cells #[.int .i64 x.1, .int .i64 x.2] 23)) Bx (.int .i64 x.1) (.int .i64 x.2) := by rw [← hBx]; exact has2_new _ _ _ _
        have hbW : Below W.heap.size W (W.alloc (.cells #[.int .i64 x.1, .int .i64 x.2] 23)) := ((Gr.refl W).alloc _ _).below
        refine hK _ _ ((KeepsOthers.alloc _ _).from _) (hbW.mono (by omega)) ⟨⟨hL.bel' hbW, hk.bel hbW⟩, hB.trans (hbW.mono (by omega))⟩ ⟨Bx, hsz, hX, ?_⟩
        rfl
      case body =>
        subst hact
        rintro l pre u a' W hl ⟨rr, hr⟩ ⟨⟨hL, hk⟩, hB⟩ ⟨Bx, hBx, hX, rfl⟩ hlt
        have LW : Hid (Has2 W w7.heap.size (.int .i64 (lastC pre).1) (.int .i64 (lastC pre).2)) := hL
        have KW : Hid (Has1 W (w7.heap.size + 1) (.int .i64 (pre.length : Int))) := hk
        have XW : Hid (Has2 W Bx (.int .i64 u.1) (.int .i64 u.2)) := hX
        have AW : Hid (Has4 W w.heap.size (.int .i64 c) (.int .i64 r) (.int .i64 d) (.int .i64 s)) := A_w7.out.bel hB
        have RW : Hid (Has1 W (w.heap.size + 1 + 1 + 1) (.bool false)) := Has1.bel ⟨Boxed.cell Q_w7.out, Boxed.frozen Q_w7.out⟩ hB
        have ZW : Hid (Below W.heap.size W W) := Below.refl _ _
        have HBW : Hid (Below w7.heap.size w7 W) := hB
        have LW7sz : Hid (w7.heap.size ≤ W.heap.size) := hB.size
        have hlen : (pre.length : Int) ≤ 1048576 := by have := nA_bd c r d s; omega
        clear hL hk hX hB hr hlt hL0 hK0 hB0
        by_cases hp : pre = []
        · have hk0 : (pre.length : Int) ≤ 0 := by rw [hp]; decide
          have hp' : Hid (pre = []) := hp
          clear hp
          obtain ⟨⟨l0, l1⟩, l2, l3⟩ := LW.out
          obtain ⟨k0, k1⟩ := KW.out
          obtain ⟨⟨x0, x1⟩, _, _⟩ := XW.out
          obtain ⟨a0, a1, a2, a3, _, _, _, _⟩ := AW.out
          obtain ⟨q0, q1⟩ := RW.out
          gi_wp2_with (fail)
          refine ⟨trivial, ?_⟩
          gi_wp2_with (fail)
          refine ⟨trivial, (CallsIn.inRound l (callsIn_wide.2 (H8.out c r d s u.1 u.2 _))).mono ?_⟩
          rintro e V2 ⟨rfl, hb⟩
          clear l0 l1 l2 l3 k0 k1 x0 x1 a0 a1 a2 a3 q0 q1
          have LV2 : Hid (Has2 V2 w7.heap.size (.int .i64 (lastC pre).1) (.int .i64 (lastC pre).2)) := LW.out.bel' hb
          have KV2 : Hid (Has1 V2 (w7.heap.size + 1) (.int .i64 (pre.length : Int))) := KW.out.bel hb
          have XV2 : Hid (Has2 V2 Bx (.int .i64 u.1) (.int .i64 u.2)) := XW.out.bel' hb
          have AV2 : Hid (Has4 V2 w.heap.size (.int .i64 c) (.int .i64 r) (.int .i64 d) (.int .i64 s)) := AW.out.bel hb
          have RV2 : Hid (Has1 V2 (w.heap.size + 1 + 1 + 1) (.bool false)) := RW.out.bel hb
          have ZV2 : Hid (Below W.heap.size W V2) := ZW.out.trans (hb.mono ZW.out.size)
          clear hb LW KW XW AW RW ZW
          cases hi : inA c r d s u.1 u.2
          · obtain ⟨⟨l0, l1⟩, l2, l3⟩ := LV2.out
            obtain ⟨k0, k1⟩ := KV2.out
            obtain ⟨⟨x0, x1⟩, _, _⟩ := XV2.out
            obtain ⟨a0, a1, a2, a3, _, _, _, _⟩ := AV2.out
            obtain ⟨q0, q1⟩ := RV2.out
            gi_wp2_with (fail)
            refine ⟨trivial, ?_⟩
            gi_wp2_with (fail)
            exact ⟨((keeps_below ZV2.out).trans (KeepsOthers.setCell _ _ _)).from _, rfl, pre, u, rfl, .inr (.inl hi)⟩
          · obtain ⟨⟨l0, l1⟩, l2, l3⟩ := LV2.out
            obtain ⟨k0, k1⟩ := KV2.out
            obtain ⟨⟨x0, x1⟩, _, _⟩ := XV2.out
            obtain ⟨a0, a1, a2, a3, _, _, _, _⟩ := AV2.out
            obtain ⟨q0, q1⟩ := RV2.out
            gi_wp2_with (fail)
            refine ⟨trivial, (CallsIn.inRound l (callsIn_wide.2 (H9.out u.1 u.2 _))).mono ?_⟩
            rintro e V3 ⟨rfl, hb⟩
            clear l0 l1 l2 l3 k0 k1 x0 x1 a0 a1 a2 a3 q0 q1
            have LV3 : Hid (Has2 V3 w7.heap.size (.int .i64 (lastC pre).1) (.int .i64 (lastC pre).2)) := LV2.out.bel' hb
            have KV3 : Hid (Has1 V3 (w7.heap.size + 1) (.int .i64 (pre.length : Int))) := KV2.out.bel hb
            have XV3 : Hid (Has2 V3 Bx (.int .i64 u.1) (.int .i64 u.2)) := XV2.out.bel' hb
            have AV3 : Hid (Has4 V3 w.heap.size (.int .i64 c) (.int .i64 r) (.int .i64 d) (.int .i64 s)) := AV2.out.bel hb
            have RV3 : Hid (Has1 V3 (w.heap.size + 1 + 1 + 1) (.bool false)) := RV2.out.bel hb
            have ZV3 : Hid (Below W.heap.size W V3) := ZV2.out.trans (hb.mono ZV2.out.size)
            clear hb LV2 KV2 XV2 AV2 RV2 ZV2
            cases hv : vC u.1 u.2
            · obtain ⟨⟨l0, l1⟩, l2, l3⟩ := LV3.out
              obtain ⟨k0, k1⟩ := KV3.out
              obtain ⟨⟨x0, x1⟩, _, _⟩ := XV3.out
              obtain ⟨a0, a1, a2, a3, _, _, _, _⟩ := AV3.out
              obtain ⟨q0, q1⟩ := RV3.out
              gi_wp2_with (fail)
              exact ⟨((keeps_below ZV3.out).trans (KeepsOthers.setCell _ _ _)).from _, rfl, pre, u, rfl, .inr (.inr hv)⟩
            · obtain ⟨⟨l0, l1⟩, l2, l3⟩ := LV3.out
              obtain ⟨k0, k1⟩ := KV3.out
              obtain ⟨⟨x0, x1⟩, _, _⟩ := XV3.out
              obtain ⟨a0, a1, a2, a3, _, _, _, _⟩ := AV3.out
              obtain ⟨q0, q1⟩ := RV3.out
              gi_wp2_with (fail)
              have hz := LW7sz.out
              have Y1 : Below w7.heap.size W ((V3.setCell ⟨w7.heap.size, 0, none⟩ (.int .i64 u.1)).setCell ⟨w7.heap.size, 1, none⟩ (.int .i64 u.2)) := ((ZV3.out.mono hz).setCell (p := ⟨w7.heap.size, 0, none⟩) (Nat.le_refl _) _).setCell (p := ⟨w7.heap.size, 1, none⟩) (Nat.le_refl _) _
              have Y2 := Y1.setCell (p := ⟨w7.heap.size + 1, 0, none⟩) (Nat.le_succ _) (.int .i64 ((pre.length : Int) + 1))
              refine ⟨(((((keeps_below ZV3.out).trans (KeepsOthers.setCell _ _ _)).trans (KeepsOthers.setCell _ _ _)).trans (KeepsOthers.setCell _ _ _))).from _, Y2, ⟨?_, ?_⟩, HBW.out.trans Y2⟩
              · rw [lastC_snoc]
                have h2 := (LV3.out.put0 (.int .i64 u.1)).put1 (.int .i64 u.2)
                refine ⟨⟨?_, ?_⟩, ?_, ?_⟩
                · rw [World.cell?_setCell_other _ _ _ _ (by simp)]; exact h2.1.1
                · rw [World.cell?_setCell_other _ _ _ _ (by simp)]; exact h2.1.2
                · rw [World.frozen?_setCell]; exact h2.2.1
                · rw [World.frozen?_setCell]; exact h2.2.2
              · have h1 : ((V3.setCell ⟨w7.heap.size, 0, none⟩ (.int .i64 u.1)).setCell ⟨w7.heap.size, 1, none⟩ (.int .i64 u.2)).cell? ⟨w7.heap.size + 1, 0, none⟩ = some (.int .i64 (pre.length : Int)) := by
                  rw [World.cell?_setCell_other _ _ _ _ (by simp), World.cell?_setCell_other _ _ _ _ (by simp)]; exact KV3.out.1
                refine ⟨?_, ?_⟩
                · rw [World.cell?_setCell_same _ _ _ h1, List.length_append, List.length_singleton]; rfl
                · rw [World.frozen?_setCell, World.frozen?_setCell, World.frozen?_setCell]; exact KV3.out.2
        · have hk0 : 0 < (pre.length : Int) := by
            cases pre with
            | nil => exact absurd rfl hp
            | cons a t => rw [List.length_cons]; omega
          have hp' : Hid (pre ≠ []) := hp
          clear hp
          obtain ⟨⟨l0, l1⟩, l2, l3⟩ := LW.out
          obtain ⟨k0, k1⟩ := KW.out
          obtain ⟨⟨x0, x1⟩, _, _⟩ := XW.out
          obtain ⟨a0, a1, a2, a3, _, _, _, _⟩ := AW.out
          obtain ⟨q0, q1⟩ := RW.out
          gi_wp2_with (fail)
          refine ⟨trivial, (CallsIn.inRound l (callsIn_wide.2 (H7.out (lastC pre).1 (lastC pre).2 u.1 u.2 _))).mono ?_⟩
          rintro e V1 ⟨rfl, hb⟩
          clear l0 l1 l2 l3 k0 k1 x0 x1 a0 a1 a2 a3 q0 q1
          have LV1 : Hid (Has2 V1 w7.heap.size (.int .i64 (lastC pre).1) (.int .i64 (lastC pre).2)) := LW.out.bel' hb
          have KV1 : Hid (Has1 V1 (w7.heap.size + 1) (.int .i64 (pre.length : Int))) := KW.out.bel hb
          have XV1 : Hid (Has2 V1 Bx (.int .i64 u.1) (.int .i64 u.2)) := XW.out.bel' hb
          have AV1 : Hid (Has4 V1 w.heap.size (.int .i64 c) (.int .i64 r) (.int .i64 d) (.int .i64 s)) := AW.out.bel hb
          have RV1 : Hid (Has1 V1 (w.heap.size + 1 + 1 + 1) (.bool false)) := RW.out.bel hb
          have ZV1 : Hid (Below W.heap.size W V1) := ZW.out.trans (hb.mono ZW.out.size)
          clear hb LW KW XW AW RW ZW
          by_cases ho : 0 ≤ ordC (lastC pre).1 (lastC pre).2 u.1 u.2
          · have HO : Hid (Bad c r d s pre u) := .inl ⟨hp'.out, ho⟩
            obtain ⟨⟨l0, l1⟩, l2, l3⟩ := LV1.out
            obtain ⟨k0, k1⟩ := KV1.out
            obtain ⟨⟨x0, x1⟩, _, _⟩ := XV1.out
            obtain ⟨a0, a1, a2, a3, _, _, _, _⟩ := AV1.out
            obtain ⟨q0, q1⟩ := RV1.out
            gi_wp2_with (fail)
            refine ⟨trivial, ?_⟩
            gi_wp2_with (fail)
            refine ⟨trivial, ?_⟩
            gi_wp2_with (fail)
            exact ⟨((keeps_below ZV1.out).trans (KeepsOthers.setCell _ _ _)).from _, rfl, pre, u, rfl, HO.out⟩
          · have ho' : ordC (lastC pre).1 (lastC pre).2 u.1 u.2 < 0 := by omega
            clear ho
            obtain ⟨⟨l0, l1⟩, l2, l3⟩ := LV1.out
            obtain ⟨k0, k1⟩ := KV1.out
            obtain ⟨⟨x0, x1⟩, _, _⟩ := XV1.out
            obtain ⟨a0, a1, a2, a3, _, _, _, _⟩ := AV1.out
            obtain ⟨q0, q1⟩ := RV1.out
            gi_wp2_with (fail)
            refine ⟨trivial, (CallsIn.inRound l (callsIn_wide.2 (H8.out c r d s u.1 u.2 _))).mono ?_⟩
            rintro e V2 ⟨rfl, hb⟩
            clear l0 l1 l2 l3 k0 k1 x0 x1 a0 a1 a2 a3 q0 q1
            have LV2 : Hid (Has2 V2 w7.heap.size (.int .i64 (lastC pre).1) (.int .i64 (lastC pre).2)) := LV1.out.bel' hb
            have KV2 : Hid (Has1 V2 (w7.heap.size + 1) (.int .i64 (pre.length : Int))) := KV1.out.bel hb
            have XV2 : Hid (Has2 V2 Bx (.int .i64 u.1) (.int .i64 u.2)) := XV1.out.bel' hb
            have AV2 : Hid (Has4 V2 w.heap.size (.int .i64 c) (.int .i64 r) (.int .i64 d) (.int .i64 s)) := AV1.out.bel hb
            have RV2 : Hid (Has1 V2 (w.heap.size + 1 + 1 + 1) (.bool false)) := RV1.out.bel hb
            have ZV2 : Hid (Below W.heap.size W V2) := ZV1.out.trans (hb.mono ZV1.out.size)
            clear hb LV1 KV1 XV1 AV1 RV1 ZV1
            cases hi : inA c r d s u.1 u.2
            · obtain ⟨⟨l0, l1⟩, l2, l3⟩ := LV2.out
              obtain ⟨k0, k1⟩ := KV2.out
              obtain ⟨⟨x0, x1⟩, _, _⟩ := XV2.out
              obtain ⟨a0, a1, a2, a3, _, _, _, _⟩ := AV2.out
              obtain ⟨q0, q1⟩ := RV2.out
              gi_wp2_with (fail)
              refine ⟨trivial, ?_⟩
              gi_wp2_with (fail)
              exact ⟨((keeps_below ZV2.out).trans (KeepsOthers.setCell _ _ _)).from _, rfl, pre, u, rfl, .inr (.inl hi)⟩
            · obtain ⟨⟨l0, l1⟩, l2, l3⟩ := LV2.out
              obtain ⟨k0, k1⟩ := KV2.out
              obtain ⟨⟨x0, x1⟩, _, _⟩ := XV2.out
              obtain ⟨a0, a1, a2, a3, _, _, _, _⟩ := AV2.out
              obtain ⟨q0, q1⟩ := RV2.out
              gi_wp2_with (fail)
              refine ⟨trivial, (CallsIn.inRound l (callsIn_wide.2 (H9.out u.1 u.2 _))).mono ?_⟩
              rintro e V3 ⟨rfl, hb⟩
              clear l0 l1 l2 l3 k0 k1 x0 x1 a0 a1 a2 a3 q0 q1
              have LV3 : Hid (Has2 V3 w7.heap.size (.int .i64 (lastC pre).1) (.int .i64 (lastC pre).2)) := LV2.out.bel' hb
              have KV3 : Hid (Has1 V3 (w7.heap.size + 1) (.int .i64 (pre.length : Int))) := KV2.out.bel hb
              have XV3 : Hid (Has2 V3 Bx (.int .i64 u.1) (.int .i64 u.2)) := XV2.out.bel' hb
              have AV3 : Hid (Has4 V3 w.heap.size (.int .i64 c) (.int .i64 r) (.int .i64 d) (.int .i64 s)) := AV2.out.bel hb
              have RV3 : Hid (Has1 V3 (w.heap.size + 1 + 1 + 1) (.bool false)) := RV2.out.bel hb
              have ZV3 : Hid (Below W.heap.size W V3) := ZV2.out.trans (hb.mono ZV2.out.size)
              clear hb LV2 KV2 XV2 AV2 RV2 ZV2
              cases hv : vC u.1 u.2
              · obtain ⟨⟨l0, l1⟩, l2, l3⟩ := LV3.out
                obtain ⟨k0, k1⟩ := KV3.out
                obtain ⟨⟨x0, x1⟩, _, _⟩ := XV3.out
                obtain ⟨a0, a1, a2, a3, _, _, _, _⟩ := AV3.out
                obtain ⟨q0, q1⟩ := RV3.out
                gi_wp2_with (fail)
                exact ⟨((keeps_below ZV3.out).trans (KeepsOthers.setCell _ _ _)).from _, rfl, pre, u, rfl, .inr (.inr hv)⟩
              · obtain ⟨⟨l0, l1⟩, l2, l3⟩ := LV3.out
                obtain ⟨k0, k1⟩ := KV3.out
                obtain ⟨⟨x0, x1⟩, _, _⟩ := XV3.out
                obtain ⟨a0, a1, a2, a3, _, _, _, _⟩ := AV3.out
                obtain ⟨q0, q1⟩ := RV3.out
                gi_wp2_with (fail)
                have hz := LW7sz.out
                have Y1 : Below w7.heap.size W ((V3.setCell ⟨w7.heap.size, 0, none⟩ (.int .i64 u.1)).setCell ⟨w7.heap.size, 1, none⟩ (.int .i64 u.2)) := ((ZV3.out.mono hz).setCell (p := ⟨w7.heap.size, 0, none⟩) (Nat.le_refl _) _).setCell (p := ⟨w7.heap.size, 1, none⟩) (Nat.le_refl _) _
                have Y2 := Y1.setCell (p := ⟨w7.heap.size + 1, 0, none⟩) (Nat.le_succ _) (.int .i64 ((pre.length : Int) + 1))
                refine ⟨(((((keeps_below ZV3.out).trans (KeepsOthers.setCell _ _ _)).trans (KeepsOthers.setCell _ _ _)).trans (KeepsOthers.setCell _ _ _))).from _, Y2, ⟨?_, ?_⟩, HBW.out.trans Y2⟩
                · rw [lastC_snoc]
                  have h2 := (LV3.out.put0 (.int .i64 u.1)).put1 (.int .i64 u.2)
                  refine ⟨⟨?_, ?_⟩, ?_, ?_⟩
                  · rw [World.cell?_setCell_other _ _ _ _ (by simp)]; exact h2.1.1
                  · rw [World.cell?_setCell_other _ _ _ _ (by simp)]; exact h2.1.2
                  · rw [World.frozen?_setCell]; exact h2.2.1
                  · rw [World.frozen?_setCell]; exact h2.2.2
                · have h1 : ((V3.setCell ⟨w7.heap.size, 0, none⟩ (.int .i64 u.1)).setCell ⟨w7.heap.size, 1, none⟩ (.int .i64 u.2)).cell? ⟨w7.heap.size + 1, 0, none⟩ = some (.int .i64 (pre.length : Int)) := by
                    rw [World.cell?_setCell_other _ _ _ _ (by simp), World.cell?_setCell_other _ _ _ _ (by simp)]; exact KV3.out.1
                  refine ⟨?_, ?_⟩
                  · rw [World.cell?_setCell_same _ _ _ h1, List.length_append, List.length_singleton]; rfl
                  · rw [World.frozen?_setCell, World.frozen?_setCell, World.frozen?_setCell]; exact KV3.out.2
      case done =>
        subst hact
        rintro D ys W hD hys ⟨⟨hL, hk⟩, hB⟩ hK
        have hmx : Tryd.prog.follows .mixedOrders = true := by kernel_rfl
        have hn : (ys.length : Int) = (nA c r d s : Nat) := by rw [hys]; unfold clL; rw [List.length_map, List.length_range]
        rw [hn] at hk
        obtain ⟨a0, a1, a2, a3, _, _, _, _⟩ := A_w7.out.bel hB
        obtain ⟨q0, q1⟩ : Has1 W (w.heap.size + 1 + 1 + 1) (.bool false) := Has1.bel ⟨Boxed.cell Q_w7.out, Boxed.frozen Q_w7.out⟩ hB
        obtain ⟨k0, k1⟩ := hk
        have HB : Hid (Below w7.heap.size w7 W) := hB
        have HK : Hid (W.heap[D]? = some (.deferred (some []))) := hK
        have HDD : Hid (w7.heap.size ≤ D) := by show _ ≤ _; simp at hD; omega
        have hDW : Hid (D < W.heap.size) := (Array.getElem?_eq_some_iff.1 hK).1
        have hkl : Hid (w7.heap.size + 1 < W.heap.size) := cell_lt k0
        have hql : Hid (w.heap.size + 1 + 1 + 1 < W.heap.size) := cell_lt q0
        clear hys hn hL hB hK hD
        gi_wp2_with (fail)
        have hwf : Fence.wide.fn 27 := trivial
        refine Code.wpIn_mono (Q := fun ex a' w' => match ex with | .normal => Exit.then _ _ .normal a' w' | _ => False) (fun ex a' w' h => by cases ex <;> first | exact h | exact h.elim) ?_
        gi_region_with_o (gi_at_call 27; refine (callsIn_wide.2 (H10.out _)).mono ?_; rintro e w8 ⟨rfl, hb⟩; have hb8 : Below W.heap.size W w8 := (Below.drew (Below.refl _ W)).trans hb; have k8 : w8.cell? ⟨w7.heap.size + 1, 0, none⟩ = _ := (hb8.cell (by exact hkl.out)).trans k0; have q8 : w8.cell? ⟨w.heap.size + 1 + 1 + 1, 0, none⟩ = _ := (hb8.cell (by exact hql.out)).trans q0; have q9 : w8.frozen? ⟨w.heap.size + 1 + 1 + 1, 0, none⟩ = _ := (hb8.frozen (by exact hql.out)).trans q1; have HB8 : Hid (Below W.heap.size W w8) := hb8; clear hb hb8)
        all_goals
          gi_wp2
          have hK8 : w8.heap[D]? = some (.deferred (some [])) := (HB8.out.block D hDW.out).trans HK.out
          have hK9 := (KeepsOthers.setCell w8 ⟨w.heap.size + 1 + 1 + 1, 0, none⟩ (.bool true)).same D _ hK8 rfl
          refine ⟨by simp, .inl ⟨_, _, rfl, run_takeDeferred hK9, ?_⟩⟩
          have hc5 := cell_kept (World.cell?_setCell_same' w8 ⟨w.heap.size + 1 + 1 + 1, 0, none⟩ (.bool true) (by rw [q8]; rfl)) (grownBy_putObj' _ D (.deferred none)) (fun r e => by cases e; exact ⟨_, hK9, rfl⟩)
          have hz := Bw7.out.size
          have hz2 : w.heap.size ≤ W.heap.size := Nat.le_trans hz HB.out.size
          refine ⟨.bool true, ?_, rfl, ((((Bw7.out.trans (HB.out.mono hz)).trans (HB8.out.mono hz2)).setCell (p := ⟨w.heap.size + 1 + 1 + 1, 0, none⟩) (by show w.heap.size ≤ w.heap.size + 1 + 1 + 1; omega) _).trans (belowK_b (w := w7) hz _ D _ _ HDD.out hK9 rfl rfl))⟩
          simp [results, Tryd.results7, go_sem, hc5]
      case stop =>
        rintro D cd pre' W hD hpre ⟨_, pre, u, rfl, hbad⟩ _
        exact absurd hbad (not_bad c r d s pre u hpre)
  · have hi2 : I3 = (I1 && I2) := hin.out
    subst hi2
    clear hin
    cases I1 <;> cases I2
    all_goals
      obtain ⟨uM0, uM1, uM2, uM3, _, _, _, _⟩ := M_w5.out
      obtain ⟨⟨uP0, uP1⟩, _, _⟩ := P_w5.out
      gi_wp2_with (fail)
      refine ⟨trivial, (callsIn_wide.2 (H5.out _)).mono ?_⟩
      rintro e w6 ⟨rfl, hb⟩
      clear uM0 uM1 uM2 uM3 uP0 uP1
      have Bw6 : Hid (Below w.heap.size w w6) := Bw5.out.trans (hb.mono Bw5.out.size)
      have A_w6 : Hid (Has4 w6 w.heap.size (.int .i64 c) (.int .i64 r) (.int .i64 d) (.int .i64 s)) := A_w5.out.bel hb
      have B_w6 : Hid (Has4 w6 (w.heap.size + 1) (.int .i64 c') (.int .i64 r') (.int .i64 d') (.int .i64 s')) := B_w5.out.bel hb
      have P_w6 : Hid (Has2 w6 (w.heap.size + 1 + 1) (.int .i64 x) (.int .i64 y)) := P_w5.out.bel' hb
      have Q_w6 : Hid (Boxed w6 (w.heap.size + 1 + 1 + 1) 4 (.bool false)) := boxBel Q_w5.out hb
      have M_w6 : Hid (Has4 w6 w2.heap.size (.int .i64 m1) (.int .i64 m2) (.int .i64 m3) (.int .i64 m4)) := M_w5.out.bel hb
      have N_w6 : Hid (Has4 w6 w3.heap.size (.int .i64 m1) (.int .i64 m2) (.int .i64 m3) (.int .i64 m4)) := N_w5.out.bel hb
      clear A_w5 B_w5 P_w5 Q_w5 M_w5 N_w5
      clear hb Bw5
      obtain ⟨uM0, uM1, uM2, uM3, _, _, _, _⟩ := M_w6.out
      obtain ⟨uN0, uN1, uN2, uN3, _, _, _, _⟩ := N_w6.out
      have uQ0 := Boxed.cell Q_w6.out
      have uQ1 := Boxed.frozen Q_w6.out
      obtain ⟨uA0, uA1, uA2, uA3, _, _, _, _⟩ := A_w6.out
      gi_wp2_with (fail)
      refine ⟨trivial, (callsIn_wide.2 (H6.out _)).mono ?_⟩
      rintro e w7 ⟨lb, rfl, hseq, hb⟩
      clear uM0 uM1 uM2 uM3 uN0 uN1 uN2 uN3 uQ0 uQ1 uA0 uA1 uA2 uA3
      have Bw7 : Hid (Below w.heap.size w w7) := Bw6.out.trans (hb.mono Bw6.out.size)
      have A_w7 : Hid (Has4 w7 w.heap.size (.int .i64 c) (.int .i64 r) (.int .i64 d) (.int .i64 s)) := A_w6.out.bel hb
      have B_w7 : Hid (Has4 w7 (w.heap.size + 1) (.int .i64 c') (.int .i64 r') (.int .i64 d') (.int .i64 s')) := B_w6.out.bel hb
      have P_w7 : Hid (Has2 w7 (w.heap.size + 1 + 1) (.int .i64 x) (.int .i64 y)) := P_w6.out.bel' hb
      have Q_w7 : Hid (Boxed w7 (w.heap.size + 1 + 1 + 1) 4 (.bool false)) := boxBel Q_w6.out hb
      have M_w7 : Hid (Has4 w7 w2.heap.size (.int .i64 m1) (.int .i64 m2) (.int .i64 m3) (.int .i64 m4)) := M_w6.out.bel hb
      have N_w7 : Hid (Has4 w7 w3.heap.size (.int .i64 m1) (.int .i64 m2) (.int .i64 m3) (.int .i64 m4)) := N_w6.out.bel hb
      clear A_w6 B_w6 P_w6 Q_w6 M_w6 N_w6
      clear hb Bw6
      have HSEQ : Hid (CellsSeq 52 lb c r d s w7) := hseq
      clear hseq
      obtain ⟨uA0, uA1, uA2, uA3, _, _, _, _⟩ := A_w7.out
      have uQ0 := Boxed.cell Q_w7.out
      have uQ1 := Boxed.frozen Q_w7.out
      gi_wp2_with (fail)
      clear uA0 uA1 uA2 uA3 uQ0 uQ1
      have hL0 : Has2 ((w7.alloc (.cells #[.int .i64 0, .int .i64 0] 23)).alloc (.cells #[.int .i64 0] 3)) w7.heap.size (.int .i64 0) (.int .i64 0) := (has2_new w7 _ _ _).bel' ((Below.refl _ _).alloc (Nat.le_refl _) _)
      have hK0 : Has1 ((w7.alloc (.cells #[.int .i64 0, .int .i64 0] 23)).alloc (.cells #[.int .i64 0] 3)) (w7.heap.size + 1) (.int .i64 0) := by
        have := has1_new (w7.alloc (.cells #[.int .i64 0, .int .i64 0] 23)) (.int .i64 0) 3
        rw [World.size_alloc] at this
        exact this
      have hB0 : Below w7.heap.size w7 ((w7.alloc (.cells #[.int .i64 0, .int .i64 0] 23)).alloc (.cells #[.int .i64 0] 3)) := (((Gr.refl w7).alloc _ _).alloc _ _).below
      have hq : w.heap.size + 1 + 1 + 1 < w7.heap.size := Boxed.lt Q_w7.out
      have HQ : Hid (w.heap.size + 1 + 1 + 1 < w7.heap.size) := hq
      clear hq
      generalize hact : Act.mk _ _ = a0
      refine wpIn_rangeFunc_ownH rfl (by decide) (gf := 52) (lb := lb) (by rw [← hact]; rfl) trivial (enters_of Tryd.func52 (by kernel_rfl) rfl)
        (HSEQ.out 8 (by decide)) belowK_t (belowK_b (by simp; omega)) hB0 (fun _ => rfl)
        (fun pre W => (Has2 W w7.heap.size (.int .i64 (lastC pre).1) (.int .i64 (lastC pre).2) ∧ Has1 W (w7.heap.size + 1) (.int .i64 (pre.length : Int))) ∧ Below w7.heap.size w7 W)
        (fun cd pre' _ => cd = .ret ∧ ∃ pre x, pre' = pre ++ [x] ∧ Bad c r d s pre x)
        (OwnFrom.and (Own.from (fun s A B row hs hg hr => ⟨⟨⟨cell_kept hs.1.1.1 hg hr, cell_kept hs.1.1.2 hg hr⟩, (frozen_kept hs.1.1.1 hg hr).trans hs.1.2.1, (frozen_kept hs.1.1.2 hg hr).trans hs.1.2.2⟩, cell_kept hs.2.1 hg hr, (frozen_kept hs.2.1 hg hr).trans hs.2.2⟩) _) (ownFrom_below (Nat.le_refl _) (by simp; omega)))
        (fun _ _ _ _ _ hs _ _ => hs)
        ⟨⟨hL0, hK0⟩, hB0⟩
        (fun x a' W => ∃ Bx, w7.heap.size + 1 < Bx ∧ Has2 W Bx (.int .i64 x.1) (.int .i64 x.2) ∧ a' = { tmps := (a0.tmps.setIfInBounds 69 (.agg #[.int .i64 x.1, .int .i64 x.2])).setIfInBounds 18 (.pointer (some ⟨Bx, 0, none⟩)), defers := [] })
        (fun x a' => Own.from (fun s A B row hs hg hr => by
          obtain ⟨Bx, h1, h2, h3⟩ := hs
          exact ⟨Bx, h1, ⟨⟨cell_kept h2.1.1 hg hr, cell_kept h2.1.2 hg hr⟩, (frozen_kept h2.1.1 hg hr).trans h2.2.1, (frozen_kept h2.1.2 hg hr).trans h2.2.2⟩, h3⟩) _)
        ?assign ?body ?done ?stop
      case assign =>
        subst hact
        rintro l pre x W K ⟨⟨hL, hk⟩, hB⟩ hK
        have hsz : w7.heap.size + 1 < W.heap.size := cell_lt hk.1
        simp only [encC]
        gi_wp2
        generalize hBx : W.heap.size = Bx at *
        have hX : Has2 (W.alloc (.cells #[.int .i64 x.1, .int .i64 x.2] 23)) Bx (.int .i64 x.1) (.int .i64 x.2) := by rw [← hBx]; exact has2_new _ _ _ _
        have hbW : Below W.heap.size W (W.alloc (.cells #[.int .i64 x.1, .int .i64 x.2] 23)) := ((Gr.refl W).alloc _ _).below
        refine hK _ _ ((KeepsOthers.alloc _ _).from _) (hbW.mono (by omega)) ⟨⟨hL.bel' hbW, hk.bel hbW⟩, hB.trans (hbW.mono (by omega))⟩ ⟨Bx, hsz, hX, ?_⟩
        rfl
      case body =>
        subst hact
        rintro l pre u a' W hl ⟨rr, hr⟩ ⟨⟨hL, hk⟩, hB⟩ ⟨Bx, hBx, hX, rfl⟩ hlt
        have LW : Hid (Has2 W w7.heap.size (.int .i64 (lastC pre).1) (.int .i64 (lastC pre).2)) := hL
        have KW : Hid (Has1 W (w7.heap.size + 1) (.int .i64 (pre.length : Int))) := hk
        have XW : Hid (Has2 W Bx (.int .i64 u.1) (.int .i64 u.2)) := hX
        have AW : Hid (Has4 W w.heap.size (.int .i64 c) (.int .i64 r) (.int .i64 d) (.int .i64 s)) := A_w7.out.bel hB
        have RW : Hid (Has1 W (w.heap.size + 1 + 1 + 1) (.bool false)) := Has1.bel ⟨Boxed.cell Q_w7.out, Boxed.frozen Q_w7.out⟩ hB
        have ZW : Hid (Below W.heap.size W W) := Below.refl _ _
        have HBW : Hid (Below w7.heap.size w7 W) := hB
        have LW7sz : Hid (w7.heap.size ≤ W.heap.size) := hB.size
        have hlen : (pre.length : Int) ≤ 1048576 := by have := nA_bd c r d s; omega
        clear hL hk hX hB hr hlt hL0 hK0 hB0
        by_cases hp : pre = []
        · have hk0 : (pre.length : Int) ≤ 0 := by rw [hp]; decide
          have hp' : Hid (pre = []) := hp
          clear hp
          obtain ⟨⟨l0, l1⟩, l2, l3⟩ := LW.out
          obtain ⟨k0, k1⟩ := KW.out
          obtain ⟨⟨x0, x1⟩, _, _⟩ := XW.out
          obtain ⟨a0, a1, a2, a3, _, _, _, _⟩ := AW.out
          obtain ⟨q0, q1⟩ := RW.out
          gi_wp2_with (fail)
          refine ⟨trivial, ?_⟩
          gi_wp2_with (fail)
          refine ⟨trivial, (CallsIn.inRound l (callsIn_wide.2 (H8.out c r d s u.1 u.2 _))).mono ?_⟩
          rintro e V2 ⟨rfl, hb⟩
          clear l0 l1 l2 l3 k0 k1 x0 x1 a0 a1 a2 a3 q0 q1
          have LV2 : Hid (Has2 V2 w7.heap.size (.int .i64 (lastC pre).1) (.int .i64 (lastC pre).2)) := LW.out.bel' hb
          have KV2 : Hid (Has1 V2 (w7.heap.size + 1) (.int .i64 (pre.length : Int))) := KW.out.bel hb
          have XV2 : Hid (Has2 V2 Bx (.int .i64 u.1) (.int .i64 u.2)) := XW.out.bel' hb
          have AV2 : Hid (Has4 V2 w.heap.size (.int .i64 c) (.int .i64 r) (.int .i64 d) (.int .i64 s)) := AW.out.bel hb
          have RV2 : Hid (Has1 V2 (w.heap.size + 1 + 1 + 1) (.bool false)) := RW.out.bel hb
          have ZV2 : Hid (Below W.heap.size W V2) := ZW.out.trans (hb.mono ZW.out.size)
          clear hb LW KW XW AW RW ZW
          cases hi : inA c r d s u.1 u.2
          · obtain ⟨⟨l0, l1⟩, l2, l3⟩ := LV2.out
            obtain ⟨k0, k1⟩ := KV2.out
            obtain ⟨⟨x0, x1⟩, _, _⟩ := XV2.out
            obtain ⟨a0, a1, a2, a3, _, _, _, _⟩ := AV2.out
            obtain ⟨q0, q1⟩ := RV2.out
            gi_wp2_with (fail)
            refine ⟨trivial, ?_⟩
            gi_wp2_with (fail)
            exact ⟨((keeps_below ZV2.out).trans (KeepsOthers.setCell _ _ _)).from _, rfl, pre, u, rfl, .inr (.inl hi)⟩
          · obtain ⟨⟨l0, l1⟩, l2, l3⟩ := LV2.out
            obtain ⟨k0, k1⟩ := KV2.out
            obtain ⟨⟨x0, x1⟩, _, _⟩ := XV2.out
            obtain ⟨a0, a1, a2, a3, _, _, _, _⟩ := AV2.out
            obtain ⟨q0, q1⟩ := RV2.out
            gi_wp2_with (fail)
            refine ⟨trivial, (CallsIn.inRound l (callsIn_wide.2 (H9.out u.1 u.2 _))).mono ?_⟩
            rintro e V3 ⟨rfl, hb⟩
            clear l0 l1 l2 l3 k0 k1 x0 x1 a0 a1 a2 a3 q0 q1
            have LV3 : Hid (Has2 V3 w7.heap.size (.int .i64 (lastC pre).1) (.int .i64 (lastC pre).2)) := LV2.out.bel' hb
            have KV3 : Hid (Has1 V3 (w7.heap.size + 1) (.int .i64 (pre.length : Int))) := KV2.out.bel hb
            have XV3 : Hid (Has2 V3 Bx (.int .i64 u.1) (.int .i64 u.2)) := XV2.out.bel' hb
            have AV3 : Hid (Has4 V3 w.heap.size (.int .i64 c) (.int .i64 r) (.int .i64 d) (.int .i64 s)) := AV2.out.bel hb
            have RV3 : Hid (Has1 V3 (w.heap.size + 1 + 1 + 1) (.bool false)) := RV2.out.bel hb
            have ZV3 : Hid (Below W.heap.size W V3) := ZV2.out.trans (hb.mono ZV2.out.size)
            clear hb LV2 KV2 XV2 AV2 RV2 ZV2
            cases hv : vC u.1 u.2
            · obtain ⟨⟨l0, l1⟩, l2, l3⟩ := LV3.out
              obtain ⟨k0, k1⟩ := KV3.out
              obtain ⟨⟨x0, x1⟩, _, _⟩ := XV3.out
              obtain ⟨a0, a1, a2, a3, _, _, _, _⟩ := AV3.out
              obtain ⟨q0, q1⟩ := RV3.out
              gi_wp2_with (fail)
              exact ⟨((keeps_below ZV3.out).trans (KeepsOthers.setCell _ _ _)).from _, rfl, pre, u, rfl, .inr (.inr hv)⟩
            · obtain ⟨⟨l0, l1⟩, l2, l3⟩ := LV3.out
              obtain ⟨k0, k1⟩ := KV3.out
              obtain ⟨⟨x0, x1⟩, _, _⟩ := XV3.out
              obtain ⟨a0, a1, a2, a3, _, _, _, _⟩ := AV3.out
              obtain ⟨q0, q1⟩ := RV3.out
              gi_wp2_with (fail)
              have hz := LW7sz.out
              have Y1 : Below w7.heap.size W ((V3.setCell ⟨w7.heap.size, 0, none⟩ (.int .i64 u.1)).setCell ⟨w7.heap.size, 1, none⟩ (.int .i64 u.2)) := ((ZV3.out.mono hz).setCell (p := ⟨w7.heap.size, 0, none⟩) (Nat.le_refl _) _).setCell (p := ⟨w7.heap.size, 1, none⟩) (Nat.le_refl _) _
              have Y2 := Y1.setCell (p := ⟨w7.heap.size + 1, 0, none⟩) (Nat.le_succ _) (.int .i64 ((pre.length : Int) + 1))
              refine ⟨(((((keeps_below ZV3.out).trans (KeepsOthers.setCell _ _ _)).trans (KeepsOthers.setCell _ _ _)).trans (KeepsOthers.setCell _ _ _))).from _, Y2, ⟨?_, ?_⟩, HBW.out.trans Y2⟩
              · rw [lastC_snoc]
                have h2 := (LV3.out.put0 (.int .i64 u.1)).put1 (.int .i64 u.2)
                refine ⟨⟨?_, ?_⟩, ?_, ?_⟩
                · rw [World.cell?_setCell_other _ _ _ _ (by simp)]; exact h2.1.1
                · rw [World.cell?_setCell_other _ _ _ _ (by simp)]; exact h2.1.2
                · rw [World.frozen?_setCell]; exact h2.2.1
                · rw [World.frozen?_setCell]; exact h2.2.2
              · have h1 : ((V3.setCell ⟨w7.heap.size, 0, none⟩ (.int .i64 u.1)).setCell ⟨w7.heap.size, 1, none⟩ (.int .i64 u.2)).cell? ⟨w7.heap.size + 1, 0, none⟩ = some (.int .i64 (pre.length : Int)) := by
                  rw [World.cell?_setCell_other _ _ _ _ (by simp), World.cell?_setCell_other _ _ _ _ (by simp)]; exact KV3.out.1
                refine ⟨?_, ?_⟩
                · rw [World.cell?_setCell_same _ _ _ h1, List.length_append, List.length_singleton]; rfl
                · rw [World.frozen?_setCell, World.frozen?_setCell, World.frozen?_setCell]; exact KV3.out.2
        · have hk0 : 0 < (pre.length : Int) := by
            cases pre with
            | nil => exact absurd rfl hp
            | cons a t => rw [List.length_cons]; omega
          have hp' : Hid (pre ≠ []) := hp
          clear hp
          obtain ⟨⟨l0, l1⟩, l2, l3⟩ := LW.out
          obtain ⟨k0, k1⟩ := KW.out
          obtain ⟨⟨x0, x1⟩, _, _⟩ := XW.out
          obtain ⟨a0, a1, a2, a3, _, _, _, _⟩ := AW.out
          obtain ⟨q0, q1⟩ := RW.out
          gi_wp2_with (fail)
          refine ⟨trivial, (CallsIn.inRound l (callsIn_wide.2 (H7.out (lastC pre).1 (lastC pre).2 u.1 u.2 _))).mono ?_⟩
          rintro e V1 ⟨rfl, hb⟩
          clear l0 l1 l2 l3 k0 k1 x0 x1 a0 a1 a2 a3 q0 q1
          have LV1 : Hid (Has2 V1 w7.heap.size (.int .i64 (lastC pre).1) (.int .i64 (lastC pre).2)) := LW.out.bel' hb
          have KV1 : Hid (Has1 V1 (w7.heap.size + 1) (.int .i64 (pre.length : Int))) := KW.out.bel hb
          have XV1 : Hid (Has2 V1 Bx (.int .i64 u.1) (.int .i64 u.2)) := XW.out.bel' hb
          have AV1 : Hid (Has4 V1 w.heap.size (.int .i64 c) (.int .i64 r) (.int .i64 d) (.int .i64 s)) := AW.out.bel hb
          have RV1 : Hid (Has1 V1 (w.heap.size + 1 + 1 + 1) (.bool false)) := RW.out.bel hb
          have ZV1 : Hid (Below W.heap.size W V1) := ZW.out.trans (hb.mono ZW.out.size)
          clear hb LW KW XW AW RW ZW
          by_cases ho : 0 ≤ ordC (lastC pre).1 (lastC pre).2 u.1 u.2
          · have HO : Hid (Bad c r d s pre u) := .inl ⟨hp'.out, ho⟩
            obtain ⟨⟨l0, l1⟩, l2, l3⟩ := LV1.out
            obtain ⟨k0, k1⟩ := KV1.out
            obtain ⟨⟨x0, x1⟩, _, _⟩ := XV1.out
            obtain ⟨a0, a1, a2, a3, _, _, _, _⟩ := AV1.out
            obtain ⟨q0, q1⟩ := RV1.out
            gi_wp2_with (fail)
            refine ⟨trivial, ?_⟩
            gi_wp2_with (fail)
            refine ⟨trivial, ?_⟩
            gi_wp2_with (fail)
            exact ⟨((keeps_below ZV1.out).trans (KeepsOthers.setCell _ _ _)).from _, rfl, pre, u, rfl, HO.out⟩
          · have ho' : ordC (lastC pre).1 (lastC pre).2 u.1 u.2 < 0 := by omega
            clear ho
            obtain ⟨⟨l0, l1⟩, l2, l3⟩ := LV1.out
            obtain ⟨k0, k1⟩ := KV1.out
            obtain ⟨⟨x0, x1⟩, _, _⟩ := XV1.out
            obtain ⟨a0, a1, a2, a3, _, _, _, _⟩ := AV1.out
            obtain ⟨q0, q1⟩ := RV1.out
            gi_wp2_with (fail)
            refine ⟨trivial, (CallsIn.inRound l (callsIn_wide.2 (H8.out c r d s u.1 u.2 _))).mono ?_⟩
            rintro e V2 ⟨rfl, hb⟩
            clear l0 l1 l2 l3 k0 k1 x0 x1 a0 a1 a2 a3 q0 q1
            have LV2 : Hid (Has2 V2 w7.heap.size (.int .i64 (lastC pre).1) (.int .i64 (lastC pre).2)) := LV1.out.bel' hb
            have KV2 : Hid (Has1 V2 (w7.heap.size + 1) (.int .i64 (pre.length : Int))) := KV1.out.bel hb
            have XV2 : Hid (Has2 V2 Bx (.int .i64 u.1) (.int .i64 u.2)) := XV1.out.bel' hb
            have AV2 : Hid (Has4 V2 w.heap.size (.int .i64 c) (.int .i64 r) (.int .i64 d) (.int .i64 s)) := AV1.out.bel hb
            have RV2 : Hid (Has1 V2 (w.heap.size + 1 + 1 + 1) (.bool false)) := RV1.out.bel hb
            have ZV2 : Hid (Below W.heap.size W V2) := ZV1.out.trans (hb.mono ZV1.out.size)
            clear hb LV1 KV1 XV1 AV1 RV1 ZV1
            cases hi : inA c r d s u.1 u.2
            · obtain ⟨⟨l0, l1⟩, l2, l3⟩ := LV2.out
              obtain ⟨k0, k1⟩ := KV2.out
              obtain ⟨⟨x0, x1⟩, _, _⟩ := XV2.out
              obtain ⟨a0, a1, a2, a3, _, _, _, _⟩ := AV2.out
              obtain ⟨q0, q1⟩ := RV2.out
              gi_wp2_with (fail)
              refine ⟨trivial, ?_⟩
              gi_wp2_with (fail)
              exact ⟨((keeps_below ZV2.out).trans (KeepsOthers.setCell _ _ _)).from _, rfl, pre, u, rfl, .inr (.inl hi)⟩
            · obtain ⟨⟨l0, l1⟩, l2, l3⟩ := LV2.out
              obtain ⟨k0, k1⟩ := KV2.out
              obtain ⟨⟨x0, x1⟩, _, _⟩ := XV2.out
              obtain ⟨a0, a1, a2, a3, _, _, _, _⟩ := AV2.out
              obtain ⟨q0, q1⟩ := RV2.out
              gi_wp2_with (fail)
              refine ⟨trivial, (CallsIn.inRound l (callsIn_wide.2 (H9.out u.1 u.2 _))).mono ?_⟩
              rintro e V3 ⟨rfl, hb⟩
              clear l0 l1 l2 l3 k0 k1 x0 x1 a0 a1 a2 a3 q0 q1
              have LV3 : Hid (Has2 V3 w7.heap.size (.int .i64 (lastC pre).1) (.int .i64 (lastC pre).2)) := LV2.out.bel' hb
              have KV3 : Hid (Has1 V3 (w7.heap.size + 1) (.int .i64 (pre.length : Int))) := KV2.out.bel hb
              have XV3 : Hid (Has2 V3 Bx (.int .i64 u.1) (.int .i64 u.2)) := XV2.out.bel' hb
              have AV3 : Hid (Has4 V3 w.heap.size (.int .i64 c) (.int .i64 r) (.int .i64 d) (.int .i64 s)) := AV2.out.bel hb
              have RV3 : Hid (Has1 V3 (w.heap.size + 1 + 1 + 1) (.bool false)) := RV2.out.bel hb
              have ZV3 : Hid (Below W.heap.size W V3) := ZV2.out.trans (hb.mono ZV2.out.size)
              clear hb LV2 KV2 XV2 AV2 RV2 ZV2
              cases hv : vC u.1 u.2
              · obtain ⟨⟨l0, l1⟩, l2, l3⟩ := LV3.out
                obtain ⟨k0, k1⟩ := KV3.out
                obtain ⟨⟨x0, x1⟩, _, _⟩ := XV3.out
                obtain ⟨a0, a1, a2, a3, _, _, _, _⟩ := AV3.out
                obtain ⟨q0, q1⟩ := RV3.out
                gi_wp2_with (fail)
                exact ⟨((keeps_below ZV3.out).trans (KeepsOthers.setCell _ _ _)).from _, rfl, pre, u, rfl, .inr (.inr hv)⟩
              · obtain ⟨⟨l0, l1⟩, l2, l3⟩ := LV3.out
                obtain ⟨k0, k1⟩ := KV3.out
                obtain ⟨⟨x0, x1⟩, _, _⟩ := XV3.out
                obtain ⟨a0, a1, a2, a3, _, _, _, _⟩ := AV3.out
                obtain ⟨q0, q1⟩ := RV3.out
                gi_wp2_with (fail)
                have hz := LW7sz.out
                have Y1 : Below w7.heap.size W ((V3.setCell ⟨w7.heap.size, 0, none⟩ (.int .i64 u.1)).setCell ⟨w7.heap.size, 1, none⟩ (.int .i64 u.2)) := ((ZV3.out.mono hz).setCell (p := ⟨w7.heap.size, 0, none⟩) (Nat.le_refl _) _).setCell (p := ⟨w7.heap.size, 1, none⟩) (Nat.le_refl _) _
                have Y2 := Y1.setCell (p := ⟨w7.heap.size + 1, 0, none⟩) (Nat.le_succ _) (.int .i64 ((pre.length : Int) + 1))
                refine ⟨(((((keeps_below ZV3.out).trans (KeepsOthers.setCell _ _ _)).trans (KeepsOthers.setCell _ _ _)).trans (KeepsOthers.setCell _ _ _))).from _, Y2, ⟨?_, ?_⟩, HBW.out.trans Y2⟩
                · rw [lastC_snoc]
                  have h2 := (LV3.out.put0 (.int .i64 u.1)).put1 (.int .i64 u.2)
                  refine ⟨⟨?_, ?_⟩, ?_, ?_⟩
                  · rw [World.cell?_setCell_other _ _ _ _ (by simp)]; exact h2.1.1
                  · rw [World.cell?_setCell_other _ _ _ _ (by simp)]; exact h2.1.2
                  · rw [World.frozen?_setCell]; exact h2.2.1
                  · rw [World.frozen?_setCell]; exact h2.2.2
                · have h1 : ((V3.setCell ⟨w7.heap.size, 0, none⟩ (.int .i64 u.1)).setCell ⟨w7.heap.size, 1, none⟩ (.int .i64 u.2)).cell? ⟨w7.heap.size + 1, 0, none⟩ = some (.int .i64 (pre.length : Int)) := by
                    rw [World.cell?_setCell_other _ _ _ _ (by simp), World.cell?_setCell_other _ _ _ _ (by simp)]; exact KV3.out.1
                  refine ⟨?_, ?_⟩
                  · rw [World.cell?_setCell_same _ _ _ h1, List.length_append, List.length_singleton]; rfl
                  · rw [World.frozen?_setCell, World.frozen?_setCell, World.frozen?_setCell]; exact KV3.out.2
      case done =>
        subst hact
        rintro D ys W hD hys ⟨⟨hL, hk⟩, hB⟩ hK
        have hmx : Tryd.prog.follows .mixedOrders = true := by kernel_rfl
        have hn : (ys.length : Int) = (nA c r d s : Nat) := by rw [hys]; unfold clL; rw [List.length_map, List.length_range]
        rw [hn] at hk
        obtain ⟨a0, a1, a2, a3, _, _, _, _⟩ := A_w7.out.bel hB
        obtain ⟨q0, q1⟩ : Has1 W (w.heap.size + 1 + 1 + 1) (.bool false) := Has1.bel ⟨Boxed.cell Q_w7.out, Boxed.frozen Q_w7.out⟩ hB
        obtain ⟨k0, k1⟩ := hk
        have HB : Hid (Below w7.heap.size w7 W) := hB
        have HK : Hid (W.heap[D]? = some (.deferred (some []))) := hK
        have HDD : Hid (w7.heap.size ≤ D) := by show _ ≤ _; simp at hD; omega
        have hDW : Hid (D < W.heap.size) := (Array.getElem?_eq_some_iff.1 hK).1
        have hkl : Hid (w7.heap.size + 1 < W.heap.size) := cell_lt k0
        have hql : Hid (w.heap.size + 1 + 1 + 1 < W.heap.size) := cell_lt q0
        clear hys hn hL hB hK hD
        gi_wp2_with (fail)
        have hwf : Fence.wide.fn 27 := trivial
        refine Code.wpIn_mono (Q := fun ex a' w' => match ex with | .normal => Exit.then _ _ .normal a' w' | _ => False) (fun ex a' w' h => by cases ex <;> first | exact h | exact h.elim) ?_
        gi_region_with_o (gi_at_call 27; refine (callsIn_wide.2 (H10.out _)).mono ?_; rintro e w8 ⟨rfl, hb⟩; have hb8 : Below W.heap.size W w8 := (Below.drew (Below.refl _ W)).trans hb; have k8 : w8.cell? ⟨w7.heap.size + 1, 0, none⟩ = _ := (hb8.cell (by exact hkl.out)).trans k0; have q8 : w8.cell? ⟨w.heap.size + 1 + 1 + 1, 0, none⟩ = _ := (hb8.cell (by exact hql.out)).trans q0; have q9 : w8.frozen? ⟨w.heap.size + 1 + 1 + 1, 0, none⟩ = _ := (hb8.frozen (by exact hql.out)).trans q1; have HB8 : Hid (Below W.heap.size W w8) := hb8; clear hb hb8)
        all_goals
          gi_wp2
          have hK8 : w8.heap[D]? = some (.deferred (some [])) := (HB8.out.block D hDW.out).trans HK.out
          have hK9 := (KeepsOthers.setCell w8 ⟨w.heap.size + 1 + 1 + 1, 0, none⟩ (.bool true)).same D _ hK8 rfl
          refine ⟨by simp, .inl ⟨_, _, rfl, run_takeDeferred hK9, ?_⟩⟩
          have hc5 := cell_kept (World.cell?_setCell_same' w8 ⟨w.heap.size + 1 + 1 + 1, 0, none⟩ (.bool true) (by rw [q8]; rfl)) (grownBy_putObj' _ D (.deferred none)) (fun r e => by cases e; exact ⟨_, hK9, rfl⟩)
          have hz := Bw7.out.size
          have hz2 : w.heap.size ≤ W.heap.size := Nat.le_trans hz HB.out.size
          refine ⟨.bool true, ?_, rfl, ((((Bw7.out.trans (HB.out.mono hz)).trans (HB8.out.mono hz2)).setCell (p := ⟨w.heap.size + 1 + 1 + 1, 0, none⟩) (by show w.heap.size ≤ w.heap.size + 1 + 1 + 1; omega) _).trans (belowK_b (w := w7) hz _ D _ _ HDD.out hK9 rfl rfl))⟩
          simp [results, Tryd.results7, go_sem, hc5]
      case stop =>
        rintro D cd pre' W hD hpre ⟨_, pre, u, rfl, hbad⟩ _
        exact absurd hbad (not_bad c r d s pre u hpre)
end Go.Proofs.YthehdloofamadaaDoor
