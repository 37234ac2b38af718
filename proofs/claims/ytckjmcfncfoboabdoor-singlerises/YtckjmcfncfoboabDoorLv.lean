/- SingleRises: its walk. -/
import Derived.Test.YtckjmcfncfoboabDoorLs
namespace Go.Proofs.YtckjmcfncfoboabDoor
open Go.RowKit
open Ieee

@[go_sem] theorem run_neg_float (k : FloatKind) (b : Nat) (w : World) : (Op.unary .neg (.float k b)).run Tryd.prog w = .ok (.float k (Op.negFloat k b)) w := rfl

set_option maxHeartbeats 1000000 in
theorem next32_core (x y v : Nat) (z : Int) (hz : Hid ((y : Int) = z)) (H : Hid (∀ w, Calls Tryd.prog 6 #[.float .f32 x] w fun e w' => e = .returned (.float .f32 y) ∧ w' = w))
    (h : ((z == 2147483648) = false ∧ 2147483648 < z ∧ z < 4294967296 ∧ Hid ((v : Int) = z - 1)) ∨ ((z == 2147483648) = false ∧ z ≤ 2147483648 ∧ 0 ≤ z ∧ z < 2139095040 ∧ Hid ((v : Int) = z + 1))) (w : World) :
    Calls Tryd.prog 20 #[.float .f32 x] w fun e w' => e = .returned (.float .f32 v) ∧ w' = w := by
  rcases h with ⟨h1, h2, h3, hv⟩ | ⟨h1, h2, h3, h4, hv⟩
  all_goals
    go_enter Tryd.func20, Tryd.ntmps20
    go_wp2_with (first | (simp only [hz.out]) | (go_at_call 6; refine (H.out _).mono ?_; rintro e w' ⟨rfl, rfl⟩))
    go_ret
    refine ⟨ret_f32 ?_, rfl⟩
    have := hv.out
    omega
theorem next32_pos (g : Nat) (h : g < 2139095040) (w : World) :
    Calls Tryd.prog 20 #[.float .f32 (single.word false g)] w fun e w' => e = .returned (.float .f32 (single.word false (g + 1))) ∧ w' = w := by
  have ho := word32_lt false g (by omega)
  refine next32_core _ (single.word false g) _ (g : Int) rfl (fun w => by have := one32_any (single.word false g) ho.1 w; rwa [ho.2.2.2] at this) (Or.inr ⟨by rw [beq_eq_false_iff_ne]; omega, by omega, by omega, by omega, ?_⟩) w
  show ((g + 1 : Nat) : Int) = g + 1
  omega
theorem next32_neg (g : Nat) (h : g < 2139095040) (w : World) :
    Calls Tryd.prog 20 #[.float .f32 (single.word true (g + 1))] w fun e w' => e = .returned (.float .f32 (single.word true g)) ∧ w' = w := by
  have ho := word32_lt true (g + 1) (by omega)
  refine next32_core _ (single.word true (g + 1)) _ ((2147483648 + (g + 1) : Nat) : Int) rfl (fun w => by have := one32_any (single.word true (g + 1)) ho.1 w; rwa [ho.2.2.2] at this) (Or.inl ⟨by rw [beq_eq_false_iff_ne]; omega, by omega, by omega, ?_⟩) w
  show ((2147483648 + g : Nat) : Int) = _
  omega

set_option maxHeartbeats 400000 in
theorem opposite_any (mode : Int) (w : World) :
    Calls Tryd.prog 19 #[.int .i64 mode] w fun e w' => e = .returned (.int .i64 (Rn.opp mode)) ∧ w' = w := by
  have hr : Hid (Rn.opp mode = if mode = 3 then 4 else if mode = 4 then 3 else mode) := rfl
  generalize Rn.opp mode = r at *
  by_cases h3 : mode = 3
  · subst h3
    go_enter Tryd.func19, Tryd.ntmps19
    go_wp2
    go_ret
    exact ⟨ret_int hr.out.symm, rfl⟩
  · by_cases h4 : mode = 4
    · subst h4
      go_enter Tryd.func19, Tryd.ntmps19
      go_wp2
      go_ret
      exact ⟨ret_int hr.out.symm, rfl⟩
    · have hr' : Hid (r = mode) := by have := hr.out; rw [if_neg h3, if_neg h4] at this; exact this
      have c3 : (mode == 3) = false := by simpa using h3
      have c4 : (mode == 4) = false := by simpa using h4
      clear hr h3 h4
      go_enter Tryd.func19, Tryd.ntmps19
      go_wp2
      go_ret
      exact ⟨ret_int hr'.out.symm, rfl⟩

set_option maxHeartbeats 4000000 in
set_option maxRecDepth 20000 in
theorem rises_swap (a b mode mo : Int) (X Y nX p q o low high lw hw v u t : Nat) (I f2 f3 g1 g2 g3 h2 h3 k2 k3 J : Bool) (m0 : 1 ≤ mode) (m1 : mode ≤ 6) (o1 o2 o3 o4 : Ordering)
    (hsw : FloatKind.f64.format.order a.toNat b.toNat = some .gt ∧ X = b.toNat ∧ Y = a.toNat)
    (H0 : Hid (∀ w, Tab w → Calls Tryd.prog 5 #[] w fun e w' => e = .returned (.bool true) ∧ Gr w w'))
    (H1 : Hid (∀ w, Calls Tryd.prog 18 #[.int .u64 a] w fun e w' => e = .returned (.bool false) ∧ w' = w))
    (H2 : Hid (∀ w, Calls Tryd.prog 18 #[.int .u64 b] w fun e w' => e = .returned (.bool false) ∧ w' = w))
    (H3 : Hid (∀ w, Tab w → Calls Tryd.prog 8 #[.float .f64 X, .int .i64 mode] w fun ee w' => ee = .returned (.tuple #[.float .f32 p, .agg #[.bool I, .bool f2, .bool f3], .int .i64 0]) ∧ Gr w w'))
    (H4 : Hid (∀ w, Tab w → Calls Tryd.prog 8 #[.float .f64 Y, .int .i64 mode] w fun ee w' => ee = .returned (.tuple #[.float .f32 q, .agg #[.bool g1, .bool g2, .bool g3], .int .i64 0]) ∧ Gr w w'))
    (H5 : Hid (∀ w, Tab w → Calls Tryd.prog 14 #[.float .f64 X, .int .i64 mode] w fun ee w' => ee = .returned (.tuple #[.float .f64 v, .int .i64 0]) ∧ ∃ d, w' = w.drewN d))
    (H6 : Hid (∀ w, Tab w → Calls Tryd.prog 14 #[.float .f64 Y, .int .i64 mode] w fun ee w' => ee = .returned (.tuple #[.float .f64 u, .int .i64 0]) ∧ ∃ d, w' = w.drewN d))
    (O1 : FloatKind.f32.format.order p q = some o1) (n1 : (some o1 == some Ordering.gt) = false) (O2 : FloatKind.f64.format.order v u = some o2) (n2 : (some o2 == some Ordering.gt) = false)
    (hn1 : Hid (Op.negFloat .f64 X = nX)) (hn2 : Hid (Op.negFloat .f32 o = p)) (hn3 : Hid (Op.negFloat .f64 t = v))
    (H7 : Hid (∀ w, Calls Tryd.prog 19 #[.int .i64 mode] w fun e w' => e = .returned (.int .i64 mo) ∧ w' = w))
    (H8 : Hid (∀ w, Tab w → Calls Tryd.prog 8 #[.float .f64 nX, .int .i64 mo] w fun ee w' => ee = .returned (.tuple #[.float .f32 o, .agg #[.bool I, .bool f2, .bool f3], .int .i64 0]) ∧ Gr w w'))
    (H9 : Hid (∀ w, Tab w → Calls Tryd.prog 14 #[.float .f64 nX, .int .i64 mo] w fun ee w' => ee = .returned (.tuple #[.float .f64 t, .int .i64 0]) ∧ ∃ d, w' = w.drewN d))
    (HA : Hid (∀ w, Calls Tryd.prog 10 #[.float .f32 p, .int .u32 (p : Int)] w fun e w' => e = .returned (.bool true) ∧ w' = w))
    (HB : Hid (∀ w, Calls Tryd.prog 16 #[.float .f64 v, .int .u64 (v : Int)] w fun e w' => e = .returned (.bool true) ∧ w' = w))
    (HC : Hid (∀ w, Tab w → Calls Tryd.prog 8 #[.float .f64 X, .int .i64 4] w fun ee w' => ee = .returned (.tuple #[.float .f32 low, .agg #[.bool J, .bool h2, .bool h3], .int .i64 0]) ∧ Gr w w'))
    (HD : Hid (∀ w, Tab w → Calls Tryd.prog 8 #[.float .f64 X, .int .i64 3] w fun ee w' => ee = .returned (.tuple #[.float .f32 high, .agg #[.bool J, .bool k2, .bool k3], .int .i64 0]) ∧ Gr w w'))
    (C1 : ∀ w, (convert 25 33 (.float .f32 low)).run Tryd.prog w = .ok (.float .f64 lw) w) (C2 : ∀ w, (convert 25 33 (.float .f32 high)).run Tryd.prog w = .ok (.float .f64 hw) w)
    (O3 : FloatKind.f64.format.order lw X = some o3) (n3 : (some o3 == some Ordering.gt) = false) (O4 : FloatKind.f64.format.order hw X = some o4) (n4 : (some o4 == some Ordering.lt) = false)
    (O5 : FloatKind.f32.format.order high high = some .eq)
    (HJ : (J = false ∧ low = high ∧ lw = hw ∧ o3 = o4) ∨ (J = true ∧ Hid (∀ w, Calls Tryd.prog 20 #[.float .f32 low] w fun e w' => e = .returned (.float .f32 high) ∧ w' = w)))
    (w : World) (hT : Hid (Tab w)) :
    Calls Tryd.prog 4 #[.int .u64 a, .int .u64 b, .int .i64 mode] w fun e w' => e = .returned (.bool true) ∧ Gr w w' := by
  obtain ⟨hO, hA, hB⟩ := hsw
  subst hA hB
  go_enter Tryd.func4, Tryd.ntmps4
  go_wp2_with fail
  refine (H0.out _ hT.out).mono ?_
  rintro e w1 ⟨rfl, hg1⟩
  have hG1 : Hid (Gr w w1) := hg1
  clear hg1
  go_wp2_with fail
  refine (H1.out _).mono ?_
  rintro e w' ⟨rfl, rfl⟩
  go_wp2_with fail
  refine (H2.out _).mono ?_
  rintro e w' ⟨rfl, rfl⟩
  go_wp2_with fail
  refine (H3.out _ (tab_gr hT.out hG1.out)).mono ?_
  rintro e w2 ⟨rfl, hg2⟩
  have hG2 : Hid (Gr w (w2.alloc (.cells #[.bool I, .bool f2, .bool f3] 29))) := (hG1.out.trans hg2).alloc _ _
  have F2 : Hid (Has3 (w2.alloc (.cells #[.bool I, .bool f2, .bool f3] 29)) w2.heap.size (.bool I) (.bool f2) (.bool f3)) := has3_new _ _ _ _ _
  clear hg2 hG1
  go_wp2_with fail
  refine (H4.out _ (tab_gr hT.out hG2.out)).mono ?_
  rintro e w3 ⟨rfl, hg3⟩
  have hG3 : Hid (Gr w (w3.alloc (.cells #[.bool g1, .bool g2, .bool g3] 29))) := (hG2.out.trans hg3).alloc _ _
  have F3 : Hid (Has3 (w3.alloc (.cells #[.bool g1, .bool g2, .bool g3] 29)) w2.heap.size (.bool I) (.bool f2) (.bool f3)) := F2.out.gr (hg3.alloc _ _)
  clear hg3 hG2 F2
  go_wp2_with fail
  refine (H5.out _ (tab_gr hT.out hG3.out)).mono ?_
  rintro e w' ⟨rfl, d1, rfl⟩
  go_wp2_with fail
  refine (H6.out _ (tab_gr hT.out (hG3.out.drewN _))).mono ?_
  rintro e w' ⟨rfl, d2, rfl⟩
  go_wp2_with (first | (simp only [hn1.out]) | (go_at_call 19; refine (H7.out _).mono ?_; rintro e w' ⟨rfl, rfl⟩))
  refine (H8.out _ (tab_gr hT.out (hG3.out.drewN _))).mono ?_
  rintro e w4 ⟨rfl, hg4⟩
  have hG4 : Hid (Gr w (w4.alloc (.cells #[.bool I, .bool f2, .bool f3] 29))) := ((hG3.out.drewN _).trans hg4).alloc _ _
  obtain ⟨⟨c0, c1, c2⟩, e0, e1, e2⟩ := (F3.out.gr ((Gr.refl _).drewN _)).gr (hg4.alloc #[.bool I, .bool f2, .bool f3] 29)
  clear hg4 hG3 F3
  go_wp2_with (first | (simp only [hn1.out]) | (go_at_call 19; refine (H7.out _).mono ?_; rintro e w' ⟨rfl, rfl⟩))
  refine (H9.out _ (tab_gr hT.out hG4.out)).mono ?_
  rintro e w' ⟨rfl, d3, rfl⟩
  go_wp2_with (first | (simp only [hn2.out]) | (simp only [hn3.out]) | (go_at_call 10; refine (HA.out _).mono ?_; rintro e w' ⟨rfl, rfl⟩) | (go_at_call 16; refine (HB.out _).mono ?_; rintro e w' ⟨rfl, rfl⟩))
  clear c0 c1 c2 e0 e1 e2
  refine (HC.out _ (tab_gr hT.out (hG4.out.drewN _))).mono ?_
  rintro e w5 ⟨rfl, hg5⟩
  have hG5 : Hid (Gr w (w5.alloc (.cells #[.bool J, .bool h2, .bool h3] 29))) := ((hG4.out.drewN _).trans hg5).alloc _ _
  have F5 : Hid (Has3 (w5.alloc (.cells #[.bool J, .bool h2, .bool h3] 29)) w5.heap.size (.bool J) (.bool h2) (.bool h3)) := has3_new _ _ _ _ _
  clear hg5 hG4
  go_wp2_with fail
  refine (HD.out _ (tab_gr hT.out hG5.out)).mono ?_
  rintro e w6 ⟨rfl, hg6⟩
  have hG6 : Hid (Gr w (w6.alloc (.cells #[.bool J, .bool k2, .bool k3] 29))) := (hG5.out.trans hg6).alloc _ _
  obtain ⟨⟨c0, c1, c2⟩, e0, e1, e2⟩ := F5.out.gr (hg6.alloc #[.bool J, .bool k2, .bool k3] 29)
  clear hg6 hG5 F5
  rcases HJ with ⟨rfl, rfl, rfl, rfl⟩ | ⟨rfl, HE⟩
  · clear C2 O4
    go_wp2
    go_ret
    exact ⟨rfl, hG6.out⟩
  · go_wp2_with (first | (go_at_call 20; refine (HE.out _).mono ?_; rintro e w' ⟨rfl, rfl⟩))
    go_ret
    exact ⟨rfl, hG6.out⟩
set_option maxHeartbeats 4000000 in
set_option maxRecDepth 20000 in
theorem rises_keep (a b mode mo : Int) (X Y nX p q o low high lw hw v u t : Nat) (I f2 f3 g1 g2 g3 h2 h3 k2 k3 J : Bool) (m0 : 1 ≤ mode) (m1 : mode ≤ 6) (oo o1 o2 o3 o4 : Ordering)
    (hsw : FloatKind.f64.format.order a.toNat b.toNat = some oo ∧ X = a.toNat ∧ Y = b.toNat) (n0 : (some oo == some Ordering.gt) = false)
    (H0 : Hid (∀ w, Tab w → Calls Tryd.prog 5 #[] w fun e w' => e = .returned (.bool true) ∧ Gr w w'))
    (H1 : Hid (∀ w, Calls Tryd.prog 18 #[.int .u64 a] w fun e w' => e = .returned (.bool false) ∧ w' = w))
    (H2 : Hid (∀ w, Calls Tryd.prog 18 #[.int .u64 b] w fun e w' => e = .returned (.bool false) ∧ w' = w))
    (H3 : Hid (∀ w, Tab w → Calls Tryd.prog 8 #[.float .f64 X, .int .i64 mode] w fun ee w' => ee = .returned (.tuple #[.float .f32 p, .agg #[.bool I, .bool f2, .bool f3], .int .i64 0]) ∧ Gr w w'))
    (H4 : Hid (∀ w, Tab w → Calls Tryd.prog 8 #[.float .f64 Y, .int .i64 mode] w fun ee w' => ee = .returned (.tuple #[.float .f32 q, .agg #[.bool g1, .bool g2, .bool g3], .int .i64 0]) ∧ Gr w w'))
    (H5 : Hid (∀ w, Tab w → Calls Tryd.prog 14 #[.float .f64 X, .int .i64 mode] w fun ee w' => ee = .returned (.tuple #[.float .f64 v, .int .i64 0]) ∧ ∃ d, w' = w.drewN d))
    (H6 : Hid (∀ w, Tab w → Calls Tryd.prog 14 #[.float .f64 Y, .int .i64 mode] w fun ee w' => ee = .returned (.tuple #[.float .f64 u, .int .i64 0]) ∧ ∃ d, w' = w.drewN d))
    (O1 : FloatKind.f32.format.order p q = some o1) (n1 : (some o1 == some Ordering.gt) = false) (O2 : FloatKind.f64.format.order v u = some o2) (n2 : (some o2 == some Ordering.gt) = false)
    (hn1 : Hid (Op.negFloat .f64 X = nX)) (hn2 : Hid (Op.negFloat .f32 o = p)) (hn3 : Hid (Op.negFloat .f64 t = v))
    (H7 : Hid (∀ w, Calls Tryd.prog 19 #[.int .i64 mode] w fun e w' => e = .returned (.int .i64 mo) ∧ w' = w))
    (H8 : Hid (∀ w, Tab w → Calls Tryd.prog 8 #[.float .f64 nX, .int .i64 mo] w fun ee w' => ee = .returned (.tuple #[.float .f32 o, .agg #[.bool I, .bool f2, .bool f3], .int .i64 0]) ∧ Gr w w'))
    (H9 : Hid (∀ w, Tab w → Calls Tryd.prog 14 #[.float .f64 nX, .int .i64 mo] w fun ee w' => ee = .returned (.tuple #[.float .f64 t, .int .i64 0]) ∧ ∃ d, w' = w.drewN d))
    (HA : Hid (∀ w, Calls Tryd.prog 10 #[.float .f32 p, .int .u32 (p : Int)] w fun e w' => e = .returned (.bool true) ∧ w' = w))
    (HB : Hid (∀ w, Calls Tryd.prog 16 #[.float .f64 v, .int .u64 (v : Int)] w fun e w' => e = .returned (.bool true) ∧ w' = w))
    (HC : Hid (∀ w, Tab w → Calls Tryd.prog 8 #[.float .f64 X, .int .i64 4] w fun ee w' => ee = .returned (.tuple #[.float .f32 low, .agg #[.bool J, .bool h2, .bool h3], .int .i64 0]) ∧ Gr w w'))
    (HD : Hid (∀ w, Tab w → Calls Tryd.prog 8 #[.float .f64 X, .int .i64 3] w fun ee w' => ee = .returned (.tuple #[.float .f32 high, .agg #[.bool J, .bool k2, .bool k3], .int .i64 0]) ∧ Gr w w'))
    (C1 : ∀ w, (convert 25 33 (.float .f32 low)).run Tryd.prog w = .ok (.float .f64 lw) w) (C2 : ∀ w, (convert 25 33 (.float .f32 high)).run Tryd.prog w = .ok (.float .f64 hw) w)
    (O3 : FloatKind.f64.format.order lw X = some o3) (n3 : (some o3 == some Ordering.gt) = false) (O4 : FloatKind.f64.format.order hw X = some o4) (n4 : (some o4 == some Ordering.lt) = false)
    (O5 : FloatKind.f32.format.order high high = some .eq)
    (HJ : (J = false ∧ low = high ∧ lw = hw ∧ o3 = o4) ∨ (J = true ∧ Hid (∀ w, Calls Tryd.prog 20 #[.float .f32 low] w fun e w' => e = .returned (.float .f32 high) ∧ w' = w)))
    (w : World) (hT : Hid (Tab w)) :
    Calls Tryd.prog 4 #[.int .u64 a, .int .u64 b, .int .i64 mode] w fun e w' => e = .returned (.bool true) ∧ Gr w w' := by
  obtain ⟨hO, hA, hB⟩ := hsw
  subst hA hB
  go_enter Tryd.func4, Tryd.ntmps4
  go_wp2_with fail
  refine (H0.out _ hT.out).mono ?_
  rintro e w1 ⟨rfl, hg1⟩
  have hG1 : Hid (Gr w w1) := hg1
  clear hg1
  go_wp2_with fail
  refine (H1.out _).mono ?_
  rintro e w' ⟨rfl, rfl⟩
  go_wp2_with fail
  refine (H2.out _).mono ?_
  rintro e w' ⟨rfl, rfl⟩
  go_wp2_with fail
  refine (H3.out _ (tab_gr hT.out hG1.out)).mono ?_
  rintro e w2 ⟨rfl, hg2⟩
  have hG2 : Hid (Gr w (w2.alloc (.cells #[.bool I, .bool f2, .bool f3] 29))) := (hG1.out.trans hg2).alloc _ _
  have F2 : Hid (Has3 (w2.alloc (.cells #[.bool I, .bool f2, .bool f3] 29)) w2.heap.size (.bool I) (.bool f2) (.bool f3)) := has3_new _ _ _ _ _
  clear hg2 hG1
  go_wp2_with fail
  refine (H4.out _ (tab_gr hT.out hG2.out)).mono ?_
  rintro e w3 ⟨rfl, hg3⟩
  have hG3 : Hid (Gr w (w3.alloc (.cells #[.bool g1, .bool g2, .bool g3] 29))) := (hG2.out.trans hg3).alloc _ _
  have F3 : Hid (Has3 (w3.alloc (.cells #[.bool g1, .bool g2, .bool g3] 29)) w2.heap.size (.bool I) (.bool f2) (.bool f3)) := F2.out.gr (hg3.alloc _ _)
  clear hg3 hG2 F2
  go_wp2_with fail
  refine (H5.out _ (tab_gr hT.out hG3.out)).mono ?_
  rintro e w' ⟨rfl, d1, rfl⟩
  go_wp2_with fail
  refine (H6.out _ (tab_gr hT.out (hG3.out.drewN _))).mono ?_
  rintro e w' ⟨rfl, d2, rfl⟩
  go_wp2_with (first | (simp only [hn1.out]) | (go_at_call 19; refine (H7.out _).mono ?_; rintro e w' ⟨rfl, rfl⟩))
  refine (H8.out _ (tab_gr hT.out (hG3.out.drewN _))).mono ?_
  rintro e w4 ⟨rfl, hg4⟩
  have hG4 : Hid (Gr w (w4.alloc (.cells #[.bool I, .bool f2, .bool f3] 29))) := ((hG3.out.drewN _).trans hg4).alloc _ _
  obtain ⟨⟨c0, c1, c2⟩, e0, e1, e2⟩ := (F3.out.gr ((Gr.refl _).drewN _)).gr (hg4.alloc #[.bool I, .bool f2, .bool f3] 29)
  clear hg4 hG3 F3
  go_wp2_with (first | (simp only [hn1.out]) | (go_at_call 19; refine (H7.out _).mono ?_; rintro e w' ⟨rfl, rfl⟩))
  refine (H9.out _ (tab_gr hT.out hG4.out)).mono ?_
  rintro e w' ⟨rfl, d3, rfl⟩
  go_wp2_with (first | (simp only [hn2.out]) | (simp only [hn3.out]) | (go_at_call 10; refine (HA.out _).mono ?_; rintro e w' ⟨rfl, rfl⟩) | (go_at_call 16; refine (HB.out _).mono ?_; rintro e w' ⟨rfl, rfl⟩))
  clear c0 c1 c2 e0 e1 e2
  refine (HC.out _ (tab_gr hT.out (hG4.out.drewN _))).mono ?_
  rintro e w5 ⟨rfl, hg5⟩
  have hG5 : Hid (Gr w (w5.alloc (.cells #[.bool J, .bool h2, .bool h3] 29))) := ((hG4.out.drewN _).trans hg5).alloc _ _
  have F5 : Hid (Has3 (w5.alloc (.cells #[.bool J, .bool h2, .bool h3] 29)) w5.heap.size (.bool J) (.bool h2) (.bool h3)) := has3_new _ _ _ _ _
  clear hg5 hG4
  go_wp2_with fail
  refine (HD.out _ (tab_gr hT.out hG5.out)).mono ?_
  rintro e w6 ⟨rfl, hg6⟩
  have hG6 : Hid (Gr w (w6.alloc (.cells #[.bool J, .bool k2, .bool k3] 29))) := (hG5.out.trans hg6).alloc _ _
  obtain ⟨⟨c0, c1, c2⟩, e0, e1, e2⟩ := F5.out.gr (hg6.alloc #[.bool J, .bool k2, .bool k3] 29)
  clear hg6 hG5 F5
  rcases HJ with ⟨rfl, rfl, rfl, rfl⟩ | ⟨rfl, HE⟩
  · clear C2 O4
    go_wp2
    go_ret
    exact ⟨rfl, hG6.out⟩
  · go_wp2_with (first | (go_at_call 20; refine (HE.out _).mono ?_; rintro e w' ⟨rfl, rfl⟩))
    go_ret
    exact ⟨rfl, hG6.out⟩

set_option maxHeartbeats 1000000 in
set_option maxRecDepth 20000 in
theorem rises_none (a b mode : Int) (A B : Bool) (h : A = true ∨ B = true ∨ mode < 1 ∨ 6 < mode)
    (H0 : Hid (∀ w, Tab w → Calls Tryd.prog 5 #[] w fun e w' => e = .returned (.bool true) ∧ Gr w w'))
    (H1 : Hid (∀ w, Calls Tryd.prog 18 #[.int .u64 a] w fun e w' => e = .returned (.bool A) ∧ w' = w))
    (H2 : Hid (∀ w, Calls Tryd.prog 18 #[.int .u64 b] w fun e w' => e = .returned (.bool B) ∧ w' = w)) (w : World) (hT : Hid (Tab w)) :
    Calls Tryd.prog 4 #[.int .u64 a, .int .u64 b, .int .i64 mode] w fun e w' => e = .returned (.bool true) ∧ Gr w w' := by
  have h' : (A = true) ∨ (A = false ∧ B = true) ∨ (A = false ∧ B = false ∧ mode < 1) ∨ (A = false ∧ B = false ∧ 6 < mode) := by
    cases A
    · cases B
      · rcases h with h | h | h | h
        · cases h
        · cases h
        · exact Or.inr (Or.inr (Or.inl ⟨rfl, rfl, h⟩))
        · exact Or.inr (Or.inr (Or.inr ⟨rfl, rfl, h⟩))
      · exact Or.inr (Or.inl ⟨rfl, rfl⟩)
    · exact Or.inl rfl
  clear h
  rcases h' with rfl | ⟨rfl, rfl⟩ | ⟨rfl, rfl, h⟩ | ⟨rfl, rfl, h⟩
  all_goals
    go_enter Tryd.func4, Tryd.ntmps4
    go_wp2_with fail
    refine (H0.out _ hT.out).mono ?_
    rintro e w1 ⟨rfl, hg1⟩
    have hG1 : Hid (Gr w w1) := hg1
    clear hg1
    go_wp2_with fail
    refine (H1.out _).mono ?_
    rintro e w' ⟨rfl, rfl⟩
    go_wp2_with fail
    refine (H2.out _).mono ?_
    rintro e w' ⟨rfl, rfl⟩
    go_wp2
    go_ret
    exact ⟨rfl, hG1.out⟩

/-- What the walk asks of the two numbers, the lesser one first. -/
theorem rises_facts (mode : Int) (X Y : Nat) (hX : X < 18446744073709551616) (hY : Y < 18446744073709551616) (nx : isN X = false) (ny : isN Y = false) (hu : upto (sgb X) (sgb Y) (mag X) (mag Y)) :
    (∃ o1, FloatKind.f32.format.order (nwW mode X) (nwW mode Y) = some o1 ∧ (some o1 == some Ordering.gt) = false) ∧
    (∃ o2, FloatKind.f64.format.order (whA mode X) (whA mode Y) = some o2 ∧ (some o2 == some Ordering.gt) = false) ∧
    ∃ lw hw o3 o4, floatToFloatBits .f32 (nwW 4 X) .f64 = some lw ∧ floatToFloatBits .f32 (nwW 3 X) .f64 = some hw ∧
      FloatKind.f64.format.order lw X = some o3 ∧ (some o3 == some Ordering.gt) = false ∧ FloatKind.f64.format.order hw X = some o4 ∧ (some o4 == some Ordering.lt) = false ∧
      FloatKind.f32.format.order (nwW 3 X) (nwW 3 X) = some .eq ∧ nwI 3 X = nwI 4 X ∧
      ((nwI 4 X = false ∧ nwW 4 X = nwW 3 X ∧ lw = hw ∧ o3 = o4) ∨ (nwI 4 X = true ∧ ∃ g, g < 2139095040 ∧ ((nwW 4 X = single.word false g ∧ nwW 3 X = single.word false (g + 1)) ∨ (nwW 4 X = single.word true (g + 1) ∧ nwW 3 X = single.word true g)))) := by
  have lx := isN_not nx
  have ly := isN_not ny
  have ne : ∀ {o : Ordering}, o ≠ .gt → (some o == some Ordering.gt) = false := by
    intro o h; cases o
    · decide
    · decide
    · exact absurd rfl h
  refine ⟨?_, ?_, ?_⟩
  · have hr := rise32 mode hu (by omega) (by omega)
    refine ⟨_, ?_, ne (upto_ord hr)⟩
    rw [nwW_word _ _ nx, nwW_word _ _ ny]
    exact Fs.order_words _ _ _ _ (nr_le _ _ _) (nr_le _ _ _)
  · obtain ⟨o, h1, h2⟩ := rise64 mode hX hY nx ny hu
    exact ⟨o, h1, ne h2⟩
  · obtain ⟨b1, b2, b3, b4, b5⟩ := beside X nx
    have w4 := nwW_word 4 X nx
    have w3 := nwW_word 3 X nx
    have t4 : nr 4 true (mag X) = nr 3 false (mag X) := nr_opp 3 false _
    have t3 : nr 3 true (mag X) = nr 4 false (mag X) := nr_opp 4 false _
    have hw := word_mag X hX
    have hself : FloatKind.f32.format.order (nwW 3 X) (nwW 3 X) = some .eq := by
      rw [w3]
      refine (Fs.order_words _ _ _ _ (nr_le _ _ _) (nr_le _ _ _)).trans ?_
      congr 1
      unfold Fl.ordW
      split
      · rfl
      · cases sgb X
        · show (if _ then _ else if _ then _ else _) = _
          rw [if_neg (Nat.lt_irrefl _), if_pos rfl]
        · show (if _ then _ else if _ then _ else _) = _
          rw [if_neg (Nat.lt_irrefl _), if_pos rfl]
    obtain ⟨R4, e4, r4, _⟩ := wd_val (sgb X) (nr 4 (sgb X) (mag X)) (nr_le _ _ _)
    obtain ⟨R3, e3, r3, _⟩ := wd_val (sgb X) (nr 3 (sgb X) (mag X)) (nr_le _ _ _)
    have c4 := wd_conv (sgb X) (nr 4 (sgb X) (mag X)) (nr_le _ _ _)
    have c3 := wd_conv (sgb X) (nr 3 (sgb X) (mag X)) (nr_le _ _ _)
    rw [← w4, e4] at c4
    rw [← w3, e3] at c3
    have o4 := Fl.order_words (sgb X) (sgb X) R4 (mag X) r4 (by omega)
    have o3 := Fl.order_words (sgb X) (sgb X) R3 (mag X) r3 (by omega)
    rw [hw] at o4 o3
    refine ⟨_, _, _, _, c4, c3, o4, ?_, o3, ?_, hself, b1, ?_⟩
    · refine ne (upto_ord ?_)
      cases hs : sgb X
      · rw [hs] at e4
        exact Or.inl ⟨rfl, rfl, b4 _ _ e4 r4⟩
      · rw [hs, t4] at e4
        exact Or.inr (Or.inl ⟨rfl, rfl, b5 _ _ e4 r4⟩)
    · have hle : (sgb X = false ∧ mag X ≤ R3) ∨ (sgb X = true ∧ R3 ≤ mag X) := by
        cases hs : sgb X
        · rw [hs] at e3
          exact Or.inl ⟨rfl, b5 _ _ e3 r3⟩
        · rw [hs, t3] at e3
          exact Or.inr ⟨rfl, b4 _ _ e3 r3⟩
      unfold Fl.ordW
      by_cases z : R3 = 0 ∧ mag X = 0
      · rw [if_pos z]; decide
      · rw [if_neg z]
        rcases hle with ⟨hs, hle⟩ | ⟨hs, hle⟩
        · rw [hs]
          show (some (if R3 < mag X then Ordering.lt else if R3 = mag X then .eq else .gt) == some Ordering.lt) = false
          rw [if_neg (by omega)]
          split <;> decide
        · rw [hs]
          show (some (if mag X < R3 then Ordering.lt else if R3 = mag X then .eq else .gt) == some Ordering.lt) = false
          rw [if_neg (by omega)]
          split <;> decide
    · cases hI : nwI 4 X
      · left
        have hn := b2 hI
        have e43 : nr 4 (sgb X) (mag X) = nr 3 (sgb X) (mag X) := by
          cases sgb X
          · exact hn
          · rw [t4, t3, hn]
        have hwd : double.word (sgb X) R4 = double.word (sgb X) R3 := by rw [← e4, ← e3, e43]
        refine ⟨rfl, by rw [w4, w3, e43], hwd, ?_⟩
        have : some (Fl.ordW (sgb X) (sgb X) R4 (mag X)) = some (Fl.ordW (sgb X) (sgb X) R3 (mag X)) := by rw [← o4, ← o3, hwd]
        exact Option.some.inj this
      · right
        have hn := b3 hI
        have hle3 := nr_le 3 false (mag X)
        refine ⟨rfl, nr 4 false (mag X), by omega, ?_⟩
        cases hs : sgb X
        · left
          rw [w4, w3, hs, hn]; exact ⟨rfl, rfl⟩
        · right
          rw [w4, w3, hs, t4, t3, hn]; exact ⟨rfl, rfl⟩

theorem whole_of (b : Nat) (hb : Hid (b < 18446744073709551616)) (mode : Int) (hm : okMode mode = true) (hn : isN b = false) (w : World) (hT : Tab w) :
    Calls Tryd.prog 14 #[.float .f64 b, .int .i64 mode] w fun e w' => e = .returned (.tuple #[.float .f64 (whA mode b), .int .i64 0]) ∧ ∃ d, w' = w.drewN d := by
  have := isN_not hn
  unfold whA
  by_cases hi : mag b = 9218868437227405312
  · rw [if_pos hi]; exact whole_isinf b hb mode hm hi w
  · rw [if_neg hi]; exact whole_any b hb mode hm (by omega) w hT
theorem opp_ok (mode : Int) (h : okMode mode = true) : okMode (Rn.opp mode) = true := by
  have := of_decide_eq_true h
  unfold Rn.opp
  split
  · rfl
  · split
    · rfl
    · exact h

theorem rises_walk (a b mode : Int) (a0 : 0 ≤ a) (a1 : Hid (a < 18446744073709551616)) (b0 : 0 ≤ b) (b1 : Hid (b < 18446744073709551616)) (_m0 : -9223372036854775808 ≤ mode) (_m1 : mode ≤ 9223372036854775807) (w : World) (hT : Tab w) :
    Calls Tryd.prog 4 #[.int .u64 a, .int .u64 b, .int .i64 mode] w fun e w' => e = .returned (.bool true) ∧ Gr w w' := by
  have ha : a.toNat < 18446744073709551616 := by have := a1.out; omega
  have hb : b.toNat < 18446744073709551616 := by have := b1.out; omega
  have k0 : ∀ w, Tab w → Calls Tryd.prog 5 #[] w fun e w' => e = .returned (.bool true) ∧ Gr w w' := fun w hT => awake4_any w hT
  have k1 := fun w => isnan_any a a0 a1 w
  have k2 := fun w => isnan_any b b0 b1 w
  by_cases hm : okMode mode = true
  · have hm' := of_decide_eq_true hm
    by_cases na : isN a.toNat = true
    · exact rises_none a b mode _ _ (Or.inl na) k0 k1 k2 w hT
    · by_cases nb : isN b.toNat = true
      · exact rises_none a b mode _ _ (Or.inr (Or.inl nb)) k0 k1 k2 w hT
      · have na' : isN a.toNat = false := by simpa using na
        have nb' : isN b.toNat = false := by simpa using nb
        rw [na'] at k1
        rw [nb'] at k2
        have hord := order_bits a.toNat b.toNat ha hb na' nb'
        by_cases hg : Fl.ordW (sgb a.toNat) (sgb b.toNat) (mag a.toNat) (mag b.toNat) = .gt
        · rw [hg] at hord
          have hu := ord_upto (ord_turn _ _ _ _ hg)
          obtain ⟨⟨o1, O1, n1⟩, ⟨o2, O2, n2⟩, lw, hw, o3, o4, C1, C2, O3, n3, O4, n4, O5, hJ, hx⟩ := rises_facts mode b.toNat a.toNat hb ha nb' na' hu
          obtain ⟨p1, p2, p3⟩ := opp_word b.toNat hb
          have pn : isN (Op.negFloat .f64 b.toNat) = false := by unfold isN at *; rw [p2]; exact nb'
          obtain ⟨q1, q2, q3⟩ := flags_opp mode p2 p3
          refine rises_swap a b mode (Rn.opp mode) b.toNat a.toNat _ _ _ (nwW (Rn.opp mode) (Op.negFloat .f64 b.toNat)) _ _ lw hw _ _ (whA (Rn.opp mode) (Op.negFloat .f64 b.toNat)) _ _ _ _ _ _ _ _ (nwO 3 b.toNat) (nwU 3 b.toNat) (nwI 4 b.toNat) hm'.1 hm'.2 o1 o2 o3 o4 ⟨hord, rfl, rfl⟩ k0 k1 k2 (fun w hT => narrow_any _ hb mode hm nb' w hT) (fun w hT => narrow_any _ ha mode hm na' w hT) (fun w hT => whole_of _ hb mode hm nb' w hT) (fun w hT => whole_of _ ha mode hm na' w hT) O1 n1 O2 n2 rfl (narrow_opp mode _ hb nb') (whole_opp mode _ hb nb') (fun w => opposite_any mode w) (fun w hT => ?_) (fun w hT => whole_of _ p1 _ (opp_ok mode hm) pn w hT) (fun w => has_yes _ _ rfl w) (fun w => is4_yes _ _ rfl w) (fun w hT => narrow_any _ hb 4 rfl nb' w hT) (fun w hT => ?_) (fun w => run_conv64 C1 w) (fun w => run_conv64 C2 w) O3 n3 O4 n4 O5 ?_ w hT
          · have := narrow_any _ p1 _ (opp_ok mode hm) pn w hT
            rwa [q1, q2, q3] at this
          · have := narrow_any _ hb 3 rfl nb' w hT
            rwa [hJ] at this
          · rcases hx with h | ⟨h, g, hg, ⟨h1, h2⟩ | ⟨h1, h2⟩⟩
            · exact Or.inl h
            · rw [h1, h2]; exact Or.inr ⟨h, fun w => next32_pos g hg w⟩
            · rw [h1, h2]; exact Or.inr ⟨h, fun w => next32_neg g hg w⟩
        · have hu := ord_upto hg
          have n0 : (some (Fl.ordW (sgb a.toNat) (sgb b.toNat) (mag a.toNat) (mag b.toNat)) == some Ordering.gt) = false := by
            cases h : Fl.ordW (sgb a.toNat) (sgb b.toNat) (mag a.toNat) (mag b.toNat)
            · decide
            · decide
            · exact absurd h hg
          obtain ⟨⟨o1, O1, n1⟩, ⟨o2, O2, n2⟩, lw, hw, o3, o4, C1, C2, O3, n3, O4, n4, O5, hJ, hx⟩ := rises_facts mode a.toNat b.toNat ha hb na' nb' hu
          obtain ⟨p1, p2, p3⟩ := opp_word a.toNat ha
          have pn : isN (Op.negFloat .f64 a.toNat) = false := by unfold isN at *; rw [p2]; exact na'
          obtain ⟨q1, q2, q3⟩ := flags_opp mode p2 p3
          refine rises_keep a b mode (Rn.opp mode) a.toNat b.toNat _ _ _ (nwW (Rn.opp mode) (Op.negFloat .f64 a.toNat)) _ _ lw hw _ _ (whA (Rn.opp mode) (Op.negFloat .f64 a.toNat)) _ _ _ _ _ _ _ _ (nwO 3 a.toNat) (nwU 3 a.toNat) (nwI 4 a.toNat) hm'.1 hm'.2 _ o1 o2 o3 o4 ⟨hord, rfl, rfl⟩ n0 k0 k1 k2 (fun w hT => narrow_any _ ha mode hm na' w hT) (fun w hT => narrow_any _ hb mode hm nb' w hT) (fun w hT => whole_of _ ha mode hm na' w hT) (fun w hT => whole_of _ hb mode hm nb' w hT) O1 n1 O2 n2 rfl (narrow_opp mode _ ha na') (whole_opp mode _ ha na') (fun w => opposite_any mode w) (fun w hT => ?_) (fun w hT => whole_of _ p1 _ (opp_ok mode hm) pn w hT) (fun w => has_yes _ _ rfl w) (fun w => is4_yes _ _ rfl w) (fun w hT => narrow_any _ ha 4 rfl na' w hT) (fun w hT => ?_) (fun w => run_conv64 C1 w) (fun w => run_conv64 C2 w) O3 n3 O4 n4 O5 ?_ w hT
          · have := narrow_any _ p1 _ (opp_ok mode hm) pn w hT
            rwa [q1, q2, q3] at this
          · have := narrow_any _ ha 3 rfl na' w hT
            rwa [hJ] at this
          · rcases hx with h | ⟨h, g, hg, ⟨h1, h2⟩ | ⟨h1, h2⟩⟩
            · exact Or.inl h
            · rw [h1, h2]; exact Or.inr ⟨h, fun w => next32_pos g hg w⟩
            · rw [h1, h2]; exact Or.inr ⟨h, fun w => next32_neg g hg w⟩
  · have hm0 : okMode mode = false := by simpa using hm
    have hm' := of_decide_eq_false hm0
    exact rises_none a b mode _ _ (Or.inr (Or.inr (by omega))) k0 k1 k2 w hT
end Go.Proofs.YtckjmcfncfoboabDoor
