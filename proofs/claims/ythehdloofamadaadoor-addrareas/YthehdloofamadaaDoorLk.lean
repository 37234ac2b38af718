/- AddrAreas: its walk. (By gen_addrareas.py.) -/
import Derived.Test.YthehdloofamadaaDoorLc
import Derived.Test.YthehdloofamadaaDoorGq
import Derived.Test.YthehdloofamadaaDoorBe
import Derived.Test.YthehdloofamadaaDoorLe
import Derived.Deep.CutRange
import Derived.Deep.DeepCutAuto
import Derived.Deep.RegionHeld3
namespace Go.Proofs.YthehdloofamadaaDoor
open Go.RowKit

set_option maxHeartbeats 16000000 in
set_option maxRecDepth 20000 in
theorem areas_core (w : World) (c r d s c' r' d' s' x y k Z E F g1 g2 g3 g4 m1 m2 m3 m4 : Int) (V I O : Bool) (T : List UInt8)
    (H0 : Hid (∀ w, Calls Tryd.prog 8 #[] w fun e w' => e = .returned (.bool true) ∧ Below w.heap.size w w'))
    (H1 : Hid (∀ w, Calls Tryd.prog 23 #[.agg #[.int .i64 c, .int .i64 r, .int .i64 d, .int .i64 s]] w fun e w' => e = .returned (.bool V) ∧ Below w.heap.size w w'))
    (H2 : Hid (∀ w, Calls Tryd.prog 24 #[.agg #[.int .i64 c, .int .i64 r, .int .i64 d, .int .i64 s]] w fun e w' => e = .returned (.bool V) ∧ Below w.heap.size w w'))
    (H3 : Hid (∀ w, Calls Tryd.prog 25 #[.agg #[.int .i64 c, .int .i64 r, .int .i64 d, .int .i64 s], .agg #[.int .i64 x, .int .i64 y]] w fun e w' => e = .returned (.bool I) ∧ Below w.heap.size w w'))
    (H4 : Hid (∀ w, Calls Tryd.prog 26 #[.agg #[.int .i64 c, .int .i64 r, .int .i64 d, .int .i64 s], .agg #[.int .i64 x, .int .i64 y]] w fun e w' => e = .returned (.bool I) ∧ Below w.heap.size w w'))
    (H5 : Hid (∀ w, Calls Tryd.prog 27 #[.agg #[.int .i64 c, .int .i64 r, .int .i64 d, .int .i64 s]] w fun e w' => e = .returned (.int .i64 Z) ∧ Below w.heap.size w w'))
    (H6 : Hid (∀ w, Calls Tryd.prog 28 #[.agg #[.int .i64 c, .int .i64 r, .int .i64 d, .int .i64 s]] w fun e w' => e = .returned (.int .i64 Z) ∧ Below w.heap.size w w'))
    (H7 : Hid (∀ w, Calls Tryd.prog 29 #[.agg #[.int .i64 c, .int .i64 r], .agg #[.int .i64 d', .int .i64 s']] w fun e w' => e = .returned (.tuple #[.agg #[.int .i64 g1, .int .i64 g2, .int .i64 g3, .int .i64 g4], .int .i64 E]) ∧ Below w.heap.size w w'))
    (H8 : Hid (∀ w, Calls Tryd.prog 30 #[.agg #[.int .i64 c, .int .i64 r], .agg #[.int .i64 d', .int .i64 s']] w fun e w' => e = .returned (.tuple #[.agg #[.int .i64 g1, .int .i64 g2, .int .i64 g3, .int .i64 g4], .int .i64 E]) ∧ Below w.heap.size w w'))
    (H9 : Hid (∀ w1, Below w.heap.size w w1 → Calls Tryd.prog 31 #[.agg #[.int .i64 c, .int .i64 r, .int .i64 d, .int .i64 s]] w1 fun e w' => e = .returned (.tuple #[.string ⟨T.toArray⟩, .int .i64 F]) ∧ Below w1.heap.size w1 w'))
    (H10 : Hid (∀ w, Calls Tryd.prog 32 #[.agg #[.int .i64 c, .int .i64 r, .int .i64 d, .int .i64 s]] w fun e w' => e = .returned (.tuple #[.string ⟨T.toArray⟩, .int .i64 F]) ∧ Below w.heap.size w w'))
    (H11 : Hid (∀ w, Calls Tryd.prog 33 #[.agg #[.int .i64 c, .int .i64 r, .int .i64 d, .int .i64 s], .agg #[.int .i64 c', .int .i64 r', .int .i64 d', .int .i64 s']] w fun e w' => e = .returned (.tuple #[.agg #[.int .i64 m1, .int .i64 m2, .int .i64 m3, .int .i64 m4], .bool O]) ∧ Below w.heap.size w w'))
    (H12 : Hid (∀ w, Calls Tryd.prog 34 #[.agg #[.int .i64 c, .int .i64 r, .int .i64 d, .int .i64 s], .agg #[.int .i64 c', .int .i64 r', .int .i64 d', .int .i64 s']] w fun e w' => e = .returned (.tuple #[.agg #[.int .i64 m1, .int .i64 m2, .int .i64 m3, .int .i64 m4], .bool O]) ∧ Below w.heap.size w w'))
    (H13 : Hid (∀ w, Calls Tryd.prog 36 #[.agg #[.int .i64 c, .int .i64 r, .int .i64 d, .int .i64 s]] w fun e w' => ∃ v, e = .returned v ∧ w'.ownsRow w.heap.size 23 2 v (nA c r d s) (clV c r (d - c + 1).toNat (nA c r d s)) ∧ Below w.heap.size w w'))
    (H14 : Hid (∀ (b : Nat) (v : Value) w, b ≤ w.heap.size → w.ownsRow b 23 2 v (nA c r d s) (clV c r (d - c + 1).toNat (nA c r d s)) → Calls Tryd.prog 35 #[.agg #[.int .i64 c, .int .i64 r, .int .i64 d, .int .i64 s], v, .int .i64 k] w fun e w' => e = .returned (.bool true) ∧ Below w.heap.size w w')) :
    Calls Tryd.prog 5 #[.agg #[.int .i64 c, .int .i64 r, .int .i64 d, .int .i64 s], .agg #[.int .i64 c', .int .i64 r', .int .i64 d', .int .i64 s'], .agg #[.int .i64 x, .int .i64 y], .int .i64 k] w fun e w' => e = .returned (.bool true) ∧ Below w.heap.size w w' := by
  have B0 : Hid (Below w.heap.size w (((w.alloc (.cells #[.int .i64 c, .int .i64 r, .int .i64 d, .int .i64 s] 38)).alloc (.cells #[.int .i64 c', .int .i64 r', .int .i64 d', .int .i64 s'] 38)).alloc (.cells #[.int .i64 x, .int .i64 y] 23))) := ((((Gr.refl w).alloc _ _).alloc _ _).alloc _ _).below
  have A_0 : Hid (Has4 (((w.alloc (.cells #[.int .i64 c, .int .i64 r, .int .i64 d, .int .i64 s] 38)).alloc (.cells #[.int .i64 c', .int .i64 r', .int .i64 d', .int .i64 s'] 38)).alloc (.cells #[.int .i64 x, .int .i64 y] 23)) w.heap.size (.int .i64 c) (.int .i64 r) (.int .i64 d) (.int .i64 s)) := (has4_new w _ _ _ _ _).gr (((Gr.refl _).alloc _ _).alloc _ _)
  have B_0 : Hid (Has4 (((w.alloc (.cells #[.int .i64 c, .int .i64 r, .int .i64 d, .int .i64 s] 38)).alloc (.cells #[.int .i64 c', .int .i64 r', .int .i64 d', .int .i64 s'] 38)).alloc (.cells #[.int .i64 x, .int .i64 y] 23)) (w.heap.size + 1) (.int .i64 c') (.int .i64 r') (.int .i64 d') (.int .i64 s')) := by
    have := (has4_new (w.alloc (.cells #[.int .i64 c, .int .i64 r, .int .i64 d, .int .i64 s] 38)) (.int .i64 c') (.int .i64 r') (.int .i64 d') (.int .i64 s') 38).gr ((Gr.refl _).alloc #[.int .i64 x, .int .i64 y] 23)
    rw [World.size_alloc] at this
    exact this
  have P0 : Hid (Has2 (((w.alloc (.cells #[.int .i64 c, .int .i64 r, .int .i64 d, .int .i64 s] 38)).alloc (.cells #[.int .i64 c', .int .i64 r', .int .i64 d', .int .i64 s'] 38)).alloc (.cells #[.int .i64 x, .int .i64 y] 23)) (w.heap.size + 1 + 1) (.int .i64 x) (.int .i64 y)) := by
    have := has2_new ((w.alloc (.cells #[.int .i64 c, .int .i64 r, .int .i64 d, .int .i64 s] 38)).alloc (.cells #[.int .i64 c', .int .i64 r', .int .i64 d', .int .i64 s'] 38)) (.int .i64 x) (.int .i64 y) 23
    simp only [World.size_alloc] at this
    exact this
  go_enter Tryd.func5, Tryd.ntmps5
  go_wp2_with fail
  refine (H0.out _).mono ?_
  rintro e w1 ⟨rfl, hb⟩
  have Bw1' : Hid (Below w.heap.size w w1) := B0.out.trans (hb.mono (by simp; omega))
  have A_w1 : Hid (Has4 w1 w.heap.size (.int .i64 c) (.int .i64 r) (.int .i64 d) (.int .i64 s)) := A_0.out.bel hb
  have B_w1 : Hid (Has4 w1 (w.heap.size + 1) (.int .i64 c') (.int .i64 r') (.int .i64 d') (.int .i64 s')) := B_0.out.bel hb
  have P1 : Hid (Has2 w1 (w.heap.size + 1 + 1) (.int .i64 x) (.int .i64 y)) := P0.out.bel hb
  clear hb B0 A_0 B_0 P0
  go_upto_region 2 with fail
  go_cut [10] (fun u wx => u = .bool true ∧ Below w1.heap.size w1 wx)
  case first =>
    as_aux_lemma =>
    have x0 : ∀ z : BW w1, z.wd.cell? ⟨w.heap.size, 0, none⟩ = some (.int .i64 c) := fun z => (A_w1.out.bel z.bel).c0
    have x1 : ∀ z : BW w1, z.wd.cell? ⟨w.heap.size, 1, none⟩ = some (.int .i64 r) := fun z => (A_w1.out.bel z.bel).c1
    have x2 : ∀ z : BW w1, z.wd.cell? ⟨w.heap.size, 2, none⟩ = some (.int .i64 d) := fun z => (A_w1.out.bel z.bel).c2
    have x3 : ∀ z : BW w1, z.wd.cell? ⟨w.heap.size, 3, none⟩ = some (.int .i64 s) := fun z => (A_w1.out.bel z.bel).c3
    have y0 : ∀ z : BW w1, z.wd.cell? ⟨w.heap.size + 1 + 1, 0, none⟩ = some (.int .i64 x) := fun z => (P1.out.bel z.bel).1.1
    have y1 : ∀ z : BW w1, z.wd.cell? ⟨w.heap.size + 1 + 1, 1, none⟩ = some (.int .i64 y) := fun z => (P1.out.bel z.bel).1.2
    clear H0 H7 H8 H9 H10 H11 H12 H13 H14 A_w1 B_w1 P1 Bw1'
    refine wp_region_bw (W0 := w1) (Below.refl _ _) (by kernel_rfl) (by kernel_rfl) ?_
    repeat (
      refine wpQuiet_step (fun K hK => ?_)
      go_simp
      first
        | (refine hK _ ?_; clear hK K)
        | (apply Exists.intro
           refine ⟨fun _ => ?_, hK _ ?_⟩
           (first
             | (go_at_call 23; exact calls_bw (H1.out _))
             | (go_at_call 24; exact calls_bw (H2.out _))
             | (go_at_call 25; exact calls_bw (H3.out _))
             | (go_at_call 26; exact calls_bw (H4.out _))
             | (go_at_call 27; exact calls_bw (H5.out _))
             | (go_at_call 28; exact calls_bw (H6.out _)))
           clear hK K))
    refine wpQuiet_nil ?_
    rintro _ ⟨xw, rfl⟩
    go_wp2_with fail
    go_meet
    case rel => exact ⟨rfl, xw.bel⟩
  case rest =>
    as_aux_lemma =>
    obtain ⟨hs, hb⟩ := hcut
    have hs' := hs.symm
    subst hs'
    have hwc : ∃ z, z = wc := ⟨_, rfl⟩
    obtain ⟨w2, hz⟩ := hwc
    rw [← hz] at hb ⊢
    clear hz hs H0 H1 H2 H3 H4 H5 H6 P1
    have Bw2' : Hid (Below w.heap.size w w2) := Bw1'.out.trans (hb.mono Bw1'.out.size)
    have A_w2 : Hid (Has4 w2 w.heap.size (.int .i64 c) (.int .i64 r) (.int .i64 d) (.int .i64 s)) := A_w1.out.bel hb
    have B_w2 : Hid (Has4 w2 (w.heap.size + 1) (.int .i64 c') (.int .i64 r') (.int .i64 d') (.int .i64 s')) := B_w1.out.bel hb
    clear hb Bw1' A_w1 B_w1
    obtain ⟨A_w2a, A_w2b, A_w2c, A_w2d, _, _, _, _⟩ := A_w2.out
    obtain ⟨B_w2a, B_w2b, B_w2c, B_w2d, _, _, _, _⟩ := B_w2.out
    go_wp2_with fail
    refine (H7.out _).mono ?_
    rintro e w3 ⟨rfl, hb⟩
    clear A_w2a A_w2b A_w2c A_w2d B_w2a B_w2b B_w2c B_w2d
    have Bw3' : Hid (Below w.heap.size w w3) := Bw2'.out.trans (hb.mono Bw2'.out.size)
    have A_w3 : Hid (Has4 w3 w.heap.size (.int .i64 c) (.int .i64 r) (.int .i64 d) (.int .i64 s)) := A_w2.out.bel hb
    have B_w3 : Hid (Has4 w3 (w.heap.size + 1) (.int .i64 c') (.int .i64 r') (.int .i64 d') (.int .i64 s')) := B_w2.out.bel hb
    clear hb Bw2' A_w2 B_w2
    have CG : Hid (Below w.heap.size w (w3.alloc (.cells #[.int .i64 g1, .int .i64 g2, .int .i64 g3, .int .i64 g4] 38))) := Bw3'.out.alloc Bw3'.out.size _
    have A_G : Hid (Has4 (w3.alloc (.cells #[.int .i64 g1, .int .i64 g2, .int .i64 g3, .int .i64 g4] 38)) w.heap.size (.int .i64 c) (.int .i64 r) (.int .i64 d) (.int .i64 s)) := A_w3.out.bel ((Below.refl _ _).alloc (Nat.le_refl _) _)
    have B_G : Hid (Has4 (w3.alloc (.cells #[.int .i64 g1, .int .i64 g2, .int .i64 g3, .int .i64 g4] 38)) (w.heap.size + 1) (.int .i64 c') (.int .i64 r') (.int .i64 d') (.int .i64 s')) := B_w3.out.bel ((Below.refl _ _).alloc (Nat.le_refl _) _)
    have G_G : Hid (Has4 (w3.alloc (.cells #[.int .i64 g1, .int .i64 g2, .int .i64 g3, .int .i64 g4] 38)) w3.heap.size (.int .i64 g1) (.int .i64 g2) (.int .i64 g3) (.int .i64 g4)) := has4_new _ _ _ _ _ _
    clear Bw3' A_w3 B_w3
    obtain ⟨A_Ga, A_Gb, A_Gc, A_Gd, _, _, _, _⟩ := A_G.out
    obtain ⟨B_Ga, B_Gb, B_Gc, B_Gd, _, _, _, _⟩ := B_G.out
    go_wp2_with fail
    refine (H8.out _).mono ?_
    rintro e w4 ⟨rfl, hb⟩
    clear A_Ga A_Gb A_Gc A_Gd B_Ga B_Gb B_Gc B_Gd
    have Bw4' : Hid (Below w.heap.size w w4) := CG.out.trans (hb.mono CG.out.size)
    have A_w4 : Hid (Has4 w4 w.heap.size (.int .i64 c) (.int .i64 r) (.int .i64 d) (.int .i64 s)) := A_G.out.bel hb
    have B_w4 : Hid (Has4 w4 (w.heap.size + 1) (.int .i64 c') (.int .i64 r') (.int .i64 d') (.int .i64 s')) := B_G.out.bel hb
    have G_w4 : Hid (Has4 w4 w3.heap.size (.int .i64 g1) (.int .i64 g2) (.int .i64 g3) (.int .i64 g4)) := G_G.out.bel hb
    clear hb CG A_G B_G G_G
    have CQ : Hid (Below w.heap.size w (w4.alloc (.cells #[.int .i64 g1, .int .i64 g2, .int .i64 g3, .int .i64 g4] 38))) := Bw4'.out.alloc Bw4'.out.size _
    have A_Q : Hid (Has4 (w4.alloc (.cells #[.int .i64 g1, .int .i64 g2, .int .i64 g3, .int .i64 g4] 38)) w.heap.size (.int .i64 c) (.int .i64 r) (.int .i64 d) (.int .i64 s)) := A_w4.out.bel ((Below.refl _ _).alloc (Nat.le_refl _) _)
    have B_Q : Hid (Has4 (w4.alloc (.cells #[.int .i64 g1, .int .i64 g2, .int .i64 g3, .int .i64 g4] 38)) (w.heap.size + 1) (.int .i64 c') (.int .i64 r') (.int .i64 d') (.int .i64 s')) := B_w4.out.bel ((Below.refl _ _).alloc (Nat.le_refl _) _)
    have G_Q : Hid (Has4 (w4.alloc (.cells #[.int .i64 g1, .int .i64 g2, .int .i64 g3, .int .i64 g4] 38)) w3.heap.size (.int .i64 g1) (.int .i64 g2) (.int .i64 g3) (.int .i64 g4)) := G_w4.out.bel ((Below.refl _ _).alloc (Nat.le_refl _) _)
    have Q_Q : Hid (Has4 (w4.alloc (.cells #[.int .i64 g1, .int .i64 g2, .int .i64 g3, .int .i64 g4] 38)) w4.heap.size (.int .i64 g1) (.int .i64 g2) (.int .i64 g3) (.int .i64 g4)) := has4_new _ _ _ _ _ _
    clear Bw4' A_w4 B_w4 G_w4
    obtain ⟨A_Qa, A_Qb, A_Qc, A_Qd, _, _, _, _⟩ := A_Q.out
    go_wp2_with fail
    refine (H9.out _ CQ.out).mono ?_
    rintro e w5 ⟨rfl, hb⟩
    clear A_Qa A_Qb A_Qc A_Qd
    have Bw5' : Hid (Below w.heap.size w w5) := CQ.out.trans (hb.mono CQ.out.size)
    have A_w5 : Hid (Has4 w5 w.heap.size (.int .i64 c) (.int .i64 r) (.int .i64 d) (.int .i64 s)) := A_Q.out.bel hb
    have B_w5 : Hid (Has4 w5 (w.heap.size + 1) (.int .i64 c') (.int .i64 r') (.int .i64 d') (.int .i64 s')) := B_Q.out.bel hb
    have G_w5 : Hid (Has4 w5 w3.heap.size (.int .i64 g1) (.int .i64 g2) (.int .i64 g3) (.int .i64 g4)) := G_Q.out.bel hb
    have Q_w5 : Hid (Has4 w5 w4.heap.size (.int .i64 g1) (.int .i64 g2) (.int .i64 g3) (.int .i64 g4)) := Q_Q.out.bel hb
    clear hb CQ A_Q B_Q G_Q Q_Q
    obtain ⟨A_w5a, A_w5b, A_w5c, A_w5d, _, _, _, _⟩ := A_w5.out
    go_wp2_with fail
    refine (H10.out _).mono ?_
    rintro e w6 ⟨rfl, hb⟩
    clear A_w5a A_w5b A_w5c A_w5d
    have Bw6' : Hid (Below w.heap.size w w6) := Bw5'.out.trans (hb.mono Bw5'.out.size)
    have A_w6 : Hid (Has4 w6 w.heap.size (.int .i64 c) (.int .i64 r) (.int .i64 d) (.int .i64 s)) := A_w5.out.bel hb
    have B_w6 : Hid (Has4 w6 (w.heap.size + 1) (.int .i64 c') (.int .i64 r') (.int .i64 d') (.int .i64 s')) := B_w5.out.bel hb
    have G_w6 : Hid (Has4 w6 w3.heap.size (.int .i64 g1) (.int .i64 g2) (.int .i64 g3) (.int .i64 g4)) := G_w5.out.bel hb
    have Q_w6 : Hid (Has4 w6 w4.heap.size (.int .i64 g1) (.int .i64 g2) (.int .i64 g3) (.int .i64 g4)) := Q_w5.out.bel hb
    clear hb Bw5' A_w5 B_w5 G_w5 Q_w5
    obtain ⟨A_w6a, A_w6b, A_w6c, A_w6d, _, _, _, _⟩ := A_w6.out
    obtain ⟨B_w6a, B_w6b, B_w6c, B_w6d, _, _, _, _⟩ := B_w6.out
    go_wp2_with fail
    refine (H11.out _).mono ?_
    rintro e w7 ⟨rfl, hb⟩
    clear A_w6a A_w6b A_w6c A_w6d B_w6a B_w6b B_w6c B_w6d
    have Bw7' : Hid (Below w.heap.size w w7) := Bw6'.out.trans (hb.mono Bw6'.out.size)
    have A_w7 : Hid (Has4 w7 w.heap.size (.int .i64 c) (.int .i64 r) (.int .i64 d) (.int .i64 s)) := A_w6.out.bel hb
    have B_w7 : Hid (Has4 w7 (w.heap.size + 1) (.int .i64 c') (.int .i64 r') (.int .i64 d') (.int .i64 s')) := B_w6.out.bel hb
    have G_w7 : Hid (Has4 w7 w3.heap.size (.int .i64 g1) (.int .i64 g2) (.int .i64 g3) (.int .i64 g4)) := G_w6.out.bel hb
    have Q_w7 : Hid (Has4 w7 w4.heap.size (.int .i64 g1) (.int .i64 g2) (.int .i64 g3) (.int .i64 g4)) := Q_w6.out.bel hb
    clear hb Bw6' A_w6 B_w6 G_w6 Q_w6
    have CM : Hid (Below w.heap.size w (w7.alloc (.cells #[.int .i64 m1, .int .i64 m2, .int .i64 m3, .int .i64 m4] 38))) := Bw7'.out.alloc Bw7'.out.size _
    have A_M : Hid (Has4 (w7.alloc (.cells #[.int .i64 m1, .int .i64 m2, .int .i64 m3, .int .i64 m4] 38)) w.heap.size (.int .i64 c) (.int .i64 r) (.int .i64 d) (.int .i64 s)) := A_w7.out.bel ((Below.refl _ _).alloc (Nat.le_refl _) _)
    have B_M : Hid (Has4 (w7.alloc (.cells #[.int .i64 m1, .int .i64 m2, .int .i64 m3, .int .i64 m4] 38)) (w.heap.size + 1) (.int .i64 c') (.int .i64 r') (.int .i64 d') (.int .i64 s')) := B_w7.out.bel ((Below.refl _ _).alloc (Nat.le_refl _) _)
    have G_M : Hid (Has4 (w7.alloc (.cells #[.int .i64 m1, .int .i64 m2, .int .i64 m3, .int .i64 m4] 38)) w3.heap.size (.int .i64 g1) (.int .i64 g2) (.int .i64 g3) (.int .i64 g4)) := G_w7.out.bel ((Below.refl _ _).alloc (Nat.le_refl _) _)
    have Q_M : Hid (Has4 (w7.alloc (.cells #[.int .i64 m1, .int .i64 m2, .int .i64 m3, .int .i64 m4] 38)) w4.heap.size (.int .i64 g1) (.int .i64 g2) (.int .i64 g3) (.int .i64 g4)) := Q_w7.out.bel ((Below.refl _ _).alloc (Nat.le_refl _) _)
    have M_M : Hid (Has4 (w7.alloc (.cells #[.int .i64 m1, .int .i64 m2, .int .i64 m3, .int .i64 m4] 38)) w7.heap.size (.int .i64 m1) (.int .i64 m2) (.int .i64 m3) (.int .i64 m4)) := has4_new _ _ _ _ _ _
    clear Bw7' A_w7 B_w7 G_w7 Q_w7
    obtain ⟨A_Ma, A_Mb, A_Mc, A_Md, _, _, _, _⟩ := A_M.out
    obtain ⟨B_Ma, B_Mb, B_Mc, B_Md, _, _, _, _⟩ := B_M.out
    go_wp2_with fail
    refine (H12.out _).mono ?_
    rintro e w8 ⟨rfl, hb⟩
    clear A_Ma A_Mb A_Mc A_Md B_Ma B_Mb B_Mc B_Md
    have Bw8' : Hid (Below w.heap.size w w8) := CM.out.trans (hb.mono CM.out.size)
    have A_w8 : Hid (Has4 w8 w.heap.size (.int .i64 c) (.int .i64 r) (.int .i64 d) (.int .i64 s)) := A_M.out.bel hb
    have B_w8 : Hid (Has4 w8 (w.heap.size + 1) (.int .i64 c') (.int .i64 r') (.int .i64 d') (.int .i64 s')) := B_M.out.bel hb
    have G_w8 : Hid (Has4 w8 w3.heap.size (.int .i64 g1) (.int .i64 g2) (.int .i64 g3) (.int .i64 g4)) := G_M.out.bel hb
    have Q_w8 : Hid (Has4 w8 w4.heap.size (.int .i64 g1) (.int .i64 g2) (.int .i64 g3) (.int .i64 g4)) := Q_M.out.bel hb
    have M_w8 : Hid (Has4 w8 w7.heap.size (.int .i64 m1) (.int .i64 m2) (.int .i64 m3) (.int .i64 m4)) := M_M.out.bel hb
    clear hb CM A_M B_M G_M Q_M M_M
    have CN : Hid (Below w.heap.size w (w8.alloc (.cells #[.int .i64 m1, .int .i64 m2, .int .i64 m3, .int .i64 m4] 38))) := Bw8'.out.alloc Bw8'.out.size _
    have A_N : Hid (Has4 (w8.alloc (.cells #[.int .i64 m1, .int .i64 m2, .int .i64 m3, .int .i64 m4] 38)) w.heap.size (.int .i64 c) (.int .i64 r) (.int .i64 d) (.int .i64 s)) := A_w8.out.bel ((Below.refl _ _).alloc (Nat.le_refl _) _)
    have B_N : Hid (Has4 (w8.alloc (.cells #[.int .i64 m1, .int .i64 m2, .int .i64 m3, .int .i64 m4] 38)) (w.heap.size + 1) (.int .i64 c') (.int .i64 r') (.int .i64 d') (.int .i64 s')) := B_w8.out.bel ((Below.refl _ _).alloc (Nat.le_refl _) _)
    have G_N : Hid (Has4 (w8.alloc (.cells #[.int .i64 m1, .int .i64 m2, .int .i64 m3, .int .i64 m4] 38)) w3.heap.size (.int .i64 g1) (.int .i64 g2) (.int .i64 g3) (.int .i64 g4)) := G_w8.out.bel ((Below.refl _ _).alloc (Nat.le_refl _) _)
    have Q_N : Hid (Has4 (w8.alloc (.cells #[.int .i64 m1, .int .i64 m2, .int .i64 m3, .int .i64 m4] 38)) w4.heap.size (.int .i64 g1) (.int .i64 g2) (.int .i64 g3) (.int .i64 g4)) := Q_w8.out.bel ((Below.refl _ _).alloc (Nat.le_refl _) _)
    have M_N : Hid (Has4 (w8.alloc (.cells #[.int .i64 m1, .int .i64 m2, .int .i64 m3, .int .i64 m4] 38)) w7.heap.size (.int .i64 m1) (.int .i64 m2) (.int .i64 m3) (.int .i64 m4)) := M_w8.out.bel ((Below.refl _ _).alloc (Nat.le_refl _) _)
    have N_N : Hid (Has4 (w8.alloc (.cells #[.int .i64 m1, .int .i64 m2, .int .i64 m3, .int .i64 m4] 38)) w8.heap.size (.int .i64 m1) (.int .i64 m2) (.int .i64 m3) (.int .i64 m4)) := has4_new _ _ _ _ _ _
    clear Bw8' A_w8 B_w8 G_w8 Q_w8 M_w8
    obtain ⟨A_Na, A_Nb, A_Nc, A_Nd, _, _, _, _⟩ := A_N.out
    obtain ⟨G_Na, G_Nb, G_Nc, G_Nd, _, _, _, _⟩ := G_N.out
    obtain ⟨Q_Na, Q_Nb, Q_Nc, Q_Nd, _, _, _, _⟩ := Q_N.out
    obtain ⟨M_Na, M_Nb, M_Nc, M_Nd, _, _, _, _⟩ := M_N.out
    obtain ⟨N_Na, N_Nb, N_Nc, N_Nd, _, _, _, _⟩ := N_N.out
    go_upto_region 10 with fail
    clear A_Na A_Nb A_Nc A_Nd G_Na G_Nb G_Nc G_Nd Q_Na Q_Nb Q_Nc Q_Nd M_Na M_Nb M_Nc M_Nd N_Na N_Nb N_Nc N_Nd
    clear H7 H8 H9 H10 H11 H12
    obtain ⟨A_Na, A_Nb, A_Nc, A_Nd, _, _, _, _⟩ := A_N.out
    generalize hW : (w8.alloc (.cells #[.int .i64 m1, .int .i64 m2, .int .i64 m3, .int .i64 m4] 38)) = W9 at *
    clear hW
    go_region_held3 (fun w' => w'.cell? ⟨w.heap.size, 0, none⟩ = some (.int .i64 c) ∧ w'.cell? ⟨w.heap.size, 1, none⟩ = some (.int .i64 r) ∧ w'.cell? ⟨w.heap.size, 2, none⟩ = some (.int .i64 d) ∧ w'.cell? ⟨w.heap.size, 3, none⟩ = some (.int .i64 s)) (go_keep) (first
      | (go_at_call 36; refine (H13.out _).mono ?_; rintro e w10 ⟨v, rfl, hown, hb⟩; have HB : Hid (Below W9.heap.size W9 w10) := (Below.drew (Below.refl _ W9)).trans hb; have HO : Hid (w10.ownsRow W9.heap.size 23 2 v (nA c r d s) (clV c r (d - c + 1).toNat (nA c r d s))) := hown; obtain ⟨f0, f1, f2, f3, _, _, _, _⟩ := A_N.out.bel HB.out; clear hown hb)
      | (go_at_call 35; refine (H14.out W9.heap.size v _ HB.out.size HO.out).mono ?_; rintro e w11 ⟨rfl, hb⟩; have HB2 : Hid (Below W9.heap.size W9 w11) := HB.out.trans (hb.mono HB.out.size); obtain ⟨h0, h1, h2, h3, _, _, _, _⟩ := A_N.out.bel HB2.out; clear hb))
    all_goals
      go_wp2_with fail
      go_ret
      exact ⟨rfl, CN.out.trans (HB2.out.mono CN.out.size)⟩

/-- What the document's gone must answer. -/
def SaysGone : Prop := ∀ (c r d s k : Int) (_ : -9223372036854775808 ≤ k) (_ : k ≤ 9223372036854775807) (b : Nat) (v : Value) (w : World), b ≤ w.heap.size → w.ownsRow b 23 2 v (nA c r d s) (clV c r (d - c + 1).toNat (nA c r d s)) → Calls Tryd.prog 35 #[.agg #[.int .i64 c, .int .i64 r, .int .i64 d, .int .i64 s], v, .int .i64 k] w fun e w' => e = .returned (.bool true) ∧ Below w.heap.size w w'
theorem areas_any (h : AddrSays) (hg : SaysGone) (c r d s c' r' d' s' x y k : Int) (hk0 : -9223372036854775808 ≤ k) (hk1 : k ≤ 9223372036854775807) (w : World) (hT : Tw w) :
    Calls Tryd.prog 5 #[.agg #[.int .i64 c, .int .i64 r, .int .i64 d, .int .i64 s], .agg #[.int .i64 c', .int .i64 r', .int .i64 d', .int .i64 s'], .agg #[.int .i64 x, .int .i64 y], .int .i64 k] w fun e w' => e = .returned (.bool true) ∧ Below w.heap.size w w' :=
  areas_core w c r d s c' r' d' s' x y k _ _ _ _ _ _ _ _ _ _ _ _ _ _ _ (awake_any h) (h.validArea c r d s) (refValidArea c r d s) (h.inn c r d s x y) (refIn c r d s x y) (h.size c r d s) (refSize c r d s) (h.area c r d' s') (refArea c r d' s') (fun w' hb => h.areaText c r d s w' (hT.bel hb)) (refAreaText c r d s) (h.meet c r d s c' r' d' s') (refMeet c r d s c' r' d' s') (fun w => rCells_any c r d s w) (fun b v w hb ho => hg c r d s k hk0 hk1 b v w hb ho)
end Go.Proofs.YthehdloofamadaaDoor
