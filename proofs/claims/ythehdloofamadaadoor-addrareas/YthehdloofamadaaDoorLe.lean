/- AddrCells: its walk. -/
import Derived.Test.YthehdloofamadaaDoorLc
import Derived.Test.YthehdloofamadaaDoorGq
import Derived.Deep.CutRange
import Derived.Deep.DeepCutAuto
import Derived.Deep.RegionWith
namespace Go.Proofs.YthehdloofamadaaDoor
open Go.RowKit

theorem Has2.bel {w w' : World} {b : Nat} {x y : Value} (h : Has2 w b x y) (g : Below w.heap.size w w') : Has2 w' b x y := by
  obtain ⟨⟨h0, h1⟩, f0, f1⟩ := h
  have hb := cell_lt h0
  exact ⟨⟨(g.cell (by exact hb)).trans h0, (g.cell (by exact hb)).trans h1⟩, (g.frozen (by exact hb)).trans f0, (g.frozen (by exact hb)).trans f1⟩

set_option maxHeartbeats 16000000 in
set_option maxRecDepth 20000 in
theorem cells_core (w : World) (c r d s x y E O c' r' : Int) (cf rf cf' rf' V S : Bool) (T : List UInt8)
    (H0 : Hid (∀ w, Calls Tryd.prog 8 #[] w fun e w' => e = .returned (.bool true) ∧ Below w.heap.size w w'))
    (H1 : Hid (∀ w, Calls Tryd.prog 9 #[.agg #[.int .i64 c, .int .i64 r]] w fun e w' => e = .returned (.bool V) ∧ Below w.heap.size w w'))
    (H2 : Hid (∀ w, Calls Tryd.prog 10 #[.agg #[.int .i64 c, .int .i64 r]] w fun e w' => e = .returned (.bool V) ∧ Below w.heap.size w w'))
    (H3 : Hid (∀ w, Calls Tryd.prog 11 #[.agg #[.int .i64 c, .int .i64 r], .agg #[.int .i64 d, .int .i64 s]] w fun e w' => e = .returned (.int .i64 O) ∧ Below w.heap.size w w'))
    (H4 : Hid (∀ w, Calls Tryd.prog 12 #[.agg #[.int .i64 c, .int .i64 r], .agg #[.int .i64 d, .int .i64 s]] w fun e w' => e = .returned (.int .i64 O) ∧ Below w.heap.size w w'))
    (H5 : Hid (∀ w', Below w.heap.size w w' → Calls Tryd.prog 13 #[.agg #[.int .i64 c, .int .i64 r, .bool cf, .bool rf]] w' fun e w'' => e = .returned (.tuple #[.string ⟨T.toArray⟩, .int .i64 E]) ∧ Below w'.heap.size w' w''))
    (H6 : Hid (∀ w, Calls Tryd.prog 14 #[.agg #[.int .i64 c, .int .i64 r, .bool cf, .bool rf]] w fun e w' => e = .returned (.tuple #[.string ⟨T.toArray⟩, .int .i64 E]) ∧ Below w.heap.size w w'))
    (H7 : Hid (∀ w, Calls Tryd.prog 15 #[.agg #[.int .i64 c, .int .i64 r, .bool cf, .bool rf], .int .i64 x, .int .i64 y] w fun e w' => e = .returned (.tuple #[.agg #[.int .i64 c', .int .i64 r', .bool cf', .bool rf'], .bool S]) ∧ Below w.heap.size w w'))
    (H8 : Hid (∀ w, Calls Tryd.prog 16 #[.agg #[.int .i64 c, .int .i64 r, .bool cf, .bool rf], .int .i64 x, .int .i64 y] w fun e w' => e = .returned (.tuple #[.agg #[.int .i64 c', .int .i64 r', .bool cf', .bool rf'], .bool S]) ∧ Below w.heap.size w w')) :
    Calls Tryd.prog 3 #[.agg #[.int .i64 c, .int .i64 r, .bool cf, .bool rf], .agg #[.int .i64 d, .int .i64 s], .int .i64 x, .int .i64 y] w fun e w' => e = .returned (.bool true) ∧ Below w.heap.size w w' := by
  have G0 : Hid (Below w.heap.size w ((w.alloc (.cells #[.int .i64 c, .int .i64 r, .bool cf, .bool rf] 25)).alloc (.cells #[.int .i64 d, .int .i64 s] 23))) := (((Gr.refl w).alloc _ _).alloc _ _).below
  have R0 : Hid (Has4 ((w.alloc (.cells #[.int .i64 c, .int .i64 r, .bool cf, .bool rf] 25)).alloc (.cells #[.int .i64 d, .int .i64 s] 23)) w.heap.size (.int .i64 c) (.int .i64 r) (.bool cf) (.bool rf)) := (has4_new w _ _ _ _ _).gr ((Gr.refl _).alloc _ _)
  have S0 : Hid (Has2 ((w.alloc (.cells #[.int .i64 c, .int .i64 r, .bool cf, .bool rf] 25)).alloc (.cells #[.int .i64 d, .int .i64 s] 23)) (w.heap.size + 1) (.int .i64 d) (.int .i64 s)) := by
    have := has2_new (w.alloc (.cells #[.int .i64 c, .int .i64 r, .bool cf, .bool rf] 25)) (.int .i64 d) (.int .i64 s) 23
    rw [World.size_alloc] at this
    exact this
  go_enter Tryd.func3, Tryd.ntmps3
  go_wp2_with fail
  refine (H0.out _).mono ?_
  rintro e w1 ⟨rfl, hb⟩
  have B1 : Hid (Below w.heap.size w w1) := G0.out.trans (hb.mono (by simp; omega))
  have R1 : Hid (Has4 w1 w.heap.size (.int .i64 c) (.int .i64 r) (.bool cf) (.bool rf)) := R0.out.bel hb
  have S1 : Hid (Has2 w1 (w.heap.size + 1) (.int .i64 d) (.int .i64 s)) := S0.out.bel hb
  clear hb R0 S0 G0
  obtain ⟨r0, r1, r2, r3, _, _, _, _⟩ := R1.out
  go_upto_region 3 with fail
  clear r0 r1 r2 r3
  have BB : Hid (Below w.heap.size w (w1.alloc (.cells #[.int .i64 c, .int .i64 r] 23))) := B1.out.alloc B1.out.size _
  have AW : Hid (Has2 (w1.alloc (.cells #[.int .i64 c, .int .i64 r] 23)) w1.heap.size (.int .i64 c) (.int .i64 r)) := has2_new _ _ _ _
  have SW : Hid (Has2 (w1.alloc (.cells #[.int .i64 c, .int .i64 r] 23)) (w.heap.size + 1) (.int .i64 d) (.int .i64 s)) := S1.out.bel ((Below.refl _ _).alloc (Nat.le_refl _) _)
  have RW : Hid (Has4 (w1.alloc (.cells #[.int .i64 c, .int .i64 r] 23)) w.heap.size (.int .i64 c) (.int .i64 r) (.bool cf) (.bool rf)) := R1.out.bel ((Below.refl _ _).alloc (Nat.le_refl _) _)
  clear R1 S1 B1
  generalize w1.alloc (.cells #[.int .i64 c, .int .i64 r] 23) = W0 at *
  go_cut [11] (fun u wx => u = .bool true ∧ Below W0.heap.size W0 wx)
  case first =>
    as_aux_lemma =>
    have x0 : ∀ x : BW W0, x.wd.cell? ⟨w1.heap.size, 0, none⟩ = some (.int .i64 c) := fun x => (AW.out.bel x.bel).1.1
    have x1 : ∀ x : BW W0, x.wd.cell? ⟨w1.heap.size, 1, none⟩ = some (.int .i64 r) := fun x => (AW.out.bel x.bel).1.2
    have y0 : ∀ x : BW W0, x.wd.cell? ⟨w.heap.size + 1, 0, none⟩ = some (.int .i64 d) := fun x => (SW.out.bel x.bel).1.1
    have y1 : ∀ x : BW W0, x.wd.cell? ⟨w.heap.size + 1, 1, none⟩ = some (.int .i64 s) := fun x => (SW.out.bel x.bel).1.2
    clear H0 H5 H6 H7 H8 AW SW RW BB
    refine wp_region_bw (W0 := W0) (Below.refl _ _) (by kernel_rfl) (by kernel_rfl) ?_
    repeat (
      refine wpQuiet_step (fun K hK => ?_)
      go_simp
      first
        | (refine hK _ ?_; clear hK K)
        | (apply Exists.intro
           refine ⟨fun _ => ?_, hK _ ?_⟩
           (first
             | (go_at_call 9; exact calls_bw (H1.out _))
             | (go_at_call 10; exact calls_bw (H2.out _))
             | (go_at_call 11; exact calls_bw (H3.out _))
             | (go_at_call 12; exact calls_bw (H4.out _)))
           clear hK K))
    refine wpQuiet_nil ?_
    rintro _ ⟨xw, rfl⟩
    go_wp2_with fail
    go_meet
    case rel => exact ⟨rfl, xw.bel⟩
  case rest =>
    as_aux_lemma =>
    obtain ⟨hs, hb2⟩ := hcut
    have hs' := hs.symm
    subst hs'
    have B2 : Hid (Below w.heap.size w wc) := BB.out.trans (hb2.mono BB.out.size)
    have R2 : Hid (Has4 wc w.heap.size (.int .i64 c) (.int .i64 r) (.bool cf) (.bool rf)) := RW.out.bel hb2
    clear hs hb2 AW SW RW BB H0 H1 H2 H3 H4
    obtain ⟨r0, r1, r2, r3, _, _, _, _⟩ := R2.out
    go_wp2_with fail
    refine (H5.out _ B2.out).mono ?_
    rintro e w3 ⟨rfl, hb⟩
    have B3 : Hid (Below w.heap.size w w3) := B2.out.trans (hb.mono B2.out.size)
    have R3 : Hid (Has4 w3 w.heap.size (.int .i64 c) (.int .i64 r) (.bool cf) (.bool rf)) := R2.out.bel hb
    clear hb B2 R2 r0 r1 r2 r3
    obtain ⟨r0, r1, r2, r3, _, _, _, _⟩ := R3.out
    go_wp2_with fail
    refine (H6.out _).mono ?_
    rintro e w4 ⟨rfl, hb⟩
    have B4 : Hid (Below w.heap.size w w4) := B3.out.trans (hb.mono B3.out.size)
    have R4 : Hid (Has4 w4 w.heap.size (.int .i64 c) (.int .i64 r) (.bool cf) (.bool rf)) := R3.out.bel hb
    clear hb B3 R3 r0 r1 r2 r3
    obtain ⟨r0, r1, r2, r3, _, _, _, _⟩ := R4.out
    go_wp2_with fail
    refine (H7.out _).mono ?_
    rintro e w5 ⟨rfl, hb⟩
    have B5 : Hid (Below w.heap.size w w5) := B4.out.trans (hb.mono B4.out.size)
    have R5 : Hid (Has4 (w5.alloc (.cells #[.int .i64 c', .int .i64 r', .bool cf', .bool rf'] 25)) w.heap.size (.int .i64 c) (.int .i64 r) (.bool cf) (.bool rf)) := (R4.out.bel hb).bel ((Below.refl _ _).alloc (Nat.le_refl _) _)
    clear hb B4 R4 r0 r1 r2 r3
    obtain ⟨r0, r1, r2, r3, _, _, _, _⟩ := R5.out
    go_wp2_with fail
    refine (H8.out _).mono ?_
    rintro e w6 ⟨rfl, hb⟩
    have B6 : Hid (Below w.heap.size w w6) := (B5.out.alloc B5.out.size _).trans (hb.mono (by have := B5.out.size; simp; omega))
    have X6 : Hid (Has4 (w6.alloc (.cells #[.int .i64 c', .int .i64 r', .bool cf', .bool rf'] 25)) w5.heap.size (.int .i64 c') (.int .i64 r') (.bool cf') (.bool rf')) := ((has4_new w5 _ _ _ _ _).bel hb).bel ((Below.refl _ _).alloc (Nat.le_refl _) _)
    clear hb B5 R5 r0 r1 r2 r3
    obtain ⟨r0, r1, r2, r3, _, _, _, _⟩ := X6.out
    go_wp2_with fail
    go_ret
    exact ⟨rfl, B6.out.alloc B6.out.size _⟩
theorem cells_any (h : AddrSays) (c r d s x y : Int) (cf rf : Bool) (hx0 : -9223372036854775808 ≤ x) (hx1 : x ≤ 9223372036854775807) (hy0 : -9223372036854775808 ≤ y) (hy1 : y ≤ 9223372036854775807) (w : World) (hT : Tw w) :
    Calls Tryd.prog 3 #[.agg #[.int .i64 c, .int .i64 r, .bool cf, .bool rf], .agg #[.int .i64 d, .int .i64 s], .int .i64 x, .int .i64 y] w fun e w' => e = .returned (.bool true) ∧ Below w.heap.size w w' :=
  cells_core w c r d s x y _ _ _ _ cf rf _ _ _ _ _ (awake_any h) (h.valid c r) (refValid c r) (h.order c r d s) (refOrder c r d s) (fun w' hb => h.text c r cf rf w' (hT.bel hb)) (refText c r cf rf) (h.shift c r cf rf x y hx0 hx1 hy0 hy1) (refShift c r cf rf x y)
end Go.Proofs.YthehdloofamadaaDoor
