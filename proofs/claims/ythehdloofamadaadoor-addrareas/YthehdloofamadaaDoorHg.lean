/- The program's Parse. -/
import Derived.Test.YthehdloofamadaaDoorHf
namespace Go.Proofs.YthehdloofamadaaDoor
open Go.RowKit Go.Shelf
attribute [local go_sem] Oper.semAt_some

theorem Has4.drew'' {W : World} {b : Nat} {x y z u : Value} (h : Has4 W b x y z u) : Has4 W.drew b x y z u := h.gr ((Gr.refl _).drew)

theorem fin4 {w W : World} {D b : Nat} {x y z u : Value} (hz : Has4 W b x y z u) (hK : W.heap[D]? = some (.deferred (some []))) (hbD : b ≠ D) (hwD : w.heap.size ≤ D) (hwb : w.heap.size ≤ b) (hB : Below w.heap.size w W) (x' y' z' u' : Value) (X : World) (hX : (((W.setCell ⟨b, 0, none⟩ x').setCell ⟨b, 1, none⟩ y').setCell ⟨b, 2, none⟩ z').setCell ⟨b, 3, none⟩ u' = X) :
    X.heap[D]? = some (.deferred (some [])) ∧ Has4 (X.putObj D (.deferred none)) b x' y' z' u' ∧ Below w.heap.size w (X.putObj D (.deferred none)) := by
  have hg := put4_grown W b x' y' z' u'
  rw [hX] at hg
  have hk : X.heap[D]? = some (.deferred (some [])) := (hg.block D (Array.getElem?_eq_some_iff.1 hK).1 (fun e => hbD (Option.some.inj e).symm)).trans hK
  have h4 : Has4 X b x' y' z' u' := by rw [← hX]; exact hz.put _ _ _ _
  have hb : Below w.heap.size w X := by
    rw [← hX]
    exact (((hB.setCell (p := ⟨b, 0, none⟩) hwb _).setCell (p := ⟨b, 1, none⟩) hwb _).setCell (p := ⟨b, 2, none⟩) hwb _).setCell (p := ⟨b, 3, none⟩) hwb _
  exact ⟨hk, has4_block h4 (World.putObj_heap_other hbD), hb.trans (belowK_b (w := w) (Nat.le_refl _) X D _ _ hwD hk rfl rfl)⟩

set_option maxRecDepth 100000 in
set_option maxHeartbeats 8000000 in
theorem pParse_core (l : List UInt8) (N : Int) (hN : (l.length : Int) = N) (hNb : N < 140737488355328) (n c r E C R : Int) (cf rf CF RF V : Bool) (w : World)
    (H2 : Hid (∀ w, Calls Tryd.prog 9 #[.agg #[.int .i64 c, .int .i64 r]] w fun e w' => e = .returned (.bool V) ∧ w' = w.alloc (.cells #[.int .i64 c, .int .i64 r] 23)))
    (hn : Hid (lastN (ups l l.length) = n)) (hs : Hid (lastS (ups l l.length) = ⟨c, r, cf, rf⟩)) (hn0 : 0 ≤ n)
    (hcase : Hid (((n = 0 ∨ n < N) ∧ E = 3 ∧ C = 0 ∧ R = 0 ∧ CF = false ∧ RF = false) ∨ (n = N ∧ 0 < N ∧ V = false ∧ E = 20 ∧ C = 0 ∧ R = 0 ∧ CF = false ∧ RF = false) ∨ (n = N ∧ 0 < N ∧ V = true ∧ E = 0 ∧ C = c ∧ R = r ∧ CF = cf ∧ RF = rf))) :
    Calls Tryd.prog 17 #[.string ⟨l.toArray⟩] w fun e w' => e = .returned (.tuple #[.agg #[.int .i64 C, .int .i64 R, .bool CF, .bool RF], .int .i64 E]) ∧ Below w.heap.size w w' := by
  have H1 : Hid (∀ w, Calls Tryd.prog 47 #[.string ⟨l.toArray⟩] w fun e w' => e = .returned (.func (.func 55) #[] #[.pointer (some ⟨w.heap.size, 0, none⟩)]) ∧ w' = w.alloc (.cells #[.string ⟨l.toArray⟩] 9)) := pforms_at l
  refine (callsIn_wide (n := 9)).1 ?_
  refine callsIn_of_wp_marks Tryd.func17 rfl trivial ?_ rfl
  simp only [Tryd.ntmps17, List.size_toArray, List.length_cons, List.length_nil, Nat.reduceAdd, Nat.reduceSub, Array.replicate_succ, Array.replicate_zero, List.push_toArray, List.append_toArray, List.nil_append, List.cons_append]
  gi_wp2_with (fail)
  refine ⟨trivial, (callsIn_wide.2 (H1.out _)).mono ?_⟩
  rintro e w1 ⟨rfl, rfl⟩
  gi_wp2_with (fail)
  have hseq := pforms_seq l (by omega) (((w.alloc (.cells #[.int .i64 0, .int .i64 0, .bool false, .bool false] 25)).alloc (.cells #[.int .i64 0, .int .i64 0, .bool false, .bool false] 25)).alloc (.cells #[.int .i64 0] 3))
  rw [World.size_alloc, World.size_alloc, World.size_alloc] at hseq
  obtain ⟨W0, hW0⟩ : ∃ W0, (((w.alloc (.cells #[.int .i64 0, .int .i64 0, .bool false, .bool false] 25)).alloc (.cells #[.int .i64 0, .int .i64 0, .bool false, .bool false] 25)).alloc (.cells #[.int .i64 0] 3)).alloc (.cells #[.string ⟨l.toArray⟩] 9) = W0 := ⟨_, rfl⟩
  have hsz : W0.heap.size = w.heap.size + 4 := by rw [← hW0]; simp
  have hz0 : Has4 W0 w.heap.size (.int .i64 0) (.int .i64 0) (.bool false) (.bool false) := by
    rw [← hW0]; exact (has4_new w _ _ _ _ _).gr ((((Gr.refl _).alloc _ _).alloc _ _).alloc _ _)
  have hr0 : Has4 W0 (w.heap.size + 1) (.int .i64 0) (.int .i64 0) (.bool false) (.bool false) := by
    have := (has4_new (w.alloc (.cells #[.int .i64 0, .int .i64 0, .bool false, .bool false] 25)) (.int .i64 0) (.int .i64 0) (.bool false) (.bool false) 25).gr (((Gr.refl _).alloc #[.int .i64 0] 3).alloc #[.string ⟨l.toArray⟩] 9)
    rw [World.size_alloc, hW0] at this
    exact this
  have hbx : Boxed W0 (w.heap.size + 1 + 1) 3 (.int .i64 0) := by
    have := (Boxed.new ((w.alloc (.cells #[.int .i64 0, .int .i64 0, .bool false, .bool false] 25)).alloc (.cells #[.int .i64 0, .int .i64 0, .bool false, .bool false] 25)) 3 (.int .i64 0)).alloc (.cells #[.string ⟨l.toArray⟩] 9)
    rw [World.size_alloc, World.size_alloc, hW0] at this
    exact this
  have hbl : Below w.heap.size w W0 := by rw [← hW0]; exact ((((Below.refl _ _).alloc (Nat.le_refl _) _).alloc (by simp) _).alloc (by simp; omega) _).alloc (by simp; omega) _
  rw [hW0] at hseq ⊢
  generalize hact : Act.mk _ _ = a0
  refine wpIn_range_far (by decide) (gf := 55) (lb := #[.pointer (some ⟨w.heap.size + 1 + 1 + 1, 0, none⟩)]) (by rw [← hact]; rfl) (enters_of Tryd.func55 (by kernel_rfl) rfl)
    (hseq 8 (by decide)) Kq.trans (Kq.book (by omega)) (fun _ => rfl)
    (fun pre W => Has4 W (w.heap.size + 1) (.int .i64 (lastS pre).c) (.int .i64 (lastS pre).r) (.bool (lastS pre).cf) (.bool (lastS pre).rf) ∧ Boxed W (w.heap.size + 1 + 1) 3 (.int .i64 (lastN pre)) ∧ Has4 W w.heap.size (.int .i64 0) (.int .i64 0) (.bool false) (.bool false) ∧ (w.heap.size + 4 ≤ W.heap.size ∧ Below w.heap.size w W))
    (fun _ _ _ => False)
    ?hI (fun _ _ _ _ _ hs _ _ => hs) ⟨hr0, hbx, hz0, by omega, hbl⟩
    (fun x a' W => ∃ Bx, w.heap.size + 3 < Bx ∧ Has4 W Bx (.int .i64 x.2.c) (.int .i64 x.2.r) (.bool x.2.cf) (.bool x.2.rf) ∧ a' = { tmps := (((a0.tmps.setIfInBounds 10 (.int .i64 x.1)).setIfInBounds 11 (.agg #[.int .i64 x.2.c, .int .i64 x.2.r, .bool x.2.cf, .bool x.2.rf])).setIfInBounds 6 (.int .i64 x.1)).setIfInBounds 7 (.pointer (some ⟨Bx, 0, none⟩)), defers := [] })
    ?hAx ?assign ?body ?done ?stop
  case hI => exact (far_has4 _ _ _ _ (by omega)).and ((far_boxed _ _ (by omega)).and ((far_has4 _ _ _ _ (by omega)).and (Far.and (fun _ _ _ _ hs hg _ => Nat.le_trans hs hg.size) (far_below (Nat.le_refl _) (by omega)))))
  case hAx =>
    exact fun x a' => Own.from (fun s A B row hs hg hr => by
      obtain ⟨Bx, h1, h2, h3⟩ := hs
      exact ⟨Bx, h1, ⟨cell_kept h2.c0 hg hr, cell_kept h2.c1 hg hr, cell_kept h2.c2 hg hr, cell_kept h2.c3 hg hr, (frozen_kept h2.c0 hg hr).trans h2.f0, (frozen_kept h2.c1 hg hr).trans h2.f1, (frozen_kept h2.c2 hg hr).trans h2.f2, (frozen_kept h2.c3 hg hr).trans h2.f3⟩, h3⟩) _
  case assign =>
    subst hact
    rintro lp pre x W K ⟨hr, hb, hz, hs, hB⟩ hK
    simp only [encF]
    gi_wp2
    exact hK _ _ ((KeepsOthers.alloc _ _).from _) (Kq.alloc W _ (by omega)) ⟨hr.gr ((Gr.refl _).alloc _ _), hb.alloc _, hz.gr ((Gr.refl _).alloc _ _), by simp; omega, hB.alloc hB.size _⟩ ⟨W.heap.size, by omega, has4_new _ _ _ _ _ _, rfl⟩
  case body =>
    subst hact
    rintro lp pre u a' W hl ⟨hr, hb, hz, hs, hB⟩ ⟨Bx, hBx, hX, rfl⟩ hlt
    have XW : Hid (Has4 W Bx (.int .i64 u.2.c) (.int .i64 u.2.r) (.bool u.2.cf) (.bool u.2.rf)) := hX
    have RW : Hid (Has4 W (w.heap.size + 1) (.int .i64 (lastS pre).c) (.int .i64 (lastS pre).r) (.bool (lastS pre).cf) (.bool (lastS pre).rf)) := hr
    have BX : Hid (Boxed W (w.heap.size + 1 + 1) 3 (.int .i64 (lastN pre))) := hb
    have ZW : Hid (Has4 W w.heap.size (.int .i64 0) (.int .i64 0) (.bool false) (.bool false)) := hz
    have HS : Hid (w.heap.size + 4 ≤ W.heap.size) := hs
    have HB : Hid (Below w.heap.size w W) := hB
    have hmx : Tryd.prog.follows .mixedOrders = true := by kernel_rfl
    clear hr hb hz hs hB hX hlt hseq hbx hbl hz0 hr0
    obtain ⟨Wa, hWa⟩ : ∃ Wa, W.setCell ⟨w.heap.size + 1 + 1, 0, none⟩ (.int .i64 u.1) = Wa := ⟨_, rfl⟩
    have ga : W.grownBy Wa (some (w.heap.size + 1 + 1)) := by rw [← hWa]; exact setCell_grown _ _ _ _
    have ra : Has4 Wa (w.heap.size + 1) (.int .i64 (lastS pre).c) (.int .i64 (lastS pre).r) (.bool (lastS pre).cf) (.bool (lastS pre).rf) := has4_block RW.out (ga.block _ (cell_lt RW.out.c0) (fun e => by have := Option.some.inj e; omega))
    have za : Has4 Wa w.heap.size (.int .i64 0) (.int .i64 0) (.bool false) (.bool false) := has4_block ZW.out (ga.block _ (cell_lt ZW.out.c0) (fun e => by have := Option.some.inj e; omega))
    have ba : Boxed Wa (w.heap.size + 1 + 1) 3 (.int .i64 u.1) := by rw [← hWa]; exact BX.out.set _
    obtain ⟨Wb, hWb⟩ : ∃ Wb, (((Wa.setCell ⟨w.heap.size + 1, 0, none⟩ (.int .i64 u.2.c)).setCell ⟨w.heap.size + 1, 1, none⟩ (.int .i64 u.2.r)).setCell ⟨w.heap.size + 1, 2, none⟩ (.bool u.2.cf)).setCell ⟨w.heap.size + 1, 3, none⟩ (.bool u.2.rf) = Wb := ⟨_, rfl⟩
    have gb : Wa.grownBy Wb (some (w.heap.size + 1)) := by rw [← hWb]; exact put4_grown _ _ _ _ _ _
    have rb : Has4 Wb (w.heap.size + 1) (.int .i64 u.2.c) (.int .i64 u.2.r) (.bool u.2.cf) (.bool u.2.rf) := by rw [← hWb]; exact ra.put _ _ _ _
    have zb : Has4 Wb w.heap.size (.int .i64 0) (.int .i64 0) (.bool false) (.bool false) := has4_block za (gb.block _ (cell_lt za.c0) (fun e => by have := Option.some.inj e; omega))
    have bb : Boxed Wb (w.heap.size + 1 + 1) 3 (.int .i64 u.1) := (gb.block _ ba.lt (fun e => by have := Option.some.inj e; omega)).trans ba
    have kb : KeepsOthers W Wb := by
      rw [← hWb, ← hWa]
      exact ((((KeepsOthers.setCell _ _ _).trans (KeepsOthers.setCell _ _ _)).trans (KeepsOthers.setCell _ _ _)).trans (KeepsOthers.setCell _ _ _)).trans (KeepsOthers.setCell _ _ _)
    have lb : Below w.heap.size w Wb := by
      rw [← hWb, ← hWa]
      exact ((((HB.out.setCell (p := ⟨w.heap.size + 1 + 1, 0, none⟩) (by show w.heap.size ≤ w.heap.size + 1 + 1; omega) _).setCell (p := ⟨w.heap.size + 1, 0, none⟩) (by show w.heap.size ≤ w.heap.size + 1; omega) _).setCell (p := ⟨w.heap.size + 1, 1, none⟩) (by show w.heap.size ≤ w.heap.size + 1; omega) _).setCell (p := ⟨w.heap.size + 1, 2, none⟩) (by show w.heap.size ≤ w.heap.size + 1; omega) _).setCell (p := ⟨w.heap.size + 1, 3, none⟩) (by show w.heap.size ≤ w.heap.size + 1; omega) _
    have qb : Kq (w.heap.size + 1 + 1 + 1) W0.heap.size W Wb := (Kq.grown ga (by have := HS.out; omega) (by omega) (by omega)).trans (Kq.grown gb (by have := HS.out; have := ga.size; omega) (by omega) (by omega))
    have FIN : Hid (KeepsFrom W0.heap.size W Wb.drew ∧ Kq (w.heap.size + 1 + 1 + 1) W0.heap.size W Wb.drew ∧ (Has4 Wb.drew (w.heap.size + 1) (.int .i64 (lastS (pre ++ [u])).c) (.int .i64 (lastS (pre ++ [u])).r) (.bool (lastS (pre ++ [u])).cf) (.bool (lastS (pre ++ [u])).rf) ∧ Boxed Wb.drew (w.heap.size + 1 + 1) 3 (.int .i64 (lastN (pre ++ [u]))) ∧ Has4 Wb.drew w.heap.size (.int .i64 0) (.int .i64 0) (.bool false) (.bool false) ∧ (w.heap.size + 4 ≤ Wb.drew.heap.size ∧ Below w.heap.size w Wb.drew))) := by
      refine ⟨(kb.trans (KeepsOthers.drew _)).from _, ⟨qb.size, qb.txt, qb.far⟩, ?_, ?_, zb.drew'', ?_, lb.drew⟩
      · rw [lastS_snoc]; exact rb.drew''
      · rw [lastN_snoc]; exact bb
      · exact Nat.le_trans HS.out qb.size
    rw [← hWb, ← hWa] at FIN
    clear ga ra za ba gb rb zb bb kb lb qb hWa hWb
    obtain ⟨x0, x1, x2, x3, _, _, _, _⟩ := XW.out
    obtain ⟨r0, r1, r2, r3, s0, s1, s2, s3⟩ := RW.out
    have hc := BX.out.cell
    have hf := BX.out.frozen
    gi_wp2_with (fail)
    refine Code.wpIn_mono (Q := fun ex a' w' => match ex with | .normal => Exit.inBlock 1 _ .normal a' w' | _ => False) (fun ex a' w' h => by cases ex <;> first | exact h | exact h.elim) ?_
    gi_region_with_o (fail)
    all_goals exact FIN.out
  case done =>
    subst hact
    rintro D ys W hD hys ⟨hr, hb, hz, hs', hB⟩ hK
    subst hys
    rw [hn.out] at hb
    rw [hs.out] at hr
    have RW : Hid (Has4 W (w.heap.size + 1) (.int .i64 c) (.int .i64 r) (.bool cf) (.bool rf)) := hr
    have ZW : Hid (Has4 W w.heap.size (.int .i64 0) (.int .i64 0) (.bool false) (.bool false)) := hz
    have HK : Hid (W.heap[D]? = some (.deferred (some []))) := hK
    have HB : Hid (Below w.heap.size w W) := hB
    have HDD : Hid (w.heap.size + 4 ≤ D) := by show _ ≤ _; omega
    have hc := hb.cell
    have HC := hcase.out
    clear hr hb hz hs' hB hK hD hseq hbx hbl hz0 hr0 hn hs hcase
    rcases HC with ⟨h1, rfl, rfl, rfl, rfl, rfl⟩ | ⟨rfl, h1, rfl, rfl, rfl, rfl, rfl, rfl⟩ | ⟨rfl, h1, rfl, rfl, rfl, rfl, rfl, rfl⟩
    · by_cases h0 : n = 0
      · subst h0
        clear h1
        obtain ⟨z0, z1, z2, z3, y0, y1, y2, y3⟩ := ZW.out
        gi_wp2_with (fail)
        obtain ⟨f1, f2, f3⟩ := fin4 (w := w) ZW.out HK.out (by have := HDD.out; omega) (by have := HDD.out; omega) (Nat.le_refl _) HB.out (.int .i64 0) (.int .i64 0) (.bool false) (.bool false) _ rfl
        refine ⟨by simp, .inl ⟨_, _, rfl, run_takeDeferred f1, ?_⟩⟩
        refine ⟨.tuple #[.agg #[.int .i64 0, .int .i64 0, .bool false, .bool false], .int .i64 3], ?_, rfl, f3⟩
        obtain ⟨g0, g1, g2, g3, _, _, _, _⟩ := f2
        simp [results, Tryd.results17, go_sem, g0, g1, g2, g3]
      · have h2 : n < N := by omega
        have h3 : (n == 0) = false := by rw [beq_eq_false_iff_ne]; exact h0
        clear h1 h0
        obtain ⟨z0, z1, z2, z3, y0, y1, y2, y3⟩ := ZW.out
        gi_wp2_with (fail)
        obtain ⟨f1, f2, f3⟩ := fin4 (w := w) ZW.out HK.out (by have := HDD.out; omega) (by have := HDD.out; omega) (Nat.le_refl _) HB.out (.int .i64 0) (.int .i64 0) (.bool false) (.bool false) _ rfl
        refine ⟨by simp, .inl ⟨_, _, rfl, run_takeDeferred f1, ?_⟩⟩
        refine ⟨.tuple #[.agg #[.int .i64 0, .int .i64 0, .bool false, .bool false], .int .i64 3], ?_, rfl, f3⟩
        obtain ⟨g0, g1, g2, g3, _, _, _, _⟩ := f2
        simp [results, Tryd.results17, go_sem, g0, g1, g2, g3]
    · have h3 : (n == 0) = false := by rw [beq_eq_false_iff_ne]; omega
      obtain ⟨x0, x1, x2, x3, _, _, _, _⟩ := RW.out
      gi_wp2_with (fail)
      refine ⟨trivial, (callsIn_wide.2 (H2.out _)).mono ?_⟩
      rintro e W2 ⟨rfl, rfl⟩
      obtain ⟨V2, hV2⟩ : ∃ V2, W.alloc (.cells #[.int .i64 c, .int .i64 r] 23) = V2 := ⟨_, rfl⟩
      have gV : Gr W V2 := by rw [← hV2]; exact (Gr.refl _).alloc _ _
      have Z2 : Hid (Has4 V2 w.heap.size (.int .i64 0) (.int .i64 0) (.bool false) (.bool false)) := ZW.out.gr gV
      have R2 : Hid (Has4 V2 (w.heap.size + 1) (.int .i64 c) (.int .i64 r) (.bool cf) (.bool rf)) := RW.out.gr gV
      have K2 : Hid (V2.heap[D]? = some (.deferred (some []))) := (gV.ext.block D (Array.getElem?_eq_some_iff.1 HK.out).1).trans HK.out
      have L2 : Hid (Below w.heap.size w V2) := HB.out.trans (gV.below.mono HB.out.size)
      rw [hV2]
      clear hV2 gV x0 x1 x2 x3 hc
      obtain ⟨z0, z1, z2, z3, y0, y1, y2, y3⟩ := Z2.out
      gi_wp2_with (fail)
      obtain ⟨f1, f2, f3⟩ := fin4 (w := w) Z2.out K2.out (by have := HDD.out; omega) (by have := HDD.out; omega) (Nat.le_refl _) L2.out (.int .i64 0) (.int .i64 0) (.bool false) (.bool false) _ rfl
      refine ⟨by simp, .inl ⟨_, _, rfl, run_takeDeferred f1, ?_⟩⟩
      refine ⟨.tuple #[.agg #[.int .i64 0, .int .i64 0, .bool false, .bool false], .int .i64 20], ?_, rfl, f3⟩
      obtain ⟨g0, g1, g2, g3, _, _, _, _⟩ := f2
      simp [results, Tryd.results17, go_sem, g0, g1, g2, g3]
    · have h3 : (n == 0) = false := by rw [beq_eq_false_iff_ne]; omega
      obtain ⟨x0, x1, x2, x3, _, _, _, _⟩ := RW.out
      gi_wp2_with (fail)
      refine ⟨trivial, (callsIn_wide.2 (H2.out _)).mono ?_⟩
      rintro e W2 ⟨rfl, rfl⟩
      obtain ⟨V2, hV2⟩ : ∃ V2, W.alloc (.cells #[.int .i64 C, .int .i64 R] 23) = V2 := ⟨_, rfl⟩
      have gV : Gr W V2 := by rw [← hV2]; exact (Gr.refl _).alloc _ _
      have Z2 : Hid (Has4 V2 w.heap.size (.int .i64 0) (.int .i64 0) (.bool false) (.bool false)) := ZW.out.gr gV
      have R2 : Hid (Has4 V2 (w.heap.size + 1) (.int .i64 C) (.int .i64 R) (.bool CF) (.bool RF)) := RW.out.gr gV
      have K2 : Hid (V2.heap[D]? = some (.deferred (some []))) := (gV.ext.block D (Array.getElem?_eq_some_iff.1 HK.out).1).trans HK.out
      have L2 : Hid (Below w.heap.size w V2) := HB.out.trans (gV.below.mono HB.out.size)
      rw [hV2]
      clear hV2 gV x0 x1 x2 x3 hc
      obtain ⟨x0, x1, x2, x3, _, _, _, _⟩ := R2.out
      obtain ⟨z0, z1, z2, z3, y0, y1, y2, y3⟩ := Z2.out
      gi_wp2_with (fail)
      obtain ⟨f1, f2, f3⟩ := fin4 (w := w) Z2.out K2.out (by have := HDD.out; omega) (by have := HDD.out; omega) (Nat.le_refl _) L2.out (.int .i64 C) (.int .i64 R) (.bool CF) (.bool RF) _ rfl
      refine ⟨by simp, .inl ⟨_, _, rfl, run_takeDeferred f1, ?_⟩⟩
      refine ⟨.tuple #[.agg #[.int .i64 C, .int .i64 R, .bool CF, .bool RF], .int .i64 0], ?_, rfl, f3⟩
      obtain ⟨g0, g1, g2, g3, _, _, _, _⟩ := f2
      simp [results, Tryd.results17, go_sem, g0, g1, g2, g3]
  case stop =>
    rintro D cd pre W _ _ h _
    exact h.elim
theorem lastN_nn (l : List UInt8) (k : Nat) : 0 ≤ lastN (ups l k) := by
  rcases last_spec l k with ⟨h, _⟩ | ⟨i, s, _, _, h, _⟩
  · rw [h]; exact Int.le_refl 0
  · rw [h]; omega
theorem pParse_any (l : List UInt8) (n : Int) (hn : (l.length : Int) = n) (hl : n < 140737488355328) (w : World) :
    Calls Tryd.prog 17 #[.string ⟨l.toArray⟩] w fun e w' => e = .returned (.tuple #[.agg #[.int .i64 (pc l), .int .i64 (pr l), .bool (pcf l), .bool (prf l)], .int .i64 (pE l)]) ∧ Below w.heap.size w w' := by
  obtain ⟨p1, p2⟩ := parse_ups l
  refine pParse_core l n hn hl (lastN (ups l l.length)) (lastS (ups l l.length)).c (lastS (ups l l.length)).r _ _ _ (lastS (ups l l.length)).cf (lastS (ups l l.length)).rf _ _ (vC (lastS (ups l l.length)).c (lastS (ups l l.length)).r) w (pValid_at _ _) rfl rfl (lastN_nn _ _) ?_
  cases hf : fOk l
  · left
    have hE : pE l = 3 := by unfold pE; rw [if_neg (by rw [hf]; decide)]
    have hne : ¬ pE l = 0 := by rw [hE]; decide
    refine ⟨?_, hE, ?_, ?_, ?_, ?_⟩
    · rcases p2 hf with h | h
      · exact .inl h
      · right; omega
    · unfold pc; rw [if_neg hne]
    · unfold pr; rw [if_neg hne]
    · unfold pcf; rw [if_neg hne]
    · unfold prf; rw [if_neg hne]
  · right
    obtain ⟨h1, h2, h3⟩ := p1 hf
    obtain ⟨k1, k2, k3⟩ := ok_valid l hf
    rw [h3]
    by_cases hE : pE l = 0
    · right
      obtain ⟨q1, q2, q3, q4⟩ := k2 hE
      exact ⟨by omega, by omega, k1.2 hE, hE, q1.symm, q2.symm, q3.symm, q4.symm⟩
    · left
      refine ⟨by omega, by omega, ?_, k3 hE, ?_, ?_, ?_, ?_⟩
      · cases hv : vC (cm 0 ((cutD l).takeWhile isL)) (rm 0 (fDig l))
        · rfl
        · exact absurd (k1.1 hv) hE
      · unfold pc; rw [if_neg hE]
      · unfold pr; rw [if_neg hE]
      · unfold pcf; rw [if_neg hE]
      · unfold prf; rw [if_neg hE]
end Go.Proofs.YthehdloofamadaaDoor
