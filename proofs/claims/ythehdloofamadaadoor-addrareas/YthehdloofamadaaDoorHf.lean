/- The program's Prefix. -/
import Derived.Test.YthehdloofamadaaDoorHe
namespace Go.Proofs.YthehdloofamadaaDoor
open Go.RowKit Go.Shelf
attribute [local go_sem] Oper.semAt_some

theorem far_has4 {β : Type} {B b : Nat} (x y z u : β → Value) (hb : b < B) : Far B (fun s W => Has4 W b (x s) (y s) (z s) (u s)) := fun _ _ _ _ hs hg hr =>
  has4_block hs (hg.block b (cell_lt hs.c0) (fun e => by have := hr b e.symm; omega))
theorem far_boxed {β : Type} {B b : Nat} (t : TypeId) (v : β → Value) (hb : b < B) : Far B (fun s W => Boxed W b t (v s)) := fun _ _ _ _ hs hg hr => far_block hs hb hg hr
theorem Kq.alloc {bT n₁ : Nat} (W : World) (o : Obj) (hT : bT < W.heap.size) : Kq bT n₁ W (W.alloc o) :=
  ⟨by simp, Below.heap_alloc W o bT hT, fun k _ _ hk _ => (Below.heap_alloc W o k (Array.getElem?_eq_some_iff.1 hk).1).trans hk⟩
theorem Kq.gr {bT n₁ : Nat} {W W' : World} (h : Gr W W') (hT : bT < W.heap.size) : Kq bT n₁ W W' :=
  ⟨h.ext.size, h.ext.block bT hT, fun k _ _ hk _ => (h.ext.block k (Array.getElem?_eq_some_iff.1 hk).1).trans hk⟩
theorem Kq.grown {bT n₁ b : Nat} {W W' : World} (h : W.grownBy W' (some b)) (hT : bT < W.heap.size) (hb : b < n₁) (hne : bT ≠ b) : Kq bT n₁ W W' :=
  ⟨h.size, h.block bT hT (fun e => hne (Option.some.inj e)), fun k _ hk hq _ => (h.block k (Array.getElem?_eq_some_iff.1 hq).1 (fun e => by have := Option.some.inj e; omega)).trans hq⟩
theorem Gr.others {W W' : World} (h : Gr W W') : KeepsOthers W W' := ⟨h.ext.size, fun k _ hk _ => (h.ext.block k (Array.getElem?_eq_some_iff.1 hk).1).trans hk⟩
theorem lastN_snoc (pre : List (Int × Rs)) (x : Int × Rs) : lastN (pre ++ [x]) = x.1 := by simp [lastN]
theorem lastS_snoc (pre : List (Int × Rs)) (x : Int × Rs) : lastS (pre ++ [x]) = x.2 := by simp [lastS]

set_option maxRecDepth 100000 in
set_option maxHeartbeats 8000000 in
theorem pPrefix_core (l : List UInt8) (P : Int) (w : World) (hN : (l.length : Int) < 140737488355328)
    (hdone : Hid ((∀ x ∈ ups l l.length, vC x.2.c x.2.r = true) → P = lastN (ups l l.length)))
    (hstop : Hid (∀ p x, p ++ [x] <+: ups l l.length → (∀ y ∈ p, vC y.2.c y.2.r = true) → vC x.2.c x.2.r = false → P = lastN p)) :
    Calls Tryd.prog 21 #[.string ⟨l.toArray⟩] w fun e w' => e = .returned (.int .i64 P) ∧ Below w.heap.size w w' := by
  have H1 : Hid (∀ w, Calls Tryd.prog 47 #[.string ⟨l.toArray⟩] w fun e w' => e = .returned (.func (.func 55) #[] #[.pointer (some ⟨w.heap.size, 0, none⟩)]) ∧ w' = w.alloc (.cells #[.string ⟨l.toArray⟩] 9)) := pforms_at l
  have H2 : Hid (∀ c r w, Calls Tryd.prog 9 #[.agg #[.int .i64 c, .int .i64 r]] w fun e w' => e = .returned (.bool (vC c r)) ∧ w' = w.alloc (.cells #[.int .i64 c, .int .i64 r] 23)) := pValid_at
  refine (callsIn_wide (n := 9)).1 ?_
  refine callsIn_of_wp_marks Tryd.func21 rfl trivial ?_ rfl
  simp only [Tryd.ntmps21, List.size_toArray, List.length_cons, List.length_nil, Nat.reduceAdd, Nat.reduceSub, Array.replicate_succ, Array.replicate_zero, List.push_toArray, List.append_toArray, List.nil_append, List.cons_append]
  gi_wp2_with (fail)
  refine ⟨trivial, (callsIn_wide.2 (H1.out _)).mono ?_⟩
  rintro e w1 ⟨rfl, rfl⟩
  gi_wp2_with (fail)
  have hseq := pforms_seq l hN (w.alloc (.cells #[.int .i64 0] 3))
  rw [World.size_alloc] at hseq
  obtain ⟨W0, hW0⟩ : ∃ W0, (w.alloc (.cells #[.int .i64 0] 3)).alloc (.cells #[.string ⟨l.toArray⟩] 9) = W0 := ⟨_, rfl⟩
  have hsz : W0.heap.size = w.heap.size + 2 := by rw [← hW0]; simp
  have hbx : Boxed W0 w.heap.size 3 (.int .i64 0) := by rw [← hW0]; exact (Boxed.new w _ _).alloc _
  have hbl : Below w.heap.size w W0 := by rw [← hW0]; exact ((Below.refl _ _).alloc (Nat.le_refl _) _).alloc (by simp) _
  rw [hW0] at hseq ⊢
  generalize hact : Act.mk _ _ = a0
  refine wpIn_range_far (by decide) (gf := 55) (lb := #[.pointer (some ⟨w.heap.size + 1, 0, none⟩)]) (by rw [← hact]; rfl) (enters_of Tryd.func55 (by kernel_rfl) rfl)
    (hseq 8 (by decide)) Kq.trans (Kq.book (by omega)) (fun _ => rfl)
    (fun pre W => Boxed W w.heap.size 3 (.int .i64 (lastN pre)) ∧ (∀ y ∈ pre, vC y.2.c y.2.r = true) ∧ (w.heap.size + 2 ≤ W.heap.size ∧ Below w.heap.size w W))
    (fun cd pre' W => cd = .exit 0 ∧ ∃ pre x, pre' = pre ++ [x] ∧ vC x.2.c x.2.r = false ∧ (∀ y ∈ pre, vC y.2.c y.2.r = true) ∧ Boxed W w.heap.size 3 (.int .i64 (lastN pre)) ∧ Below w.heap.size w W)
    ?hI ?hIx ⟨hbx, by simp, by omega, hbl⟩
    (fun x a' W => ∃ Bx, w.heap.size + 1 < Bx ∧ Has4 W Bx (.int .i64 x.2.c) (.int .i64 x.2.r) (.bool x.2.cf) (.bool x.2.rf) ∧ a' = { tmps := (((a0.tmps.setIfInBounds 8 (.int .i64 x.1)).setIfInBounds 9 (.agg #[.int .i64 x.2.c, .int .i64 x.2.r, .bool x.2.cf, .bool x.2.rf])).setIfInBounds 4 (.int .i64 x.1)).setIfInBounds 5 (.pointer (some ⟨Bx, 0, none⟩)), defers := [] })
    ?hAx ?assign ?body ?done ?stop
  case hI => exact (far_boxed _ _ (by omega)).and ((far_pure _ _).and (Far.and (fun _ _ _ _ hs hg _ => Nat.le_trans hs hg.size) (far_below (Nat.le_refl _) (by omega))))
  case hIx =>
    intro c s A B row hs hg hr
    obtain ⟨h1, pre, x, h2, h3, h4, h5, h6⟩ := hs
    exact ⟨h1, pre, x, h2, h3, h4, far_block h5 (by omega) hg hr, far_below (β := Unit) (Nat.le_refl _) (by omega) () A B row h6 hg hr⟩
  case hAx =>
    exact fun x a' => Own.from (fun s A B row hs hg hr => by
      obtain ⟨Bx, h1, h2, h3⟩ := hs
      exact ⟨Bx, h1, ⟨cell_kept h2.c0 hg hr, cell_kept h2.c1 hg hr, cell_kept h2.c2 hg hr, cell_kept h2.c3 hg hr, (frozen_kept h2.c0 hg hr).trans h2.f0, (frozen_kept h2.c1 hg hr).trans h2.f1, (frozen_kept h2.c2 hg hr).trans h2.f2, (frozen_kept h2.c3 hg hr).trans h2.f3⟩, h3⟩) _
  case assign =>
    subst hact
    rintro lp pre x W K ⟨hb, hv, hs, hB⟩ hK
    simp only [encF]
    gi_wp2
    exact hK _ _ ((KeepsOthers.alloc _ _).from _) (Kq.alloc W _ (by omega)) ⟨hb.alloc _, hv, by simp; omega, hB.alloc hB.size _⟩ ⟨W.heap.size, by omega, has4_new _ _ _ _ _ _, rfl⟩
  case body =>
    subst hact
    rintro lp pre u a' W hl ⟨hb, hv, hs, hB⟩ ⟨Bx, hBx, hX, rfl⟩ hlt
    obtain ⟨x0, x1, x2, x3, _, _, _, _⟩ := hX
    have BX : Hid (Boxed W w.heap.size 3 (.int .i64 (lastN pre))) := hb
    have HV : Hid (∀ y ∈ pre, vC y.2.c y.2.r = true) := hv
    have HS : Hid (w.heap.size + 2 ≤ W.heap.size) := hs
    have HB : Hid (Below w.heap.size w W) := hB
    clear hb hv hB hlt hseq hbx hbl hs
    gi_wp2_with (fail)
    refine ⟨trivial, (CallsIn.inRound lp (callsIn_wide.2 (H2.out _ _ _))).mono ?_⟩
    rintro e W2 ⟨rfl, rfl⟩
    clear x0 x1 x2 x3
    obtain ⟨V2, hV2⟩ : ∃ V2, W.alloc (.cells #[.int .i64 u.2.c, .int .i64 u.2.r] 23) = V2 := ⟨_, rfl⟩
    have B2 : Hid (Boxed V2 w.heap.size 3 (.int .i64 (lastN pre))) := by show Boxed _ _ _ _; rw [← hV2]; exact BX.out.alloc _
    have K2 : Hid (KeepsOthers W V2) := by show KeepsOthers _ _; rw [← hV2]; exact KeepsOthers.alloc _ _
    have Q2 : Hid (Kq (w.heap.size + 1) W0.heap.size W V2) := by show Kq _ _ _ _; rw [← hV2]; exact Kq.alloc W _ (by have := HS.out; omega)
    have L2 : Hid (Below w.heap.size w V2) := by show Below _ _ _; rw [← hV2]; exact HB.out.alloc HB.out.size _
    have Z2 : Hid (w.heap.size + 2 ≤ V2.heap.size) := by show _ ≤ _; rw [← hV2]; have := HS.out; simp; omega
    rw [hV2]
    clear hV2 HB HS BX
    have hc := B2.out.cell
    have hf := B2.out.frozen
    cases hvv : vC u.2.c u.2.r
    · have HVV : Hid (vC u.2.c u.2.r = false) := hvv
      clear hvv
      gi_wp2_with (fail)
      exact ⟨K2.out.from _, rfl, pre, u, rfl, HVV.out, HV.out, B2.out, L2.out⟩
    · have HVV : Hid (vC u.2.c u.2.r = true) := hvv
      clear hvv
      gi_wp2_with (fail)
      refine ⟨(K2.out.trans (KeepsOthers.setCell _ _ _)).from _, Q2.out.trans (Kq.grown (setCell_grown V2 w.heap.size 0 _) (by have := Z2.out; omega) (by omega) (by omega)), ?_, ?_, ?_, ?_⟩
      · rw [lastN_snoc]; exact B2.out.set _
      · intro y hy
        rcases List.mem_append.1 hy with h | h
        · exact HV.out y h
        · have : y = u := by simpa using h
          subst this; exact HVV.out
      · exact Nat.le_trans Z2.out (setCell_grown V2 w.heap.size 0 _).size
      · exact L2.out.setCell (p := ⟨w.heap.size, 0, none⟩) (Nat.le_refl _) _
  case done =>
    subst hact
    rintro D ys W hD hys ⟨hb, hv, hs, hB⟩ hK
    have hP : Hid (P = lastN ys) := by
      show _ = _
      rw [hys]
      exact hdone.out (by rw [← hys]; exact hv)
    have hc := hb.cell
    have HK : Hid (W.heap[D]? = some (.deferred (some []))) := hK
    have HB : Hid (Below w.heap.size w W) := hB
    have HDD : Hid (w.heap.size ≤ D) := by show _ ≤ _; omega
    clear hys hb hv hs hB hK hD hseq hbx hbl
    gi_wp2
    refine ⟨by simp, .inl ⟨_, _, rfl, run_takeDeferred HK.out, ?_⟩⟩
    refine ⟨_, results_tmp rfl _ _ _, by rw [hP.out]; rfl, ?_⟩
    exact HB.out.trans (belowK_b (w := w) (Nat.le_refl _) W D _ _ HDD.out HK.out rfl rfl)
  case stop =>
    subst hact
    rintro D c pre' W hD hpre ⟨rfl, p, x, rfl, hx, hv, hb, hB⟩ hK
    have hP : Hid (P = lastN p) := hstop.out p x hpre hv hx
    have hc := hb.cell
    have HK : Hid (W.heap[D]? = some (.deferred (some []))) := hK
    have HB : Hid (Below w.heap.size w W) := hB
    have HDD : Hid (w.heap.size ≤ D) := by show _ ≤ _; omega
    clear hpre hx hb hv hB hK hD hseq hbx hbl
    gi_wp2
    refine ⟨by simp, .inl ⟨_, _, rfl, run_takeDeferred HK.out, ?_⟩⟩
    refine ⟨_, results_tmp rfl _ _ _, by rw [hP.out]; rfl, ?_⟩
    exact HB.out.trans (belowK_b (w := w) (Nat.le_refl _) W D _ _ HDD.out HK.out rfl rfl)
theorem pPrefix_any (l : List UInt8) (n : Int) (hn : (l.length : Int) = n) (hl : n < 140737488355328) (w : World) :
    Calls Tryd.prog 21 #[.string ⟨l.toArray⟩] w fun e w' => e = .returned (.int .i64 (pfx l : Nat)) ∧ Below w.heap.size w w' :=
  pPrefix_core l _ w (by omega) (fun h => pfx_done l h) (fun p x h1 h2 h3 => pfx_stop l p x h1 h2 h3)
end Go.Proofs.YthehdloofamadaaDoor
