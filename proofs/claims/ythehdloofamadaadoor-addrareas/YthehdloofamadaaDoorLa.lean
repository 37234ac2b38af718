/- The iterator over an area's cells: what it must keep; awake. -/
import Derived.Test.YthehdloofamadaaDoorFc
import Derived.Test.YthehdloofamadaaDoorBe
import Derived.RangeFuncNested
import Derived.RangeFuncBound
import Derived.RangeFuncCalls
import Derived.RangeFuncLeaves
import Derived.Shelf.Abstract
import Derived.Shelf.RegionOpen
import Derived.OwnWalkIn
import Derived.TacticsInMore
import Derived.LoopNIn
import Derived.LoopIn
namespace Go.Proofs.YthehdloofamadaaDoor
open Go.RowKit Go.Shelf
attribute [local go_sem] Oper.semAt_some

theorem Gr.below {w w' : World} (h : Gr w w') : Below w.heap.size w w' := ⟨h.ext.os, h.ext.tape, h.ext.output, h.ext.size, fun k hk => h.ext.block k hk⟩

theorem Has4.bel {w w' : World} {b : Nat} {x y z u : Value} (h : Has4 w b x y z u) (g : Below w.heap.size w w') : Has4 w' b x y z u :=
  have hb := cell_lt h.c0
  ⟨(g.cell (by exact hb)).trans h.c0, (g.cell (by exact hb)).trans h.c1, (g.cell (by exact hb)).trans h.c2, (g.cell (by exact hb)).trans h.c3, (g.frozen (by exact hb)).trans h.f0, (g.frozen (by exact hb)).trans h.f1, (g.frozen (by exact hb)).trans h.f2, (g.frozen (by exact hb)).trans h.f3⟩
/-- The k-th cell of an area. -/
def clA (c r d : Int) (k : Nat) : Int × Int := (c + (k % (d - c + 1).toNat : Nat), r + (k / (d - c + 1).toNat : Nat))
/-- All of them, in order. -/
def clL (c r d s : Int) : List (Int × Int) := (List.range (nA c r d s)).map (clA c r d)
def encC (x : Int × Int) : Array Value := #[.agg #[.int .i64 x.1, .int .i64 x.2]]
/-- What the value that Cells answers does when it is ranged over. -/
def CellsSeq (gf : Nat) (lb : Array Value) (c r d s : Int) (w : World) : Prop :=
  ∀ n, 1 ≤ n → SeqStopsK Fence.wide n Tryd.prog gf lb encC (Below w.heap.size) (fun xs => xs = clL c r d s) (fun pre => pre <+: clL c r d s) (nA c r d s) w

@[go_sem] theorem func_nil (f : Fn) (b lb : Array Value) (w : World) : (binOp .eql 56 (.func f b lb) .nilFunc).run Tryd.prog w = .ok (.bool false) w := by
  first | rfl | kernel_rfl | simp [binOp, go_sem]

set_option maxRecDepth 100000 in
set_option maxHeartbeats 4000000 in
theorem awake_core (w : World)
    (H1 : Hid (∀ w, Calls Tryd.prog 13 #[.agg #[.int .i64 27, .int .i64 10, .bool false, .bool true]] w fun e w' => e = .returned (.tuple #[.string ⟨#[65, 65, 36, 49, 48]⟩, .int .i64 0]) ∧ Below w.heap.size w w'))
    (H2 : Hid (∀ w, Calls Tryd.prog 17 #[.string ⟨#[98, 55]⟩] w fun e w' => e = .returned (.tuple #[.agg #[.int .i64 2, .int .i64 7, .bool false, .bool false], .int .i64 0]) ∧ Below w.heap.size w w'))
    (H3 : Hid (∀ w, Calls Tryd.prog 19 #[.string ⟨#[98, 57, 58, 36, 65, 55]⟩] w fun e w' => e = .returned (.tuple #[.agg #[.int .i64 1, .int .i64 7, .int .i64 2, .int .i64 9], .int .i64 0]) ∧ Below w.heap.size w w'))
    (H4 : Hid (∀ w, Calls Tryd.prog 37 #[.agg #[.int .i64 1, .int .i64 7, .int .i64 2, .int .i64 9]] w fun e w' => ∃ lb, e = .returned (.func (.func 52) #[] lb) ∧ CellsSeq 52 lb 1 7 2 9 w' ∧ Below w.heap.size w w')) :
    Calls Tryd.prog 8 #[] w fun e w' => e = .returned (.bool true) ∧ Below w.heap.size w w' := by
  refine (callsIn_wide (n := 9)).1 ?_
  refine callsIn_of_wp_marks Tryd.func8 rfl trivial ?_ rfl
  simp only [Tryd.ntmps8, List.size_toArray, List.length_nil, Nat.reduceSub, Array.replicate_succ, Array.replicate_zero, List.push_toArray, List.append_toArray, List.nil_append, List.cons_append]
  gi_wp2_with (fail)
  refine ⟨trivial, (callsIn_wide.2 (H1.out _)).mono ?_⟩
  rintro e w1 ⟨rfl, hb1⟩
  have B1 : Hid (Below w.heap.size w w1) := hb1
  clear hb1
  gi_wp2_with (fail)
  refine ⟨trivial, (callsIn_wide.2 (H2.out _)).mono ?_⟩
  rintro e w2 ⟨rfl, hb2⟩
  have B2 : Hid (Below w.heap.size w w2) := B1.out.trans (hb2.mono B1.out.size)
  clear hb2
  gi_wp2_with (fail)
  refine ⟨trivial, (callsIn_wide.2 (H3.out _)).mono ?_⟩
  rintro e w3 ⟨rfl, hb3⟩
  have A3 : Hid (Has4 w3 w2.heap.size (.int .i64 2) (.int .i64 7) (.bool false) (.bool false)) := (has4_new w2 _ _ _ _ _).bel hb3
  have B3 : Hid (Below w.heap.size w w3) := (B2.out.alloc B2.out.size _).trans (hb3.mono (by have := B2.out.size; simp; omega))
  clear hb3 B1 B2
  gi_wp2_with (fail)
  refine ⟨trivial, (callsIn_wide.2 (H4.out _)).mono ?_⟩
  rintro e w4 ⟨lb, rfl, hseq, hb4⟩
  have A4 : Hid (Has4 w4 w2.heap.size (.int .i64 2) (.int .i64 7) (.bool false) (.bool false)) := (A3.out.bel ((Below.refl _ _).alloc (Nat.le_refl _) _)).bel hb4
  have B4 : Hid (Below w.heap.size w w4) := (B3.out.alloc B3.out.size _).trans (hb4.mono (by have := B3.out.size; simp; omega))
  have HSEQ : Hid (CellsSeq 52 lb 1 7 2 9 w4) := hseq
  have hA4 : Hid (w2.heap.size < w4.heap.size) := cell_lt A4.out.c0
  clear hb4 B3 A3 hseq
  gi_wp2_with (fail)
  have hs := Boxed.new w4 3 (.int .i64 0)
  refine wpIn_rangeFunc_ownF rfl (by decide) (gf := 52) (lb := lb) rfl trivial (enters_of Tryd.func52 (by kernel_rfl) rfl)
    (HSEQ.out 8 (by decide)) belowK_t (belowK_b (by simp)) ((Below.refl _ _).alloc (Nat.le_refl _) _) (fun _ => rfl)
    (fun pre W => (W.cell? ⟨w4.heap.size, 0, none⟩ = some (.int .i64 (pre.length : Int)) ∧ W.frozen? ⟨w4.heap.size, 0, none⟩ = false) ∧ Below w4.heap.size w4 W)
    (fun _ _ _ => False)
    (OwnFrom.and (Own.from (fun s A B row hs hg hr => ⟨cell_kept hs.1 hg hr, (frozen_kept hs.1 hg hr).trans hs.2⟩) _) (ownFrom_below (Nat.le_refl _) (by simp)))
    (fun _ _ _ _ _ hs _ _ => hs)
    ⟨⟨hs.cell, hs.frozen⟩, (Below.refl _ _).alloc (Nat.le_refl _) _⟩
    ?a1 ?assign ?body ?done ?stop
  case assign =>
    intro l x W K hK
    gi_wp2
    simp only [encC]
    exact hK
  case body =>
    rintro l pre x W ⟨⟨hc, hf⟩, hB⟩ hlen
    have hlen' : (pre.length : Int) ≤ 6 := by
      have : nA 1 7 2 9 = 6 := by decide
      omega
    gi_wp2
    refine ⟨KeepsOthers.setCell _ _ _, (Below.refl w4.heap.size W).setCell (p := ⟨w4.heap.size, 0, none⟩) (Nat.le_refl _) _, ⟨?_, by rw [World.frozen?_setCell]; exact hf⟩, hB.setCell (p := ⟨w4.heap.size, 0, none⟩) (Nat.le_refl _) _⟩
    rw [World.cell?_setCell_same' _ _ _ (by rw [hc]; rfl)]
    simp
  case done =>
    rintro D ys W hD hys ⟨⟨hc, _⟩, hB⟩ hK
    have h6 : ys.length = 6 := by rw [hys]; decide
    rw [h6] at hc
    obtain ⟨a0, a1, a2, a3, _, _, _, _⟩ := A4.out.bel hB
    have HK : Hid (W.heap[D]? = some (.deferred (some []))) := hK
    have HB : Hid (Below w4.heap.size w4 W) := hB
    have HDD : Hid (w4.heap.size ≤ D) := by show _ ≤ _; simp at hD; omega
    clear hys h6 hB hK hD
    gi_wp2
    refine ⟨by simp, .inl ⟨_, _, rfl, run_takeDeferred HK.out, ?_⟩⟩
    refine ⟨_, results_tmp rfl _ _ _, rfl, ?_⟩
    have h1 : Below w.heap.size w W := B4.out.trans (HB.out.mono B4.out.size)
    exact h1.trans (belowK_b (w := w4) B4.out.size W D _ _ HDD.out HK.out rfl rfl)
  case stop =>
    rintro D c pre W _ _ h _
    exact h.elim
end Go.Proofs.YthehdloofamadaaDoor
