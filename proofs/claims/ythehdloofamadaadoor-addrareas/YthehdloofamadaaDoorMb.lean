/- gone: the cells that are told, held against the document's. -/
import Derived.Test.YthehdloofamadaaDoorHi
import Derived.Test.YthehdloofamadaaDoorLk
import Derived.Laws.EntriesVeiled
import Derived.Sort.CutIn
namespace Go.Proofs.YthehdloofamadaaDoor
open Go.RowKit Go.Shelf
attribute [local go_sem] Oper.semAt_some

theorem boxed_below {W W' : World} {b n₀ : Nat} {t : TypeId} {v : Value} (h : Boxed W b t v) (hb : b < n₀) (g : Below n₀ W W') : Boxed W' b t v := (g.block b hb).trans h

theorem neq_addr (ua ub ya yb : Int) (T : Bool) (hT : (!(ua == ya && ub == yb)) = T) (w : World) : (binOp .neq 23 (.agg #[.int .i64 ua, .int .i64 ub]) (.agg #[.int .i64 ya, .int .i64 yb])).run Tryd.prog w = .ok (.bool T) w := by
  subst hT
  by_cases h1 : ua = ya
  · subst h1
    by_cases h2 : ub = yb
    · subst h2
      simp [go_sem]
    · have h2' : (ub == yb) = false := by simpa using h2
      simp [go_sem, h2']
  · have h1' : (ua == ya) = false := by simpa using h1
    simp [go_sem, h1']
theorem own_two {B n₀ : Nat} {x : Int × Int} {f : Nat → Act} {a' : Act} (_ : n₀ ≤ B) : OwnFrom B (fun (_ : Unit) W => ∃ Bx, n₀ < Bx ∧ Has2 W Bx (.int .i64 x.1) (.int .i64 x.2) ∧ a' = f Bx) := Own.from (fun s A B row hs hg hr => by
  obtain ⟨Bx, h1, h2, h3⟩ := hs
  exact ⟨Bx, h1, ⟨⟨cell_kept h2.1.1 hg hr, cell_kept h2.1.2 hg hr⟩, (frozen_kept h2.1.1 hg hr).trans h2.2.1, (frozen_kept h2.1.2 hg hr).trans h2.2.2⟩, h3⟩) _
theorem own_def {β : Type} {B D : Nat} {o : Obj} (h : D < B) : OwnFrom B (fun (_ : β) W => W.heap[D]? = some o) := fun _ A _ row hs hg hr => (hg.block D (Array.getElem?_eq_some_iff.1 hs).1 (fun e => by have := (hr D e.symm).1; omega)).trans hs
theorem pre_cell {c r d s : Int} {pre : List (Int × Int)} {x : Int × Int} (h : pre ++ [x] <+: clL c r d s) : x = clA c r d pre.length := by
  obtain ⟨t, ht⟩ := h
  have h1 : (clL c r d s)[pre.length]? = some x := by rw [← ht, List.append_assoc, List.getElem?_append_right (Nat.le_refl _), Nat.sub_self]; rfl
  unfold clL at h1
  rw [List.getElem?_map] at h1
  cases hr : (List.range (nA c r d s))[pre.length]? with
  | none => rw [hr] at h1; exact absurd h1 (by simp)
  | some j =>
    rw [hr] at h1
    have hj : j = pre.length := by
      obtain ⟨h2, h3⟩ := List.getElem?_eq_some_iff.1 hr
      simpa using h3.symm
    have := Option.some.inj h1
    rw [← this, hj]

set_option maxRecDepth 100000 in
set_option maxHeartbeats 16000000 in
theorem gone_core (c r d s k : Int) (hk0 : -9223372036854775808 ≤ k) (hk1 : k ≤ 9223372036854775807) (N : Nat) (hNb : (N : Int) ≤ 1048576) (HN : Hid (nA c r d s = N)) (q : Option Addr) (cap g : Nat) (w : World)
    (hq : Hid (0 < N → q = some ⟨g, 0, none⟩)) (hgw : Hid (0 < N → g < w.heap.size))
    (hcells : Hid (∀ j, j < N → w.cell? ⟨g, j * 2, none⟩ = some (.int .i64 (clA c r d j).1) ∧ w.cell? ⟨g, j * 2 + 1, none⟩ = some (.int .i64 (clA c r d j).2)))
    (H1 : Hid (∀ w, Calls Tryd.prog 37 #[.agg #[.int .i64 c, .int .i64 r, .int .i64 d, .int .i64 s]] w fun e w' => ∃ lb, e = .returned (.func (.func 52) #[] lb) ∧ CellsSeq 52 lb c r d s w' ∧ Below w.heap.size w w')) :
    Calls Tryd.prog 35 #[.agg #[.int .i64 c, .int .i64 r, .int .i64 d, .int .i64 s], .slice q N cap, .int .i64 k] w fun e w' => e = .returned (.bool true) ∧ Below w.heap.size w w' := by
  refine (callsIn_wide (n := 12)).1 ?_
  refine callsIn_of_wp_marks Tryd.func35 rfl trivial ?_ rfl
  simp only [Tryd.ntmps35, List.size_toArray, List.length_cons, List.length_nil, Nat.reduceAdd, Nat.reduceSub, Array.replicate_succ, Array.replicate_zero, List.push_toArray, List.append_toArray, List.nil_append, List.cons_append]
  have gB : Below w.heap.size w ((((w.alloc (.cells #[.int .i64 c, .int .i64 r, .int .i64 d, .int .i64 s] 38)).alloc (.cells #[.slice q N cap] 51)).alloc (.cells #[.int .i64 k] 3)).alloc (.cells #[.bool false] 4)) := (((((Gr.refl w).alloc _ _).alloc _ _).alloc _ _).alloc _ _).below
  have gW : Boxed ((((w.alloc (.cells #[.int .i64 c, .int .i64 r, .int .i64 d, .int .i64 s] 38)).alloc (.cells #[.slice q N cap] 51)).alloc (.cells #[.int .i64 k] 3)).alloc (.cells #[.bool false] 4)) (w.heap.size + 1) 51 (.slice q N cap) := by
    have := ((Boxed.new (w.alloc (.cells #[.int .i64 c, .int .i64 r, .int .i64 d, .int .i64 s] 38)) 51 (.slice q N cap)).alloc (.cells #[.int .i64 k] 3)).alloc (.cells #[.bool false] 4)
    rw [World.size_alloc] at this
    exact this
  have gL : Boxed ((((w.alloc (.cells #[.int .i64 c, .int .i64 r, .int .i64 d, .int .i64 s] 38)).alloc (.cells #[.slice q N cap] 51)).alloc (.cells #[.int .i64 k] 3)).alloc (.cells #[.bool false] 4)) (w.heap.size + 1 + 1) 3 (.int .i64 k) := by
    have := (Boxed.new ((w.alloc (.cells #[.int .i64 c, .int .i64 r, .int .i64 d, .int .i64 s] 38)).alloc (.cells #[.slice q N cap] 51)) 3 (.int .i64 k)).alloc (.cells #[.bool false] 4)
    rw [World.size_alloc, World.size_alloc] at this
    exact this
  have gR : Boxed ((((w.alloc (.cells #[.int .i64 c, .int .i64 r, .int .i64 d, .int .i64 s] 38)).alloc (.cells #[.slice q N cap] 51)).alloc (.cells #[.int .i64 k] 3)).alloc (.cells #[.bool false] 4)) (w.heap.size + 1 + 1 + 1) 4 (.bool false) := by
    have := Boxed.new (((w.alloc (.cells #[.int .i64 c, .int .i64 r, .int .i64 d, .int .i64 s] 38)).alloc (.cells #[.slice q N cap] 51)).alloc (.cells #[.int .i64 k] 3)) 4 (.bool false)
    rw [World.size_alloc, World.size_alloc, World.size_alloc] at this
    exact this
  have G4 : Hid (Below w.heap.size w ((((w.alloc (.cells #[.int .i64 c, .int .i64 r, .int .i64 d, .int .i64 s] 38)).alloc (.cells #[.slice q N cap] 51)).alloc (.cells #[.int .i64 k] 3)).alloc (.cells #[.bool false] 4)) ∧ Boxed ((((w.alloc (.cells #[.int .i64 c, .int .i64 r, .int .i64 d, .int .i64 s] 38)).alloc (.cells #[.slice q N cap] 51)).alloc (.cells #[.int .i64 k] 3)).alloc (.cells #[.bool false] 4)) (w.heap.size + 1) 51 (.slice q N cap) ∧ Boxed ((((w.alloc (.cells #[.int .i64 c, .int .i64 r, .int .i64 d, .int .i64 s] 38)).alloc (.cells #[.slice q N cap] 51)).alloc (.cells #[.int .i64 k] 3)).alloc (.cells #[.bool false] 4)) (w.heap.size + 1 + 1) 3 (.int .i64 k) ∧ Boxed ((((w.alloc (.cells #[.int .i64 c, .int .i64 r, .int .i64 d, .int .i64 s] 38)).alloc (.cells #[.slice q N cap] 51)).alloc (.cells #[.int .i64 k] 3)).alloc (.cells #[.bool false] 4)) (w.heap.size + 1 + 1 + 1) 4 (.bool false)) := ⟨gB, gW, gL, gR⟩
  clear gB gW gL gR
  gi_wp2_with (fail)
  refine ⟨trivial, (callsIn_wide.2 (H1.out _)).mono ?_⟩
  rintro e w1 ⟨lb, rfl, hseq, hb⟩
  have HSEQ : Hid (CellsSeq 52 lb c r d s w1) := hseq
  have BW : Hid (Below w.heap.size w w1) := G4.out.1.trans (hb.mono G4.out.1.size)
  have WB : Hid (Boxed w1 (w.heap.size + 1) 51 (.slice q N cap)) := boxed_below G4.out.2.1 G4.out.2.1.lt hb
  have LB : Hid (Boxed w1 (w.heap.size + 1 + 1) 3 (.int .i64 k)) := boxed_below G4.out.2.2.1 G4.out.2.2.1.lt hb
  have RB : Hid (Boxed w1 (w.heap.size + 1 + 1 + 1) 4 (.bool false)) := boxed_below G4.out.2.2.2 G4.out.2.2.2.lt hb
  have SZ : Hid (w.heap.size + 1 + 1 + 1 < w1.heap.size) := RB.out.lt
  have CW : Hid (∀ j, j < N → g < w1.heap.size ∧ w1.cell? ⟨g, j * 2, none⟩ = some (.int .i64 (clA c r d j).1) ∧ w1.cell? ⟨g, j * 2 + 1, none⟩ = some (.int .i64 (clA c r d j).2)) := fun j hj => by
    have h1 := hgw.out (by omega)
    have h2 := hcells.out j hj
    exact ⟨by have := BW.out.size; omega, (BW.out.cell (by exact h1)).trans h2.1, (BW.out.cell (by exact h1)).trans h2.2⟩
  clear hb hseq G4 hcells hgw H1
  have hF0 : Boxed ((w1.alloc (.cells #[(.func (.func 52) #[] lb)] 56)).alloc (.cells #[.int .i64 0] 3)) w1.heap.size 56 (.func (.func 52) #[] lb) := (Boxed.new w1 _ _).alloc _
  have hC0 : Boxed ((w1.alloc (.cells #[(.func (.func 52) #[] lb)] 56)).alloc (.cells #[.int .i64 0] 3)) (w1.heap.size + 1) 3 (.int .i64 0) := by
    have := Boxed.new (w1.alloc (.cells #[(.func (.func 52) #[] lb)] 56)) 3 (.int .i64 0)
    rw [World.size_alloc] at this
    exact this
  have hB0 : Below w1.heap.size w1 ((w1.alloc (.cells #[(.func (.func 52) #[] lb)] 56)).alloc (.cells #[.int .i64 0] 3)) := (((Gr.refl w1).alloc _ _).alloc _ _).below
  have HQ : Hid (w.heap.size + 1 + 1 + 1 < w1.heap.size) := SZ.out
  gi_wp2_with (fail)
  rename_i K hKK
  have HKK : Hid (∀ a w, _ → K a w) := hKK
  clear hKK
  generalize hact : Act.mk _ _ = a0
  have REST : Hid (∀ (D : Nat) (W : World) (m : Int), w1.heap.size ≤ D → W.heap[D]? = some (.deferred (some [])) → Boxed W w1.heap.size 56 (.func (.func 52) #[] lb) → Boxed W (w1.heap.size + 1) 3 (.int .i64 m) → (((k ≤ 0 ∨ (N : Int) < k) ∧ m = N) ∨ (0 < k ∧ k ≤ N ∧ m = k)) → Below w1.heap.size w1 W → K { a0 with defers := { target := .collected D, args := #[] } :: a0.defers } W) := by
    intro D W m hD hK hF hC hm hB
    subst hact
    have FF : Hid (Boxed W w1.heap.size 56 (.func (.func 52) #[] lb)) := hF
    have FC : Hid (Boxed W (w1.heap.size + 1) 3 (.int .i64 m)) := hC
    have FB : Hid (Below w1.heap.size w1 W) := hB
    have FD : Hid (w1.heap.size ≤ D) := hD
    have FK : Hid (W.heap[D]? = some (.deferred (some []))) := hK
    have hw := (boxed_below WB.out (by have := SZ.out; omega) hB).cell
    have hl' := (boxed_below LB.out (by have := SZ.out; omega) hB).cell
    have hc := hC.cell
    have hf := hC.frozen
    have hfc := hF.cell
    obtain ⟨M, hM⟩ : ∃ M : Int, (N : Int) = M := ⟨_, rfl⟩
    have hM0 : 0 ≤ M := by omega
    have hM1 : M ≤ 1048576 := by omega
    rw [hM] at hm
    have D1 : Hid (Boxed (W.setCell ⟨w1.heap.size + 1, 0, none⟩ (.int .i64 0)) (w1.heap.size + 1) 3 (.int .i64 0)) := FC.out.set _
    have D2 : Hid (Boxed (W.setCell ⟨w1.heap.size + 1, 0, none⟩ (.int .i64 0)) w1.heap.size 56 (.func (.func 52) #[] lb)) := FF.out.other (by omega) _
    have D3 : Hid (Below w1.heap.size w1 (W.setCell ⟨w1.heap.size + 1, 0, none⟩ (.int .i64 0))) := FB.out.setCell (p := ⟨w1.heap.size + 1, 0, none⟩) (by show w1.heap.size ≤ w1.heap.size + 1; omega) _
    have D4 : Hid ((W.setCell ⟨w1.heap.size + 1, 0, none⟩ (.int .i64 0)).heap[D]? = some (.deferred (some []))) := (KeepsOthers.setCell W ⟨w1.heap.size + 1, 0, none⟩ (.int .i64 0)).same D _ FK.out rfl
    have D5 := D2.out.cell
    obtain ⟨U, hU⟩ : ∃ U, W.setCell ⟨w1.heap.size + 1, 0, none⟩ (.int .i64 0) = U := ⟨_, rfl⟩
    rw [hU] at D1 D2 D3 D4 D5
    refine HKK.out _ _ ?_
    clear HKK hF0 hC0 hB0 hB hF hC hK hD
    have hm3 : (k < 1 ∧ k ≤ 0 ∧ m = M) ∨ (1 ≤ k ∧ 0 < k ∧ k ≤ M ∧ m = k) ∨ (1 ≤ k ∧ 0 < k ∧ M < k ∧ m = M) := by omega
    clear hm
    dsimp only
    gi_upto_region 11 with fail
    gi_cut [56] from 36 (fun v wx => v = .bool false ∧ wx = W)
    case first =>
      have HM3 : Hid ((k < 1 ∧ k ≤ 0 ∧ m = (N : Int)) ∨ (1 ≤ k ∧ 0 < k ∧ k ≤ (N : Int) ∧ m = k) ∨ (1 ≤ k ∧ 0 < k ∧ (N : Int) < k ∧ m = (N : Int))) := by rw [hM]; exact hm3
      clear hNb hk0 hk1 hM0 hM1 hU D1 D2 D3 D4 D5 hm3 hM FF FC FB FD FK hq HSEQ BW WB LB RB SZ CW HQ HN
      gi_wp2_with (fail)
      all_goals first
        | (gi_meet
           case rel =>
             refine ⟨vBool ?_, rfl⟩
             have hm := HM3.out
             clear HM3
             first | rfl | (simp; omega) | (simp at *; omega))
        | (exfalso; have hm := HM3.out; clear HM3; simp at *; omega)
    case rest =>
      obtain ⟨hs, hwc⟩ := hcut
      have hs' := hs.symm
      subst hs'
      have hwc' := hwc.symm
      subst hwc'
      clear hs hwc hm3
      gi_wp2_with (fail)
      rename_i K2 hK2
      have HK2 : Hid (∀ a w, _ → K2 a w) := hK2
      clear hK2 hw hl' hc hf hfc
      have DU : Hid (D < U.heap.size) := (Array.getElem?_eq_some_iff.1 D4.out).1
      have UZ : Hid (w1.heap.size + 1 < U.heap.size) := D1.out.lt
      generalize hact2 : Act.mk _ _ = a1
      refine wpIn_rangeFunc_ownH rfl (by decide) (gf := 52) (lb := lb) (by rw [← hact2]; rfl) trivial (enters_of Tryd.func52 (by kernel_rfl) rfl)
        (HSEQ.out 11 (by decide)) belowK_t (belowK_b (by have := UZ.out; omega)) D3.out (fun _ => rfl)
        (fun pre W => (Boxed W w1.heap.size 56 (.func (.func 52) #[] lb) ∧ Boxed W (w1.heap.size + 1) 3 (.int .i64 (pre.length : Int))) ∧ W.heap[D]? = some (.deferred (some [])) ∧ Below w1.heap.size w1 W)
        (fun cd pre' _ => cd = .ret ∧ ∃ (pre : List (Int × Int)) (x : Int × Int), pre' = pre ++ [x] ∧ x ≠ clA c r d pre.length)
        ?hI2 (fun _ _ _ _ _ hs _ _ => hs) ⟨⟨D2.out, D1.out⟩, D4.out, D3.out⟩
        (fun x a' W => ∃ Bx, w1.heap.size + 1 < Bx ∧ Has2 W Bx (.int .i64 x.1) (.int .i64 x.2) ∧ a' = { tmps := (a1.tmps.setIfInBounds 58 (.agg #[.int .i64 x.1, .int .i64 x.2])).setIfInBounds 10 (.pointer (some ⟨Bx, 0, none⟩)), defers := [] })
        (fun x a' => own_two (f := fun Bx => { tmps := (a1.tmps.setIfInBounds 58 (.agg #[.int .i64 x.1, .int .i64 x.2])).setIfInBounds 10 (.pointer (some ⟨Bx, 0, none⟩)), defers := [] }) (by have := UZ.out; omega)) ?assign2 ?body2 ?done2 ?stop2
      case hI2 => exact OwnFrom.and (OwnFrom.and (Own.from (boxed_own _ _ _) _) (Own.from (boxed_own _ _ _) _)) (OwnFrom.and (own_def DU.out) (ownFrom_below (Nat.le_refl _) (by have := UZ.out; omega)))
      case assign2 =>
        subst hact2
        rintro l pre x W K' ⟨⟨hF, hC⟩, hDD, hB⟩ hK
        have hsz : w1.heap.size + 1 < W.heap.size := hC.lt
        simp only [encC]
        gi_wp2
        have hbW : Below W.heap.size W (W.alloc (.cells #[.int .i64 x.1, .int .i64 x.2] 23)) := ((Gr.refl W).alloc _ _).below
        exact hK _ _ ((KeepsOthers.alloc _ _).from _) (hbW.mono (by omega)) ⟨⟨hF.alloc _, hC.alloc _⟩, (Below.heap_alloc W _ D (Array.getElem?_eq_some_iff.1 hDD).1).trans hDD, hB.trans (hbW.mono (by omega))⟩ ⟨W.heap.size, hsz, has2_new _ _ _ _, rfl⟩
      case body2 =>
        as_aux_lemma =>
        subst hact2
        rintro l pre u a' W hl ⟨rr, hr⟩ ⟨⟨hF, hC⟩, hDD, hB⟩ ⟨Bx, hBx, hX, rfl⟩ hlt
        have hltN : pre.length < N := by have := HN.out; omega
        obtain ⟨i, hi⟩ : ∃ i : Int, (pre.length : Int) = i := ⟨_, rfl⟩
        obtain ⟨ya, yb, hy⟩ : ∃ ya yb, clA c r d pre.length = (ya, yb) := ⟨_, _, rfl⟩
        have hq' := hq.out (by omega)
        obtain ⟨cg, c0, c1⟩ := CW.out pre.length hltN
        rw [hy] at c0 c1
        have e1 : W.cell? ⟨g, i.toNat * 2, none⟩ = some (.int .i64 ya) := by rw [← hi, Int.toNat_natCast]; exact (hB.cell (by exact cg)).trans c0
        have e2 : W.cell? ⟨g, i.toNat * 2 + 1, none⟩ = some (.int .i64 yb) := by rw [← hi, Int.toNat_natCast]; exact (hB.cell (by exact cg)).trans c1
        have hw := (boxed_below WB.out (by have := SZ.out; omega) hB).cell
        have hrc := (boxed_below RB.out SZ.out hB).cell
        have hrf := (boxed_below RB.out SZ.out hB).frozen
        have i0 : 0 ≤ i := by omega
        have i1 : i < M := by omega
        have i2 : i < 1048576 := by omega
        obtain ⟨ua, ub⟩ := u
        simp only at *
        rw [hi] at hC
        subst hq'
        have hc := hC.cell
        have hf := hC.frozen
        have hmx : Tryd.prog.follows .mixedOrders = true := by kernel_rfl
        obtain ⟨⟨x0, x1⟩, _, _⟩ := hX
        have FC : Hid (Boxed W (w1.heap.size + 1) 3 (.int .i64 i)) := hC
        have FF2 : Hid (Boxed W w1.heap.size 56 (.func (.func 52) #[] lb)) := hF
        have FB2 : Hid (Below w1.heap.size w1 W) := hB
        have FDD : Hid (W.heap[D]? = some (.deferred (some []))) := hDD
        have FI : Hid ((pre.length : Int) = i) := hi
        have FY : Hid (clA c r d pre.length = (ya, yb)) := hy
        have FL : Hid (U.heap.size ≤ l) := hl
        have FR : Hid (W.heap[l]? = some (.loop rr)) := hr
        clear hC hF hB hi hy cg c0 c1 hlt hltN hr HK2 hNb hk0 hk1 hM0 hM1 D5 hl hDD
        obtain ⟨T, hT⟩ : ∃ T : Bool, (!(ua == ya && ub == yb)) = T := ⟨_, rfl⟩
        have hneq : ∀ w, (binOp .neq 23 (.agg #[.int .i64 ua, .int .i64 ub]) (.agg #[.int .i64 ya, .int .i64 yb])).run Tryd.prog w = .ok (.bool T) w := neq_addr ua ub ya yb T hT
        have HT : Hid ((!(ua == ya && ub == yb)) = T) := hT
        have hdm : decide (M ≤ i) = false := decide_eq_false (by omega)
        clear hT
        gi_wp2_with (fail)
        refine Code.wpIn_mono (Q := fun ex a' w' => ex = .normal ∧ a' = { tmps := #[.agg #[.int .i64 c, .int .i64 r, .int .i64 d, .int .i64 s], .slice (some ⟨g, 0, none⟩) N cap, .int .i64 k, .pointer (some ⟨w.heap.size, 0, none⟩), .pointer (some ⟨w.heap.size + 1, 0, none⟩), .pointer (some ⟨w.heap.size + 1 + 1, 0, none⟩), .pointer (some ⟨w.heap.size + 1 + 1 + 1, 0, none⟩), .pointer (some ⟨w1.heap.size, 0, none⟩), .pointer (some ⟨w1.heap.size + 1, 0, none⟩), undef, .pointer (some ⟨Bx, 0, none⟩), undef, undef, .agg #[.int .i64 c, .int .i64 r, .int .i64 d, .int .i64 s], .func (.func 52) #[] lb, .func (.func 52) #[] lb, .bool false, .func (.func 52) #[] lb, undef, undef, undef, undef, undef, undef, undef, undef, undef, undef, undef, undef, undef, undef, undef, undef, undef, undef, u36, u37, u38, u39, u40, u41, u42, u43, u44, u45, u46, u47, u48, u49, u50, u51, u52, u53, u54, u55, .bool false, .func (.func 52) #[] lb, .agg #[.int .i64 ua, .int .i64 ub], .int .i64 i, .slice (some ⟨g, 0, none⟩) N cap, .int .i64 M, .bool false, .bool false, .agg #[.int .i64 ua, .int .i64 ub], .slice (some ⟨g, 0, none⟩) N cap, .int .i64 i, .pointer (some ⟨g, i.toNat * 2, none⟩), .agg #[.int .i64 ya, .int .i64 yb], .bool T, .bool T, u71, u72, u73, u74, u75, u76, u77, u78, u79, u80, u81, u82, u83, u84, u85, u86, u87, u88, u89, u90, u91, u92, u93, u94, u95, u96], defers := [] } ∧ w' = W.drew) ?cont ?reg
        case reg =>
          as_aux_lemma =>
          try clear FC
          try clear FF2
          try clear FB2
          try clear FDD
          try clear FI
          try clear FY
          try clear FL
          try clear FR
          try clear HT
          try clear FF
          try clear FB
          try clear FD
          try clear FK
          try clear D1
          try clear D2
          try clear D3
          try clear D4
          try clear HSEQ
          try clear HN
          try clear BW
          try clear WB
          try clear LB
          try clear RB
          try clear SZ
          try clear CW
          try clear HQ
          try clear DU
          try clear UZ
          try clear hU
          gi_region_with_o (fail)
          all_goals exact ⟨rfl, rfl, rfl⟩
        case cont =>
          rintro ex a' w' ⟨rfl, rfl, rfl⟩
          have D1' : Hid (Boxed W.drew (w1.heap.size + 1) 3 (.int .i64 i)) := FC.out
          have D2' : Hid (Boxed W.drew w1.heap.size 56 (.func (.func 52) #[] lb)) := FF2.out
          have D3' : Hid (Below w1.heap.size w1 W.drew) := FB2.out.drew
          have D4' : Hid (KeepsFrom U.heap.size W W.drew) := (KeepsOthers.drew _).from _
          have D5' : Hid (Below w1.heap.size W W.drew) := (Below.refl _ _).drew
          have D6' : Hid (W.drew.heap[D]? = some (.deferred (some []))) := FDD.out
          have D7' : Hid (W.drew.heap[l]? = some (.loop rr)) := FR.out
          have RC : Hid (W.drew.cell? ⟨w.heap.size + 1 + 1 + 1, 0, none⟩ = some (.bool false) ∧ W.drew.frozen? ⟨w.heap.size + 1 + 1 + 1, 0, none⟩ = false) := ⟨hrc, hrf⟩
          clear x0 x1 e1 e2 hw hrc hrf hc hf hneq hdm
          generalize W.drew = V at *
          obtain ⟨rc0, rc1⟩ := RC.out
          have hc := D1'.out.cell
          have hf := D1'.out.frozen
          cases T
          · have hxy : Hid ((ua, ub) = clA c r d pre.length) := by
              have h := HT.out
              show _ = _
              rw [FY.out]
              simp at h
              rw [h.1, h.2]
            have L1 : Hid (((pre ++ [(ua, ub)]).length : Int) = i + 1) := by show _ = _; rw [List.length_append, List.length_singleton]; have := FI.out; omega
            have n1 : wrap64 (i + 1) = i + 1 := by unfold wrap64; omega
            by_cases hi1 : i = 1
            · have hi1' : (i == 1) = true := by simpa using hi1
              clear hi1
              have hfc := D2'.out.cell
              have VZ : Hid (w1.heap.size + 1 < V.heap.size) := D1'.out.lt
              have hvz : w1.heap.size < V.heap.size := by have := VZ.out; omega
              have WV : Hid (W.heap.size ≤ V.heap.size) := D5'.out.size
              have UW : Hid (U.heap.size ≤ V.heap.size) := by
                have h1 := (Array.getElem?_eq_some_iff.1 D7'.out).1
                have := FL.out
                show _ ≤ _
                omega
              gi_wp2_with (fail)
              rename_i K3 hK3
              have HK3 : Hid (∀ a w, _ → K3 a w) := hK3
              clear hK3 hfc hvz
              generalize hact3 : Act.mk _ _ = a2
              obtain ⟨V1, hV1⟩ : ∃ V1, V.alloc (.cells #[.int .i64 0] 3) = V1 := ⟨_, rfl⟩
              have B1 : Hid (Boxed V1 w1.heap.size 56 (.func (.func 52) #[] lb) ∧ Boxed V1 (w1.heap.size + 1) 3 (.int .i64 i)) := by rw [← hV1]; exact ⟨D2'.out.alloc _, D1'.out.alloc _⟩
              have B2 : Hid (V1.heap[D]? = some (.deferred (some []))) := by show _ = _; rw [← hV1]; exact (Below.heap_alloc V _ D (Array.getElem?_eq_some_iff.1 D6'.out).1).trans D6'.out
              have B3 : Hid (V1.heap[l]? = some (.loop rr)) := by show _ = _; rw [← hV1]; exact (Below.heap_alloc V _ l (Array.getElem?_eq_some_iff.1 D7'.out).1).trans D7'.out
              have B4 : Hid (Below w1.heap.size w1 V1) := by show Below _ _ _; rw [← hV1]; exact D3'.out.alloc D3'.out.size _
              have B5 : Hid (Below w1.heap.size W V1) := by show Below _ _ _; rw [← hV1]; exact D5'.out.alloc (by have := VZ.out; omega) _
              have B6 : Hid (KeepsFrom U.heap.size W V1) := by show KeepsFrom _ _ _; rw [← hV1]; exact D4'.out.trans ((KeepsOthers.alloc _ _).from _)
              have B7 : Hid (Boxed V1 V.heap.size 3 (.int .i64 0)) := by show Boxed _ _ _ _; rw [← hV1]; exact Boxed.new _ _ _
              have B8 : Hid (V1.heap.size = V.heap.size + 1) := by show _ = _; rw [← hV1]; simp
              rw [hV1]
              have REST3 : Hid (∀ X, (Boxed X w1.heap.size 56 (.func (.func 52) #[] lb) ∧ Boxed X (w1.heap.size + 1) 3 (.int .i64 i)) ∧ X.heap[D]? = some (.deferred (some [])) ∧ (Below w1.heap.size w1 X ∧ Below w1.heap.size W X ∧ KeepsFrom U.heap.size W X) → K3 a2 X) := by
                rintro X ⟨⟨hF, hC⟩, hDD, hB, hB', hKF⟩
                subst hact3
                have G1 : Hid (Boxed X w1.heap.size 56 (.func (.func 52) #[] lb)) := hF
                have G2 : Hid (Boxed X (w1.heap.size + 1) 3 (.int .i64 i)) := hC
                have G3 : Hid (X.heap[D]? = some (.deferred (some []))) := hDD
                have G4 : Hid (Below w1.heap.size w1 X) := hB
                have G5 : Hid (Below w1.heap.size W X) := hB'
                have G6 : Hid (KeepsFrom U.heap.size W X) := hKF
                refine HK3.out _ _ ?_
                clear HK3 hc hf rc0 rc1
                have hc := hC.cell
                have hf := hC.frozen
                clear hF hC hDD hB hB' hKF
                gi_wp2_with (fail)
                exact ⟨G6.out.trans ((KeepsOthers.setCell _ _ _).from _), G5.out.setCell (p := ⟨w1.heap.size + 1, 0, none⟩) (by show w1.heap.size ≤ w1.heap.size + 1; omega) _, ⟨G1.out.other (by omega) _, by rw [L1.out]; exact G2.out.set _⟩, (KeepsOthers.setCell _ _ _).same _ _ G3.out rfl, G4.out.setCell (p := ⟨w1.heap.size + 1, 0, none⟩) (by show w1.heap.size ≤ w1.heap.size + 1; omega) _⟩
              refine wpIn_rangeFunc_ownN (l₀ := l) (r₀ := rr) rfl B3.out (by decide) (gf := 52) (lb := lb) (by rw [← hact3]; rfl) trivial (enters_of Tryd.func52 (by kernel_rfl) rfl)
                ((HSEQ.out _ (by decide)).inRound l) belowK_t (belowK_b (by have := VZ.out; have := B8.out; omega)) B4.out (fun _ => rfl)
                (fun pre3 X => ((Boxed X w1.heap.size 56 (.func (.func 52) #[] lb) ∧ Boxed X (w1.heap.size + 1) 3 (.int .i64 i)) ∧ X.heap[D]? = some (.deferred (some [])) ∧ (Below w1.heap.size w1 X ∧ Below w1.heap.size W X ∧ KeepsFrom U.heap.size W X)) ∧ Boxed X V.heap.size 3 (.int .i64 (pre3.length : Int)) ∧ (pre3.length : Int) < 3)
                (fun cd pre' X => (cd = .ret ∧ ∃ (p : List (Int × Int)) (x : Int × Int), pre' = p ++ [x] ∧ x ≠ clA c r d p.length) ∨ (cd = .exit 4 ∧ ((Boxed X w1.heap.size 56 (.func (.func 52) #[] lb) ∧ Boxed X (w1.heap.size + 1) 3 (.int .i64 i)) ∧ X.heap[D]? = some (.deferred (some [])) ∧ (Below w1.heap.size w1 X ∧ Below w1.heap.size W X ∧ KeepsFrom U.heap.size W X))))
                ?hI3 ?hIx3 ⟨⟨B1.out, B2.out, B4.out, B5.out, B6.out⟩, B7.out, by decide⟩
                (fun x a' X => ∃ By, V.heap.size < By ∧ Has2 X By (.int .i64 x.1) (.int .i64 x.2) ∧ a' = { tmps := (a2.tmps.setIfInBounds 74 (.agg #[.int .i64 x.1, .int .i64 x.2])).setIfInBounds 12 (.pointer (some ⟨By, 0, none⟩)), defers := [] })
                (fun x a' => own_two (f := fun By => { tmps := (a2.tmps.setIfInBounds 74 (.agg #[.int .i64 x.1, .int .i64 x.2])).setIfInBounds 12 (.pointer (some ⟨By, 0, none⟩)), defers := [] }) (by have := B8.out; omega)) ?assign3 ?body3 ?done3 ?stop3
              case hI3 => exact OwnFrom.and (OwnFrom.and (OwnFrom.and (Own.from (boxed_own _ _ (fun _ => _)) _) (Own.from (boxed_own _ _ (fun _ => _)) _)) (OwnFrom.and (own_def (by have := DU.out; have := UW.out; have := B8.out; omega)) (OwnFrom.and (ownFrom_below (Nat.le_refl _) (by have := VZ.out; have := B8.out; omega)) (OwnFrom.and (ownFrom_below FB2.out.size (by have := VZ.out; have := B8.out; omega)) (ownFrom_keepsFrom (by have := WV.out; have := B8.out; omega)))))) (OwnFrom.and (Own.from (boxed_own _ _ _) _) (ownFrom_pure _ _))
              case hIx3 =>
                rintro cd pre' A B row (h | ⟨h1, h2⟩) hg hr'
                · exact .inl h
                · refine .inr ⟨h1, ?_⟩
                  have ho : OwnFrom V1.heap.size (fun (_ : Unit) X => (Boxed X w1.heap.size 56 (.func (.func 52) #[] lb) ∧ Boxed X (w1.heap.size + 1) 3 (.int .i64 i)) ∧ X.heap[D]? = some (.deferred (some [])) ∧ (Below w1.heap.size w1 X ∧ Below w1.heap.size W X ∧ KeepsFrom U.heap.size W X)) := OwnFrom.and (OwnFrom.and (Own.from (boxed_own _ _ (fun _ => _)) _) (Own.from (boxed_own _ _ (fun _ => _)) _)) (OwnFrom.and (own_def (by have := DU.out; have := UW.out; have := B8.out; omega)) (OwnFrom.and (ownFrom_below (Nat.le_refl _) (by have := VZ.out; have := B8.out; omega)) (OwnFrom.and (ownFrom_below FB2.out.size (by have := VZ.out; have := B8.out; omega)) (ownFrom_keepsFrom (by have := WV.out; have := B8.out; omega)))))
                  exact ho () A B row h2 hg hr'
              case assign3 =>
                subst hact3
                rintro l3 p3 x X K' ⟨⟨⟨hF, hC⟩, hDD, hB, hB', hKF⟩, hm3, hlt3⟩ hK
                have hsz : V.heap.size < X.heap.size := hm3.lt
                have hz := VZ.out
                simp only [encC]
                gi_wp2
                have hbW : Below X.heap.size X (X.alloc (.cells #[.int .i64 x.1, .int .i64 x.2] 23)) := ((Gr.refl X).alloc _ _).below
                exact hK _ _ ((KeepsOthers.alloc _ _).from _) (hbW.mono (by omega)) ⟨⟨⟨hF.alloc _, hC.alloc _⟩, (Below.heap_alloc X _ D (Array.getElem?_eq_some_iff.1 hDD).1).trans hDD, hB.trans (hbW.mono (by omega)), hB'.trans (hbW.mono (by omega)), hKF.trans ((KeepsOthers.alloc _ _).from _)⟩, hm3.alloc _, hlt3⟩ ⟨X.heap.size, hsz, has2_new _ _ _ _, rfl⟩
              case body3 =>
                as_aux_lemma =>
                subst hact3
                rintro l3 p3 v a' X hl3 ⟨rr3, hr3⟩ ⟨⟨⟨hF, hC⟩, hDD, hB, hB', hKF⟩, hm3, hlt3⟩ ⟨By, hBy, hX3, rfl⟩ hltp
                have hltN : p3.length < N := by have := HN.out; omega
                obtain ⟨j, hj⟩ : ∃ j : Int, (p3.length : Int) = j := ⟨_, rfl⟩
                obtain ⟨za, zb, hzz⟩ : ∃ za zb, clA c r d p3.length = (za, zb) := ⟨_, _, rfl⟩
                obtain ⟨cg, c0, c1⟩ := CW.out p3.length hltN
                rw [hzz] at c0 c1
                have e1 : X.cell? ⟨g, j.toNat * 2, none⟩ = some (.int .i64 za) := by rw [← hj, Int.toNat_natCast]; exact (hB.cell (by exact cg)).trans c0
                have e2 : X.cell? ⟨g, j.toNat * 2 + 1, none⟩ = some (.int .i64 zb) := by rw [← hj, Int.toNat_natCast]; exact (hB.cell (by exact cg)).trans c1
                have hw := (boxed_below WB.out (by have := SZ.out; omega) hB).cell
                have hrc := (boxed_below RB.out SZ.out hB).cell
                have hrf := (boxed_below RB.out SZ.out hB).frozen
                have j0 : 0 ≤ j := by omega
                have j1 : j < M := by omega
                have j2 : j < 3 := by omega
                obtain ⟨va, vb⟩ := v
                simp only at *
                rw [hj] at hm3
                clear hc hf rc0 rc1
                have hc := hm3.cell
                have hf := hm3.frozen
                obtain ⟨⟨x0, x1⟩, _, _⟩ := hX3
                have Q1 : Hid (Boxed X V.heap.size 3 (.int .i64 j)) := hm3
                have Q2 : Hid (Boxed X w1.heap.size 56 (.func (.func 52) #[] lb)) := hF
                have Q3 : Hid (Boxed X (w1.heap.size + 1) 3 (.int .i64 i)) := hC
                have Q4 : Hid (X.heap[D]? = some (.deferred (some []))) := hDD
                have Q5 : Hid (Below w1.heap.size w1 X) := hB
                have Q6 : Hid (Below w1.heap.size W X) := hB'
                have Q7 : Hid (KeepsFrom U.heap.size W X) := hKF
                have QI : Hid ((p3.length : Int) = j) := hj
                have QY : Hid (clA c r d p3.length = (za, zb)) := hzz
                clear hF hC hDD hB hB' hKF hm3 hlt3 hj hzz cg c0 c1 hltp hltN hr3 HK3 REST3 i0 i1 i2 n1
                obtain ⟨T3, hT3⟩ : ∃ T3 : Bool, (!(va == za && vb == zb)) = T3 := ⟨_, rfl⟩
                have hneq : ∀ w, (binOp .neq 23 (.agg #[.int .i64 va, .int .i64 vb]) (.agg #[.int .i64 za, .int .i64 zb])).run Tryd.prog w = .ok (.bool T3) w := neq_addr va vb za zb T3 hT3
                have HT3 : Hid ((!(va == za && vb == zb)) = T3) := hT3
                have hdm : decide (M ≤ j) = false := decide_eq_false (by omega)
                clear hT3
                gi_wp2_with (fail)
                refine Code.wpIn_mono (Q := fun ex a' w' => ex = .normal ∧ a' = { tmps := #[.agg #[.int .i64 c, .int .i64 r, .int .i64 d, .int .i64 s], .slice (some ⟨g, 0, none⟩) N cap, .int .i64 k, .pointer (some ⟨w.heap.size, 0, none⟩), .pointer (some ⟨w.heap.size + 1, 0, none⟩), .pointer (some ⟨w.heap.size + 1 + 1, 0, none⟩), .pointer (some ⟨w.heap.size + 1 + 1 + 1, 0, none⟩), .pointer (some ⟨w1.heap.size, 0, none⟩), .pointer (some ⟨w1.heap.size + 1, 0, none⟩), undef, .pointer (some ⟨Bx, 0, none⟩), .pointer (some ⟨V.heap.size, 0, none⟩), .pointer (some ⟨By, 0, none⟩), .agg #[.int .i64 c, .int .i64 r, .int .i64 d, .int .i64 s], .func (.func 52) #[] lb, .func (.func 52) #[] lb, .bool false, .func (.func 52) #[] lb, undef, undef, undef, undef, undef, undef, undef, undef, undef, undef, undef, undef, undef, undef, undef, undef, undef, undef, u36, u37, u38, u39, u40, u41, u42, u43, u44, u45, u46, u47, u48, u49, u50, u51, u52, u53, u54, u55, .bool false, .func (.func 52) #[] lb, .agg #[.int .i64 ua, .int .i64 ub], .int .i64 i, .slice (some ⟨g, 0, none⟩) N cap, .int .i64 M, .bool false, .bool false, .agg #[.int .i64 ua, .int .i64 ub], .slice (some ⟨g, 0, none⟩) N cap, .int .i64 i, .pointer (some ⟨g, i.toNat * 2, none⟩), .agg #[.int .i64 ya, .int .i64 yb], .bool false, .bool false, .int .i64 i, .bool true, .func (.func 52) #[] lb, .agg #[.int .i64 va, .int .i64 vb], .int .i64 j, .slice (some ⟨g, 0, none⟩) N cap, .int .i64 M, .bool false, .bool false, .agg #[.int .i64 va, .int .i64 vb], .slice (some ⟨g, 0, none⟩) N cap, .int .i64 j, .pointer (some ⟨g, j.toNat * 2, none⟩), .agg #[.int .i64 za, .int .i64 zb], .bool T3, .bool T3, u87, u88, u89, u90, u91, u92, u93, u94, u95, u96], defers := [] } ∧ w' = X.drew) ?cont3 ?reg3
                case reg3 =>
                  as_aux_lemma =>
                  try clear Q1
                  try clear Q2
                  try clear Q3
                  try clear Q4
                  try clear Q5
                  try clear Q6
                  try clear Q7
                  try clear QI
                  try clear QY
                  try clear HT3
                  try clear B1
                  try clear B2
                  try clear B3
                  try clear B4
                  try clear B5
                  try clear B6
                  try clear B7
                  try clear B8
                  try clear hV1
                  try clear VZ
                  try clear WV
                  try clear UW
                  try clear hxy
                  try clear L1
                  try clear D1'
                  try clear D2'
                  try clear D3'
                  try clear D4'
                  try clear D5'
                  try clear D6'
                  try clear D7'
                  try clear RC
                  try clear FC
                  try clear FF2
                  try clear FB2
                  try clear FDD
                  try clear FI
                  try clear FY
                  try clear FL
                  try clear FR
                  try clear HT
                  try clear FF
                  try clear FB
                  try clear FD
                  try clear FK
                  try clear D1
                  try clear D2
                  try clear D3
                  try clear D4
                  try clear HSEQ
                  try clear HN
                  try clear BW
                  try clear WB
                  try clear LB
                  try clear RB
                  try clear SZ
                  try clear CW
                  try clear HQ
                  try clear DU
                  try clear UZ
                  try clear hU
                  gi_region_with_o (fail)
                  all_goals exact ⟨rfl, rfl, rfl⟩
                case cont3 =>
                  rintro ex a' w' ⟨rfl, rfl, rfl⟩
                  have P1 : Hid (Boxed X.drew V.heap.size 3 (.int .i64 j)) := Q1.out
                  have P2 : Hid (Boxed X.drew w1.heap.size 56 (.func (.func 52) #[] lb)) := Q2.out
                  have P3 : Hid (Boxed X.drew (w1.heap.size + 1) 3 (.int .i64 i)) := Q3.out
                  have P4 : Hid (X.drew.heap[D]? = some (.deferred (some []))) := Q4.out
                  have P5 : Hid (Below w1.heap.size w1 X.drew) := Q5.out.drew
                  have P6 : Hid (Below w1.heap.size W X.drew) := Q6.out.drew
                  have P7 : Hid (KeepsFrom U.heap.size W X.drew) := Q7.out.trans ((KeepsOthers.drew _).from _)
                  have P8 : Hid (KeepsFrom V1.heap.size X X.drew) := (KeepsOthers.drew _).from _
                  have P9 : Hid (Below w1.heap.size X X.drew) := (Below.refl _ _).drew
                  have RC3 : Hid (X.drew.cell? ⟨w.heap.size + 1 + 1 + 1, 0, none⟩ = some (.bool false) ∧ X.drew.frozen? ⟨w.heap.size + 1 + 1 + 1, 0, none⟩ = false) := ⟨hrc, hrf⟩
                  clear x0 x1 e1 e2 hw hrc hrf hc hf hneq hdm
                  generalize X.drew = Y at *
                  obtain ⟨rc0, rc1⟩ := RC3.out
                  have hc := P1.out.cell
                  have hf := P1.out.frozen
                  have hvz := VZ.out
                  cases T3
                  · have L3 : Hid (((p3 ++ [(va, vb)]).length : Int) = j + 1) := by show _ = _; rw [List.length_append, List.length_singleton]; have := QI.out; omega
                    have n3 : wrap64 (j + 1) = j + 1 := by unfold wrap64; omega
                    have hle : w1.heap.size ≤ V.heap.size := by omega
                    have BS : Hid ((Boxed (Y.setCell ⟨V.heap.size, 0, none⟩ (.int .i64 (j + 1))) w1.heap.size 56 (.func (.func 52) #[] lb) ∧ Boxed (Y.setCell ⟨V.heap.size, 0, none⟩ (.int .i64 (j + 1))) (w1.heap.size + 1) 3 (.int .i64 i)) ∧ (Y.setCell ⟨V.heap.size, 0, none⟩ (.int .i64 (j + 1))).heap[D]? = some (.deferred (some [])) ∧ (Below w1.heap.size w1 (Y.setCell ⟨V.heap.size, 0, none⟩ (.int .i64 (j + 1))) ∧ Below w1.heap.size W (Y.setCell ⟨V.heap.size, 0, none⟩ (.int .i64 (j + 1))) ∧ KeepsFrom U.heap.size W (Y.setCell ⟨V.heap.size, 0, none⟩ (.int .i64 (j + 1))))) :=
                      ⟨⟨P2.out.other (by omega) _, P3.out.other (by omega) _⟩, (KeepsOthers.setCell _ _ _).same _ _ P4.out rfl, P5.out.setCell (p := ⟨V.heap.size, 0, none⟩) hle _, P6.out.setCell (p := ⟨V.heap.size, 0, none⟩) hle _, P7.out.trans ((KeepsOthers.setCell _ _ _).from _)⟩
                    have S1 : Hid (Boxed (Y.setCell ⟨V.heap.size, 0, none⟩ (.int .i64 (j + 1))) V.heap.size 3 (.int .i64 (j + 1))) := P1.out.set _
                    have S2 := S1.out.cell
                    have S3 : Hid (KeepsFrom V1.heap.size X (Y.setCell ⟨V.heap.size, 0, none⟩ (.int .i64 (j + 1)))) := P8.out.trans ((KeepsOthers.setCell _ _ _).from _)
                    have S4 : Hid (Below w1.heap.size X (Y.setCell ⟨V.heap.size, 0, none⟩ (.int .i64 (j + 1)))) := P9.out.setCell (p := ⟨V.heap.size, 0, none⟩) hle _
                    by_cases hj3 : j + 1 = 3
                    · have hj3' : (j + 1 == 3) = true := by simpa using hj3
                      clear hj3
                      gi_wp2_with (fail)
                      exact ⟨S3.out, .inr ⟨rfl, BS.out⟩⟩
                    · have hj3' : (j + 1 == 3) = false := by simpa using hj3
                      have HJ3 : Hid (¬ j + 1 = 3) := hj3
                      clear hj3
                      gi_wp2_with (fail)
                      exact ⟨S3.out, S4.out, BS.out, by rw [L3.out]; exact S1.out, by rw [L3.out]; have := HJ3.out; omega⟩
                  · have hne : Hid ((va, vb) ≠ clA c r d p3.length) := by
                      intro e
                      have h := HT3.out
                      rw [QY.out] at e
                      obtain ⟨e1, e2⟩ := Prod.mk.inj e
                      rw [e1, e2] at h
                      simp at h
                    gi_wp2_with (fail)
                    exact ⟨P8.out.trans ((KeepsOthers.setCell _ _ _).from _), .inl ⟨rfl, p3, (va, vb), rfl, hne.out⟩⟩
              case done3 =>
                rintro xs X hxs ⟨hb, _, _⟩
                exact REST3.out X hb
              case stop3 =>
                rintro cd pre' X hpre (⟨rfl, p, x, rfl, hne⟩ | ⟨rfl, hb⟩)
                · exact absurd (pre_cell hpre) hne
                · have HR := REST3.out X hb
                  have HR' : Hid (K3 a2 X) := HR
                  clear HR REST3
                  gi_wp2_with (fail)
                  exact HR'.out
            · have hi1' : (i == 1) = false := by simpa using hi1
              clear hi1
              gi_wp2_with (fail)
              exact ⟨D4'.out.trans ((KeepsOthers.setCell _ _ _).from _), D5'.out.setCell (p := ⟨w1.heap.size + 1, 0, none⟩) (by show w1.heap.size ≤ w1.heap.size + 1; omega) _, ⟨D2'.out.other (by omega) _, by rw [L1.out]; exact D1'.out.set _⟩, (KeepsOthers.setCell _ _ _).same _ _ D6'.out rfl, D3'.out.setCell (p := ⟨w1.heap.size + 1, 0, none⟩) (by show w1.heap.size ≤ w1.heap.size + 1; omega) _⟩
          · have hne : Hid ((ua, ub) ≠ clA c r d pre.length) := by
              intro e
              have h := HT.out
              rw [FY.out] at e
              obtain ⟨e1, e2⟩ := Prod.mk.inj e
              rw [e1, e2] at h
              simp at h
            gi_wp2_with (fail)
            exact ⟨D4'.out.trans ((KeepsOthers.setCell _ _ _).from _), rfl, pre, (ua, ub), rfl, hne.out⟩
      case done2 =>
        subst hact2
        rintro D' ys W hD' hys ⟨⟨hF, hC⟩, hDD, hB⟩ hK'
        have hN' : (ys.length : Int) = N := by
          rw [hys]; unfold clL; rw [List.length_map, List.length_range, HN.out]
        rw [hN', hM] at hC
        have hw := (boxed_below WB.out (by have := SZ.out; omega) hB).cell
        have hrc := (boxed_below RB.out SZ.out hB).cell
        have hrf := (boxed_below RB.out SZ.out hB).frozen
        have hc := hC.cell
        have FK' : Hid (W.heap[D']? = some (.deferred (some []))) := hK'
        have FDD : Hid (W.heap[D]? = some (.deferred (some []))) := hDD
        have FBB : Hid (Below w1.heap.size w1 W) := hB
        have FD' : Hid (U.heap.size ≤ D') := hD'
        have RBW : Hid (Boxed W (w.heap.size + 1 + 1 + 1) 4 (.bool false)) := boxed_below RB.out SZ.out hB
        refine HK2.out _ _ ?_
        clear HK2 hK' hDD hB hF hC hD' hys hN' D5 hNb hk0 hk1 hM0 hM1
        dsimp only
        gi_wp2_with (fail)
        obtain ⟨X, hX⟩ : ∃ X, W.setCell ⟨w.heap.size + 1 + 1 + 1, 0, none⟩ (.bool true) = X := ⟨_, rfl⟩
        have kX : KeepsOthers W X := by rw [← hX]; exact KeepsOthers.setCell _ _ _
        have k1 : X.heap[D']? = some (.deferred (some [])) := kX.same _ _ FK'.out rfl
        have k2 : X.heap[D]? = some (.deferred (some [])) := kX.same _ _ FDD.out rfl
        have hDne : D ≠ D' := by have := DU.out; have := FD'.out; omega
        have k3 : (X.putObj D' (.deferred none)).heap[D]? = some (.deferred (some [])) := (World.putObj_heap_other hDne).trans k2
        have bX : Boxed X (w.heap.size + 1 + 1 + 1) 4 (.bool true) := by rw [← hX]; exact RBW.out.set _
        have hn1 : w.heap.size + 1 + 1 + 1 ≠ D' := by have := SZ.out; have := UZ.out; have := FD'.out; omega
        have hn2 : w.heap.size + 1 + 1 + 1 ≠ D := by have := SZ.out; have := FD.out; omega
        have bY : Boxed ((X.putObj D' (.deferred none)).putObj D (.deferred none)) (w.heap.size + 1 + 1 + 1) 4 (.bool true) := (World.putObj_heap_other hn2).trans ((World.putObj_heap_other hn1).trans bX)
        have hz : w.heap.size ≤ w1.heap.size := BW.out.size
        have lX : Below w.heap.size w X := by rw [← hX]; exact (BW.out.trans (FBB.out.mono hz)).setCell (p := ⟨w.heap.size + 1 + 1 + 1, 0, none⟩) (by show w.heap.size ≤ w.heap.size + 1 + 1 + 1; omega) _
        have lY : Below w.heap.size w ((X.putObj D' (.deferred none)).putObj D (.deferred none)) := (lX.trans (belowK_b (w := w) (Nat.le_refl _) X D' _ _ (by have := UZ.out; have := FD'.out; omega) k1 rfl rfl)).trans (belowK_b (w := w) (Nat.le_refl _) _ D _ _ (by have := FD.out; omega) k3 rfl rfl)
        rw [hX]
        have hcY := bY.cell
        clear hX
        refine ⟨by simp, .inl ⟨_, _, rfl, run_takeDeferred k1, ⟨by simp, .inl ⟨_, _, rfl, run_takeDeferred k3, ?_⟩⟩⟩⟩
        refine ⟨.bool true, ?_, rfl, lY⟩
        simp [results, Tryd.results35, go_sem, hcY]
      case stop2 =>
        rintro D' cd pre' W hD' hpre ⟨rfl, pre, x, rfl, hne⟩ hK'
        exact absurd (pre_cell hpre) hne
  refine wpIn_rangeFunc_ownH rfl (by decide) (gf := 52) (lb := lb) (by rw [← hact]; rfl) trivial (enters_of Tryd.func52 (by kernel_rfl) rfl)
    (HSEQ.out 11 (by decide)) belowK_t (belowK_b (by simp; omega)) hB0 (fun _ => rfl)
    (fun pre W => (Boxed W w1.heap.size 56 (.func (.func 52) #[] lb) ∧ Boxed W (w1.heap.size + 1) 3 (.int .i64 (pre.length : Int))) ∧ (k ≤ 0 ∨ (pre.length : Int) < k) ∧ Below w1.heap.size w1 W)
    (fun cd pre' W => (cd = .ret ∧ ∃ pre x, pre' = pre ++ [x] ∧ x ≠ clA c r d pre.length) ∨ (cd = .exit 0 ∧ ((pre'.length : Int) = k ∧ 0 < k) ∧ (Boxed W w1.heap.size 56 (.func (.func 52) #[] lb) ∧ Boxed W (w1.heap.size + 1) 3 (.int .i64 (pre'.length : Int))) ∧ Below w1.heap.size w1 W))
    ?hI ?hIx ⟨⟨hF0, hC0⟩, by simp only [List.length_nil]; omega, hB0⟩
    (fun x a' W => ∃ Bx, w1.heap.size + 1 < Bx ∧ Has2 W Bx (.int .i64 x.1) (.int .i64 x.2) ∧ a' = { tmps := (a0.tmps.setIfInBounds 18 (.agg #[.int .i64 x.1, .int .i64 x.2])).setIfInBounds 9 (.pointer (some ⟨Bx, 0, none⟩)), defers := [] })
    ?hAx ?assign ?body ?done ?stop
  case hI => exact OwnFrom.and (OwnFrom.and (Own.from (boxed_own _ _ _) _) (Own.from (boxed_own _ _ _) _)) (OwnFrom.and (ownFrom_pure _ _) (ownFrom_below (Nat.le_refl _) (by simp; omega)))
  case hIx =>
    rintro cd pre' A B row (h | ⟨h1, h2, ⟨h3, h4⟩, h5⟩) hg hr
    · exact .inl h
    · exact .inr ⟨h1, h2, ⟨Own.from (boxed_own (β := Unit) _ _ (fun _ => _)) _ () A B row h3 hg hr, Own.from (boxed_own (β := Unit) _ _ (fun _ => _)) _ () A B row h4 hg hr⟩, ownFrom_below (β := Unit) (Nat.le_refl _) (by simp; omega) () A B row h5 hg hr⟩
  case hAx => exact fun x a' => own_two (f := fun Bx => { tmps := (a0.tmps.setIfInBounds 18 (.agg #[.int .i64 x.1, .int .i64 x.2])).setIfInBounds 9 (.pointer (some ⟨Bx, 0, none⟩)), defers := [] }) (by simp)
  case assign =>
    subst hact
    rintro l pre x W K' ⟨⟨hF, hC⟩, hkk, hB⟩ hK
    have hsz : w1.heap.size + 1 < W.heap.size := hC.lt
    simp only [encC]
    gi_wp2
    have hbW : Below W.heap.size W (W.alloc (.cells #[.int .i64 x.1, .int .i64 x.2] 23)) := ((Gr.refl W).alloc _ _).below
    exact hK _ _ ((KeepsOthers.alloc _ _).from _) (hbW.mono (by omega)) ⟨⟨hF.alloc _, hC.alloc _⟩, hkk, hB.trans (hbW.mono (by omega))⟩ ⟨W.heap.size, hsz, has2_new _ _ _ _, rfl⟩
  case body =>
    subst hact
    rintro l pre u a' W hl ⟨rr, hr⟩ ⟨⟨hF, hC⟩, hkk, hB⟩ ⟨Bx, hBx, hX, rfl⟩ hlt
    have hltN : pre.length < N := by have := HN.out; omega
    obtain ⟨i, hi⟩ : ∃ i : Int, (pre.length : Int) = i := ⟨_, rfl⟩
    obtain ⟨M, hM⟩ : ∃ M : Int, (N : Int) = M := ⟨_, rfl⟩
    obtain ⟨ya, yb, hy⟩ : ∃ ya yb, clA c r d pre.length = (ya, yb) := ⟨_, _, rfl⟩
    have hq' := hq.out (by omega)
    obtain ⟨cg, c0, c1⟩ := CW.out pre.length hltN
    rw [hy] at c0 c1
    have e1 : W.cell? ⟨g, i.toNat * 2, none⟩ = some (.int .i64 ya) := by rw [← hi, Int.toNat_natCast]; exact (hB.cell (by exact cg)).trans c0
    have e2 : W.cell? ⟨g, i.toNat * 2 + 1, none⟩ = some (.int .i64 yb) := by rw [← hi, Int.toNat_natCast]; exact (hB.cell (by exact cg)).trans c1
    have hw := (boxed_below WB.out (by have := SZ.out; omega) hB).cell
    have hl' := (boxed_below LB.out (by have := SZ.out; omega) hB).cell
    have hrc := (boxed_below RB.out SZ.out hB).cell
    have hrf := (boxed_below RB.out SZ.out hB).frozen
    have i0 : 0 ≤ i := by omega
    have i1 : i < M := by omega
    have i2 : i < 1048576 := by omega
    have hMN := hM
    obtain ⟨ua, ub⟩ := u
    simp only at *
    rw [hi] at hC hkk
    subst hq'
    have hc := hC.cell
    have hf := hC.frozen
    have hmx : Tryd.prog.follows .mixedOrders = true := by kernel_rfl
    obtain ⟨⟨x0, x1⟩, _, _⟩ := hX
    have FC : Hid (Boxed W (w1.heap.size + 1) 3 (.int .i64 i)) := hC
    have FF : Hid (Boxed W w1.heap.size 56 (.func (.func 52) #[] lb)) := hF
    have FB : Hid (Below w1.heap.size w1 W) := hB
    have FK : Hid (k ≤ 0 ∨ i < k) := hkk
    have FI : Hid ((pre.length : Int) = i) := hi
    have FY : Hid (clA c r d pre.length = (ya, yb)) := hy
    clear hF0 hC0 hB0 hC hF hB hkk hi hy cg c0 c1 hlt hltN hr HSEQ REST
    obtain ⟨T, hT⟩ : ∃ T : Bool, (!(ua == ya && ub == yb)) = T := ⟨_, rfl⟩
    have hneq : ∀ w, (binOp .neq 23 (.agg #[.int .i64 ua, .int .i64 ub]) (.agg #[.int .i64 ya, .int .i64 yb])).run Tryd.prog w = .ok (.bool T) w := neq_addr ua ub ya yb T hT
    have HT : Hid ((!(ua == ya && ub == yb)) = T) := hT
    have hdm : decide (M ≤ i) = false := decide_eq_false (by omega)
    clear hT
    gi_wp2_with (fail)
    refine Code.wpIn_mono (Q := fun ex a' w' => ex = .normal ∧ a' = { tmps := #[.agg #[.int .i64 c, .int .i64 r, .int .i64 d, .int .i64 s], .slice (some ⟨g, 0, none⟩) N cap, .int .i64 k, .pointer (some ⟨w.heap.size, 0, none⟩), .pointer (some ⟨w.heap.size + 1, 0, none⟩), .pointer (some ⟨w.heap.size + 1 + 1, 0, none⟩), .pointer (some ⟨w.heap.size + 1 + 1 + 1, 0, none⟩), .pointer (some ⟨w1.heap.size, 0, none⟩), .pointer (some ⟨w1.heap.size + 1, 0, none⟩), .pointer (some ⟨Bx, 0, none⟩), undef, undef, undef, .agg #[.int .i64 c, .int .i64 r, .int .i64 d, .int .i64 s], .func (.func 52) #[] lb, .func (.func 52) #[] lb, .bool false, .func (.func 52) #[] lb, .agg #[.int .i64 ua, .int .i64 ub], .int .i64 i, .slice (some ⟨g, 0, none⟩) N cap, .int .i64 M, .bool false, .bool false, .agg #[.int .i64 ua, .int .i64 ub], .slice (some ⟨g, 0, none⟩) N cap, .int .i64 i, .pointer (some ⟨g, i.toNat * 2, none⟩), .agg #[.int .i64 ya, .int .i64 yb], .bool T, .bool T, undef, undef, undef, undef, undef, undef, undef, undef, undef, undef, undef, undef, undef, undef, undef, undef, undef, undef, undef, undef, undef, undef, undef, undef, undef, undef, undef, undef, undef, undef, undef, undef, undef, undef, undef, undef, undef, undef, undef, undef, undef, undef, undef, undef, undef, undef, undef, undef, undef, undef, undef, undef, undef, undef, undef, undef, undef, undef, undef, undef, undef, undef, undef, undef, undef, undef], defers := [] } ∧ w' = W.drew) ?cont ?reg
    case reg =>
      as_aux_lemma =>
      try clear FC
      try clear FF
      try clear FB
      try clear FK
      try clear FI
      try clear FY
      try clear HT
      try clear HN
      try clear BW
      try clear LB
      try clear RB
      try clear SZ
      try clear CW
      try clear HQ
      try clear HKK
      gi_region_with_o (fail)
      all_goals exact ⟨rfl, rfl, rfl⟩
    case cont =>
      rintro ex a' w' ⟨rfl, rfl, rfl⟩
      have D1 : Hid (Boxed W.drew (w1.heap.size + 1) 3 (.int .i64 i)) := FC.out
      have D2 : Hid (Boxed W.drew w1.heap.size 56 (.func (.func 52) #[] lb)) := FF.out
      have D3 : Hid (Below w1.heap.size w1 W.drew) := FB.out.drew
      have D4 : Hid (KeepsOthers W W.drew) := KeepsOthers.drew _
      have D5 : Hid (Below w1.heap.size W W.drew) := (Below.refl _ _).drew
      have RC : Hid (W.drew.cell? ⟨w.heap.size + 1 + 1 + 1, 0, none⟩ = some (.bool false) ∧ W.drew.frozen? ⟨w.heap.size + 1 + 1 + 1, 0, none⟩ = false) := ⟨hrc, hrf⟩
      have LC : Hid (W.drew.cell? ⟨w.heap.size + 1 + 1, 0, none⟩ = some (.int .i64 k)) := hl'
      clear x0 x1 e1 e2 hw hl' hrc hrf hc hf hneq hdm
      generalize W.drew = V at *
      obtain ⟨rc0, rc1⟩ := RC.out
      have lc := LC.out
      have hc := D1.out.cell
      have hf := D1.out.frozen
      cases T
      · have hxy : (ua, ub) = clA c r d pre.length := by
          have h := HT.out
          rw [FY.out]
          simp at h
          rw [h.1, h.2]
        have L1 : Hid (((pre ++ [(ua, ub)]).length : Int) = i + 1) := by show _ = _; rw [List.length_append, List.length_singleton]; have := FI.out; omega
        have n1 : wrap64 (i + 1) = i + 1 := by unfold wrap64; omega
        have E1 : Hid (Boxed (V.setCell ⟨w1.heap.size + 1, 0, none⟩ (.int .i64 (i + 1))) (w1.heap.size + 1) 3 (.int .i64 (i + 1))) := D1.out.set _
        have E2 : Hid (Boxed (V.setCell ⟨w1.heap.size + 1, 0, none⟩ (.int .i64 (i + 1))) w1.heap.size 56 (.func (.func 52) #[] lb)) := D2.out.other (by omega) _
        have E3 : Hid (Below w1.heap.size w1 (V.setCell ⟨w1.heap.size + 1, 0, none⟩ (.int .i64 (i + 1)))) := D3.out.setCell (p := ⟨w1.heap.size + 1, 0, none⟩) (by show w1.heap.size ≤ w1.heap.size + 1; omega) _
        have E4 : Hid (KeepsOthers W (V.setCell ⟨w1.heap.size + 1, 0, none⟩ (.int .i64 (i + 1)))) := D4.out.trans (KeepsOthers.setCell _ _ _)
        have E5 : Hid (Below w1.heap.size W (V.setCell ⟨w1.heap.size + 1, 0, none⟩ (.int .i64 (i + 1)))) := D5.out.setCell (p := ⟨w1.heap.size + 1, 0, none⟩) (by show w1.heap.size ≤ w1.heap.size + 1; omega) _
        have E6 : (V.setCell ⟨w1.heap.size + 1, 0, none⟩ (.int .i64 (i + 1))).cell? ⟨w.heap.size + 1 + 1, 0, none⟩ = some (.int .i64 k) := by rw [World.cell?_setCell_other _ _ _ _ (by have := SZ.out; intro e; have := congrArg Addr.block e; simp at this; omega)]; exact lc
        have E7 := E1.out.cell
        by_cases hik : i + 1 = k
        · have hik' : (i + 1 == k) = true := by simpa using hik
          have HIK : Hid (i + 1 = k) := hik
          clear hik
          gi_wp2_with (fail)
          exact ⟨E4.out.from _, .inr ⟨rfl, ⟨L1.out.trans HIK.out, by have := HIK.out; omega⟩, ⟨E2.out, by rw [L1.out]; exact E1.out⟩, E3.out⟩⟩
        · have hik' : (i + 1 == k) = false := by simpa using hik
          have HIK : Hid (¬ i + 1 = k) := hik
          clear hik
          gi_wp2_with (fail)
          exact ⟨E4.out.from _, E5.out, ⟨E2.out, by rw [L1.out]; exact E1.out⟩, by rw [L1.out]; have := HIK.out; have := FK.out; omega, E3.out⟩
      · have hne : Hid ((ua, ub) ≠ clA c r d pre.length) := by
          intro e
          have h := HT.out
          rw [FY.out] at e
          obtain ⟨e1, e2⟩ := Prod.mk.inj e
          rw [e1, e2] at h
          simp at h
        gi_wp2_with (fail)
        exact ⟨(D4.out.trans (KeepsOthers.setCell _ _ _)).from _, .inl ⟨rfl, pre, (ua, ub), rfl, hne.out⟩⟩
  case done =>
    rintro D ys W hD hys ⟨⟨hF, hC⟩, hkk, hB⟩ hK
    have hN' : (ys.length : Int) = N := by
      rw [hys]; unfold clL; rw [List.length_map, List.length_range, HN.out]
    rw [hN'] at hC hkk
    exact REST.out D W N (by simp at hD; omega) hK hF hC (.inl ⟨hkk, rfl⟩) hB
  case stop =>
    rintro D cd pre' W hD hpre (⟨rfl, pre, x, rfl, hne⟩ | ⟨rfl, ⟨hlen, hpos⟩, ⟨hF, hC⟩, hB⟩) hK
    · exact absurd (pre_cell hpre) hne
    · have hle : pre'.length ≤ N := by
        have := hpre.length_le
        unfold clL at this
        rw [List.length_map, List.length_range, HN.out] at this
        exact this
      rw [hlen] at hC
      have hR := REST.out D W k (by simp at hD; omega) hK hF hC (.inr ⟨hpos, by omega, rfl⟩) hB
      have HR : Hid (K { a0 with defers := { target := .collected D, args := #[] } :: a0.defers } W) := hR
      clear hR REST
      gi_wp2_with (fail)
      exact HR.out
end Go.Proofs.YthehdloofamadaaDoor
