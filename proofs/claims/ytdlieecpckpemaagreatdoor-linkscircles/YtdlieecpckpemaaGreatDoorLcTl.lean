/- A range over a function whose rounds may write what they like, but for the loop's own two blocks, and may leave by any jump: the law for its caller. No function of the program here. A range over a function that may tell what it tells in any order and has a block of its own: the law for its caller, by a state that each round moves on; Z are the blocks that rounds write, it grows by new blocks alone. No function of the program here. -/
import Derived.Test.YtdlieecpckpemaaGreatDoorLcYk
import Derived.RangeFuncNested
import Derived.RangeFuncBound
import Derived.RangeFuncCalls
import Derived.RangeFuncLeaves
import Derived.Shelf.Abstract
import Derived.OwnWalkIn
import Derived.TacticsInMore
import Derived.LoopNIn
import Derived.LoopIn
import Derived.Laws.EntriesVeiled
namespace Go.Proofs.YtdlieecpckpemaaGreatDoor
open Go.RowKit Go.Shelf
attribute [local go_sem] Oper.semAt_some

theorem roundIn_any {m m' : Nat} {P : Program} {l : Nat} {f : FuncId} {tmps : Array Value} {assign body : Code} {w : World} {R : Ending → World → Prop} (h : RoundIn Fence.wide m P l f tmps assign body w R) : RoundIn Fence.wide m' P l f tmps assign body w R :=
  ⟨h.1, fun c cs _ => h.2 c cs (room_wide _)⟩
theorem putObj_self {W : World} {l : Nat} {o : Obj} : Kp W (W.putObj l o) (fun i => i = l) :=
  ⟨rfl, rfl, rfl, by simp [World.putObj], fun i hi hs => World.putObj_heap_other (fun e => hs e)⟩
/-- The jump that is pending when a round is left so. -/
def jumpOf : Exit → Option Code
  | .ret => some .ret
  | .exit id => some (.exit id)
  | .goto t => some (.goto t)
  | _ => none
/-- The loop's own blocks stay. -/
structure Own2 (D : Nat) (V X : World) : Prop where
  d : X.heap[D]? = V.heap[D]?
  l : X.heap[D + 1]? = V.heap[D + 1]?
theorem Own2.of_kp {D : Nat} {V X : World} {S : Nat → Prop} (h : Kp V X S) (hD : D + 1 < V.heap.size) (h0 : ¬ S D) (h1 : ¬ S (D + 1)) : Own2 D V X := ⟨h.block D (by omega) h0, h.block (D + 1) hD h1⟩
section
variable {P : Program} {α : Type} {g : Operand} {ps : Array Tmp} {assign body : Code} {Q : Exit → Act → World → Prop} {a : Act} {w : World}
def lrec (fn : FuncId) (a : Act) (ps : Array Tmp) (assign body : Code) (d : Nat) (st : LoopState) (pe : Option Code) : Loop := { state := st, pending := pe, fn, tmps := a.tmps, params := ps, assign, body, defers := d }
/-- One round. -/
theorem round_all {encs : Array Value} {fn : FuncId} (hps : encs.size = ps.size) (I' : World → Prop) (Ix : Code → World → Prop)
    (hI : ∀ W W', I' W → Kp W W' (fun i => i = w.heap.size ∨ i = w.heap.size + 1) → I' W') (hIx : ∀ c W W', Ix c W → Kp W W' (fun i => i = w.heap.size ∨ i = w.heap.size + 1) → Ix c W') (W : World)
    (hround : ∀ (K : Act → World → Prop), (∀ a' W', Kp W W' Nul → (∀ V, Kp W' V (fun i => i = w.heap.size + 1) → (∃ r, V.heap[w.heap.size + 1]? = some (.loop r)) → body.wpIn (Fence.wide.inRound (w.heap.size + 1)) 6 P (fun e _ X => Own2 w.heap.size V X ∧ ((e = .normal ∧ I' X) ∨ ∃ c, jumpOf e = some c ∧ Ix c X)) a' V) → K a' W') →
      assign.wpIn (Fence.wide.inRound (w.heap.size + 1)) 6 P (Exit.then K (fun _ _ _ => False)) { tmps := (ps.zip encs).foldl (fun t (p, v) => t.setIfInBounds p v) a.tmps, defers := [] } W)
    (hl : W.heap[w.heap.size + 1]? = some (.loop (lrec fn a ps assign body w.heap.size .ready none))) (hk : W.heap[w.heap.size]? = some (.deferred (some []))) :
    YieldAt Fence.wide 6 P (w.heap.size + 1) encs W fun e W' =>
      (e = .returned (.bool true) ∧ I' W' ∧ W'.heap[w.heap.size + 1]? = some (.loop (lrec fn a ps assign body w.heap.size .ready none)) ∧ W'.heap[w.heap.size]? = some (.deferred (some []))) ∨
      (e = .returned (.bool false) ∧ ∃ c, Ix c W' ∧ W'.heap[w.heap.size + 1]? = some (.loop (lrec fn a ps assign body w.heap.size .done (some c))) ∧ W'.heap[w.heap.size]? = some (.deferred (some []))) := by
  have hy := run_yield (P := P) (args := encs) hl hps
  have hWl : w.heap.size + 1 < W.heap.size := (Array.getElem?_eq_some_iff.1 hl).1
  refine ⟨fn, _, assign, body, hy, roundIn_of_wpIn trivial (hround _ ?_)⟩
  clear hy
  intro a' V hkp hbody
  have vl := (hkp.block _ hWl (fun x => x)).trans hl
  have vk := (hkp.block _ (by omega) (fun x => x)).trans hk
  have hlt : w.heap.size + 1 < V.heap.size := (Array.getElem?_eq_some_iff.1 vl).1
  refine ⟨_, run_beginRound vl rfl, ?_⟩
  obtain ⟨bz, hbz⟩ : ∃ bz : Loop, { lrec fn a ps assign body w.heap.size .ready none with state := .busy } = bz := ⟨_, rfl⟩
  obtain ⟨U, hU⟩ : ∃ U, V.putObj (w.heap.size + 1) (.loop bz) = U := ⟨_, rfl⟩
  rw [hbz, hU]
  have ul : U.heap[w.heap.size + 1]? = some (.loop bz) := by rw [← hU]; exact World.putObj_heap_same hlt
  have uk : U.heap[w.heap.size]? = some (.deferred (some [])) := by rw [← hU]; exact (World.putObj_heap_other (by omega)).trans vk
  have hVU : Kp V U (fun i => i = w.heap.size + 1) := by rw [← hU]; exact putObj_self
  refine wpIn_mono (hbody U hVU ⟨_, ul⟩) ?_
  have leave : ∀ (jump : Option Code) (X : World), Own2 w.heap.size U X →
      (Instr.endRound (w.heap.size + 1) jump).run P X = .ok (.bool jump.isNone) (X.putObj (w.heap.size + 1) (.loop (lrec fn a ps assign body w.heap.size (if jump.isNone then .ready else .done) jump))) ∧
      (X.putObj (w.heap.size + 1) (.loop (lrec fn a ps assign body w.heap.size (if jump.isNone then .ready else .done) jump))).heap[w.heap.size + 1]? = some (.loop (lrec fn a ps assign body w.heap.size (if jump.isNone then .ready else .done) jump)) ∧
      (X.putObj (w.heap.size + 1) (.loop (lrec fn a ps assign body w.heap.size (if jump.isNone then .ready else .done) jump))).heap[w.heap.size]? = some (.deferred (some [])) ∧ Kp X (X.putObj (w.heap.size + 1) (.loop (lrec fn a ps assign body w.heap.size (if jump.isNone then .ready else .done) jump))) (fun i => i = w.heap.size + 1) := by
    intro jump X hX
    have xl := hX.l.trans ul
    have xk := hX.d.trans uk
    refine ⟨?_, World.putObj_heap_same (Array.getElem?_eq_some_iff.1 xl).1, (World.putObj_heap_other (by omega)).trans xk, putObj_self⟩
    have := run_endRound (P := P) jump xl
    rw [← hbz] at this
    exact this
  rintro e a3 X ⟨hX, (⟨rfl, q⟩ | ⟨c, hc, q⟩)⟩
  · obtain ⟨r1, r2, r3, r4⟩ := leave none X hX
    exact ⟨_, _, r1, .inl ⟨rfl, hI _ _ q (r4.mono (fun i _ e => .inr e)), r2, r3⟩⟩
  · obtain ⟨r1, r2, r3, r4⟩ := leave (some c) X hX
    have r5 := hIx _ _ _ q (r4.mono (fun i _ e => .inr e))
    have fin : ∃ v w', (Instr.endRound (w.heap.size + 1) (some c)).run P X = .ok v w' ∧ ((Ending.returned v = .returned (.bool true) ∧ I' w' ∧ w'.heap[w.heap.size + 1]? = some (.loop (lrec fn a ps assign body w.heap.size .ready none)) ∧ w'.heap[w.heap.size]? = some (.deferred (some []))) ∨
      (Ending.returned v = .returned (.bool false) ∧ ∃ c, Ix c w' ∧ w'.heap[w.heap.size + 1]? = some (.loop (lrec fn a ps assign body w.heap.size .done (some c))) ∧ w'.heap[w.heap.size]? = some (.deferred (some [])))) := ⟨_, _, r1, .inr ⟨rfl, c, r5, r2, r3⟩⟩
    cases e with
    | normal => cases hc
    | ret => cases hc; exact fin
    | exit id => cases hc; exact fin
    | goto t => cases hc; exact fin
    | panic ch => cases hc
    | outgrown => cases hc
/-- What a function ranged over does: N rounds, in which M stands. -/
def SeqAll (P : Program) (gf : Nat) (lb : Array Value) (encs : Nat → Array Value) (N : Nat) (M : World → Prop) (w : World) : Prop :=
  ∀ (J : Nat → World → Prop) (Jx : World → Prop) (W : World), Kp w W Nul → w.heap.size + 2 ≤ W.heap.size → (∀ k W, J k W → M W) → (∀ k W W', J k W → Kp W W' Nul → J k W') → (∀ W W', Jx W → Kp W W' Nul → Jx W') →
      (∀ m k W1, k < N → J k W1 → YieldAt Fence.wide m P (w.heap.size + 1) (encs k) W1 fun e W' => (e = .returned (.bool true) ∧ J (k + 1) W') ∨ (e = .returned (.bool false) ∧ Jx W')) → J 0 W →
      Calls P gf (#[.func (.yield (w.heap.size + 1)) #[] #[]] ++ lb) W fun e W' => (∃ v, e = .returned v) ∧ (J N W' ∨ Jx W')
/-- The caller's law. -/
theorem wp_range_all {gf : Nat} {lb : Array Value} (hg : a.eval g = .func (.func gf) #[] lb) (eg : ∀ args w, (callFunc gf args).run P w = .ok (.enter gf args) w)
    {encs : Nat → Array Value} (hps : ∀ k, (encs k).size = ps.size) {N : Nat} (M : World → Prop) (hseq : SeqAll P gf lb encs N M w)
    (I : Nat → World → Prop) (Ix : Code → World → Prop) (hM : ∀ k W, I k W → M W)
    (hI : ∀ k W W', I k W → Kp W W' (fun i => i = w.heap.size ∨ i = w.heap.size + 1) → I k W') (hIx : ∀ c W W', Ix c W → Kp W W' (fun i => i = w.heap.size ∨ i = w.heap.size + 1) → Ix c W') (h0 : I 0 w)
    (hround : ∀ (k : Nat) (W : World) (K : Act → World → Prop), k < N → w.heap.size + 2 ≤ W.heap.size → I k W → (∀ a' W', Kp W W' Nul → (∀ V, Kp W' V (fun i => i = w.heap.size + 1) → (∃ r, V.heap[w.heap.size + 1]? = some (.loop r)) → V.heap[w.heap.size]? = some (.deferred (some [])) → body.wpIn (Fence.wide.inRound (w.heap.size + 1)) 6 P (fun e _ X => Own2 w.heap.size V X ∧ ((e = .normal ∧ I (k + 1) X) ∨ ∃ c, jumpOf e = some c ∧ Ix c X)) a' V) → K a' W') →
      assign.wpIn (Fence.wide.inRound (w.heap.size + 1)) 6 P (Exit.then K (fun _ _ _ => False)) { tmps := (ps.zip (encs k)).foldl (fun t (p, v) => t.setIfInBounds p v) a.tmps, defers := [] } W)
    (hdone : ∀ (D : Nat) (W : World), D = w.heap.size → I N W → W.heap[D]? = some (.deferred (some [])) → Q .normal { a with defers := { target := .collected D, args := #[] } :: a.defers } W)
    (hstop : ∀ (D : Nat) (c : Code) (W : World), D = w.heap.size → Ix c W → W.heap[D]? = some (.deferred (some [])) → c.wp P Q { a with defers := { target := .collected D, args := #[] } :: a.defers } W) :
    (Code.rangeFunc g ps assign body).wp P Q a w := by
  refine (wpIn_wide (n := 8)).1 ?_
  refine wpIn_rangeFunc fun fn hfn => ?_
  obtain ⟨W1, hW1⟩ : ∃ W1, (w.alloc (.deferred (some []))).alloc (.loop (lrec fn a ps assign body w.heap.size .ready none)) = W1 := ⟨_, rfl⟩
  have l1 : W1.heap[w.heap.size + 1]? = some (.loop (lrec fn a ps assign body w.heap.size .ready none)) := by
    have := World.alloc_heap_new (w.alloc (.deferred (some []))) (.loop (lrec fn a ps assign body w.heap.size .ready none))
    rw [World.size_alloc, hW1] at this
    exact this
  have k1 : W1.heap[w.heap.size]? = some (.deferred (some [])) := by rw [← hW1]; exact (Below.heap_alloc _ _ _ (by simp)).trans (World.alloc_heap_new w _)
  have s1 : W1.heap.size = w.heap.size + 2 := by rw [← hW1]; simp
  have kW : Kp w W1 Nul := by rw [← hW1]; exact ((Kp.refl w Nul).alloc _).alloc _
  refine ⟨w.heap.size + 1, [{ target := .collected w.heap.size, args := #[] }], W1, { target := .fn (.func gf) lb, args := #[.func (.yield (w.heap.size + 1)) #[] #[]] }, W1, gf, #[.func (.yield (w.heap.size + 1)) #[] #[]] ++ lb, W1, ?_, ?_, fun f' _ => trivial, ?_, fun _ => by decide, ?_⟩
  · rw [← hW1]; exact run_enterLoop_outer _ _ _ _ _
  · simp only [resolve, hg]
    simp [go_sem]
  · simp [invoke, go_sem, eg]
  · have hkeep : ∀ {A B : World} {o : Obj} {i : Nat}, Kp A B Nul → A.heap[i]? = some o → B.heap[i]? = some o := fun h e => (h.block _ (Array.getElem?_eq_some_iff.1 e).1 (fun x => x)).trans e
    refine callsIn_wide.2 ((hseq
      (fun k W => I k W ∧ W.heap[w.heap.size + 1]? = some (.loop (lrec fn a ps assign body w.heap.size .ready none)) ∧ W.heap[w.heap.size]? = some (.deferred (some [])))
      (fun W => ∃ c, Ix c W ∧ W.heap[w.heap.size + 1]? = some (.loop (lrec fn a ps assign body w.heap.size .done (some c))) ∧ W.heap[w.heap.size]? = some (.deferred (some [])))
      W1 kW (by omega) (fun k W h => hM k W h.1)
      (fun k A B h hk => ⟨hI k A B h.1 hk.of_nul, hkeep hk h.2.1, hkeep hk h.2.2⟩)
      (fun A B ⟨c, h1, h2, h3⟩ hk => ⟨c, hIx c A B h1 hk.of_nul, hkeep hk h2, hkeep hk h3⟩)
      (fun m k W hkN h => by
        have hsz : w.heap.size + 2 ≤ W.heap.size := (Array.getElem?_eq_some_iff.1 h.2.1).1
        obtain ⟨fn', tms, asg, bo, y1, y2⟩ := round_all (P := P) (w := w) (encs := encs k) (hps k) (I (k + 1)) Ix (hI (k + 1)) hIx W (fun K hK => hround k W K hkN hsz h.1 (fun a' W' hkp hb => hK a' W' hkp (fun V hV hr => hb V hV hr (((hV.block _ (by have := hkp.size; omega) (by omega)).trans (hkp.block _ (by omega) (fun x => x))).trans h.2.2)))) h.2.1 h.2.2
        exact ⟨fn', tms, asg, bo, y1, roundIn_any y2⟩)
      ⟨hI 0 w W1 h0 kW.of_nul, l1, k1⟩).mono ?_)
    rintro e W2 ⟨⟨v, rfl⟩, (⟨hi, hl, hk⟩ | ⟨c, hi, hl, hk⟩)⟩
    · exact ⟨none, _, run_endLoop (P := P) hl (by simp [lrec]), hdone _ _ rfl (hI _ _ _ hi (putObj_self.mono (fun i _ e => .inr e))) ((World.putObj_heap_other (by omega)).trans hk)⟩
    · exact ⟨some c, _, run_endLoop (P := P) hl (by simp [lrec]), wpIn_wide.2 (hstop _ c _ rfl (hIx _ _ _ hi (putObj_self.mono (fun i _ e => .inr e))) ((World.putObj_heap_other (by omega)).trans hk))⟩
end
end Go.Proofs.YtdlieecpckpemaaGreatDoor
namespace Go.Proofs.YtdlieecpckpemaaGreatDoor
open Go.RowKit Go.Shelf
attribute [local go_sem] Oper.semAt_some
section
variable {P : Program} {σ : Type} {g : Operand} {ps : Array Tmp} {assign body : Code} {Q : Exit → Act → World → Prop} {a : Act} {w : World}
/-- What a function ranged over does: rounds that move the state on, till it is at an end. -/
def SeqSt (P : Program) (gf : Nat) (lb : Array Value) (step : σ → Array Value → σ → Prop) (s0 : σ) (fin : σ → Prop) (M : World → Prop) (w : World) : Prop :=
  ∀ (J : σ → (Nat → Prop) → World → Prop) (Jx : World → Prop) (Z0 : Nat → Prop) (W : World), Kp w W Nul → w.heap.size + 2 ≤ W.heap.size → (∀ s Z W, J s Z W → M W ∧ w.heap.size + 2 ≤ W.heap.size ∧ ∀ i, Z i → i < W.heap.size) → (∀ s Z W W' S, J s Z W → Kp W W' S → (∀ i, S i → w.heap.size + 2 ≤ i ∧ ¬ Z i) → J s Z W') → (∀ W W', Jx W → Kp W W' Nul → Jx W') →
      (∀ m s Z ev s' W1, step s ev s' → J s Z W1 → YieldAt Fence.wide m P (w.heap.size + 1) ev W1 fun e W' => (e = .returned (.bool true) ∧ ∃ Z', J s' Z' W' ∧ Kp W1 W' (fun i => Z i ∨ i < w.heap.size + 2) ∧ ∀ i, Z' i → Z i ∨ W1.heap.size ≤ i) ∨ (e = .returned (.bool false) ∧ Jx W')) → J s0 Z0 W →
      Calls P gf (#[.func (.yield (w.heap.size + 1)) #[] #[]] ++ lb) W fun e W' => (∃ v, e = .returned v) ∧ ((∃ s Z, fin s ∧ J s Z W') ∨ Jx W')
/-- The caller's law. -/
theorem wp_range_st {gf : Nat} {lb : Array Value} (hg : a.eval g = .func (.func gf) #[] lb) (eg : ∀ args w, (callFunc gf args).run P w = .ok (.enter gf args) w)
    {step : σ → Array Value → σ → Prop} {s0 : σ} {fin : σ → Prop} (hps : ∀ s ev s', step s ev s' → ev.size = ps.size) (M : World → Prop) (hseq : SeqSt P gf lb step s0 fin M w)
    (I : σ → (Nat → Prop) → World → Prop) (Ix : Code → World → Prop) (hM : ∀ k Z W, I k Z W → M W ∧ ∀ i, Z i → i < W.heap.size ∧ i ≠ w.heap.size ∧ i ≠ w.heap.size + 1)
    (hI : ∀ k Z W W' S, I k Z W → Kp W W' S → (∀ i, S i → w.heap.size ≤ i ∧ ¬ Z i) → I k Z W') (hIx : ∀ c W W', Ix c W → Kp W W' (fun i => i = w.heap.size ∨ i = w.heap.size + 1) → Ix c W') (Z0 : Nat → Prop) (h0 : I s0 Z0 w)
    (hround : ∀ (s : σ) (Z : Nat → Prop) (ev : Array Value) (s' : σ) (W : World) (K : Act → World → Prop), step s ev s' → w.heap.size + 2 ≤ W.heap.size → I s Z W → (∀ a' W', Kp W W' Nul → (∀ V, Kp W' V (fun i => i = w.heap.size + 1) → (∃ r, V.heap[w.heap.size + 1]? = some (.loop r)) → V.heap[w.heap.size]? = some (.deferred (some [])) → body.wpIn (Fence.wide.inRound (w.heap.size + 1)) 6 P (fun e _ X => Own2 w.heap.size V X ∧ ((e = .normal ∧ ∃ Z', I s' Z' X ∧ Kp V X (fun i => Z i ∨ W.heap.size ≤ i) ∧ ∀ i, Z' i → Z i ∨ W.heap.size ≤ i) ∨ ∃ c, jumpOf e = some c ∧ Ix c X)) a' V) → K a' W') →
      assign.wpIn (Fence.wide.inRound (w.heap.size + 1)) 6 P (Exit.then K (fun _ _ _ => False)) { tmps := (ps.zip ev).foldl (fun t (p, v) => t.setIfInBounds p v) a.tmps, defers := [] } W)
    (hdone : ∀ (D : Nat) (s : σ) (Z : Nat → Prop) (W : World), D = w.heap.size → fin s → I s Z W → W.heap[D]? = some (.deferred (some [])) → Q .normal { a with defers := { target := .collected D, args := #[] } :: a.defers } W)
    (hstop : ∀ (D : Nat) (c : Code) (W : World), D = w.heap.size → Ix c W → W.heap[D]? = some (.deferred (some [])) → c.wp P Q { a with defers := { target := .collected D, args := #[] } :: a.defers } W) :
    (Code.rangeFunc g ps assign body).wp P Q a w := by
  refine (wpIn_wide (n := 8)).1 ?_
  refine wpIn_rangeFunc fun fn hfn => ?_
  obtain ⟨W1, hW1⟩ : ∃ W1, (w.alloc (.deferred (some []))).alloc (.loop (lrec fn a ps assign body w.heap.size .ready none)) = W1 := ⟨_, rfl⟩
  have l1 : W1.heap[w.heap.size + 1]? = some (.loop (lrec fn a ps assign body w.heap.size .ready none)) := by
    have := World.alloc_heap_new (w.alloc (.deferred (some []))) (.loop (lrec fn a ps assign body w.heap.size .ready none))
    rw [World.size_alloc, hW1] at this
    exact this
  have k1 : W1.heap[w.heap.size]? = some (.deferred (some [])) := by rw [← hW1]; exact (Below.heap_alloc _ _ _ (by simp)).trans (World.alloc_heap_new w _)
  have s1 : W1.heap.size = w.heap.size + 2 := by rw [← hW1]; simp
  have kW : Kp w W1 Nul := by rw [← hW1]; exact ((Kp.refl w Nul).alloc _).alloc _
  refine ⟨w.heap.size + 1, [{ target := .collected w.heap.size, args := #[] }], W1, { target := .fn (.func gf) lb, args := #[.func (.yield (w.heap.size + 1)) #[] #[]] }, W1, gf, #[.func (.yield (w.heap.size + 1)) #[] #[]] ++ lb, W1, ?_, ?_, fun f' _ => trivial, ?_, fun _ => by decide, ?_⟩
  · rw [← hW1]; exact run_enterLoop_outer _ _ _ _ _
  · simp only [resolve, hg]
    simp [go_sem]
  · simp [invoke, go_sem, eg]
  · have hkeep : ∀ {A B : World} {o : Obj} {i : Nat}, Kp A B Nul → A.heap[i]? = some o → B.heap[i]? = some o := fun h e => (h.block _ (Array.getElem?_eq_some_iff.1 e).1 (fun x => x)).trans e
    refine callsIn_wide.2 ((hseq
      (fun k Z W => I k Z W ∧ W.heap[w.heap.size + 1]? = some (.loop (lrec fn a ps assign body w.heap.size .ready none)) ∧ W.heap[w.heap.size]? = some (.deferred (some [])))
      (fun W => ∃ c, Ix c W ∧ W.heap[w.heap.size + 1]? = some (.loop (lrec fn a ps assign body w.heap.size .done (some c))) ∧ W.heap[w.heap.size]? = some (.deferred (some [])))
      Z0 W1 kW (by omega) (fun k Z W h => ⟨(hM k Z W h.1).1, (Array.getElem?_eq_some_iff.1 h.2.1).1, fun i q => ((hM k Z W h.1).2 i q).1⟩)
      (fun k Z A B S h hk hS => ⟨hI k Z A B S h.1 hk (fun i q => ⟨by have := (hS i q).1; omega, (hS i q).2⟩), (hk.block _ (Array.getElem?_eq_some_iff.1 h.2.1).1 (fun q => by have := (hS _ q).1; omega)).trans h.2.1, (hk.block _ (Array.getElem?_eq_some_iff.1 h.2.2).1 (fun q => by have := (hS _ q).1; omega)).trans h.2.2⟩)
      (fun A B ⟨c, h1, h2, h3⟩ hk => ⟨c, hIx c A B h1 hk.of_nul, hkeep hk h2, hkeep hk h3⟩)
      (fun m s Z ev s' W hst h => by
        have hsz : w.heap.size + 2 ≤ W.heap.size := (Array.getElem?_eq_some_iff.1 h.2.1).1
        obtain ⟨fn', tms, asg, bo, y1, y2⟩ := round_all (P := P) (w := w) (encs := ev) (hps _ _ _ hst) (fun X => ∃ Z', I s' Z' X ∧ Kp W X (fun i => Z i ∨ i < w.heap.size + 2) ∧ ∀ i, Z' i → Z i ∨ W.heap.size ≤ i) Ix (fun A B ⟨Z', q1, q2, q3⟩ hk => ⟨Z', hI _ _ _ _ _ q1 hk (fun i e => ⟨by rcases e with e | e <;> omega, fun q => by have := ((hM _ _ _ q1).2 i q).2; rcases e with e | e <;> omega⟩), q2.trans' hk (fun i _ e => by rcases e with e | e <;> exact .inr (by omega)), q3⟩) hIx W (fun K hK => hround s Z ev s' W K hst hsz h.1 (fun a' W' hkp hb => hK a' W' hkp (fun V hV hr => wpIn_mono (hb V hV hr (((hV.block _ (by have := hkp.size; omega) (by omega)).trans (hkp.block _ (by omega) (fun x => x))).trans h.2.2)) (fun e _ X q => ⟨q.1, q.2.elim (fun ⟨r1, Z', r2, r3, r4⟩ => .inl ⟨r1, Z', r2, (hkp.of_nul.trans' hV (fun i _ e => .inr (by have e' : i = w.heap.size + 1 := e; omega))).trans' r3 (fun i hi e => by
            rcases e with e | e
            · exact .inl e
            · omega), r4⟩) .inr⟩)))) h.2.1 h.2.2
        exact ⟨fn', tms, asg, bo, y1, (roundIn_any y2).mono (fun e W' q => q.elim (fun ⟨r1, ⟨Z', r2, r3, r4⟩, r5, r6⟩ => .inl ⟨r1, Z', ⟨r2, r5, r6⟩, r3, r4⟩) (fun ⟨r1, r2⟩ => .inr ⟨r1, r2⟩))⟩)
      ⟨hI s0 Z0 w W1 _ h0 kW (fun _ q => q.elim), l1, k1⟩).mono ?_)
    rintro e W2 ⟨⟨v, rfl⟩, (⟨s, Z, hf, hi, hl, hk⟩ | ⟨c, hi, hl, hk⟩)⟩
    · exact ⟨none, _, run_endLoop (P := P) hl (by simp [lrec]), hdone _ s Z _ rfl hf (hI _ _ _ _ _ hi putObj_self (fun i e => ⟨by have e' : i = w.heap.size + 1 := e; omega, fun q => ((hM _ _ _ hi).2 i q).2.2 e⟩)) ((World.putObj_heap_other (by omega)).trans hk)⟩
    · exact ⟨some c, _, run_endLoop (P := P) hl (by simp [lrec]), wpIn_wide.2 (hstop _ c _ rfl (hIx _ _ _ hi (putObj_self.mono (fun i _ e => .inr e))) ((World.putObj_heap_other (by omega)).trans hk))⟩
end
end Go.Proofs.YtdlieecpckpemaaGreatDoor
