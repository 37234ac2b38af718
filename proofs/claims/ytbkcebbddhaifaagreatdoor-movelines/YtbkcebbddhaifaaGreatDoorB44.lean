/- A range over a function, whose rounds write blocks Z: some of the caller's, and ones that the rounds laid. The law for its caller. No function of the program here. -/
import Derived.Test.YtbkcebbddhaifaaGreatDoorB19
namespace Go.Proofs.YtbkcebbddhaifaaGreatDoor
open Go.RowKit Go.Shelf
attribute [local go_sem] Oper.semAt_some

/-- Z' has no block beyond Z that was there already. -/
def More (Z Z' : Nat → Prop) (W : World) : Prop := ∀ i, Z' i → Z i ∨ W.heap.size ≤ i
section
variable {n : Nat} {P : Program} {α : Type} {g : Operand} {ps : Array Tmp} {assign body : Code} {Q : Exit → Act → World → Prop} {a : Act} {w : World}
/-- One round. -/
theorem round_own {encs : α → Array Value} {fn : FuncId} {N : Nat} (hfn : Fence.wide.fn fn) (hps : ∀ x, (encs x).size = ps.size) (T : Nat → α → (Nat → Prop) → World → Prop)
    (I : Nat → (Nat → Prop) → World → Prop) (hZ : ∀ k Z W, I k Z W → ¬ Z w.heap.size ∧ ¬ Z (w.heap.size + 1)) (hI : ∀ k Z W W', I k Z W → Kp W W' (fun i => i = w.heap.size ∨ i = w.heap.size + 1) → I k Z W')
    (hround : ∀ (k : Nat) (x : α) (Z : Nat → Prop) (W : World) (K : Act → World → Prop), k < N → w.heap.size + 2 ≤ W.heap.size → I k Z W → T k x Z W → (∀ a' W', Kp W W' Nul → (∀ V, Kp W' V (fun i => i = w.heap.size + 1) → body.wpIn (Fence.wide.inRound (w.heap.size + 1)) (n - 1 - 1) P (fun e _ X => e = .normal ∧ Kp V X Z ∧ ∃ Z', I (k + 1) Z' X ∧ More Z Z' W) a' V) → K a' W') →
      assign.wpIn (Fence.wide.inRound (w.heap.size + 1)) (n - 1 - 1) P (Exit.then K (fun _ _ _ => False)) { tmps := (ps.zip (encs x)).foldl (fun t (p, v) => t.setIfInBounds p v) a.tmps, defers := [] } W)
    (k : Nat) (x : α) (Z : Nat → Prop) (W : World) (hkN : k < N) (hi : I k Z W) (ht : T k x Z W) (hl : W.heap[w.heap.size + 1]? = some (.loop (lrec fn a ps assign body w.heap.size .ready none))) (hk : W.heap[w.heap.size]? = some (.deferred (some []))) :
    YieldAt Fence.wide (n - 1 - 1) P (w.heap.size + 1) (encs x) W fun e W' =>
      e = .returned (.bool true) ∧ (∃ Z', (I (k + 1) Z' W' ∧ W'.heap[w.heap.size + 1]? = some (.loop (lrec fn a ps assign body w.heap.size .ready none)) ∧ W'.heap[w.heap.size]? = some (.deferred (some []))) ∧ More Z Z' W) ∧ Kp W W' (fun i => Z i ∨ i = w.heap.size + 1) := by
  have hy := run_yield (P := P) (args := encs x) hl (hps x)
  have hWl : w.heap.size + 1 < W.heap.size := (Array.getElem?_eq_some_iff.1 hl).1
  refine ⟨fn, _, assign, body, hy, roundIn_of_wpIn hfn (hround k x Z W _ hkN hWl hi ht ?_)⟩
  clear hy
  intro a' V hkp hbody
  have vl := (hkp.block _ hWl (fun x => x)).trans hl
  have vk := (hkp.block _ (by omega) (fun x => x)).trans hk
  have hlt : w.heap.size + 1 < V.heap.size := (Array.getElem?_eq_some_iff.1 vl).1
  refine ⟨_, run_beginRound vl rfl, ?_⟩
  obtain ⟨bz, hbz⟩ : ∃ bz : Loop, { lrec fn a ps assign body w.heap.size .ready none with state := .busy } = bz := ⟨_, rfl⟩
  obtain ⟨U, hU⟩ : ∃ U, V.putObj (w.heap.size + 1) (.loop bz) = U := ⟨_, rfl⟩
  rw [hbz, hU]
  have ul : U.heap[w.heap.size + 1]? = some (.loop bz) := by rw [← hU]; exact World.putObj_heap_same hlt
  have uk : U.heap[w.heap.size]? = some (.deferred (some [])) := by rw [← hU]; exact (World.putObj_heap_other (by omega)).trans vk
  have hVU : Kp V U (fun i => i = w.heap.size + 1) := by rw [← hU]; exact putObj_self
  refine wpIn_mono (hbody U hVU) ?_
  have leave : ∀ (X : World), Kp U X Z →
      (Instr.endRound (w.heap.size + 1) none).run P X = .ok (.bool true) (X.putObj (w.heap.size + 1) (.loop (lrec fn a ps assign body w.heap.size .ready none))) ∧
      (X.putObj (w.heap.size + 1) (.loop (lrec fn a ps assign body w.heap.size .ready none))).heap[w.heap.size + 1]? = some (.loop (lrec fn a ps assign body w.heap.size .ready none)) ∧
      (X.putObj (w.heap.size + 1) (.loop (lrec fn a ps assign body w.heap.size .ready none))).heap[w.heap.size]? = some (.deferred (some [])) ∧ Kp X (X.putObj (w.heap.size + 1) (.loop (lrec fn a ps assign body w.heap.size .ready none))) (fun i => i = w.heap.size + 1) := by
    intro X hX
    have hUl : w.heap.size + 1 < U.heap.size := (Array.getElem?_eq_some_iff.1 ul).1
    have xl := (hX.block _ hUl (hZ _ _ _ hi).2).trans ul
    have xk := (hX.block _ (by omega) (hZ _ _ _ hi).1).trans uk
    refine ⟨?_, World.putObj_heap_same (Array.getElem?_eq_some_iff.1 xl).1, (World.putObj_heap_other (by omega)).trans xk, putObj_self⟩
    have := run_endRound (P := P) none xl
    rw [← hbz] at this
    exact this
  rintro e a3 X ⟨rfl, q1, Z', q2, q3⟩
  obtain ⟨r1, r2, r3, r4⟩ := leave X q1
  refine ⟨_, _, r1, rfl, ⟨Z', ⟨hI _ _ _ _ q2 (r4.mono (fun i _ e => .inr e)), r2, r3⟩, q3⟩, ?_⟩
  exact ((hkp.of_nul.trans (hVU.mono (fun i _ e => .inr e))).trans (q1.mono (fun i _ e => .inl e))).trans (r4.mono (fun i _ e => .inr e))
/-- What a function ranged over does: N rounds, in which Z grows. -/
def SeqOwn (P : Program) (gf : Nat) (lb : Array Value) (encs : α → Array Value) (T : Nat → α → (Nat → Prop) → World → Prop) (N : Nat) (S : Nat → Prop) (w : World) : Prop :=
  ∀ (J : Nat → (Nat → Prop) → World → Prop) (Z : Nat → Prop) (W : World), Kp w W Nul → w.heap.size + 2 ≤ W.heap.size → (∀ k Z W W', J k Z W → Kp W W' Nul → J k Z W') → (∀ k Z W, J k Z W → (∀ i, Z i → i < W.heap.size) ∧ ∀ i, i < w.heap.size → Z i → S i) →
      (∀ m k x Z W1, k < N → J k Z W1 → T k x Z W1 → YieldAt Fence.wide m P (w.heap.size + 1) (encs x) W1 fun e W' => e = .returned (.bool true) ∧ (∃ Z', J (k + 1) Z' W' ∧ More Z Z' W1) ∧ Kp W1 W' (fun i => Z i ∨ i = w.heap.size + 1)) → J 0 Z W →
      Calls P gf (#[.func (.yield (w.heap.size + 1)) #[] #[]] ++ lb) W fun e W' => (∃ v, e = .returned v) ∧ ∃ Z', J N Z' W'
/-- The caller's law. -/
theorem wp_range_own {gf : Nat} {lb : Array Value} (hg : a.eval g = .func (.func gf) #[] lb) (eg : ∀ args w, (callFunc gf args).run P w = .ok (.enter gf args) w)
    {encs : α → Array Value} (hps : ∀ x, (encs x).size = ps.size) (T : Nat → α → (Nat → Prop) → World → Prop) {N : Nat} (S : Nat → Prop)
    (hseq : SeqOwn P gf lb encs T N S w)
    (I : Nat → (Nat → Prop) → World → Prop) (hZ : ∀ k Z W, I k Z W → ¬ Z w.heap.size ∧ ¬ Z (w.heap.size + 1)) (hZl : ∀ k Z W, I k Z W → (∀ i, Z i → i < W.heap.size) ∧ ∀ i, i < w.heap.size → Z i → S i)
    (hI : ∀ k Z W W', I k Z W → Kp W W' (fun i => i = w.heap.size ∨ i = w.heap.size + 1) → I k Z W') (Z0 : Nat → Prop) (h0 : I 0 Z0 w)
    (hround : ∀ (k : Nat) (x : α) (Z : Nat → Prop) (W : World) (K : Act → World → Prop), k < N → w.heap.size + 2 ≤ W.heap.size → I k Z W → T k x Z W → (∀ a' W', Kp W W' Nul → (∀ V, Kp W' V (fun i => i = w.heap.size + 1) → body.wpIn (Fence.wide.inRound (w.heap.size + 1)) (8 - 1 - 1) P (fun e _ X => e = .normal ∧ Kp V X Z ∧ ∃ Z', I (k + 1) Z' X ∧ More Z Z' W) a' V) → K a' W') →
      assign.wpIn (Fence.wide.inRound (w.heap.size + 1)) (8 - 1 - 1) P (Exit.then K (fun _ _ _ => False)) { tmps := (ps.zip (encs x)).foldl (fun t (p, v) => t.setIfInBounds p v) a.tmps, defers := [] } W)
    (hdone : ∀ (D : Nat) (Z : Nat → Prop) (W : World), w.heap.size ≤ D → I N Z W → W.heap[D]? = some (.deferred (some [])) → Q .normal { a with defers := { target := .collected D, args := #[] } :: a.defers } W) :
    (Code.rangeFunc g ps assign body).wp P Q a w := by
  refine (wpIn_wide (n := 8)).1 ?_
  refine wpIn_rangeFunc fun fn hfn => ?_
  obtain ⟨W1, hW1⟩ : ∃ W1, (w.alloc (.deferred (some []))).alloc (.loop (lrec fn a ps assign body w.heap.size .ready none)) = W1 := ⟨_, rfl⟩
  have l1 : W1.heap[w.heap.size + 1]? = some (.loop (lrec fn a ps assign body w.heap.size .ready none)) := by
    have := World.alloc_heap_new (w.alloc (.deferred (some []))) (.loop (lrec fn a ps assign body w.heap.size .ready none))
    rw [World.size_alloc, hW1] at this
    exact this
  have k1 : W1.heap[w.heap.size]? = some (.deferred (some [])) := by rw [← hW1]; exact (Below.heap_alloc _ _ _ (by simp)).trans (World.alloc_heap_new w _)
  have s1 : W1.heap.size = w.heap.size + 2 := by rw [← hW1]; simp
  have kW : Kp w W1 Nul := by rw [← hW1]; exact ((Kp.refl w Nul).alloc _).alloc _
  refine ⟨w.heap.size + 1, [{ target := .collected w.heap.size, args := #[] }], W1, { target := .fn (.func gf) lb, args := #[.func (.yield (w.heap.size + 1)) #[] #[]] }, W1, gf, #[.func (.yield (w.heap.size + 1)) #[] #[]] ++ lb, W1, ?_, ?_, fun f' _ => trivial, ?_, fun _ => by decide, ?_⟩
  · rw [← hW1]; exact run_enterLoop_outer _ _ _ _ _
  · simp only [resolve, hg]
    simp [go_sem]
  · simp [invoke, go_sem, eg]
  · have hkeep : ∀ {A B : World} {o : Obj} {i : Nat}, Kp A B Nul → A.heap[i]? = some o → B.heap[i]? = some o := fun h e => (h.block _ (Array.getElem?_eq_some_iff.1 e).1 (fun x => x)).trans e
    refine callsIn_wide.2 ((hseq
      (fun k Z W => I k Z W ∧ W.heap[w.heap.size + 1]? = some (.loop (lrec fn a ps assign body w.heap.size .ready none)) ∧ W.heap[w.heap.size]? = some (.deferred (some [])))
      Z0 W1 kW (by omega)
      (fun k Z A B h hk => ⟨hI k Z A B h.1 hk.of_nul, hkeep hk h.2.1, hkeep hk h.2.2⟩)
      (fun k Z A h => hZl k Z A h.1)
      (fun m k x Z W hkN h ht => by
        obtain ⟨fn', tms, asg, bo, y1, y2⟩ := round_own (n := 8) (P := P) hfn hps T I hZ hI hround k x Z W hkN h.1 ht h.2.1 h.2.2
        exact ⟨fn', tms, asg, bo, y1, roundIn_any y2⟩)
      ⟨hI 0 Z0 w W1 h0 kW.of_nul, l1, k1⟩).mono ?_)
    rintro e W2 ⟨⟨v, rfl⟩, Z, hi, hl, hk⟩
    exact ⟨none, _, run_endLoop (P := P) hl (by simp [lrec]), hdone _ Z _ (Nat.le_refl _) (hI _ _ _ _ hi (putObj_self.mono (fun i _ e => .inr e))) ((World.putObj_heap_other (by omega)).trans hk)⟩
end
end Go.Proofs.YtbkcebbddhaifaaGreatDoor
