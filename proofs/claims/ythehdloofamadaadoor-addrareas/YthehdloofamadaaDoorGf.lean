/- A range over a function whose own variables lie in blocks that it writes between two rounds: what the iterator must keep, and the law for its caller. No function of the program here. -/
import Derived.Test.YthehdloofamadaaDoorLa
namespace Go.Proofs.YthehdloofamadaaDoor
open Go.RowKit Go.Shelf

/-- It abides new blocks and any turn of one block at or beyond B. -/
def Far {β : Type} (B : Nat) (J : β → World → Prop) : Prop :=
  ∀ s W W' row, J s W → W.grownBy W' row → (∀ r, row = some r → B ≤ r) → J s W'
theorem Far.own {β : Type} {B : Nat} {J : β → World → Prop} (h : Far B J) : OwnFrom B J := fun s W W' row hs hg hr => h s W W' row hs hg (fun r e => (hr r e).1)
theorem Far.and {β : Type} {B : Nat} {J J' : β → World → Prop} (h : Far B J) (h' : Far B J') : Far B (fun s W => J s W ∧ J' s W) := fun s W W' row hs hg hr => ⟨h s W W' row hs.1 hg hr, h' s W W' row hs.2 hg hr⟩
theorem far_pure {β : Type} (B : Nat) (p : β → Prop) : Far B (fun s (_ : World) => p s) := fun _ _ _ _ hs _ _ => hs
theorem far_below {β : Type} {n₀ B : Nat} {w₀ : World} (hn : n₀ ≤ w₀.heap.size) (hB : n₀ ≤ B) : Far B (fun (_ : β) W => Below n₀ w₀ W) := fun _ W W' row hs hg hr =>
  ⟨hg.os.trans hs.os, hg.tape.trans hs.tape, hg.output.trans hs.output, Nat.le_trans hs.size hg.size, fun k hk => by
    have hk' : k < W.heap.size := by have := hs.size; omega
    exact (hg.block k hk' (fun e => by have := hr k e.symm; omega)).trans (hs.block k hk)⟩
theorem far_block {W W' : World} {row : Option Nat} {B b : Nat} {o : Obj} (h : W.heap[b]? = some o) (hb : b < B) (hg : W.grownBy W' row) (hr : ∀ r, row = some r → B ≤ r) : W'.heap[b]? = some o :=
  (hg.block b (Array.getElem?_eq_some_iff.1 h).1 (fun e => by have := hr b e.symm; omega)).trans h
theorem far_obj {β : Type} {B b : Nat} (o : β → Obj) (hb : b < B) : Far B (fun s W => W.heap[b]? = some (o s)) := fun _ _ _ _ hs hg hr => far_block hs hb hg hr
/-- What the value does when it is ranged over: as SeqStopsK, for bodies that keep their word whatever the iterator does to its own blocks. -/
def SeqFar {α : Type} (n : Nat) (P : Program) (g : Nat) (lb : Array Value) (encs : α → Array Value) (Kp : World → World → Prop) (S Sp : List α → Prop) (N : Nat) (w : World) : Prop :=
  ∀ (l : Nat) (J Jx : List α → World → Prop) (W : World), Below w.heap.size w W → Far W.heap.size J → Far W.heap.size Jx →
    (∀ pre x W1, J pre W1 → pre.length < N → YieldAt Fence.wide (n - 1) P l (encs x) W1 fun e W' =>
      (e = .returned (.bool true) ∧ J (pre ++ [x]) W' ∧ Kp W1 W') ∨ (e = .returned (.bool false) ∧ Jx (pre ++ [x]) W')) →
    J [] W →
    CallsIn Fence.wide n P g (#[.func (.yield l) #[] #[]] ++ lb) W fun e W' => (∃ v, e = .returned v) ∧ ((∃ xs, S xs ∧ J xs W') ∨ (∃ pre, Sp pre ∧ Jx pre W'))

section
variable {n : Nat} {P : Program} {α : Type} {g : Operand} {ps : Array Tmp} {assign body : Code} {Q : Exit → Act → World → Prop} {a : Act} {w : World}
/-- The loop's record. -/
def lrec (fn : FuncId) (a : Act) (ps : Array Tmp) (assign body : Code) (d : Nat) (st : LoopState) (pe : Option Code) : Loop := { state := st, pending := pe, fn, tmps := a.tmps, params := ps, assign, body, defers := d }

/-- One round. -/
theorem round_far {encs : α → Array Value} {Kp : World → World → Prop} {N : Nat} {fn : FuncId} (hfn : Fence.wide.fn fn)
    (hKt : ∀ {A B C : World}, Kp A B → Kp B C → Kp A C) (hKb : ∀ (W : World) (l : Nat) (o o' : Obj), w.heap.size ≤ l → W.heap[l]? = some o → o.isCells = false → o.isWalk = false → Kp W (W.putObj l o')) (hps : ∀ x, (encs x).size = ps.size)
    (I : List α → World → Prop) (Ix : Code → List α → World → Prop) (hI : Far w.heap.size I) (hIx : ∀ c, Far w.heap.size (Ix c)) (Ax : α → Act → World → Prop) (hAx : ∀ x a', OwnFrom w.heap.size (fun (_ : Unit) W => Ax x a' W))
    (hassign : ∀ (l : Nat) (pre : List α) (x : α) (W : World) (K : Act → World → Prop), I pre W → (∀ a' W', KeepsFrom w.heap.size W W' → Kp W W' → I pre W' → Ax x a' W' → K a' W') →
      assign.wpIn (Fence.wide.inRound l) (n - 1 - 1) P (Exit.then K (fun _ _ _ => False)) { tmps := (ps.zip (encs x)).foldl (fun t (p, v) => t.setIfInBounds p v) a.tmps, defers := [] } W)
    (hbody : ∀ (l : Nat) (pre : List α) (x : α) (a' : Act) (W : World), w.heap.size ≤ l → I pre W → Ax x a' W → pre.length < N → body.wpIn (Fence.wide.inRound l) (n - 1 - 1) P (ownPostG w.heap.size Kp I Ix (pre ++ [x]) W) a' W)
    (pre : List α) (x : α) (W : World) (hi : I pre W) (hl : W.heap[w.heap.size + 1]? = some (.loop (lrec fn a ps assign body w.heap.size .ready none))) (hk : W.heap[w.heap.size]? = some (.deferred (some []))) (hlen : pre.length < N) :
    YieldAt Fence.wide (n - 1 - 1) P (w.heap.size + 1) (encs x) W fun e W' =>
      (e = .returned (.bool true) ∧ (I (pre ++ [x]) W' ∧ W'.heap[w.heap.size + 1]? = some (.loop (lrec fn a ps assign body w.heap.size .ready none)) ∧ W'.heap[w.heap.size]? = some (.deferred (some []))) ∧ Kp W W') ∨
      (e = .returned (.bool false) ∧ ∃ c, Ix c (pre ++ [x]) W' ∧ W'.heap[w.heap.size + 1]? = some (.loop (lrec fn a ps assign body w.heap.size .done (some c))) ∧ W'.heap[w.heap.size]? = some (.deferred (some []))) := by
  have hy := run_yield (P := P) (args := encs x) hl (hps x)
  refine ⟨fn, _, assign, body, hy, roundIn_of_wpIn hfn (hassign _ pre x W _ hi ?_)⟩
  clear hy
  intro a' V hkf hkp hiV hax
  have vl := hkf.same _ _ (by omega) hl rfl
  have vk := hkf.same _ _ (Nat.le_refl _) hk rfl
  have hlt : w.heap.size + 1 < V.heap.size := (Array.getElem?_eq_some_iff.1 vl).1
  refine ⟨_, run_beginRound vl rfl, ?_⟩
  obtain ⟨bz, hbz⟩ : ∃ bz : Loop, { lrec fn a ps assign body w.heap.size .ready none with state := .busy } = bz := ⟨_, rfl⟩
  obtain ⟨U, hU⟩ : ∃ U, V.putObj (w.heap.size + 1) (.loop bz) = U := ⟨_, rfl⟩
  rw [hbz, hU]
  have ul : U.heap[w.heap.size + 1]? = some (.loop bz) := by rw [← hU]; exact World.putObj_heap_same hlt
  have uk : U.heap[w.heap.size]? = some (.deferred (some [])) := by rw [← hU]; exact (World.putObj_heap_other (by omega)).trans vk
  have hVU : Kp V U := by rw [← hU]; exact hKb _ _ _ _ (by omega) vl rfl rfl
  have uI : I pre U := by rw [← hU]; exact hI.own.putObj _ hiV (by omega) vl rfl
  have uA : Ax x a' U := by rw [← hU]; exact (hAx x a').putObj (s := ()) _ hax (by omega) vl rfl
  refine wpIn_mono (hbody _ pre x a' U (by omega) uI uA hlen) ?_
  have leave : ∀ (jump : Option Code) (X : World), KeepsFrom w.heap.size U X →
      (Instr.endRound (w.heap.size + 1) jump).run P X = .ok (.bool jump.isNone) (X.putObj (w.heap.size + 1) (.loop (lrec fn a ps assign body w.heap.size (if jump.isNone then .ready else .done) jump))) ∧
      X.heap[w.heap.size + 1]? = some (.loop bz) ∧
      (X.putObj (w.heap.size + 1) (.loop (lrec fn a ps assign body w.heap.size (if jump.isNone then .ready else .done) jump))).heap[w.heap.size + 1]? = some (.loop (lrec fn a ps assign body w.heap.size (if jump.isNone then .ready else .done) jump)) ∧
      (X.putObj (w.heap.size + 1) (.loop (lrec fn a ps assign body w.heap.size (if jump.isNone then .ready else .done) jump))).heap[w.heap.size]? = some (.deferred (some [])) := by
    intro jump X hX
    have xl := hX.same _ _ (by omega) ul rfl
    refine ⟨?_, xl, World.putObj_heap_same (Array.getElem?_eq_some_iff.1 xl).1, (World.putObj_heap_other (by omega)).trans (hX.same _ _ (Nat.le_refl _) uk rfl)⟩
    have := run_endRound (P := P) jump xl
    rw [← hbz] at this
    exact this
  rintro e a3 X hp
  cases e with
  | normal =>
    obtain ⟨q1, q2, q3⟩ := hp
    obtain ⟨r1, r2, r3, r4⟩ := leave none X q1
    exact ⟨_, _, r1, .inl ⟨rfl, ⟨hI.own.putObj _ q3 (by omega) r2 rfl, r3, r4⟩, hKt hkp (hKt hVU (hKt q2 (hKb _ _ _ _ (by omega) r2 rfl rfl)))⟩⟩
  | ret =>
    obtain ⟨q1, q3⟩ := hp
    obtain ⟨r1, r2, r3, r4⟩ := leave (some .ret) X q1
    exact ⟨_, _, r1, .inr ⟨rfl, _, (hIx _).own.putObj _ q3 (by omega) r2 rfl, r3, r4⟩⟩
  | exit id =>
    obtain ⟨q1, q3⟩ := hp
    obtain ⟨r1, r2, r3, r4⟩ := leave (some (.exit id)) X q1
    exact ⟨_, _, r1, .inr ⟨rfl, _, (hIx _).own.putObj _ q3 (by omega) r2 rfl, r3, r4⟩⟩
  | goto t =>
    obtain ⟨q1, q3⟩ := hp
    obtain ⟨r1, r2, r3, r4⟩ := leave (some (.goto t)) X q1
    exact ⟨_, _, r1, .inr ⟨rfl, _, (hIx _).own.putObj _ q3 (by omega) r2 rfl, r3, r4⟩⟩
  | panic ch => exact hp.elim
  | outgrown => exact hp.elim

/-- The caller's law. -/
theorem wpIn_range_far (h1 : 1 ≤ n) {gf : Nat} {lb : Array Value} (hg : a.eval g = .func (.func gf) #[] lb) (eg : ∀ args w, (callFunc gf args).run P w = .ok (.enter gf args) w)
    {encs : α → Array Value} {Kp : World → World → Prop} {S Sp : List α → Prop} {N : Nat} (hseq : SeqFar (n - 1) P gf lb encs Kp S Sp N w)
    (hKt : ∀ {A B C : World}, Kp A B → Kp B C → Kp A C) (hKb : ∀ (W : World) (l : Nat) (o o' : Obj), w.heap.size ≤ l → W.heap[l]? = some o → o.isCells = false → o.isWalk = false → Kp W (W.putObj l o')) (hps : ∀ x, (encs x).size = ps.size)
    (I : List α → World → Prop) (Ix : Code → List α → World → Prop) (hI : Far w.heap.size I) (hIx : ∀ c, Far w.heap.size (Ix c)) (h0 : I [] w) (Ax : α → Act → World → Prop) (hAx : ∀ x a', OwnFrom w.heap.size (fun (_ : Unit) W => Ax x a' W))
    (hassign : ∀ (l : Nat) (pre : List α) (x : α) (W : World) (K : Act → World → Prop), I pre W → (∀ a' W', KeepsFrom w.heap.size W W' → Kp W W' → I pre W' → Ax x a' W' → K a' W') →
      assign.wpIn (Fence.wide.inRound l) (n - 1 - 1) P (Exit.then K (fun _ _ _ => False)) { tmps := (ps.zip (encs x)).foldl (fun t (p, v) => t.setIfInBounds p v) a.tmps, defers := [] } W)
    (hbody : ∀ (l : Nat) (pre : List α) (x : α) (a' : Act) (W : World), w.heap.size ≤ l → I pre W → Ax x a' W → pre.length < N → body.wpIn (Fence.wide.inRound l) (n - 1 - 1) P (ownPostG w.heap.size Kp I Ix (pre ++ [x]) W) a' W)
    (hdone : ∀ (D : Nat) (xs : List α) (W : World), w.heap.size ≤ D → S xs → I xs W → W.heap[D]? = some (.deferred (some [])) → Q .normal { a with defers := { target := .collected D, args := #[] } :: a.defers } W)
    (hstop : ∀ (D : Nat) (c : Code) (pre : List α) (W : World), w.heap.size ≤ D → Sp pre → Ix c pre W → W.heap[D]? = some (.deferred (some [])) → c.wpIn Fence.wide n P Q { a with defers := { target := .collected D, args := #[] } :: a.defers } W) :
    (Code.rangeFunc g ps assign body).wpIn Fence.wide n P Q a w := by
  refine wpIn_rangeFunc fun fn hfn => ?_
  obtain ⟨W1, hW1⟩ : ∃ W1, (w.alloc (.deferred (some []))).alloc (.loop (lrec fn a ps assign body w.heap.size .ready none)) = W1 := ⟨_, rfl⟩
  have l1 : W1.heap[w.heap.size + 1]? = some (.loop (lrec fn a ps assign body w.heap.size .ready none)) := by
    have := World.alloc_heap_new (w.alloc (.deferred (some []))) (.loop (lrec fn a ps assign body w.heap.size .ready none))
    rw [World.size_alloc, hW1] at this
    exact this
  have k1 : W1.heap[w.heap.size]? = some (.deferred (some [])) := by rw [← hW1]; exact (Below.heap_alloc _ _ _ (by simp)).trans (World.alloc_heap_new w _)
  have s1 : W1.heap.size = w.heap.size + 2 := by rw [← hW1]; simp
  refine ⟨w.heap.size + 1, [{ target := .collected w.heap.size, args := #[] }], W1, { target := .fn (.func gf) lb, args := #[.func (.yield (w.heap.size + 1)) #[] #[]] }, W1, gf, #[.func (.yield (w.heap.size + 1)) #[] #[]] ++ lb, W1, ?_, ?_, fun f' _ => trivial, ?_, fun _ => h1, ?_⟩
  · rw [← hW1]; exact run_enterLoop_outer _ _ _ _ _
  · simp only [resolve, hg]
    simp [go_sem]
  · simp [invoke, go_sem, eg]
  · have hfar : ∀ {A : World} {row : Option Nat}, (∀ r, row = some r → W1.heap.size ≤ r) → ∀ r, row = some r → w.heap.size ≤ r := fun hr r e => by have := hr r e; omega
    refine (hseq (w.heap.size + 1)
      (fun pre W => I pre W ∧ W.heap[w.heap.size + 1]? = some (.loop (lrec fn a ps assign body w.heap.size .ready none)) ∧ W.heap[w.heap.size]? = some (.deferred (some [])))
      (fun pre W => ∃ c, Ix c pre W ∧ W.heap[w.heap.size + 1]? = some (.loop (lrec fn a ps assign body w.heap.size .done (some c))) ∧ W.heap[w.heap.size]? = some (.deferred (some [])))
      W1 (by rw [← hW1]; exact ((Below.refl _ w).alloc (Nat.le_refl _) _).alloc (by simp) _)
      (fun s A B row hs hg' hr => ⟨hI s A B row hs.1 hg' (fun r e => by have := hr r e; omega), far_block hs.2.1 (by omega) hg' hr, far_block hs.2.2 (by omega) hg' hr⟩)
      (fun s A B row hs hg' hr => by
        obtain ⟨c, hc, hl, hk⟩ := hs
        exact ⟨c, hIx c s A B row hc hg' (fun r e => by have := hr r e; omega), far_block hl (by omega) hg' hr, far_block hk (by omega) hg' hr⟩)
      (fun pre x W h hlen => round_far (n := n) (P := P) (Kp := Kp) hfn hKt hKb hps I Ix hI hIx Ax hAx hassign hbody pre x W h.1 h.2.1 h.2.2 hlen)
      ⟨by rw [← hW1]; exact hI.own.alloc _ (hI.own.alloc _ h0), l1, k1⟩).mono ?_
    rintro e W2 ⟨⟨v, rfl⟩, (⟨xs, hS, hi, hl, hk⟩ | ⟨pre, hSp, c, hi, hl, hk⟩)⟩
    · exact ⟨none, _, run_endLoop (P := P) hl (by simp [lrec]), hdone _ xs _ (Nat.le_refl _) hS (hI.own.putObj _ hi (by omega) hl rfl) ((World.putObj_heap_other (by omega)).trans hk)⟩
    · exact ⟨some c, _, run_endLoop (P := P) hl (by simp [lrec]), hstop _ c pre _ (Nat.le_refl _) hSp ((hIx c).own.putObj _ hi (by omega) hl rfl) ((World.putObj_heap_other (by omega)).trans hk)⟩
end
end Go.Proofs.YthehdloofamadaaDoor
