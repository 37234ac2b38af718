/- A range over a function whose rounds know what they are told, the iterator writing blocks of its own; formula's goOver, told in order. By wip/gen_told.py out of wip/grid/Qr. formula.Nodes, the law's nodes; what goes over a formula's nodes. What goes over a formula's nodes (Nodes' own function) tells them in order, each without its parts. The law's faults. The law's lost: faults of all formulas of a grid. A range over a function whose rounds may write what they are handed besides, and may leave by return: wip/move/Mvi, by wip/gen_ow3.py. No function of the program here. Grid.In's own function, for rounds that may leave by return: wip/move/Mvj, by wip/gen_ow3.py. A range over a function within a round of another one: its rounds know what they are told, and may leave by return. No function of the program here. The law's low: has an area of a formula of a grid one of the last lines? -/
import Derived.Test.YtbkcebbddhaifaaGreatDoorC19
import Derived.Test.YtbkcebbddhaifaaGreatDoorD1
import Derived.Test.YtbkcebbddhaifaaGreatDoorC53
import Derived.Test.YtbkcebbddhaifaaGreatDoorD3
import Derived.Test.YtbkcebbddhaifaaGreatDoorC36
import Derived.Test.YtbkcebbddhaifaaGreatDoorC49
namespace Go.Proofs.YtbkcebbddhaifaaGreatDoor
open Go.RowKit Go.Shelf
attribute [local go_sem] Oper.semAt_some

mutual
/-- The nodes of a tree, each ahead of those below it. -/
def preN : Nd → List Hd
  | .mk h ts => h :: preL ts
def preL : List Nd → List Hd
  | [] => []
  | t :: ts => preN t ++ preL ts
end
mutual
theorem preN_len : ∀ t : Nd, (preN t).length = t.size
  | .mk h ts => by rw [preN, Nd.size, List.length_cons, preL_len ts]; omega
theorem preL_len : ∀ ts : List Nd, (preL ts).length = sizeL ts
  | [] => by rw [preL, sizeL]; rfl
  | t :: ts => by rw [preL, sizeL, List.length_append, preN_len t, preL_len ts]
end
theorem preL_get : ∀ (ts : List Nd) (q i : Nat), (hq : q < ts.length) → i < (ts[q]).size → (preL ts)[sizeL (ts.take q) + i]? = (preN ts[q])[i]?
  | [], q, i, hq, _ => by simp at hq
  | t :: ts, 0, i, _, hi => by
    rw [preL, List.take_zero, sizeL, Nat.zero_add, List.getElem?_append_left (by rw [preN_len]; exact hi)]
    rfl
  | t :: ts, q + 1, i, hq, hi => by
    rw [preL, List.take_succ_cons, sizeL, List.getElem?_append_right (by rw [preN_len]; omega), preN_len]
    rw [show t.size + sizeL (ts.take q) + i - t.size = sizeL (ts.take q) + i by omega]
    exact preL_get ts q i (by simpa using hq) hi
/-- The tree's nodes stand in the list from place k on. -/
def PreAt (PL : List Hd) (k : Nat) (t : Nd) : Prop := ∀ i, i < t.size → PL[k + i]? = (preN t)[i]?
theorem PreAt.head {PL : List Hd} {k : Nat} {h : Hd} {ts : List Nd} (q : PreAt PL k (.mk h ts)) : PL[k]? = some h := by
  have := q 0 (size_pos _)
  rw [preN] at this
  simpa using this
theorem PreAt.get {PL : List Hd} {k : Nat} {h : Hd} {ts : List Nd} (p : PreAt PL k (.mk h ts)) (q : Nat) (hq : q < ts.length) : PreAt PL (k + 1 + sizeL (ts.take q)) ts[q] := by
  intro i hi
  have hs : 1 + sizeL (ts.take q) + i < (Nd.mk h ts).size := by
    rw [Nd.size]
    have h1 := sizeL_take ts q hq
    have h2 := sizeL_take_le ts (q + 1)
    omega
  have := p _ hs
  rw [preN, show 1 + sizeL (ts.take q) + i = (sizeL (ts.take q) + i) + 1 by omega, List.getElem?_cons_succ, preL_get ts q i hq hi] at this
  rw [← this]
  congr 1
  omega
theorem PreAt.self (t : Nd) : PreAt (preN t) 0 t := fun i _ => by rw [Nat.zero_add]
section
variable {n : Nat} {P : Program} {α : Type} {g : Operand} {ps : Array Tmp} {assign body : Code} {Q : Exit → Act → World → Prop} {a : Act} {w : World}
/-- One round. -/
theorem round_told {encs : α → Array Value} {fn : FuncId} {N : Nat} (hfn : Fence.wide.fn fn) (hps : ∀ x, (encs x).size = ps.size) (T : Nat → α → Prop) (S : Nat → Prop) (hS : ∀ i, S i → i < w.heap.size)
    (I : Nat → World → Prop) (Ix : World → Prop) (hI : ∀ k W W', I k W → Kp W W' (fun i => w.heap.size ≤ i) → I k W') (hIx : ∀ W W', Ix W → Kp W W' (fun i => w.heap.size ≤ i) → Ix W')
    (hround : ∀ (l : Nat) (k : Nat) (x : α) (W : World) (K : Act → World → Prop), w.heap.size ≤ l → w.heap.size + 2 ≤ W.heap.size → k < N → T k x → I k W → (∀ a' W', Kp W W' Nul → (∀ V, Kp W' V (fun i => i = w.heap.size + 1) → body.wpIn (Fence.wide.inRound l) (n - 1 - 1) P (fun e _ X => (e = .normal ∧ Kp V X (fun i => S i ∨ W.heap.size ≤ i) ∧ I (k + 1) X) ∨ (e = .ret ∧ Kp V X (fun i => S i ∨ W.heap.size ≤ i) ∧ Ix X)) a' V) → K a' W') →
      assign.wpIn (Fence.wide.inRound l) (n - 1 - 1) P (Exit.then K (fun _ _ _ => False)) { tmps := (ps.zip (encs x)).foldl (fun t (p, v) => t.setIfInBounds p v) a.tmps, defers := [] } W)
    (k : Nat) (x : α) (W : World) (hkN : k < N) (htx : T k x) (hi : I k W) (hl : W.heap[w.heap.size + 1]? = some (.loop (lrec fn a ps assign body w.heap.size .ready none))) (hk : W.heap[w.heap.size]? = some (.deferred (some []))) :
    YieldAt Fence.wide (n - 1 - 1) P (w.heap.size + 1) (encs x) W fun e W' =>
      (e = .returned (.bool true) ∧ (I (k + 1) W' ∧ W'.heap[w.heap.size + 1]? = some (.loop (lrec fn a ps assign body w.heap.size .ready none)) ∧ W'.heap[w.heap.size]? = some (.deferred (some []))) ∧ Kp W W' (fun i => S i ∨ i = w.heap.size + 1)) ∨
      (e = .returned (.bool false) ∧ (Ix W' ∧ W'.heap[w.heap.size + 1]? = some (.loop (lrec fn a ps assign body w.heap.size .done (some .ret))) ∧ W'.heap[w.heap.size]? = some (.deferred (some []))) ∧ Kp W W' (fun i => S i ∨ i = w.heap.size + 1)) := by
  have hy := run_yield (P := P) (args := encs x) hl (hps x)
  refine ⟨fn, _, assign, body, hy, roundIn_of_wpIn hfn (hround _ k x W _ (Nat.le_succ _) (Array.getElem?_eq_some_iff.1 hl).1 hkN htx hi ?_)⟩
  clear hy
  intro a' V hkp hbody
  have hWl : w.heap.size + 1 < W.heap.size := (Array.getElem?_eq_some_iff.1 hl).1
  have vl := (hkp.block _ hWl (fun x => x)).trans hl
  have vk := (hkp.block _ (by omega) (fun x => x)).trans hk
  have hlt : w.heap.size + 1 < V.heap.size := (Array.getElem?_eq_some_iff.1 vl).1
  refine ⟨_, run_beginRound vl rfl, ?_⟩
  obtain ⟨bz, hbz⟩ : ∃ bz : Loop, { lrec fn a ps assign body w.heap.size .ready none with state := .busy } = bz := ⟨_, rfl⟩
  obtain ⟨U, hU⟩ : ∃ U, V.putObj (w.heap.size + 1) (.loop bz) = U := ⟨_, rfl⟩
  rw [hbz, hU]
  have ul : U.heap[w.heap.size + 1]? = some (.loop bz) := by rw [← hU]; exact World.putObj_heap_same hlt
  have uk : U.heap[w.heap.size]? = some (.deferred (some [])) := by rw [← hU]; exact (World.putObj_heap_other (by omega)).trans vk
  have hVU : Kp V U (fun i => i = w.heap.size + 1) := by rw [← hU]; exact putObj_self
  refine wpIn_mono (hbody U hVU) ?_
  have leave : ∀ (jump : Option Code) (X : World), Kp U X (fun i => S i ∨ W.heap.size ≤ i) →
      (Instr.endRound (w.heap.size + 1) jump).run P X = .ok (.bool jump.isNone) (X.putObj (w.heap.size + 1) (.loop (lrec fn a ps assign body w.heap.size (if jump.isNone then .ready else .done) jump))) ∧
      (X.putObj (w.heap.size + 1) (.loop (lrec fn a ps assign body w.heap.size (if jump.isNone then .ready else .done) jump))).heap[w.heap.size + 1]? = some (.loop (lrec fn a ps assign body w.heap.size (if jump.isNone then .ready else .done) jump)) ∧
      (X.putObj (w.heap.size + 1) (.loop (lrec fn a ps assign body w.heap.size (if jump.isNone then .ready else .done) jump))).heap[w.heap.size]? = some (.deferred (some [])) ∧ Kp X (X.putObj (w.heap.size + 1) (.loop (lrec fn a ps assign body w.heap.size (if jump.isNone then .ready else .done) jump))) (fun i => i = w.heap.size + 1) := by
    intro jump X hX
    have hUl : w.heap.size + 1 < U.heap.size := (Array.getElem?_eq_some_iff.1 ul).1
    have xl := (hX.block _ hUl (fun h => by rcases h with h | h; have := hS _ h; omega; omega)).trans ul
    have xk := (hX.block _ (by omega) (fun h => by rcases h with h | h; have := hS _ h; omega; omega)).trans uk
    refine ⟨?_, World.putObj_heap_same (Array.getElem?_eq_some_iff.1 xl).1, (World.putObj_heap_other (by omega)).trans xk, putObj_self⟩
    have := run_endRound (P := P) jump xl
    rw [← hbz] at this
    exact this
  rintro e a3 X hp
  rcases hp with ⟨rfl, q1, q2⟩ | ⟨rfl, q1, q2⟩
  · obtain ⟨r1, r2, r3, r4⟩ := leave none X q1
    refine ⟨_, _, r1, .inl ⟨rfl, ⟨hI _ _ _ q2 (r4.mono (fun i _ e => by show w.heap.size ≤ i; omega)), r2, r3⟩, ?_⟩⟩
    exact ((hkp.of_nul.trans (hVU.mono (fun i _ e => .inr e))).trans' q1 (fun i hi e => by rcases e with e | e; exact .inl e; omega)).trans (r4.mono (fun i _ e => .inr e))
  · obtain ⟨r1, r2, r3, r4⟩ := leave (some .ret) X q1
    refine ⟨_, _, r1, .inr ⟨rfl, ⟨hIx _ _ q2 (r4.mono (fun i _ e => by show w.heap.size ≤ i; omega)), r2, r3⟩, ?_⟩⟩
    exact ((hkp.of_nul.trans (hVU.mono (fun i _ e => .inr e))).trans' q1 (fun i hi e => by rcases e with e | e; exact .inl e; omega)).trans (r4.mono (fun i _ e => .inr e))
/-- The caller's law. -/
theorem wpIn_range_told (h1 : 1 ≤ n) {gf : Nat} {lb : Array Value} (hg : a.eval g = .func (.func gf) #[] lb) (eg : ∀ args w, (callFunc gf args).run P w = .ok (.enter gf args) w)
    {encs : α → Array Value} (hps : ∀ x, (encs x).size = ps.size) (T : Nat → α → Prop) (S : Nat → Prop) (hS : ∀ i, S i → i < w.heap.size) {N : Nat}
    (hseq : ∀ (J : Nat → World → Prop) (Jx : World → Prop) (W : World), Kp w W Nul → w.heap.size + 2 ≤ W.heap.size → (∀ k W W', J k W → Kp W W' (fun i => w.heap.size + 2 ≤ i) → J k W') → (∀ W W', Jx W → Kp W W' (fun i => w.heap.size + 2 ≤ i) → Jx W') →
      (∀ m k x W1, k < N → T k x → J k W1 → YieldAt Fence.wide m P (w.heap.size + 1) (encs x) W1 fun e W' => (e = .returned (.bool true) ∧ J (k + 1) W' ∧ Kp W1 W' (fun i => S i ∨ i = w.heap.size + 1)) ∨ (e = .returned (.bool false) ∧ Jx W' ∧ Kp W1 W' (fun i => S i ∨ i = w.heap.size + 1))) → J 0 W →
      Calls P gf (#[.func (.yield (w.heap.size + 1)) #[] #[]] ++ lb) W fun e W' => (∃ v, e = .returned v) ∧ (J N W' ∨ Jx W'))
    (I : Nat → World → Prop) (Ix : World → Prop) (hI : ∀ k W W', I k W → Kp W W' (fun i => w.heap.size ≤ i) → I k W') (hIx : ∀ W W', Ix W → Kp W W' (fun i => w.heap.size ≤ i) → Ix W') (h0 : I 0 w)
    (hround : ∀ (l : Nat) (k : Nat) (x : α) (W : World) (K : Act → World → Prop), w.heap.size ≤ l → w.heap.size + 2 ≤ W.heap.size → k < N → T k x → I k W → (∀ a' W', Kp W W' Nul → (∀ V, Kp W' V (fun i => i = w.heap.size + 1) → body.wpIn (Fence.wide.inRound l) (n - 1 - 1) P (fun e _ X => (e = .normal ∧ Kp V X (fun i => S i ∨ W.heap.size ≤ i) ∧ I (k + 1) X) ∨ (e = .ret ∧ Kp V X (fun i => S i ∨ W.heap.size ≤ i) ∧ Ix X)) a' V) → K a' W') →
      assign.wpIn (Fence.wide.inRound l) (n - 1 - 1) P (Exit.then K (fun _ _ _ => False)) { tmps := (ps.zip (encs x)).foldl (fun t (p, v) => t.setIfInBounds p v) a.tmps, defers := [] } W)
    (hdone : ∀ (D : Nat) (W : World), w.heap.size ≤ D → I N W → W.heap[D]? = some (.deferred (some [])) → Q .normal { a with defers := { target := .collected D, args := #[] } :: a.defers } W)
    (hstop : ∀ (D : Nat) (W : World), w.heap.size ≤ D → Ix W → W.heap[D]? = some (.deferred (some [])) → Code.ret.wpIn Fence.wide n P Q { a with defers := { target := .collected D, args := #[] } :: a.defers } W) :
    (Code.rangeFunc g ps assign body).wpIn Fence.wide n P Q a w := by
  refine wpIn_rangeFunc fun fn hfn => ?_
  obtain ⟨W1, hW1⟩ : ∃ W1, (w.alloc (.deferred (some []))).alloc (.loop (lrec fn a ps assign body w.heap.size .ready none)) = W1 := ⟨_, rfl⟩
  have l1 : W1.heap[w.heap.size + 1]? = some (.loop (lrec fn a ps assign body w.heap.size .ready none)) := by
    have := World.alloc_heap_new (w.alloc (.deferred (some []))) (.loop (lrec fn a ps assign body w.heap.size .ready none))
    rw [World.size_alloc, hW1] at this
    exact this
  have k1 : W1.heap[w.heap.size]? = some (.deferred (some [])) := by rw [← hW1]; exact (Below.heap_alloc _ _ _ (by simp)).trans (World.alloc_heap_new w _)
  have s1 : W1.heap.size = w.heap.size + 2 := by rw [← hW1]; simp
  have kW : Kp w W1 Nul := by rw [← hW1]; exact ((Kp.refl w Nul).alloc _).alloc _
  refine ⟨w.heap.size + 1, [{ target := .collected w.heap.size, args := #[] }], W1, { target := .fn (.func gf) lb, args := #[.func (.yield (w.heap.size + 1)) #[] #[]] }, W1, gf, #[.func (.yield (w.heap.size + 1)) #[] #[]] ++ lb, W1, ?_, ?_, fun f' _ => trivial, ?_, fun _ => h1, ?_⟩
  · rw [← hW1]; exact run_enterLoop_outer _ _ _ _ _
  · simp only [resolve, hg]
    simp [go_sem]
  · simp [invoke, go_sem, eg]
  · have hkeep : ∀ {A B : World} {o : Obj} {i : Nat}, Kp A B (fun i => w.heap.size + 2 ≤ i) → i < w.heap.size + 2 → A.heap[i]? = some o → B.heap[i]? = some o := fun h hi e => (h.block _ (Array.getElem?_eq_some_iff.1 e).1 (by omega)).trans e
    refine callsIn_wide.2 ((hseq
      (fun k W => I k W ∧ W.heap[w.heap.size + 1]? = some (.loop (lrec fn a ps assign body w.heap.size .ready none)) ∧ W.heap[w.heap.size]? = some (.deferred (some [])))
      (fun W => Ix W ∧ W.heap[w.heap.size + 1]? = some (.loop (lrec fn a ps assign body w.heap.size .done (some .ret))) ∧ W.heap[w.heap.size]? = some (.deferred (some [])))
      W1 kW (by omega)
      (fun k A B h hk => ⟨hI k A B h.1 (hk.mono (fun i _ e => by show w.heap.size ≤ i; have e' : w.heap.size + 2 ≤ i := e; omega)), hkeep hk (by omega) h.2.1, hkeep hk (by omega) h.2.2⟩)
      (fun A B h hk => ⟨hIx A B h.1 (hk.mono (fun i _ e => by show w.heap.size ≤ i; have e' : w.heap.size + 2 ≤ i := e; omega)), hkeep hk (by omega) h.2.1, hkeep hk (by omega) h.2.2⟩)
      (fun m k x W hkN htx h => by
        obtain ⟨fn', tms, asg, bo, y1, y2⟩ := round_told (n := n) (P := P) hfn hps T S hS I Ix hI hIx hround k x W hkN htx h.1 h.2.1 h.2.2
        exact ⟨fn', tms, asg, bo, y1, roundIn_any y2⟩)
      ⟨hI 0 w W1 h0 kW.of_nul, l1, k1⟩).mono ?_)
    rintro e W2 ⟨⟨v, rfl⟩, (⟨hi, hl, hk⟩ | ⟨hi, hl, hk⟩)⟩
    · exact ⟨none, _, run_endLoop (P := P) hl (by simp [lrec]), hdone _ _ (Nat.le_refl _) (hI _ _ _ hi (putObj_self.mono (fun i _ e => by show w.heap.size ≤ i; omega))) ((World.putObj_heap_other (by omega)).trans hk)⟩
    · exact ⟨some .ret, _, run_endLoop (P := P) hl (by simp [lrec]), hstop _ _ (Nat.le_refl _) (hIx _ _ hi (putObj_self.mono (fun i _ e => by show w.heap.size ≤ i; omega))) ((World.putObj_heap_other (by omega)).trans hk)⟩
end
set_option maxRecDepth 100000 in
set_option maxHeartbeats 8000000 in
theorem goOver_pre (l NN : Nat) (S : Nat → Prop) (PL : List Hd) (J : Nat → World → Prop) (Jx : World → Prop) (n₀ : Nat) (hS : ∀ i, S i → i < n₀) (hJ : ∀ k W W', J k W → Kp W W' Nul → J k W') (hJx : ∀ W W', Jx W → Kp W W' Nul → Jx W')
    (hY : ∀ m k (x : Hd) sl W1, k < NN → PL[k]? = some x → sl.oneCell' = true → J k W1 → YieldAt Fence.wide m Tryz.prog l #[x.val sl] W1 fun e W' => (e = .returned (.bool true) ∧ J (k + 1) W' ∧ Kp W1 W' S) ∨ (e = .returned (.bool false) ∧ Jx W'))
    (F : Nat → Prop) (hF : ∀ b, F b → ¬ S b) (N : Nat) : ∀ (t : Nd) (sl : Value) (k : Nat) (W : World), t.size ≤ N → k + t.size ≤ NN → PreAt PL k t → n₀ ≤ W.heap.size → NdIn W F sl t → J k W →
    Calls Tryz.prog 124 #[t.hd.val sl, .func (.yield l) #[] #[]] W fun e W' => (e = .returned (.bool true) ∧ J (k + t.size) W' ∧ Kp W W' S) ∨ (e = .returned (.bool false) ∧ Jx W') := by
  induction N with
  | zero => intro t sl k W h; have := size_pos t; omega
  | succ N ih =>
    intro t sl k W hN hNN hpre hW hin hj
    obtain ⟨hd, ts⟩ := t
    have hp0 : PL[k]? = some hd := hpre.head
    have HPR : Hid (PreAt PL k (.mk hd ts)) := hpre
    clear hpre
    rw [NdIn] at hin
    obtain ⟨a, c, rfl, h2, h3, h4⟩ := hin
    have hsz : Hid ((Nd.mk hd ts).size = 1 + sizeL ts) := by show _ = _; rw [Nd.size]
    have HN : Hid ((Nd.mk hd ts).size ≤ N + 1) := hN
    have HNN : Hid (k + (Nd.mk hd ts).size ≤ NN) := hNN
    have hkNN : k < NN := by have := size_pos (Nd.mk hd ts); omega
    have IH : Hid (∀ (t : Nd) (sl : Value) (k : Nat) (W : World), t.size ≤ N → k + t.size ≤ NN → PreAt PL k t → n₀ ≤ W.heap.size → NdIn W F sl t → J k W →
      Calls Tryz.prog 124 #[t.hd.val sl, .func (.yield l) #[] #[]] W fun e W' => (e = .returned (.bool true) ∧ J (k + t.size) W' ∧ Kp W W' S) ∨ (e = .returned (.bool false) ∧ Jx W')) := ih
    have HS : Hid (∀ i, S i → i < n₀) := hS
    have HJ : Hid (∀ k W W', J k W → Kp W W' Nul → J k W') := hJ
    have HJx : Hid (∀ W W', Jx W → Kp W W' Nul → Jx W') := hJx
    have HF : Hid (∀ b, F b → ¬ S b) := hF
    have HW : Hid (n₀ ≤ W.heap.size) := hW
    have hlen : ts.length ≤ 9223372036854775807 := by unfold maxLen at h3; omega
    have H4 : Hid ((ts = [] ∧ (c = 0 ∨ a ≠ none)) ∨ ∃ b o, a = some ⟨b, o, none⟩ ∧ F b ∧ NdsIn W F b o ts) := h4
    clear ih hN hNN hS hJ hJx hF hW h4 h2 h3
    generalize hn : ts.length = n at *
    have HL : Hid (ts.length = n) := hn
    have HLEN : Hid (n ≤ 9223372036854775807) := hlen
    clear hn hlen
    generalize hSS : (Nd.mk hd ts).size = SZ at *
    simp only [Nd.hd]
    obtain ⟨W0, hW0⟩ : ∃ W0, W.alloc (.cells #[.int .i64 hd.k, .int .i64 hd.o, .float .f64 hd.x, .string hd.s, .bool hd.b, .int .i64 hd.f, .int .i64 hd.c1, .int .i64 hd.r1, .bool hd.p1, .bool hd.q1, .int .i64 hd.c2, .int .i64 hd.r2, .bool hd.p2, .bool hd.q2, .slice a n c] 44) = W0 := ⟨_, rfl⟩
    have K0 : Kp W W0 Nul := by rw [← hW0]; exact (Kp.refl W Nul).alloc _
    have B0 : Blk W0 W.heap.size (hd.cells (.slice a n c)) 44 := by rw [← hW0]; exact Blk.new W (hd.cells (.slice a n c)) _
    obtain ⟨fn, tms, asg, bod, hy, hR⟩ := hY 7 k hd (.slice a n c) W0 hkNN hp0 rfl (HJ.out k W W0 hj K0)
    have HY : Hid (RoundIn Fence.wide 7 Tryz.prog l fn tms asg bod W0 _) := hR
    have HB0 : Hid (Blk W0 W.heap.size (hd.cells (.slice a n c)) 44) := B0
    have HK0 : Hid (Kp W W0 Nul) := K0
    have HW0 : Hid (W.alloc (.cells #[.int .i64 hd.k, .int .i64 hd.o, .float .f64 hd.x, .string hd.s, .bool hd.b, .int .i64 hd.f, .int .i64 hd.c1, .int .i64 hd.r1, .bool hd.p1, .bool hd.q1, .int .i64 hd.c2, .int .i64 hd.r2, .bool hd.p2, .bool hd.q2, .slice a n c] 44) = W0) := hW0
    have HR0 : Hid ((W.alloc (.cells #[.int .i64 hd.k, .int .i64 hd.o, .float .f64 hd.x, .string hd.s, .bool hd.b, .int .i64 hd.f, .int .i64 hd.c1, .int .i64 hd.r1, .bool hd.p1, .bool hd.q1, .int .i64 hd.c2, .int .i64 hd.r2, .bool hd.p2, .bool hd.q2, .slice a n c] 44)).rangeAt W.heap.size 0 (hd.cells (.slice a n c))) := by
      show World.rangeAt _ _ _ _
      rw [hW0]
      intro j v hj
      rw [cell_of_row W0 _ _ _ _ _ B0, Nat.zero_add]
      simpa using hj
    clear hR hW0 K0 B0 hj hY hkNN hp0
    refine (callsIn_wide (n := 8)).1 ?_
    refine callsIn_of_wp Tryz.func124 rfl trivial ?_ rfl
    simp only [Tryz.ntmps124, List.size_toArray, List.length_cons, List.length_nil, Nat.reduceAdd, Nat.reduceSub, Array.replicate_succ, Array.replicate_zero, List.push_toArray, List.append_toArray, List.nil_append, List.cons_append]
    gi_wp2_with (first | (refine loadIn_node rfl (.tmp 2) rfl W.heap.size 0 rfl (hd.cells (.slice a n c)) HR0.out rfl ?_) | fail)
    rw [HW0.out]
    have hy' : Sem.run Tryz.prog (Instr.yield l #[Value.agg (hd.cells (.slice a n c)).toArray]) W0 = _ := hy
    rw [hy', Oper.uponIn_round]
    clear hy hy' HR0
    refine ⟨fun _ => by decide, HY.out.mono ?_⟩
    clear HY
    rintro e w1 (⟨rfl, hj1, hk1⟩ | ⟨rfl, hx1⟩)
    case inr =>
      have HX1 : Hid (Jx w1) := hx1
      clear hx1
      gi_wp2_with (fail)
      refine bodyPost_ret (results_tmp rfl _ _ _) rfl ?_
      exact .inr ⟨rfl, HX1.out⟩
    have HJ1 : Hid (J (k + 1) w1) := hj1
    have HK1 : Hid (Kp W0 w1 S) := hk1
    have HWlt : Hid (n₀ ≤ w1.heap.size) := Nat.le_trans HW.out (Nat.le_trans HK0.out.size hk1.size)
    have HB1 : Hid (Blk w1 W.heap.size (hd.cells (.slice a n c)) 44) := HB0.out.kp hk1 (fun h => by have := HS.out _ h; have := HW.out; omega)
    have HKW : Hid (Kp W w1 S) := HK0.out.of_nul.trans hk1
    have c14 : w1.cell? ⟨W.heap.size, 14, none⟩ = some (.slice a n c) := HB1.out.cell rfl
    clear hj1 hk1
    gi_wp2_with (fail)
    clear c14
    gi_loopw [14] (fun i wr => ∃ q : Nat, q ≤ n ∧ i = .int .i64 q ∧ J (k + 1 + sizeL (ts.take q)) wr ∧ Kp w1 wr S) (fun i _ => n - (intOf i).toNat)
    case atStart => exact ⟨0, Nat.zero_le _, rfl, by simpa [sizeL] using HJ1.out, Kp.refl _ _⟩
    case round =>
      obtain ⟨q, hq, rfl, hjq, hkq⟩ := hrel
      have JQ : Hid (J (k + 1 + sizeL (ts.take q)) wr) := hjq
      have KQ : Hid (Kp w1 wr S) := hkq
      clear hjq hkq
      by_cases hlt : q < n
      · have hqt : q < ts.length := by rw [HL.out]; exact hlt
        obtain ⟨b, o, rfl, hFb, hns⟩ : ∃ b o, a = some ⟨b, o, none⟩ ∧ F b ∧ NdsIn W F b o ts := by
          rcases H4.out with h | h
          · rw [h.1] at hqt; simp at hqt
          · exact h
        obtain ⟨s1, hr, hni⟩ := hns.get q hqt
        have hkw : Kp W wr S := HKW.out.trans KQ.out
        have HR : Hid (wr.rangeAt b (o + q * 15) ((ts[q]).hd.cells s1)) := rangeAt_block hr (hkw.block b (rangeAt_lt hr) (HF.out b hFb))
        have hni' := hni.kp hkw HF.out
        have O1 : Hid (s1.oneCell' = true) := hni.one
        have hs1 := size_get ts q hqt
        have hs2 := sizeL_take ts q hqt
        have hs3 := sizeL_take_le ts (q + 1)
        have HC : Hid (∀ wq, Kp wr wq Nul → Calls Tryz.prog 124 #[(ts[q]).hd.val s1, .func (.yield l) #[] #[]] wq fun e W' => (e = .returned (.bool true) ∧ J (k + 1 + sizeL (ts.take q) + (ts[q]).size) W' ∧ Kp wq W' S) ∨ (e = .returned (.bool false) ∧ Jx W')) := fun wq hq => IH.out ts[q] s1 _ wq (by have := HN.out; have := hsz.out; omega) (by have := HNN.out; have := hsz.out; omega) (HPR.out.get q hqt) (Nat.le_trans HWlt.out (Nat.le_trans KQ.out.size hq.size)) (hni'.kp hq (fun _ _ x => x)) (HJ.out _ _ _ JQ.out hq)
        have hA : Hid (sizeL (ts.take (q + 1)) = sizeL (ts.take q) + (ts[q]).size) := sizeL_take ts q hqt
        clear hs1 hs2 hs3 hni hni' hr hns hkw
        generalize (ts[q]).size = z at *
        generalize (ts[q]).hd = hh at *
        have hkb : (q : Int) + 1 ≤ 9223372036854775807 := by have := HLEN.out; omega
        have hq0 : (0 : Int) ≤ (q : Int) := by omega
        have hqn : (q : Int) < (n : Int) := by omega
        have HRn : Hid ((wr.alloc (.cells (hh.cells s1).toArray 44)).rangeAt wr.heap.size 0 (hh.cells s1)) := by
          show World.rangeAt _ _ _ _
          intro j v hj
          rw [cell_of_row _ _ _ _ _ _ (heap_alloc_new _ _), Nat.zero_add]
          simpa using hj
        gi_wp2_with (first | (refine loadIn_node rfl (.tmp 16) rfl b (o + q * 15) rfl (hh.cells s1) HR.out rfl ?_) | (refine storeIn_new rfl (.tmp 6) (.tmp 17) rfl _ _ _ _ (by first | rfl | simp) rfl rfl rfl rfl (hh.one O1.out) ?_) | (refine loadIn_node rfl (.tmp 6) rfl wr.heap.size 0 rfl (hh.cells s1) HRn.out rfl ?_) | fail)
        refine ⟨trivial, (callsIn_wide.2 (HC.out _ ((Kp.refl _ _).alloc _))).mono ?_⟩
        rintro e w2 (⟨rfl, hj2, hk2⟩ | ⟨rfl, hx2⟩)
        · have HJ2 : Hid (J (k + 1 + sizeL (ts.take (q + 1))) w2) := by show J _ _; rw [hA.out, ← Nat.add_assoc]; exact hj2
          have HK2 : Hid (Kp w1 w2 S) := (KQ.out.alloc _).trans hk2
          clear hj2 hk2 HC HR HRn
          gi_wp2_with (fail)
          exact ⟨⟨q + 1, by omega, by go_num, HJ2.out, HK2.out⟩, by simp only [intOf]; omega⟩
        · have HX2 : Hid (Jx w2) := hx2
          clear hx2 HC HR HRn
          gi_wp2_with (fail)
          refine bodyPost_ret (results_tmp rfl _ _ _) rfl ?_
          exact .inr ⟨rfl, HX2.out⟩
      · have hqe : q = n := by omega
        subst hqe
        have hqn : ¬ ((q : Int) < (q : Int)) := by omega
        have JE : Hid (J (k + SZ) wr) := by
          have := JQ.out
          rw [← HL.out, List.take_length] at this
          show J _ _
          rw [hsz.out, ← Nat.add_assoc]; exact this
        gi_wp2_with (fail)
        refine bodyPost_ret (results_tmp rfl _ _ _) rfl ?_
        exact .inl ⟨rfl, JE.out, HKW.out.trans KQ.out⟩
set_option maxRecDepth 100000 in
set_option maxHeartbeats 8000000 in
theorem each1_pre (l NN : Nat) (S : Nat → Prop) (PL : List Hd) (J : Nat → World → Prop) (Jx : World → Prop) (n₀ : Nat) (hS : ∀ i, S i → i < n₀) (hJ : ∀ k W W', J k W → Kp W W' Nul → J k W') (hJx : ∀ W W', Jx W → Kp W W' Nul → Jx W')
    (hY : ∀ m k (x : Hd) sl W1, k < NN → PL[k]? = some x → sl.oneCell' = true → J k W1 → YieldAt Fence.wide m Tryz.prog l #[x.val sl] W1 fun e W' => (e = .returned (.bool true) ∧ J (k + 1) W' ∧ Kp W1 W' S) ∨ (e = .returned (.bool false) ∧ Jx W'))
    (F : Nat → Prop) (hF : ∀ b, F b → ¬ S b) (t : Nd) (sl : Value) (k nb : Nat) (W : World) (hNN : k + t.size ≤ NN) (hpre : PreAt PL k t) (hW : n₀ ≤ W.heap.size) (hin : NdIn W F sl t) (hj : J k W) (hb : Blk W nb (t.hd.cells sl) 44) :
    Calls Tryz.prog 123 #[.func (.yield l) #[] #[], .pointer (some ⟨nb, 0, none⟩)] W fun e W' => (∃ v, e = .returned v) ∧ (J (k + t.size) W' ∨ Jx W') := by
  have HC : Hid (Calls Tryz.prog 124 #[t.hd.val sl, .func (.yield l) #[] #[]] W fun e W' => (e = .returned (.bool true) ∧ J (k + t.size) W' ∧ Kp W W' S) ∨ (e = .returned (.bool false) ∧ Jx W')) := goOver_pre l NN S PL J Jx n₀ hS hJ hJx hY F hF t.size t sl k W (Nat.le_refl _) hNN hpre hW hin hj
  have HB : Hid (W.heap[nb]? = some (.cells (t.hd.cells sl).toArray 44 (0, 0))) := hb
  clear hS hJ hJx hY hF hW hin hj hb hNN hpre
  generalize t.size = z at *
  generalize t.hd = h at *
  go_enter Tryz.func123, Tryz.ntmps123
  go_wp2_with (first | (refine load_node_law rfl (.tmp 1) rfl nb rfl (h.cells sl).toArray HB.out rfl ?_) | fail)
  refine HC.out.mono ?_
  rintro e w1 (⟨rfl, hj1, _⟩ | ⟨rfl, hx1⟩)
  · have HJ1 : Hid (J (k + z) w1) := hj1
    clear hj1
    go_wp2_with fail
    go_end0
    exact ⟨⟨_, rfl⟩, .inl HJ1.out⟩
  · have HJ1 : Hid (Jx w1) := hx1
    clear hx1
    go_wp2_with fail
    go_end0
    exact ⟨⟨_, rfl⟩, .inr HJ1.out⟩
end Go.Proofs.YtbkcebbddhaifaaGreatDoor
namespace Go.Proofs.YtbkcebbddhaifaaGreatDoor
open Go.RowKit Go.Shelf
attribute [local go_sem] Oper.semAt_some

/-- What Nodes keeps: a copy of the formula, in memory of its own. -/
structure NdsK (w w' : World) (t : Nd) (nb : Nat) (sl : Value) (fp : List Nat) : Prop where
  blk : Blk w' nb ((cpy t).hd.cells sl) 44
  own : Own w' w.heap.size sl (cpy t) fp
  new : w.heap.size ≤ nb
  ne : nb ∉ fp
  kp : Kp w w' Nul
set_option maxRecDepth 20000 in
set_option maxHeartbeats 4000000 in
theorem fNodes_at (t : Nd) (sl : Value) (F : Nat → Prop) (w : World) (hsz : t.size ≤ 1048576) (hok : t.ok) (hin : NdIn w F sl t) : Calls Tryz.prog 35 #[t.hd.val sl] w fun e w' => ∃ nb sl' fp, e = .returned (.func (.func 73) #[] #[.pointer (some ⟨nb, 0, none⟩)]) ∧ NdsK w w' t nb sl' fp := by
  obtain ⟨W1, hW1⟩ : ∃ W1, w.alloc (.cells (t.hd.cells sl).toArray 44) = W1 := ⟨_, rfl⟩
  have k1 : Kp w W1 Nul := by rw [← hW1]; exact (Kp.refl w Nul).alloc _
  have b1 : Blk W1 w.heap.size (t.hd.cells sl) 44 := by rw [← hW1]; exact Blk.new w _ _
  have HW1 : Hid (w.alloc (.cells #[.int .i64 t.hd.k, .int .i64 t.hd.o, .float .f64 t.hd.x, .string t.hd.s, .bool t.hd.b, .int .i64 t.hd.f, .int .i64 t.hd.c1, .int .i64 t.hd.r1, .bool t.hd.p1, .bool t.hd.q1, .int .i64 t.hd.c2, .int .i64 t.hd.r2, .bool t.hd.p2, .bool t.hd.q2, sl] 44) = W1) := hW1
  have HK1 : Hid (Kp w W1 Nul) := k1
  have HBn : Hid (W1.heap[w.heap.size]? = some (.cells (t.hd.cells sl).toArray 44 (0, 0))) := b1
  have HCp : Hid (∀ wq, Kp w wq Nul → Calls Tryz.prog 12 #[t.hd.val sl] wq fun e w' => ∃ sl' fp, e = .returned ((cpy t).hd.val sl') ∧ Own w' wq.heap.size sl' (cpy t) fp ∧ Kp wq w' Nul) := fun wq k => (copy_at t sl F wq hsz hok (hin.kp k (fun _ _ x => x))).mono (by
    rintro e w' ⟨sl', fp, h1, h2, h3⟩
    exact ⟨sl', fp, h1, h2, Kp.of_below h3⟩)
  have HEND : Hid (∀ w2 sl' fp, Own w2 W1.heap.size sl' (cpy t) fp → Kp W1 w2 Nul → NdsK w (w2.alloc (.cells ((cpy t).hd.cells sl').toArray 44)) t w2.heap.size sl' fp) := fun w2 sl' fp ho hk => by
    have hs := k1.size
    refine ⟨Blk.new w2 _ _, (ho.below (((Kp.refl w2 Nul).alloc _).below)).le hs, by have := hk.size; omega, fun hm => by have := (ho.new _ hm).2; omega, (k1.trans hk).alloc _⟩
  clear hW1 k1 b1 hsz hok hin
  obtain ⟨hc, hhc⟩ : ∃ hc, (cpy t).hd = hc := ⟨_, rfl⟩
  rw [hhc] at HCp HEND
  clear hhc
  generalize t.hd = h at *
  go_enter Tryz.func35, Tryz.ntmps35
  go_wp2_with (first | (rw [HW1.out]; refine load_node_law rfl (.tmp 1) rfl w.heap.size rfl (h.cells sl).toArray HBn.out rfl ?_) | fail)
  refine (HCp.out _ HK1.out).mono ?_
  rintro e w2 ⟨sl', fp, rfl, hown, hk2⟩
  have HOW : Hid (Own w2 W1.heap.size sl' (cpy t) fp) := hown
  have K2 : Hid (Kp W1 w2 Nul) := hk2
  have ONW : Hid (sl'.oneCell' = true) := hown.own.one
  clear hown hk2 HCp HW1
  go_wp2_with (first | (refine wpList_store_new rfl 44 (.tmp 3) (.tmp 5) rfl _ _ _ _ _ (by first | rfl | simp) rfl rfl rfl infoNode (Hd.one hc ONW.out) ?_) | fail)
  go_ret
  exact ⟨_, sl', fp, rfl, HEND.out w2 sl' fp HOW.out K2.out⟩
set_option maxRecDepth 20000 in
set_option maxHeartbeats 4000000 in
theorem lNodes_at (t : Nd) (sl : Value) (F : Nat → Prop) (w : World) (hsz : t.size ≤ 1048576) (hok : t.ok) (hin : NdIn w F sl t) : Calls Tryz.prog 67 #[t.hd.val sl] w fun e w' => ∃ nb sl' fp, e = .returned (.func (.func 73) #[] #[.pointer (some ⟨nb, 0, none⟩)]) ∧ NdsK w w' t nb sl' fp := by
  obtain ⟨W1, hW1⟩ : ∃ W1, w.alloc (.cells (t.hd.cells sl).toArray 44) = W1 := ⟨_, rfl⟩
  have k1 : Kp w W1 Nul := by rw [← hW1]; exact (Kp.refl w Nul).alloc _
  have b1 : Blk W1 w.heap.size (t.hd.cells sl) 44 := by rw [← hW1]; exact Blk.new w _ _
  have HW1 : Hid (w.alloc (.cells #[.int .i64 t.hd.k, .int .i64 t.hd.o, .float .f64 t.hd.x, .string t.hd.s, .bool t.hd.b, .int .i64 t.hd.f, .int .i64 t.hd.c1, .int .i64 t.hd.r1, .bool t.hd.p1, .bool t.hd.q1, .int .i64 t.hd.c2, .int .i64 t.hd.r2, .bool t.hd.p2, .bool t.hd.q2, sl] 44) = W1) := hW1
  have HBn : Hid (W1.heap[w.heap.size]? = some (.cells (t.hd.cells sl).toArray 44 (0, 0))) := b1
  have HNd : Hid (Calls Tryz.prog 35 #[t.hd.val sl] W1 fun e w' => ∃ nb sl' fp, e = .returned (.func (.func 73) #[] #[.pointer (some ⟨nb, 0, none⟩)]) ∧ NdsK w w' t nb sl' fp) := (fNodes_at t sl F W1 hsz hok (hin.kp k1 (fun _ _ x => x))).mono (by
    rintro e w' ⟨nb, sl', fp, rfl, h⟩
    exact ⟨nb, sl', fp, rfl, ⟨h.blk, h.own.le k1.size, Nat.le_trans k1.size h.new, h.ne, k1.trans h.kp⟩⟩)
  clear hW1 k1 b1 hsz hok hin
  generalize t.hd = h at *
  have hn2 := eq_nilN 73
  go_enter Tryz.func67, Tryz.ntmps67
  go_wp2_with (first | (rw [HW1.out]; refine load_node_law rfl (.tmp 1) rfl w.heap.size rfl (h.cells sl).toArray HBn.out rfl ?_) | fail)
  refine HNd.out.mono ?_
  rintro e w2 ⟨nb, sl', fp, rfl, hk⟩
  have HK : Hid (NdsK w w2 t nb sl' fp) := hk
  clear hk HNd
  go_wp2_with fail
  go_ret
  exact ⟨nb, sl', fp, rfl, HK.out⟩
end Go.Proofs.YtbkcebbddhaifaaGreatDoor
namespace Go.Proofs.YtbkcebbddhaifaaGreatDoor
open Go.RowKit Go.Shelf
attribute [local go_sem] Oper.semAt_some

theorem res_none {fn : Func} (h : fn.results = #[]) (tmps : Array Value) (w : World) : (results fn tmps).run Tryz.prog w = .ok (.tuple #[]) w := by
  simp [results, h]
set_option maxRecDepth 100000 in
set_option maxHeartbeats 16000000 in
theorem nodes1_seq (l B : Nat) (t : Nd) (nb : Nat) (sl : Value) (fp : List Nat) (w : World) (hb : Blk w nb ((cpy t).hd.cells sl) 44) (ho : NdOwn w sl (cpy t) fp) (S : Nat → Prop) (hS : ∀ i, S i → i < w.heap.size) (hd : ∀ b, (b = nb ∨ b ∈ fp) → ¬ S b) (hl1 : w.heap.size ≤ l) (hl2 : l < B)
    (J : Nat → World → Prop) (Jx : World → Prop) (W : World) (hk : Kp w W Nul) (hsz : B ≤ W.heap.size) (hJ : ∀ k W W', J k W → Kp W W' (fun i => B ≤ i) → J k W') (hJx : ∀ W W', Jx W → Kp W W' (fun i => B ≤ i) → Jx W')
    (hY : ∀ m k (x : Hd) W1, k < t.size → (preN (cpy t))[k]? = some x → J k W1 → YieldAt Fence.wide m Tryz.prog (l) #[x.val (.slice none 0 0)] W1 fun e W' => (e = .returned (.bool true) ∧ J (k + 1) W' ∧ Kp W1 W' (fun i => S i ∨ i = l)) ∨ (e = .returned (.bool false) ∧ Jx W' ∧ Kp W1 W' (fun i => S i ∨ i = l)))
    (h0 : J 0 W) :
    Calls Tryz.prog 73 #[.func (.yield (l)) #[] #[], .pointer (some ⟨nb, 0, none⟩)] W fun e W' => (∃ v, e = .returned v) ∧ (J t.size W' ∨ Jx W') := by
  have hcs : (cpy t).size = t.size := cpy_size t
  have hnb : nb < w.heap.size := hb.lt
  generalize hT : cpy t = T at *
  have hbW : Blk W nb (T.hd.cells sl) 44 := hb.kp hk (fun x => x)
  have hin : NdIn W (fun b => b ∈ fp) sl T := (ho.mono (fun b hb => hk.block b (node_lt (ho.node b hb)) (fun x => x))).isIn (fun _ h => h)
  have hfl : ∀ b ∈ fp, b < w.heap.size := fun b hb => node_lt (ho.node b hb)
  have HE : Hid (∀ w, Calls Tryz.prog 74 #[T.hd.val sl] w fun e w' => e = .returned (.func (.func 123) #[] #[.pointer (some ⟨w.heap.size, 0, none⟩)]) ∧ w' = w.alloc (.cells (T.hd.cells sl).toArray 44)) := each_at T.hd sl
  obtain ⟨W1, hW1⟩ : ∃ W1, W.alloc (.cells #[.func (.yield (l)) #[] #[]] 122) = W1 := ⟨_, rfl⟩
  have HW1 : Hid (W.alloc (.cells #[.func (.yield (l)) #[] #[]] 122) = W1) := hW1
  have s1 : W1.heap.size = W.heap.size + 1 := by rw [← hW1, World.size_alloc]
  have k1 : Kp W W1 Nul := by rw [← hW1]; exact (Kp.refl W Nul).alloc _
  have by1 : Blk W1 W.heap.size [.func (.yield (l)) #[] #[]] 122 := by rw [← hW1]; exact Blk.new W _ _
  have HR1 : Hid (W1.rangeAt nb 0 (T.hd.cells sl)) := fun j u hj => by rw [Nat.zero_add]; exact (hbW.kp k1 (fun x => x)).cell hj
  clear hW1
  refine (callsIn_wide (n := 12)).1 ?_
  refine callsIn_of_wp_marks Tryz.func73 rfl trivial ?_ rfl
  simp only [Tryz.ntmps73, List.size_toArray, List.length_cons, List.length_nil, Nat.reduceAdd, Nat.reduceSub, Array.replicate_succ, Array.replicate_zero, List.push_toArray, List.append_toArray, List.nil_append, List.cons_append]
  gi_wp2_with (first | (rw [HW1.out]; refine loadIn_node rfl (.tmp 1) rfl nb 0 rfl (T.hd.cells sl) HR1.out rfl ?_) | fail)
  refine ⟨trivial, (callsIn_wide.2 (HE.out _)).mono ?_⟩
  rintro e w2 ⟨rfl, hw2⟩
  have s2 : w2.heap.size = W.heap.size + 2 := by rw [hw2, World.size_alloc, s1]
  have k2 : Kp W1 w2 Nul := by rw [hw2]; exact (Kp.refl W1 Nul).alloc _
  have by2 : Blk w2 W.heap.size [.func (.yield (l)) #[] #[]] 122 := by1.kp k2 (fun x => x)
  have be2 : Blk w2 (W.heap.size + 1) (T.hd.cells sl) 44 := by
    have := Blk.new W1 (T.hd.cells sl) 44
    rw [s1] at this
    rw [hw2]; exact this
  clear hw2 HE HW1 HR1
  gi_wp2_with (fail)
  have kW2 : Kp W w2 Nul := k1.trans k2
  have hf : ∀ {V V' : World}, Kp V V' (fun i => w2.heap.size ≤ i) → ∀ {b : Nat} {cs : List Value} {ty : TypeId}, b < w2.heap.size → Blk V b cs ty → Blk V' b cs ty := fun hk _ _ _ hb h => h.kp hk (by omega)
  have far : ∀ {V V' : World}, Kp V V' (fun i => w2.heap.size ≤ i) → Kp V V' (fun i => B ≤ i) := fun hk => hk.mono (fun i _ e => by show B ≤ i; have e' : w2.heap.size ≤ i := e; omega)
  have hj2 : J 0 w2 := hJ 0 W w2 h0 kW2.of_nul
  generalize hact : Act.mk _ _ = a0
  refine wpIn_range_told (α := Hd × Value) (N := t.size) (by decide) (gf := 123) (lb := #[.pointer (some ⟨W.heap.size + 1, 0, none⟩)]) (by rw [← hact, ← s1]; rfl) (enters_of Tryz.func123 (by kernel_rfl) rfl)
    (encs := fun x => #[x.1.val x.2]) (fun _ => rfl) (fun k x => (preN T)[k]? = some x.1 ∧ x.2.oneCell' = true) (fun i => S i ∨ i = l) (fun i h => by rcases h with h | h; have := hS i h; omega; omega)
    ?hseq
    (fun k V => J k V ∧ Blk V W.heap.size [.func (.yield (l)) #[] #[]] 122)
    (fun V => Jx V)
    ?hI ?hIx ⟨hj2, by2⟩ ?hround ?hdone ?hstop
  case hseq =>
    intro J' Jx' W' hk' hsz' hJ' hJx' hY' h0'
    have hkW : Kp w W' Nul := ((hk.trans kW2).trans hk')
    have := each1_pre (w2.heap.size + 1) t.size (fun i => (S i ∨ i = l) ∨ i = w2.heap.size + 1) (preN T) J' Jx' (w2.heap.size + 2) (fun i h => by rcases h with (h | h) | h; have := hS i h; omega; omega; omega) (fun k A B h q => hJ' k A B h q.of_nul) (fun A B h q => hJx' A B h q.of_nul)
      (fun m k x sx W1 hkN hp ho hj => by
        obtain ⟨fn', tms, asg, bo, y1, y2⟩ := hY' m k (x, sx) W1 hkN ⟨hp, ho⟩ hj
        refine ⟨fn', tms, asg, bo, y1, y2.mono ?_⟩
        rintro e Z (q | q)
        · exact .inl q
        · exact .inr ⟨q.1, q.2.1⟩)
      (fun b => b ∈ fp) (fun b hb h => by have h1 := hfl b hb; rcases h with (h | h) | h; exact hd b (.inr hb) h; omega; omega) T sl 0 (W.heap.size + 1) W' (by omega) (PreAt.self T) (by omega) ((hin.kp kW2 (fun _ _ x => x)).kp hk' (fun _ _ x => x)) h0' (be2.kp hk' (fun x => x))
    rw [Nat.zero_add, hcs] at this
    exact this
  case hI =>
    rintro k V V' ⟨q1, q2⟩ hk
    exact ⟨hJ _ _ _ q1 (far hk), hf hk (by omega) q2⟩
  case hIx =>
    intro V V' q1 hk
    exact hJx _ _ q1 (far hk)
  case hround =>
    subst hact
    rintro l' k ⟨x, sx⟩ V K _ hl hkN ⟨hpk, hox⟩ ⟨hj, hby⟩ hK
    simp only [List.zip_toArray, List.zip_cons_cons, List.zip_nil_right, List.foldl_toArray', List.foldl_cons, List.foldl_nil]
    have OX : Hid (sx.oneCell' = true) := hox
    gi_wp2_with (first
      | (refine storeIn_new' rfl 44 (.tmp 3) (.tmp 6) rfl _ _ _ _ (by first | rfl | simp) rfl rfl rfl infoNode (x.one OX.out) ?_)
      | fail)
    refine hK _ _ ((Kp.refl V Nul).alloc _) (fun U hU => ?_)
    have hVs : w2.heap.size + 2 ≤ V.heap.size := hl
    have bm : Blk U V.heap.size (x.cells sx) 44 := (Blk.new V _ _).kp hU (by show ¬ V.heap.size = w2.heap.size + 1; omega)
    have kVU : Kp V U (fun i => i = w2.heap.size + 1) := ((Kp.refl V _).alloc _).trans hU
    have hyU : Blk U W.heap.size [.func (.yield (l)) #[] #[]] 122 := hby.kp kVU (by show ¬ W.heap.size = w2.heap.size + 1; omega)
    have hjU : J k U := hJ _ _ _ hj (far (kVU.mono (fun i _ e => by show w2.heap.size ≤ i; have e' : i = w2.heap.size + 1 := e; omega)))
    clear hK
    obtain ⟨X, hX⟩ : ∃ X, U.setCell ⟨V.heap.size, 14, none⟩ (.slice none 0 0) = X := ⟨_, rfl⟩
    have bX : Blk X V.heap.size (x.cells (.slice none 0 0)) 44 := by rw [← hX]; exact bm.set 14 _
    have yX : Blk X W.heap.size [.func (.yield (l)) #[] #[]] 122 := by rw [← hX]; exact hyU.other _ _ (by show W.heap.size ≠ V.heap.size; omega)
    have kUX : Kp U X (fun i => i = V.heap.size) := by rw [← hX]; exact (Kp.refl U _).setCell _ _ (.inr rfl)
    have hjX : J k X := hJ _ _ _ hjU (kUX.mono (fun i _ e => by show B ≤ i; have e' : i = V.heap.size := e; omega))
    obtain ⟨fn, tms, asg, bod, hy, hR⟩ := hY 7 k x X hkN hpk hjX
    have HY : Hid (RoundIn Fence.wide 7 Tryz.prog (l) fn tms asg bod X _) := hR
    have HX : Hid (U.setCell ⟨V.heap.size, 14, none⟩ (.slice none 0 0) = X) := hX
    have HRX : Hid (X.rangeAt V.heap.size 0 (x.cells (.slice none 0 0))) := fun j u hj => by rw [Nat.zero_add]; exact bX.cell hj
    have u14 : U.cell? ⟨V.heap.size, 14, none⟩ = some sx := bm.cell rfl
    have f14 : U.frozen? ⟨V.heap.size, 14, none⟩ = false := bm.froz _
    have y0 : (U.setCell ⟨V.heap.size, 14, none⟩ (.slice none 0 0)).cell? ⟨W.heap.size, 0, none⟩ = some (.func (.yield (l)) #[] #[]) := by rw [hX]; exact yX.cell rfl
    have HkUX : Hid (Kp U X (fun i => i = V.heap.size)) := kUX
    have HyX : Hid (Blk X W.heap.size [.func (.yield (l)) #[] #[]] 122) := yX
    have HSW : Hid ((w.heap.size ≤ l ∧ l < B ∧ B ≤ W.heap.size) ∧ w2.heap.size = W.heap.size + 2 ∧ w2.heap.size + 2 ≤ V.heap.size) := ⟨⟨hl1, hl2, hsz⟩, s2, hVs⟩
    have HS : Hid (∀ i, S i → i < w.heap.size) := hS
    have HYR : Hid (Sem.run Tryz.prog (Instr.yield (l) #[Value.agg (x.cells (.slice none 0 0)).toArray]) X = _) := hy
    clear hX hR bm kVU hyU hjU hjX kUX yX bX hU hVs hy hby hj hY hJ hJx hf far kW2 by1 by2 be2 k1 k2 s1 s2 hj2 hd hS hin hbW hb ho hk hsz hfl hnb hcs h0
    gi_wp2_with (first
      | (rw [HX.out]; refine loadIn_node rfl (.tmp 3) rfl V.heap.size 0 rfl (x.cells (.slice none 0 0)) HRX.out rfl ?_)
      | fail)
    rw [HYR.out, Oper.uponIn_round]
    refine ⟨fun _ => by decide, (show RoundIn (Fence.wide.inRound l') _ _ _ _ _ _ _ _ _ from (roundIn_any (m' := 9) HY.out)).mono ?_⟩
    clear HY HYR y0 u14 f14
    rintro e w3 (⟨rfl, hj1, hk1⟩ | ⟨rfl, hx1, hk1⟩)
    · have HJ1 : Hid (J (k + 1) w3) := hj1
      have HK1 : Hid (Kp X w3 (fun i => S i ∨ i = l)) := hk1
      clear hj1 hk1
      gi_wp2_with (fail)
      exact ⟨(HkUX.out.mono (fun i _ e => .inr (by show V.heap.size ≤ i; have e' : i = V.heap.size := e; omega))).trans (HK1.out.mono (fun i _ e => .inl e)), HJ1.out, HyX.out.kp HK1.out (fun e => by have := HSW.out.1; rcases e with e | e; have := HS.out _ e; omega; omega)⟩
    · have HJ1 : Hid (Jx w3) := hx1
      have HK1 : Hid (Kp X w3 (fun i => S i ∨ i = l)) := hk1
      clear hx1 hk1
      gi_wp2_with (fail)
      exact ⟨(HkUX.out.mono (fun i _ e => .inr (by show V.heap.size ≤ i; have e' : i = V.heap.size := e; omega))).trans (HK1.out.mono (fun i _ e => .inl e)), HJ1.out⟩
  case hdone =>
    subst hact
    rintro D V hD ⟨h1, h2⟩ hK
    have H1 : Hid (J t.size V) := h1
    have HX : Hid (V.heap[D]? = some (.deferred (some []))) := hK
    have HP : Hid (J t.size (V.putObj D (.deferred none))) := hJ _ _ _ h1 (putObj_self.mono (fun i _ e => by show B ≤ i; have e' : i = D := e; omega))
    clear h1 h2 hK
    gi_wp2_with (fail)
    refine ⟨by simp, .inl ⟨_, _, rfl, run_takeDeferred HX.out, ?_⟩⟩
    refine ⟨_, res_none rfl _ _, ⟨_, rfl⟩, .inl HP.out⟩
  case hstop =>
    subst hact
    rintro D V hD h1 hK
    have H1 : Hid (Jx V) := h1
    have HX : Hid (V.heap[D]? = some (.deferred (some []))) := hK
    have HP : Hid (Jx (V.putObj D (.deferred none))) := hJx _ _ h1 (putObj_self.mono (fun i _ e => by show B ≤ i; have e' : i = D := e; omega))
    clear h1 hK
    gi_wp2_with (fail)
    refine ⟨by simp, .inl ⟨_, _, rfl, run_takeDeferred HX.out, ?_⟩⟩
    refine ⟨_, res_none rfl _ _, ⟨_, rfl⟩, .inr HP.out⟩
end Go.Proofs.YtbkcebbddhaifaaGreatDoor
namespace Go.Proofs.YtbkcebbddhaifaaGreatDoor
open Go.RowKit Go.Shelf
attribute [local go_sem] Oper.semAt_some

mutual
theorem fl_pre : ∀ t : Nd, fl t = ((preN t).filter (fun h => h.k == 4)).length
  | .mk h ts => by
    rw [fl, preN, List.filter_cons, flL_pre ts]
    by_cases e : h.k = 4
    · rw [if_pos e, if_pos (by simpa using e), List.length_cons]; omega
    · rw [if_neg e, if_neg (by simpa using e)]; omega
theorem flL_pre : ∀ ts : List Nd, flL ts = ((preL ts).filter (fun h => h.k == 4)).length
  | [] => by rw [flL, preL]; rfl
  | t :: ts => by rw [flL, preL, List.filter_append, List.length_append, fl_pre t, flL_pre ts]
end
mutual
theorem fl_cpy : ∀ t : Nd, fl (cpy t) = fl t
  | .mk h ts => by rw [cpy, fl, fl, flL_cpy ts]
theorem flL_cpy : ∀ ts : List Nd, flL (cpyL ts) = flL ts
  | [] => by rw [cpyL]
  | t :: ts => by rw [cpyL, flL, flL, fl_cpy t, flL_cpy ts]
end
/-- Faults among the first k. -/
def fcnt (l : List Hd) (k : Nat) : Nat := ((l.take k).filter (fun h => h.k == 4)).length
theorem fcnt_next {l : List Hd} {k : Nat} {x : Hd} (h : l[k]? = some x) : fcnt l (k + 1) = fcnt l k + if x.k = 4 then 1 else 0 := by
  unfold fcnt
  rw [List.take_add_one, h, List.filter_append, List.length_append]
  congr 1
  by_cases e : x.k = 4
  · simp [e]
  · simp [e]
theorem fcnt_le (l : List Hd) (k : Nat) : fcnt l k ≤ l.length := by
  unfold fcnt
  have h1 := List.length_filter_le (fun h : Hd => h.k == 4) (l.take k)
  rw [List.length_take] at h1
  omega
theorem fcnt_all (t : Nd) : fcnt (preN (cpy t)) t.size = fl t := by
  unfold fcnt
  rw [List.take_of_length_le (by rw [preN_len, cpy_size]; exact Nat.le_refl _), ← fl_pre, fl_cpy]
set_option maxRecDepth 100000 in
set_option maxHeartbeats 8000000 in
theorem faults_at (t : Nd) (sl : Value) (F : Nat → Prop) (w : World) (hsz : t.size ≤ 1048576) (hok : t.ok) (hin : NdIn w F sl t) :
    Calls Tryz.prog 66 #[t.hd.val sl] w fun e w' => e = .returned (.int .i64 (fl t : Nat)) ∧ Kp w w' Nul := by
  obtain ⟨W1, hW1⟩ : ∃ W1, (w.alloc (.cells (t.hd.cells sl).toArray 44)).alloc (.cells #[.int .i64 0] 3) = W1 := ⟨_, rfl⟩
  have k1 : Kp w W1 Nul := by rw [← hW1]; exact ((Kp.refl w Nul).alloc _).alloc _
  have b1 : Blk W1 w.heap.size (t.hd.cells sl) 44 := by rw [← hW1]; exact (Blk.new w _ _).alloc _
  have c1 : Blk W1 (w.heap.size + 1) [.int .i64 0] 3 := by
    rw [← hW1]
    have := Blk.new (w.alloc (.cells (t.hd.cells sl).toArray 44)) [.int .i64 0] 3
    rw [World.size_alloc] at this
    exact this
  have s1 : W1.heap.size = w.heap.size + 2 := by rw [← hW1, World.size_alloc, World.size_alloc]
  have HW1 : Hid ((w.alloc (.cells #[.int .i64 t.hd.k, .int .i64 t.hd.o, .float .f64 t.hd.x, .string t.hd.s, .bool t.hd.b, .int .i64 t.hd.f, .int .i64 t.hd.c1, .int .i64 t.hd.r1, .bool t.hd.p1, .bool t.hd.q1, .int .i64 t.hd.c2, .int .i64 t.hd.r2, .bool t.hd.p2, .bool t.hd.q2, sl] 44)).alloc (.cells #[.int .i64 0] 3) = W1) := hW1
  have HR1 : Hid (W1.rangeAt w.heap.size 0 (t.hd.cells sl)) := fun j u hj => by rw [Nat.zero_add]; exact b1.cell hj
  have HNd : Hid (Calls Tryz.prog 67 #[t.hd.val sl] W1 fun e w' => ∃ nb sl' fp, e = .returned (.func (.func 73) #[] #[.pointer (some ⟨nb, 0, none⟩)]) ∧ NdsK W1 w' t nb sl' fp) := lNodes_at t sl F W1 hsz hok (hin.kp k1 (fun _ _ x => x))
  have hbd : ∀ k, fcnt (preN (cpy t)) k ≤ 1048576 := fun k => by
    have := fcnt_le (preN (cpy t)) k
    rw [preN_len, cpy_size] at this
    omega
  clear hW1 hok hin b1
  refine (callsIn_wide (n := 12)).1 ?_
  refine callsIn_of_wp_marks Tryz.func66 rfl trivial ?_ rfl
  simp only [Tryz.ntmps66, List.size_toArray, List.length_cons, List.length_nil, Nat.reduceAdd, Nat.reduceSub, Array.replicate_succ, Array.replicate_zero, List.push_toArray, List.append_toArray, List.nil_append, List.cons_append]
  gi_wp2_with (first | (rw [HW1.out]; refine loadIn_node rfl (.tmp 1) rfl w.heap.size 0 rfl (t.hd.cells sl) HR1.out rfl ?_) | fail)
  refine ⟨trivial, (callsIn_wide.2 HNd.out).mono ?_⟩
  rintro e w2 ⟨nb, sl', fp, rfl, hK⟩
  have c2 : Blk w2 (w.heap.size + 1) [.int .i64 0] 3 := c1.kp hK.kp (fun x => x)
  have k2 : Kp w w2 Nul := k1.trans hK.kp
  have hs2 := hK.kp.size
  clear HW1 HR1 HNd c1
  gi_wp2_with (fail)
  generalize hact : Act.mk _ _ = a0
  refine wpIn_range_told (α := Hd) (N := t.size) (by decide) (gf := 73) (lb := #[.pointer (some ⟨nb, 0, none⟩)]) (by rw [← hact]; rfl) (enters_of Tryz.func73 (by kernel_rfl) rfl)
    (encs := fun x => #[x.val (.slice none 0 0)]) (fun _ => rfl) (fun k x => (preN (cpy t))[k]? = some x) (fun i => i = w.heap.size + 1) (fun i h => by have h' : i = w.heap.size + 1 := h; omega)
    ?hseq
    (fun k V => Blk V (w.heap.size + 1) [.int .i64 (fcnt (preN (cpy t)) k : Nat)] 3 ∧ Kp w V Nul)
    (fun _ => False)
    ?hI ?hIx ⟨c2, k2⟩ ?hround ?hdone ?hstop
  case hseq =>
    intro J Jx W hk' hsz' hJ' hJx' hY' h0'
    exact nodes1_seq (w2.heap.size + 1) (w2.heap.size + 2) t nb sl' fp w2 hK.blk hK.own.own (fun i => i = w.heap.size + 1) (fun i h => by have h' : i = w.heap.size + 1 := h; omega) (fun b hb e => by
      have e' : b = w.heap.size + 1 := e
      rcases hb with hb | hb
      · have := hK.new; omega
      · have := (hK.own.new b hb).1; omega) (Nat.le_succ _) (Nat.lt_succ_self _) J Jx W hk' hsz' hJ' hJx' hY' h0'
  case hI =>
    rintro k V V' ⟨q1, q2⟩ hk
    exact ⟨q1.kp hk (by show ¬ w2.heap.size ≤ w.heap.size + 1; omega), q2.trans' hk (fun i hi e => by have e' : w2.heap.size ≤ i := e; omega)⟩
  case hIx => intro _ _ h; exact h.elim
  case hround =>
    subst hact
    rintro l k x V K _ hl hkN hpk ⟨q1, q2⟩ hK'
    simp only [List.zip_toArray, List.zip_cons_cons, List.zip_nil_right, List.foldl_toArray', List.foldl_cons, List.foldl_nil]
    gi_wp2_with (first
      | (refine storeIn_new' rfl 44 (.tmp 4) (.tmp 7) rfl _ _ _ _ (by first | rfl | simp) rfl rfl rfl infoNode (x.one rfl) ?_)
      | fail)
    refine hK' _ _ ((Kp.refl V Nul).alloc _) (fun U hU => ?_)
    have bm : Blk U V.heap.size (x.cells (.slice none 0 0)) 44 := (Blk.new V _ _).kp hU (by show ¬ V.heap.size = w2.heap.size + 1; omega)
    have kVU : Kp V U (fun i => i = w2.heap.size + 1) := ((Kp.refl V _).alloc _).trans hU
    have cU : Blk U (w.heap.size + 1) [.int .i64 (fcnt (preN (cpy t)) k : Nat)] 3 := q1.kp kVU (by show ¬ w.heap.size + 1 = w2.heap.size + 1; omega)
    have kU : Kp w U Nul := q2.trans' kVU (fun i hi e => by have e' : i = w2.heap.size + 1 := e; omega)
    have x0 : U.cell? ⟨V.heap.size, 0, none⟩ = some (.int .i64 x.k) := bm.cell rfl
    have y0 : U.cell? ⟨w.heap.size + 1, 0, none⟩ = some (.int .i64 (fcnt (preN (cpy t)) k : Nat)) := cU.cell rfl
    have f0 : U.frozen? ⟨w.heap.size + 1, 0, none⟩ = false := cU.froz _
    have HN : Hid (fcnt (preN (cpy t)) (k + 1) = fcnt (preN (cpy t)) k + if x.k = 4 then 1 else 0) := fcnt_next hpk
    have HcU : Hid (Blk U (w.heap.size + 1) [.int .i64 (fcnt (preN (cpy t)) k : Nat)] 3) := cU
    have HkU : Hid (Kp w U Nul) := kU
    have hb := hbd k
    clear hK' bm kVU cU kU hU q1 q2 hK c2 k2 k1 hpk hbd hs2 s1 hsz
    generalize fcnt (preN (cpy t)) k = C at *
    have hb0 : (0 : Int) ≤ (C : Int) := by omega
    have hb1 : (C : Int) ≤ 1048576 := by omega
    by_cases h4 : x.k = 4
    · rw [h4] at x0
      gi_wp2_with (fail)
      have hn := HN.out
      rw [if_pos h4] at hn
      refine ⟨(Kp.refl U _).setCell _ _ (.inr (.inl rfl)), ?_, HkU.out.setCell _ _ (.inl (by show w.heap.size ≤ w.heap.size + 1; omega))⟩
      have := HcU.out.set 0 (.int .i64 ((C : Int) + 1))
      rw [hn]
      exact this
    · gi_wp2_with (fail)
      have hn := HN.out
      rw [if_neg h4, Nat.add_zero] at hn
      rw [hn]
      exact ⟨Kp.refl U _, HcU.out, HkU.out⟩
  case hdone =>
    subst hact
    rintro D V hD ⟨q1, q2⟩ hX
    have HX : Hid (V.heap[D]? = some (.deferred (some []))) := hX
    have y0 : V.cell? ⟨w.heap.size + 1, 0, none⟩ = some (.int .i64 (fcnt (preN (cpy t)) t.size : Nat)) := q1.cell rfl
    have HV : Hid (Kp w V Nul) := q2
    have HD : Hid (w.heap.size ≤ D) := by show _ ≤ _; omega
    rw [fcnt_all] at y0
    clear q1 q2 hX hK c2 k2 k1 hbd
    gi_wp2_with (fail)
    refine ⟨by simp, .inl ⟨_, _, rfl, run_takeDeferred HX.out, ?_⟩⟩
    refine ⟨_, results_tmp rfl _ _ _, rfl, ?_⟩
    exact putObj_kp HV.out HD.out
  case hstop => intro _ _ _ h; exact h.elim
end Go.Proofs.YtbkcebbddhaifaaGreatDoor
namespace Go.Proofs.YtbkcebbddhaifaaGreatDoor
open Go.RowKit Go.Maps Go.Sort Go.Lib Go.Shelf
attribute [local go_sem] Oper.semAt_some

/-- Faults of all formulas of a list of cells. -/
def flS : List Cc → Nat
  | [] => 0
  | x :: l => fl x.2.t + flS l
theorem flS_app (a b : List Cc) : flS (a ++ b) = flS a + flS b := by
  induction a with
  | nil => rw [List.nil_append, flS]; omega
  | cons x a ih => rw [List.cons_append, flS, flS, ih]; omega
theorem flS_le : ∀ {a b : List Cc}, a.Nodup → (∀ x ∈ a, x ∈ b) → flS a ≤ flS b
  | [], _, _, _ => by rw [flS]; omega
  | x :: a, b, hn, hm => by
    obtain ⟨s, t, rfl⟩ := List.append_of_mem (hm x List.mem_cons_self)
    have h := flS_le (a := a) (b := s ++ t) (List.nodup_cons.1 hn).2 (fun y hy => by
      have := hm y (List.mem_cons_of_mem _ hy)
      rcases List.mem_append.1 this with q | q
      · exact List.mem_append_left _ q
      · rcases List.mem_cons.1 q with q | q
        · subst q; exact absurd hy (List.nodup_cons.1 hn).1
        · exact List.mem_append_right _ q)
    rw [flS_app] at h ⊢
    rw [flS, flS]
    omega
theorem flS_eq {a b : List Cc} (ha : a.Nodup) (hb : b.Nodup) (h : ∀ x, x ∈ a ↔ x ∈ b) : flS a = flS b :=
  Nat.le_antisymm (flS_le ha (fun x q => (h x).1 q)) (flS_le hb (fun x q => (h x).2 q))
theorem flS_next {K : List Cc} {j : Nat} {x : Cc} (h : K[j]? = some x) : flS (K.take (j + 1)) = flS (K.take j) + fl x.2.t := by
  rw [List.take_add_one, h, flS_app]
  show _ + flS [x] = _
  rw [flS, flS]
  omega
mutual
theorem fl_size : ∀ t : Nd, fl t ≤ t.size
  | .mk h ts => by rw [fl, Nd.size]; have := flL_size ts; split <;> omega
theorem flL_size : ∀ ts : List Nd, flL ts ≤ sizeL ts
  | [] => by rw [flL, sizeL]; omega
  | t :: ts => by rw [flL, sizeL]; have := fl_size t; have := flL_size ts; omega
end
theorem flS_bd {K : List Cc} (h : ∀ x ∈ K, x.2.t.size ≤ 256) : flS K ≤ 256 * K.length := by
  induction K with
  | nil => rw [flS]; omega
  | cons x K ih =>
    rw [flS, List.length_cons]
    have h1 := ih (fun y hy => h y (List.mem_cons_of_mem _ hy))
    have h2 := h x List.mem_cons_self
    have h3 := fl_size x.2.t
    omega
theorem gd_small {a : Ct} (h : Gd a) : a.t.size ≤ 256 := by
  have hv := h.val
  unfold gv validC at hv
  simp only [Bool.or_eq_true, Bool.and_eq_true, beq_iff_eq] at hv
  rcases hv with (q | q) | q
  · exact absurd q.1 h.k
  · obtain ⟨_, h2⟩ := zeroN_k q.2.2
    rw [Nd.eta a.t, h2, Nd.size, sizeL]
    omega
  · exact chk_size q.2.2
theorem ct_row6 {w : World} {b : Nat} {a : Ct} {sl : Value} {t : TypeId} (h : Blk w b (a.cells sl) t) : w.rangeAt b 6 (a.t.hd.cells sl) := rangeAt_mid (pre := [.int .i64 a.k, .int .i64 a.v.k, .float .f64 a.v.x, .string a.v.s, .bool a.v.b, .int .i64 a.v.f]) (l := a.t.hd.cells sl) (post := []) (by unfold Blk at h; rw [h]; rfl)
/-- The region within a round, S holding behind each operation but z. -/
theorem regIn_but {P : Program} {l n : Nat} {a : Act} {w : World} {Q : Exit → Act → World → Prop} {id : Nat} {ops : Array Oper} (S : World → Prop) (z : Nat) (hm : P.follows .mixedOrders = true) (hd : noDefer ops = true) (hL : ¬ LetsOut Q) (hS : S w.drew) (h : S w.drew → wpBut P .any ops Q S z ops.size (Array.replicate ops.size false) a w.drew) : (Code.region id ops true).wpIn (Fence.wide.inRound l) n P Q a w :=
  wpIn_region_any hm (wpAnyIn_of_any hd hL _ _ _ _ (wpBut_any _ _ _ _ (h hS)))
/-- What the rounds keep. -/
structure LoI (w : World) (K : List Cc) (j : Nat) (Z : Nat → Prop) (W : World) : Prop where
  c : Blk W w.heap.size [.int .i64 (flS (K.take j) : Nat)] 3
  z : ∀ i, Z i ↔ i = w.heap.size
  kp : Kp w W Nul
theorem nodup_of_strict {K : List Cc} (h : Strict (K.map (·.1))) : K.Nodup := (List.pairwise_map.1 (strict_nodup h)).imp (fun {x y} q e => q (by rw [e]))
set_option maxRecDepth 20000 in
set_option maxHeartbeats 16000000 in
theorem lost22_at (g : Nat) (L : List Cc) (w : World) (hg : GI 0 w g L) (hok : Ok17 L) :
    Calls Tryz.prog 23 #[.pointer (some ⟨g, 0, none⟩)] w fun e w' => e = .returned (.int .i64 (flS L : Nat)) ∧ Kp w w' Nul := by
  obtain ⟨W1, hW1⟩ : ∃ W1, w.alloc (.cells #[.int .i64 0] 3) = W1 := ⟨_, rfl⟩
  have k1 : Kp w W1 Nul := by rw [← hW1]; exact (Kp.refl w Nul).alloc _
  have c1 : Blk W1 w.heap.size [.int .i64 0] 3 := by rw [← hW1]; exact Blk.new w _ _
  have s1 : W1.heap.size = w.heap.size + 1 := by rw [← hW1, World.size_alloc]
  have HW1 : Hid (w.alloc (.cells #[.int .i64 0] 3) = W1) := hW1
  have HAll : Hid (Calls Tryz.prog 26 #[.pointer (some ⟨g, 0, none⟩)] W1 fun e w' => ∃ x0 x1, e = .returned (.func (.func 121) #[] #[.pointer (some ⟨x0, 0, none⟩), .pointer (some ⟨x1, 0, none⟩)]) ∧ Blk w' x0 [.pointer (some ⟨g, 0, none⟩)] 24 ∧ Blk w' x1 [.int .i64 1, .int .i64 1, .int .i64 256, .int .i64 4096] 34 ∧ Kp W1 w' Nul) := all22 g W1
  have HOk : Hid (Ok17 L) := hok
  have HG : Hid (GI 0 w g L) := hg
  clear hW1 hg hok
  refine (callsIn_wide (n := 12)).1 ?_
  refine callsIn_of_wp_marks Tryz.func23 rfl trivial ?_ rfl
  simp only [Tryz.ntmps23, List.size_toArray, List.length_cons, List.length_nil, Nat.reduceAdd, Nat.reduceSub, Array.replicate_succ, Array.replicate_zero, List.push_toArray, List.append_toArray, List.nil_append, List.cons_append]
  refine wpIn_wide.2 ?_
  go_wp2_with fail
  rw [HW1.out]
  clear HW1
  refine HAll.out.mono ?_
  rintro e w6 ⟨x0, x1, rfl, hb0, hb1, hk6⟩
  have c6 : Blk w6 w.heap.size [.int .i64 0] 3 := c1.kp hk6 (fun x => x)
  have k6 : Kp w w6 Nul := k1.trans hk6
  have hs6 : w.heap.size + 1 ≤ w6.heap.size := by have := hk6.size; omega
  have HX0 : Hid (Blk w6 x0 [.pointer (some ⟨g, 0, none⟩)] 24) := hb0
  have HX1 : Hid (Blk w6 x1 [.int .i64 1, .int .i64 1, .int .i64 256, .int .i64 4096] 34) := hb1
  clear hb0 hb1 hk6 HAll c1 k1 s1
  go_wp2_with fail
  obtain ⟨K, hKs, hKm⟩ := in_order HG.out.once
  have hKl : K.length ≤ 4096 := by
    have := nodup_le _ (L.map (·.1)) (strict_nodup hKs) (fun x hx => by
      obtain ⟨y, hy, rfl⟩ := List.mem_map.1 hx
      exact List.mem_map.2 ⟨y, (hKm y).1 hy, rfl⟩)
    rw [List.length_map, List.length_map] at this
    have := HOk.out.len
    omega
  have hbd : ∀ j, flS (K.take j) ≤ 1048576 := fun j => by
    have h1 := flS_bd (K := K.take j) (fun x hx => gd_small (HOk.out.gd x ((hKm x).1 (List.mem_of_mem_take hx))))
    rw [List.length_take] at h1
    have : min j K.length ≤ 4096 := by omega
    have : 256 * min j K.length ≤ 256 * 4096 := Nat.mul_le_mul_left _ this
    omega
  have HKm : Hid (∀ x, x ∈ K ↔ x ∈ L) := hKm
  have HKs : Hid (Strict (K.map (·.1))) := hKs
  have HBd : Hid (∀ j, flS (K.take j) ≤ 1048576) := hbd
  have HI0 : LoI w K 0 (fun i => i = w.heap.size) w6 := ⟨by rw [List.take_zero, flS]; exact c6, fun i => Iff.rfl, k6⟩
  have hgA : GridIn w6 (fun b => b < w.heap.size) g L := HG.out.low.kp k6
  have HK6 : Hid (Kp w w6 Nul) := k6
  clear hKs hKm hbd hKl c6
  generalize hact : Act.mk _ _ = a0
  refine wp_range_ow2 (α := (Cc × Value) × List Nat) (N := K.length) (gf := 121) (lb := #[.pointer (some ⟨x0, 0, none⟩), .pointer (some ⟨x1, 0, none⟩)]) (by rw [← hact]; rfl) (enters_of Tryz.func121 (by kernel_rfl) rfl) (encs := encQ) wtQ (fun _ => rfl) (TellQ w6 K) ?hT (fun i => i = w.heap.size) ?hseq (fun j Z W => LoI w K j Z W) ?hZ ?hZl ?hI (fun i => i = w.heap.size) ?h0 ?hround ?hdone
  case hT => rintro k x Z W ⟨_, _, _, h⟩; exact ⟨fun q => by have := (h _ q).1; omega, fun q => by have := (h _ q).1; omega⟩
  case hseq => exact in1_seq2 g x0 x1 w.heap.size L K w6 _ (HG.out.kp k6) hgA HOk.out.gd HOk.out.at' HOk.out.len HKs.out HKm.out k6.size (fun i e => by have e' : i = w.heap.size := e; omega) HX0.out HX1.out
  case hZ =>
    intro j Z W h
    exact ⟨fun q => by have := (h.z _).1 q; omega, fun q => by have := (h.z _).1 q; omega⟩
  case hZl =>
    intro j Z W h
    exact ⟨fun i hi => by have := (h.z _).1 hi; have h2 := h.c.lt; omega, fun i _ hi => (h.z _).1 hi⟩
  case hI =>
    intro j Z W W' h q
    exact ⟨h.c.kp q (fun e => by rcases e with e | e <;> omega), h.z, h.kp.trans' q (fun i hi e => by rcases e with e | e <;> omega)⟩
  case h0 => exact HI0
  case hround =>
    subst hact
    rintro j ⟨⟨⟨⟨c, s⟩, a⟩, sl⟩, fp⟩ Z W KK hkN hsW hI ⟨hKk, hown, hnd, hfz⟩ hcont
    have HIj : Hid (LoI w K j Z W) := hI
    have HOwn : Hid (NdOwn W sl a.t fp) := hown
    have HFz : Hid (∀ i ∈ fp, w6.heap.size + 2 ≤ i ∧ ¬ Z i) := hfz
    have HSW : Hid (w6.heap.size + 2 ≤ W.heap.size) := hsW
    have O1 : Hid (sl.oneCell' = true) := hown.one
    have hmem : ((c, s), a) ∈ L := (HKm.out _).1 (List.mem_of_getElem? hKk)
    have HGd : Hid (Gd a) := HOk.out.gd _ hmem
    have HNx : Hid (flS (K.take (j + 1)) = flS (K.take j) + fl a.t) := flS_next hKk
    have HBj : Hid (flS (K.take j) ≤ 1048576) := HBd.out j
    have HS6 : Hid (w.heap.size + 1 ≤ w6.heap.size) := hs6
    clear hI hKk hown hnd hfz hsW hmem HX0 HX1 HI0 hgA k6 HG
    simp only [List.zip_toArray, List.zip_cons_cons, List.zip_nil_right, List.foldl_toArray', List.foldl_cons, List.foldl_nil]
    gi_wp2_with (first
      | (refine storeIn_new' rfl 55 (.tmp 5) (.tmp 9) rfl _ _ _ _ (by first | rfl | simp) rfl rfl rfl infoContent (a.one O1.out) ?_)
      | fail)
    refine hcont _ _ ((Kp.refl W Nul).alloc _) (fun V hV => ?_)
    have hWV : Kp W V (fun i => i = w6.heap.size + 1) := ((Kp.refl W _).alloc _).trans hV
    have HIV : Hid (LoI w K j Z V) := ⟨HIj.out.c.kp hWV (fun e => by have e' : w.heap.size = w6.heap.size + 1 := e; omega), HIj.out.z, HIj.out.kp.trans' hWV (fun i hi e => by have e' : i = w6.heap.size + 1 := e; omega)⟩
    have HbC : Hid (Blk V W.heap.size (a.cells sl) 55) := (Blk.new W (a.cells sl) 55).kp hV (fun e => by have e' : W.heap.size = w6.heap.size + 1 := e; have := HSW.out; omega)
    have HOwnV : Hid (NdOwn V sl a.t fp) := HOwn.out.mono (fun i hi => hWV.block i (node_lt (HOwn.out.node i hi)) (fun e => by have e' : i = w6.heap.size + 1 := e; have := (HFz.out i hi).1; omega))
    have HFa : Hid (∀ wq, Kp V wq Nul → Calls Tryz.prog 66 #[.agg (a.t.hd.cells sl).toArray] wq fun e w' => e = .returned (.int .i64 (fl a.t : Nat)) ∧ Kp wq w' Nul) := fun wq q => faults_at a.t sl (fun _ => True) wq (by have := HGd.out.size; omega) HGd.out.ok ((HOwnV.out.mono (fun i hi => q.block i (node_lt (HOwnV.out.node i hi)) (fun x => x))).isIn (fun _ _ => trivial))
    have hfs : fl a.t ≤ 256 := by have := fl_size a.t; have := gd_small HGd.out; omega
    clear hcont hV hWV HIj
    obtain ⟨N, hN⟩ : ∃ N, flS (K.take j) = N := ⟨_, rfl⟩
    obtain ⟨M, hM⟩ : ∃ M, fl a.t = M := ⟨_, rfl⟩
    have HC : Hid (∀ wq, Kp V wq Nul → Blk wq w.heap.size [.int .i64 (N : Nat)] 3) := fun wq q => by have := HIV.out.c.kp q (fun x => x); rw [hN] at this; exact this
    have HEN : Hid (∀ X, Kp V X (fun i => i = w.heap.size) → Blk X w.heap.size [.int .i64 ((N : Int) + (M : Int))] 3 → Kp V X (fun i => (Z i ∨ wtQ ((((c, s), a), sl), fp) i) ∨ W.heap.size ≤ i) ∧ ∃ Z', LoI w K (j + 1) Z' X ∧ More Z Z' W) := fun X kX bX => by
      refine ⟨kX.mono (fun i _ e => .inl (.inl ((HIV.out.z i).2 e))), Z, ⟨?_, HIV.out.z, HIV.out.kp.trans' kX (fun i hi e => by have e' : i = w.heap.size := e; omega)⟩, fun i hi => .inl hi⟩
      rw [HNx.out, hN, hM]
      have : (((N + M : Nat)) : Int) = (N : Int) + (M : Int) := by omega
      rw [this]
      exact bX
    have hNb := HBj.out
    rw [hN] at hNb
    rw [hM] at hfs HFa
    clear hN hM HNx HBj
    have wn : IntKind.i64.wrap ((N : Int) + (M : Int)) = (N : Int) + (M : Int) := by rw [IntKind.wrap_i64]; omega
    have hN0 : (0 : Int) ≤ (N : Int) := by omega
    have hM0 : (0 : Int) ≤ (M : Int) := by omega
    have hN1 : (N : Int) ≤ 1048576 := by omega
    have hM1 : (M : Int) ≤ 256 := by omega
    gi_wp2_with (fail)
    refine regIn_noPanic ?_
    refine regIn_but (fun w' : World => Kp V w' Nul) 5 (by kernel_rfl) (by kernel_rfl) (noPanic_lets (fun a w h => Exit.noConfusion (And.left h))) ((Kp.refl _ _).drew) (fun hHeld => ?_)
    refine wpBut_takes (i := 0) (v := .int .i64 (N : Int)) (some 10) rfl rfl (by kernel_rfl) (by kernel_rfl) (by kernel_rfl) (by kernel_rfl) (fun _ _ _ h => h) (Or.inl ⟨by rfl, ?_⟩) hHeld ?_
    · intro w' hSw; have s0 := (HC.out w' hSw).cell (i := 0) rfl; clear hSw; go_simp
    simp only [Act.put, List.setIfInBounds_toArray, List.set_cons_zero, List.set_cons_succ]
    refine wpBut_takes (i := 1) (v := ?_) (some 11) rfl rfl (by kernel_rfl) (by kernel_rfl) (by kernel_rfl) (by kernel_rfl) (fun _ _ _ h => h) (Or.inl ⟨by rfl, ?_⟩) hHeld ?_
    rotate_left
    · intro w' hSw; clear hSw; go_simp; try with_reducible rfl
    simp only [Act.put, List.setIfInBounds_toArray, List.set_cons_zero, List.set_cons_succ]
    refine wpBut_takes (i := 2) (v := .agg (a.t.hd.cells sl).toArray) (some 12) rfl rfl (by kernel_rfl) (by kernel_rfl) (by kernel_rfl) (by kernel_rfl) (fun _ _ _ h => h) (Or.inl ⟨by rfl, fun w' hSw => exec_load_row 44 (.tmp 11) rfl W.heap.size 6 rfl (a.t.hd.cells sl) _ (ct_row6 (HbC.out.kp hSw (fun x => x))) Tryz.underlying44 rfl infoNode⟩) hHeld ?_
    simp only [Act.put, List.setIfInBounds_toArray, List.set_cons_zero, List.set_cons_succ]
    refine wpBut_step (i := 3) (by kernel_rfl) rfl rfl (fun K hK => ?_)
    go_simp
    refine (HFa.out _ ((Kp.refl V Nul).drew)).mono ?_
    rintro e wA ⟨rfl, hkA⟩
    have KA : Hid (Kp V wA Nul) := (Kp.refl V Nul).drew.trans hkA
    refine hK.out _ _ (fun _ => KA.out) (fun _ => ?_)
    clear hK K hkA hHeld
    (try simp only [Act.put, List.setIfInBounds_toArray, List.set_cons_zero, List.set_cons_succ])
    refine wpBut_step (i := 4) (by kernel_rfl) rfl rfl (fun K hK => ?_)
    go_simp
    refine hK.out _ _ (fun _ => KA.out) (fun _ => ?_)
    clear hK K
    (try simp only [Act.put, List.setIfInBounds_toArray, List.set_cons_zero, List.set_cons_succ])
    refine wpBut_step (i := 5) (by kernel_rfl) rfl rfl (fun K hK => ?_)
    refine wp_store_var 3 (.tmp 3) (.tmp 14) rfl w.heap.size rfl (.int .i64 ((N : Int) + (M : Int))) rfl rfl 3 (.int .i64 (N : Int)) (HC.out _ KA.out) (by kernel_rfl) ?_
    intro X hbX hkX
    have KX : Kp V X (fun i => i = w.heap.size) := KA.out.of_nul.trans hkX
    refine hK.out _ _ (fun h => absurd rfl h) (fun _ => ?_)
    clear hK K
    refine wpBut_done (by kernel_rfl) ?_
    refine NoPanic.normal ?_
    exact ⟨rfl, HEN.out X KX hbX⟩
  case hdone =>
    subst hact
    intro D Z W hD hI hdef
    have HDf : Hid (W.heap[D]? = some (.deferred (some []))) := hdef
    have HKW : Hid (Kp w W Nul) := hI.kp
    have HDD : Hid (w.heap.size ≤ D) := by show _ ≤ _; omega
    have y0 : W.cell? ⟨w.heap.size, 0, none⟩ = some (.int .i64 (flS L : Nat)) := by
      have := hI.c.cell (i := 0) rfl
      rw [List.take_length, flS_eq (nodup_of_strict HKs.out) (HG.out.once.imp (fun {x y} q e => q (by rw [e]))) HKm.out] at this
      exact this
    clear hI hdef hD HI0 hgA k6
    go_wp2_with fail
    refine ⟨by simp, .inl ⟨_, _, rfl, run_takeDeferred HDf.out, ?_⟩⟩
    refine ⟨_, results_tmp rfl _ _ _, rfl, ?_⟩
    exact putObj_kp HKW.out HDD.out
end Go.Proofs.YtbkcebbddhaifaaGreatDoor
namespace Go.Proofs.YtbkcebbddhaifaaGreatDoor
open Go.RowKit Go.Shelf
attribute [local go_sem] Oper.semAt_some

section
variable {n : Nat} {P : Program} {α : Type} {g : Operand} {ps : Array Tmp} {assign body : Code} {Q : Exit → Act → World → Prop} {a : Act} {w : World}
/-- One round. -/
theorem round_ow3 {encs : α → Array Value} {Wt : α → Nat → Prop} {fn : FuncId} {N : Nat} (hfn : Fence.wide.fn fn) (hps : ∀ x, (encs x).size = ps.size) (T : Nat → α → (Nat → Prop) → World → Prop) (hT : ∀ k x Z W, T k x Z W → ¬ Wt x w.heap.size ∧ ¬ Wt x (w.heap.size + 1))
    (I : Nat → (Nat → Prop) → World → Prop) (hZ : ∀ k Z W, I k Z W → ¬ Z w.heap.size ∧ ¬ Z (w.heap.size + 1)) (hI : ∀ k Z W W', I k Z W → Kp W W' (fun i => i = w.heap.size ∨ i = w.heap.size + 1) → I k Z W') (Ix : World → Prop) (hIx : ∀ W W', Ix W → Kp W W' (fun i => i = w.heap.size ∨ i = w.heap.size + 1) → Ix W')
    (hround : ∀ (k : Nat) (x : α) (Z : Nat → Prop) (W : World) (K : Act → World → Prop), k < N → w.heap.size + 2 ≤ W.heap.size → I k Z W → T k x Z W → (∀ a' W', Kp W W' Nul → (∀ V, Kp W' V (fun i => i = w.heap.size + 1) → (∃ r, V.heap[w.heap.size + 1]? = some (.loop r)) → body.wpIn (Fence.wide.inRound (w.heap.size + 1)) (n - 1 - 1) P (fun e _ X => (e = .normal ∧ Kp V X (fun i => (Z i ∨ Wt x i) ∨ W.heap.size ≤ i) ∧ ∃ Z', I (k + 1) Z' X ∧ More Z Z' W) ∨ (e = .ret ∧ Kp V X (fun i => (Z i ∨ Wt x i) ∨ W.heap.size ≤ i) ∧ Ix X)) a' V) → K a' W') →
      assign.wpIn (Fence.wide.inRound (w.heap.size + 1)) (n - 1 - 1) P (Exit.then K (fun _ _ _ => False)) { tmps := (ps.zip (encs x)).foldl (fun t (p, v) => t.setIfInBounds p v) a.tmps, defers := [] } W)
    (k : Nat) (x : α) (Z : Nat → Prop) (W : World) (hkN : k < N) (hi : I k Z W) (ht : T k x Z W) (hl : W.heap[w.heap.size + 1]? = some (.loop (lrec fn a ps assign body w.heap.size .ready none))) (hk : W.heap[w.heap.size]? = some (.deferred (some []))) :
    YieldAt Fence.wide (n - 1 - 1) P (w.heap.size + 1) (encs x) W fun e W' =>
      (e = .returned (.bool true) ∧ (∃ Z', (I (k + 1) Z' W' ∧ W'.heap[w.heap.size + 1]? = some (.loop (lrec fn a ps assign body w.heap.size .ready none)) ∧ W'.heap[w.heap.size]? = some (.deferred (some []))) ∧ More Z Z' W) ∧ Kp W W' (fun i => (Z i ∨ Wt x i) ∨ i = w.heap.size + 1)) ∨
      (e = .returned (.bool false) ∧ (Ix W' ∧ W'.heap[w.heap.size + 1]? = some (.loop (lrec fn a ps assign body w.heap.size .done (some .ret))) ∧ W'.heap[w.heap.size]? = some (.deferred (some [])))) := by
  have hy := run_yield (P := P) (args := encs x) hl (hps x)
  have hWl : w.heap.size + 1 < W.heap.size := (Array.getElem?_eq_some_iff.1 hl).1
  refine ⟨fn, _, assign, body, hy, roundIn_of_wpIn hfn (hround k x Z W _ hkN hWl hi ht ?_)⟩
  clear hy
  intro a' V hkp hbody
  have vl := (hkp.block _ hWl (fun x => x)).trans hl
  have vk := (hkp.block _ (by omega) (fun x => x)).trans hk
  have hlt : w.heap.size + 1 < V.heap.size := (Array.getElem?_eq_some_iff.1 vl).1
  refine ⟨_, run_beginRound vl rfl, ?_⟩
  obtain ⟨bz, hbz⟩ : ∃ bz : Loop, { lrec fn a ps assign body w.heap.size .ready none with state := .busy } = bz := ⟨_, rfl⟩
  obtain ⟨U, hU⟩ : ∃ U, V.putObj (w.heap.size + 1) (.loop bz) = U := ⟨_, rfl⟩
  rw [hbz, hU]
  have ul : U.heap[w.heap.size + 1]? = some (.loop bz) := by rw [← hU]; exact World.putObj_heap_same hlt
  have uk : U.heap[w.heap.size]? = some (.deferred (some [])) := by rw [← hU]; exact (World.putObj_heap_other (by omega)).trans vk
  have hVU : Kp V U (fun i => i = w.heap.size + 1) := by rw [← hU]; exact putObj_self
  refine wpIn_mono (hbody U hVU ⟨_, ul⟩) ?_
  have leave : ∀ (jump : Option Code) (X : World), Kp U X (fun i => (Z i ∨ Wt x i) ∨ W.heap.size ≤ i) →
      (Instr.endRound (w.heap.size + 1) jump).run P X = .ok (.bool jump.isNone) (X.putObj (w.heap.size + 1) (.loop (lrec fn a ps assign body w.heap.size (if jump.isNone then .ready else .done) jump))) ∧
      (X.putObj (w.heap.size + 1) (.loop (lrec fn a ps assign body w.heap.size (if jump.isNone then .ready else .done) jump))).heap[w.heap.size + 1]? = some (.loop (lrec fn a ps assign body w.heap.size (if jump.isNone then .ready else .done) jump)) ∧
      (X.putObj (w.heap.size + 1) (.loop (lrec fn a ps assign body w.heap.size (if jump.isNone then .ready else .done) jump))).heap[w.heap.size]? = some (.deferred (some [])) ∧ Kp X (X.putObj (w.heap.size + 1) (.loop (lrec fn a ps assign body w.heap.size (if jump.isNone then .ready else .done) jump))) (fun i => i = w.heap.size + 1) := by
    intro jump X hX
    have hUl : w.heap.size + 1 < U.heap.size := (Array.getElem?_eq_some_iff.1 ul).1
    have xl := (hX.block _ hUl (fun q => q.elim (fun q => q.elim (hZ _ _ _ hi).2 (hT _ _ _ _ ht).2) (fun q => by omega))).trans ul
    have xk := (hX.block _ (by omega) (fun q => q.elim (fun q => q.elim (hZ _ _ _ hi).1 (hT _ _ _ _ ht).1) (fun q => by omega))).trans uk
    refine ⟨?_, World.putObj_heap_same (Array.getElem?_eq_some_iff.1 xl).1, (World.putObj_heap_other (by omega)).trans xk, putObj_self⟩
    have := run_endRound (P := P) jump xl
    rw [← hbz] at this
    exact this
  rintro e a3 X (⟨rfl, q1, Z', q2, q3⟩ | ⟨rfl, q1, q2⟩)
  · obtain ⟨r1, r2, r3, r4⟩ := leave none X q1
    refine ⟨_, _, r1, .inl ⟨rfl, ⟨Z', ⟨hI _ _ _ _ q2 (r4.mono (fun i _ e => .inr e)), r2, r3⟩, q3⟩, ?_⟩⟩
    exact ((hkp.of_nul.trans (hVU.mono (fun i _ e => .inr e))).cut q1 (fun i hi e => e.elim .inl (fun q => by omega))).trans (r4.mono (fun i _ e => .inr e))
  · obtain ⟨r1, r2, r3, r4⟩ := leave (some .ret) X q1
    exact ⟨_, _, r1, .inr ⟨rfl, hIx _ _ q2 (r4.mono (fun i _ e => .inr e)), r2, r3⟩⟩
/-- What a function ranged over does: N rounds, in which Z grows. -/
def SeqOw3 (P : Program) (gf : Nat) (lb : Array Value) (encs : α → Array Value) (Wt : α → Nat → Prop) (T : Nat → α → (Nat → Prop) → World → Prop) (N : Nat) (S : Nat → Prop) (w : World) : Prop :=
  ∀ (J : Nat → (Nat → Prop) → World → Prop) (Jx : World → Prop) (Z : Nat → Prop) (W : World), Kp w W Nul → w.heap.size + 2 ≤ W.heap.size → (∀ k Z W W', J k Z W → Kp W W' Nul → J k Z W') → (∀ W W', Jx W → Kp W W' Nul → Jx W') → (∀ k Z W, J k Z W → (∀ i, Z i → i < W.heap.size) ∧ ∀ i, i < w.heap.size → Z i → S i) →
      (∀ m k x Z W1, k < N → J k Z W1 → T k x Z W1 → YieldAt Fence.wide m P (w.heap.size + 1) (encs x) W1 fun e W' => (e = .returned (.bool true) ∧ (∃ Z', J (k + 1) Z' W' ∧ More Z Z' W1) ∧ Kp W1 W' (fun i => (Z i ∨ Wt x i) ∨ i = w.heap.size + 1)) ∨ (e = .returned (.bool false) ∧ Jx W')) → J 0 Z W →
      Calls P gf (#[.func (.yield (w.heap.size + 1)) #[] #[]] ++ lb) W fun e W' => (∃ v, e = .returned v) ∧ ((∃ Z', J N Z' W') ∨ Jx W')
/-- The caller's law. -/
theorem wp_range_ow3 {gf : Nat} {lb : Array Value} (hg : a.eval g = .func (.func gf) #[] lb) (eg : ∀ args w, (callFunc gf args).run P w = .ok (.enter gf args) w)
    {encs : α → Array Value} (Wt : α → Nat → Prop) (hps : ∀ x, (encs x).size = ps.size) (T : Nat → α → (Nat → Prop) → World → Prop) (hT : ∀ k x Z W, T k x Z W → ¬ Wt x w.heap.size ∧ ¬ Wt x (w.heap.size + 1)) {N : Nat} (S : Nat → Prop)
    (hseq : SeqOw3 P gf lb encs Wt T N S w)
    (I : Nat → (Nat → Prop) → World → Prop) (hZ : ∀ k Z W, I k Z W → ¬ Z w.heap.size ∧ ¬ Z (w.heap.size + 1)) (hZl : ∀ k Z W, I k Z W → (∀ i, Z i → i < W.heap.size) ∧ ∀ i, i < w.heap.size → Z i → S i)
    (hI : ∀ k Z W W', I k Z W → Kp W W' (fun i => i = w.heap.size ∨ i = w.heap.size + 1) → I k Z W') (Ix : World → Prop) (hIx : ∀ W W', Ix W → Kp W W' (fun i => i = w.heap.size ∨ i = w.heap.size + 1) → Ix W') (Z0 : Nat → Prop) (h0 : I 0 Z0 w)
    (hround : ∀ (k : Nat) (x : α) (Z : Nat → Prop) (W : World) (K : Act → World → Prop), k < N → w.heap.size + 2 ≤ W.heap.size → I k Z W → T k x Z W → (∀ a' W', Kp W W' Nul → (∀ V, Kp W' V (fun i => i = w.heap.size + 1) → (∃ r, V.heap[w.heap.size + 1]? = some (.loop r)) → body.wpIn (Fence.wide.inRound (w.heap.size + 1)) (8 - 1 - 1) P (fun e _ X => (e = .normal ∧ Kp V X (fun i => (Z i ∨ Wt x i) ∨ W.heap.size ≤ i) ∧ ∃ Z', I (k + 1) Z' X ∧ More Z Z' W) ∨ (e = .ret ∧ Kp V X (fun i => (Z i ∨ Wt x i) ∨ W.heap.size ≤ i) ∧ Ix X)) a' V) → K a' W') →
      assign.wpIn (Fence.wide.inRound (w.heap.size + 1)) (8 - 1 - 1) P (Exit.then K (fun _ _ _ => False)) { tmps := (ps.zip (encs x)).foldl (fun t (p, v) => t.setIfInBounds p v) a.tmps, defers := [] } W)
    (hdone : ∀ (D : Nat) (Z : Nat → Prop) (W : World), D = w.heap.size → I N Z W → W.heap[D]? = some (.deferred (some [])) → Q .normal { a with defers := { target := .collected D, args := #[] } :: a.defers } W)
    (hstop : ∀ (D : Nat) (W : World), D = w.heap.size → Ix W → W.heap[D]? = some (.deferred (some [])) → Code.ret.wp P Q { a with defers := { target := .collected D, args := #[] } :: a.defers } W) :
    (Code.rangeFunc g ps assign body).wp P Q a w := by
  refine (wpIn_wide (n := 8)).1 ?_
  refine wpIn_rangeFunc fun fn hfn => ?_
  obtain ⟨W1, hW1⟩ : ∃ W1, (w.alloc (.deferred (some []))).alloc (.loop (lrec fn a ps assign body w.heap.size .ready none)) = W1 := ⟨_, rfl⟩
  have l1 : W1.heap[w.heap.size + 1]? = some (.loop (lrec fn a ps assign body w.heap.size .ready none)) := by
    have := World.alloc_heap_new (w.alloc (.deferred (some []))) (.loop (lrec fn a ps assign body w.heap.size .ready none))
    rw [World.size_alloc, hW1] at this
    exact this
  have k1 : W1.heap[w.heap.size]? = some (.deferred (some [])) := by rw [← hW1]; exact (Below.heap_alloc _ _ _ (by simp)).trans (World.alloc_heap_new w _)
  have s1 : W1.heap.size = w.heap.size + 2 := by rw [← hW1]; simp
  have kW : Kp w W1 Nul := by rw [← hW1]; exact ((Kp.refl w Nul).alloc _).alloc _
  refine ⟨w.heap.size + 1, [{ target := .collected w.heap.size, args := #[] }], W1, { target := .fn (.func gf) lb, args := #[.func (.yield (w.heap.size + 1)) #[] #[]] }, W1, gf, #[.func (.yield (w.heap.size + 1)) #[] #[]] ++ lb, W1, ?_, ?_, fun f' _ => trivial, ?_, fun _ => by decide, ?_⟩
  · rw [← hW1]; exact run_enterLoop_outer _ _ _ _ _
  · simp only [resolve, hg]
    simp [go_sem]
  · simp [invoke, go_sem, eg]
  · have hkeep : ∀ {A B : World} {o : Obj} {i : Nat}, Kp A B Nul → A.heap[i]? = some o → B.heap[i]? = some o := fun h e => (h.block _ (Array.getElem?_eq_some_iff.1 e).1 (fun x => x)).trans e
    refine callsIn_wide.2 ((hseq
      (fun k Z W => I k Z W ∧ W.heap[w.heap.size + 1]? = some (.loop (lrec fn a ps assign body w.heap.size .ready none)) ∧ W.heap[w.heap.size]? = some (.deferred (some [])))
      (fun W => Ix W ∧ W.heap[w.heap.size + 1]? = some (.loop (lrec fn a ps assign body w.heap.size .done (some .ret))) ∧ W.heap[w.heap.size]? = some (.deferred (some [])))
      Z0 W1 kW (by omega)
      (fun k Z A B h hk => ⟨hI k Z A B h.1 hk.of_nul, hkeep hk h.2.1, hkeep hk h.2.2⟩)
      (fun A B h hk => ⟨hIx A B h.1 hk.of_nul, hkeep hk h.2.1, hkeep hk h.2.2⟩)
      (fun k Z A h => hZl k Z A h.1)
      (fun m k x Z W hkN h ht => by
        obtain ⟨fn', tms, asg, bo, y1, y2⟩ := round_ow3 (n := 8) (P := P) (Wt := Wt) hfn hps T hT I hZ hI Ix hIx hround k x Z W hkN h.1 ht h.2.1 h.2.2
        exact ⟨fn', tms, asg, bo, y1, roundIn_any y2⟩)
      ⟨hI 0 Z0 w W1 h0 kW.of_nul, l1, k1⟩).mono ?_)
    rintro e W2 ⟨⟨v, rfl⟩, (⟨Z, hi, hl, hk⟩ | ⟨hi, hl, hk⟩)⟩
    rotate_left
    · exact ⟨some .ret, _, run_endLoop (P := P) hl (by simp [lrec]), wpIn_wide.2 (hstop _ _ rfl (hIx _ _ hi (putObj_self.mono (fun i _ e => .inr e))) ((World.putObj_heap_other (by omega)).trans hk))⟩
    exact ⟨none, _, run_endLoop (P := P) hl (by simp [lrec]), hdone _ Z _ rfl (hI _ _ _ _ hi (putObj_self.mono (fun i _ e => .inr e))) ((World.putObj_heap_other (by omega)).trans hk)⟩
end
end Go.Proofs.YtbkcebbddhaifaaGreatDoor
namespace Go.Proofs.YtbkcebbddhaifaaGreatDoor
open Go.RowKit Go.Maps Go.Sort Go.Lib Go.Shelf
attribute [local go_sem] Oper.semAt_some

set_option maxRecDepth 100000 in
set_option maxHeartbeats 16000000 in
theorem in1_seq3 (g x0 x1 A : Nat) (L K : List Cc) (w : World) (S : Nat → Prop) (hg : GI 0 w g L) (hF : GridIn w (fun b => b < A) g L) (gL : ∀ x ∈ L, Gd x.2) (hv : ∀ x ∈ L, vC x.1.1 x.1.2 = true) (lL : L.length ≤ 4096)
    (hK : Strict (K.map (·.1))) (hKL : ∀ x, x ∈ K ↔ x ∈ L) (hA : A ≤ w.heap.size) (hS : ∀ i, S i → A ≤ i) (b0 : Blk w x0 [.pointer (some ⟨g, 0, none⟩)] 24) (b1 : Blk w x1 [.int .i64 1, .int .i64 1, .int .i64 256, .int .i64 4096] 34) :
    SeqOw3 Tryz.prog 121 #[.pointer (some ⟨x0, 0, none⟩), .pointer (some ⟨x1, 0, none⟩)] encQ wtQ (TellQ w K) K.length S w := by
  intro J Jx Z W hkw hsz hJ _ hJz hY hj0
  have c0 : W.cell? ⟨x0, 0, none⟩ = some (.pointer (some ⟨g, 0, none⟩)) := (b0.kp hkw (fun x => x)).cell rfl
  have d0 : W.cell? ⟨x1, 0, none⟩ = some (.int .i64 1) := (b1.kp hkw (fun x => x)).cell rfl
  have d1 : W.cell? ⟨x1, 1, none⟩ = some (.int .i64 1) := (b1.kp hkw (fun x => x)).cell rfl
  have d2 : W.cell? ⟨x1, 2, none⟩ = some (.int .i64 256) := (b1.kp hkw (fun x => x)).cell rfl
  have d3 : W.cell? ⟨x1, 3, none⟩ = some (.int .i64 4096) := (b1.kp hkw (fun x => x)).cell rfl
  have HWi : Hid (Calls Tryz.prog 122 #[.pointer (some ⟨g, 0, none⟩), .agg #[.int .i64 1, .int .i64 1, .int .i64 256, .int .i64 4096]] W fun e w' => ∃ b ys, e = .returned (.slice (some ⟨b, 0, none⟩) ys.length ys.length) ∧ WiR W w' (fun b => b < A) L b ys) := within_at g _ L W (hg.kp hkw) (hF.kp hkw) gL hv lL
  have HSZ : Hid (w.heap.size + 2 ≤ W.heap.size) := hsz
  have HJ : Hid (∀ k Z W W', J k Z W → Kp W W' Nul → J k Z W') := hJ
  have HJZ : Hid (∀ k Z W, J k Z W → (∀ i, Z i → i < W.heap.size) ∧ ∀ i, i < w.heap.size → Z i → S i) := hJz
  have HY : Hid (∀ m k x Z W1, k < K.length → J k Z W1 → TellQ w K k x Z W1 → YieldAt Fence.wide m Tryz.prog (w.heap.size + 1) (encQ x) W1 fun e W' => (e = .returned (.bool true) ∧ (∃ Z', J (k + 1) Z' W' ∧ More Z Z' W1) ∧ Kp W1 W' (fun i => (Z i ∨ wtQ x i) ∨ i = w.heap.size + 1)) ∨ (e = .returned (.bool false) ∧ Jx W')) := hY
  have HJ0 : Hid (J 0 Z W) := hj0
  have HGd : Hid (∀ x ∈ L, Gd x.2) := gL
  have HA : Hid (A ≤ w.heap.size) := hA
  have HS : Hid (∀ i, S i → A ≤ i) := hS
  have HKK : Hid (∀ ys : List (Cc × Value), Strict (ys.map (·.1.1)) → (∀ x, x ∈ ys.map (·.1) ↔ x ∈ L) → ys.map (·.1) = K) := fun ys h1 h2 => same_in_order (by rw [List.map_map]; exact h1) hK (fun x => (h2 x).trans (hKL x).symm)
  have HLK : Hid (K.length ≤ 4096) := by
    have hnd : (K.map (·.1)).Nodup := strict_nodup hK
    have := nodup_le _ (L.map (·.1)) hnd (fun x hx => by
      obtain ⟨y, hy, rfl⟩ := List.mem_map.1 hx
      exact List.mem_map.2 ⟨y, (hKL y).1 hy, rfl⟩)
    rw [List.length_map, List.length_map] at this
    show _ ≤ _; omega
  clear hkw hsz hJ hJz hY hj0 hg hF gL hv lL hK hKL hA hS b0 b1
  simp only [List.append_toArray, List.cons_append, List.nil_append]
  refine (callsIn_wide (n := 8)).1 ?_
  refine callsIn_of_wp Tryz.func121 rfl trivial ?_ rfl
  simp only [Tryz.ntmps121, List.size_toArray, List.length_cons, List.length_nil, Nat.reduceAdd, Nat.reduceSub, Array.replicate_succ, Array.replicate_zero, List.push_toArray, List.append_toArray, List.nil_append, List.cons_append]
  gi_wp2_with (fail)
  refine ⟨trivial, (callsIn_wide.2 HWi.out).mono ?_⟩
  rintro e w2 ⟨b, ys, rfl, hwi⟩
  have HW2 : Hid (WiR W w2 (fun b => b < A) L b ys) := hwi
  have HYK : Hid (ys.map (·.1) = K) := HKK.out ys hwi.strict hwi.mem
  have hlen : ys.length = K.length := by rw [← HYK.out, List.length_map]
  clear hwi c0 d0 d1 d2 d3 HKK
  rw [hlen]
  generalize hn : K.length = n at *
  have HLEN : Hid (ys.length = n) := hlen
  have HN : Hid (K.length = n) := hn
  clear hn hlen
  gi_wp2_with (fail)
  gi_loopw [12] (fun i wr => ∃ (q : Nat) (Z : Nat → Prop), q ≤ n ∧ i = .int .i64 q ∧ J q Z wr ∧ InR W A b ys Z wr) (fun i _ => n - (RowKit.intOf i).toNat)
  case atStart =>
    refine ⟨0, Z, Nat.zero_le _, rfl, HJ.out _ _ _ _ HJ0.out HW2.out.kp, ?_⟩
    exact ⟨fun h => by have h1 := (HJZ.out _ _ _ HJ0.out).1 b h; have h2 := HW2.out.low; omega, HW2.out.rng, HW2.out.tree, HW2.out.kp.size⟩
  case round =>
    obtain ⟨q, Zq, hq, rfl, hjq, hin⟩ := hrel
    have HJQ : Hid (J q Zq wr) := hjq
    have HIN : Hid (InR W A b ys Zq wr) := hin
    clear hjq hin
    by_cases hlt : q < n
    · have hqt : q < ys.length := by rw [HLEN.out]; exact hlt
      obtain ⟨⟨⟨⟨c, s⟩, a⟩, sa⟩, hys⟩ : ∃ y, ys[q] = y := ⟨_, rfl⟩
      have hget : ys[q]? = some (((c, s), a), sa) := by rw [List.getElem?_eq_getElem hqt, hys]
      have HR : Hid (wr.rangeAt b (q * 23) (ptCells ((c, s), a) sa)) := HIN.out.rng q _ hget
      have htree : NdIn wr (fun i => i < A) sa a.t := HIN.out.tree _ (List.mem_of_getElem? hget)
      have O1 : Hid (sa.oneCell' = true) := htree.one
      have hKq : K[q]? = some ((c, s), a) := by rw [← HYK.out, List.getElem?_map, hget]; rfl
      have HKQ : Hid (K[q]? = some ((c, s), a)) := hKq
      have hgd : Gd a := HGd.out _ ((HW2.out.mem _).1 (List.mem_map.2 ⟨_, List.mem_of_getElem? hget, rfl⟩))
      have hbl : b < wr.heap.size := rangeAt_lt HR.out
      have HBL : Hid (b < wr.heap.size) := hbl
      have B5 : Blk (wr.alloc (.cells (ptCells ((c, s), a) sa).toArray 57)) wr.heap.size (ptCells ((c, s), a) sa) 57 := Blk.new wr _ _
      have HAt : Hid (∀ wq, Kp (wr.alloc (.cells (ptCells ((c, s), a) sa).toArray 57)) wq Nul → wq.rangeAt wr.heap.size 0 [.int .i64 c, .int .i64 s]) := fun wq k j v hj => by
        match j, hj with
        | 0, hj => cases hj; exact (B5.kp k (fun x => x)).cell rfl
        | 1, hj => cases hj; exact (B5.kp k (fun x => x)).cell rfl
      have HCo : Hid (∀ wq, Kp (wr.alloc (.cells (ptCells ((c, s), a) sa).toArray 57)) wq Nul → wq.rangeAt wr.heap.size 2 (a.cells sa)) := fun wq k j v hj => by
        refine (B5.kp k (fun x => x)).cell ?_
        show (ptCells ((c, s), a) sa)[2 + j]? = some v
        rw [Nat.add_comm 2 j]; exact hj
      have HCp : Hid (∀ wq, Kp (wr.alloc (.cells (ptCells ((c, s), a) sa).toArray 57)) wq Nul → Calls Tryz.prog 61 #[.agg (a.cells sa).toArray] wq fun e w' => ∃ sl', e = .returned (.agg (a.cells sl').toArray) ∧ (∃ fp, Own w' wq.heap.size sl' a.t fp) ∧ Kp wq w' Nul) := fun wq k => by
        have hk : Kp wr wq Nul := ((Kp.refl wr Nul).alloc _).trans k
        refine (gCopy_at a sa (fun i => i < A) wq hgd.x hgd.size hgd.ok (htree.kp hk (fun _ _ x => x))).mono ?_
        rintro e w' ⟨sl', fp, rfl, h1, h2⟩
        rw [hgd.cp] at h1 ⊢
        exact ⟨sl', rfl, ⟨fp, h1⟩, Kp.of_below h2⟩
      have hkb : (q : Int) + 1 ≤ 9223372036854775807 := by have := HLK.out; omega
      have hq0 : (0 : Int) ≤ (q : Int) := by omega
      have hqn : (q : Int) < (n : Int) := by omega
      clear hqt hys hget htree hKq hgd hbl B5
      gi_wp2_with (first
        | (refine loadIn_put rfl (.tmp 14) rfl b (q * 23) rfl (ptCells ((c, s), a) sa) HR.out rfl ?_)
        | (refine storeIn_new' rfl 57 (.tmp 5) (.tmp 15) rfl _ _ _ _ (by first | rfl | simp) rfl rfl rfl infoPut (all_oneCell_toArray (pt_one _ O1.out)) ?_)
        | fail)
      refine regIn_noPanic ?_
      refine wpIn_region_any (by kernel_rfl) ?_
      refine any_take (i := 0) (.func (.yield (w.heap.size + 1)) #[] #[]) (some 16) rfl rfl (by kernel_rfl) (by kernel_rfl) (by kernel_rfl) (fun _ _ _ h => h) rfl (fun _ => rfl) (fun _ => by go_simp) ?_
      simp only [Act.put, List.setIfInBounds_toArray, List.set_cons_zero, List.set_cons_succ]
      refine any_take (i := 1) (.pointer (some ⟨wr.heap.size, 0, none⟩)) (some 17) rfl rfl (by kernel_rfl) (by kernel_rfl) (by kernel_rfl) (fun _ _ _ h => h) rfl (fun _ => rfl) (fun _ => by go_simp) ?_
      simp only [Act.put, List.setIfInBounds_toArray, List.set_cons_zero, List.set_cons_succ]
      refine any_take (i := 3) (.pointer (some ⟨wr.heap.size, 2, none⟩)) (some 19) rfl rfl (by kernel_rfl) (by kernel_rfl) (by kernel_rfl) (fun _ _ _ h => h) rfl (fun _ => rfl) (fun _ => by go_simp) ?_
      simp only [Act.put, List.setIfInBounds_toArray, List.set_cons_zero, List.set_cons_succ]
      refine wpAnyIn_ready (rs := [2, 4]) (by kernel_rfl) (by simp) ?_
      intro i hi
      rcases List.mem_cons.1 hi with rfl | hi
      · clear hi
        refine any_val (v := .agg #[.int .i64 c, .int .i64 s]) (some 18) rfl rfl rfl rfl (fun c h => by cases h) (w' := (wr.alloc (.cells (ptCells ((c, s), a) sa).toArray 57)).drew) (exec_load_row 32 (.tmp 17) rfl wr.heap.size 0 rfl [.int .i64 c, .int .i64 s] _ (HAt.out (wr.alloc (.cells (ptCells ((c, s), a) sa).toArray 57)).drew ((Kp.refl _ _).drew)) Tryz.underlying32 rfl infoAddr2) ?_
        simp only [Act.put, List.setIfInBounds_toArray, List.set_cons_zero, List.set_cons_succ]
        refine wpAnyIn_ready (rs := [4]) (by kernel_rfl) (by simp) ?_
        intro i hi
        obtain rfl := List.mem_singleton.1 hi
        clear hi
        refine any_val (v := .agg (a.cells sa).toArray) (some 20) rfl rfl rfl rfl (fun c h => by cases h) (w' := (wr.alloc (.cells (ptCells ((c, s), a) sa).toArray 57)).drew) (exec_load_row 55 (.tmp 19) rfl wr.heap.size 2 rfl (a.cells sa) _ (HCo.out _ ((Kp.refl _ _).drew)) Tryz.underlying55 rfl infoContent) ?_
        simp only [Act.put, List.setIfInBounds_toArray, List.set_cons_zero, List.set_cons_succ]
        refine wpAnyIn_ready (rs := [5]) (by kernel_rfl) (by simp) ?_
        intro i hi
        obtain rfl := List.mem_singleton.1 hi
        clear hi
        refine any_call (f := 61) (args := #[.agg (a.cells sa).toArray]) (some 21) rfl rfl rfl (by decide) (fun c h => by cases h) (w' := (wr.alloc (.cells (ptCells ((c, s), a) sa).toArray 57)).drew) (by go_simp) ?_
        refine (HCp.out _ ((Kp.refl _ _).drew)).mono ?_
        rintro e w4 ⟨s4, rfl, ⟨f4, ho4⟩, hk4⟩
        refine ⟨_, rfl, ?_⟩
        simp only [Act.put, List.setIfInBounds_toArray, List.set_cons_zero, List.set_cons_succ]
        refine wpAnyIn_ready (rs := [6]) (by kernel_rfl) (by simp) ?_
        intro i hi
        obtain rfl := List.mem_singleton.1 hi
        clear hi
        have hK4 : Kp wr w4 Nul := ((Kp.refl wr Nul).alloc _).drew.trans hk4
        have hs5 : (wr.alloc (.cells (ptCells ((c, s), a) sa).toArray 57)).drew.heap.size = wr.heap.size + 1 := World.size_alloc _ _
        obtain ⟨fn, tms, asg, bod, hy, hR⟩ := HY.out 7 q ((((c, s), a), s4), f4) Zq w4 hlt (HJ.out _ _ _ _ HJQ.out hK4) ⟨HKQ.out, ho4.own, ho4.nodup, fun i hi => by
          have h1 := (ho4.new i hi).1
          have h2 := HSZ.out
          have h3 := HIN.out.size
          exact ⟨by omega, fun hz => by have := (HJZ.out _ _ _ HJQ.out).1 i hz; omega⟩⟩
        refine any_round (l := w.heap.size + 1) (f := fn) (tms := tms) (asg := asg) (bod := bod) (some 22) rfl rfl rfl (by decide) (fun c h => by cases h) (w' := w4) ?_ ?_
        · first
          | (go_simp; done)
          | (go_simp; exact hy)
        refine hR.mono ?_
        rintro e w6 (⟨rfl, ⟨Z6, hj6, hm6⟩, hk6⟩ | ⟨rfl, hx6⟩)
        rotate_left
        · have HX6 : Hid (Jx w6) := hx6
          refine ⟨_, rfl, ?_⟩
          simp only [Act.put, List.setIfInBounds_toArray, List.set_cons_zero, List.set_cons_succ]
          clear hy hR hx6 hk4 ho4 hK4 hs5
          refine wpAnyIn_ready (rs := [7]) (by kernel_rfl) (by simp) ?_
          intro i hi
          obtain rfl := List.mem_singleton.1 hi
          clear hi
          refine any_val (v := .bool true) (some 23) rfl rfl rfl rfl (fun c h => by cases h) (w' := w6) (by go_simp) ?_
          simp only [Act.put, List.setIfInBounds_toArray, List.set_cons_zero, List.set_cons_succ]
          refine wpAnyIn_done (by kernel_rfl) ?_ _
          refine NoPanic.normal ?_
          gi_wp2_with (fail)
          refine bodyPost_ret (res_none rfl _ _) rfl ?_
          exact ⟨⟨_, rfl⟩, .inr HX6.out⟩
        refine ⟨_, rfl, ?_⟩
        simp only [Act.put, List.setIfInBounds_toArray, List.set_cons_zero, List.set_cons_succ]
        have HJ6 : Hid (J (q + 1) Z6 w6) := hj6
        have HIN6 : Hid (InR W A b ys Z6 w6) := by
          have k6 : Kp wr w6 (fun i => (Zq i ∨ i ∈ f4) ∨ i = w.heap.size + 1) := hK4.of_nul.trans hk6
          have hbl := HBL.out
          have hb2 := HW2.out.low
          have hb3 := HSZ.out
          refine ⟨fun hz => ?_, fun i y hy => rangeAt_kp (HIN.out.rng i y hy) k6 (fun e => ?_), fun y hy => (HIN.out.tree y hy).kp k6 (fun i hi e => ?_), Nat.le_trans HIN.out.size k6.size⟩
          · rcases hm6 b hz with h | h
            · exact HIN.out.nz h
            · have h1 := HBL.out
              have h2 := hK4.size
              omega
          · rcases e with (e | e) | e
            · exact HIN.out.nz e
            · have := (ho4.new _ e).1; omega
            · omega
          · have hi' : i < A := hi
            have h1 := HA.out
            rcases e with (e | e) | e
            · have := HS.out i ((HJZ.out _ _ _ HJQ.out).2 i (by omega) e)
              omega
            · have := (ho4.new _ e).1; have := HIN.out.size; omega
            · omega
        clear hy hR hj6 hm6 hk6 hk4 ho4 hK4 hs5
        refine wpAnyIn_ready (rs := [7]) (by kernel_rfl) (by simp) ?_
        intro i hi
        obtain rfl := List.mem_singleton.1 hi
        clear hi
        refine any_val (v := .bool false) (some 23) rfl rfl rfl rfl (fun c h => by cases h) (w' := w6) (by go_simp) ?_
        simp only [Act.put, List.setIfInBounds_toArray, List.set_cons_zero, List.set_cons_succ]
        refine wpAnyIn_done (by kernel_rfl) ?_ _
        refine NoPanic.normal ?_
        gi_wp2_with (fail)
        exact ⟨⟨q + 1, Z6, by omega, by go_num, HJ6.out, HIN6.out⟩, by simp only [RowKit.intOf]; omega⟩
      · obtain rfl := List.mem_singleton.1 hi
        clear hi
        refine any_val (v := .agg (a.cells sa).toArray) (some 20) rfl rfl rfl rfl (fun c h => by cases h) (w' := (wr.alloc (.cells (ptCells ((c, s), a) sa).toArray 57)).drew) (exec_load_row 55 (.tmp 19) rfl wr.heap.size 2 rfl (a.cells sa) _ (HCo.out _ ((Kp.refl _ _).drew)) Tryz.underlying55 rfl infoContent) ?_
        simp only [Act.put, List.setIfInBounds_toArray, List.set_cons_zero, List.set_cons_succ]
        refine wpAnyIn_ready (rs := [2, 5]) (by kernel_rfl) (by simp) ?_
        intro i hi
        rcases List.mem_cons.1 hi with rfl | hi
        · clear hi
          refine any_val (v := .agg #[.int .i64 c, .int .i64 s]) (some 18) rfl rfl rfl rfl (fun c h => by cases h) (w' := (wr.alloc (.cells (ptCells ((c, s), a) sa).toArray 57)).drew) (exec_load_row 32 (.tmp 17) rfl wr.heap.size 0 rfl [.int .i64 c, .int .i64 s] _ (HAt.out (wr.alloc (.cells (ptCells ((c, s), a) sa).toArray 57)).drew ((Kp.refl _ _).drew)) Tryz.underlying32 rfl infoAddr2) ?_
          simp only [Act.put, List.setIfInBounds_toArray, List.set_cons_zero, List.set_cons_succ]
          refine wpAnyIn_ready (rs := [5]) (by kernel_rfl) (by simp) ?_
          intro i hi
          obtain rfl := List.mem_singleton.1 hi
          clear hi
          refine any_call (f := 61) (args := #[.agg (a.cells sa).toArray]) (some 21) rfl rfl rfl (by decide) (fun c h => by cases h) (w' := (wr.alloc (.cells (ptCells ((c, s), a) sa).toArray 57)).drew) (by go_simp) ?_
          refine (HCp.out _ ((Kp.refl _ _).drew)).mono ?_
          rintro e w4 ⟨s4, rfl, ⟨f4, ho4⟩, hk4⟩
          refine ⟨_, rfl, ?_⟩
          simp only [Act.put, List.setIfInBounds_toArray, List.set_cons_zero, List.set_cons_succ]
          refine wpAnyIn_ready (rs := [6]) (by kernel_rfl) (by simp) ?_
          intro i hi
          obtain rfl := List.mem_singleton.1 hi
          clear hi
          have hK4 : Kp wr w4 Nul := ((Kp.refl wr Nul).alloc _).drew.trans hk4
          have hs5 : (wr.alloc (.cells (ptCells ((c, s), a) sa).toArray 57)).drew.heap.size = wr.heap.size + 1 := World.size_alloc _ _
          obtain ⟨fn, tms, asg, bod, hy, hR⟩ := HY.out 7 q ((((c, s), a), s4), f4) Zq w4 hlt (HJ.out _ _ _ _ HJQ.out hK4) ⟨HKQ.out, ho4.own, ho4.nodup, fun i hi => by
            have h1 := (ho4.new i hi).1
            have h2 := HSZ.out
            have h3 := HIN.out.size
            exact ⟨by omega, fun hz => by have := (HJZ.out _ _ _ HJQ.out).1 i hz; omega⟩⟩
          refine any_round (l := w.heap.size + 1) (f := fn) (tms := tms) (asg := asg) (bod := bod) (some 22) rfl rfl rfl (by decide) (fun c h => by cases h) (w' := w4) ?_ ?_
          · first
            | (go_simp; done)
            | (go_simp; exact hy)
          refine hR.mono ?_
          rintro e w6 (⟨rfl, ⟨Z6, hj6, hm6⟩, hk6⟩ | ⟨rfl, hx6⟩)
          rotate_left
          · have HX6 : Hid (Jx w6) := hx6
            refine ⟨_, rfl, ?_⟩
            simp only [Act.put, List.setIfInBounds_toArray, List.set_cons_zero, List.set_cons_succ]
            clear hy hR hx6 hk4 ho4 hK4 hs5
            refine wpAnyIn_ready (rs := [7]) (by kernel_rfl) (by simp) ?_
            intro i hi
            obtain rfl := List.mem_singleton.1 hi
            clear hi
            refine any_val (v := .bool true) (some 23) rfl rfl rfl rfl (fun c h => by cases h) (w' := w6) (by go_simp) ?_
            simp only [Act.put, List.setIfInBounds_toArray, List.set_cons_zero, List.set_cons_succ]
            refine wpAnyIn_done (by kernel_rfl) ?_ _
            refine NoPanic.normal ?_
            gi_wp2_with (fail)
            refine bodyPost_ret (res_none rfl _ _) rfl ?_
            exact ⟨⟨_, rfl⟩, .inr HX6.out⟩
          refine ⟨_, rfl, ?_⟩
          simp only [Act.put, List.setIfInBounds_toArray, List.set_cons_zero, List.set_cons_succ]
          have HJ6 : Hid (J (q + 1) Z6 w6) := hj6
          have HIN6 : Hid (InR W A b ys Z6 w6) := by
            have k6 : Kp wr w6 (fun i => (Zq i ∨ i ∈ f4) ∨ i = w.heap.size + 1) := hK4.of_nul.trans hk6
            have hbl := HBL.out
            have hb2 := HW2.out.low
            have hb3 := HSZ.out
            refine ⟨fun hz => ?_, fun i y hy => rangeAt_kp (HIN.out.rng i y hy) k6 (fun e => ?_), fun y hy => (HIN.out.tree y hy).kp k6 (fun i hi e => ?_), Nat.le_trans HIN.out.size k6.size⟩
            · rcases hm6 b hz with h | h
              · exact HIN.out.nz h
              · have h1 := HBL.out
                have h2 := hK4.size
                omega
            · rcases e with (e | e) | e
              · exact HIN.out.nz e
              · have := (ho4.new _ e).1; omega
              · omega
            · have hi' : i < A := hi
              have h1 := HA.out
              rcases e with (e | e) | e
              · have := HS.out i ((HJZ.out _ _ _ HJQ.out).2 i (by omega) e)
                omega
              · have := (ho4.new _ e).1; have := HIN.out.size; omega
              · omega
          clear hy hR hj6 hm6 hk6 hk4 ho4 hK4 hs5
          refine wpAnyIn_ready (rs := [7]) (by kernel_rfl) (by simp) ?_
          intro i hi
          obtain rfl := List.mem_singleton.1 hi
          clear hi
          refine any_val (v := .bool false) (some 23) rfl rfl rfl rfl (fun c h => by cases h) (w' := w6) (by go_simp) ?_
          simp only [Act.put, List.setIfInBounds_toArray, List.set_cons_zero, List.set_cons_succ]
          refine wpAnyIn_done (by kernel_rfl) ?_ _
          refine NoPanic.normal ?_
          gi_wp2_with (fail)
          exact ⟨⟨q + 1, Z6, by omega, by go_num, HJ6.out, HIN6.out⟩, by simp only [RowKit.intOf]; omega⟩
        · obtain rfl := List.mem_singleton.1 hi
          clear hi
          refine any_call (f := 61) (args := #[.agg (a.cells sa).toArray]) (some 21) rfl rfl rfl (by decide) (fun c h => by cases h) (w' := (wr.alloc (.cells (ptCells ((c, s), a) sa).toArray 57)).drew) (by go_simp) ?_
          refine (HCp.out _ ((Kp.refl _ _).drew)).mono ?_
          rintro e w4 ⟨s4, rfl, ⟨f4, ho4⟩, hk4⟩
          refine ⟨_, rfl, ?_⟩
          simp only [Act.put, List.setIfInBounds_toArray, List.set_cons_zero, List.set_cons_succ]
          refine wpAnyIn_ready (rs := [2]) (by kernel_rfl) (by simp) ?_
          intro i hi
          obtain rfl := List.mem_singleton.1 hi
          clear hi
          refine any_val (v := .agg #[.int .i64 c, .int .i64 s]) (some 18) rfl rfl rfl rfl (fun c h => by cases h) (w' := w4) (exec_load_row 32 (.tmp 17) rfl wr.heap.size 0 rfl [.int .i64 c, .int .i64 s] _ (HAt.out w4 (((Kp.refl _ _).drew).trans hk4)) Tryz.underlying32 rfl infoAddr2) ?_
          simp only [Act.put, List.setIfInBounds_toArray, List.set_cons_zero, List.set_cons_succ]
          refine wpAnyIn_ready (rs := [6]) (by kernel_rfl) (by simp) ?_
          intro i hi
          obtain rfl := List.mem_singleton.1 hi
          clear hi
          have hK4 : Kp wr w4 Nul := ((Kp.refl wr Nul).alloc _).drew.trans hk4
          have hs5 : (wr.alloc (.cells (ptCells ((c, s), a) sa).toArray 57)).drew.heap.size = wr.heap.size + 1 := World.size_alloc _ _
          obtain ⟨fn, tms, asg, bod, hy, hR⟩ := HY.out 7 q ((((c, s), a), s4), f4) Zq w4 hlt (HJ.out _ _ _ _ HJQ.out hK4) ⟨HKQ.out, ho4.own, ho4.nodup, fun i hi => by
            have h1 := (ho4.new i hi).1
            have h2 := HSZ.out
            have h3 := HIN.out.size
            exact ⟨by omega, fun hz => by have := (HJZ.out _ _ _ HJQ.out).1 i hz; omega⟩⟩
          refine any_round (l := w.heap.size + 1) (f := fn) (tms := tms) (asg := asg) (bod := bod) (some 22) rfl rfl rfl (by decide) (fun c h => by cases h) (w' := w4) ?_ ?_
          · first
            | (go_simp; done)
            | (go_simp; exact hy)
          refine hR.mono ?_
          rintro e w6 (⟨rfl, ⟨Z6, hj6, hm6⟩, hk6⟩ | ⟨rfl, hx6⟩)
          rotate_left
          · have HX6 : Hid (Jx w6) := hx6
            refine ⟨_, rfl, ?_⟩
            simp only [Act.put, List.setIfInBounds_toArray, List.set_cons_zero, List.set_cons_succ]
            clear hy hR hx6 hk4 ho4 hK4 hs5
            refine wpAnyIn_ready (rs := [7]) (by kernel_rfl) (by simp) ?_
            intro i hi
            obtain rfl := List.mem_singleton.1 hi
            clear hi
            refine any_val (v := .bool true) (some 23) rfl rfl rfl rfl (fun c h => by cases h) (w' := w6) (by go_simp) ?_
            simp only [Act.put, List.setIfInBounds_toArray, List.set_cons_zero, List.set_cons_succ]
            refine wpAnyIn_done (by kernel_rfl) ?_ _
            refine NoPanic.normal ?_
            gi_wp2_with (fail)
            refine bodyPost_ret (res_none rfl _ _) rfl ?_
            exact ⟨⟨_, rfl⟩, .inr HX6.out⟩
          refine ⟨_, rfl, ?_⟩
          simp only [Act.put, List.setIfInBounds_toArray, List.set_cons_zero, List.set_cons_succ]
          have HJ6 : Hid (J (q + 1) Z6 w6) := hj6
          have HIN6 : Hid (InR W A b ys Z6 w6) := by
            have k6 : Kp wr w6 (fun i => (Zq i ∨ i ∈ f4) ∨ i = w.heap.size + 1) := hK4.of_nul.trans hk6
            have hbl := HBL.out
            have hb2 := HW2.out.low
            have hb3 := HSZ.out
            refine ⟨fun hz => ?_, fun i y hy => rangeAt_kp (HIN.out.rng i y hy) k6 (fun e => ?_), fun y hy => (HIN.out.tree y hy).kp k6 (fun i hi e => ?_), Nat.le_trans HIN.out.size k6.size⟩
            · rcases hm6 b hz with h | h
              · exact HIN.out.nz h
              · have h1 := HBL.out
                have h2 := hK4.size
                omega
            · rcases e with (e | e) | e
              · exact HIN.out.nz e
              · have := (ho4.new _ e).1; omega
              · omega
            · have hi' : i < A := hi
              have h1 := HA.out
              rcases e with (e | e) | e
              · have := HS.out i ((HJZ.out _ _ _ HJQ.out).2 i (by omega) e)
                omega
              · have := (ho4.new _ e).1; have := HIN.out.size; omega
              · omega
          clear hy hR hj6 hm6 hk6 hk4 ho4 hK4 hs5
          refine wpAnyIn_ready (rs := [7]) (by kernel_rfl) (by simp) ?_
          intro i hi
          obtain rfl := List.mem_singleton.1 hi
          clear hi
          refine any_val (v := .bool false) (some 23) rfl rfl rfl rfl (fun c h => by cases h) (w' := w6) (by go_simp) ?_
          simp only [Act.put, List.setIfInBounds_toArray, List.set_cons_zero, List.set_cons_succ]
          refine wpAnyIn_done (by kernel_rfl) ?_ _
          refine NoPanic.normal ?_
          gi_wp2_with (fail)
          exact ⟨⟨q + 1, Z6, by omega, by go_num, HJ6.out, HIN6.out⟩, by simp only [RowKit.intOf]; omega⟩
    · have hqe : q = n := by omega
      subst hqe
      have hqn : ¬ ((q : Int) < (q : Int)) := by omega
      have HJN : Hid (∃ Z', J q Z' wr) := ⟨_, HJQ.out⟩
      gi_wp2_with (fail)
      go_end0
      exact ⟨⟨_, rfl⟩, .inl (by rw [HN.out]; exact HJN.out)⟩
end Go.Proofs.YtbkcebbddhaifaaGreatDoor
namespace Go.Proofs.YtbkcebbddhaifaaGreatDoor
open Go.RowKit Go.Shelf
attribute [local go_sem] Oper.semAt_some

section
variable {n : Nat} {P : Program} {α : Type} {g : Operand} {ps : Array Tmp} {assign body : Code} {Q : Exit → Act → World → Prop} {a : Act} {w : World}
/-- One round. -/
theorem round_in {encs : α → Array Value} {fn : FuncId} {N d : Nat} (hfn : Fence.wide.fn fn) (hps : ∀ x, (encs x).size = ps.size) (T : Nat → α → Prop) (S : Nat → Prop) (hS : ∀ i, S i → i < w.heap.size)
    (I : Nat → World → Prop) (Ix : World → Prop) (hI : ∀ k W W', I k W → Kp W W' (fun i => w.heap.size ≤ i) → I k W') (hIx : ∀ W W', Ix W → Kp W W' (fun i => w.heap.size ≤ i) → Ix W')
    (hround : ∀ (k : Nat) (x : α) (W : World) (K : Act → World → Prop), w.heap.size + 1 ≤ W.heap.size → k < N → T k x → I k W → (∀ a' W', Kp W W' Nul → (∀ V, Kp W' V (fun i => i = w.heap.size) → body.wpIn (Fence.wide.inRound w.heap.size) (n - 1 - 1) P (fun e _ X => (e = .normal ∧ Kp V X (fun i => S i ∨ W.heap.size ≤ i) ∧ I (k + 1) X) ∨ (e = .ret ∧ Kp V X (fun i => S i ∨ W.heap.size ≤ i) ∧ Ix X)) a' V) → K a' W') →
      assign.wpIn (Fence.wide.inRound w.heap.size) (n - 1 - 1) P (Exit.then K (fun _ _ _ => False)) { tmps := (ps.zip (encs x)).foldl (fun t (p, v) => t.setIfInBounds p v) a.tmps, defers := [] } W)
    (k : Nat) (x : α) (W : World) (hkN : k < N) (htx : T k x) (hi : I k W) (hl : W.heap[w.heap.size]? = some (.loop (lrec fn a ps assign body d .ready none))) :
    YieldAt Fence.wide (n - 1 - 1) P w.heap.size (encs x) W fun e W' =>
      (e = .returned (.bool true) ∧ (I (k + 1) W' ∧ W'.heap[w.heap.size]? = some (.loop (lrec fn a ps assign body d .ready none))) ∧ Kp W W' (fun i => S i ∨ i = w.heap.size)) ∨
      (e = .returned (.bool false) ∧ (Ix W' ∧ W'.heap[w.heap.size]? = some (.loop (lrec fn a ps assign body d .done (some .ret)))) ∧ Kp W W' (fun i => S i ∨ i = w.heap.size)) := by
  have hy := run_yield (P := P) (args := encs x) hl (hps x)
  refine ⟨fn, _, assign, body, hy, roundIn_of_wpIn hfn (hround k x W _ (Array.getElem?_eq_some_iff.1 hl).1 hkN htx hi ?_)⟩
  clear hy
  intro a' V hkp hbody
  have hWl : w.heap.size < W.heap.size := (Array.getElem?_eq_some_iff.1 hl).1
  have vl := (hkp.block _ hWl (fun x => x)).trans hl
  have hlt : w.heap.size < V.heap.size := (Array.getElem?_eq_some_iff.1 vl).1
  refine ⟨_, run_beginRound vl rfl, ?_⟩
  obtain ⟨bz, hbz⟩ : ∃ bz : Loop, { lrec fn a ps assign body d .ready none with state := .busy } = bz := ⟨_, rfl⟩
  obtain ⟨U, hU⟩ : ∃ U, V.putObj w.heap.size (.loop bz) = U := ⟨_, rfl⟩
  rw [hbz, hU]
  have ul : U.heap[w.heap.size]? = some (.loop bz) := by rw [← hU]; exact World.putObj_heap_same hlt
  have hVU : Kp V U (fun i => i = w.heap.size) := by rw [← hU]; exact putObj_self
  refine wpIn_mono (hbody U hVU) ?_
  have leave : ∀ (jump : Option Code) (X : World), Kp U X (fun i => S i ∨ W.heap.size ≤ i) →
      (Instr.endRound w.heap.size jump).run P X = .ok (.bool jump.isNone) (X.putObj w.heap.size (.loop (lrec fn a ps assign body d (if jump.isNone then .ready else .done) jump))) ∧
      (X.putObj w.heap.size (.loop (lrec fn a ps assign body d (if jump.isNone then .ready else .done) jump))).heap[w.heap.size]? = some (.loop (lrec fn a ps assign body d (if jump.isNone then .ready else .done) jump)) ∧
      Kp X (X.putObj w.heap.size (.loop (lrec fn a ps assign body d (if jump.isNone then .ready else .done) jump))) (fun i => i = w.heap.size) := by
    intro jump X hX
    have hUl : w.heap.size < U.heap.size := (Array.getElem?_eq_some_iff.1 ul).1
    have xl := (hX.block _ hUl (fun h => by rcases h with h | h; have := hS _ h; omega; omega)).trans ul
    refine ⟨?_, World.putObj_heap_same (Array.getElem?_eq_some_iff.1 xl).1, putObj_self⟩
    have := run_endRound (P := P) jump xl
    rw [← hbz] at this
    exact this
  rintro e a3 X hp
  rcases hp with ⟨rfl, q1, q2⟩ | ⟨rfl, q1, q2⟩
  · obtain ⟨r1, r2, r4⟩ := leave none X q1
    refine ⟨_, _, r1, .inl ⟨rfl, ⟨hI _ _ _ q2 (r4.mono (fun i _ e => by show w.heap.size ≤ i; omega)), r2⟩, ?_⟩⟩
    exact ((hkp.of_nul.trans (hVU.mono (fun i _ e => .inr e))).trans' q1 (fun i hi e => by rcases e with e | e; exact .inl e; omega)).trans (r4.mono (fun i _ e => .inr e))
  · obtain ⟨r1, r2, r4⟩ := leave (some .ret) X q1
    refine ⟨_, _, r1, .inr ⟨rfl, ⟨hIx _ _ q2 (r4.mono (fun i _ e => by show w.heap.size ≤ i; omega)), r2⟩, ?_⟩⟩
    exact ((hkp.of_nul.trans (hVU.mono (fun i _ e => .inr e))).trans' q1 (fun i hi e => by rcases e with e | e; exact .inl e; omega)).trans (r4.mono (fun i _ e => .inr e))
/-- The caller's law. -/
theorem wpIn_range_in {l₀ : Nat} {r₀ : Loop} (hl0 : w.heap[l₀]? = some (.loop r₀)) (h1 : 1 ≤ n) {gf : Nat} {lb : Array Value} (hg : a.eval g = .func (.func gf) #[] lb) (eg : ∀ args w, (callFunc gf args).run P w = .ok (.enter gf args) w)
    {encs : α → Array Value} (hps : ∀ x, (encs x).size = ps.size) (T : Nat → α → Prop) (S : Nat → Prop) (hS : ∀ i, S i → i < w.heap.size) {N : Nat}
    (hseq : ∀ (J : Nat → World → Prop) (Jx : World → Prop) (W : World), Kp w W Nul → w.heap.size + 1 ≤ W.heap.size → (∀ k W W', J k W → Kp W W' (fun i => w.heap.size + 1 ≤ i) → J k W') → (∀ W W', Jx W → Kp W W' (fun i => w.heap.size + 1 ≤ i) → Jx W') →
      (∀ m k x W1, k < N → T k x → J k W1 → YieldAt Fence.wide m P w.heap.size (encs x) W1 fun e W' => (e = .returned (.bool true) ∧ J (k + 1) W' ∧ Kp W1 W' (fun i => S i ∨ i = w.heap.size)) ∨ (e = .returned (.bool false) ∧ Jx W' ∧ Kp W1 W' (fun i => S i ∨ i = w.heap.size))) → J 0 W →
      Calls P gf (#[.func (.yield w.heap.size) #[] #[]] ++ lb) W fun e W' => (∃ v, e = .returned v) ∧ (J N W' ∨ Jx W'))
    (I : Nat → World → Prop) (Ix : World → Prop) (hI : ∀ k W W', I k W → Kp W W' (fun i => w.heap.size ≤ i) → I k W') (hIx : ∀ W W', Ix W → Kp W W' (fun i => w.heap.size ≤ i) → Ix W') (h0 : I 0 w)
    (hround : ∀ (k : Nat) (x : α) (W : World) (K : Act → World → Prop), w.heap.size + 1 ≤ W.heap.size → k < N → T k x → I k W → (∀ a' W', Kp W W' Nul → (∀ V, Kp W' V (fun i => i = w.heap.size) → body.wpIn (Fence.wide.inRound w.heap.size) (n - 1 - 1) P (fun e _ X => (e = .normal ∧ Kp V X (fun i => S i ∨ W.heap.size ≤ i) ∧ I (k + 1) X) ∨ (e = .ret ∧ Kp V X (fun i => S i ∨ W.heap.size ≤ i) ∧ Ix X)) a' V) → K a' W') →
      assign.wpIn (Fence.wide.inRound w.heap.size) (n - 1 - 1) P (Exit.then K (fun _ _ _ => False)) { tmps := (ps.zip (encs x)).foldl (fun t (p, v) => t.setIfInBounds p v) a.tmps, defers := [] } W)
    (hdone : ∀ W, I N W → Q .normal a W) (hstop : ∀ W, Ix W → Code.ret.wpIn (Fence.wide.inRound l₀) n P Q a W) :
    (Code.rangeFunc g ps assign body).wpIn (Fence.wide.inRound l₀) n P Q a w := by
  refine wpIn_rangeFunc fun fn hfn => ?_
  obtain ⟨W1, hW1⟩ : ∃ W1, w.alloc (.loop (lrec fn a ps assign body r₀.defers .ready none)) = W1 := ⟨_, rfl⟩
  have l1 : W1.heap[w.heap.size]? = some (.loop (lrec fn a ps assign body r₀.defers .ready none)) := by rw [← hW1]; exact World.alloc_heap_new w _
  have s1 : W1.heap.size = w.heap.size + 1 := by rw [← hW1]; simp
  have kW : Kp w W1 Nul := by rw [← hW1]; exact (Kp.refl w Nul).alloc _
  refine ⟨w.heap.size, [], W1, { target := .fn (.func gf) lb, args := #[.func (.yield w.heap.size) #[] #[]] }, W1, gf, #[.func (.yield w.heap.size) #[] #[]] ++ lb, W1, ?_, ?_, fun f' _ => trivial, ?_, fun _ => h1, ?_⟩
  · rw [← hW1]; exact run_enterLoop_inner hl0 _ _ _ _ _
  · simp only [resolve, hg]
    simp [go_sem]
  · simp [invoke, go_sem, eg]
  · have hkeep : ∀ {A B : World} {o : Obj} {i : Nat}, Kp A B (fun i => w.heap.size + 1 ≤ i) → i < w.heap.size + 1 → A.heap[i]? = some o → B.heap[i]? = some o := fun h hi e => (h.block _ (Array.getElem?_eq_some_iff.1 e).1 (by omega)).trans e
    refine CallsIn.inRound l₀ (callsIn_wide.2 ((hseq
      (fun k W => I k W ∧ W.heap[w.heap.size]? = some (.loop (lrec fn a ps assign body r₀.defers .ready none)))
      (fun W => Ix W ∧ W.heap[w.heap.size]? = some (.loop (lrec fn a ps assign body r₀.defers .done (some .ret))))
      W1 kW (by omega)
      (fun k A B h hk => ⟨hI k A B h.1 (hk.mono (fun i _ e => by show w.heap.size ≤ i; have e' : w.heap.size + 1 ≤ i := e; omega)), hkeep hk (by omega) h.2⟩)
      (fun A B h hk => ⟨hIx A B h.1 (hk.mono (fun i _ e => by show w.heap.size ≤ i; have e' : w.heap.size + 1 ≤ i := e; omega)), hkeep hk (by omega) h.2⟩)
      (fun m k x W hkN htx h => by
        obtain ⟨fn', tms, asg, bo, y1, y2⟩ := round_in (n := n) (P := P) (d := r₀.defers) hfn hps T S hS I Ix hI hIx hround k x W hkN htx h.1 h.2
        exact ⟨fn', tms, asg, bo, y1, roundIn_any y2⟩)
      ⟨hI 0 w W1 h0 kW.of_nul, l1⟩).mono ?_))
    rintro e W2 ⟨⟨v, rfl⟩, (⟨hi, hl⟩ | ⟨hi, hl⟩)⟩
    · exact ⟨none, _, run_endLoop (P := P) hl (by simp [lrec]), hdone _ (hI _ _ _ hi (putObj_self.mono (fun i _ e => by show w.heap.size ≤ i; omega)))⟩
    · exact ⟨some .ret, _, run_endLoop (P := P) hl (by simp [lrec]), hstop _ (hIx _ _ hi (putObj_self.mono (fun i _ e => by show w.heap.size ≤ i; omega)))⟩
end
end Go.Proofs.YtbkcebbddhaifaaGreatDoor
namespace Go.Proofs.YtbkcebbddhaifaaGreatDoor
open Go.RowKit Go.Maps Go.Sort Go.Lib Go.Shelf
attribute [local go_sem] Oper.semAt_some

/-- Is a node an area with one of the last lines? -/
def lowH (cols : Bool) (n : Int) (h : Hd) : Bool := h.k == 6 && (if cols then decide (256 - n < h.c2) else decide (4096 - n < h.r2))
mutual
theorem low_pre (cols : Bool) (n : Int) : ∀ t : Nd, lowN cols n t = (preN t).any (lowH cols n)
  | .mk h ts => by rw [lowN, preN, List.any_cons, lowL_pre cols n ts]; rfl
theorem lowL_pre (cols : Bool) (n : Int) : ∀ ts : List Nd, lowL cols n ts = (preL ts).any (lowH cols n)
  | [] => by rw [lowL, preL]; rfl
  | t :: ts => by rw [lowL, preL, List.any_append, low_pre cols n t, lowL_pre cols n ts]
end
mutual
theorem low_cpy (cols : Bool) (n : Int) : ∀ t : Nd, lowN cols n (cpy t) = lowN cols n t
  | .mk h ts => by rw [cpy, lowN, lowN, lowL_cpy cols n ts]
theorem lowL_cpy (cols : Bool) (n : Int) : ∀ ts : List Nd, lowL cols n (cpyL ts) = lowL cols n ts
  | [] => by rw [cpyL]
  | t :: ts => by rw [cpyL, lowL, lowL, low_cpy cols n t, lowL_cpy cols n ts]
end
/-- Has a formula of a list of cells such an area? -/
def lowS (cols : Bool) (n : Int) (L : List Cc) : Bool := L.any (fun x => lowN cols n x.2.t)
theorem low_none {cols : Bool} {n : Int} {t : Nd} (h : ∀ x ∈ (preN (cpy t)).take t.size, lowH cols n x = false) : lowN cols n t = false := by
  rw [← low_cpy, low_pre]
  rw [List.take_of_length_le (by rw [preN_len, cpy_size]; exact Nat.le_refl _)] at h
  rw [List.any_eq_false]
  intro x hx q
  rw [h x hx] at q
  cases q
theorem low_some {cols : Bool} {n : Int} {t : Nd} {k : Nat} {x : Hd} (hx : (preN (cpy t))[k]? = some x) (h : lowH cols n x = true) : lowN cols n t = true := by
  rw [← low_cpy, low_pre, List.any_eq_true]
  exact ⟨x, List.mem_of_getElem? hx, h⟩
theorem take_more {α : Type} {l : List α} {k : Nat} {x : α} {P : α → Prop} (hx : l[k]? = some x) (h : ∀ y ∈ l.take k, P y) (h1 : P x) : ∀ y ∈ l.take (k + 1), P y := by
  intro y hy
  rw [List.take_add_one, hx, List.mem_append] at hy
  rcases hy with q | q
  · exact h y q
  · have : y = x := by simpa using q
    rw [this]; exact h1
/-- Where the variables lie: byCol, n, the result. -/
structure LwC (w V : World) (cols : Bool) (n : Int) (r : Bool) : Prop where
  c : Blk V w.heap.size [.bool cols] 4
  n' : Blk V (w.heap.size + 1) [.int .i64 n] 3
  r' : Blk V (w.heap.size + 2) [.bool r] 4
theorem LwC.kp {w V V' : World} {cols r : Bool} {n : Int} {S : Nat → Prop} (h : LwC w V cols n r) (k : Kp V V' S) (hS : ∀ i, w.heap.size ≤ i → i ≤ w.heap.size + 2 → ¬ S i) : LwC w V' cols n r :=
  ⟨h.c.kp k (hS _ (by omega) (by omega)), h.n'.kp k (hS _ (by omega) (by omega)), h.r'.kp k (hS _ (by omega) (by omega))⟩
structure LwI (w : World) (cols : Bool) (n : Int) (K : List Cc) (j : Nat) (Z : Nat → Prop) (V : World) : Prop where
  cs : LwC w V cols n false
  z : ∀ i, Z i ↔ i = w.heap.size + 2
  kp : Kp w V Nul
  no : ∀ x ∈ K.take j, lowN cols n x.2.t = false
set_option maxRecDepth 20000 in
set_option maxHeartbeats 16000000 in
theorem low22_at (g : Nat) (L : List Cc) (cols : Bool) (n : Int) (w : World) (hg : GI 0 w g L) (hok : Ok17 L) (hn0 : 0 ≤ n) (hn1 : n ≤ 256) :
    Calls Tryz.prog 24 #[.pointer (some ⟨g, 0, none⟩), .bool cols, .int .i64 n] w fun e w' => e = .returned (.bool (lowS cols n L)) ∧ Kp w w' Nul := by
  obtain ⟨W1, hW1⟩ : ∃ W1, ((w.alloc (.cells #[.bool cols] 4)).alloc (.cells #[.int .i64 n] 3)).alloc (.cells #[.bool false] 4) = W1 := ⟨_, rfl⟩
  have k1 : Kp w W1 Nul := by rw [← hW1]; exact (((Kp.refl w Nul).alloc _).alloc _).alloc _
  have s1 : W1.heap.size = w.heap.size + 3 := by rw [← hW1, World.size_alloc, World.size_alloc, World.size_alloc]
  have c1 : LwC w W1 cols n false := by
    refine ⟨?_, ?_, ?_⟩
    · rw [← hW1]; exact ((Blk.new w _ _).alloc _).alloc _
    · have := Blk.new (w.alloc (.cells #[.bool cols] 4)) [.int .i64 n] 3
      rw [World.size_alloc] at this
      rw [← hW1]; exact this.alloc _
    · have := Blk.new ((w.alloc (.cells #[.bool cols] 4)).alloc (.cells #[.int .i64 n] 3)) [.bool false] 4
      rw [World.size_alloc, World.size_alloc] at this
      rw [← hW1]; exact this
  have HW1 : Hid (((w.alloc (.cells #[.bool cols] 4)).alloc (.cells #[.int .i64 n] 3)).alloc (.cells #[.bool false] 4) = W1) := hW1
  have HAll : Hid (Calls Tryz.prog 26 #[.pointer (some ⟨g, 0, none⟩)] W1 fun e w' => ∃ x0 x1, e = .returned (.func (.func 121) #[] #[.pointer (some ⟨x0, 0, none⟩), .pointer (some ⟨x1, 0, none⟩)]) ∧ Blk w' x0 [.pointer (some ⟨g, 0, none⟩)] 24 ∧ Blk w' x1 [.int .i64 1, .int .i64 1, .int .i64 256, .int .i64 4096] 34 ∧ Kp W1 w' Nul) := all22 g W1
  have HOk : Hid (Ok17 L) := hok
  have HG : Hid (GI 0 w g L) := hg
  clear hW1 hg hok
  refine (callsIn_wide (n := 12)).1 ?_
  refine callsIn_of_wp_marks Tryz.func24 rfl trivial ?_ rfl
  simp only [Tryz.ntmps24, List.size_toArray, List.length_cons, List.length_nil, Nat.reduceAdd, Nat.reduceSub, Array.replicate_succ, Array.replicate_zero, List.push_toArray, List.append_toArray, List.nil_append, List.cons_append]
  refine wpIn_wide.2 ?_
  go_wp2_with fail
  rw [HW1.out]
  clear HW1
  refine HAll.out.mono ?_
  rintro e w6 ⟨x0, x1, rfl, hb0, hb1, hk6⟩
  have c6 : LwC w w6 cols n false := c1.kp hk6 (fun _ _ _ x => x)
  have k6 : Kp w w6 Nul := k1.trans hk6
  have hs6 : w.heap.size + 3 ≤ w6.heap.size := by have := hk6.size; omega
  have HX0 : Hid (Blk w6 x0 [.pointer (some ⟨g, 0, none⟩)] 24) := hb0
  have HX1 : Hid (Blk w6 x1 [.int .i64 1, .int .i64 1, .int .i64 256, .int .i64 4096] 34) := hb1
  clear hb0 hb1 hk6 HAll c1 k1 s1
  go_wp2_with fail
  obtain ⟨K, hKs, hKm⟩ := in_order HG.out.once
  have HKm : Hid (∀ x, x ∈ K ↔ x ∈ L) := hKm
  have HKs : Hid (Strict (K.map (·.1))) := hKs
  have HI0 : LwI w cols n K 0 (fun i => i = w.heap.size + 2) w6 := ⟨c6, fun i => Iff.rfl, k6, fun x hx => by rw [List.take_zero] at hx; simp at hx⟩
  have hgA : GridIn w6 (fun b => b < w.heap.size) g L := HG.out.low.kp k6
  clear hKs hKm c6
  generalize hact : Act.mk _ _ = a0
  refine wp_range_ow3 (α := (Cc × Value) × List Nat) (N := K.length) (gf := 121) (lb := #[.pointer (some ⟨x0, 0, none⟩), .pointer (some ⟨x1, 0, none⟩)]) (by rw [← hact]; rfl) (enters_of Tryz.func121 (by kernel_rfl) rfl) (encs := encQ) wtQ (fun _ => rfl) (TellQ w6 K) ?hT (fun i => i = w.heap.size + 2) ?hseq (fun j Z W => LwI w cols n K j Z W) ?hZ ?hZl ?hI (fun V => Blk V (w.heap.size + 2) [.bool true] 4 ∧ Kp w V Nul ∧ lowS cols n L = true) ?hIx (fun i => i = w.heap.size + 2) ?h0 ?hround ?hdone ?hstop
  case hT => rintro k x Z W ⟨_, _, _, h⟩; exact ⟨fun q => by have := (h _ q).1; omega, fun q => by have := (h _ q).1; omega⟩
  case hseq => exact in1_seq3 g x0 x1 w.heap.size L K w6 _ (HG.out.kp k6) hgA HOk.out.gd HOk.out.at' HOk.out.len HKs.out HKm.out k6.size (fun i e => by have e' : i = w.heap.size + 2 := e; omega) HX0.out HX1.out
  case hZ =>
    intro j Z W h
    exact ⟨fun q => by have := (h.z _).1 q; omega, fun q => by have := (h.z _).1 q; omega⟩
  case hZl =>
    intro j Z W h
    exact ⟨fun i hi => by have := (h.z _).1 hi; have h2 := h.cs.r'.lt; omega, fun i _ hi => (h.z _).1 hi⟩
  case hI =>
    intro j Z W W' h q
    exact ⟨h.cs.kp q (fun i h1 h2 e => by rcases e with e | e <;> omega), h.z, h.kp.trans' q (fun i hi e => by rcases e with e | e <;> omega), h.no⟩
  case hIx =>
    rintro W W' ⟨h1, h2, h3⟩ q
    exact ⟨h1.kp q (fun e => by rcases e with e | e <;> omega), h2.trans' q (fun i hi e => by rcases e with e | e <;> omega), h3⟩
  case h0 => exact HI0
  case hround =>
    subst hact
    rintro j ⟨⟨⟨⟨c, s⟩, a⟩, sl⟩, fp⟩ Z W KK hkN hsW hI ⟨hKk, hown, hnd, hfz⟩ hcont
    have O1 : Hid (sl.oneCell' = true) := hown.one
    have hmem : ((c, s), a) ∈ L := (HKm.out _).1 (List.mem_of_getElem? hKk)
    have HGd : Hid (Gd a) := HOk.out.gd _ hmem
    have HMm : Hid (((c, s), a) ∈ L) := hmem
    have HKk : Hid (K[j]? = some ((c, s), a)) := hKk
    have HIj : Hid (LwI w cols n K j Z W) := hI
    have HOwn : Hid (NdOwn W sl a.t fp) := hown
    have HFz : Hid (∀ i ∈ fp, w6.heap.size + 2 ≤ i ∧ ¬ Z i) := hfz
    clear hI hKk hown hnd hfz hmem HX0 HX1 HI0 hgA k6 HG
    simp only [List.zip_toArray, List.zip_cons_cons, List.zip_nil_right, List.foldl_toArray', List.foldl_cons, List.foldl_nil]
    gi_wp2_with (first
      | (refine storeIn_new' rfl 55 (.tmp 8) (.tmp 13) rfl _ _ _ _ (by first | rfl | simp) rfl rfl rfl infoContent (a.one O1.out) ?_)
      | fail)
    refine hcont _ _ ((Kp.refl W Nul).alloc _) (fun V hV hloop => ?_)
    have hWV : Kp W V (fun i => i = w6.heap.size + 1) := ((Kp.refl W _).alloc _).trans hV
    have HCV : Hid (LwC w V cols n false) := HIj.out.cs.kp hWV (fun i h1 h2 e => by have e' : i = w6.heap.size + 1 := e; omega)
    have HKV : Hid (Kp w V Nul) := HIj.out.kp.trans' hWV (fun i hi e => by have e' : i = w6.heap.size + 1 := e; omega)
    have HbC : Hid (Blk V W.heap.size (a.cells sl) 55) := (Blk.new W (a.cells sl) 55).kp hV (fun e => by have e' : W.heap.size = w6.heap.size + 1 := e; omega)
    have HOwnV : Hid (NdOwn V sl a.t fp) := HOwn.out.mono (fun i hi => hWV.block i (node_lt (HOwn.out.node i hi)) (fun e => by have e' : i = w6.heap.size + 1 := e; have := (HFz.out i hi).1; omega))
    have HNd : Hid (Calls Tryz.prog 67 #[.agg (a.t.hd.cells sl).toArray] V fun e w' => ∃ nb sl' fp, e = .returned (.func (.func 73) #[] #[.pointer (some ⟨nb, 0, none⟩)]) ∧ NdsK V w' a.t nb sl' fp) := lNodes_at a.t sl (fun _ => True) V (by have := HGd.out.size; omega) HGd.out.ok (HOwnV.out.isIn (fun _ _ => trivial))
    have HWs : Hid (W.heap.size < V.heap.size) := HbC.out.lt
    obtain ⟨rl, hrl⟩ := hloop
    have HLp : Hid (V.heap[w6.heap.size + 1]? = some (.loop rl)) := hrl
    have HSW : Hid (w6.heap.size + 2 ≤ W.heap.size ∧ w.heap.size + 3 ≤ w6.heap.size) := ⟨hsW, hs6⟩
    clear hcont hV hWV hrl hsW
    gi_wp2_with (first
      | (refine loadIn_row rfl 44 (.tmp 14) rfl W.heap.size 6 rfl (a.t.hd.cells sl) _ (ct_row6 HbC.out) Tryz.underlying44 rfl infoNode ?_)
      | fail)
    refine ⟨trivial, CallsIn.inRound _ ((callsIn_wide.2 HNd.out).mono ?_)⟩
    rintro e wi ⟨nb, sl', fp', rfl, hNK⟩
    gi_wp2_with (fail)
    have hVi : V.heap.size ≤ wi.heap.size := hNK.kp.size
    have hWs := HWs.out
    have hSW := HSW.out
    have hCi : LwC w wi cols n false := HCV.out.kp hNK.kp (fun _ _ _ x => x)
    have hl0 : wi.heap[w6.heap.size + 1]? = some (.loop rl) := (hNK.kp.block _ (Array.getElem?_eq_some_iff.1 HLp.out).1 (fun x => x)).trans HLp.out
    generalize hact2 : Act.mk _ _ = a1
    refine wpIn_range_in hl0 (by decide) (α := Hd) (N := a.t.size) (gf := 73) (lb := #[.pointer (some ⟨nb, 0, none⟩)]) (by rw [← hact2]; rfl) (enters_of Tryz.func73 (by kernel_rfl) rfl)
      (encs := fun x => #[x.val (.slice none 0 0)]) (fun _ => rfl) (fun k x => (preN (cpy a.t))[k]? = some x) (fun i => i = w.heap.size + 2) (fun i h => by have h' : i = w.heap.size + 2 := h; omega)
      ?hseq2
      (fun k U => LwC w U cols n false ∧ Kp V U Nul ∧ ∀ y ∈ (preN (cpy a.t)).take k, lowH cols n y = false)
      (fun U => Blk U (w.heap.size + 2) [.bool true] 4 ∧ Kp V U (fun i => i = w.heap.size + 2) ∧ lowN cols n a.t = true)
      ?hI2 ?hIx2 ⟨hCi, hNK.kp, fun y hy => by rw [List.take_zero] at hy; simp at hy⟩ ?hround2 ?hdone2 ?hstop2
    case hseq2 =>
      intro J Jx Wq hk' hsz' hJ' hJx' hY' h0'
      exact nodes1_seq wi.heap.size (wi.heap.size + 1) a.t nb sl' fp' wi hNK.blk hNK.own.own (fun i => i = w.heap.size + 2) (fun i h => by have h' : i = w.heap.size + 2 := h; omega) (fun b hb e => by
        have e' : b = w.heap.size + 2 := e
        rcases hb with hb | hb
        · have := hNK.new; omega
        · have := (hNK.own.new b hb).1; omega) (Nat.le_refl _) (Nat.lt_succ_self _) J Jx Wq hk' hsz' hJ' hJx' hY' h0'
    case hI2 =>
      rintro k U U' ⟨q1, q2, q3⟩ hk
      exact ⟨q1.kp hk (fun i h1 h2 e => by have e' : wi.heap.size ≤ i := e; omega), q2.trans' hk (fun i hi e => by have e' : wi.heap.size ≤ i := e; omega), q3⟩
    case hIx2 =>
      rintro U U' ⟨q1, q2, q3⟩ hk
      exact ⟨q1.kp hk (fun e => by have e' : wi.heap.size ≤ w.heap.size + 2 := e; omega), q2.trans' hk (fun i hi e => by have e' : wi.heap.size ≤ i := e; omega), q3⟩
    case hround2 =>
      subst hact2
      rintro k x U K' hsU hkN2 hpk ⟨q1, q2, q3⟩ hK'
      simp only [List.zip_toArray, List.zip_cons_cons, List.zip_nil_right, List.foldl_toArray', List.foldl_cons, List.foldl_nil]
      gi_wp2_with (first
        | (refine storeIn_new' rfl 44 (.tmp 9) (.tmp 17) rfl _ _ _ _ (by first | rfl | simp) rfl rfl rfl infoNode (x.one rfl) ?_)
        | fail)
      refine hK' _ _ ((Kp.refl U Nul).alloc _) (fun X hX => ?_)
      have bm : Blk X U.heap.size (x.cells (.slice none 0 0)) 44 := (Blk.new U _ _).kp hX (by show ¬ U.heap.size = wi.heap.size; omega)
      have kUX : Kp U X (fun i => i = wi.heap.size) := ((Kp.refl U _).alloc _).trans hX
      have cX : LwC w X cols n false := q1.kp kUX (fun i h1 h2 e => by have e' : i = wi.heap.size := e; omega)
      have kX : Kp V X Nul := q2.trans' kUX (fun i hi e => by have e' : i = wi.heap.size := e; omega)
      have x0 : X.cell? ⟨U.heap.size, 0, none⟩ = some (.int .i64 x.k) := bm.cell rfl
      have x10 : X.cell? ⟨U.heap.size, 10, none⟩ = some (.int .i64 x.c2) := bm.cell rfl
      have x11 : X.cell? ⟨U.heap.size, 11, none⟩ = some (.int .i64 x.r2) := bm.cell rfl
      have y4 : X.cell? ⟨w.heap.size, 0, none⟩ = some (.bool cols) := cX.c.cell rfl
      have y5 : X.cell? ⟨w.heap.size + 1, 0, none⟩ = some (.int .i64 n) := cX.n'.cell rfl
      have y6 : X.cell? ⟨w.heap.size + 2, 0, none⟩ = some (.bool false) := cX.r'.cell rfl
      have f6 : X.frozen? ⟨w.heap.size + 2, 0, none⟩ = false := cX.r'.froz _
      have HNo : Hid (lowH cols n x = false → Kp X X (fun i => i = w.heap.size + 2 ∨ U.heap.size ≤ i) ∧ LwC w X cols n false ∧ Kp V X Nul ∧ ∀ y ∈ (preN (cpy a.t)).take (k + 1), lowH cols n y = false) := fun hq => ⟨Kp.refl _ _, cX, kX, take_more hpk q3 hq⟩
      have HYes : Hid (lowH cols n x = true → Kp X (X.setCell ⟨w.heap.size + 2, 0, none⟩ (.bool true)) (fun i => i = w.heap.size + 2 ∨ U.heap.size ≤ i) ∧ Blk (X.setCell ⟨w.heap.size + 2, 0, none⟩ (.bool true)) (w.heap.size + 2) [.bool true] 4 ∧ Kp V (X.setCell ⟨w.heap.size + 2, 0, none⟩ (.bool true)) (fun i => i = w.heap.size + 2) ∧ lowN cols n a.t = true) := fun hq => ⟨(Kp.refl X _).setCell _ _ (.inr (.inl rfl)), cX.r'.set 0 _, kX.of_nul.setCell _ _ (.inr rfl), low_some hpk hq⟩
      have HLH : Hid (lowH cols n x = (x.k == 6 && (if cols then decide (256 - n < x.c2) else decide (4096 - n < x.r2)))) := rfl
      clear hK' hX bm kUX cX kX q1 q2 q3 hpk hCi hl0 hNK
      generalize lowH cols n x = lh at *
      generalize x.k = xk at *
      generalize x.c2 = xc at *
      generalize x.r2 = xr at *
      cases cols
      · by_cases h6 : xk = 6
        · subst h6
          by_cases hq : 4096 - n < xr
          · have hlh : lh = true := by rw [HLH.out]; simp [hq]
            gi_wp2_with (fail)
            exact HYes.out hlh
          · have hlh : lh = false := by rw [HLH.out]; simp; omega
            gi_wp2_with (fail)
            exact HNo.out hlh
        · have hlh : lh = false := by rw [HLH.out]; simp [h6]
          gi_wp2_with (fail)
          exact HNo.out hlh
      · by_cases h6 : xk = 6
        · subst h6
          by_cases hq : 256 - n < xc
          · have hlh : lh = true := by rw [HLH.out]; simp [hq]
            gi_wp2_with (fail)
            exact HYes.out hlh
          · have hlh : lh = false := by rw [HLH.out]; simp; omega
            gi_wp2_with (fail)
            exact HNo.out hlh
        · have hlh : lh = false := by rw [HLH.out]; simp [h6]
          gi_wp2_with (fail)
          exact HNo.out hlh
    case hdone2 =>
      subst hact2
      rintro U ⟨q1, q2, q3⟩
      have hEnd : (Kp V U (fun i => (Z i ∨ wtQ ((((c, s), a), sl), fp) i) ∨ W.heap.size ≤ i)) ∧ ∃ Z', LwI w cols n K (j + 1) Z' U ∧ More Z Z' W := ⟨q2.of_nul, Z, ⟨q1, HIj.out.z, HKV.out.trans q2, take_more HKk.out HIj.out.no (low_none q3)⟩, fun i hi => .inl hi⟩
      exact .inl ⟨rfl, hEnd⟩
    case hstop2 =>
      subst hact2
      rintro U ⟨q1, q2, q3⟩
      have hEnd : (Kp V U (fun i => (Z i ∨ wtQ ((((c, s), a), sl), fp) i) ∨ W.heap.size ≤ i)) ∧ Blk U (w.heap.size + 2) [.bool true] 4 ∧ Kp w U Nul ∧ lowS cols n L = true := ⟨q2.mono (fun i _ e => .inl (.inl ((HIj.out.z i).2 e))), q1, HKV.out.trans' q2 (fun i hi e => by have e' : i = w.heap.size + 2 := e; omega), by unfold lowS; rw [List.any_eq_true]; exact ⟨_, HMm.out, q3⟩⟩
      gi_wp2_with (fail)
  case hdone =>
    subst hact
    intro D Z W hD hI hdef
    have HDf : Hid (W.heap[D]? = some (.deferred (some []))) := hdef
    have HIe : Hid (LwI w cols n K K.length Z W) := hI
    have HDD : Hid (w6.heap.size = D ∧ w.heap.size + 3 ≤ w6.heap.size) := ⟨hD.symm, hs6⟩
    have HLS : Hid (lowS cols n L = false) := by
      show _ = _
      unfold lowS
      rw [List.any_eq_false]
      intro x hx q
      have := hI.no x (by rw [List.take_length]; exact (HKm.out x).2 hx)
      rw [this] at q
      cases q
    have y6 : W.cell? ⟨w.heap.size + 2, 0, none⟩ = some (.bool false) := hI.cs.r'.cell rfl
    have f6 : W.frozen? ⟨w.heap.size + 2, 0, none⟩ = false := hI.cs.r'.froz _
    clear hI hdef hD HI0 hgA k6
    go_wp2_with fail
    have hX2 : (W.setCell ⟨w.heap.size + 2, 0, none⟩ (.bool false)).heap[D]? = some (.deferred (some [])) := (heap_setCell_other _ _ _ _ (by show D ≠ w.heap.size + 2; have := HDD.out; omega)).trans HDf.out
    have hB2 : Blk (W.setCell ⟨w.heap.size + 2, 0, none⟩ (.bool false)) (w.heap.size + 2) [.bool false] 4 := HIe.out.cs.r'.set 0 _
    refine ⟨by simp, .inl ⟨_, _, rfl, run_takeDeferred hX2, ?_⟩⟩
    refine ⟨_, results_bool rfl rfl (hB2.kp putObj_self (by show ¬ w.heap.size + 2 = D; have := HDD.out; omega)), by rw [HLS.out], ?_⟩
    exact putObj_kp (HIe.out.kp.setCell _ _ (.inl (by show w.heap.size ≤ w.heap.size + 2; omega))) (by have := HDD.out; omega)
  case hstop =>
    subst hact
    rintro D W hD ⟨h1, h2, h3⟩ hdef
    have HDf : Hid (W.heap[D]? = some (.deferred (some []))) := hdef
    have H1 : Hid (Blk W (w.heap.size + 2) [.bool true] 4) := h1
    have H2 : Hid (Kp w W Nul) := h2
    have HDD : Hid (w6.heap.size = D ∧ w.heap.size + 3 ≤ w6.heap.size) := ⟨hD.symm, hs6⟩
    have HLS : Hid (lowS cols n L = true) := h3
    clear h1 h2 h3 hdef hD HI0 hgA k6
    go_wp2_with fail
    refine ⟨by simp, .inl ⟨_, _, rfl, run_takeDeferred HDf.out, ?_⟩⟩
    refine ⟨_, results_bool rfl rfl (H1.out.kp putObj_self (by show ¬ w.heap.size + 2 = D; have := HDD.out; omega)), by rw [HLS.out], ?_⟩
    exact putObj_kp H2.out (by have := HDD.out; omega)
end Go.Proofs.YtbkcebbddhaifaaGreatDoor
