/- A range over a function whose rounds may write what they are handed besides: wip/grid/Is, by wip/gen_seq2.py. No function of the program here. In's closure tells a grid's contents, in order, each with a tree of the round's own: wip/grid/It, by wip/gen_seq2.py. A drawn region within a round of a range over a function, walked as one outside of it. No function of the program here. -/
import Derived.Test.YtbkcebbddhaifaaGreatDoorC19
import Derived.Test.YtbkcebbddhaifaaGreatDoorC47
import Derived.Test.YtbkcebbddhaifaaGreatDoorC8
namespace Go.Proofs.YtbkcebbddhaifaaGreatDoor
open Go.RowKit Go.Shelf
attribute [local go_sem] Oper.semAt_some

theorem Kp.cut {w w1 w2 : World} {S T : Nat → Prop} (h : Kp w w1 S) (k : Kp w1 w2 T) (hT : ∀ i, i < w.heap.size → T i → S i) : Kp w w2 S :=
  ⟨k.os.trans h.os, k.tape.trans h.tape, k.output.trans h.output, Nat.le_trans h.size k.size, fun i hi hs => (k.block i (Nat.lt_of_lt_of_le hi h.size) (fun q => hs (hT i hi q))).trans (h.block i hi hs)⟩
section
variable {n : Nat} {P : Program} {α : Type} {g : Operand} {ps : Array Tmp} {assign body : Code} {Q : Exit → Act → World → Prop} {a : Act} {w : World}
/-- One round. -/
theorem round_ow2 {encs : α → Array Value} {Wt : α → Nat → Prop} {fn : FuncId} {N : Nat} (hfn : Fence.wide.fn fn) (hps : ∀ x, (encs x).size = ps.size) (T : Nat → α → (Nat → Prop) → World → Prop) (hT : ∀ k x Z W, T k x Z W → ¬ Wt x w.heap.size ∧ ¬ Wt x (w.heap.size + 1))
    (I : Nat → (Nat → Prop) → World → Prop) (hZ : ∀ k Z W, I k Z W → ¬ Z w.heap.size ∧ ¬ Z (w.heap.size + 1)) (hI : ∀ k Z W W', I k Z W → Kp W W' (fun i => i = w.heap.size ∨ i = w.heap.size + 1) → I k Z W')
    (hround : ∀ (k : Nat) (x : α) (Z : Nat → Prop) (W : World) (K : Act → World → Prop), k < N → w.heap.size + 2 ≤ W.heap.size → I k Z W → T k x Z W → (∀ a' W', Kp W W' Nul → (∀ V, Kp W' V (fun i => i = w.heap.size + 1) → body.wpIn (Fence.wide.inRound (w.heap.size + 1)) (n - 1 - 1) P (fun e _ X => e = .normal ∧ Kp V X (fun i => (Z i ∨ Wt x i) ∨ W.heap.size ≤ i) ∧ ∃ Z', I (k + 1) Z' X ∧ More Z Z' W) a' V) → K a' W') →
      assign.wpIn (Fence.wide.inRound (w.heap.size + 1)) (n - 1 - 1) P (Exit.then K (fun _ _ _ => False)) { tmps := (ps.zip (encs x)).foldl (fun t (p, v) => t.setIfInBounds p v) a.tmps, defers := [] } W)
    (k : Nat) (x : α) (Z : Nat → Prop) (W : World) (hkN : k < N) (hi : I k Z W) (ht : T k x Z W) (hl : W.heap[w.heap.size + 1]? = some (.loop (lrec fn a ps assign body w.heap.size .ready none))) (hk : W.heap[w.heap.size]? = some (.deferred (some []))) :
    YieldAt Fence.wide (n - 1 - 1) P (w.heap.size + 1) (encs x) W fun e W' =>
      e = .returned (.bool true) ∧ (∃ Z', (I (k + 1) Z' W' ∧ W'.heap[w.heap.size + 1]? = some (.loop (lrec fn a ps assign body w.heap.size .ready none)) ∧ W'.heap[w.heap.size]? = some (.deferred (some []))) ∧ More Z Z' W) ∧ Kp W W' (fun i => (Z i ∨ Wt x i) ∨ i = w.heap.size + 1) := by
  have hy := run_yield (P := P) (args := encs x) hl (hps x)
  have hWl : w.heap.size + 1 < W.heap.size := (Array.getElem?_eq_some_iff.1 hl).1
  refine ⟨fn, _, assign, body, hy, roundIn_of_wpIn hfn (hround k x Z W _ hkN hWl hi ht ?_)⟩
  clear hy
  intro a' V hkp hbody
  have vl := (hkp.block _ hWl (fun x => x)).trans hl
  have vk := (hkp.block _ (by omega) (fun x => x)).trans hk
  have hlt : w.heap.size + 1 < V.heap.size := (Array.getElem?_eq_some_iff.1 vl).1
  refine ⟨_, run_beginRound vl rfl, ?_⟩
  obtain ⟨bz, hbz⟩ : ∃ bz : Loop, { lrec fn a ps assign body w.heap.size .ready none with state := .busy } = bz := ⟨_, rfl⟩
  obtain ⟨U, hU⟩ : ∃ U, V.putObj (w.heap.size + 1) (.loop bz) = U := ⟨_, rfl⟩
  rw [hbz, hU]
  have ul : U.heap[w.heap.size + 1]? = some (.loop bz) := by rw [← hU]; exact World.putObj_heap_same hlt
  have uk : U.heap[w.heap.size]? = some (.deferred (some [])) := by rw [← hU]; exact (World.putObj_heap_other (by omega)).trans vk
  have hVU : Kp V U (fun i => i = w.heap.size + 1) := by rw [← hU]; exact putObj_self
  refine wpIn_mono (hbody U hVU) ?_
  have leave : ∀ (X : World), Kp U X (fun i => (Z i ∨ Wt x i) ∨ W.heap.size ≤ i) →
      (Instr.endRound (w.heap.size + 1) none).run P X = .ok (.bool true) (X.putObj (w.heap.size + 1) (.loop (lrec fn a ps assign body w.heap.size .ready none))) ∧
      (X.putObj (w.heap.size + 1) (.loop (lrec fn a ps assign body w.heap.size .ready none))).heap[w.heap.size + 1]? = some (.loop (lrec fn a ps assign body w.heap.size .ready none)) ∧
      (X.putObj (w.heap.size + 1) (.loop (lrec fn a ps assign body w.heap.size .ready none))).heap[w.heap.size]? = some (.deferred (some [])) ∧ Kp X (X.putObj (w.heap.size + 1) (.loop (lrec fn a ps assign body w.heap.size .ready none))) (fun i => i = w.heap.size + 1) := by
    intro X hX
    have hUl : w.heap.size + 1 < U.heap.size := (Array.getElem?_eq_some_iff.1 ul).1
    have xl := (hX.block _ hUl (fun q => q.elim (fun q => q.elim (hZ _ _ _ hi).2 (hT _ _ _ _ ht).2) (fun q => by omega))).trans ul
    have xk := (hX.block _ (by omega) (fun q => q.elim (fun q => q.elim (hZ _ _ _ hi).1 (hT _ _ _ _ ht).1) (fun q => by omega))).trans uk
    refine ⟨?_, World.putObj_heap_same (Array.getElem?_eq_some_iff.1 xl).1, (World.putObj_heap_other (by omega)).trans xk, putObj_self⟩
    have := run_endRound (P := P) none xl
    rw [← hbz] at this
    exact this
  rintro e a3 X ⟨rfl, q1, Z', q2, q3⟩
  obtain ⟨r1, r2, r3, r4⟩ := leave X q1
  refine ⟨_, _, r1, rfl, ⟨Z', ⟨hI _ _ _ _ q2 (r4.mono (fun i _ e => .inr e)), r2, r3⟩, q3⟩, ?_⟩
  exact ((hkp.of_nul.trans (hVU.mono (fun i _ e => .inr e))).cut q1 (fun i hi e => e.elim .inl (fun q => by omega))).trans (r4.mono (fun i _ e => .inr e))
/-- What a function ranged over does: N rounds, in which Z grows. -/
def SeqOw2 (P : Program) (gf : Nat) (lb : Array Value) (encs : α → Array Value) (Wt : α → Nat → Prop) (T : Nat → α → (Nat → Prop) → World → Prop) (N : Nat) (S : Nat → Prop) (w : World) : Prop :=
  ∀ (J : Nat → (Nat → Prop) → World → Prop) (Z : Nat → Prop) (W : World), Kp w W Nul → w.heap.size + 2 ≤ W.heap.size → (∀ k Z W W', J k Z W → Kp W W' Nul → J k Z W') → (∀ k Z W, J k Z W → (∀ i, Z i → i < W.heap.size) ∧ ∀ i, i < w.heap.size → Z i → S i) →
      (∀ m k x Z W1, k < N → J k Z W1 → T k x Z W1 → YieldAt Fence.wide m P (w.heap.size + 1) (encs x) W1 fun e W' => e = .returned (.bool true) ∧ (∃ Z', J (k + 1) Z' W' ∧ More Z Z' W1) ∧ Kp W1 W' (fun i => (Z i ∨ Wt x i) ∨ i = w.heap.size + 1)) → J 0 Z W →
      Calls P gf (#[.func (.yield (w.heap.size + 1)) #[] #[]] ++ lb) W fun e W' => (∃ v, e = .returned v) ∧ ∃ Z', J N Z' W'
/-- The caller's law. -/
theorem wp_range_ow2 {gf : Nat} {lb : Array Value} (hg : a.eval g = .func (.func gf) #[] lb) (eg : ∀ args w, (callFunc gf args).run P w = .ok (.enter gf args) w)
    {encs : α → Array Value} (Wt : α → Nat → Prop) (hps : ∀ x, (encs x).size = ps.size) (T : Nat → α → (Nat → Prop) → World → Prop) (hT : ∀ k x Z W, T k x Z W → ¬ Wt x w.heap.size ∧ ¬ Wt x (w.heap.size + 1)) {N : Nat} (S : Nat → Prop)
    (hseq : SeqOw2 P gf lb encs Wt T N S w)
    (I : Nat → (Nat → Prop) → World → Prop) (hZ : ∀ k Z W, I k Z W → ¬ Z w.heap.size ∧ ¬ Z (w.heap.size + 1)) (hZl : ∀ k Z W, I k Z W → (∀ i, Z i → i < W.heap.size) ∧ ∀ i, i < w.heap.size → Z i → S i)
    (hI : ∀ k Z W W', I k Z W → Kp W W' (fun i => i = w.heap.size ∨ i = w.heap.size + 1) → I k Z W') (Z0 : Nat → Prop) (h0 : I 0 Z0 w)
    (hround : ∀ (k : Nat) (x : α) (Z : Nat → Prop) (W : World) (K : Act → World → Prop), k < N → w.heap.size + 2 ≤ W.heap.size → I k Z W → T k x Z W → (∀ a' W', Kp W W' Nul → (∀ V, Kp W' V (fun i => i = w.heap.size + 1) → body.wpIn (Fence.wide.inRound (w.heap.size + 1)) (8 - 1 - 1) P (fun e _ X => e = .normal ∧ Kp V X (fun i => (Z i ∨ Wt x i) ∨ W.heap.size ≤ i) ∧ ∃ Z', I (k + 1) Z' X ∧ More Z Z' W) a' V) → K a' W') →
      assign.wpIn (Fence.wide.inRound (w.heap.size + 1)) (8 - 1 - 1) P (Exit.then K (fun _ _ _ => False)) { tmps := (ps.zip (encs x)).foldl (fun t (p, v) => t.setIfInBounds p v) a.tmps, defers := [] } W)
    (hdone : ∀ (D : Nat) (Z : Nat → Prop) (W : World), D = w.heap.size → I N Z W → W.heap[D]? = some (.deferred (some [])) → Q .normal { a with defers := { target := .collected D, args := #[] } :: a.defers } W) :
    (Code.rangeFunc g ps assign body).wp P Q a w := by
  refine (wpIn_wide (n := 8)).1 ?_
  refine wpIn_rangeFunc fun fn hfn => ?_
  obtain ⟨W1, hW1⟩ : ∃ W1, (w.alloc (.deferred (some []))).alloc (.loop (lrec fn a ps assign body w.heap.size .ready none)) = W1 := ⟨_, rfl⟩
  have l1 : W1.heap[w.heap.size + 1]? = some (.loop (lrec fn a ps assign body w.heap.size .ready none)) := by
    have := World.alloc_heap_new (w.alloc (.deferred (some []))) (.loop (lrec fn a ps assign body w.heap.size .ready none))
    rw [World.size_alloc, hW1] at this
    exact this
  have k1 : W1.heap[w.heap.size]? = some (.deferred (some [])) := by rw [← hW1]; exact (Below.heap_alloc _ _ _ (by simp)).trans (World.alloc_heap_new w _)
  have s1 : W1.heap.size = w.heap.size + 2 := by rw [← hW1]; simp
  have kW : Kp w W1 Nul := by rw [← hW1]; exact ((Kp.refl w Nul).alloc _).alloc _
  refine ⟨w.heap.size + 1, [{ target := .collected w.heap.size, args := #[] }], W1, { target := .fn (.func gf) lb, args := #[.func (.yield (w.heap.size + 1)) #[] #[]] }, W1, gf, #[.func (.yield (w.heap.size + 1)) #[] #[]] ++ lb, W1, ?_, ?_, fun f' _ => trivial, ?_, fun _ => by decide, ?_⟩
  · rw [← hW1]; exact run_enterLoop_outer _ _ _ _ _
  · simp only [resolve, hg]
    simp [go_sem]
  · simp [invoke, go_sem, eg]
  · have hkeep : ∀ {A B : World} {o : Obj} {i : Nat}, Kp A B Nul → A.heap[i]? = some o → B.heap[i]? = some o := fun h e => (h.block _ (Array.getElem?_eq_some_iff.1 e).1 (fun x => x)).trans e
    refine callsIn_wide.2 ((hseq
      (fun k Z W => I k Z W ∧ W.heap[w.heap.size + 1]? = some (.loop (lrec fn a ps assign body w.heap.size .ready none)) ∧ W.heap[w.heap.size]? = some (.deferred (some [])))
      Z0 W1 kW (by omega)
      (fun k Z A B h hk => ⟨hI k Z A B h.1 hk.of_nul, hkeep hk h.2.1, hkeep hk h.2.2⟩)
      (fun k Z A h => hZl k Z A h.1)
      (fun m k x Z W hkN h ht => by
        obtain ⟨fn', tms, asg, bo, y1, y2⟩ := round_ow2 (n := 8) (P := P) (Wt := Wt) hfn hps T hT I hZ hI hround k x Z W hkN h.1 ht h.2.1 h.2.2
        exact ⟨fn', tms, asg, bo, y1, roundIn_any y2⟩)
      ⟨hI 0 Z0 w W1 h0 kW.of_nul, l1, k1⟩).mono ?_)
    rintro e W2 ⟨⟨v, rfl⟩, Z, hi, hl, hk⟩
    exact ⟨none, _, run_endLoop (P := P) hl (by simp [lrec]), hdone _ Z _ rfl (hI _ _ _ _ hi (putObj_self.mono (fun i _ e => .inr e))) ((World.putObj_heap_other (by omega)).trans hk)⟩
end
end Go.Proofs.YtbkcebbddhaifaaGreatDoor
namespace Go.Proofs.YtbkcebbddhaifaaGreatDoor
open Go.RowKit Go.Maps Go.Sort Go.Lib Go.Shelf
attribute [local go_sem] Oper.semAt_some

/-- What the iterator yields: a content, with the blocks of its tree. -/
abbrev encQ (x : (Cc × Value) × List Nat) : Array Value := encP x.1
/-- What the round may write besides. -/
abbrev wtQ (x : (Cc × Value) × List Nat) : Nat → Prop := fun i => i ∈ x.2
def TellQ (w : World) (K : List Cc) (k : Nat) (x : (Cc × Value) × List Nat) (Z : Nat → Prop) (W : World) : Prop := K[k]? = some x.1.1 ∧ NdOwn W x.1.2 x.1.1.2.t x.2 ∧ x.2.Nodup ∧ ∀ i ∈ x.2, w.heap.size + 2 ≤ i ∧ ¬ Z i
set_option maxRecDepth 100000 in
set_option maxHeartbeats 16000000 in
theorem in1_seq2 (g x0 x1 A : Nat) (L K : List Cc) (w : World) (S : Nat → Prop) (hg : GI 0 w g L) (hF : GridIn w (fun b => b < A) g L) (gL : ∀ x ∈ L, Gd x.2) (hv : ∀ x ∈ L, vC x.1.1 x.1.2 = true) (lL : L.length ≤ 4096)
    (hK : Strict (K.map (·.1))) (hKL : ∀ x, x ∈ K ↔ x ∈ L) (hA : A ≤ w.heap.size) (hS : ∀ i, S i → A ≤ i) (b0 : Blk w x0 [.pointer (some ⟨g, 0, none⟩)] 24) (b1 : Blk w x1 [.int .i64 1, .int .i64 1, .int .i64 256, .int .i64 4096] 34) :
    SeqOw2 Tryz.prog 121 #[.pointer (some ⟨x0, 0, none⟩), .pointer (some ⟨x1, 0, none⟩)] encQ wtQ (TellQ w K) K.length S w := by
  intro J Z W hkw hsz hJ hJz hY hj0
  have c0 : W.cell? ⟨x0, 0, none⟩ = some (.pointer (some ⟨g, 0, none⟩)) := (b0.kp hkw (fun x => x)).cell rfl
  have d0 : W.cell? ⟨x1, 0, none⟩ = some (.int .i64 1) := (b1.kp hkw (fun x => x)).cell rfl
  have d1 : W.cell? ⟨x1, 1, none⟩ = some (.int .i64 1) := (b1.kp hkw (fun x => x)).cell rfl
  have d2 : W.cell? ⟨x1, 2, none⟩ = some (.int .i64 256) := (b1.kp hkw (fun x => x)).cell rfl
  have d3 : W.cell? ⟨x1, 3, none⟩ = some (.int .i64 4096) := (b1.kp hkw (fun x => x)).cell rfl
  have HWi : Hid (Calls Tryz.prog 122 #[.pointer (some ⟨g, 0, none⟩), .agg #[.int .i64 1, .int .i64 1, .int .i64 256, .int .i64 4096]] W fun e w' => ∃ b ys, e = .returned (.slice (some ⟨b, 0, none⟩) ys.length ys.length) ∧ WiR W w' (fun b => b < A) L b ys) := within_at g _ L W (hg.kp hkw) (hF.kp hkw) gL hv lL
  have HSZ : Hid (w.heap.size + 2 ≤ W.heap.size) := hsz
  have HJ : Hid (∀ k Z W W', J k Z W → Kp W W' Nul → J k Z W') := hJ
  have HJZ : Hid (∀ k Z W, J k Z W → (∀ i, Z i → i < W.heap.size) ∧ ∀ i, i < w.heap.size → Z i → S i) := hJz
  have HY : Hid (∀ m k x Z W1, k < K.length → J k Z W1 → TellQ w K k x Z W1 → YieldAt Fence.wide m Tryz.prog (w.heap.size + 1) (encQ x) W1 fun e W' => e = .returned (.bool true) ∧ (∃ Z', J (k + 1) Z' W' ∧ More Z Z' W1) ∧ Kp W1 W' (fun i => (Z i ∨ wtQ x i) ∨ i = w.heap.size + 1)) := hY
  have HJ0 : Hid (J 0 Z W) := hj0
  have HGd : Hid (∀ x ∈ L, Gd x.2) := gL
  have HA : Hid (A ≤ w.heap.size) := hA
  have HS : Hid (∀ i, S i → A ≤ i) := hS
  have HKK : Hid (∀ ys : List (Cc × Value), Strict (ys.map (·.1.1)) → (∀ x, x ∈ ys.map (·.1) ↔ x ∈ L) → ys.map (·.1) = K) := fun ys h1 h2 => same_in_order (by rw [List.map_map]; exact h1) hK (fun x => (h2 x).trans (hKL x).symm)
  have HLK : Hid (K.length ≤ 4096) := by
    have hnd : (K.map (·.1)).Nodup := strict_nodup hK
    have := nodup_le _ (L.map (·.1)) hnd (fun x hx => by
      obtain ⟨y, hy, rfl⟩ := List.mem_map.1 hx
      exact List.mem_map.2 ⟨y, (hKL y).1 hy, rfl⟩)
    rw [List.length_map, List.length_map] at this
    show _ ≤ _; omega
  clear hkw hsz hJ hJz hY hj0 hg hF gL hv lL hK hKL hA hS b0 b1
  simp only [List.append_toArray, List.cons_append, List.nil_append]
  refine (callsIn_wide (n := 8)).1 ?_
  refine callsIn_of_wp Tryz.func121 rfl trivial ?_ rfl
  simp only [Tryz.ntmps121, List.size_toArray, List.length_cons, List.length_nil, Nat.reduceAdd, Nat.reduceSub, Array.replicate_succ, Array.replicate_zero, List.push_toArray, List.append_toArray, List.nil_append, List.cons_append]
  gi_wp2_with (fail)
  refine ⟨trivial, (callsIn_wide.2 HWi.out).mono ?_⟩
  rintro e w2 ⟨b, ys, rfl, hwi⟩
  have HW2 : Hid (WiR W w2 (fun b => b < A) L b ys) := hwi
  have HYK : Hid (ys.map (·.1) = K) := HKK.out ys hwi.strict hwi.mem
  have hlen : ys.length = K.length := by rw [← HYK.out, List.length_map]
  clear hwi c0 d0 d1 d2 d3 HKK
  rw [hlen]
  generalize hn : K.length = n at *
  have HLEN : Hid (ys.length = n) := hlen
  have HN : Hid (K.length = n) := hn
  clear hn hlen
  gi_wp2_with (fail)
  gi_loopw [12] (fun i wr => ∃ (q : Nat) (Z : Nat → Prop), q ≤ n ∧ i = .int .i64 q ∧ J q Z wr ∧ InR W A b ys Z wr) (fun i _ => n - (RowKit.intOf i).toNat)
  case atStart =>
    refine ⟨0, Z, Nat.zero_le _, rfl, HJ.out _ _ _ _ HJ0.out HW2.out.kp, ?_⟩
    exact ⟨fun h => by have h1 := (HJZ.out _ _ _ HJ0.out).1 b h; have h2 := HW2.out.low; omega, HW2.out.rng, HW2.out.tree, HW2.out.kp.size⟩
  case round =>
    obtain ⟨q, Zq, hq, rfl, hjq, hin⟩ := hrel
    have HJQ : Hid (J q Zq wr) := hjq
    have HIN : Hid (InR W A b ys Zq wr) := hin
    clear hjq hin
    by_cases hlt : q < n
    · have hqt : q < ys.length := by rw [HLEN.out]; exact hlt
      obtain ⟨⟨⟨⟨c, s⟩, a⟩, sa⟩, hys⟩ : ∃ y, ys[q] = y := ⟨_, rfl⟩
      have hget : ys[q]? = some (((c, s), a), sa) := by rw [List.getElem?_eq_getElem hqt, hys]
      have HR : Hid (wr.rangeAt b (q * 23) (ptCells ((c, s), a) sa)) := HIN.out.rng q _ hget
      have htree : NdIn wr (fun i => i < A) sa a.t := HIN.out.tree _ (List.mem_of_getElem? hget)
      have O1 : Hid (sa.oneCell' = true) := htree.one
      have hKq : K[q]? = some ((c, s), a) := by rw [← HYK.out, List.getElem?_map, hget]; rfl
      have HKQ : Hid (K[q]? = some ((c, s), a)) := hKq
      have hgd : Gd a := HGd.out _ ((HW2.out.mem _).1 (List.mem_map.2 ⟨_, List.mem_of_getElem? hget, rfl⟩))
      have hbl : b < wr.heap.size := rangeAt_lt HR.out
      have HBL : Hid (b < wr.heap.size) := hbl
      have B5 : Blk (wr.alloc (.cells (ptCells ((c, s), a) sa).toArray 57)) wr.heap.size (ptCells ((c, s), a) sa) 57 := Blk.new wr _ _
      have HAt : Hid (∀ wq, Kp (wr.alloc (.cells (ptCells ((c, s), a) sa).toArray 57)) wq Nul → wq.rangeAt wr.heap.size 0 [.int .i64 c, .int .i64 s]) := fun wq k j v hj => by
        match j, hj with
        | 0, hj => cases hj; exact (B5.kp k (fun x => x)).cell rfl
        | 1, hj => cases hj; exact (B5.kp k (fun x => x)).cell rfl
      have HCo : Hid (∀ wq, Kp (wr.alloc (.cells (ptCells ((c, s), a) sa).toArray 57)) wq Nul → wq.rangeAt wr.heap.size 2 (a.cells sa)) := fun wq k j v hj => by
        refine (B5.kp k (fun x => x)).cell ?_
        show (ptCells ((c, s), a) sa)[2 + j]? = some v
        rw [Nat.add_comm 2 j]; exact hj
      have HCp : Hid (∀ wq, Kp (wr.alloc (.cells (ptCells ((c, s), a) sa).toArray 57)) wq Nul → Calls Tryz.prog 61 #[.agg (a.cells sa).toArray] wq fun e w' => ∃ sl', e = .returned (.agg (a.cells sl').toArray) ∧ (∃ fp, Own w' wq.heap.size sl' a.t fp) ∧ Kp wq w' Nul) := fun wq k => by
        have hk : Kp wr wq Nul := ((Kp.refl wr Nul).alloc _).trans k
        refine (gCopy_at a sa (fun i => i < A) wq hgd.x hgd.size hgd.ok (htree.kp hk (fun _ _ x => x))).mono ?_
        rintro e w' ⟨sl', fp, rfl, h1, h2⟩
        rw [hgd.cp] at h1 ⊢
        exact ⟨sl', rfl, ⟨fp, h1⟩, Kp.of_below h2⟩
      have hkb : (q : Int) + 1 ≤ 9223372036854775807 := by have := HLK.out; omega
      have hq0 : (0 : Int) ≤ (q : Int) := by omega
      have hqn : (q : Int) < (n : Int) := by omega
      clear hqt hys hget htree hKq hgd hbl B5
      gi_wp2_with (first
        | (refine loadIn_put rfl (.tmp 14) rfl b (q * 23) rfl (ptCells ((c, s), a) sa) HR.out rfl ?_)
        | (refine storeIn_new' rfl 57 (.tmp 5) (.tmp 15) rfl _ _ _ _ (by first | rfl | simp) rfl rfl rfl infoPut (all_oneCell_toArray (pt_one _ O1.out)) ?_)
        | fail)
      refine regIn_noPanic ?_
      refine wpIn_region_any (by kernel_rfl) ?_
      refine any_take (i := 0) (.func (.yield (w.heap.size + 1)) #[] #[]) (some 16) rfl rfl (by kernel_rfl) (by kernel_rfl) (by kernel_rfl) (fun _ _ _ h => h) rfl (fun _ => rfl) (fun _ => by go_simp) ?_
      simp only [Act.put, List.setIfInBounds_toArray, List.set_cons_zero, List.set_cons_succ]
      refine any_take (i := 1) (.pointer (some ⟨wr.heap.size, 0, none⟩)) (some 17) rfl rfl (by kernel_rfl) (by kernel_rfl) (by kernel_rfl) (fun _ _ _ h => h) rfl (fun _ => rfl) (fun _ => by go_simp) ?_
      simp only [Act.put, List.setIfInBounds_toArray, List.set_cons_zero, List.set_cons_succ]
      refine any_take (i := 3) (.pointer (some ⟨wr.heap.size, 2, none⟩)) (some 19) rfl rfl (by kernel_rfl) (by kernel_rfl) (by kernel_rfl) (fun _ _ _ h => h) rfl (fun _ => rfl) (fun _ => by go_simp) ?_
      simp only [Act.put, List.setIfInBounds_toArray, List.set_cons_zero, List.set_cons_succ]
      refine wpAnyIn_ready (rs := [2, 4]) (by kernel_rfl) (by simp) ?_
      intro i hi
      rcases List.mem_cons.1 hi with rfl | hi
      · clear hi
        refine any_val (v := .agg #[.int .i64 c, .int .i64 s]) (some 18) rfl rfl rfl rfl (fun c h => by cases h) (w' := (wr.alloc (.cells (ptCells ((c, s), a) sa).toArray 57)).drew) (exec_load_row 32 (.tmp 17) rfl wr.heap.size 0 rfl [.int .i64 c, .int .i64 s] _ (HAt.out (wr.alloc (.cells (ptCells ((c, s), a) sa).toArray 57)).drew ((Kp.refl _ _).drew)) Tryz.underlying32 rfl infoAddr2) ?_
        simp only [Act.put, List.setIfInBounds_toArray, List.set_cons_zero, List.set_cons_succ]
        refine wpAnyIn_ready (rs := [4]) (by kernel_rfl) (by simp) ?_
        intro i hi
        obtain rfl := List.mem_singleton.1 hi
        clear hi
        refine any_val (v := .agg (a.cells sa).toArray) (some 20) rfl rfl rfl rfl (fun c h => by cases h) (w' := (wr.alloc (.cells (ptCells ((c, s), a) sa).toArray 57)).drew) (exec_load_row 55 (.tmp 19) rfl wr.heap.size 2 rfl (a.cells sa) _ (HCo.out _ ((Kp.refl _ _).drew)) Tryz.underlying55 rfl infoContent) ?_
        simp only [Act.put, List.setIfInBounds_toArray, List.set_cons_zero, List.set_cons_succ]
        refine wpAnyIn_ready (rs := [5]) (by kernel_rfl) (by simp) ?_
        intro i hi
        obtain rfl := List.mem_singleton.1 hi
        clear hi
        refine any_call (f := 61) (args := #[.agg (a.cells sa).toArray]) (some 21) rfl rfl rfl (by decide) (fun c h => by cases h) (w' := (wr.alloc (.cells (ptCells ((c, s), a) sa).toArray 57)).drew) (by go_simp) ?_
        refine (HCp.out _ ((Kp.refl _ _).drew)).mono ?_
        rintro e w4 ⟨s4, rfl, ⟨f4, ho4⟩, hk4⟩
        refine ⟨_, rfl, ?_⟩
        simp only [Act.put, List.setIfInBounds_toArray, List.set_cons_zero, List.set_cons_succ]
        refine wpAnyIn_ready (rs := [6]) (by kernel_rfl) (by simp) ?_
        intro i hi
        obtain rfl := List.mem_singleton.1 hi
        clear hi
        have hK4 : Kp wr w4 Nul := ((Kp.refl wr Nul).alloc _).drew.trans hk4
        have hs5 : (wr.alloc (.cells (ptCells ((c, s), a) sa).toArray 57)).drew.heap.size = wr.heap.size + 1 := World.size_alloc _ _
        obtain ⟨fn, tms, asg, bod, hy, hR⟩ := HY.out 7 q ((((c, s), a), s4), f4) Zq w4 hlt (HJ.out _ _ _ _ HJQ.out hK4) ⟨HKQ.out, ho4.own, ho4.nodup, fun i hi => by
          have h1 := (ho4.new i hi).1
          have h2 := HSZ.out
          have h3 := HIN.out.size
          exact ⟨by omega, fun hz => by have := (HJZ.out _ _ _ HJQ.out).1 i hz; omega⟩⟩
        refine any_round (l := w.heap.size + 1) (f := fn) (tms := tms) (asg := asg) (bod := bod) (some 22) rfl rfl rfl (by decide) (fun c h => by cases h) (w' := w4) ?_ ?_
        · first
          | (go_simp; done)
          | (go_simp; exact hy)
        refine hR.mono ?_
        rintro e w6 ⟨rfl, ⟨Z6, hj6, hm6⟩, hk6⟩
        refine ⟨_, rfl, ?_⟩
        simp only [Act.put, List.setIfInBounds_toArray, List.set_cons_zero, List.set_cons_succ]
        have HJ6 : Hid (J (q + 1) Z6 w6) := hj6
        have HIN6 : Hid (InR W A b ys Z6 w6) := by
          have k6 : Kp wr w6 (fun i => (Zq i ∨ i ∈ f4) ∨ i = w.heap.size + 1) := hK4.of_nul.trans hk6
          have hbl := HBL.out
          have hb2 := HW2.out.low
          have hb3 := HSZ.out
          refine ⟨fun hz => ?_, fun i y hy => rangeAt_kp (HIN.out.rng i y hy) k6 (fun e => ?_), fun y hy => (HIN.out.tree y hy).kp k6 (fun i hi e => ?_), Nat.le_trans HIN.out.size k6.size⟩
          · rcases hm6 b hz with h | h
            · exact HIN.out.nz h
            · have h1 := HBL.out
              have h2 := hK4.size
              omega
          · rcases e with (e | e) | e
            · exact HIN.out.nz e
            · have := (ho4.new _ e).1; omega
            · omega
          · have hi' : i < A := hi
            have h1 := HA.out
            rcases e with (e | e) | e
            · have := HS.out i ((HJZ.out _ _ _ HJQ.out).2 i (by omega) e)
              omega
            · have := (ho4.new _ e).1; have := HIN.out.size; omega
            · omega
        clear hy hR hj6 hm6 hk6 hk4 ho4 hK4 hs5
        refine wpAnyIn_ready (rs := [7]) (by kernel_rfl) (by simp) ?_
        intro i hi
        obtain rfl := List.mem_singleton.1 hi
        clear hi
        refine any_val (v := .bool false) (some 23) rfl rfl rfl rfl (fun c h => by cases h) (w' := w6) (by go_simp) ?_
        simp only [Act.put, List.setIfInBounds_toArray, List.set_cons_zero, List.set_cons_succ]
        refine wpAnyIn_done (by kernel_rfl) ?_ _
        refine NoPanic.normal ?_
        gi_wp2_with (fail)
        exact ⟨⟨q + 1, Z6, by omega, by go_num, HJ6.out, HIN6.out⟩, by simp only [RowKit.intOf]; omega⟩
      · obtain rfl := List.mem_singleton.1 hi
        clear hi
        refine any_val (v := .agg (a.cells sa).toArray) (some 20) rfl rfl rfl rfl (fun c h => by cases h) (w' := (wr.alloc (.cells (ptCells ((c, s), a) sa).toArray 57)).drew) (exec_load_row 55 (.tmp 19) rfl wr.heap.size 2 rfl (a.cells sa) _ (HCo.out _ ((Kp.refl _ _).drew)) Tryz.underlying55 rfl infoContent) ?_
        simp only [Act.put, List.setIfInBounds_toArray, List.set_cons_zero, List.set_cons_succ]
        refine wpAnyIn_ready (rs := [2, 5]) (by kernel_rfl) (by simp) ?_
        intro i hi
        rcases List.mem_cons.1 hi with rfl | hi
        · clear hi
          refine any_val (v := .agg #[.int .i64 c, .int .i64 s]) (some 18) rfl rfl rfl rfl (fun c h => by cases h) (w' := (wr.alloc (.cells (ptCells ((c, s), a) sa).toArray 57)).drew) (exec_load_row 32 (.tmp 17) rfl wr.heap.size 0 rfl [.int .i64 c, .int .i64 s] _ (HAt.out (wr.alloc (.cells (ptCells ((c, s), a) sa).toArray 57)).drew ((Kp.refl _ _).drew)) Tryz.underlying32 rfl infoAddr2) ?_
          simp only [Act.put, List.setIfInBounds_toArray, List.set_cons_zero, List.set_cons_succ]
          refine wpAnyIn_ready (rs := [5]) (by kernel_rfl) (by simp) ?_
          intro i hi
          obtain rfl := List.mem_singleton.1 hi
          clear hi
          refine any_call (f := 61) (args := #[.agg (a.cells sa).toArray]) (some 21) rfl rfl rfl (by decide) (fun c h => by cases h) (w' := (wr.alloc (.cells (ptCells ((c, s), a) sa).toArray 57)).drew) (by go_simp) ?_
          refine (HCp.out _ ((Kp.refl _ _).drew)).mono ?_
          rintro e w4 ⟨s4, rfl, ⟨f4, ho4⟩, hk4⟩
          refine ⟨_, rfl, ?_⟩
          simp only [Act.put, List.setIfInBounds_toArray, List.set_cons_zero, List.set_cons_succ]
          refine wpAnyIn_ready (rs := [6]) (by kernel_rfl) (by simp) ?_
          intro i hi
          obtain rfl := List.mem_singleton.1 hi
          clear hi
          have hK4 : Kp wr w4 Nul := ((Kp.refl wr Nul).alloc _).drew.trans hk4
          have hs5 : (wr.alloc (.cells (ptCells ((c, s), a) sa).toArray 57)).drew.heap.size = wr.heap.size + 1 := World.size_alloc _ _
          obtain ⟨fn, tms, asg, bod, hy, hR⟩ := HY.out 7 q ((((c, s), a), s4), f4) Zq w4 hlt (HJ.out _ _ _ _ HJQ.out hK4) ⟨HKQ.out, ho4.own, ho4.nodup, fun i hi => by
            have h1 := (ho4.new i hi).1
            have h2 := HSZ.out
            have h3 := HIN.out.size
            exact ⟨by omega, fun hz => by have := (HJZ.out _ _ _ HJQ.out).1 i hz; omega⟩⟩
          refine any_round (l := w.heap.size + 1) (f := fn) (tms := tms) (asg := asg) (bod := bod) (some 22) rfl rfl rfl (by decide) (fun c h => by cases h) (w' := w4) ?_ ?_
          · first
            | (go_simp; done)
            | (go_simp; exact hy)
          refine hR.mono ?_
          rintro e w6 ⟨rfl, ⟨Z6, hj6, hm6⟩, hk6⟩
          refine ⟨_, rfl, ?_⟩
          simp only [Act.put, List.setIfInBounds_toArray, List.set_cons_zero, List.set_cons_succ]
          have HJ6 : Hid (J (q + 1) Z6 w6) := hj6
          have HIN6 : Hid (InR W A b ys Z6 w6) := by
            have k6 : Kp wr w6 (fun i => (Zq i ∨ i ∈ f4) ∨ i = w.heap.size + 1) := hK4.of_nul.trans hk6
            have hbl := HBL.out
            have hb2 := HW2.out.low
            have hb3 := HSZ.out
            refine ⟨fun hz => ?_, fun i y hy => rangeAt_kp (HIN.out.rng i y hy) k6 (fun e => ?_), fun y hy => (HIN.out.tree y hy).kp k6 (fun i hi e => ?_), Nat.le_trans HIN.out.size k6.size⟩
            · rcases hm6 b hz with h | h
              · exact HIN.out.nz h
              · have h1 := HBL.out
                have h2 := hK4.size
                omega
            · rcases e with (e | e) | e
              · exact HIN.out.nz e
              · have := (ho4.new _ e).1; omega
              · omega
            · have hi' : i < A := hi
              have h1 := HA.out
              rcases e with (e | e) | e
              · have := HS.out i ((HJZ.out _ _ _ HJQ.out).2 i (by omega) e)
                omega
              · have := (ho4.new _ e).1; have := HIN.out.size; omega
              · omega
          clear hy hR hj6 hm6 hk6 hk4 ho4 hK4 hs5
          refine wpAnyIn_ready (rs := [7]) (by kernel_rfl) (by simp) ?_
          intro i hi
          obtain rfl := List.mem_singleton.1 hi
          clear hi
          refine any_val (v := .bool false) (some 23) rfl rfl rfl rfl (fun c h => by cases h) (w' := w6) (by go_simp) ?_
          simp only [Act.put, List.setIfInBounds_toArray, List.set_cons_zero, List.set_cons_succ]
          refine wpAnyIn_done (by kernel_rfl) ?_ _
          refine NoPanic.normal ?_
          gi_wp2_with (fail)
          exact ⟨⟨q + 1, Z6, by omega, by go_num, HJ6.out, HIN6.out⟩, by simp only [RowKit.intOf]; omega⟩
        · obtain rfl := List.mem_singleton.1 hi
          clear hi
          refine any_call (f := 61) (args := #[.agg (a.cells sa).toArray]) (some 21) rfl rfl rfl (by decide) (fun c h => by cases h) (w' := (wr.alloc (.cells (ptCells ((c, s), a) sa).toArray 57)).drew) (by go_simp) ?_
          refine (HCp.out _ ((Kp.refl _ _).drew)).mono ?_
          rintro e w4 ⟨s4, rfl, ⟨f4, ho4⟩, hk4⟩
          refine ⟨_, rfl, ?_⟩
          simp only [Act.put, List.setIfInBounds_toArray, List.set_cons_zero, List.set_cons_succ]
          refine wpAnyIn_ready (rs := [2]) (by kernel_rfl) (by simp) ?_
          intro i hi
          obtain rfl := List.mem_singleton.1 hi
          clear hi
          refine any_val (v := .agg #[.int .i64 c, .int .i64 s]) (some 18) rfl rfl rfl rfl (fun c h => by cases h) (w' := w4) (exec_load_row 32 (.tmp 17) rfl wr.heap.size 0 rfl [.int .i64 c, .int .i64 s] _ (HAt.out w4 (((Kp.refl _ _).drew).trans hk4)) Tryz.underlying32 rfl infoAddr2) ?_
          simp only [Act.put, List.setIfInBounds_toArray, List.set_cons_zero, List.set_cons_succ]
          refine wpAnyIn_ready (rs := [6]) (by kernel_rfl) (by simp) ?_
          intro i hi
          obtain rfl := List.mem_singleton.1 hi
          clear hi
          have hK4 : Kp wr w4 Nul := ((Kp.refl wr Nul).alloc _).drew.trans hk4
          have hs5 : (wr.alloc (.cells (ptCells ((c, s), a) sa).toArray 57)).drew.heap.size = wr.heap.size + 1 := World.size_alloc _ _
          obtain ⟨fn, tms, asg, bod, hy, hR⟩ := HY.out 7 q ((((c, s), a), s4), f4) Zq w4 hlt (HJ.out _ _ _ _ HJQ.out hK4) ⟨HKQ.out, ho4.own, ho4.nodup, fun i hi => by
            have h1 := (ho4.new i hi).1
            have h2 := HSZ.out
            have h3 := HIN.out.size
            exact ⟨by omega, fun hz => by have := (HJZ.out _ _ _ HJQ.out).1 i hz; omega⟩⟩
          refine any_round (l := w.heap.size + 1) (f := fn) (tms := tms) (asg := asg) (bod := bod) (some 22) rfl rfl rfl (by decide) (fun c h => by cases h) (w' := w4) ?_ ?_
          · first
            | (go_simp; done)
            | (go_simp; exact hy)
          refine hR.mono ?_
          rintro e w6 ⟨rfl, ⟨Z6, hj6, hm6⟩, hk6⟩
          refine ⟨_, rfl, ?_⟩
          simp only [Act.put, List.setIfInBounds_toArray, List.set_cons_zero, List.set_cons_succ]
          have HJ6 : Hid (J (q + 1) Z6 w6) := hj6
          have HIN6 : Hid (InR W A b ys Z6 w6) := by
            have k6 : Kp wr w6 (fun i => (Zq i ∨ i ∈ f4) ∨ i = w.heap.size + 1) := hK4.of_nul.trans hk6
            have hbl := HBL.out
            have hb2 := HW2.out.low
            have hb3 := HSZ.out
            refine ⟨fun hz => ?_, fun i y hy => rangeAt_kp (HIN.out.rng i y hy) k6 (fun e => ?_), fun y hy => (HIN.out.tree y hy).kp k6 (fun i hi e => ?_), Nat.le_trans HIN.out.size k6.size⟩
            · rcases hm6 b hz with h | h
              · exact HIN.out.nz h
              · have h1 := HBL.out
                have h2 := hK4.size
                omega
            · rcases e with (e | e) | e
              · exact HIN.out.nz e
              · have := (ho4.new _ e).1; omega
              · omega
            · have hi' : i < A := hi
              have h1 := HA.out
              rcases e with (e | e) | e
              · have := HS.out i ((HJZ.out _ _ _ HJQ.out).2 i (by omega) e)
                omega
              · have := (ho4.new _ e).1; have := HIN.out.size; omega
              · omega
          clear hy hR hj6 hm6 hk6 hk4 ho4 hK4 hs5
          refine wpAnyIn_ready (rs := [7]) (by kernel_rfl) (by simp) ?_
          intro i hi
          obtain rfl := List.mem_singleton.1 hi
          clear hi
          refine any_val (v := .bool false) (some 23) rfl rfl rfl rfl (fun c h => by cases h) (w' := w6) (by go_simp) ?_
          simp only [Act.put, List.setIfInBounds_toArray, List.set_cons_zero, List.set_cons_succ]
          refine wpAnyIn_done (by kernel_rfl) ?_ _
          refine NoPanic.normal ?_
          gi_wp2_with (fail)
          exact ⟨⟨q + 1, Z6, by omega, by go_num, HJ6.out, HIN6.out⟩, by simp only [RowKit.intOf]; omega⟩
    · have hqe : q = n := by omega
      subst hqe
      have hqn : ¬ ((q : Int) < (q : Int)) := by omega
      have HJN : Hid (∃ Z', J q Z' wr) := ⟨_, HJQ.out⟩
      gi_wp2_with (fail)
      go_end0
      exact ⟨⟨_, rfl⟩, by rw [HN.out]; exact HJN.out⟩
end Go.Proofs.YtbkcebbddhaifaaGreatDoor
namespace Go.Proofs.YtbkcebbddhaifaaGreatDoor
open Go.RowKit

section
variable {P : Program} {l n : Nat} {a : Act} {w : World} {Q : Exit → Act → World → Prop}
theorem wpIn_of_wp {o : Oper} {K : Act → World → Prop} (hd : ∀ c, o.op ≠ .defer c) (h : o.wp P a w K Q) : o.wpIn (Fence.wide.inRound l) n P a w K Q := by
  unfold Oper.wpIn
  refine ⟨fun _ _ => trivial, ?_⟩
  rw [Oper.semAt_eq _ _ _ hd]
  unfold Oper.wp at h
  generalize (execOp a.eval o).run P w = r at *
  cases r with
  | ok nx w' =>
    cases nx with
    | value v => exact h
    | skip => exact h
    | defer d => exact h
    | enter f args => exact ⟨fun q => (by cases q), callsIn_wide.2 h⟩
    | row row args => exact ⟨fun q => (by cases q), fun c cs _ => let ⟨v, w2, r, s⟩ := h c cs; ⟨v, w2, r, stepsIn_wide.2 s⟩⟩
    | _ => exact h.elim
  | halt x w' =>
    cases x with
    | panic v => exact h
    | _ => exact h.elim
/-- No operation puts off a call. -/
def noDefer (ops : Array Oper) : Bool := ops.all fun o => match o.op with
  | .defer _ => false
  | _ => true
theorem noDefer_spec {ops : Array Oper} (h : noDefer ops = true) {i : Nat} {o : Oper} (ho : ops[i]? = some o) : ∀ c, o.op ≠ .defer c := fun c e => by
  unfold noDefer at h
  obtain ⟨hi, rfl⟩ := Array.getElem?_eq_some_iff.1 ho
  have := Array.all_eq_true.1 h i hi
  rw [e] at this
  cases this
theorem wpAnyIn_of_any {md : Region.Mode} {ops : Array Oper} (hd : noDefer ops = true) (hL : ¬ LetsOut Q) : ∀ (fuel : Nat) (listed : Array Bool) (a : Act) (w : World), wpAny P md ops Q fuel listed a w → wpAnyIn (Fence.wide.inRound l) n P md ops Q fuel listed a w
  | 0, _, _, _, h => h
  | fuel + 1, listed, a, w, h => by
    refine ⟨h.1, fun i hi => ?_⟩
    have h1 := h.2 i hi
    unfold wpOp at h1
    unfold wpOpIn
    split
    · rename_i e
      rw [e] at h1
      exact wpAnyIn_of_any hd hL fuel _ a w h1
    · rename_i o e
      rw [e] at h1
      simp only at h1
      split
      · rename_i hw
        rw [if_pos hw] at h1
        rcases h1 with h1 | h1
        · exact wpIn_of_wp (noDefer_spec hd e) (Oper.wp_mono (fun a' w' q => wpAnyIn_of_any hd hL fuel _ a' w' q) h1)
        · exact absurd h1.2 hL
      · rename_i hw
        rw [if_neg hw] at h1
        exact ⟨fun _ _ => trivial, wpAnyIn_of_any hd hL fuel _ _ w h1⟩
/-- The region, S holding behind each operation. -/
theorem regIn_held {id : Nat} {ops : Array Oper} (S : World → Prop) (hm : P.follows .mixedOrders = true) (hd : noDefer ops = true) (hL : ¬ LetsOut Q) (hS : S w.drew) (h : S w.drew → wpAnyH P .any ops Q S ops.size (Array.replicate ops.size false) a w.drew) : (Code.region id ops true).wpIn (Fence.wide.inRound l) n P Q a w :=
  wpIn_region_any hm (wpAnyIn_of_any hd hL _ _ _ _ (wpAny_of_held _ _ _ _ (h hS)))
theorem noPanic_lets (hQ : ∀ a w, ¬ Q .outgrown a w) : ¬ LetsOut (NoPanic Q) := fun ⟨a, w, h⟩ => hQ a w (NoPanic.imp _ _ _ h)
end
end Go.Proofs.YtbkcebbddhaifaaGreatDoor
