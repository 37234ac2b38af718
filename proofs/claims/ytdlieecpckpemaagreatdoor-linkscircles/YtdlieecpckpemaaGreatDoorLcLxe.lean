/- Stores of one cell into a block that is known whole, the world behind it named; out of a round and in one. No function of the program here. A loop whose rounds each leave a mark of a range over a function behind; the function's end with many such marks. No function of the program here. -/
import Derived.Test.YtdlieecpckpemaaGreatDoorLcTl
import Derived.Deep.MidRow
import Derived.Great.BuildSlice
import Derived.Deep.LoopGhost
namespace Go.Proofs.YtdlieecpckpemaaGreatDoor
open Go.RowKit
attribute [local go_sem] Oper.semAt_some
theorem there_of_block {w : World} {b : Nat} {cs : Array Value} {t : TypeId} (hb : w.heap[b]? = some (.cells cs t (0, 0))) (o n : Nat) (h : o + n ≤ cs.size) : w.there b o n := by
  intro j hj
  constructor
  · rw [cell_of_row w b (o + j) cs t (0, 0) hb, Array.getElem?_eq_getElem (by omega)]; rfl
  · simp [World.frozen?, hb]
theorem Blk.at_ {w : World} {b : Nat} (h : w.heap.size = b) (cs : List Value) (t : TypeId) : Blk (w.alloc (.cells cs.toArray t)) b cs t := h ▸ Blk.new w cs t
theorem Blk.atA {w : World} {b : Nat} (h : w.heap.size = b) (cs : Array Value) (t : TypeId) {l : List Value} (hl : cs.toList = l) : Blk (w.alloc (.cells cs t)) b l t := by subst hl; exact h ▸ Blk.new' w cs t
variable {P : Program}
theorem wpInS {F : Fence} {n : Nat} {ops : Array Oper} {rest : List Oper} {o : Oper} {a : Act} {w w' : World} {Q : Exit → Act → World → Prop} (hgd : Region.wanted o (yielded ops a.tmps) = true) (hab : o.about P w a.eval = none) (hpl : ∀ c, o.op ≠ .defer c) (he : (execOp a.eval o).run P w = .ok .skip w')
    (h : wpListIn F n P ops Q rest (a.put o.dst undef) w') : wpListIn F n P ops Q (o :: rest) a w := by
  refine wpListIn_step fun K hK => ?_
  simp only [hgd, if_true]
  unfold Oper.wpIn
  refine ⟨by simp [hab], ?_⟩
  rw [Oper.semAt_plain F _ _ (fun c hc' => hpl c hc'), he]
  exact hK _ _ h
theorem run_storeVar_at (w : World) (b i : Nat) (ty t : TypeId) (cs : List Value) (v : Value) (hb : Blk w b cs t) (hi : i < cs.length) (hz : (P.info? ty).map (·.size) = some 1) (h1 : v.oneCell' = true) :
    (storeVar ty ⟨b, i, none⟩ v).run P w = .ok () (w.setCell ⟨b, i, none⟩ v) := by
  have hc : v.cells = #[v] := by cases v <;> first | rfl | cases h1
  have ht : w.there b i #[v].size := there_of_block (show w.heap[b]? = some (.cells cs.toArray t (0, 0)) from hb) _ _ (by simp; omega)
  have := run_storeCells_cells (P := P) b i [v] 0 w (fun j hj => by simpa using (ht j (by simpa using hj)).1) (fun j hj => by simpa using (ht j (by simpa using hj)).2) (fun x hx => by simp at hx; subst hx; exact h1)
  cases hq : P.info? ty with
  | none => simp [hq] at hz
  | some k =>
    have hs : k.size = 1 := by simpa [hq] using hz
    simp only [Nat.add_zero] at this
    simp [storeVar, sizeOf, typeInfo, hq, hc, hs, this, World.setCells]
theorem wpList_store_cell {ops : Array Oper} {rest : List Oper} {o : Oper} {a : Act} {w : World} {Q : Exit → Act → World → Prop} (hgd : o.guard = none) (ty : TypeId) (x y : Operand) (ho : o.op = .store ty x y)
    (b i : Nat) (hx : a.eval x = .pointer (some ⟨b, i, none⟩)) (v : Value) (hy : a.eval y = v) (h1 : v.oneCell' = true) (t : TypeId) (cs : List Value) (hb : Blk w b cs t) (hi : i < cs.length) (hz : (P.info? ty).map (·.size) = some 1)
    (h : ∀ W, Blk W b (cs.set i v) t → Kp w W (fun i => i = b) → wpList P ops Q rest (a.put o.dst undef) W) : wpList P ops Q (o :: rest) a w :=
  wpList_plain hgd fun _ hK => by
    unfold Oper.wp execOp
    simp only [ho, hx, hy, Instr.storeAt, Instr.sureAddr, Sem.run_bind, Sem.run_pure, Result.andThen_ok, run_storeVar_at w b i ty t cs v hb hi hz h1]
    exact hK _ _ (h _ (hb.set i v) ((Kp.refl w (fun j => j = b)).setCell ⟨b, i, none⟩ v (.inr rfl)))
theorem storeIn_cell {F : Fence} {n : Nat} {ops : Array Oper} {rest : List Oper} {o : Oper} {a : Act} {w : World} {Q : Exit → Act → World → Prop} (hgd : Region.wanted o (yielded ops a.tmps) = true) (ty : TypeId) (x y : Operand) (ho : o.op = .store ty x y)
    (b i : Nat) (hx : a.eval x = .pointer (some ⟨b, i, none⟩)) (v : Value) (hy : a.eval y = v) (h1 : v.oneCell' = true) (t : TypeId) (cs : List Value) (hb : Blk w b cs t) (hi : i < cs.length) (hz : (P.info? ty).map (·.size) = some 1)
    (h : ∀ W, Blk W b (cs.set i v) t → Kp w W (fun i => i = b) → wpListIn F n P ops Q rest (a.put o.dst undef) W) : wpListIn F n P ops Q (o :: rest) a w := by
  refine wpInS hgd (by simp [Oper.about, ho]) (fun c hc' => by rw [ho] at hc'; cases hc') (w' := w.setCell ⟨b, i, none⟩ v) ?_ (h _ (hb.set i v) ((Kp.refl w (fun j => j = b)).setCell ⟨b, i, none⟩ v (.inr rfl)))
  unfold execOp
  simp only [ho, hx, hy, Instr.storeAt, Instr.sureAddr, Sem.run_bind, Sem.run_pure, Result.andThen_ok, run_storeVar_at w b i ty t cs v hb hi hz h1]
end Go.Proofs.YtdlieecpckpemaaGreatDoor
namespace Go.Proofs.YtdlieecpckpemaaGreatDoor
open Go.RowKit
theorem wp_loop_g {P : Program} {Q : Exit → Act → World → Prop} {a : Act} {w : World} {c : Code} (J : Nat → Act → World → Prop) (n0 : Nat) (h0 : J n0 a w)
    (round : ∀ (n : Nat) (a : Act) (w : World) (K : Act → World → Prop), J n a w → Hid (∀ n' a' w', n' < n → J n' a' w' → K a' w') → c.wp P (Exit.then K Q) a w) : (Code.loop c).wp P Q a w :=
  wp_loop_ghost J n0 h0 (fun n a w h => round n a w (fun a' w' => ∃ n', n' < n ∧ J n' a' w') h (fun n' _ _ h1 h2 => ⟨n', h1, h2⟩))
/-- The mark of a range. -/
def mkD (D : Nat) : Deferred := { target := .collected D, args := #[] }
/-- Marks, each of a block of its own from B on. -/
structure Dfs (B : Nat) (Ds : List Nat) (w : World) : Prop where
  nod : Ds.Nodup
  at' : ∀ D ∈ Ds, B ≤ D ∧ w.heap[D]? = some (.deferred (some []))
theorem Dfs.nil (B : Nat) (w : World) : Dfs B [] w := ⟨List.nodup_nil, fun D h => by cases h⟩
theorem Dfs.kp {B : Nat} {Ds : List Nat} {w w' : World} {S : Nat → Prop} (h : Dfs B Ds w) (g : Kp w w' S) (hS : ∀ i, S i → i < B) : Dfs B Ds w' :=
  ⟨h.nod, fun D hD => ⟨(h.at' D hD).1, (g.block D (Array.getElem?_eq_some_iff.1 (h.at' D hD).2).1 (fun q => by have := hS D q; have := (h.at' D hD).1; omega)).trans (h.at' D hD).2⟩⟩
theorem Dfs.kp2 {B : Nat} {Ds : List Nat} {w w' : World} {S : Nat → Prop} (h : Dfs B Ds w) (g : Kp w w' S) (hS : ∀ i, i ∈ Ds → ¬ S i) : Dfs B Ds w' :=
  ⟨h.nod, fun D hD => ⟨(h.at' D hD).1, (g.block D (Array.getElem?_eq_some_iff.1 (h.at' D hD).2).1 (hS D hD)).trans (h.at' D hD).2⟩⟩
theorem Dfs.row {B : Nat} {Ds : List Nat} {w : World} (h : Dfs B Ds w) {base size n : Nat} {e : TypeId} {v : Value} {xs : List Value} (hr : w.ownsRow base e size v n xs) (i : Nat) (hi : v.ownBlock = some i) : i ∉ Ds := fun hm => by
  have h1 := (h.at' i hm).2
  rcases hr.2 with ⟨rfl, _⟩ | ⟨g, cap, cur, rfl, _, hg, _⟩
  · cases hi
  · have e : g = i := by simpa [Value.ownBlock] using hi
    subst e
    rw [hg] at h1
    cases h1
theorem Dfs.cons {B D : Nat} {Ds : List Nat} {w : World} (h : Dfs B Ds w) (hB : B ≤ D) (hD : w.heap[D]? = some (.deferred (some []))) (hn : D ∉ Ds) : Dfs B (D :: Ds) w :=
  ⟨List.nodup_cons.2 ⟨hn, h.nod⟩, fun E hE => by
    rcases List.mem_cons.1 hE with e | e
    · subst e; exact ⟨hB, hD⟩
    · exact h.at' E e⟩
theorem leaves_dfs {F : Fence} {n B : Nat} {P : Program} {fn : Func} {tmps : Array Value} {R : Ending → World → Prop} : ∀ {Ds : List Nat} {W : World}, Dfs B Ds W → (∀ W', Kp W W' (fun i => i ∈ Ds) → LeavesInM F n P fn tmps R [] .returning W') → LeavesInM F n P fn tmps R (Ds.map mkD) .returning W
  | [], W, _, h => h W (Kp.refl _ _)
  | D :: Ds, W, hd, h => by
    have h1 := hd.at' D List.mem_cons_self
    have hnd := List.nodup_cons.1 hd.nod
    refine ⟨by simp, .inl ⟨_, _, rfl, run_takeDeferred h1.2, ?_⟩⟩
    refine leaves_dfs (B := B) (Ds := Ds) ⟨hnd.2, fun E hE => ?_⟩ (fun W' g => h W' ((putObj_self.mono (fun i _ e => by have e' : i = D := e; subst e'; exact List.mem_cons_self)).trans (g.mono (fun i _ e => List.mem_cons_of_mem _ e))))
    have h2 := hd.at' E (List.mem_cons_of_mem _ hE)
    exact ⟨h2.1, (World.putObj_heap_other (fun e => hnd.1 (by subst e; exact hE))).trans h2.2⟩
end Go.Proofs.YtdlieecpckpemaaGreatDoor
