/- A loop whose rounds each leave a mark of a range over a function behind; the function's end with many such marks. No function of the program here. -/
import Derived.Test.YtdlieecpckpemaaGreatDoorLhLxe
import Derived.Deep.LoopGhost
namespace Go.Proofs.YtdlieecpckpemaaGreatDoor
open Go.RowKit
theorem wp_loop_g {P : Program} {Q : Exit → Act → World → Prop} {a : Act} {w : World} {c : Code} (J : Nat → Act → World → Prop) (n0 : Nat) (h0 : J n0 a w)
    (round : ∀ (n : Nat) (a : Act) (w : World) (K : Act → World → Prop), J n a w → Hid (∀ n' a' w', n' < n → J n' a' w' → K a' w') → c.wp P (Exit.then K Q) a w) : (Code.loop c).wp P Q a w :=
  wp_loop_ghost J n0 h0 (fun n a w h => round n a w (fun a' w' => ∃ n', n' < n ∧ J n' a' w') h (fun n' _ _ h1 h2 => ⟨n', h1, h2⟩))
/-- The mark of a range. -/
def mkD (D : Nat) : Deferred := { target := .collected D, args := #[] }
/-- Marks, each of a block of its own from B on. -/
structure Dfs (B : Nat) (Ds : List Nat) (w : World) : Prop where
  nod : Ds.Nodup
  at' : ∀ D ∈ Ds, B ≤ D ∧ w.heap[D]? = some (.deferred (some []))
theorem Dfs.nil (B : Nat) (w : World) : Dfs B [] w := ⟨List.nodup_nil, fun D h => by cases h⟩
theorem Dfs.kp {B : Nat} {Ds : List Nat} {w w' : World} {S : Nat → Prop} (h : Dfs B Ds w) (g : Kp w w' S) (hS : ∀ i, S i → i < B) : Dfs B Ds w' :=
  ⟨h.nod, fun D hD => ⟨(h.at' D hD).1, (g.block D (Array.getElem?_eq_some_iff.1 (h.at' D hD).2).1 (fun q => by have := hS D q; have := (h.at' D hD).1; omega)).trans (h.at' D hD).2⟩⟩
theorem Dfs.kp2 {B : Nat} {Ds : List Nat} {w w' : World} {S : Nat → Prop} (h : Dfs B Ds w) (g : Kp w w' S) (hS : ∀ i, i ∈ Ds → ¬ S i) : Dfs B Ds w' :=
  ⟨h.nod, fun D hD => ⟨(h.at' D hD).1, (g.block D (Array.getElem?_eq_some_iff.1 (h.at' D hD).2).1 (hS D hD)).trans (h.at' D hD).2⟩⟩
theorem Dfs.row {B : Nat} {Ds : List Nat} {w : World} (h : Dfs B Ds w) {base size n : Nat} {e : TypeId} {v : Value} {xs : List Value} (hr : w.ownsRow base e size v n xs) (i : Nat) (hi : v.ownBlock = some i) : i ∉ Ds := fun hm => by
  have h1 := (h.at' i hm).2
  rcases hr.2 with ⟨rfl, _⟩ | ⟨g, cap, cur, rfl, _, hg, _⟩
  · cases hi
  · have e : g = i := by simpa [Value.ownBlock] using hi
    subst e
    rw [hg] at h1
    cases h1
theorem Dfs.cons {B D : Nat} {Ds : List Nat} {w : World} (h : Dfs B Ds w) (hB : B ≤ D) (hD : w.heap[D]? = some (.deferred (some []))) (hn : D ∉ Ds) : Dfs B (D :: Ds) w :=
  ⟨List.nodup_cons.2 ⟨hn, h.nod⟩, fun E hE => by
    rcases List.mem_cons.1 hE with e | e
    · subst e; exact ⟨hB, hD⟩
    · exact h.at' E e⟩
theorem leaves_dfs {F : Fence} {n B : Nat} {P : Program} {fn : Func} {tmps : Array Value} {R : Ending → World → Prop} : ∀ {Ds : List Nat} {W : World}, Dfs B Ds W → (∀ W', Kp W W' (fun i => i ∈ Ds) → LeavesInM F n P fn tmps R [] .returning W') → LeavesInM F n P fn tmps R (Ds.map mkD) .returning W
  | [], W, _, h => h W (Kp.refl _ _)
  | D :: Ds, W, hd, h => by
    have h1 := hd.at' D List.mem_cons_self
    have hnd := List.nodup_cons.1 hd.nod
    refine ⟨by simp, .inl ⟨_, _, rfl, run_takeDeferred h1.2, ?_⟩⟩
    refine leaves_dfs (B := B) (Ds := Ds) ⟨hnd.2, fun E hE => ?_⟩ (fun W' g => h W' ((putObj_self.mono (fun i _ e => by have e' : i = D := e; subst e'; exact List.mem_cons_self)).trans (g.mono (fun i _ e => List.mem_cons_of_mem _ e))))
    have h2 := hd.at' E (List.mem_cons_of_mem _ hE)
    exact ⟨h2.1, (World.putObj_heap_other (fun e => hnd.1 (by subst e; exact hE))).trans h2.2⟩
end Go.Proofs.YtdlieecpckpemaaGreatDoor
