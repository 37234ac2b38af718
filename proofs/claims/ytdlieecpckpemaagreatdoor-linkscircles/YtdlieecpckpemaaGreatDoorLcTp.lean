/- The walk that finds groups: its blocks, and how they stand. -/
import Derived.Test.YtdlieecpckpemaaGreatDoorLcTn
import Derived.Test.YtdlieecpckpemaaGreatDoorLcTj
import Derived.Test.YtdlieecpckpemaaGreatDoorLcYe
import Derived.Test.YtdlieecpckpemaaGreatDoorLcYb
import Derived.Laws.AppendOwn
import Derived.Deep.Onto
namespace Go.Proofs.YtdlieecpckpemaaGreatDoor
open Go.RowKit Go.Shelf

/-- The blocks of a walk: the boxes of count, open, met, w, walk and circled, the memories of met and circled; the web's struct, list and memory; n cells, words of W, users U; rows from B on. -/
structure Ce where
  n : Nat
  W : Nat
  mb : Nat
  ub : Nat
  wp : Nat
  wb : Nat
  Cb : Nat
  rb : Nat
  Mb : Nat
  mt : Nat
  ob : Nat
  cb : Nat
  kb : Nat
  B : Nat
  cells : Value
  U : Nat → Nat → Bool
/-- They lie one behind the other. -/
structure Ce.Ord (C : Ce) : Prop where
  a : 0 < C.mb
  b : C.mb < C.ub
  c : C.ub < C.wp
  d : C.wp < C.wb
  e : C.wb < C.Cb
  f : C.Cb < C.rb
  g : C.rb < C.Mb
  h : C.Mb < C.mt
  i : C.mt < C.ob
  j : C.ob < C.cb
  k : C.cb < C.kb
  l : C.kb < C.B
  n : C.n ≤ 4096
  w : C.W = (C.n + 63) / 64
  u : ∀ p q, C.U p q = true → q < C.n
abbrev Ce.lb (C : Ce) : Array Value := #[.pointer (some ⟨C.cb, 0, none⟩), .pointer (some ⟨C.ob, 0, none⟩), .pointer (some ⟨C.mt, 0, none⟩), .pointer (some ⟨C.wb, 0, none⟩), .pointer (some ⟨C.kb, 0, none⟩), .pointer (some ⟨C.rb, 0, none⟩)]
/-- Who uses whom: the edges that the walk goes along. -/
def Ce.E (C : Ce) (p q : Nat) : Prop := p < C.n ∧ C.U p q = true
/-- What stands. -/
structure CFix (C : Ce) (w : World) : Prop where
  mt : Blk w C.mt [.slice (some ⟨C.Mb, 0, none⟩) C.n C.n] 32
  rb : Blk w C.rb [.slice (some ⟨C.Cb, 0, none⟩) C.W C.W] 84
  wb : Blk w C.wb [.pointer (some ⟨C.wp, 0, none⟩)] 81
  kb : Blk w C.kb [.func (.func 98) #[] C.lb] 116
  wp : Blk w C.wp [C.cells, .slice (some ⟨C.ub, 0, none⟩) C.n C.n] 88
  ub : Blk w C.ub (upL C.mb C.W C.n C.n) 84
  mb : Blk w C.mb (memL C.U C.W C.n) 122
  cl : ∃ a c, C.cells = .slice a C.n c
  tab : Tab w
  sz : C.B ≤ w.heap.size
/-- What turns. -/
structure CVar (C : Ce) (s : Tj.St) (v : Value) (w : World) : Prop where
  cb : Blk w C.cb [.int .i64 (s.cnt : Int)] 3
  Mb : Blk w C.Mb (nums (fun p => (s.met p : Int)) C.n) 3
  Cb : ∃ O : Nat → Bool, (∀ p, p < C.n → (O p = true ↔ s.out p)) ∧ (∀ p, O p = true → p < C.n) ∧ Blk w C.Cb (wds O C.W) 122
  ob : Blk w C.ob [v] 32
  row : w.ownsRow C.B 3 1 v s.op.length (s.op.map fun p : Nat => Value.int .i64 (p : Int))
/-- The blocks that a walk writes, v being what open is. -/
def CS (C : Ce) (v : Value) : Nat → Prop := fun i => i = C.cb ∨ i = C.ob ∨ i = C.Mb ∨ i = C.Cb ∨ v.ownBlock = some i
theorem row_base {w : World} {base size n : Nat} {e : TypeId} {v : Value} {xs : List Value} (h : w.ownsRow base e size v n xs) (i : Nat) (hi : v.ownBlock = some i) : base ≤ i ∧ i < w.heap.size := by
  rcases h.2 with ⟨rfl, _⟩ | ⟨g, cap, cur, rfl, hb, hg, _⟩
  · cases hi
  · have e : g = i := by simpa [Value.ownBlock] using hi
    subst e
    exact ⟨hb, (Array.getElem?_eq_some_iff.1 hg).1⟩
theorem row_keep {w w' : World} {S : Nat → Prop} {base size n : Nat} {e : TypeId} {v : Value} {xs : List Value} (h : w.ownsRow base e size v n xs) (g : Kp w w' S) (hS : ∀ i, v.ownBlock = some i → ¬ S i) : w'.ownsRow base e size v n xs := by
  refine ⟨h.1, ?_⟩
  rcases h.2 with hn | ⟨r, cap, cur, hv, hb, hr, rest⟩
  · exact .inl hn
  · refine .inr ⟨r, cap, cur, hv, hb, ?_, rest⟩
    rw [g.block r (Array.getElem?_eq_some_iff.1 hr).1 (hS r (by rw [hv]; rfl))]
    exact hr
theorem CFix.kp {C : Ce} (hC : C.Ord) {w w' : World} {S : Nat → Prop} (h : CFix C w) (g : Kp w w' S) (hS : ∀ i, i < C.B → S i → i = C.cb ∨ i = C.ob ∨ i = C.Mb ∨ i = C.Cb) : CFix C w' := by
  obtain ⟨ha, hb, hc, hd, he, hf, hg, hh, hi, hj, hk, hl, _, _, _⟩ := hC
  exact ⟨h.mt.kp g (fun q => by rcases hS _ (by omega) q with q | q | q | q <;> omega), h.rb.kp g (fun q => by rcases hS _ (by omega) q with q | q | q | q <;> omega), h.wb.kp g (fun q => by rcases hS _ (by omega) q with q | q | q | q <;> omega),
    h.kb.kp g (fun q => by rcases hS _ (by omega) q with q | q | q | q <;> omega), h.wp.kp g (fun q => by rcases hS _ (by omega) q with q | q | q | q <;> omega), h.ub.kp g (fun q => by rcases hS _ (by omega) q with q | q | q | q <;> omega),
    h.mb.kp g (fun q => by rcases hS _ (by omega) q with q | q | q | q <;> omega), h.cl, h.tab.kp g (fun q => by rcases hS _ (by omega) q with q | q | q | q <;> omega), Nat.le_trans h.sz g.size⟩
theorem CFix.kpn {C : Ce} (hC : C.Ord) {w w' : World} (h : CFix C w) (g : Kp w w' Nul) : CFix C w' := h.kp hC g (fun _ _ q => q.elim)
theorem CFix.cs {C : Ce} (hC : C.Ord) {w w' : World} {v : Value} {s : Tj.St} (h : CFix C w) (hv : CVar C s v w) (g : Kp w w' (CS C v)) : CFix C w' :=
  h.kp hC g (fun i hi q => by
    rcases q with q | q | q | q | q
    · exact .inl q
    · exact .inr (.inl q)
    · exact .inr (.inr (.inl q))
    · exact .inr (.inr (.inr q))
    · have := (row_base hv.row i q).1; omega)
/-- It stays where blocks turn that are none of its own. -/
theorem CVar.kp {C : Ce} {s : Tj.St} {v : Value} {w w' : World} {S : Nat → Prop} (h : CVar C s v w) (g : Kp w w' S) (hS : ∀ i, CS C v i → ¬ S i) : CVar C s v w' := by
  obtain ⟨O, hO, hl, hb⟩ := h.Cb
  exact ⟨h.cb.kp g (hS _ (.inl rfl)), h.Mb.kp g (hS _ (.inr (.inr (.inl rfl)))), ⟨O, hO, hl, hb.kp g (hS _ (.inr (.inr (.inr (.inl rfl)))))⟩, h.ob.kp g (hS _ (.inr (.inl rfl))), row_keep h.row g (fun i q => hS i (.inr (.inr (.inr (.inr q)))))⟩
theorem CVar.kpn {C : Ce} {s : Tj.St} {v : Value} {w w' : World} (h : CVar C s v w) (g : Kp w w' Nul) : CVar C s v w' := h.kp g (fun _ _ q => q)
theorem CVar.slice {C : Ce} {s : Tj.St} {v : Value} {w : World} (h : CVar C s v w) : ∃ a c, v = .slice a s.op.length c := by
  rcases h.row.2 with ⟨rfl, q⟩ | ⟨g, cap, cur, rfl, _⟩
  · exact ⟨none, 0, by rw [q]⟩
  · exact ⟨_, _, rfl⟩
/-- The marks of a cell's users. -/
theorem CFix.users {C : Ce} (_hC : C.Ord) {w : World} (h : CFix C w) {p : Nat} (hp : p < C.n) :
    w.cell? ⟨C.ub, p, none⟩ = some (.slice (some ⟨C.mb, p * C.W, none⟩) C.W ((C.n - p) * C.W)) ∧ MarksAt w C.mb (p * C.W) C.W (C.U p) := by
  refine ⟨h.ub.cell (by rw [upL_get hp, if_pos hp]), fun i hi => h.mb.cell (memL_get hp hi)⟩
theorem Ce.Ord.bits {C : Ce} (hC : C.Ord) : C.n ≤ 64 * C.W := by have := hC.w; omega
theorem Ce.Ord.words {C : Ce} (hC : C.Ord) : C.W ≤ 64 := by have := hC.w; have := hC.n; omega
theorem Ce.Ord.mem {C : Ce} (hC : C.Ord) {p q : Nat} (hp : p < C.n) : q ∈ pl (C.U p) (64 * C.W) ↔ C.E p q := by
  rw [mem_pl]
  unfold Ce.E
  exact ⟨fun h => ⟨hp, h.2⟩, fun h => ⟨by have := hC.u p q h.2; have := hC.bits; omega, h.2⟩⟩
end Go.Proofs.YtdlieecpckpemaaGreatDoor
