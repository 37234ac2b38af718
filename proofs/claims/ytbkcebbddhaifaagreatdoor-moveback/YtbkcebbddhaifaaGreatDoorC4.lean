/- A world in which, of what lay, blocks of S alone may have turned. Small closers. No function of the program here. value's isFault, bare, Valid, OfNumber; grid's isZeroValue. value's Valid and OfNumber; grid's isZeroValue. -/
import Derived.Test.YtbkcebbddhaifaaGreatDoorC1
import Derived.Maps.OwnSet
import Derived.Test.YtbkcebbddhaifaaGreatDoorC2
import Derived.Test.YtbkcebbddhaifaaGreatDoorC3
namespace Go.Proofs.YtbkcebbddhaifaaGreatDoor
open Go.RowKit Go.Maps

@[go_sem] theorem run_store_float (P : Program) (w : World) (a : Addr) (m : Mode) (k : FloatKind) (b : Nat) : (store a (.float k b) m).run P w = stored P w a (.float k b) m := run_store P w a _ m rfl

structure Kp (w w' : World) (S : Nat → Prop) : Prop where
  os : w'.os = w.os
  tape : w'.tape = w.tape
  output : w'.output = w.output
  size : w.heap.size ≤ w'.heap.size
  block : ∀ i, i < w.heap.size → ¬ S i → w'.heap[i]? = w.heap[i]?
def Nul : Nat → Prop := fun _ => False
namespace Kp
theorem refl (w : World) (S : Nat → Prop) : Kp w w S := ⟨rfl, rfl, rfl, Nat.le_refl _, fun _ _ _ => rfl⟩
theorem trans {w w1 w2 : World} {S : Nat → Prop} (h : Kp w w1 S) (g : Kp w1 w2 S) : Kp w w2 S :=
  ⟨g.os.trans h.os, g.tape.trans h.tape, g.output.trans h.output, Nat.le_trans h.size g.size, fun i hi hs => (g.block i (Nat.lt_of_lt_of_le hi h.size) hs).trans (h.block i hi hs)⟩
/-- What turns in the second step: blocks of S, or such as were new. -/
theorem trans' {w w1 w2 : World} {S T : Nat → Prop} (h : Kp w w1 S) (g : Kp w1 w2 T) (hT : ∀ i, i < w.heap.size → T i → S i) : Kp w w2 S :=
  ⟨g.os.trans h.os, g.tape.trans h.tape, g.output.trans h.output, Nat.le_trans h.size g.size, fun i hi hs => (g.block i (Nat.lt_of_lt_of_le hi h.size) (fun t => hs (hT i hi t))).trans (h.block i hi hs)⟩
theorem mono {w w' : World} {S T : Nat → Prop} (h : Kp w w' S) (hT : ∀ i, i < w.heap.size → S i → T i) : Kp w w' T :=
  ⟨h.os, h.tape, h.output, h.size, fun i hi hs => h.block i hi (fun s => hs (hT i hi s))⟩
theorem of_nul {w w' : World} {S : Nat → Prop} (h : Kp w w' Nul) : Kp w w' S := h.mono fun _ _ s => s.elim
theorem of_gr {w w' : World} {S : Nat → Prop} (h : Gr w w') : Kp w w' S := ⟨h.ext.os, h.ext.tape, h.ext.output, h.ext.size, fun i hi _ => h.ext.block i hi⟩
theorem of_below {w w' : World} {S : Nat → Prop} (h : Below w.heap.size w w') : Kp w w' S := ⟨h.os, h.tape, h.output, h.size, fun i hi _ => h.block i hi⟩
theorem below {w w' : World} (h : Kp w w' Nul) : Below w.heap.size w w' := ⟨h.os, h.tape, h.output, h.size, fun i hi => h.block i hi (fun s => s)⟩
theorem of_grown {w w' : World} {S : Nat → Prop} {row : Option Nat} (h : w.grownBy w' row) (hr : ∀ i, row = some i → S i) : Kp w w' S :=
  ⟨h.os, h.tape, h.output, h.size, fun i hi hs => h.block i hi (fun e => hs (hr i e.symm))⟩
theorem of_drew {w w' : World} {S : Nat → Prop} (h : ∃ d, w' = w.drewN d) : Kp w w' S := by
  obtain ⟨d, rfl⟩ := h
  exact ⟨rfl, rfl, rfl, Nat.le_refl _, fun _ _ _ => rfl⟩
theorem drew {w w1 : World} {S : Nat → Prop} (h : Kp w w1 S) : Kp w w1.drew S := ⟨h.os, h.tape, h.output, h.size, h.block⟩
theorem drewN {w w1 : World} {S : Nat → Prop} (h : Kp w w1 S) (n : Nat) : Kp w (w1.drewN n) S := ⟨h.os, h.tape, h.output, h.size, h.block⟩
theorem alloc {w w1 : World} {S : Nat → Prop} (h : Kp w w1 S) (o : Obj) : Kp w (w1.alloc o) S := by
  refine ⟨h.os, h.tape, h.output, ?_, fun i hi hs => ?_⟩
  · show w.heap.size ≤ (w1.heap.push o).size
    rw [Array.size_push]; exact Nat.le_succ_of_le h.size
  · show (w1.heap.push o)[i]? = _
    rw [Array.getElem?_push, if_neg (Nat.ne_of_lt (Nat.lt_of_lt_of_le hi h.size))]
    exact h.block i hi hs
theorem setCell {w w1 : World} {S : Nat → Prop} (h : Kp w w1 S) (a : Addr) (v : Value) (ha : w.heap.size ≤ a.block ∨ S a.block) : Kp w (w1.setCell a v) S := by
  have q := (Below.refl 0 w1).setCell (p := a) (Nat.zero_le _) v
  refine ⟨q.os.trans h.os, q.tape.trans h.tape, q.output.trans h.output, Nat.le_trans h.size q.size, fun i hi hs => ?_⟩
  rw [heap_setCell_other w1 a i v (fun e => by rcases ha with ha | ha; omega; exact hs (e ▸ ha))]
  exact h.block i hi hs
end Kp
theorem NdIn.kp {w w' : World} {F S : Nat → Prop} {sl : Value} {t : Nd} (h : NdIn w F sl t) (g : Kp w w' S) (hd : ∀ b, F b → ¬ S b) : NdIn w' F sl t :=
  h.mono fun b hb hlt => ⟨g.block b hlt (hd b hb), hb⟩
theorem NdIn.kpn {w w' : World} {F : Nat → Prop} {sl : Value} {t : Nd} (h : NdIn w F sl t) (g : Kp w w' Nul) : NdIn w' F sl t := h.kp g fun _ _ s => s

/-- The cells vs in the places of those from o on. -/
def setAll (z : Array Value) (o : Nat) : List Value → Array Value
  | [] => z
  | v :: vs => setAll (z.setIfInBounds o v) (o + 1) vs
theorem setAll_size : ∀ (vs : List Value) (z : Array Value) (o : Nat), (setAll z o vs).size = z.size
  | [], _, _ => rfl
  | v :: vs, z, o => by rw [setAll, setAll_size vs]; simp
theorem setAll_get : ∀ (vs : List Value) (z : Array Value) (o i : Nat), o + vs.length ≤ z.size → (setAll z o vs)[i]? = if o ≤ i ∧ i < o + vs.length then vs[i - o]? else z[i]?
  | [], z, o, i, _ => by rw [setAll, if_neg (by simp)]
  | v :: vs, z, o, i, h => by
    simp only [List.length_cons] at h ⊢
    rw [setAll, setAll_get vs _ (o + 1) i (by simp; omega)]
    by_cases h1 : o + 1 ≤ i ∧ i < o + 1 + vs.length
    · rw [if_pos h1, if_pos (by omega), show i - o = (i - (o + 1)) + 1 by omega]; simp
    · rw [if_neg h1]
      by_cases h2 : i = o
      · subst h2
        rw [if_pos (by omega), Nat.sub_self, Array.getElem?_setIfInBounds_self_of_lt (by omega)]; simp
      · rw [if_neg (by omega), Array.getElem?_setIfInBounds_ne (by omega)]
theorem setAll_all (z cs : Array Value) (h : z.size = cs.size) : setAll z 0 cs.toList = cs := by
  apply Array.ext_getElem?
  intro i
  rw [setAll_get _ _ _ _ (by simp; omega)]
  by_cases hi : i < cs.size
  · rw [if_pos (by simp; exact hi)]; simp
  · rw [if_neg (by simp; omega)]
    rw [Array.getElem?_eq_none (by omega), Array.getElem?_eq_none (by omega)]
theorem setCells_alloc (w : World) (t : TypeId) : ∀ (vs : List Value) (z : Array Value) (o : Nat), (w.alloc (.cells z t)).setCells w.heap.size o vs = w.alloc (.cells (setAll z o vs) t)
  | [], _, _ => rfl
  | v :: vs, z, o => by
    rw [World.setCells, World.setCell_alloc_new, setAll]
    exact setCells_alloc w t vs _ _
theorem setCells_new (w : World) (t : TypeId) (z cs : Array Value) (h : z.size = cs.size) : (w.alloc (.cells z t)).setCells w.heap.size 0 cs.toList = w.alloc (.cells cs t) := by
  rw [setCells_alloc, setAll_all z cs h]
/-- A struct stored into a variable that was just laid. -/
theorem wpList_store_new {P : Program} {ops : Array Oper} {rest : List Oper} {op : Oper} {a : Act} {Q : Exit → Act → World → Prop} (hgd : op.guard = none) (ty : TypeId) (x y : Operand) (ho : op.op = .store ty x y)
    (w : World) (z cells : Array Value) (t : TypeId) (N : Nat) (hN : N = w.heap.size) (hx : a.eval x = .pointer (some ⟨N, 0, none⟩)) (hy : a.eval y = .agg cells)
    (hz : z.size = cells.size) (hi : (P.info? ty).map (·.size) = some cells.size) (h1 : cells.all (·.oneCell') = true)
    (h : wpList P ops Q rest (a.put op.dst undef) (w.alloc (.cells cells t))) : wpList P ops Q (op :: rest) a (w.alloc (.cells z t)) := by
  subst hN
  refine wpList_store_mid hgd ty x y ho w.heap.size 0 cells hx hy ?_ hi h1 ?_
  · intro j hj
    constructor
    · rw [World.cell?_alloc_at _ _ _ _ rfl, Array.getElem?_eq_getElem (by omega)]; rfl
    · rw [frozen?_alloc_cells, frozen_new]
  · rw [setCells_new w t z cells hz]; exact h
theorem heap_setCells_at {b : Nat} {t : TypeId} : ∀ (vs : List Value) (o : Nat) (w : World) (z : Array Value), w.heap[b]? = some (.cells z t (0, 0)) → (w.setCells b o vs).heap[b]? = some (.cells (setAll z o vs) t (0, 0))
  | [], _, _, _, h => h
  | v :: vs, o, w, z, h => by
    rw [World.setCells, setAll]
    exact heap_setCells_at vs (o + 1) _ _ (heap_setCell_same w b o z t v h)
theorem heap_setCells_whole {b : Nat} {t : TypeId} {w : World} {z cs : Array Value} (h : w.heap[b]? = some (.cells z t (0, 0))) (hz : z.size = cs.size) : (w.setCells b 0 cs.toList).heap[b]? = some (.cells cs t (0, 0)) := by
  rw [heap_setCells_at _ _ _ _ h, setAll_all z cs hz]
theorem heap_setCells_ne {b i : Nat} (hi : i ≠ b) : ∀ (vs : List Value) (o : Nat) (w : World), (w.setCells b o vs).heap[i]? = w.heap[i]?
  | [], _, _ => rfl
  | v :: vs, o, w => by
    rw [World.setCells, heap_setCells_ne hi vs, heap_setCell_other w _ i v hi]
theorem setCells_kp {b : Nat} (S : Nat → Prop) (hS : S b) : ∀ (vs : List Value) (o : Nat) (w : World), Kp w (w.setCells b o vs) S
  | [], _, w => Kp.refl w S
  | v :: vs, o, w => by
    rw [World.setCells]
    exact (((Kp.refl w S).setCell ⟨b, o, none⟩ v (.inr hS))).trans (setCells_kp S hS vs (o + 1) _)
theorem size_setCells {b : Nat} : ∀ (vs : List Value) (o : Nat) (w : World), (w.setCells b o vs).heap.size = w.heap.size
  | [], _, _ => rfl
  | v :: vs, o, w => by
    rw [World.setCells, size_setCells vs]
    show (w.heap.modify _ _).size = _
    simp
theorem setCells_below {b B : Nat} {w w1 : World} (h : Below B w w1) (hB : B ≤ b) (vs : List Value) (o : Nat) : Below B w (w1.setCells b o vs) := by
  have q := setCells_kp (b := b) (fun i => i = b) rfl vs o w1
  exact ⟨q.os.trans h.os, q.tape.trans h.tape, q.output.trans h.output, Nat.le_trans h.size q.size, fun i hi => by rw [heap_setCells_ne (by omega)]; exact h.block i hi⟩
theorem NdIn.one {w : World} {F : Nat → Prop} {sl : Value} {t : Nd} (h : NdIn w F sl t) : sl.oneCell' = true := by
  cases t; rw [NdIn] at h; obtain ⟨a, c, rfl, _⟩ := h; rfl
theorem Hd.one (h : Hd) {sl : Value} (hs : sl.oneCell' = true) : (#[.int .i64 h.k, .int .i64 h.o, .float .f64 h.x, .string h.s, .bool h.b, .int .i64 h.f, .int .i64 h.c1, .int .i64 h.r1, .bool h.p1, .bool h.q1, .int .i64 h.c2, .int .i64 h.r2, .bool h.p2, .bool h.q2, sl] : Array Value).all (·.oneCell') = true := by
  simpa [Value.oneCell'] using hs
end Go.Proofs.YtbkcebbddhaifaaGreatDoor
namespace Go.Proofs.YtbkcebbddhaifaaGreatDoor
open Go.RowKit

def isF (f : Int) : Bool := decide (1 ≤ f) && decide (f ≤ 5)
set_option maxHeartbeats 1000000 in
theorem isFault_at (f : Int) (w : World) : Calls Tryz.prog 142 #[.int .i64 f] w fun e w' => e = .returned (.bool (isF f)) ∧ w' = w := by
  have hV : Hid (isF f = (decide (1 ≤ f) && decide (f ≤ 5))) := rfl
  generalize isF f = V at *
  go_enter Tryz.func142, Tryz.ntmps142
  go_wp2
  all_goals
    go_ret
    refine ⟨rBool ?_, rfl⟩
    rw [hV.out]
    clear hV
    (try simp_all) <;> (try omega)

/-- All fields that don't count are zero? -/
def bareV (v : Vl) : Bool := (v.k == 1 || (v.x : Int) == 0) && (v.k == 2 || decide (v.s.toList = [])) && (v.k == 3 || !v.b) && (v.k == 4 || v.f == 0)
set_option maxRecDepth 20000 in
set_option maxHeartbeats 4000000 in
theorem bare_at (v : Vl) (w : World) : Calls Tryz.prog 140 #[v.val] w fun e w' => e = .returned (.bool (bareV v)) ∧ Gr w w' := by
  have G0 : Hid (∀ a t, Gr w (w.alloc (.cells a t))) := fun a t => (Gr.refl w).alloc _ _
  have hV : Hid (bareV v = ((v.k == 1 || (v.x : Int) == 0) && (v.k == 2 || decide (v.s.toList = [])) && (v.k == 3 || !v.b) && (v.k == 4 || v.f == 0))) := rfl
  generalize bareV v = V at *
  obtain ⟨k, x, s, b, f⟩ := v
  simp only at *
  go_enter Tryz.func140, Tryz.ntmps140
  go_wp2
  all_goals
    go_ret
    refine ⟨rBool ?_, G0.out _ _⟩
    rw [hV.out]
    clear hV G0
    simp_all
end Go.Proofs.YtbkcebbddhaifaaGreatDoor
namespace Go.Proofs.YtbkcebbddhaifaaGreatDoor
open Go.RowKit

/-- May the value be? u: is its text right? -/
def validV (v : Vl) (u : Bool) : Bool := bareV v && (v.k == 0 || v.k == 1 || v.k == 3 || (v.k == 2 && decide (v.s.size ≤ 1024) && u) || (v.k == 4 && isF v.f))
set_option maxRecDepth 20000 in
set_option maxHeartbeats 4000000 in
theorem valid_at (v : Vl) (u : Bool) (w : World)
    (U : Hid (v.k = 2 → ∀ wq, Gr w wq → Calls Tryz.prog 141 #[.string v.s] wq fun e w' => e = .returned (.bool u) ∧ Gr wq w')) :
    Calls Tryz.prog 110 #[v.val] w fun e w' => e = .returned (.bool (validV v u)) ∧ Gr w w' := by
  have H1 : Hid (∀ w, Calls Tryz.prog 140 #[v.val] w fun e w' => e = .returned (.bool (bareV v)) ∧ Gr w w') := bare_at v
  have H2 : Hid (∀ w, Calls Tryz.prog 142 #[.int .i64 v.f] w fun e w' => e = .returned (.bool (isF v.f)) ∧ w' = w) := isFault_at v.f
  have hV : Hid (validV v u = (bareV v && (v.k == 0 || v.k == 1 || v.k == 3 || (v.k == 2 && decide (v.s.size ≤ 1024) && u) || (v.k == 4 && isF v.f)))) := rfl
  generalize validV v u = V at *
  generalize bareV v = B at *
  generalize isF v.f = I at *
  obtain ⟨k, x, s, b, f⟩ := v
  simp only at *
  go_enter Tryz.func110, Tryz.ntmps110
  go_wp2_with fail
  refine (H1.out _).mono ?_
  rintro e w1 ⟨rfl, hg1⟩
  have hcell := hg1.ext.cell
  have G1 : Hid (Gr w w1) := ((Gr.refl _).alloc _ _).trans hg1
  clear hg1 H1
  cases B
  · go_wp2_with fail
    go_ret
    exact ⟨rBool (by rw [hV.out]; rfl), G1.out⟩
  · by_cases k2 : k = 2
    · have U2 : Hid (∀ wq, Gr w wq → Calls Tryz.prog 141 #[.string s] wq fun e w' => e = .returned (.bool u) ∧ Gr wq w') := U.out k2
      subst k2
      clear U
      go_wp2_with (go_at_call 141; refine (U2.out _ G1.out).mono ?_; rintro e w2 ⟨rfl, hg2⟩; have G2 : Hid (Gr w w2) := G1.out.trans hg2; clear hg2 hcell)
      · go_ret
        refine ⟨rBool ?_, G2.out⟩
        rw [hV.out]
        clear hV
        simp_all
        try omega
      · go_ret
        refine ⟨rBool ?_, G1.out⟩
        rw [hV.out]
        clear hV
        simp_all
        try omega
    · clear U
      go_wp2_with (go_at_call 142; refine (H2.out _).mono ?_; rintro e w2 ⟨rfl, rfl⟩)
      all_goals
        go_ret
        refine ⟨rBool ?_, G1.out⟩
        rw [hV.out]
        clear hV hcell H2
        simp_all

theorem infoValue : (Tryz.prog.info? 53).map (·.size) = some 5 := by kernel_rfl
/-- All fields of a value are zero? -/
def zeroV (v : Vl) : Bool := v.k == 0 && bareV v
set_option maxRecDepth 20000 in
set_option maxHeartbeats 4000000 in
theorem isZeroValue_at (v : Vl) (w : World) : Calls Tryz.prog 108 #[v.val] w fun e w' => e = .returned (.bool (zeroV v)) ∧ Gr w w' := by
  have H1 : Hid (v.k = 0 → ∀ wq, Calls Tryz.prog 110 #[v.val] wq fun e w' => e = .returned (.bool (bareV v)) ∧ Gr wq w') := by
    intro hk wq
    have := valid_at v false wq (fun h2 => absurd h2 (by rw [hk]; decide))
    rw [show validV v false = bareV v from by unfold validV; rw [hk]; simp] at this
    exact this
  have hV : Hid (zeroV v = (v.k == 0 && bareV v)) := rfl
  generalize zeroV v = V at *
  generalize bareV v = B at *
  obtain ⟨k, x, s, b, f⟩ := v
  simp only at *
  by_cases k0 : k = 0
  · have H2 : Hid (∀ wq, Calls Tryz.prog 110 #[.agg #[.int .i64 k, .float .f64 x, .string s, .bool b, .int .i64 f]] wq fun e w' => e = .returned (.bool B) ∧ Gr wq w') := H1.out k0
    subst k0
    clear H1
    go_enter Tryz.func108, Tryz.ntmps108
    go_wp2_with fail
    refine (H2.out _).mono ?_
    rintro e w1 ⟨rfl, hg1⟩
    have G1 : Hid (Gr w w1) := ((Gr.refl _).alloc _ _).trans hg1
    clear hg1 H2
    go_wp2_with fail
    go_ret
    exact ⟨rBool (by rw [hV.out]; rfl), G1.out⟩
  · clear H1
    have hk : (k == 0) = false := by simpa using k0
    have G1 : Hid (∀ a t, Gr w (w.alloc (.cells a t))) := fun a t => (Gr.refl w).alloc _ _
    go_enter Tryz.func108, Tryz.ntmps108
    go_wp2_with fail
    go_ret
    exact ⟨rBool (by rw [hV.out, hk]; rfl), G1.out _ _⟩

set_option maxRecDepth 20000 in
set_option maxHeartbeats 4000000 in
theorem ofNumber_at (x : Nat) (hx : x < 18446744073709551616) (w : World) :
    Calls Tryz.prog 111 #[.float .f64 x] w fun e w' => e = .returned (.agg #[.int .i64 1, .float .f64 (one x), .string ⟨#[]⟩, .bool false, .int .i64 0]) ∧ Gr w w' := by
  have H1 : Hid (∀ w, Calls Tryz.prog 48 #[.float .f64 x] w fun e w' => e = .returned (.float .f64 (one x)) ∧ w' = w) := one_any x hx
  generalize one x = y at *
  go_enter Tryz.func111, Tryz.ntmps111
  go_wp2_with (go_at_call 48; refine (H1.out _).mono ?_; rintro e w' ⟨rfl, rfl⟩)
  refine bodyPost_ret (results_cell_row rfl _ _ w.heap.size 53 _ (0, 0) _ rfl (heap_alloc_new _ _) Tryz.underlying53 rfl infoValue) rfl ?_
  exact ⟨rfl, (Gr.refl _).alloc _ _⟩
end Go.Proofs.YtbkcebbddhaifaaGreatDoor
