/- grid's Copy. Grids in memory: a struct of one cell, which leads to a map by cells, whose elements are contents. A grid's Len and has. What a look into a grid's map tells. -/
import Derived.Test.YtbkcebbddhaifaaGreatDoorC4
import Derived.Test.YtbkcebbddhaifaaGreatDoorC6
import Derived.Test.YtbkcebbddhaifaaGreatDoorC2
namespace Go.Proofs.YtbkcebbddhaifaaGreatDoor
open Go.RowKit

/-- A content with the NaN in the place of every other one. -/
def cpC (c : Ct) : Ct := ⟨c.k, { c.v with x := one c.v.x }, cpy c.t⟩
theorem infoContent : (Tryz.prog.info? 55).map (·.size) = some 21 := by kernel_rfl
theorem Ct.one (c : Ct) {sl : Value} (hs : sl.oneCell' = true) : (#[.int .i64 c.k, .int .i64 c.v.k, .float .f64 c.v.x, .string c.v.s, .bool c.v.b, .int .i64 c.v.f,
  .int .i64 c.t.hd.k, .int .i64 c.t.hd.o, .float .f64 c.t.hd.x, .string c.t.hd.s, .bool c.t.hd.b, .int .i64 c.t.hd.f, .int .i64 c.t.hd.c1, .int .i64 c.t.hd.r1, .bool c.t.hd.p1, .bool c.t.hd.q1, .int .i64 c.t.hd.c2, .int .i64 c.t.hd.r2, .bool c.t.hd.p2, .bool c.t.hd.q2, sl] : Array Value).all (·.oneCell') = true := by
  simpa [Value.oneCell'] using hs

theorem rangeAt_mid {w : World} {b : Nat} {pre l post : List Value} {t : TypeId} {fr : Nat × Nat} (hb : w.heap[b]? = some (.cells (pre ++ l ++ post).toArray t fr)) : w.rangeAt b pre.length l := by
  intro j v hj
  rw [cell_of_row w b _ _ _ _ hb]
  have hlt : j < l.length := (List.getElem?_eq_some_iff.1 hj).1
  simp only [List.getElem?_toArray]
  rw [List.append_assoc, List.getElem?_append_right (by omega), Nat.add_sub_cancel_left, List.getElem?_append_left hlt]
  exact hj
theorem setAll_mid (pre old new post : List Value) (h : old.length = new.length) : setAll (pre ++ old ++ post).toArray pre.length new = (pre ++ new ++ post).toArray := by
  apply Array.ext_getElem?
  intro i
  rw [setAll_get _ _ _ _ (by simp; omega)]
  simp only [List.getElem?_toArray]
  by_cases h1 : pre.length ≤ i ∧ i < pre.length + new.length
  · rw [if_pos h1, List.append_assoc, List.getElem?_append_right h1.1, List.getElem?_append_left (by omega)]
  · rw [if_neg h1]
    by_cases h2 : i < pre.length
    · rw [List.append_assoc, List.append_assoc, List.getElem?_append_left h2, List.getElem?_append_left h2]
    · rw [List.getElem?_append_right (by simp; omega), List.getElem?_append_right (by simp; omega), List.length_append, List.length_append, h]
theorem heap_setCells_mid {w : World} {b : Nat} {pre old new post : List Value} {t : TypeId} (h : old.length = new.length) (hb : w.heap[b]? = some (.cells (pre ++ old ++ post).toArray t (0, 0))) :
    (w.setCells b pre.length new).heap[b]? = some (.cells (pre ++ new ++ post).toArray t (0, 0)) := by
  rw [heap_setCells_at _ _ _ _ hb, setAll_mid _ _ _ _ h]
/-- A struct stored; the world behind it has a name. -/
theorem wpList_store_to {P : Program} {ops : Array Oper} {rest : List Oper} {op : Oper} {a : Act} {w : World} {Q : Exit → Act → World → Prop} (hgd : op.guard = none) (ty : TypeId) (x y : Operand) (ho : op.op = .store ty x y)
    (b o : Nat) (cells : Array Value) (hx : a.eval x = .pointer (some ⟨b, o, none⟩)) (hy : a.eval y = .agg cells)
    (ht : w.there b o cells.size) (hi : (P.info? ty).map (·.size) = some cells.size) (h1 : cells.all (·.oneCell') = true) (W3 : World) (hW : w.setCells b o cells.toList = W3)
    (h : wpList P ops Q rest (a.put op.dst undef) W3) : wpList P ops Q (op :: rest) a w :=
  wpList_store_mid hgd ty x y ho b o cells hx hy ht hi h1 (by rw [hW]; exact h)
@[go_sem] theorem field_x (a c d f : Value) (y : Nat) (w : World) : (Instr.field 53 (.agg #[a, .float .f64 y, c, d, f]) 1).run Tryz.prog w = .ok (.float .f64 y) w := by
  unfold Instr.field
  rw [Sem.run_bind, run_underlying Tryz.underlying53 w]
  simp [part, asAgg, isAgg, run_underlying Tryz.underlying39 w, Sem.run_bind]

set_option maxRecDepth 20000 in
set_option maxHeartbeats 1500000 in
theorem gCopy_at (c : Ct) (sl : Value) (F : Nat → Prop) (w : World) (hx : c.v.x < 18446744073709551616) (hm : c.t.size ≤ 1048576) (hok : c.t.ok) (hin : NdIn w F sl c.t) :
    Calls Tryz.prog 61 #[c.val sl] w fun e w' => ∃ sl' fp, e = .returned ((cpC c).val sl') ∧ Own w' w.heap.size sl' (cpC c).t fp ∧ Below w.heap.size w w' := by
  have H1 : Hid (∀ w, Calls Tryz.prog 111 #[.float .f64 c.v.x] w fun e w' => e = .returned (.agg #[.int .i64 1, .float .f64 (Go.Proofs.YtbkcebbddhaifaaGreatDoor.one c.v.x), .string ⟨#[]⟩, .bool false, .int .i64 0]) ∧ Gr w w') := ofNumber_at c.v.x hx
  have H2 : Hid (∀ wq, Below w.heap.size w wq → Calls Tryz.prog 12 #[c.t.hd.val sl] wq fun e w' => ∃ sl' fp, e = .returned ((cpy c.t).hd.val sl') ∧ Own w' wq.heap.size sl' (cpy c.t) fp ∧ Below wq.heap.size wq w') :=
    fun wq hq => copy_at c.t sl F wq hm hok (hin.mono fun b hb hlt => ⟨hq.block b hlt, hb⟩)
  obtain ⟨k, ⟨vk, vx, vs, vb, vf⟩, t⟩ := c
  unfold cpC
  simp only at *
  generalize Go.Proofs.YtbkcebbddhaifaaGreatDoor.one vx = y at *
  generalize cpy t = u at *
  clear hin hok hx hm
  go_enter Tryz.func61, Tryz.ntmps61
  go_wp2_with fail
  refine (H1.out _).mono ?_
  rintro e w1 ⟨rfl, hg1⟩
  have B0 : Hid (w1.heap[w.heap.size]? = some (.cells #[.int .i64 k, .int .i64 vk, .float .f64 vx, .string vs, .bool vb, .int .i64 vf, .int .i64 t.hd.k, .int .i64 t.hd.o, .float .f64 t.hd.x, .string t.hd.s, .bool t.hd.b, .int .i64 t.hd.f, .int .i64 t.hd.c1, .int .i64 t.hd.r1, .bool t.hd.p1, .bool t.hd.q1, .int .i64 t.hd.c2, .int .i64 t.hd.r2, .bool t.hd.p2, .bool t.hd.q2, sl] 55 (0, 0))) := by
    show _ = _
    rw [hg1.ext.block _ (by simp [World.size_alloc] <;> omega), heap_alloc2_old]
  have B1 : Hid (w1.heap[w.heap.size + 1]? = some (.cells #[.int .i64 0, .int .i64 0, .float .f64 0, .string ⟨#[]⟩, .bool false, .int .i64 0, .int .i64 0, .int .i64 0, .float .f64 0, .string ⟨#[]⟩, .bool false, .int .i64 0, .int .i64 0, .int .i64 0, .bool false, .bool false, .int .i64 0, .int .i64 0, .bool false, .bool false, .slice none 0 0] 55 (0, 0))) := by
    show _ = _
    rw [hg1.ext.block _ (by simp [World.size_alloc]), heap_alloc2_new]
  have GW : Hid (Below w.heap.size w w1) := (((Below.refl _ _).alloc (Nat.le_refl _) _).alloc (by simp [World.size_alloc]) _).trans ((gr_below hg1).mono (by simp [World.size_alloc]; omega))
  clear hg1 H1
  have D0 : Hid ((w1.setCell ⟨w.heap.size, 2, none⟩ (.float .f64 y)).heap[w.heap.size]? = some (.cells #[.int .i64 k, .int .i64 vk, .float .f64 y, .string vs, .bool vb, .int .i64 vf, .int .i64 t.hd.k, .int .i64 t.hd.o, .float .f64 t.hd.x, .string t.hd.s, .bool t.hd.b, .int .i64 t.hd.f, .int .i64 t.hd.c1, .int .i64 t.hd.r1, .bool t.hd.p1, .bool t.hd.q1, .int .i64 t.hd.c2, .int .i64 t.hd.r2, .bool t.hd.p2, .bool t.hd.q2, sl] 55 (0, 0))) := by
    show _ = _
    rw [heap_setCell_same w1 _ 2 _ _ _ B0.out]
    rfl
  have D1 : Hid ((w1.setCell ⟨w.heap.size, 2, none⟩ (.float .f64 y)).heap[w.heap.size + 1]? = some (.cells #[.int .i64 0, .int .i64 0, .float .f64 0, .string ⟨#[]⟩, .bool false, .int .i64 0, .int .i64 0, .int .i64 0, .float .f64 0, .string ⟨#[]⟩, .bool false, .int .i64 0, .int .i64 0, .int .i64 0, .bool false, .bool false, .int .i64 0, .int .i64 0, .bool false, .bool false, .slice none 0 0] 55 (0, 0))) := (heap_setCell_other w1 _ _ _ (by simp)).trans B1.out
  have GW1 : Hid (Below w.heap.size w (w1.setCell ⟨w.heap.size, 2, none⟩ (.float .f64 y))) := GW.out.setCell (Nat.le_refl _) _
  have c2 : w1.cell? ⟨w.heap.size, 2, none⟩ = some (.float .f64 vx) := cell_of_row w1 _ 2 _ _ _ B0.out
  have f2 : w1.frozen? ⟨w.heap.size, 2, none⟩ = false := frozen_of_row w1 _ 2 _ _ B0.out
  have RF : Hid ((w1.setCell ⟨w.heap.size, 2, none⟩ (.float .f64 y)).rangeAt w.heap.size 6 (t.hd.cells sl)) := rangeAt_mid (pre := [.int .i64 k, .int .i64 vk, .float .f64 y, .string vs, .bool vb, .int .i64 vf]) (l := t.hd.cells sl) (post := []) D0.out
  clear B0 B1 GW
  go_wp2_with (refine wpList_load_mid rfl 44 (.tmp 10) rfl w.heap.size 6 rfl (t.hd.cells sl) _ RF.out Tryz.underlying44 rfl infoNode ?_)
  refine (H2.out _ GW1.out).mono ?_
  rintro e w2 ⟨sl', fp, rfl, hown, hbw⟩
  have hsz : w.heap.size + 1 < (w1.setCell ⟨w.heap.size, 2, none⟩ (.float .f64 y)).heap.size := (Array.getElem?_eq_some_iff.1 D1.out).1
  have E0 : Hid (w2.heap[w.heap.size]? = some (.cells #[.int .i64 k, .int .i64 vk, .float .f64 y, .string vs, .bool vb, .int .i64 vf, .int .i64 t.hd.k, .int .i64 t.hd.o, .float .f64 t.hd.x, .string t.hd.s, .bool t.hd.b, .int .i64 t.hd.f, .int .i64 t.hd.c1, .int .i64 t.hd.r1, .bool t.hd.p1, .bool t.hd.q1, .int .i64 t.hd.c2, .int .i64 t.hd.r2, .bool t.hd.p2, .bool t.hd.q2, sl] 55 (0, 0))) := (hbw.block _ (by omega)).trans D0.out
  have E1 : Hid (w2.heap[w.heap.size + 1]? = some (.cells #[.int .i64 0, .int .i64 0, .float .f64 0, .string ⟨#[]⟩, .bool false, .int .i64 0, .int .i64 0, .int .i64 0, .float .f64 0, .string ⟨#[]⟩, .bool false, .int .i64 0, .int .i64 0, .int .i64 0, .bool false, .bool false, .int .i64 0, .int .i64 0, .bool false, .bool false, .slice none 0 0] 55 (0, 0))) := (hbw.block _ hsz).trans D1.out
  have O1 : Hid (sl'.oneCell' = true) := hown.own.one
  have F0 : Hid ((w2.setCells w.heap.size 6 (u.hd.cells sl')).heap[w.heap.size]? = some (.cells #[.int .i64 k, .int .i64 vk, .float .f64 y, .string vs, .bool vb, .int .i64 vf, .int .i64 u.hd.k, .int .i64 u.hd.o, .float .f64 u.hd.x, .string u.hd.s, .bool u.hd.b, .int .i64 u.hd.f, .int .i64 u.hd.c1, .int .i64 u.hd.r1, .bool u.hd.p1, .bool u.hd.q1, .int .i64 u.hd.c2, .int .i64 u.hd.r2, .bool u.hd.p2, .bool u.hd.q2, sl'] 55 (0, 0))) := heap_setCells_mid (pre := [.int .i64 k, .int .i64 vk, .float .f64 y, .string vs, .bool vb, .int .i64 vf]) (old := t.hd.cells sl) (new := u.hd.cells sl') (post := []) rfl E0.out
  have F1 : Hid ((w2.setCells w.heap.size 6 (u.hd.cells sl')).heap[w.heap.size + 1]? = some (.cells #[.int .i64 0, .int .i64 0, .float .f64 0, .string ⟨#[]⟩, .bool false, .int .i64 0, .int .i64 0, .int .i64 0, .float .f64 0, .string ⟨#[]⟩, .bool false, .int .i64 0, .int .i64 0, .int .i64 0, .bool false, .bool false, .int .i64 0, .int .i64 0, .bool false, .bool false, .slice none 0 0] 55 (0, 0))) := (heap_setCells_ne (by omega) _ _ _).trans E1.out
  have T0 : Hid (w2.there w.heap.size 6 15) := there_of_block E0.out _ _ (by simp)
  obtain ⟨W3, hW3⟩ : ∃ W3, w2.setCells w.heap.size 6 (u.hd.cells sl') = W3 := ⟨_, rfl⟩
  have HW3 : Hid (w2.setCells w.heap.size 6 (u.hd.cells sl') = W3) := hW3
  rw [hW3] at F0 F1
  have RC : Hid (W3.rangeAt w.heap.size 0 [.int .i64 k, .int .i64 vk, .float .f64 y, .string vs, .bool vb, .int .i64 vf, .int .i64 u.hd.k, .int .i64 u.hd.o, .float .f64 u.hd.x, .string u.hd.s, .bool u.hd.b, .int .i64 u.hd.f, .int .i64 u.hd.c1, .int .i64 u.hd.r1, .bool u.hd.p1, .bool u.hd.q1, .int .i64 u.hd.c2, .int .i64 u.hd.r2, .bool u.hd.p2, .bool u.hd.q2, sl']) := rangeAt_mid (pre := []) (post := []) F0.out
  have T1 : Hid (W3.there (w.heap.size + 1) 0 21) := there_of_block F1.out _ _ (by simp)
  have L1 : Hid ((W3.setCells (w.heap.size + 1) 0 [.int .i64 k, .int .i64 vk, .float .f64 y, .string vs, .bool vb, .int .i64 vf, .int .i64 u.hd.k, .int .i64 u.hd.o, .float .f64 u.hd.x, .string u.hd.s, .bool u.hd.b, .int .i64 u.hd.f, .int .i64 u.hd.c1, .int .i64 u.hd.r1, .bool u.hd.p1, .bool u.hd.q1, .int .i64 u.hd.c2, .int .i64 u.hd.r2, .bool u.hd.p2, .bool u.hd.q2, sl']).heap[w.heap.size + 1]? = some (.cells #[.int .i64 k, .int .i64 vk, .float .f64 y, .string vs, .bool vb, .int .i64 vf, .int .i64 u.hd.k, .int .i64 u.hd.o, .float .f64 u.hd.x, .string u.hd.s, .bool u.hd.b, .int .i64 u.hd.f, .int .i64 u.hd.c1, .int .i64 u.hd.r1, .bool u.hd.p1, .bool u.hd.q1, .int .i64 u.hd.c2, .int .i64 u.hd.r2, .bool u.hd.p2, .bool u.hd.q2, sl'] 55 (0, 0))) := heap_setCells_whole (cs := #[.int .i64 k, .int .i64 vk, .float .f64 y, .string vs, .bool vb, .int .i64 vf, .int .i64 u.hd.k, .int .i64 u.hd.o, .float .f64 u.hd.x, .string u.hd.s, .bool u.hd.b, .int .i64 u.hd.f, .int .i64 u.hd.c1, .int .i64 u.hd.r1, .bool u.hd.p1, .bool u.hd.q1, .int .i64 u.hd.c2, .int .i64 u.hd.r2, .bool u.hd.p2, .bool u.hd.q2, sl']) F1.out (by simp)
  have OW : Hid (Own (W3.setCells (w.heap.size + 1) 0 [.int .i64 k, .int .i64 vk, .float .f64 y, .string vs, .bool vb, .int .i64 vf, .int .i64 u.hd.k, .int .i64 u.hd.o, .float .f64 u.hd.x, .string u.hd.s, .bool u.hd.b, .int .i64 u.hd.f, .int .i64 u.hd.c1, .int .i64 u.hd.r1, .bool u.hd.p1, .bool u.hd.q1, .int .i64 u.hd.c2, .int .i64 u.hd.r2, .bool u.hd.p2, .bool u.hd.q2, sl']) w.heap.size sl' u fp) := by
    refine ⟨hown.own.mono (fun b hb => ?_), hown.nodup, fun b hb => ?_⟩
    · have := (hown.new b hb).1
      rw [heap_setCells_ne (by omega), ← hW3, heap_setCells_ne (by omega)]
    · rw [size_setCells, ← hW3, size_setCells]
      exact ⟨by have := (hown.new b hb).1; omega, (hown.new b hb).2⟩
  have BW : Hid (Below w.heap.size w (W3.setCells (w.heap.size + 1) 0 [.int .i64 k, .int .i64 vk, .float .f64 y, .string vs, .bool vb, .int .i64 vf, .int .i64 u.hd.k, .int .i64 u.hd.o, .float .f64 u.hd.x, .string u.hd.s, .bool u.hd.b, .int .i64 u.hd.f, .int .i64 u.hd.c1, .int .i64 u.hd.r1, .bool u.hd.p1, .bool u.hd.q1, .int .i64 u.hd.c2, .int .i64 u.hd.r2, .bool u.hd.p2, .bool u.hd.q2, sl'])) :=
    setCells_below (hW3 ▸ setCells_below (GW1.out.trans (hbw.mono (by omega))) (Nat.le_refl _) _ _) (Nat.le_succ _) _ _
  clear hW3 hown hbw H2 D0 D1 GW1 c2 f2 RF E0 E1 F0 F1 hsz
  go_wp2_with (first | (refine wpList_store_to rfl 44 (.tmp 13) (.tmp 12) rfl w.heap.size 6 _ rfl rfl T0.out infoNode (u.hd.one O1.out) W3 HW3.out ?_) | (refine wpList_load_mid rfl 55 (.tmp 1) rfl w.heap.size 0 rfl [.int .i64 k, .int .i64 vk, .float .f64 y, .string vs, .bool vb, .int .i64 vf, .int .i64 u.hd.k, .int .i64 u.hd.o, .float .f64 u.hd.x, .string u.hd.s, .bool u.hd.b, .int .i64 u.hd.f, .int .i64 u.hd.c1, .int .i64 u.hd.r1, .bool u.hd.p1, .bool u.hd.q1, .int .i64 u.hd.c2, .int .i64 u.hd.r2, .bool u.hd.p2, .bool u.hd.q2, sl'] _ RC.out Tryz.underlying55 rfl infoContent ?_) | (refine wpList_store_mid rfl 55 (.tmp 2) (.tmp 14) rfl (w.heap.size + 1) 0 _ rfl rfl T1.out infoContent (Ct.one ⟨k, ⟨vk, y, vs, vb, vf⟩, u⟩ O1.out) ?_))
  refine bodyPost_ret (results_cell_row rfl _ _ (w.heap.size + 1) 55 _ (0, 0) _ rfl L1.out Tryz.underlying55 rfl infoContent) rfl ?_
  exact ⟨_, _, rfl, OW.out, BW.out⟩
end Go.Proofs.YtbkcebbddhaifaaGreatDoor
namespace Go.Proofs.YtbkcebbddhaifaaGreatDoor
open Go.RowKit Go.Maps

/-- What a cell's address reads as, as a key. -/
noncomputable def kl (c r : Int) : Lit := (keyOf Tryz.prog 32 (.agg #[.int .i64 c, .int .i64 r])).getD (.bool false)
theorem kl_key {c r : Int} (hc : I64 c) (hr : I64 r) : keyOf Tryz.prog 32 (.agg #[.int .i64 c, .int .i64 r]) = some (kl c r) := by
  obtain ⟨l, hl⟩ := keyOf_addr c r hc hr
  have e : kl c r = l := by unfold kl; rw [hl, Option.getD_some]
  rw [e]; exact hl
theorem kl_inj {c r c' r' : Int} (hc : I64 c) (hr : I64 r) (hc' : I64 c') (hr' : I64 r') (h : kl c r = kl c' r') : c = c' ∧ r = r' := by
  have h1 := kl_key hc hr
  have h2 := kl_key hc' hr'
  rw [← h] at h2
  have := lawAddr.inj h1 h2
  simpa using this
/-- Elements as they stand. -/
def rawE : Value → Option (DataW Value × List MemPlace) := fun v => some (.held v, [])
/-- The zero content, as a value. -/
def zCv : Value := .agg #[.int .i64 0, .int .i64 0, .float .f64 0, .string ⟨#[]⟩, .bool false, .int .i64 0, .int .i64 0, .int .i64 0, .float .f64 0, .string ⟨#[]⟩, .bool false, .int .i64 0, .int .i64 0, .int .i64 0, .bool false, .bool false, .int .i64 0, .int .i64 0, .bool false, .bool false, .slice none 0 0]
theorem zeroC (w : World) : (zeroValue 55).run Tryz.prog w = .ok zCv w := by kernel_rfl

/-- A cell and its content. -/
abbrev Cc := (Int × Int) × Ct
/-- The map D has just the contents L (each list of nodes in blocks of F). -/
structure MapHas (w : World) (F : Nat → Prop) (D : DataW Value) (L : List Cc) : Prop where
  size : Maps.size D = L.length
  rng : ∀ x ∈ L, I64 x.1.1 ∧ I64 x.1.2
  keys : ∀ c r, I64 c → I64 r → (Maps.has D (kl c r) = true ↔ ∃ ct, ((c, r), ct) ∈ L)
  vals : ∀ c r ct, ((c, r), ct) ∈ L → ∃ sl, D.atKey (kl c r) (.held zCv) = .held (ct.val sl) ∧ NdIn w F sl ct.t
  once : L.Pairwise (fun x y => x.1 ≠ y.1)
/-- Block g is a grid that has just L; F has its blocks. -/
def GridIn (w : World) (F : Nat → Prop) (g : Nat) (L : List Cc) : Prop :=
  F g ∧ ((w.heap[g]? = some (.cells #[.map none] 113 (0, 0)) ∧ L = []) ∨
    ∃ m D, w.heap[g]? = some (.cells #[.map (some m)] 113 (0, 0)) ∧ F m ∧ m ≠ g ∧ w.ownsMap Tryz.prog 32 rawE m 4096 D ∧ MapHas w F D L)

set_option maxHeartbeats 1000000 in
theorem new_at (w : World) : Calls Tryz.prog 31 #[] w fun e w' => e = .returned (.pointer (some ⟨w.heap.size, 0, none⟩)) ∧ w' = w.alloc (.cells #[.map none] 113) := by
  go_enter Tryz.func31, Tryz.ntmps31
  go_wp2
  go_ret
  exact ⟨rfl, rfl⟩
theorem grid_new (w : World) (F : Nat → Prop) (hF : F w.heap.size) : GridIn (w.alloc (.cells #[.map none] 113)) F w.heap.size [] :=
  ⟨hF, .inl ⟨heap_alloc_new _ _, rfl⟩⟩
end Go.Proofs.YtbkcebbddhaifaaGreatDoor
namespace Go.Proofs.YtbkcebbddhaifaaGreatDoor
open Go.RowKit Go.Maps

set_option maxHeartbeats 1000000 in
theorem len_nil (w : World) : Calls Tryz.prog 22 #[.pointer none] w fun e w' => e = .returned (.int .i64 0) ∧ w' = w := by
  go_enter Tryz.func22, Tryz.ntmps22
  go_wp2
  go_ret
  exact ⟨rfl, rfl⟩
set_option maxHeartbeats 2000000 in
theorem len_at (w : World) (F : Nat → Prop) (g : Nat) (L : List Cc) (h : GridIn w F g L) : Calls Tryz.prog 22 #[.pointer (some ⟨g, 0, none⟩)] w fun e w' => e = .returned (.int .i64 L.length) ∧ w' = w := by
  obtain ⟨_, h⟩ := h
  rcases h with ⟨hb, rfl⟩ | ⟨m, D, hb, _, hne, hown, hm⟩
  · have c0 : w.cell? ⟨g, 0, none⟩ = some (.map none) := cell_of_row w g 0 _ _ _ hb
    clear hb
    go_enter Tryz.func22, Tryz.ntmps22
    go_wp2
    go_ret
    exact ⟨rfl, rfl⟩
  · have c0 : w.cell? ⟨g, 0, none⟩ = some (.map (some m)) := cell_of_row w g 0 _ _ _ hb
    have HS : Hid (Maps.size D = L.length) := hm.size
    have HO : Hid (w.ownsMap Tryz.prog 32 rawE m 4096 D) := hown
    clear hb hown hm
    go_enter Tryz.func22, Tryz.ntmps22
    go_wp2_with (at_len; refine wpList_len_own _ rfl _ 111 rfl 32 55 Tryz.underlying111 rawE m 4096 D rfl HO.out ?_)
    go_ret
    exact ⟨rInt (by rw [HS.out]), rfl⟩
end Go.Proofs.YtbkcebbddhaifaaGreatDoor
namespace Go.Proofs.YtbkcebbddhaifaaGreatDoor
open Go.RowKit Go.Maps

/-- The grid g's map, asked at (c, r), tells v, and whether it is there: b; in every world in which the map stands as it does. -/
structure Lk (w : World) (g : Nat) (c r : Int) (mv : Option Nat) (v : Value) (b : Bool) : Prop where
  cell : w.heap[g]? = some (.cells #[.map mv] 113 (0, 0))
  ne : ∀ m, mv = some m → m ≠ g ∧ m < w.heap.size
  two : ∀ w' : World, (∀ m, mv = some m → w'.heap[m]? = w.heap[m]?) → (Instr.lookup 111 (.map mv) (.agg #[.int .i64 c, .int .i64 r]) true).run Tryz.prog w' = .ok (.tuple #[v, .bool b]) w'
  one : ∀ w' : World, (∀ m, mv = some m → w'.heap[m]? = w.heap[m]?) → (Instr.lookup 111 (.map mv) (.agg #[.int .i64 c, .int .i64 r]) false).run Tryz.prog w' = .ok v w'

theorem ownsMap_block {w w' : World} {m n : Nat} {D : DataW Value} (h : w.ownsMap Tryz.prog 32 rawE m n D) (hb : w'.heap[m]? = w.heap[m]?) : w'.ownsMap Tryz.prog 32 rawE m n D := by
  obtain ⟨es, clock, h1, h2⟩ := h
  exact ⟨es, clock, hb.trans h1, h2⟩
theorem raw_inj {v : Value} {d : DataW Value} {ps : List MemPlace} (h : rawE v = some (d, ps)) : .held v = d := congrArg Prod.fst (Option.some.inj h)
theorem lk_of {w : World} {F : Nat → Prop} {g : Nat} {L : List Cc} (h : GridIn w F g L) {c r : Int} (hc : I64 c) (hr : I64 r) :
    ∃ mv v b, Lk w g c r mv v b ∧ ((b = true ∧ ∃ ct sl, ((c, r), ct) ∈ L ∧ v = ct.val sl ∧ NdIn w F sl ct.t) ∨ (b = false ∧ v = zCv ∧ ∀ ct, ((c, r), ct) ∉ L)) := by
  obtain ⟨_, h⟩ := h
  have hk := kl_key hc hr
  rcases h with ⟨hb, rfl⟩ | ⟨m, D, hb, _, hne, hown, hm⟩
  · refine ⟨none, zCv, false, ⟨hb, fun m e => (by cases e), fun w' _ => ?_, fun w' _ => ?_⟩, .inr ⟨rfl, rfl, fun ct hct => (by cases hct)⟩⟩
    · exact Maps.look_nil true lawAddr Tryz.underlying111 (zeroC w') hk
    · exact Maps.look_nil false lawAddr Tryz.underlying111 (zeroC w') hk
  · have key2 : ∀ w' : World, (∀ m', some m = some m' → w'.heap[m']? = w.heap[m']?) → ∃ v, (Instr.lookup 111 (.map (some m)) (.agg #[.int .i64 c, .int .i64 r]) true).run Tryz.prog w' = .ok (.tuple #[v, .bool (Maps.has D (kl c r))]) w' ∧ D.atKey (kl c r) (.held zCv) = .held v := by
      intro w' hw'
      obtain ⟨v, ps, h1, h2⟩ := (ownsMap_block hown (hw' m rfl)).look_ok lawAddr Tryz.underlying111 (zeroC w') (zd := .held zCv) (zp := []) rfl hk
      refine ⟨v, h1, ?_⟩
      exact (raw_inj h2).symm
    have key1 : ∀ w' : World, (∀ m', some m = some m' → w'.heap[m']? = w.heap[m']?) → ∃ v, (Instr.lookup 111 (.map (some m)) (.agg #[.int .i64 c, .int .i64 r]) false).run Tryz.prog w' = .ok v w' ∧ D.atKey (kl c r) (.held zCv) = .held v := by
      intro w' hw'
      obtain ⟨v, ps, h1, h2⟩ := (ownsMap_block hown (hw' m rfl)).lookup lawAddr Tryz.underlying111 (zeroC w') (zd := .held zCv) (zp := []) rfl hk
      refine ⟨v, h1, ?_⟩
      exact (raw_inj h2).symm
    obtain ⟨v, _, hv⟩ := key2 w (fun _ _ => rfl)
    have two : ∀ w' : World, (∀ m', some m = some m' → w'.heap[m']? = w.heap[m']?) → (Instr.lookup 111 (.map (some m)) (.agg #[.int .i64 c, .int .i64 r]) true).run Tryz.prog w' = .ok (.tuple #[v, .bool (Maps.has D (kl c r))]) w' := by
      intro w' hw'
      obtain ⟨v', h1, h2⟩ := key2 w' hw'
      rw [hv] at h2
      rw [DataW.held.inj h2]; exact h1
    have one : ∀ w' : World, (∀ m', some m = some m' → w'.heap[m']? = w.heap[m']?) → (Instr.lookup 111 (.map (some m)) (.agg #[.int .i64 c, .int .i64 r]) false).run Tryz.prog w' = .ok v w' := by
      intro w' hw'
      obtain ⟨v', h1, h2⟩ := key1 w' hw'
      rw [hv] at h2
      rw [DataW.held.inj h2]; exact h1
    refine ⟨some m, v, Maps.has D (kl c r), ⟨hb, fun m' e => by cases e; exact ⟨hne, hown.lt⟩, two, one⟩, ?_⟩
    by_cases hh : Maps.has D (kl c r) = true
    · obtain ⟨ct, hct⟩ := (hm.keys c r hc hr).1 hh
      obtain ⟨sl, h1, h2⟩ := hm.vals c r ct hct
      rw [hv] at h1
      exact .inl ⟨hh, ct, sl, hct, DataW.held.inj h1, h2⟩
    · have hf : Maps.has D (kl c r) = false := by simpa using hh
      refine .inr ⟨hf, ?_, fun ct hct => hh ((hm.keys c r hc hr).2 ⟨ct, hct⟩)⟩
      have := atKey_of_not_has hf (.held zCv)
      rw [hv] at this
      exact DataW.held.inj this
end Go.Proofs.YtbkcebbddhaifaaGreatDoor
