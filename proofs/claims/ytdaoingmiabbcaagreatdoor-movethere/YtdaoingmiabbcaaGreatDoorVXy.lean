/- grid's Copy. -/
import Derived.Test.YtdaoingmiabbcaaGreatDoorVXv
import Derived.Test.YtdaoingmiabbcaaGreatDoorVXs
namespace Go.Proofs.YtdaoingmiabbcaaGreatDoor
open Go.RowKit

/-- A content with the NaN in the place of every other one. -/
def cpC (c : Ct) : Ct := ⟨c.k, { c.v with x := one c.v.x }, cpy c.t⟩
theorem infoContent : (Tryz.prog.info? 51).map (·.size) = some 21 := by kernel_rfl
theorem Ct.one (c : Ct) {sl : Value} (hs : sl.oneCell' = true) : (#[.int .i64 c.k, .int .i64 c.v.k, .float .f64 c.v.x, .string c.v.s, .bool c.v.b, .int .i64 c.v.f,
  .int .i64 c.t.hd.k, .int .i64 c.t.hd.o, .float .f64 c.t.hd.x, .string c.t.hd.s, .bool c.t.hd.b, .int .i64 c.t.hd.f, .int .i64 c.t.hd.c1, .int .i64 c.t.hd.r1, .bool c.t.hd.p1, .bool c.t.hd.q1, .int .i64 c.t.hd.c2, .int .i64 c.t.hd.r2, .bool c.t.hd.p2, .bool c.t.hd.q2, sl] : Array Value).all (·.oneCell') = true := by
  simpa [Value.oneCell'] using hs

theorem rangeAt_mid {w : World} {b : Nat} {pre l post : List Value} {t : TypeId} {fr : Nat × Nat} (hb : w.heap[b]? = some (.cells (pre ++ l ++ post).toArray t fr)) : w.rangeAt b pre.length l := by
  intro j v hj
  rw [cell_of_row w b _ _ _ _ hb]
  have hlt : j < l.length := (List.getElem?_eq_some_iff.1 hj).1
  simp only [List.getElem?_toArray]
  rw [List.append_assoc, List.getElem?_append_right (by omega), Nat.add_sub_cancel_left, List.getElem?_append_left hlt]
  exact hj
theorem setAll_mid (pre old new post : List Value) (h : old.length = new.length) : setAll (pre ++ old ++ post).toArray pre.length new = (pre ++ new ++ post).toArray := by
  apply Array.ext_getElem?
  intro i
  rw [setAll_get _ _ _ _ (by simp; omega)]
  simp only [List.getElem?_toArray]
  by_cases h1 : pre.length ≤ i ∧ i < pre.length + new.length
  · rw [if_pos h1, List.append_assoc, List.getElem?_append_right h1.1, List.getElem?_append_left (by omega)]
  · rw [if_neg h1]
    by_cases h2 : i < pre.length
    · rw [List.append_assoc, List.append_assoc, List.getElem?_append_left h2, List.getElem?_append_left h2]
    · rw [List.getElem?_append_right (by simp; omega), List.getElem?_append_right (by simp; omega), List.length_append, List.length_append, h]
theorem heap_setCells_mid {w : World} {b : Nat} {pre old new post : List Value} {t : TypeId} (h : old.length = new.length) (hb : w.heap[b]? = some (.cells (pre ++ old ++ post).toArray t (0, 0))) :
    (w.setCells b pre.length new).heap[b]? = some (.cells (pre ++ new ++ post).toArray t (0, 0)) := by
  rw [heap_setCells_at _ _ _ _ hb, setAll_mid _ _ _ _ h]
/-- A struct stored; the world behind it has a name. -/
theorem wpList_store_to {P : Program} {ops : Array Oper} {rest : List Oper} {op : Oper} {a : Act} {w : World} {Q : Exit → Act → World → Prop} (hgd : op.guard = none) (ty : TypeId) (x y : Operand) (ho : op.op = .store ty x y)
    (b o : Nat) (cells : Array Value) (hx : a.eval x = .pointer (some ⟨b, o, none⟩)) (hy : a.eval y = .agg cells)
    (ht : w.there b o cells.size) (hi : (P.info? ty).map (·.size) = some cells.size) (h1 : cells.all (·.oneCell') = true) (W3 : World) (hW : w.setCells b o cells.toList = W3)
    (h : wpList P ops Q rest (a.put op.dst undef) W3) : wpList P ops Q (op :: rest) a w :=
  wpList_store_mid hgd ty x y ho b o cells hx hy ht hi h1 (by rw [hW]; exact h)
@[go_sem] theorem field_x (a c d f : Value) (y : Nat) (w : World) : (Instr.field 44 (.agg #[a, .float .f64 y, c, d, f]) 1).run Tryz.prog w = .ok (.float .f64 y) w := by
  unfold Instr.field
  rw [Sem.run_bind, run_underlying Tryz.underlying44 w]
  simp [part, asAgg, isAgg, run_underlying Tryz.underlying42 w, Sem.run_bind]

set_option maxRecDepth 20000 in
set_option maxHeartbeats 1500000 in
theorem gCopy_at (c : Ct) (sl : Value) (F : Nat → Prop) (w : World) (hx : c.v.x < 18446744073709551616) (hm : c.t.size ≤ 1048576) (hok : c.t.ok) (hin : NdIn w F sl c.t) :
    Calls Tryz.prog 40 #[c.val sl] w fun e w' => ∃ sl' fp, e = .returned ((cpC c).val sl') ∧ Own w' w.heap.size sl' (cpC c).t fp ∧ Below w.heap.size w w' := by
  have H1 : Hid (∀ w, Calls Tryz.prog 64 #[.float .f64 c.v.x] w fun e w' => e = .returned (.agg #[.int .i64 1, .float .f64 (Go.Proofs.YtdaoingmiabbcaaGreatDoor.one c.v.x), .string ⟨#[]⟩, .bool false, .int .i64 0]) ∧ Gr w w') := ofNumber_at c.v.x hx
  have H2 : Hid (∀ wq, Below w.heap.size w wq → Calls Tryz.prog 56 #[c.t.hd.val sl] wq fun e w' => ∃ sl' fp, e = .returned ((cpy c.t).hd.val sl') ∧ Own w' wq.heap.size sl' (cpy c.t) fp ∧ Below wq.heap.size wq w') :=
    fun wq hq => copy_at c.t sl F wq hm hok (hin.mono fun b hb hlt => ⟨hq.block b hlt, hb⟩)
  obtain ⟨k, ⟨vk, vx, vs, vb, vf⟩, t⟩ := c
  unfold cpC
  simp only at *
  generalize Go.Proofs.YtdaoingmiabbcaaGreatDoor.one vx = y at *
  generalize cpy t = u at *
  clear hin hok hx hm
  go_enter Tryz.func40, Tryz.ntmps40
  go_wp2_with fail
  refine (H1.out _).mono ?_
  rintro e w1 ⟨rfl, hg1⟩
  have B0 : Hid (w1.heap[w.heap.size]? = some (.cells #[.int .i64 k, .int .i64 vk, .float .f64 vx, .string vs, .bool vb, .int .i64 vf, .int .i64 t.hd.k, .int .i64 t.hd.o, .float .f64 t.hd.x, .string t.hd.s, .bool t.hd.b, .int .i64 t.hd.f, .int .i64 t.hd.c1, .int .i64 t.hd.r1, .bool t.hd.p1, .bool t.hd.q1, .int .i64 t.hd.c2, .int .i64 t.hd.r2, .bool t.hd.p2, .bool t.hd.q2, sl] 51 (0, 0))) := by
    show _ = _
    rw [hg1.ext.block _ (by simp [World.size_alloc] <;> omega), heap_alloc2_old]
  have B1 : Hid (w1.heap[w.heap.size + 1]? = some (.cells #[.int .i64 0, .int .i64 0, .float .f64 0, .string ⟨#[]⟩, .bool false, .int .i64 0, .int .i64 0, .int .i64 0, .float .f64 0, .string ⟨#[]⟩, .bool false, .int .i64 0, .int .i64 0, .int .i64 0, .bool false, .bool false, .int .i64 0, .int .i64 0, .bool false, .bool false, .slice none 0 0] 51 (0, 0))) := by
    show _ = _
    rw [hg1.ext.block _ (by simp [World.size_alloc]), heap_alloc2_new]
  have GW : Hid (Below w.heap.size w w1) := (((Below.refl _ _).alloc (Nat.le_refl _) _).alloc (by simp [World.size_alloc]) _).trans ((gr_below hg1).mono (by simp [World.size_alloc]; omega))
  clear hg1 H1
  have D0 : Hid ((w1.setCell ⟨w.heap.size, 2, none⟩ (.float .f64 y)).heap[w.heap.size]? = some (.cells #[.int .i64 k, .int .i64 vk, .float .f64 y, .string vs, .bool vb, .int .i64 vf, .int .i64 t.hd.k, .int .i64 t.hd.o, .float .f64 t.hd.x, .string t.hd.s, .bool t.hd.b, .int .i64 t.hd.f, .int .i64 t.hd.c1, .int .i64 t.hd.r1, .bool t.hd.p1, .bool t.hd.q1, .int .i64 t.hd.c2, .int .i64 t.hd.r2, .bool t.hd.p2, .bool t.hd.q2, sl] 51 (0, 0))) := by
    show _ = _
    rw [heap_setCell_same w1 _ 2 _ _ _ B0.out]
    rfl
  have D1 : Hid ((w1.setCell ⟨w.heap.size, 2, none⟩ (.float .f64 y)).heap[w.heap.size + 1]? = some (.cells #[.int .i64 0, .int .i64 0, .float .f64 0, .string ⟨#[]⟩, .bool false, .int .i64 0, .int .i64 0, .int .i64 0, .float .f64 0, .string ⟨#[]⟩, .bool false, .int .i64 0, .int .i64 0, .int .i64 0, .bool false, .bool false, .int .i64 0, .int .i64 0, .bool false, .bool false, .slice none 0 0] 51 (0, 0))) := (heap_setCell_other w1 _ _ _ (by simp)).trans B1.out
  have GW1 : Hid (Below w.heap.size w (w1.setCell ⟨w.heap.size, 2, none⟩ (.float .f64 y))) := GW.out.setCell (Nat.le_refl _) _
  have c2 : w1.cell? ⟨w.heap.size, 2, none⟩ = some (.float .f64 vx) := cell_of_row w1 _ 2 _ _ _ B0.out
  have f2 : w1.frozen? ⟨w.heap.size, 2, none⟩ = false := frozen_of_row w1 _ 2 _ _ B0.out
  have RF : Hid ((w1.setCell ⟨w.heap.size, 2, none⟩ (.float .f64 y)).rangeAt w.heap.size 6 (t.hd.cells sl)) := rangeAt_mid (pre := [.int .i64 k, .int .i64 vk, .float .f64 y, .string vs, .bool vb, .int .i64 vf]) (l := t.hd.cells sl) (post := []) D0.out
  clear B0 B1 GW
  go_wp2_with (refine wpList_load_mid rfl 49 (.tmp 10) rfl w.heap.size 6 rfl (t.hd.cells sl) _ RF.out Tryz.underlying49 rfl infoNode ?_)
  refine (H2.out _ GW1.out).mono ?_
  rintro e w2 ⟨sl', fp, rfl, hown, hbw⟩
  have hsz : w.heap.size + 1 < (w1.setCell ⟨w.heap.size, 2, none⟩ (.float .f64 y)).heap.size := (Array.getElem?_eq_some_iff.1 D1.out).1
  have E0 : Hid (w2.heap[w.heap.size]? = some (.cells #[.int .i64 k, .int .i64 vk, .float .f64 y, .string vs, .bool vb, .int .i64 vf, .int .i64 t.hd.k, .int .i64 t.hd.o, .float .f64 t.hd.x, .string t.hd.s, .bool t.hd.b, .int .i64 t.hd.f, .int .i64 t.hd.c1, .int .i64 t.hd.r1, .bool t.hd.p1, .bool t.hd.q1, .int .i64 t.hd.c2, .int .i64 t.hd.r2, .bool t.hd.p2, .bool t.hd.q2, sl] 51 (0, 0))) := (hbw.block _ (by omega)).trans D0.out
  have E1 : Hid (w2.heap[w.heap.size + 1]? = some (.cells #[.int .i64 0, .int .i64 0, .float .f64 0, .string ⟨#[]⟩, .bool false, .int .i64 0, .int .i64 0, .int .i64 0, .float .f64 0, .string ⟨#[]⟩, .bool false, .int .i64 0, .int .i64 0, .int .i64 0, .bool false, .bool false, .int .i64 0, .int .i64 0, .bool false, .bool false, .slice none 0 0] 51 (0, 0))) := (hbw.block _ hsz).trans D1.out
  have O1 : Hid (sl'.oneCell' = true) := hown.own.one
  have F0 : Hid ((w2.setCells w.heap.size 6 (u.hd.cells sl')).heap[w.heap.size]? = some (.cells #[.int .i64 k, .int .i64 vk, .float .f64 y, .string vs, .bool vb, .int .i64 vf, .int .i64 u.hd.k, .int .i64 u.hd.o, .float .f64 u.hd.x, .string u.hd.s, .bool u.hd.b, .int .i64 u.hd.f, .int .i64 u.hd.c1, .int .i64 u.hd.r1, .bool u.hd.p1, .bool u.hd.q1, .int .i64 u.hd.c2, .int .i64 u.hd.r2, .bool u.hd.p2, .bool u.hd.q2, sl'] 51 (0, 0))) := heap_setCells_mid (pre := [.int .i64 k, .int .i64 vk, .float .f64 y, .string vs, .bool vb, .int .i64 vf]) (old := t.hd.cells sl) (new := u.hd.cells sl') (post := []) rfl E0.out
  have F1 : Hid ((w2.setCells w.heap.size 6 (u.hd.cells sl')).heap[w.heap.size + 1]? = some (.cells #[.int .i64 0, .int .i64 0, .float .f64 0, .string ⟨#[]⟩, .bool false, .int .i64 0, .int .i64 0, .int .i64 0, .float .f64 0, .string ⟨#[]⟩, .bool false, .int .i64 0, .int .i64 0, .int .i64 0, .bool false, .bool false, .int .i64 0, .int .i64 0, .bool false, .bool false, .slice none 0 0] 51 (0, 0))) := (heap_setCells_ne (by omega) _ _ _).trans E1.out
  have T0 : Hid (w2.there w.heap.size 6 15) := there_of_block E0.out _ _ (by simp)
  obtain ⟨W3, hW3⟩ : ∃ W3, w2.setCells w.heap.size 6 (u.hd.cells sl') = W3 := ⟨_, rfl⟩
  have HW3 : Hid (w2.setCells w.heap.size 6 (u.hd.cells sl') = W3) := hW3
  rw [hW3] at F0 F1
  have RC : Hid (W3.rangeAt w.heap.size 0 [.int .i64 k, .int .i64 vk, .float .f64 y, .string vs, .bool vb, .int .i64 vf, .int .i64 u.hd.k, .int .i64 u.hd.o, .float .f64 u.hd.x, .string u.hd.s, .bool u.hd.b, .int .i64 u.hd.f, .int .i64 u.hd.c1, .int .i64 u.hd.r1, .bool u.hd.p1, .bool u.hd.q1, .int .i64 u.hd.c2, .int .i64 u.hd.r2, .bool u.hd.p2, .bool u.hd.q2, sl']) := rangeAt_mid (pre := []) (post := []) F0.out
  have T1 : Hid (W3.there (w.heap.size + 1) 0 21) := there_of_block F1.out _ _ (by simp)
  have L1 : Hid ((W3.setCells (w.heap.size + 1) 0 [.int .i64 k, .int .i64 vk, .float .f64 y, .string vs, .bool vb, .int .i64 vf, .int .i64 u.hd.k, .int .i64 u.hd.o, .float .f64 u.hd.x, .string u.hd.s, .bool u.hd.b, .int .i64 u.hd.f, .int .i64 u.hd.c1, .int .i64 u.hd.r1, .bool u.hd.p1, .bool u.hd.q1, .int .i64 u.hd.c2, .int .i64 u.hd.r2, .bool u.hd.p2, .bool u.hd.q2, sl']).heap[w.heap.size + 1]? = some (.cells #[.int .i64 k, .int .i64 vk, .float .f64 y, .string vs, .bool vb, .int .i64 vf, .int .i64 u.hd.k, .int .i64 u.hd.o, .float .f64 u.hd.x, .string u.hd.s, .bool u.hd.b, .int .i64 u.hd.f, .int .i64 u.hd.c1, .int .i64 u.hd.r1, .bool u.hd.p1, .bool u.hd.q1, .int .i64 u.hd.c2, .int .i64 u.hd.r2, .bool u.hd.p2, .bool u.hd.q2, sl'] 51 (0, 0))) := heap_setCells_whole (cs := #[.int .i64 k, .int .i64 vk, .float .f64 y, .string vs, .bool vb, .int .i64 vf, .int .i64 u.hd.k, .int .i64 u.hd.o, .float .f64 u.hd.x, .string u.hd.s, .bool u.hd.b, .int .i64 u.hd.f, .int .i64 u.hd.c1, .int .i64 u.hd.r1, .bool u.hd.p1, .bool u.hd.q1, .int .i64 u.hd.c2, .int .i64 u.hd.r2, .bool u.hd.p2, .bool u.hd.q2, sl']) F1.out (by simp)
  have OW : Hid (Own (W3.setCells (w.heap.size + 1) 0 [.int .i64 k, .int .i64 vk, .float .f64 y, .string vs, .bool vb, .int .i64 vf, .int .i64 u.hd.k, .int .i64 u.hd.o, .float .f64 u.hd.x, .string u.hd.s, .bool u.hd.b, .int .i64 u.hd.f, .int .i64 u.hd.c1, .int .i64 u.hd.r1, .bool u.hd.p1, .bool u.hd.q1, .int .i64 u.hd.c2, .int .i64 u.hd.r2, .bool u.hd.p2, .bool u.hd.q2, sl']) w.heap.size sl' u fp) := by
    refine ⟨hown.own.mono (fun b hb => ?_), hown.nodup, fun b hb => ?_⟩
    · have := (hown.new b hb).1
      rw [heap_setCells_ne (by omega), ← hW3, heap_setCells_ne (by omega)]
    · rw [size_setCells, ← hW3, size_setCells]
      exact ⟨by have := (hown.new b hb).1; omega, (hown.new b hb).2⟩
  have BW : Hid (Below w.heap.size w (W3.setCells (w.heap.size + 1) 0 [.int .i64 k, .int .i64 vk, .float .f64 y, .string vs, .bool vb, .int .i64 vf, .int .i64 u.hd.k, .int .i64 u.hd.o, .float .f64 u.hd.x, .string u.hd.s, .bool u.hd.b, .int .i64 u.hd.f, .int .i64 u.hd.c1, .int .i64 u.hd.r1, .bool u.hd.p1, .bool u.hd.q1, .int .i64 u.hd.c2, .int .i64 u.hd.r2, .bool u.hd.p2, .bool u.hd.q2, sl'])) :=
    setCells_below (hW3 ▸ setCells_below (GW1.out.trans (hbw.mono (by omega))) (Nat.le_refl _) _ _) (Nat.le_succ _) _ _
  clear hW3 hown hbw H2 D0 D1 GW1 c2 f2 RF E0 E1 F0 F1 hsz
  go_wp2_with (first | (refine wpList_store_to rfl 49 (.tmp 13) (.tmp 12) rfl w.heap.size 6 _ rfl rfl T0.out infoNode (u.hd.one O1.out) W3 HW3.out ?_) | (refine wpList_load_mid rfl 51 (.tmp 1) rfl w.heap.size 0 rfl [.int .i64 k, .int .i64 vk, .float .f64 y, .string vs, .bool vb, .int .i64 vf, .int .i64 u.hd.k, .int .i64 u.hd.o, .float .f64 u.hd.x, .string u.hd.s, .bool u.hd.b, .int .i64 u.hd.f, .int .i64 u.hd.c1, .int .i64 u.hd.r1, .bool u.hd.p1, .bool u.hd.q1, .int .i64 u.hd.c2, .int .i64 u.hd.r2, .bool u.hd.p2, .bool u.hd.q2, sl'] _ RC.out Tryz.underlying51 rfl infoContent ?_) | (refine wpList_store_mid rfl 51 (.tmp 2) (.tmp 14) rfl (w.heap.size + 1) 0 _ rfl rfl T1.out infoContent (Ct.one ⟨k, ⟨vk, y, vs, vb, vf⟩, u⟩ O1.out) ?_))
  refine bodyPost_ret (results_cell_row rfl _ _ (w.heap.size + 1) 51 _ (0, 0) _ rfl L1.out Tryz.underlying51 rfl infoContent) rfl ?_
  exact ⟨_, _, rfl, OW.out, BW.out⟩
end Go.Proofs.YtdaoingmiabbcaaGreatDoor
