/- Copy: a tree of nodes in new memory. -/
import Derived.Test.YtjmbmapanmbnhaaDoorXt
import Derived.Test.YtjmbmapanmbnhaaDoorXo
import Derived.Deep.RegionHeld3
namespace Go.Proofs.YtjmbmapanmbnhaaDoor
open Go.RowKit

mutual
/-- A tree with the NaN in the place of every other one. -/
def cpy : Nd → Nd
  | .mk h ts => .mk { h with x := one h.x } (cpyL ts)
def cpyL : List Nd → List Nd
  | [] => []
  | t :: ts => cpy t :: cpyL ts
end
theorem cpyL_map : ∀ ts : List Nd, cpyL ts = ts.map cpy
  | [] => by rw [cpyL]; rfl
  | t :: ts => by rw [cpyL, cpyL_map ts]; rfl
theorem cpyL_len (ts : List Nd) : (cpyL ts).length = ts.length := by rw [cpyL_map, List.length_map]
theorem cpyL_take (ts : List Nd) (k : Nat) (h : k < ts.length) : cpyL (ts.take (k + 1)) = cpyL (ts.take k) ++ [cpy ts[k]] := by
  rw [cpyL_map, cpyL_map, List.take_add_one, List.getElem?_eq_getElem h, List.map_append]; rfl
theorem cpy_hd (t : Nd) : (cpy t).hd = { t.hd with x := one t.hd.x } := by cases t; rw [cpy]; rfl
theorem cpy_ts (t : Nd) : (cpy t).ts = cpyL t.ts := by cases t; rw [cpy]; rfl
mutual
theorem cpy_size : ∀ t : Nd, (cpy t).size = t.size
  | .mk h ts => by rw [cpy, Nd.size, Nd.size, cpyL_size ts]
theorem cpyL_size : ∀ ts : List Nd, sizeL (cpyL ts) = sizeL ts
  | [] => by rw [cpyL]
  | t :: ts => by rw [cpyL, sizeL, sizeL, cpy_size t, cpyL_size ts]
end
mutual
theorem cpy_ok : ∀ t : Nd, t.ok → (cpy t).ok
  | .mk h ts, q => by rw [Nd.ok] at q; rw [cpy, Nd.ok]; exact ⟨one_lt _ q.1, cpyL_ok ts q.2⟩
theorem cpyL_ok : ∀ ts : List Nd, okL ts → okL (cpyL ts)
  | [], _ => by rw [cpyL, okL]; trivial
  | t :: ts, q => by rw [okL] at q; rw [cpyL, okL]; exact ⟨cpy_ok t q.1, cpyL_ok ts q.2⟩
end

theorem infoNodeZ : (Tryd.prog.info? 31).map (fun i => (i.zero, i.size, i.bytes)) = some (some (.agg #[.int .i64 0, .int .i64 0, .float .f64 0, .string ⟨#[]⟩, .bool false, .int .i64 0, .int .i64 0, .int .i64 0, .bool false, .bool false, .int .i64 0, .int .i64 0, .bool false, .bool false, .slice none 0 0]), 15, 128) := by kernel_rfl
/-- make of so many nodes. -/
theorem make_nodes (n : Nat) (hn : n ≤ 1048576) (w : World) : ∃ cs : Array Value, cs.size = n * 15 ∧
    (Instr.makeSlice 29 (.int .i64 (n : Int)) (.int .i64 (n : Int))).run Tryd.prog w = .ok (.slice (some ⟨w.heap.size, 0, none⟩) n n) (w.alloc (.cells cs 31)) := by
  obtain ⟨i, hi, h1⟩ : ∃ i, Tryd.prog.info? 31 = some i ∧ (i.zero, i.size, i.bytes) = (some (.agg #[.int .i64 0, .int .i64 0, .float .f64 0, .string ⟨#[]⟩, .bool false, .int .i64 0, .int .i64 0, .int .i64 0, .bool false, .bool false, .int .i64 0, .int .i64 0, .bool false, .bool false, .slice none 0 0]), 15, 128) := by
    have := infoNodeZ
    cases h : Tryd.prog.info? 31 with
    | none => rw [h] at this; cases this
    | some i => rw [h] at this; exact ⟨i, rfl, Option.some.inj this⟩
  simp only [Prod.mk.injEq] at h1
  obtain ⟨hz, hs, hb⟩ := h1
  have := run_make (P := Tryd.prog) w 29 31 i _ Tryd.underlying29 hi hz .i64 .i64 n n (by omega) (Int.le_refl _) (by rw [hb]; omega) (by omega)
  rw [Int.toNat_natCast] at this
  exact ⟨_, by rw [size_madeCells, hs], this⟩

theorem rangeAt_alloc_new (w : World) (cs : Array Value) (t : TypeId) : (w.alloc (.cells cs t)).rangeAt w.heap.size 0 cs.toList := by
  intro j v hj
  rw [World.cell?_alloc_at _ _ _ _ rfl, Nat.zero_add]
  simpa using hj
theorem there_of_block {w : World} {b : Nat} {cs : Array Value} {t : TypeId} (hb : w.heap[b]? = some (.cells cs t (0, 0))) (o n : Nat) (h : o + n ≤ cs.size) : w.there b o n := by
  intro j hj
  constructor
  · rw [cell_of_row w b (o + j) cs t (0, 0) hb, Array.getElem?_eq_getElem (by omega)]; rfl
  · simp [World.frozen?, hb]
end Go.Proofs.YtjmbmapanmbnhaaDoor
