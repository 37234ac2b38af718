/- weight and heavy: how many nodes. Contents as data; heavy. A map by cells: its keys; its elements as they stand (raw). -/
import Derived.Test.YtbkcebbddhaifaaDoorB1
import Derived.Maps.OwnSet
import Derived.Maps.RangeWalk
import Derived.Maps.Ext
import Derived.DeepKeys4
namespace Go.Proofs.YtbkcebbddhaifaaDoor
open Go.RowKit

theorem infoNode : (Tryd.prog.info? 37).map (·.size) = some 15 := by kernel_rfl

/-- As many nodes as there are, m + 1 of more. -/
def wgt (n : Nat) (m : Int) : Int := if (n : Int) ≤ m then n else m + 1

end Go.Proofs.YtbkcebbddhaifaaDoor
namespace Go.Proofs.YtbkcebbddhaifaaDoor
open Go.RowKit

/-- A value's fields. -/
structure Vl where
  k : Int
  x : Nat
  s : ByteArray
  b : Bool
  f : Int
/-- A content. -/
structure Ct where
  k : Int
  v : Vl
  t : Nd
abbrev Vl.cells (v : Vl) : List Value := [.int .i64 v.k, .float .f64 v.x, .string v.s, .bool v.b, .int .i64 v.f]
abbrev Vl.val (v : Vl) : Value := .agg #[.int .i64 v.k, .float .f64 v.x, .string v.s, .bool v.b, .int .i64 v.f]
/-- Twenty-one cells: a content's, sl its node's list. -/
abbrev Ct.cells (c : Ct) (sl : Value) : List Value := [.int .i64 c.k, .int .i64 c.v.k, .float .f64 c.v.x, .string c.v.s, .bool c.v.b, .int .i64 c.v.f,
  .int .i64 c.t.hd.k, .int .i64 c.t.hd.o, .float .f64 c.t.hd.x, .string c.t.hd.s, .bool c.t.hd.b, .int .i64 c.t.hd.f, .int .i64 c.t.hd.c1, .int .i64 c.t.hd.r1, .bool c.t.hd.p1, .bool c.t.hd.q1, .int .i64 c.t.hd.c2, .int .i64 c.t.hd.r2, .bool c.t.hd.p2, .bool c.t.hd.q2, sl]
abbrev Ct.val (c : Ct) (sl : Value) : Value := .agg #[.int .i64 c.k, .int .i64 c.v.k, .float .f64 c.v.x, .string c.v.s, .bool c.v.b, .int .i64 c.v.f,
  .int .i64 c.t.hd.k, .int .i64 c.t.hd.o, .float .f64 c.t.hd.x, .string c.t.hd.s, .bool c.t.hd.b, .int .i64 c.t.hd.f, .int .i64 c.t.hd.c1, .int .i64 c.t.hd.r1, .bool c.t.hd.p1, .bool c.t.hd.q1, .int .i64 c.t.hd.c2, .int .i64 c.t.hd.r2, .bool c.t.hd.p2, .bool c.t.hd.q2, sl]

end Go.Proofs.YtbkcebbddhaifaaDoor
namespace Go.Proofs.YtbkcebbddhaifaaDoor
open Go.RowKit Go.Maps

theorem laidOutP : laidOutB Tryd.prog = true := by kernel_rfl
theorem rowAddr : (28 : TypeId) < Tryd.prog.types.size := of_decide_eq_true (by kernel_rfl)
theorem cellsAddr2 : Tryd.prog.cellsOf 28 = 2 := by kernel_rfl
theorem cellsInt1 : Tryd.prog.cellsOf 3 = 1 := by kernel_rfl
theorem wideAddr : (match Tryd.prog.underlying 28 with | some (.array _ _) | some (.struct _) => true | _ => false) = true := by rw [Tryd.underlying28]
set_option maxRecDepth 20000 in
theorem keyAtAddr : Tryd.prog.keyTypeAt 2 28 = true := by kernel_rfl
set_option maxRecDepth 20000 in
theorem lawAddr : Keyed Tryd.prog 28 := Keyed.of_law (deep_law_laid laidOutP (m := 2) (by decide) rowAddr keyAtAddr wideAddr)
theorem keyTypeAddr : Tryd.prog.keyType 28 = true := by kernel_rfl
theorem formedAddr {c0 c1 : Value} : (Value.agg #[c0, c1]).formed Tryd.prog 28 = true := by simp [Value.formed, Tryd.underlying28, cellsAddr2]

/-- Between the least and the greatest int. -/
def I64 (x : Int) : Prop := -9223372036854775808 ≤ x ∧ x ≤ 9223372036854775807
theorem I64.wf {x : Int} (h : I64 x) : (Lit.int .i64 x).wf = true := by
  obtain ⟨h1, h2⟩ := h
  exact WalkArith.wf_i64 (by omega)
theorem keyOf_addr (c r : Int) (hc : I64 c) (hr : I64 r) : ∃ l, keyOf Tryd.prog 28 (.agg #[.int .i64 c, .int .i64 r]) = some l := by
  unfold keyOf
  rw [Tryd.underlying28]
  simp only [keyTypeAddr, formedAddr, Bool.and_self, if_true]
  obtain ⟨n, hn⟩ : ∃ n, Tryd.prog.types.size = n + 1 := by
    have h := rowAddr
    generalize Tryd.prog.types.size = s at h
    cases s with
    | zero => exact absurd h (Nat.not_lt_zero _)
    | succ n => exact ⟨n, rfl⟩
  rw [hn]
  simp [Program.keyLits, Tryd.underlying28, Tryd.underlying3, Value.cells, cellsInt1, cellsAddr2, hc.wf, hr.wf]
end Go.Proofs.YtbkcebbddhaifaaDoor
