/- Contents as data; heavy. -/
import Derived.Test.YtjmbmapanmbnhaaDoorXb
namespace Go.Proofs.YtjmbmapanmbnhaaDoor
open Go.RowKit

/-- A value's fields. -/
structure Vl where
  k : Int
  x : Nat
  s : ByteArray
  b : Bool
  f : Int
/-- A content. -/
structure Ct where
  k : Int
  v : Vl
  t : Nd
abbrev Vl.cells (v : Vl) : List Value := [.int .i64 v.k, .float .f64 v.x, .string v.s, .bool v.b, .int .i64 v.f]
abbrev Vl.val (v : Vl) : Value := .agg #[.int .i64 v.k, .float .f64 v.x, .string v.s, .bool v.b, .int .i64 v.f]
/-- Twenty-one cells: a content's, sl its node's list. -/
abbrev Ct.cells (c : Ct) (sl : Value) : List Value := [.int .i64 c.k, .int .i64 c.v.k, .float .f64 c.v.x, .string c.v.s, .bool c.v.b, .int .i64 c.v.f,
  .int .i64 c.t.hd.k, .int .i64 c.t.hd.o, .float .f64 c.t.hd.x, .string c.t.hd.s, .bool c.t.hd.b, .int .i64 c.t.hd.f, .int .i64 c.t.hd.c1, .int .i64 c.t.hd.r1, .bool c.t.hd.p1, .bool c.t.hd.q1, .int .i64 c.t.hd.c2, .int .i64 c.t.hd.r2, .bool c.t.hd.p2, .bool c.t.hd.q2, sl]
abbrev Ct.val (c : Ct) (sl : Value) : Value := .agg #[.int .i64 c.k, .int .i64 c.v.k, .float .f64 c.v.x, .string c.v.s, .bool c.v.b, .int .i64 c.v.f,
  .int .i64 c.t.hd.k, .int .i64 c.t.hd.o, .float .f64 c.t.hd.x, .string c.t.hd.s, .bool c.t.hd.b, .int .i64 c.t.hd.f, .int .i64 c.t.hd.c1, .int .i64 c.t.hd.r1, .bool c.t.hd.p1, .bool c.t.hd.q1, .int .i64 c.t.hd.c2, .int .i64 c.t.hd.r2, .bool c.t.hd.p2, .bool c.t.hd.q2, sl]

set_option maxRecDepth 20000 in
set_option maxHeartbeats 4000000 in
theorem heavy_at (c : Ct) (sl : Value) (F : Nat → Prop) (w : World) (hin : NdIn w F sl c.t) :
    Calls Tryd.prog 8 #[c.val sl] w fun e w' => e = .returned (.bool (decide (1048576 < c.t.size))) ∧ Gr w w' := by
  have H1 : Hid (∀ wq, Gr w wq → Calls Tryd.prog 31 #[c.t.hd.val sl, .int .i64 1048576] wq fun e w' => e = .returned (.int .i64 (wgt c.t.size 1048576)) ∧ Gr wq w') :=
    fun wq hq => weight_at c.t sl F 1048576 wq (hin.gr hq) (by decide) (by decide)
  have hz : Hid (decide (1048576 < c.t.size) = decide ((1048576 : Int) < wgt c.t.size 1048576)) := by
    show _ = _
    rw [decide_eq_decide]; unfold wgt; split <;> omega
  generalize decide (1048576 < c.t.size) = V at *
  generalize wgt c.t.size 1048576 = z at *
  clear hin
  go_enter Tryd.func8, Tryd.ntmps8
  go_wp2_with fail
  refine (H1.out _ ((Gr.refl _).alloc _ _)).mono ?_
  rintro e w1 ⟨rfl, hg1⟩
  have G2 : Hid (Gr w w1) := ((Gr.refl _).alloc _ _).trans hg1
  clear hg1
  go_wp2_with fail
  all_goals
    go_ret
    refine ⟨rBool ?_, G2.out⟩
    rw [hz.out]
end Go.Proofs.YtjmbmapanmbnhaaDoor
