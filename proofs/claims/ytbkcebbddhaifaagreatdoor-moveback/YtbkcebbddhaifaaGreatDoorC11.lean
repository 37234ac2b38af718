/- Calls of no grid. -/
import Derived.Test.YtbkcebbddhaifaaGreatDoorC7
import Derived.Test.YtbkcebbddhaifaaGreatDoorC9
import Derived.Deep.QuietTactic
import Derived.BigQuiet
namespace Go.Proofs.YtbkcebbddhaifaaGreatDoor
open Go.RowKit Go.Maps

theorem results_cell1 {fn : Func} {p : Tmp} {ty : TypeId} (h : fn.results = #[.cell p ty]) (tmps : Array Value) (P : Program) (w : World) :
    (results fn tmps).run P w = ((asAddr (tmps.getD p undef)).run P w).andThen fun a w1 => (loadVar ty a).run P w1 := by
  simp only [results, h]
  simp [Sem.run_bind, Result.andThen]
  try rfl
theorem results_cell_tmp' {fn : Func} {p u : Tmp} {ty : TypeId} (h : fn.results = #[.cell p ty, .tmp u]) (tmps : Array Value) (P : Program) (w : World) :
    (results fn tmps).run P w = ((asAddr (tmps.getD p undef)).run P w).andThen fun a w1 => ((loadVar ty a).run P w1).andThen fun v w2 => .ok (.tuple #[v, tmps.getD u undef]) w2 := by
  simp only [results, h]
  simp [Sem.run_bind, Result.andThen]
set_option maxRecDepth 20000 in
set_option maxHeartbeats 2000000 in
theorem nil_put (c r : Int) (ct : Ct) (sl : Value) (w : World) : Calls Tryz.prog 16 #[.pointer none, .agg #[.int .i64 c, .int .i64 r], ct.val sl] w fun e w' => e = .returned (.int .i64 1) ∧ Kp w w' Nul := by
  go_enter Tryz.func16, Tryz.ntmps16
  go_wp2_with fail
  go_ret
  exact ⟨rfl, by repeat (first | exact Kp.refl _ _ | refine Kp.alloc ?_ _)⟩
set_option maxRecDepth 20000 in
set_option maxHeartbeats 2000000 in
theorem nil_get (c r : Int) (w : World) : Calls Tryz.prog 27 #[.pointer none, .agg #[.int .i64 c, .int .i64 r]] w fun e w' => e = .returned zCv ∧ Kp w w' Nul := by
  go_enter Tryz.func27, Tryz.ntmps27
  go_wp2_with (refine wpList_store_new rfl 55 (.tmp 4) (.tmp 7) rfl _ _ _ _ _ (by simp) rfl rfl rfl infoContent (Ct.one ⟨0, ⟨0, 0, ⟨#[]⟩, false, 0⟩, zNd⟩ (sl := .slice none 0 0) rfl) ?_)
  refine bodyPost_ret (results_cell_row rfl _ _ (w.heap.size + 1) 55 _ (0, 0) _ rfl (heap_alloc2_new _ _ _) Tryz.underlying55 rfl infoContent) rfl ?_
  exact ⟨rfl, ((Kp.refl w Nul).alloc _).alloc _⟩
set_option maxHeartbeats 2000000 in
theorem nil_clone (w : World) : Calls Tryz.prog 126 #[.pointer none] w fun e w' => e = .returned (.pointer none) ∧ w' = w := by
  go_enter Tryz.func126, Tryz.ntmps126
  go_wp2_with fail
  go_ret
  exact ⟨rfl, rfl⟩
set_option maxHeartbeats 2000000 in
theorem nil_equal (p : Option Addr) (w : World) : Calls Tryz.prog 25 #[.pointer none, .pointer p] w fun e w' => e = .returned (.bool false) ∧ Kp w w' Nul := by
  go_enter Tryz.func25, Tryz.ntmps25
  go_wp2_with fail
  go_quiet (fail)
  go_wp2_with fail
  go_ret
  exact ⟨rfl, (Kp.refl _ _).drewN _⟩
end Go.Proofs.YtbkcebbddhaifaaGreatDoor
