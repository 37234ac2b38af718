/- Calls of no grid. -/
import Derived.Test.YtjmbmapanmbnhaaDoorB7
import Derived.Test.YtjmbmapanmbnhaaDoorB9
import Derived.Deep.QuietTactic
import Derived.BigQuiet
namespace Go.Proofs.YtjmbmapanmbnhaaDoor
open Go.RowKit Go.Maps

theorem results_cell1 {fn : Func} {p : Tmp} {ty : TypeId} (h : fn.results = #[.cell p ty]) (tmps : Array Value) (P : Program) (w : World) :
    (results fn tmps).run P w = ((asAddr (tmps.getD p undef)).run P w).andThen fun a w1 => (loadVar ty a).run P w1 := by
  simp only [results, h]
  simp [Sem.run_bind, Result.andThen]
  try rfl
theorem results_cell_tmp' {fn : Func} {p u : Tmp} {ty : TypeId} (h : fn.results = #[.cell p ty, .tmp u]) (tmps : Array Value) (P : Program) (w : World) :
    (results fn tmps).run P w = ((asAddr (tmps.getD p undef)).run P w).andThen fun a w1 => ((loadVar ty a).run P w1).andThen fun v w2 => .ok (.tuple #[v, tmps.getD u undef]) w2 := by
  simp only [results, h]
  simp [Sem.run_bind, Result.andThen]
set_option maxRecDepth 20000 in
set_option maxHeartbeats 2000000 in
theorem nil_put (c r : Int) (ct : Ct) (sl : Value) (w : World) : Calls Tryd.prog 20 #[.pointer none, .agg #[.int .i64 c, .int .i64 r], ct.val sl] w fun e w' => e = .returned (.int .i64 1) ∧ Kp w w' Nul := by
  go_enter Tryd.func20, Tryd.ntmps20
  go_wp2_with fail
  go_ret
  exact ⟨rfl, by repeat (first | exact Kp.refl _ _ | refine Kp.alloc ?_ _)⟩
set_option maxRecDepth 20000 in
set_option maxHeartbeats 2000000 in
theorem nil_get (c r : Int) (w : World) : Calls Tryd.prog 28 #[.pointer none, .agg #[.int .i64 c, .int .i64 r]] w fun e w' => e = .returned zCv ∧ Kp w w' Nul := by
  go_enter Tryd.func28, Tryd.ntmps28
  go_wp2_with (refine wpList_store_new rfl 33 (.tmp 4) (.tmp 7) rfl _ _ _ _ _ (by simp) rfl rfl rfl infoContent (Ct.one ⟨0, ⟨0, 0, ⟨#[]⟩, false, 0⟩, zNd⟩ (sl := .slice none 0 0) rfl) ?_)
  refine bodyPost_ret (results_cell_row rfl _ _ (w.heap.size + 1) 33 _ (0, 0) _ rfl (heap_alloc2_new _ _ _) Tryd.underlying33 rfl infoContent) rfl ?_
  exact ⟨rfl, ((Kp.refl w Nul).alloc _).alloc _⟩
set_option maxHeartbeats 2000000 in
theorem nil_bounds (w : World) : Calls Tryd.prog 27 #[.pointer none] w fun e w' => e = .returned (.tuple #[.agg #[.int .i64 0, .int .i64 0, .int .i64 0, .int .i64 0], .bool false]) ∧ Kp w w' Nul := by
  have H : Hid (∀ w, Calls Tryd.prog 22 #[.pointer none] w fun e w' => e = .returned (.int .i64 0) ∧ w' = w) := len_nil
  go_enter Tryd.func27, Tryd.ntmps27
  go_wp2_with fail
  refine (H.out _).mono ?_
  rintro e w1 ⟨rfl, hz⟩
  replace hz := hz.symm
  subst hz
  go_wp2_with fail
  (try simp only [Exit.inBlock, Exit.then])
  refine bodyPost_ret (v := .tuple #[.agg #[.int .i64 0, .int .i64 0, .int .i64 0, .int .i64 0], .bool false]) ?_ rfl ⟨rfl, ?_⟩
  · rw [results_cell_tmp' rfl]
    go_simp
  · repeat (first | exact Kp.refl _ _ | refine Kp.drew ?_ | refine Kp.alloc ?_ _ | refine Kp.setCell ?_ _ _ (.inl (by simp)))
set_option maxHeartbeats 2000000 in
theorem nil_clone (w : World) : Calls Tryd.prog 29 #[.pointer none] w fun e w' => e = .returned (.pointer none) ∧ w' = w := by
  go_enter Tryd.func29, Tryd.ntmps29
  go_wp2_with fail
  go_ret
  exact ⟨rfl, rfl⟩
set_option maxHeartbeats 2000000 in
theorem nil_equal (p : Option Addr) (w : World) : Calls Tryd.prog 24 #[.pointer none, .pointer p] w fun e w' => e = .returned (.bool false) ∧ Kp w w' Nul := by
  go_enter Tryd.func24, Tryd.ntmps24
  go_wp2_with fail
  go_quiet (fail)
  go_wp2_with fail
  go_ret
  exact ⟨rfl, (Kp.refl _ _).drewN _⟩
set_option maxHeartbeats 2000000 in
theorem nil_puts (p : Option Addr) (w : World) : Calls Tryd.prog 25 #[.pointer none, .pointer p] w fun e w' => e = .returned (.slice none 0 0) ∧ w' = w := by
  go_enter Tryd.func25, Tryd.ntmps25
  go_wp2_with fail
  go_ret
  exact ⟨rfl, rfl⟩
end Go.Proofs.YtjmbmapanmbnhaaDoor
