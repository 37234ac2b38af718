/- Calls of no links. -/
import Derived.Test.YtkgolfmnlbmmeaaGreatDoorZt
namespace Go.Proofs.YtkgolfmnlbmmeaaGreatDoor
open Go.RowKit Go.Sort Go.Lib Go.Maps

set_option maxHeartbeats 1000000 in
theorem nil_set (c r : Int) (w : World) : Calls Tryz.prog 27 #[.pointer none, .agg #[.int .i64 c, .int .i64 r], .slice none 0 0] w fun e w' => e = .returned (.int .i64 1) ∧ Kp w w' Nul := by
  have HK : Hid (∀ o, Kp w (w.alloc o) Nul) := fun o => (Kp.refl w Nul).alloc o
  go_enter Tryz.func27, Tryz.ntmps27
  go_wp2_with fail
  go_ret
  exact ⟨rfl, HK.out _⟩
set_option maxHeartbeats 1000000 in
theorem nil_drop (c r : Int) (w : World) : Calls Tryz.prog 25 #[.pointer none, .agg #[.int .i64 c, .int .i64 r]] w fun e w' => e = .returned (.bool false) ∧ Kp w w' Nul := by
  have HK : Hid (∀ o, Kp w (w.alloc o) Nul) := fun o => (Kp.refl w Nul).alloc o
  go_enter Tryz.func25, Tryz.ntmps25
  go_wp2_with fail
  go_ret
  exact ⟨rfl, HK.out _⟩
theorem results_cell2 {fn : Func} {p q : Tmp} {ty tz : TypeId} (h : fn.results = #[.cell p ty, .cell q tz]) (tmps : Array Value) (P : Program) (w : World) :
    (results fn tmps).run P w = ((asAddr (tmps.getD p undef)).run P w).andThen fun a w1 => ((loadVar ty a).run P w1).andThen fun v w2 => ((asAddr (tmps.getD q undef)).run P w2).andThen fun b w3 => ((loadVar tz b).run P w3).andThen fun u w4 => .ok (.tuple #[v, u]) w4 := by
  simp only [results, h]
  simp [Sem.run_bind, Result.andThen]
set_option maxHeartbeats 1000000 in
theorem nil_circle (w : World) : Calls Tryz.prog 23 #[.pointer none] w fun e w' => e = .returned (.tuple #[.slice none 0 0, .bool false]) ∧ Kp w w' Nul := by
  go_enter Tryz.func23, Tryz.ntmps23
  go_wp2_with fail
  (try simp only [Exit.inBlock, Exit.then])
  refine bodyPost_ret (v := .tuple #[.slice none 0 0, .bool false]) ?_ rfl ⟨rfl, ?_⟩
  · rw [results_cell2 rfl]
    go_simp
  · repeat (first | exact Kp.refl _ _ | refine Kp.drew ?_ | refine Kp.alloc ?_ _ | refine Kp.setCell ?_ _ _ (.inl (by simp)))
set_option maxHeartbeats 1000000 in
theorem nil_ready (v u : Value) (w : World) : Calls Tryz.prog 32 #[.pointer none, v, u] w fun e w' => e = .returned (.tuple #[.slice none 0 0, .int .i64 1]) ∧ w' = w := by
  go_enter Tryz.func32, Tryz.ntmps32
  go_wp2_with fail
  go_ret2
  exact ⟨rfl, rfl⟩
set_option maxHeartbeats 1000000 in
theorem nil_order (v : Value) (w : World) : Calls Tryz.prog 24 #[.pointer none, v] w fun e w' => e = .returned (.tuple #[.slice none 0 0, .int .i64 1]) ∧ w' = w := by
  have H := nil_ready v (.slice none 0 0) w
  have HR : Hid (Calls Tryz.prog 32 #[.pointer none, v, .slice none 0 0] w fun e w' => e = .returned (.tuple #[.slice none 0 0, .int .i64 1]) ∧ w' = w) := H
  clear H
  go_enter Tryz.func24, Tryz.ntmps24
  go_wp2_with fail
  refine HR.out.mono ?_
  rintro e w2 ⟨rfl, hz⟩
  replace hz := hz.symm
  subst hz
  go_wp2_with fail
  go_ret2
  exact ⟨rfl, rfl⟩
set_option maxHeartbeats 1000000 in
theorem nil_uses (c r : Int) (w : World) : Calls Tryz.prog 15 #[.pointer none, .agg #[.int .i64 c, .int .i64 r]] w fun e w' => e = .returned (.slice none 0 0) ∧ Kp w w' Nul := by
  have HK : Hid (∀ o, Kp w (w.alloc o) Nul) := fun o => (Kp.refl w Nul).alloc o
  go_enter Tryz.func15, Tryz.ntmps15
  go_wp2_with fail
  go_ret
  exact ⟨rfl, HK.out _⟩
set_option maxHeartbeats 1000000 in
theorem nil_users (c r : Int) (w : World) : Calls Tryz.prog 20 #[.pointer none, .agg #[.int .i64 c, .int .i64 r]] w fun e w' => e = .returned (.slice none 0 0) ∧ Kp w w' Nul := by
  have HK : Hid (∀ o, Kp w (w.alloc o) Nul) := fun o => (Kp.refl w Nul).alloc o
  go_enter Tryz.func20, Tryz.ntmps20
  go_wp2_with fail
  go_ret
  exact ⟨rfl, HK.out _⟩
set_option maxHeartbeats 1000000 in
theorem nil_above (v : Value) (w : World) : Calls Tryz.prog 22 #[.pointer none, v] w fun e w' => e = .returned (.slice none 0 0) ∧ w' = w := by
  go_enter Tryz.func22, Tryz.ntmps22
  go_wp2_with fail
  go_ret
  exact ⟨rfl, rfl⟩
set_option maxHeartbeats 1000000 in
theorem nil_len (w : World) : Calls Tryz.prog 16 #[.pointer none] w fun e w' => e = .returned (.int .i64 0) ∧ w' = w := by
  go_enter Tryz.func16, Tryz.ntmps16
  go_wp2_with fail
  go_ret
  exact ⟨rfl, rfl⟩
set_option maxHeartbeats 1000000 in
theorem nil_copy (w : World) : Calls Tryz.prog 12 #[.pointer none] w fun e w' => e = .returned (.pointer none) ∧ w' = w := by
  go_enter Tryz.func12, Tryz.ntmps12
  go_wp2_with fail
  go_ret
  exact ⟨rfl, rfl⟩
end Go.Proofs.YtkgolfmnlbmmeaaGreatDoor
