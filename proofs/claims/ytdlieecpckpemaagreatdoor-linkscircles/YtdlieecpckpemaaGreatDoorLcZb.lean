/- Order and areaOrder, the worlds behind them told exactly. -/
import Derived.Test.YtdlieecpckpemaaGreatDoorLcYi
import Derived.Sort.Grow
namespace Go.Proofs.YtdlieecpckpemaaGreatDoor
open Go.RowKit

/-- Draws and new blocks alone. -/
def Grn (w w' : World) : Prop := ∃ q os, w' = Sort.grow (w.drewN q) os
namespace Grn
theorem refl (w : World) : Grn w w := ⟨0, #[], by rw [Sort.grow_empty]; rfl⟩
theorem alloc {w w1 : World} (h : Grn w w1) (o : Obj) : Grn w (w1.alloc o) := by
  obtain ⟨q, os, rfl⟩ := h
  exact ⟨q, os ++ #[o], by rw [Sort.alloc_eq_grow, Sort.grow_grow]⟩
theorem drew {w w1 : World} (h : Grn w w1) : Grn w w1.drew := by
  obtain ⟨q, os, rfl⟩ := h
  exact ⟨q + 1, os, rfl⟩
theorem trans {w w1 w2 : World} (h : Grn w w1) (g : Grn w1 w2) : Grn w w2 := by
  obtain ⟨q, os, rfl⟩ := h
  obtain ⟨q', os', rfl⟩ := g
  refine ⟨q + q', os ++ os', ?_⟩
  rw [← Sort.grow_grow]
  show Sort.grow (Sort.grow ((w.drewN q).drewN q') os) os' = _
  congr 1
  unfold World.drewN
  simp [Nat.add_assoc]
theorem kp {w w1 : World} (h : Grn w w1) {S : Nat → Prop} : Kp w w1 S := by
  obtain ⟨q, os, rfl⟩ := h
  refine ⟨rfl, rfl, rfl, ?_, fun i hi _ => Sort.heap_grow_old (w.drewN q) os hi⟩
  rw [Sort.size_grow]
  exact Nat.le_add_right _ _
end Grn

set_option maxHeartbeats 2000000 in
theorem pOrder_x (c r d s : Int) (w : World) :
    Calls Tryz.prog 50 #[.agg #[.int .i64 c, .int .i64 r], .agg #[.int .i64 d, .int .i64 s]] w fun e w' => e = .returned (.int .i64 (ordC c r d s)) ∧ Grn w w' := by
  have G1 : Hid (∀ a t, Grn w (((w.alloc (.cells #[.int .i64 c, .int .i64 r] 29)).alloc (.cells #[.int .i64 d, .int .i64 s] 29)).alloc (.cells a t))) := fun a t => (((Grn.refl w).alloc _).alloc _).alloc _
  have H1 : Hid (∀ w, Calls Tryz.prog 87 #[.int .i64 r, .int .i64 s] w fun e w' => e = .returned (.int .i64 (cmpI r s)) ∧ w' = w) := pCompare_any r s
  have H2 : Hid (∀ w, Calls Tryz.prog 87 #[.int .i64 c, .int .i64 d] w fun e w' => e = .returned (.int .i64 (cmpI c d)) ∧ w' = w) := pCompare_any c d
  have H3 : Hid (∀ t, Calls Tryz.prog 86 #[.slice (some ⟨w.heap.size + 1 + 1, 0, none⟩) 2 2] (((w.alloc (.cells #[.int .i64 c, .int .i64 r] 29)).alloc (.cells #[.int .i64 d, .int .i64 s] 29)).alloc (.cells #[.int .i64 (cmpI r s), .int .i64 (cmpI c d)] t)).drew fun e w' => e = .returned (.int .i64 (ordC c r d s)) ∧ Grn w w' ∧ w'.cell? ⟨w.heap.size, 0, none⟩ = some (.int .i64 c) ∧ w'.cell? ⟨w.heap.size, 1, none⟩ = some (.int .i64 r) ∧ w'.cell? ⟨w.heap.size + 1, 0, none⟩ = some (.int .i64 d) ∧ w'.cell? ⟨w.heap.size + 1, 1, none⟩ = some (.int .i64 s)) := fun t => by
    have hh := has2_new ((w.alloc (.cells #[.int .i64 c, .int .i64 r] 29)).alloc (.cells #[.int .i64 d, .int .i64 s] 29)) (.int .i64 (cmpI r s)) (.int .i64 (cmpI c d)) t
    rw [World.size_alloc, World.size_alloc] at hh
    unfold ordC
    refine Calls.mono (pOr_two (w.heap.size + 1 + 1) (cmpI r s) (cmpI c d) _ ?_ ?_) ?_
    · exact hh.1.1
    · exact hh.1.2
    intro e w' h
    refine ⟨h.1, ?_⟩
    rw [h.2]
    have ga := (has2_new w (.int .i64 c) (.int .i64 r) 29).gr (((Gr.refl _).alloc #[.int .i64 d, .int .i64 s] 29).alloc #[.int .i64 (cmpI r s), .int .i64 (cmpI c d)] t)
    have gb := (has2_new (w.alloc (.cells #[.int .i64 c, .int .i64 r] 29)) (.int .i64 d) (.int .i64 s) 29).gr ((Gr.refl _).alloc #[.int .i64 (cmpI r s), .int .i64 (cmpI c d)] t)
    rw [World.size_alloc] at gb
    exact ⟨(G1.out _ _).drew, ga.1.1, ga.1.2, gb.1.1, gb.1.2⟩
  generalize ordC c r d s = V at *
  generalize cmpI r s = p at *
  generalize cmpI c d = q at *
  go_enter Tryz.func50, Tryz.ntmps50
  go_wp2_with fail
  go_region_held3 (fun w' => w'.cell? ⟨w.heap.size, 0, none⟩ = some (.int .i64 c) ∧ w'.cell? ⟨w.heap.size, 1, none⟩ = some (.int .i64 r) ∧ w'.cell? ⟨w.heap.size + 1, 0, none⟩ = some (.int .i64 d) ∧ w'.cell? ⟨w.heap.size + 1, 1, none⟩ = some (.int .i64 s)) (go_keep) (first
    | (go_at_call_of 87 (Value.int .i64 r); refine (H1.out _).mono ?_; rintro e w' ⟨rfl, rfl⟩)
    | (go_at_call_of 87 (Value.int .i64 c); refine (H2.out _).mono ?_; rintro e w' ⟨rfl, rfl⟩)
    | (go_at_call 86; refine (H3.out _).mono ?_; rintro e w' ⟨rfl, hg, k0, k1, k2, k3⟩))
  all_goals
    have HG : Hid (Grn w w') := hg
    clear hg
    go_wp2_with fail
    go_ret
    exact ⟨rfl, HG.out⟩
end Go.Proofs.YtdlieecpckpemaaGreatDoor
