/- Copy: the walk. -/
import Derived.Test.YtjmbmapanmbnhaaDoorXd
namespace Go.Proofs.YtjmbmapanmbnhaaDoor
open Go.RowKit

theorem gr_below {w w' : World} (h : Gr w w') : Below w.heap.size w w' := ⟨h.ext.os, h.ext.tape, h.ext.output, h.ext.size, h.ext.block⟩
theorem structNode : ∃ d, Tryd.prog.underlying 31 = some d ∧ d.isRow = true := ⟨_, Tryd.underlying31, rfl⟩

set_option maxRecDepth 20000 in
set_option maxHeartbeats 8000000 in
theorem copy_none (h : Hd) (hx : h.x < 18446744073709551616) (a : Option Addr) (c : Nat) (w : World) :
    Calls Tryd.prog 46 #[h.val (.slice a 0 c)] w fun e w' => e = .returned (({ h with x := one h.x } : Hd).val (.slice none 0 0)) ∧ Below w.heap.size w w' := by
  have H1 : Hid (∀ w, Calls Tryd.prog 74 #[.float .f64 h.x] w fun e w' => e = .returned (.float .f64 (one h.x)) ∧ w' = w) := one_any h.x hx
  generalize one h.x = y at *
  obtain ⟨k, o, x, s, b, f, c1, r1, p1, q1, c2, r2, p2, q2⟩ := h
  simp only at *
  go_enter Tryd.func46, Tryd.ntmps46
  go_wp2_with (go_at_call 74; refine (H1.out _).mono ?_; rintro e w' ⟨rfl, rfl⟩)
  generalize hW : ((w.alloc (.cells #[.int .i64 k, .int .i64 o, .float .f64 y, .string s, .bool b, .int .i64 f, .int .i64 c1, .int .i64 r1, .bool p1, .bool q1, .int .i64 c2, .int .i64 r2, .bool p2, .bool q2, .slice none 0 0] 31)).alloc _) = W
  have HW : Hid (W = _) := hW.symm
  clear hW
  go_loopw [22] (fun i wr => i = .int .i64 0 ∧ wr = W) (fun _ _ => 0)
  case atStart => exact ⟨rfl, rfl⟩
  case round =>
    obtain ⟨rfl, rfl⟩ := hrel
    rw [HW.out]
    go_wp2_with (refine wpList_store_new rfl 31 (.tmp 2) (.tmp 34) rfl _ _ _ _ _ (by simp) rfl rfl rfl infoNode (Hd.one ⟨k, o, y, s, b, f, c1, r1, p1, q1, c2, r2, p2, q2⟩ rfl) ?_)
    refine bodyPost_ret (results_cell_row rfl _ _ (w.heap.size + 1) 31 _ (0, 0) _ rfl (heap_alloc2_new _ _ _) Tryd.underlying31 rfl infoNode) rfl ?_
    exact ⟨rfl, ((Below.refl _ _).alloc (Nat.le_refl _) _).alloc (by simp) _⟩
end Go.Proofs.YtjmbmapanmbnhaaDoor
