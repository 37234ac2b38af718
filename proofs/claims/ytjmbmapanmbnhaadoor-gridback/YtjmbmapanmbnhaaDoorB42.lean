/- just, of contents that are zero. -/
import Derived.Test.YtjmbmapanmbnhaaDoorB11
namespace Go.Proofs.YtjmbmapanmbnhaaDoor
open Go.RowKit Go.Maps

set_option maxHeartbeats 1000000 in
theorem bits0 (w : World) : Calls Tryd.prog 50 #[.float .f64 0] w fun e w' => e = .returned (.int .u64 0) ∧ w' = w := by
  go_enter Tryd.func50, Tryd.ntmps50
  go_wp2
  go_ret
  exact ⟨rfl, rfl⟩
set_option maxRecDepth 20000 in
set_option maxHeartbeats 4000000 in
theorem same0 (w : World) : Calls Tryd.prog 49 #[zHd.val (.slice none 0 0), zHd.val (.slice none 0 0)] w fun e w' => e = .returned (.bool true) ∧ Kp w w' Nul := by
  have HB : Hid (∀ w, Calls Tryd.prog 50 #[.float .f64 0] w fun e w' => e = .returned (.int .u64 0) ∧ w' = w) := bits0
  unfold zHd
  go_enter Tryd.func49, Tryd.ntmps49
  go_wp2_with fail
  go_quiet ((go_at_call 50; exact Calls.quiet_of_same (HB.out _)))
  go_wp2_with fail
  go_loopw [5] (fun s wr => s = .int .i64 0 ∧ ∃ m, wr = ((w.alloc (.cells #[.int .i64 0, .int .i64 0, .float .f64 0, .string ⟨#[]⟩, .bool false, .int .i64 0, .int .i64 0, .int .i64 0, .bool false, .bool false, .int .i64 0, .int .i64 0, .bool false, .bool false, .slice none 0 0] 31)).alloc (.cells #[.int .i64 0, .int .i64 0, .float .f64 0, .string ⟨#[]⟩, .bool false, .int .i64 0, .int .i64 0, .int .i64 0, .bool false, .bool false, .int .i64 0, .int .i64 0, .bool false, .bool false, .slice none 0 0] 31)).drewN m) (fun _ _ => 0)
  case atStart => exact ⟨rfl, _, rfl⟩
  case round =>
    obtain ⟨rfl, m, rfl⟩ := hrel
    go_wp2_with fail
    go_ret
    exact ⟨rfl, (((Kp.refl w Nul).alloc _).alloc _).drewN _⟩
set_option maxRecDepth 20000 in
set_option maxHeartbeats 4000000 in
theorem just0 (w : World) : Calls Tryd.prog 16 #[zCv, zCv] w fun e w' => e = .returned (.bool true) ∧ Kp w w' Nul := by
  have HB : Hid (∀ w, Calls Tryd.prog 50 #[.float .f64 0] w fun e w' => e = .returned (.int .u64 0) ∧ w' = w) := bits0
  have HS : Hid (∀ w, Calls Tryd.prog 49 #[.agg #[.int .i64 0, .int .i64 0, .float .f64 0, .string ⟨#[]⟩, .bool false, .int .i64 0, .int .i64 0, .int .i64 0, .bool false, .bool false, .int .i64 0, .int .i64 0, .bool false, .bool false, .slice none 0 0], .agg #[.int .i64 0, .int .i64 0, .float .f64 0, .string ⟨#[]⟩, .bool false, .int .i64 0, .int .i64 0, .int .i64 0, .bool false, .bool false, .int .i64 0, .int .i64 0, .bool false, .bool false, .slice none 0 0]] w fun e w' => e = .returned (.bool true) ∧ Kp w w' Nul) := same0
  obtain ⟨W, hW⟩ : ∃ W, (w.alloc (.cells #[.int .i64 0, .int .i64 0, .float .f64 0, .string ⟨#[]⟩, .bool false, .int .i64 0, .int .i64 0, .int .i64 0, .float .f64 0, .string ⟨#[]⟩, .bool false, .int .i64 0, .int .i64 0, .int .i64 0, .bool false, .bool false, .int .i64 0, .int .i64 0, .bool false, .bool false, .slice none 0 0] 33)).alloc (.cells #[.int .i64 0, .int .i64 0, .float .f64 0, .string ⟨#[]⟩, .bool false, .int .i64 0, .int .i64 0, .int .i64 0, .float .f64 0, .string ⟨#[]⟩, .bool false, .int .i64 0, .int .i64 0, .int .i64 0, .bool false, .bool false, .int .i64 0, .int .i64 0, .bool false, .bool false, .slice none 0 0] 33) = W := ⟨_, rfl⟩
  have hk : Kp w W Nul := by rw [← hW]; exact ((Kp.refl w Nul).alloc _).alloc _
  have HK : Hid (Kp w W Nul) := hk
  have hb1 : W.heap[w.heap.size]? = some (.cells #[.int .i64 0, .int .i64 0, .float .f64 0, .string ⟨#[]⟩, .bool false, .int .i64 0, .int .i64 0, .int .i64 0, .float .f64 0, .string ⟨#[]⟩, .bool false, .int .i64 0, .int .i64 0, .int .i64 0, .bool false, .bool false, .int .i64 0, .int .i64 0, .bool false, .bool false, .slice none 0 0] 33 (0, 0)) := by
    rw [← hW]
    exact (Below.heap_alloc _ _ _ (by simp)).trans (heap_alloc_new w _)
  have hb2 : W.heap[w.heap.size + 1]? = some (.cells #[.int .i64 0, .int .i64 0, .float .f64 0, .string ⟨#[]⟩, .bool false, .int .i64 0, .int .i64 0, .int .i64 0, .float .f64 0, .string ⟨#[]⟩, .bool false, .int .i64 0, .int .i64 0, .int .i64 0, .bool false, .bool false, .int .i64 0, .int .i64 0, .bool false, .bool false, .slice none 0 0] 33 (0, 0)) := by
    rw [← hW]
    have := heap_alloc_new (w.alloc (.cells #[.int .i64 0, .int .i64 0, .float .f64 0, .string ⟨#[]⟩, .bool false, .int .i64 0, .int .i64 0, .int .i64 0, .float .f64 0, .string ⟨#[]⟩, .bool false, .int .i64 0, .int .i64 0, .int .i64 0, .bool false, .bool false, .int .i64 0, .int .i64 0, .bool false, .bool false, .slice none 0 0] 33)) (.cells #[.int .i64 0, .int .i64 0, .float .f64 0, .string ⟨#[]⟩, .bool false, .int .i64 0, .int .i64 0, .int .i64 0, .float .f64 0, .string ⟨#[]⟩, .bool false, .int .i64 0, .int .i64 0, .int .i64 0, .bool false, .bool false, .int .i64 0, .int .i64 0, .bool false, .bool false, .slice none 0 0] 33)
    rw [World.size_alloc] at this
    exact this
  have HC : Hid (∀ wq, Kp W wq Nul → ∀ b, b = w.heap.size ∨ b = w.heap.size + 1 → (wq.cell? ⟨b, 0, none⟩ = some (.int .i64 0) ∧ wq.cell? ⟨b, 1, none⟩ = some (.int .i64 0) ∧ wq.cell? ⟨b, 2, none⟩ = some (.float .f64 0) ∧ wq.cell? ⟨b, 3, none⟩ = some (.string ⟨#[]⟩) ∧ wq.cell? ⟨b, 4, none⟩ = some (.bool false) ∧ wq.cell? ⟨b, 5, none⟩ = some (.int .i64 0))) := fun wq k b hb => by
    have hh : wq.heap[b]? = some (.cells #[.int .i64 0, .int .i64 0, .float .f64 0, .string ⟨#[]⟩, .bool false, .int .i64 0, .int .i64 0, .int .i64 0, .float .f64 0, .string ⟨#[]⟩, .bool false, .int .i64 0, .int .i64 0, .int .i64 0, .bool false, .bool false, .int .i64 0, .int .i64 0, .bool false, .bool false, .slice none 0 0] 33 (0, 0)) := by
      rcases hb with rfl | rfl
      · exact (k.block _ (Array.getElem?_eq_some_iff.1 hb1).1 (fun x => x)).trans hb1
      · exact (k.block _ (Array.getElem?_eq_some_iff.1 hb2).1 (fun x => x)).trans hb2
    simp [World.cell?, hh]
  unfold zCv
  clear hk hb1 hb2
  subst hW
  go_enter Tryd.func16, Tryd.ntmps16
  go_wp2_with fail
  refine (HS.out _).mono ?_
  rintro e w1 ⟨rfl, hk1⟩
  obtain ⟨p0, p1, p2, p3, p4, p5⟩ := HC.out w1 hk1 _ (.inl rfl)
  obtain ⟨q0, q1, q2, q3, q4, q5⟩ := HC.out w1 hk1 _ (.inr rfl)
  have HK1 : Hid (Kp w w1 Nul) := HK.out.trans hk1
  clear hk1 HC HK HS
  go_wp2_with fail
  go_quiet ((go_at_call 50; exact Calls.quiet_of_same (HB.out _)))
  go_wp2_with fail
  go_ret
  exact ⟨rfl, HK1.out.drewN _⟩
end Go.Proofs.YtjmbmapanmbnhaaDoor
