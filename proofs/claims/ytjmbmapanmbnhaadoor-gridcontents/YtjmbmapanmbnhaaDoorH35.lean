/- just (quadrillelaw17): of contents that are the same it tells so. -/
import Derived.Test.YtjmbmapanmbnhaaDoorH34
import Derived.Test.YtjmbmapanmbnhaaDoorH7
namespace Go.Proofs.YtjmbmapanmbnhaaDoor
open Go.RowKit

set_option maxRecDepth 20000 in
set_option maxHeartbeats 8000000 in
theorem just_at (c : Ct) (sl sg : Value) (F G : Nat → Prop) (w : World) (hin : NdIn w F sl c.t) (gin : NdIn w G sg c.t) :
    Calls Tryd.prog 16 #[c.val sl, c.val sg] w fun e w' => e = .returned (.bool true) ∧ Kp w w' Nul := by
  have HS : Hid (∀ wq, Kp w wq Nul → Calls Tryd.prog 49 #[c.t.hd.val sl, c.t.hd.val sg] wq fun e w' => e = .returned (.bool true) ∧ Kp wq w' Nul) := fun wq hq => sameNode_any c.t.size c.t sl sg F G wq (Nat.le_refl _) (hin.kp hq (fun _ _ x => x)) (gin.kp hq (fun _ _ x => x))
  have HB : Hid (∀ w, Calls Tryd.prog 50 #[.float .f64 c.v.x] w fun e w' => e = .returned (.int .u64 (c.v.x : Int)) ∧ w' = w) := lbits_at c.v.x
  obtain ⟨k, ⟨vk, vx, vs, vb, vf⟩, t⟩ := c
  try simp only at *
  generalize hX : (vx : Int) = X at *
  clear hX hin gin
  obtain ⟨W, hW⟩ : ∃ W, (w.alloc (.cells (Ct.cells ⟨k, ⟨vk, vx, vs, vb, vf⟩, t⟩ sl).toArray 33)).alloc (.cells (Ct.cells ⟨k, ⟨vk, vx, vs, vb, vf⟩, t⟩ sg).toArray 33) = W := ⟨_, rfl⟩
  have hk : Kp w W Nul := by rw [← hW]; exact ((Kp.refl w Nul).alloc _).alloc _
  have b0 : Blk W w.heap.size (Ct.cells ⟨k, ⟨vk, vx, vs, vb, vf⟩, t⟩ sl) 33 := by rw [← hW]; exact (Blk.new w _ _).alloc _
  have b1 : Blk W (w.heap.size + 1) (Ct.cells ⟨k, ⟨vk, vx, vs, vb, vf⟩, t⟩ sg) 33 := by
    have := Blk.new (w.alloc (.cells (Ct.cells ⟨k, ⟨vk, vx, vs, vb, vf⟩, t⟩ sl).toArray 33)) (Ct.cells ⟨k, ⟨vk, vx, vs, vb, vf⟩, t⟩ sg) 33
    rw [World.size_alloc] at this
    rw [← hW]; exact this
  have R0 : Hid (W.rangeAt w.heap.size 6 (t.hd.cells sl)) := rangeAt_mid (pre := [.int .i64 k, .int .i64 vk, .float .f64 vx, .string vs, .bool vb, .int .i64 vf]) (l := t.hd.cells sl) (post := []) b0
  have R1 : Hid (W.rangeAt (w.heap.size + 1) 6 (t.hd.cells sg)) := rangeAt_mid (pre := [.int .i64 k, .int .i64 vk, .float .f64 vx, .string vs, .bool vb, .int .i64 vf]) (l := t.hd.cells sg) (post := []) b1
  have HK : Hid (Kp w W Nul) := hk
  have HC : Hid (∀ wq, Kp W wq Nul → (wq.cell? ⟨w.heap.size, 0, none⟩ = some (.int .i64 k) ∧ wq.cell? ⟨w.heap.size, 1, none⟩ = some (.int .i64 vk) ∧ wq.cell? ⟨w.heap.size, 2, none⟩ = some (.float .f64 vx) ∧ wq.cell? ⟨w.heap.size, 3, none⟩ = some (.string vs) ∧ wq.cell? ⟨w.heap.size, 4, none⟩ = some (.bool vb) ∧ wq.cell? ⟨w.heap.size, 5, none⟩ = some (.int .i64 vf)) ∧
      (wq.cell? ⟨w.heap.size + 1, 0, none⟩ = some (.int .i64 k) ∧ wq.cell? ⟨w.heap.size + 1, 1, none⟩ = some (.int .i64 vk) ∧ wq.cell? ⟨w.heap.size + 1, 2, none⟩ = some (.float .f64 vx) ∧ wq.cell? ⟨w.heap.size + 1, 3, none⟩ = some (.string vs) ∧ wq.cell? ⟨w.heap.size + 1, 4, none⟩ = some (.bool vb) ∧ wq.cell? ⟨w.heap.size + 1, 5, none⟩ = some (.int .i64 vf))) := fun wq kq => by
    have q0 := b0.kp kq (fun x => x)
    have q1 := b1.kp kq (fun x => x)
    exact ⟨⟨q0.cell rfl, q0.cell rfl, q0.cell rfl, q0.cell rfl, q0.cell rfl, q0.cell rfl⟩, ⟨q1.cell rfl, q1.cell rfl, q1.cell rfl, q1.cell rfl, q1.cell rfl, q1.cell rfl⟩⟩
  have HW : Hid ((w.alloc (.cells #[.int .i64 k, .int .i64 vk, .float .f64 vx, .string vs, .bool vb, .int .i64 vf, .int .i64 t.hd.k, .int .i64 t.hd.o, .float .f64 t.hd.x, .string t.hd.s, .bool t.hd.b, .int .i64 t.hd.f, .int .i64 t.hd.c1, .int .i64 t.hd.r1, .bool t.hd.p1, .bool t.hd.q1, .int .i64 t.hd.c2, .int .i64 t.hd.r2, .bool t.hd.p2, .bool t.hd.q2, sl] 33)).alloc (.cells #[.int .i64 k, .int .i64 vk, .float .f64 vx, .string vs, .bool vb, .int .i64 vf, .int .i64 t.hd.k, .int .i64 t.hd.o, .float .f64 t.hd.x, .string t.hd.s, .bool t.hd.b, .int .i64 t.hd.f, .int .i64 t.hd.c1, .int .i64 t.hd.r1, .bool t.hd.p1, .bool t.hd.q1, .int .i64 t.hd.c2, .int .i64 t.hd.r2, .bool t.hd.p2, .bool t.hd.q2, sg] 33) = W) := hW
  clear hk b0 b1
  go_enter Tryd.func16, Tryd.ntmps16
  subst hW
  go_wp2_with (first | (refine wpList_load_mid rfl 31 (.tmp 6) rfl w.heap.size 6 rfl (t.hd.cells sl) _ R0.out Tryd.underlying31 rfl infoNode ?_) | (refine wpList_load_mid rfl 31 (.tmp 8) rfl (w.heap.size + 1) 6 rfl (t.hd.cells sg) _ R1.out Tryd.underlying31 rfl infoNode ?_))
  refine (HS.out _ HK.out).mono ?_
  rintro e w1 ⟨rfl, hk1⟩
  obtain ⟨⟨p0, p1, p2, p3, p4, p5⟩, ⟨q0, q1, q2, q3, q4, q5⟩⟩ := HC.out w1 hk1
  have HK1 : Hid (Kp w w1 Nul) := HK.out.trans hk1
  clear hk1 HC HK HS R0 R1 HW
  go_wp2_with fail
  go_quiet ((go_at_call 50; exact Calls.quiet_of_same (HB.out _)))
  go_wp2_with fail
  go_ret
  exact ⟨rfl, HK1.out.drewN _⟩
end Go.Proofs.YtjmbmapanmbnhaaDoor
