/- The document's Own of contents (quadrilleref17), number and OfNumber (quadrilleref14). -/
import Derived.Test.YtjmbmapanmbnhaaDoorB34
namespace Go.Proofs.YtjmbmapanmbnhaaDoor
open Go.RowKit

set_option maxHeartbeats 1000000 in
theorem rnumber_at (x : Nat) (w : World) : Calls Tryd.prog 75 #[.int .u64 (x : Int)] w fun e w' => e = .returned (.float .f64 x) ∧ w' = w := by
  go_enter Tryd.func75, Tryd.ntmps75
  go_wp2
  go_ret
  exact ⟨rfl, rfl⟩
set_option maxHeartbeats 1000000 in
theorem rofNumber_at (x : Nat) (hx : x < 18446744073709551616) (w : World) :
    Calls Tryd.prog 47 #[.float .f64 x] w fun e w' => e = .returned (.agg #[.int .i64 1, .float .f64 (one x), .string ⟨#[]⟩, .bool false, .int .i64 0]) ∧ Kp w w' Nul := by
  have H1 : Hid (∀ w, Calls Tryd.prog 72 #[.float .f64 x] w fun e w' => e = .returned (.int .u64 (one x : Nat)) ∧ w' = w) := rbits_at x hx
  have H2 : Hid (∀ w, Calls Tryd.prog 75 #[.int .u64 ((one x : Nat) : Int)] w fun e w' => e = .returned (.float .f64 (one x)) ∧ w' = w) := rnumber_at (one x)
  generalize one x = y at *
  clear hx
  go_enter Tryd.func47, Tryd.ntmps47
  go_wp2_with (first | (go_at_call 72; refine (H1.out _).mono ?_; rintro e w' ⟨rfl, rfl⟩) | (go_at_call 75; refine (H2.out _).mono ?_; rintro e w' ⟨rfl, rfl⟩))
  refine bodyPost_ret (results_cell_row rfl _ _ w.heap.size 24 _ (0, 0) _ rfl (heap_alloc_new _ _) Tryd.underlying24 rfl infoValue) rfl ?_
  exact ⟨rfl, (Kp.refl _ _).alloc _⟩
/-- The zero content's cells. -/
abbrev zC21 : List Value := [.int .i64 0, .int .i64 0, .float .f64 0, .string ⟨#[]⟩, .bool false, .int .i64 0, .int .i64 0, .int .i64 0, .float .f64 0, .string ⟨#[]⟩, .bool false, .int .i64 0, .int .i64 0, .int .i64 0, .bool false, .bool false, .int .i64 0, .int .i64 0, .bool false, .bool false, .slice none 0 0]
theorem Blk.range {w : World} {b : Nat} {pre l post : List Value} {t : TypeId} (h : Blk w b (pre ++ l ++ post) t) : w.rangeAt b pre.length l := rangeAt_mid h
theorem Blk.all {w : World} {b : Nat} {l : List Value} {t : TypeId} (h : Blk w b l t) : w.rangeAt b 0 l := fun j v hj => by rw [Nat.zero_add]; exact h.cell hj
set_option maxRecDepth 20000 in
set_option maxHeartbeats 1500000 in
theorem rOwn_at (c : Ct) (sl : Value) (F : Nat → Prop) (w : World) (hm : c.t.size ≤ 1048576) (hin : NdIn w F sl c.t) :
    Calls Tryd.prog 13 #[c.val sl] w fun e w' => ∃ sl' fp, e = .returned (c.val sl') ∧ Own w' w.heap.size sl' c.t fp ∧ Below w.heap.size w w' := by
  have H2 : Hid (∀ wq, Below w.heap.size w wq → Calls Tryd.prog 44 #[c.t.hd.val sl] wq fun e w' => ∃ sl' fp, e = .returned (c.t.hd.val sl') ∧ Own w' wq.heap.size sl' c.t fp ∧ Below wq.heap.size wq w') :=
    fun wq hq => ownNode_any c.t.size c.t sl F wq (Nat.le_refl _) hm (hin.mono fun b hb hlt => ⟨hq.block b hlt, hb⟩)
  obtain ⟨k, ⟨vk, vx, vs, vb, vf⟩, t⟩ := c
  try simp only at *
  clear hin hm
  have b0 : Blk ((w.alloc (.cells (Ct.cells ⟨k, ⟨vk, vx, vs, vb, vf⟩, t⟩ sl).toArray 33)).alloc (.cells zC21.toArray 33)) w.heap.size (Ct.cells ⟨k, ⟨vk, vx, vs, vb, vf⟩, t⟩ sl) 33 := (Blk.new w _ _).alloc _
  have b1 : Blk ((w.alloc (.cells (Ct.cells ⟨k, ⟨vk, vx, vs, vb, vf⟩, t⟩ sl).toArray 33)).alloc (.cells zC21.toArray 33)) (w.heap.size + 1) zC21 33 := by
    have := Blk.new (w.alloc (.cells (Ct.cells ⟨k, ⟨vk, vx, vs, vb, vf⟩, t⟩ sl).toArray 33)) zC21 33
    rw [World.size_alloc] at this
    exact this
  have RF : Hid (((w.alloc (.cells (Ct.cells ⟨k, ⟨vk, vx, vs, vb, vf⟩, t⟩ sl).toArray 33)).alloc (.cells zC21.toArray 33)).rangeAt w.heap.size 6 (t.hd.cells sl)) := Blk.range (pre := [.int .i64 k, .int .i64 vk, .float .f64 vx, .string vs, .bool vb, .int .i64 vf]) (l := t.hd.cells sl) (post := []) b0
  have GW : Hid (Below w.heap.size w ((w.alloc (.cells (Ct.cells ⟨k, ⟨vk, vx, vs, vb, vf⟩, t⟩ sl).toArray 33)).alloc (.cells zC21.toArray 33))) := ((Below.refl _ _).alloc (Nat.le_refl _) _).alloc (by simp [World.size_alloc]) _
  have HB0 : Hid (Blk _ _ _ _) := b0
  have HB1 : Hid (Blk _ _ _ _) := b1
  clear b0 b1
  go_enter Tryd.func13, Tryd.ntmps13
  go_wp2_with (refine wpList_load_mid rfl 31 (.tmp 3) rfl w.heap.size 6 rfl (t.hd.cells sl) _ RF.out Tryd.underlying31 rfl infoNode ?_)
  refine (H2.out _ GW.out).mono ?_
  rintro e w2 ⟨sl', fp, rfl, hown, hbw⟩
  have hsz : w.heap.size + 1 < w2.heap.size := Nat.lt_of_lt_of_le HB1.out.lt hbw.size
  have e0 : Blk w2 w.heap.size (Ct.cells ⟨k, ⟨vk, vx, vs, vb, vf⟩, t⟩ sl) 33 := (hbw.block _ HB0.out.lt).trans HB0.out
  have e1 : Blk w2 (w.heap.size + 1) zC21 33 := (hbw.block _ HB1.out.lt).trans HB1.out
  have O1 : Hid (sl'.oneCell' = true) := hown.own.one
  have T0 : Hid (w2.there w.heap.size 6 15) := there_of_block e0 _ _ (by simp)
  obtain ⟨W3, hW3⟩ : ∃ W3, w2.setCells w.heap.size 6 (t.hd.cells sl') = W3 := ⟨_, rfl⟩
  have HW3 : Hid (w2.setCells w.heap.size 6 (t.hd.cells sl') = W3) := hW3
  have f0 : Blk W3 w.heap.size (Ct.cells ⟨k, ⟨vk, vx, vs, vb, vf⟩, t⟩ sl') 33 := by
    rw [← hW3]
    exact heap_setCells_mid (pre := [.int .i64 k, .int .i64 vk, .float .f64 vx, .string vs, .bool vb, .int .i64 vf]) (old := t.hd.cells sl) (new := t.hd.cells sl') (post := []) rfl e0
  have f1 : Blk W3 (w.heap.size + 1) zC21 33 := by rw [← hW3]; exact (heap_setCells_ne (by omega) _ _ _).trans e1
  have RC : Hid (W3.rangeAt w.heap.size 0 (Ct.cells ⟨k, ⟨vk, vx, vs, vb, vf⟩, t⟩ sl')) := f0.all
  have T1 : Hid (W3.there (w.heap.size + 1) 0 21) := there_of_block f1 _ _ (by simp)
  obtain ⟨W4, hW4⟩ : ∃ W4, W3.setCells (w.heap.size + 1) 0 (Ct.cells ⟨k, ⟨vk, vx, vs, vb, vf⟩, t⟩ sl') = W4 := ⟨_, rfl⟩
  have HW4 : Hid (W3.setCells (w.heap.size + 1) 0 (Ct.cells ⟨k, ⟨vk, vx, vs, vb, vf⟩, t⟩ sl') = W4) := hW4
  have L1 : Hid (W4.heap[w.heap.size + 1]? = some (.cells (Ct.cells ⟨k, ⟨vk, vx, vs, vb, vf⟩, t⟩ sl').toArray 33 (0, 0))) := by
    show _ = _
    rw [← hW4]
    exact heap_setCells_whole (cs := (Ct.cells ⟨k, ⟨vk, vx, vs, vb, vf⟩, t⟩ sl').toArray) f1 (by simp)
  have OW : Hid (Own W4 w.heap.size sl' t fp) := by
    refine ⟨hown.own.mono (fun b hb => ?_), hown.nodup, fun b hb => ?_⟩
    · have := (hown.new b hb).1
      simp only [World.size_alloc] at this
      rw [← hW4, heap_setCells_ne (by omega), ← hW3, heap_setCells_ne (by omega)]
    · have := (hown.new b hb).1
      simp only [World.size_alloc] at this
      rw [← hW4, size_setCells, ← hW3, size_setCells]
      exact ⟨by omega, (hown.new b hb).2⟩
  have BW : Hid (Below w.heap.size w W4) := by
    show Below _ _ _
    rw [← hW4]
    exact setCells_below (hW3 ▸ setCells_below (GW.out.trans (hbw.mono (by simp [World.size_alloc]; omega))) (Nat.le_refl _) _ _) (Nat.le_succ _) _ _
  clear hW3 hW4 hown hbw H2 HB0 HB1 GW RF e0 e1 f0 f1 hsz
  go_wp2_with (first | (refine wpList_store_to rfl 31 (.tmp 6) (.tmp 5) rfl w.heap.size 6 _ rfl rfl T0.out infoNode (t.hd.one O1.out) W3 HW3.out ?_) | (refine wpList_load_mid rfl 33 (.tmp 1) rfl w.heap.size 0 rfl (Ct.cells ⟨k, ⟨vk, vx, vs, vb, vf⟩, t⟩ sl') _ RC.out Tryd.underlying33 rfl infoContent ?_) | (refine wpList_store_to rfl 33 (.tmp 2) (.tmp 7) rfl (w.heap.size + 1) 0 _ rfl rfl T1.out infoContent (Ct.one ⟨k, ⟨vk, vx, vs, vb, vf⟩, t⟩ O1.out) W4 HW4.out ?_))
  refine bodyPost_ret (results_cell_row rfl _ _ (w.heap.size + 1) 33 _ (0, 0) _ rfl L1.out Tryd.underlying33 rfl infoContent) rfl ?_
  exact ⟨_, _, rfl, OW.out, BW.out⟩
end Go.Proofs.YtjmbmapanmbnhaaDoor
