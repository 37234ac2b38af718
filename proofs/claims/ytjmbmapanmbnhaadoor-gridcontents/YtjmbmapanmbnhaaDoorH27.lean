/- The document's Own of contents (quadrilleref17), number and OfNumber (quadrilleref14). The document's Copy of contents (quadrilleref17). -/
import Derived.Test.YtjmbmapanmbnhaaDoorH26
namespace Go.Proofs.YtjmbmapanmbnhaaDoor
open Go.RowKit

set_option maxHeartbeats 1000000 in
theorem rnumber_at (x : Nat) (w : World) : Calls Tryd.prog 75 #[.int .u64 (x : Int)] w fun e w' => e = .returned (.float .f64 x) ∧ w' = w := by
  go_enter Tryd.func75, Tryd.ntmps75
  go_wp2
  go_ret
  exact ⟨rfl, rfl⟩
set_option maxHeartbeats 1000000 in
theorem rofNumber_at (x : Nat) (hx : x < 18446744073709551616) (w : World) :
    Calls Tryd.prog 47 #[.float .f64 x] w fun e w' => e = .returned (.agg #[.int .i64 1, .float .f64 (one x), .string ⟨#[]⟩, .bool false, .int .i64 0]) ∧ Kp w w' Nul := by
  have H1 : Hid (∀ w, Calls Tryd.prog 72 #[.float .f64 x] w fun e w' => e = .returned (.int .u64 (one x : Nat)) ∧ w' = w) := rbits_at x hx
  have H2 : Hid (∀ w, Calls Tryd.prog 75 #[.int .u64 ((one x : Nat) : Int)] w fun e w' => e = .returned (.float .f64 (one x)) ∧ w' = w) := rnumber_at (one x)
  generalize one x = y at *
  clear hx
  go_enter Tryd.func47, Tryd.ntmps47
  go_wp2_with (first | (go_at_call 72; refine (H1.out _).mono ?_; rintro e w' ⟨rfl, rfl⟩) | (go_at_call 75; refine (H2.out _).mono ?_; rintro e w' ⟨rfl, rfl⟩))
  refine bodyPost_ret (results_cell_row rfl _ _ w.heap.size 24 _ (0, 0) _ rfl (heap_alloc_new _ _) Tryd.underlying24 rfl infoValue) rfl ?_
  exact ⟨rfl, (Kp.refl _ _).alloc _⟩
/-- The zero content's cells. -/
abbrev zC21 : List Value := [.int .i64 0, .int .i64 0, .float .f64 0, .string ⟨#[]⟩, .bool false, .int .i64 0, .int .i64 0, .int .i64 0, .float .f64 0, .string ⟨#[]⟩, .bool false, .int .i64 0, .int .i64 0, .int .i64 0, .bool false, .bool false, .int .i64 0, .int .i64 0, .bool false, .bool false, .slice none 0 0]
theorem Blk.range {w : World} {b : Nat} {pre l post : List Value} {t : TypeId} (h : Blk w b (pre ++ l ++ post) t) : w.rangeAt b pre.length l := rangeAt_mid h
theorem Blk.all {w : World} {b : Nat} {l : List Value} {t : TypeId} (h : Blk w b l t) : w.rangeAt b 0 l := fun j v hj => by rw [Nat.zero_add]; exact h.cell hj
set_option maxRecDepth 20000 in
set_option maxHeartbeats 1500000 in
theorem rOwn_at (c : Ct) (sl : Value) (F : Nat → Prop) (w : World) (hm : c.t.size ≤ 1048576) (hin : NdIn w F sl c.t) :
    Calls Tryd.prog 13 #[c.val sl] w fun e w' => ∃ sl' fp, e = .returned (c.val sl') ∧ Own w' w.heap.size sl' c.t fp ∧ Below w.heap.size w w' := by
  have H2 : Hid (∀ wq, Below w.heap.size w wq → Calls Tryd.prog 44 #[c.t.hd.val sl] wq fun e w' => ∃ sl' fp, e = .returned (c.t.hd.val sl') ∧ Own w' wq.heap.size sl' c.t fp ∧ Below wq.heap.size wq w') :=
    fun wq hq => ownNode_any c.t.size c.t sl F wq (Nat.le_refl _) hm (hin.mono fun b hb hlt => ⟨hq.block b hlt, hb⟩)
  obtain ⟨k, ⟨vk, vx, vs, vb, vf⟩, t⟩ := c
  try simp only at *
  clear hin hm
  have b0 : Blk ((w.alloc (.cells (Ct.cells ⟨k, ⟨vk, vx, vs, vb, vf⟩, t⟩ sl).toArray 33)).alloc (.cells zC21.toArray 33)) w.heap.size (Ct.cells ⟨k, ⟨vk, vx, vs, vb, vf⟩, t⟩ sl) 33 := (Blk.new w _ _).alloc _
  have b1 : Blk ((w.alloc (.cells (Ct.cells ⟨k, ⟨vk, vx, vs, vb, vf⟩, t⟩ sl).toArray 33)).alloc (.cells zC21.toArray 33)) (w.heap.size + 1) zC21 33 := by
    have := Blk.new (w.alloc (.cells (Ct.cells ⟨k, ⟨vk, vx, vs, vb, vf⟩, t⟩ sl).toArray 33)) zC21 33
    rw [World.size_alloc] at this
    exact this
  have RF : Hid (((w.alloc (.cells (Ct.cells ⟨k, ⟨vk, vx, vs, vb, vf⟩, t⟩ sl).toArray 33)).alloc (.cells zC21.toArray 33)).rangeAt w.heap.size 6 (t.hd.cells sl)) := Blk.range (pre := [.int .i64 k, .int .i64 vk, .float .f64 vx, .string vs, .bool vb, .int .i64 vf]) (l := t.hd.cells sl) (post := []) b0
  have GW : Hid (Below w.heap.size w ((w.alloc (.cells (Ct.cells ⟨k, ⟨vk, vx, vs, vb, vf⟩, t⟩ sl).toArray 33)).alloc (.cells zC21.toArray 33))) := ((Below.refl _ _).alloc (Nat.le_refl _) _).alloc (by simp [World.size_alloc]) _
  have HB0 : Hid (Blk _ _ _ _) := b0
  have HB1 : Hid (Blk _ _ _ _) := b1
  clear b0 b1
  go_enter Tryd.func13, Tryd.ntmps13
  go_wp2_with (refine wpList_load_mid rfl 31 (.tmp 3) rfl w.heap.size 6 rfl (t.hd.cells sl) _ RF.out Tryd.underlying31 rfl infoNode ?_)
  refine (H2.out _ GW.out).mono ?_
  rintro e w2 ⟨sl', fp, rfl, hown, hbw⟩
  have hsz : w.heap.size + 1 < w2.heap.size := Nat.lt_of_lt_of_le HB1.out.lt hbw.size
  have e0 : Blk w2 w.heap.size (Ct.cells ⟨k, ⟨vk, vx, vs, vb, vf⟩, t⟩ sl) 33 := (hbw.block _ HB0.out.lt).trans HB0.out
  have e1 : Blk w2 (w.heap.size + 1) zC21 33 := (hbw.block _ HB1.out.lt).trans HB1.out
  have O1 : Hid (sl'.oneCell' = true) := hown.own.one
  have T0 : Hid (w2.there w.heap.size 6 15) := there_of_block e0 _ _ (by simp)
  obtain ⟨W3, hW3⟩ : ∃ W3, w2.setCells w.heap.size 6 (t.hd.cells sl') = W3 := ⟨_, rfl⟩
  have HW3 : Hid (w2.setCells w.heap.size 6 (t.hd.cells sl') = W3) := hW3
  have f0 : Blk W3 w.heap.size (Ct.cells ⟨k, ⟨vk, vx, vs, vb, vf⟩, t⟩ sl') 33 := by
    rw [← hW3]
    exact heap_setCells_mid (pre := [.int .i64 k, .int .i64 vk, .float .f64 vx, .string vs, .bool vb, .int .i64 vf]) (old := t.hd.cells sl) (new := t.hd.cells sl') (post := []) rfl e0
  have f1 : Blk W3 (w.heap.size + 1) zC21 33 := by rw [← hW3]; exact (heap_setCells_ne (by omega) _ _ _).trans e1
  have RC : Hid (W3.rangeAt w.heap.size 0 (Ct.cells ⟨k, ⟨vk, vx, vs, vb, vf⟩, t⟩ sl')) := f0.all
  have T1 : Hid (W3.there (w.heap.size + 1) 0 21) := there_of_block f1 _ _ (by simp)
  obtain ⟨W4, hW4⟩ : ∃ W4, W3.setCells (w.heap.size + 1) 0 (Ct.cells ⟨k, ⟨vk, vx, vs, vb, vf⟩, t⟩ sl') = W4 := ⟨_, rfl⟩
  have HW4 : Hid (W3.setCells (w.heap.size + 1) 0 (Ct.cells ⟨k, ⟨vk, vx, vs, vb, vf⟩, t⟩ sl') = W4) := hW4
  have L1 : Hid (W4.heap[w.heap.size + 1]? = some (.cells (Ct.cells ⟨k, ⟨vk, vx, vs, vb, vf⟩, t⟩ sl').toArray 33 (0, 0))) := by
    show _ = _
    rw [← hW4]
    exact heap_setCells_whole (cs := (Ct.cells ⟨k, ⟨vk, vx, vs, vb, vf⟩, t⟩ sl').toArray) f1 (by simp)
  have OW : Hid (Own W4 w.heap.size sl' t fp) := by
    refine ⟨hown.own.mono (fun b hb => ?_), hown.nodup, fun b hb => ?_⟩
    · have := (hown.new b hb).1
      simp only [World.size_alloc] at this
      rw [← hW4, heap_setCells_ne (by omega), ← hW3, heap_setCells_ne (by omega)]
    · have := (hown.new b hb).1
      simp only [World.size_alloc] at this
      rw [← hW4, size_setCells, ← hW3, size_setCells]
      exact ⟨by omega, (hown.new b hb).2⟩
  have BW : Hid (Below w.heap.size w W4) := by
    show Below _ _ _
    rw [← hW4]
    exact setCells_below (hW3 ▸ setCells_below (GW.out.trans (hbw.mono (by simp [World.size_alloc]; omega))) (Nat.le_refl _) _ _) (Nat.le_succ _) _ _
  clear hW3 hW4 hown hbw H2 HB0 HB1 GW RF e0 e1 f0 f1 hsz
  go_wp2_with (first | (refine wpList_store_to rfl 31 (.tmp 6) (.tmp 5) rfl w.heap.size 6 _ rfl rfl T0.out infoNode (t.hd.one O1.out) W3 HW3.out ?_) | (refine wpList_load_mid rfl 33 (.tmp 1) rfl w.heap.size 0 rfl (Ct.cells ⟨k, ⟨vk, vx, vs, vb, vf⟩, t⟩ sl') _ RC.out Tryd.underlying33 rfl infoContent ?_) | (refine wpList_store_to rfl 33 (.tmp 2) (.tmp 7) rfl (w.heap.size + 1) 0 _ rfl rfl T1.out infoContent (Ct.one ⟨k, ⟨vk, vx, vs, vb, vf⟩, t⟩ O1.out) W4 HW4.out ?_))
  refine bodyPost_ret (results_cell_row rfl _ _ (w.heap.size + 1) 33 _ (0, 0) _ rfl L1.out Tryd.underlying33 rfl infoContent) rfl ?_
  exact ⟨_, _, rfl, OW.out, BW.out⟩
end Go.Proofs.YtjmbmapanmbnhaaDoor
namespace Go.Proofs.YtjmbmapanmbnhaaDoor
open Go.RowKit

set_option maxRecDepth 20000 in
set_option maxHeartbeats 1500000 in
theorem rcCopy_at (c : Ct) (sl : Value) (F : Nat → Prop) (w : World) (hx : c.v.x < 18446744073709551616) (hm : c.t.size ≤ 1048576) (hok : c.t.ok) (hin : NdIn w F sl c.t) :
    Calls Tryd.prog 15 #[c.val sl] w fun e w' => ∃ sl' fp, e = .returned ((cpC c).val sl') ∧ Own w' w.heap.size sl' (cpC c).t fp ∧ Below w.heap.size w w' := by
  have HO : Hid (∀ wq, Below w.heap.size w wq → Calls Tryd.prog 13 #[c.val sl] wq fun e w' => ∃ sl' fp, e = .returned (c.val sl') ∧ Own w' wq.heap.size sl' c.t fp ∧ Below wq.heap.size wq w') :=
    fun wq hq => rOwn_at c sl F wq hm (hin.mono fun b hb hlt => ⟨hq.block b hlt, hb⟩)
  have H1 : Hid (∀ w, Calls Tryd.prog 47 #[.float .f64 c.v.x] w fun e w' => e = .returned (.agg #[.int .i64 1, .float .f64 (Go.Proofs.YtjmbmapanmbnhaaDoor.one c.v.x), .string ⟨#[]⟩, .bool false, .int .i64 0]) ∧ Kp w w' Nul) := rofNumber_at c.v.x hx
  have H2 : Hid (∀ wq, Below w.heap.size w wq → Calls Tryd.prog 48 #[c.t.hd.val sl] wq fun e w' => ∃ sl' fp, e = .returned ((cpy c.t).hd.val sl') ∧ Own w' wq.heap.size sl' (cpy c.t) fp ∧ Below wq.heap.size wq w') :=
    fun wq hq => rnCopy_any c.t.size c.t sl F wq (Nat.le_refl _) hm hok (hin.mono fun b hb hlt => ⟨hq.block b hlt, hb⟩)
  obtain ⟨k, ⟨vk, vx, vs, vb, vf⟩, t⟩ := c
  unfold cpC
  simp only at *
  generalize Go.Proofs.YtjmbmapanmbnhaaDoor.one vx = y at *
  generalize cpy t = u at *
  clear hin hok hx hm
  have b0 : Blk ((w.alloc (.cells (Ct.cells ⟨k, ⟨vk, vx, vs, vb, vf⟩, t⟩ sl).toArray 33)).alloc (.cells zC21.toArray 33)) w.heap.size (Ct.cells ⟨k, ⟨vk, vx, vs, vb, vf⟩, t⟩ sl) 33 := (Blk.new w _ _).alloc _
  have b1 : Blk ((w.alloc (.cells (Ct.cells ⟨k, ⟨vk, vx, vs, vb, vf⟩, t⟩ sl).toArray 33)).alloc (.cells zC21.toArray 33)) (w.heap.size + 1) zC21 33 := by
    have := Blk.new (w.alloc (.cells (Ct.cells ⟨k, ⟨vk, vx, vs, vb, vf⟩, t⟩ sl).toArray 33)) zC21 33
    rw [World.size_alloc] at this
    exact this
  have RF : Hid (((w.alloc (.cells (Ct.cells ⟨k, ⟨vk, vx, vs, vb, vf⟩, t⟩ sl).toArray 33)).alloc (.cells zC21.toArray 33)).rangeAt w.heap.size 0 (Ct.cells ⟨k, ⟨vk, vx, vs, vb, vf⟩, t⟩ sl)) := b0.all
  have GW : Hid (Below w.heap.size w ((w.alloc (.cells (Ct.cells ⟨k, ⟨vk, vx, vs, vb, vf⟩, t⟩ sl).toArray 33)).alloc (.cells zC21.toArray 33))) := ((Below.refl _ _).alloc (Nat.le_refl _) _).alloc (by simp [World.size_alloc]) _
  have HB0 : Hid (Blk _ _ _ _) := b0
  have HB1 : Hid (Blk _ _ _ _) := b1
  clear b0 b1
  go_enter Tryd.func15, Tryd.ntmps15
  go_wp2_with (refine wpList_load_mid rfl 33 (.tmp 1) rfl w.heap.size 0 rfl (Ct.cells ⟨k, ⟨vk, vx, vs, vb, vf⟩, t⟩ sl) _ RF.out Tryd.underlying33 rfl infoContent ?_)
  refine (HO.out _ GW.out).mono ?_
  rintro e w2 ⟨s2, f2, rfl, hown2, hbw2⟩
  have e0 : Blk w2 w.heap.size (Ct.cells ⟨k, ⟨vk, vx, vs, vb, vf⟩, t⟩ sl) 33 := (hbw2.block _ HB0.out.lt).trans HB0.out
  have e1 : Blk w2 (w.heap.size + 1) zC21 33 := (hbw2.block _ HB1.out.lt).trans HB1.out
  have O2 : Hid (s2.oneCell' = true) := hown2.own.one
  have cx : ∀ o, (w2.alloc o).cell? ⟨w.heap.size, 2, none⟩ = some (.float .f64 vx) := fun o => (e0.alloc o).cell rfl
  have GW2 : Hid (Below w.heap.size w w2) := GW.out.trans (hbw2.mono (by simp [World.size_alloc]; omega))
  have HE0 : Hid (Blk w2 w.heap.size (Ct.cells ⟨k, ⟨vk, vx, vs, vb, vf⟩, t⟩ sl) 33) := e0
  have HE1 : Hid (Blk w2 (w.heap.size + 1) zC21 33) := e1
  have hlt2 : w.heap.size + 1 < w2.heap.size := e1.lt
  clear hown2 hbw2 HO RF GW HB0 HB1 e0 e1
  go_wp2_with (refine wpList_store_new rfl 33 (.tmp 3) (.tmp 6) rfl _ _ _ _ _ (by first | rfl | simp) rfl rfl rfl infoContent (Ct.one ⟨k, ⟨vk, vx, vs, vb, vf⟩, t⟩ O2.out) ?_)
  refine (H1.out _).mono ?_
  rintro e w3 ⟨rfl, hk3⟩
  have HB2 : Hid (Below w.heap.size w w3) := (GW2.out.alloc (by have := GW2.out.size; omega) _).trans ((Kp.below hk3).mono (by rw [World.size_alloc]; have := GW2.out.size; omega))
  have d0 : Blk w3 w.heap.size (Ct.cells ⟨k, ⟨vk, vx, vs, vb, vf⟩, t⟩ sl) 33 := (HE0.out.alloc _).kp hk3 (fun x => x)
  have d1 : Blk w3 (w.heap.size + 1) zC21 33 := (HE1.out.alloc _).kp hk3 (fun x => x)
  have d2 : Blk w3 w2.heap.size (Ct.cells ⟨k, ⟨vk, vx, vs, vb, vf⟩, t⟩ s2) 33 := (Blk.new w2 (Ct.cells ⟨k, ⟨vk, vx, vs, vb, vf⟩, t⟩ s2) _).kp hk3 (fun x => x)
  have c2 : ∀ o, (w3.alloc o).cell? ⟨w2.heap.size, 2, none⟩ = some (.float .f64 vx) := fun o => (d2.alloc o).cell rfl
  have f2 : ∀ o, (w3.alloc o).frozen? ⟨w2.heap.size, 2, none⟩ = false := fun o => (d2.alloc o).froz _
  generalize hB3 : w2.heap.size = B3 at *
  have HL3 : Hid (w.heap.size + 1 < B3 ∧ B3 < w3.heap.size) := ⟨by omega, d2.lt⟩
  have g0 : ∀ o, Blk ((w3.alloc o).setCell ⟨B3, 2, none⟩ (.float .f64 y)) w.heap.size (Ct.cells ⟨k, ⟨vk, vx, vs, vb, vf⟩, t⟩ sl) 33 := fun o => (d0.alloc o).other _ _ (by show w.heap.size ≠ B3; omega)
  have g1 : ∀ o, Blk ((w3.alloc o).setCell ⟨B3, 2, none⟩ (.float .f64 y)) (w.heap.size + 1) zC21 33 := fun o => (d1.alloc o).other _ _ (by show w.heap.size + 1 ≠ B3; omega)
  have g2 : ∀ o, Blk ((w3.alloc o).setCell ⟨B3, 2, none⟩ (.float .f64 y)) B3 (Ct.cells ⟨k, ⟨vk, y, vs, vb, vf⟩, t⟩ s2) 33 := fun o => (d2.alloc o).set 2 _
  have RF4 : Hid (∀ o, ((w3.alloc o).setCell ⟨B3, 2, none⟩ (.float .f64 y)).rangeAt w.heap.size 6 (t.hd.cells sl)) := fun o => Blk.range (pre := [.int .i64 k, .int .i64 vk, .float .f64 vx, .string vs, .bool vb, .int .i64 vf]) (l := t.hd.cells sl) (post := []) (g0 o)
  have GW4 : Hid (∀ o, Below w.heap.size w ((w3.alloc o).setCell ⟨B3, 2, none⟩ (.float .f64 y))) := fun o => (HB2.out.alloc HB2.out.size _).setCell (by show w.heap.size ≤ B3; omega) _
  have G1 : Hid (∀ o, Blk ((w3.alloc o).setCell ⟨B3, 2, none⟩ (.float .f64 y)) (w.heap.size + 1) zC21 33) := g1
  have G2 : Hid (∀ o, Blk ((w3.alloc o).setCell ⟨B3, 2, none⟩ (.float .f64 y)) B3 (Ct.cells ⟨k, ⟨vk, y, vs, vb, vf⟩, t⟩ s2) 33) := g2
  clear hk3 d0 d1 d2 g0 g1 g2 GW2 HE0 HE1 H1 HB2 cx hlt2 hB3
  go_wp2_with (refine wpList_load_mid rfl 31 (.tmp 15) rfl w.heap.size 6 rfl (t.hd.cells sl) _ (RF4.out _) Tryd.underlying31 rfl infoNode ?_)
  refine (H2.out _ (GW4.out _)).mono ?_
  rintro e w5 ⟨sl', fp, rfl, hown, hbw⟩
  have e2 : Blk w5 B3 (Ct.cells ⟨k, ⟨vk, y, vs, vb, vf⟩, t⟩ s2) 33 := (hbw.block _ (G2.out _).lt).trans (G2.out _)
  have e1 : Blk w5 (w.heap.size + 1) zC21 33 := (hbw.block _ (G1.out _).lt).trans (G1.out _)
  have hfp : ∀ b ∈ fp, B3 < b := fun b hb => Nat.lt_of_lt_of_le (G2.out _).lt (hown.new b hb).1
  have hl3 := HL3.out
  have O1 : Hid (sl'.oneCell' = true) := hown.own.one
  have T0 : Hid (w5.there B3 6 15) := there_of_block e2 _ _ (by simp)
  have GW5 : Below w.heap.size w w5 := (GW4.out _).trans (hbw.mono (GW4.out _).size)
  obtain ⟨W6, hW6⟩ : ∃ W6, w5.setCells B3 6 (u.hd.cells sl') = W6 := ⟨_, rfl⟩
  have HW6 : Hid (w5.setCells B3 6 (u.hd.cells sl') = W6) := hW6
  have f0 : Blk W6 B3 (Ct.cells ⟨k, ⟨vk, y, vs, vb, vf⟩, u⟩ sl') 33 := by
    rw [← hW6]
    exact heap_setCells_mid (pre := [.int .i64 k, .int .i64 vk, .float .f64 y, .string vs, .bool vb, .int .i64 vf]) (old := t.hd.cells s2) (new := u.hd.cells sl') (post := []) rfl e2
  have f1 : Blk W6 (w.heap.size + 1) zC21 33 := by rw [← hW6]; exact (heap_setCells_ne (by omega) _ _ _).trans e1
  have RC : Hid (W6.rangeAt B3 0 (Ct.cells ⟨k, ⟨vk, y, vs, vb, vf⟩, u⟩ sl')) := f0.all
  have T1 : Hid (W6.there (w.heap.size + 1) 0 21) := there_of_block f1 _ _ (by simp)
  obtain ⟨W7, hW7⟩ : ∃ W7, W6.setCells (w.heap.size + 1) 0 (Ct.cells ⟨k, ⟨vk, y, vs, vb, vf⟩, u⟩ sl') = W7 := ⟨_, rfl⟩
  have HW7 : Hid (W6.setCells (w.heap.size + 1) 0 (Ct.cells ⟨k, ⟨vk, y, vs, vb, vf⟩, u⟩ sl') = W7) := hW7
  have L1 : Hid (W7.heap[w.heap.size + 1]? = some (.cells (Ct.cells ⟨k, ⟨vk, y, vs, vb, vf⟩, u⟩ sl').toArray 33 (0, 0))) := by
    show _ = _
    rw [← hW7]
    exact heap_setCells_whole (cs := (Ct.cells ⟨k, ⟨vk, y, vs, vb, vf⟩, u⟩ sl').toArray) f1 (by simp)
  have OW : Hid (Own W7 w.heap.size sl' u fp) := by
    refine ⟨hown.own.mono (fun b hb => ?_), hown.nodup, fun b hb => ?_⟩
    · have := hfp b hb
      rw [← hW7, heap_setCells_ne (by omega), ← hW6, heap_setCells_ne (by omega)]
    · have := hfp b hb
      rw [← hW7, size_setCells, ← hW6, size_setCells]
      exact ⟨by omega, (hown.new b hb).2⟩
  have BW : Hid (Below w.heap.size w W7) := by
    show Below _ _ _
    rw [← hW7]
    exact setCells_below (hW6 ▸ setCells_below GW5 (by omega) _ _) (Nat.le_succ _) _ _
  clear hW6 hW7 hown hbw H2 G1 G2 GW4 GW5 RF4 e1 e2 f0 f1 hfp hl3 c2 f2
  go_wp2_with (first | (refine wpList_store_to rfl 31 (.tmp 18) (.tmp 17) rfl B3 6 _ rfl rfl T0.out infoNode (u.hd.one O1.out) W6 HW6.out ?_) | (refine wpList_load_mid rfl 33 (.tmp 3) rfl B3 0 rfl (Ct.cells ⟨k, ⟨vk, y, vs, vb, vf⟩, u⟩ sl') _ RC.out Tryd.underlying33 rfl infoContent ?_) | (refine wpList_store_to rfl 33 (.tmp 2) (.tmp 19) rfl (w.heap.size + 1) 0 _ rfl rfl T1.out infoContent (Ct.one ⟨k, ⟨vk, y, vs, vb, vf⟩, u⟩ O1.out) W7 HW7.out ?_))
  refine bodyPost_ret (results_cell_row rfl _ _ (w.heap.size + 1) 33 _ (0, 0) _ rfl L1.out Tryd.underlying33 rfl infoContent) rfl ?_
  exact ⟨_, _, rfl, OW.out, BW.out⟩
end Go.Proofs.YtjmbmapanmbnhaaDoor
