/- bare tells what it should; so the document's Valid of a content is the program's. GridContents: the walk. -/
import Derived.Test.YtjmbmapanmbnhaaDoorH38
import Derived.Test.YtjmbmapanmbnhaaDoorH39
import Derived.Test.YtjmbmapanmbnhaaDoorH40
import Derived.Test.YtjmbmapanmbnhaaDoorH41
import Derived.Test.YtjmbmapanmbnhaaDoorH42
import Derived.Test.YtjmbmapanmbnhaaDoorH25
import Derived.Test.YtjmbmapanmbnhaaDoorH27
import Derived.Test.YtjmbmapanmbnhaaDoorH35
import Derived.Test.YtjmbmapanmbnhaaDoorH37
import Derived.Test.YtjmbmapanmbnhaaDoorH23
import Derived.Deep.QuietTactic
namespace Go.Proofs.YtjmbmapanmbnhaaDoor
open Go.RowKit Go.Lib

theorem bares : BaresAll := ⟨rbare_2, rbare_4, rbare_8, rbare_16, rbare_32, rbare_96, rbare_129, rbare_132⟩
/-- The document's Valid: as grid.Valid (gv). -/
theorem rgv_at (c : Ct) (sl : Value) (F : Nat → Prop) (w : World) (hsz : c.t.size ≤ 1048576) (hok : c.t.ok) (htx : c.t.txt) (hs : c.v.s.size ≤ 140737488355328) (hin : NdIn w F sl c.t) :
    Calls Tryd.prog 10 #[c.val sl] w fun e w' => e = .returned (.bool (validC c (validD c.v.s.data.toList) (chk c.t))) ∧ Kp w w' Nul :=
  rcValid_at c sl F (chk c.t) w hin hs (fun wq hq => rcheck_at bares c.t sl F wq hsz hok htx (hin.kp hq (fun _ _ x => x)))
end Go.Proofs.YtjmbmapanmbnhaaDoor
namespace Go.Proofs.YtjmbmapanmbnhaaDoor
open Go.RowKit Go.Maps

section
variable {ops : Array Oper} {C : World → Prop} {Q : Act → Prop} {o : Oper} {rest : List Oper} {a : Act}
/-- In a region that draws its order: a content loaded whole. -/
theorem quiet_load_content (hgd : o.guard = none) (x : Operand) (ho : o.op = .load 33 x) (g : Nat) (hx : a.eval x = .pointer (some ⟨g, 0, none⟩)) (cs : Array Value) (hC : ∀ w, C w → w.heap[g]? = some (.cells cs 33 (0, 0))) (hcs : cs.size = 21)
    (h : wpQuiet Tryd.prog ops C Q rest (a.put o.dst (.agg cs))) : wpQuiet Tryd.prog ops C Q (o :: rest) a := by
  refine wpQuiet_step fun K hK => ?_
  simp only [Region.wanted, hgd, if_true]
  refine ⟨.agg cs, fun w hw => ?_, hK _ h⟩
  unfold Oper.quietAt
  rw [exec_load_content cs ho hx (hC w hw) hcs]
  exact ⟨rfl, rfl⟩
theorem wp_region_kp {id : Nat} {Q : Exit → Act → World → Prop} {a : Act} {W w : World} {l : List Oper} (hw : Kp W w Nul) (hm : Tryd.prog.follows .mixedOrders = true) (hB : Region.lexB .any l.toArray = true)
    (h : wpQuiet Tryd.prog l.toArray (fun w' => Kp W w' Nul) (fun a' => ∀ w', Kp W w' Nul → Q .normal a' w') l a) : (Code.region id l.toArray true).wp Tryd.prog Q a w :=
  wp_region_quiet (C := fun w' => Kp W w' Nul) hm hB hw.drew (by simpa using h)
end
set_option maxRecDepth 20000 in
set_option maxHeartbeats 20000000 in
theorem contents17 (ca cb : Ct) (sl sl2 : Value) (w : World) (h1 : Cn w ca sl) (h2 : Cn w cb sl2) (htx : ca.t.txt) (hs : ca.v.s.size ≤ 140737488355328) (hv : VS w) :
    Calls Tryd.prog 3 #[ca.val sl, cb.val sl2] w fun e w' => e = .returned (.bool true) ∧ Kp w w' Nul := by
  obtain ⟨W1, hW1⟩ : ∃ W1, (w.alloc (.cells (ca.cells sl).toArray 33)).alloc (.cells (cb.cells sl2).toArray 33) = W1 := ⟨_, rfl⟩
  have k1 : Kp w W1 Nul := by rw [← hW1]; exact ((Kp.refl w Nul).alloc _).alloc _
  have hC1 : Blk W1 w.heap.size (ca.cells sl) 33 := by rw [← hW1]; exact (Blk.new w (ca.cells sl) _).alloc _
  have hD1 : Blk W1 (w.heap.size + 1) (cb.cells sl2) 33 := by
    have := Blk.new (w.alloc (.cells (ca.cells sl).toArray 33)) (cb.cells sl2) 33
    rw [World.size_alloc] at this
    rw [← hW1]; exact this
  have HW1 : Hid ((w.alloc (.cells #[.int .i64 ca.k, .int .i64 ca.v.k, .float .f64 ca.v.x, .string ca.v.s, .bool ca.v.b, .int .i64 ca.v.f, .int .i64 ca.t.hd.k, .int .i64 ca.t.hd.o, .float .f64 ca.t.hd.x, .string ca.t.hd.s, .bool ca.t.hd.b, .int .i64 ca.t.hd.f, .int .i64 ca.t.hd.c1, .int .i64 ca.t.hd.r1, .bool ca.t.hd.p1, .bool ca.t.hd.q1, .int .i64 ca.t.hd.c2, .int .i64 ca.t.hd.r2, .bool ca.t.hd.p2, .bool ca.t.hd.q2, sl] 33)).alloc (.cells #[.int .i64 cb.k, .int .i64 cb.v.k, .float .f64 cb.v.x, .string cb.v.s, .bool cb.v.b, .int .i64 cb.v.f, .int .i64 cb.t.hd.k, .int .i64 cb.t.hd.o, .float .f64 cb.t.hd.x, .string cb.t.hd.s, .bool cb.t.hd.b, .int .i64 cb.t.hd.f, .int .i64 cb.t.hd.c1, .int .i64 cb.t.hd.r1, .bool cb.t.hd.p1, .bool cb.t.hd.q1, .int .i64 cb.t.hd.c2, .int .i64 cb.t.hd.r2, .bool cb.t.hd.p2, .bool cb.t.hd.q2, sl2] 33) = W1) := hW1
  have HAw : Hid (Calls Tryd.prog 7 #[] W1 fun e w' => e = .returned (.bool true) ∧ Kp W1 w' Nul) := awake17 W1
  have HHa : Hid (∀ wq, Kp w wq Nul → Calls Tryd.prog 8 #[ca.val sl] wq fun e w' => e = .returned (.bool (decide (1048576 < ca.t.size))) ∧ Kp wq w' Nul) := fun wq k => (heavy_at ca sl (fun _ => True) wq (h1.inn.kp k (fun _ _ x => x))).mono fun e w' ⟨q1, q2⟩ => ⟨q1, Kp.of_gr q2⟩
  have HHb : Hid (∀ wq, Kp w wq Nul → Calls Tryd.prog 8 #[cb.val sl2] wq fun e w' => e = .returned (.bool (decide (1048576 < cb.t.size))) ∧ Kp wq w' Nul) := fun wq k => (heavy_at cb sl2 (fun _ => True) wq (h2.inn.kp k (fun _ _ x => x))).mono fun e w' ⟨q1, q2⟩ => ⟨q1, Kp.of_gr q2⟩
  have HVa : Hid (∀ wq, Kp W1 wq Nul → Calls Tryd.prog 9 #[ca.val sl] wq fun e w' => e = .returned (.bool (gv ca)) ∧ Kp W1 w' Nul) := fun wq k => (gv_at ca sl (fun _ => True) wq h1.ok (h1.inn.kp (k1.trans k) (fun _ _ x => x)) (hv.kp (k1.trans k))).mono fun e w' ⟨q1, q2⟩ => ⟨q1, k.trans q2⟩
  have HRa : Hid (ca.t.size ≤ 1048576 → ∀ wq, Kp W1 wq Nul → Calls Tryd.prog 10 #[ca.val sl] wq fun e w' => e = .returned (.bool (gv ca)) ∧ Kp W1 w' Nul) := fun hz wq k => (rgv_at ca sl (fun _ => True) wq hz h1.ok htx hs (h1.inn.kp (k1.trans k) (fun _ _ x => x))).mono fun e w' ⟨q1, q2⟩ => ⟨q1, k.trans q2⟩
  have HGs : Hid (∀ wq, Kp W1 wq Nul → Calls Tryd.prog 11 #[ca.val sl, cb.val sl2] wq fun e w' => e = .returned (.bool (csame ca cb)) ∧ Kp W1 w' Nul) := fun wq k => (gSame_at ca cb sl sl2 (fun _ => True) (fun _ => True) wq h1.vx h2.vx h1.ok h2.ok (h1.inn.kp (k1.trans k) (fun _ _ x => x)) (h2.inn.kp (k1.trans k) (fun _ _ x => x))).mono fun e w' ⟨q1, q2⟩ => ⟨q1, k.trans q2⟩
  have HRs : Hid (∀ wq, Kp W1 wq Nul → Calls Tryd.prog 12 #[ca.val sl, cb.val sl2] wq fun e w' => e = .returned (.bool (csame ca cb)) ∧ Kp W1 w' Nul) := fun wq k => (rcSame_at ca cb sl sl2 (fun _ => True) (fun _ => True) wq h1.vx h2.vx h1.ok h2.ok (h1.inn.kp (k1.trans k) (fun _ _ x => x)) (h2.inn.kp (k1.trans k) (fun _ _ x => x))).mono fun e w' ⟨q1, q2⟩ => ⟨q1, k.trans q2⟩
  have HK1 : Hid (Kp w W1 Nul) := k1
  have HC : Hid (∀ wq, Kp W1 wq Nul → wq.heap[w.heap.size]? = some (.cells (ca.cells sl).toArray 33 (0, 0))) := fun wq k => hC1.kp k (fun x => x)
  have HD : Hid (∀ wq, Kp W1 wq Nul → wq.heap[w.heap.size + 1]? = some (.cells (cb.cells sl2).toArray 33 (0, 0))) := fun wq k => hD1.kp k (fun x => x)
  have H1 : Hid (Cn w ca sl) := h1
  generalize gv ca = V1 at *
  generalize csame ca cb = V2 at *
  clear hW1 k1 hC1 hD1 h1 h2 hv htx hs
  go_enter Tryd.func3, Tryd.ntmps3
  go_wp2_with fail
  rw [HW1.out]
  refine HAw.out.mono ?_
  rintro e w1 ⟨rfl, hk1⟩
  have HK2 : Hid (Kp W1 w1 Nul) := hk1
  clear hk1 HAw HW1
  go_wp2_with (first | (refine load_content_law rfl (.tmp 2) rfl w.heap.size rfl _ (HC.out _ HK2.out) rfl ?_) | fail)
  refine (HHa.out _ (HK1.out.trans HK2.out)).mono ?_
  rintro e w3 ⟨rfl, hk3⟩
  have HK3 : Hid (Kp W1 w3 Nul) := HK2.out.trans hk3
  clear hk3 HHa HK2
  by_cases b1 : 1048576 < ca.t.size
  · rw [decide_eq_true b1]
    go_wp2_with fail
    go_ret
    exact ⟨rfl, HK1.out.trans HK3.out⟩
  rw [decide_eq_false b1]
  go_wp2_with (first | (refine load_content_law rfl (.tmp 3) rfl (w.heap.size + 1) rfl _ (HD.out _ HK3.out) rfl ?_) | fail)
  refine (HHb.out _ (HK1.out.trans HK3.out)).mono ?_
  rintro e w4 ⟨rfl, hk4⟩
  have HK4 : Hid (Kp W1 w4 Nul) := HK3.out.trans hk4
  clear hk4 HHb HK3
  by_cases b2 : 1048576 < cb.t.size
  · rw [decide_eq_true b2]
    go_wp2_with fail
    go_ret
    exact ⟨rfl, HK1.out.trans HK4.out⟩
  rw [decide_eq_false b2]
  have HRa' := HRa.out (by omega)
  have HRA : Hid (∀ wq, Kp W1 wq Nul → Calls Tryd.prog 10 #[ca.val sl] wq fun e w' => e = .returned (.bool V1) ∧ Kp W1 w' Nul) := HRa'
  have HZ : Hid (ca.t.size ≤ 1048576) := by show _ ≤ _; omega
  clear HRa HRa' b1 b2
  go_wp2_with fail
  refine wp_region_kp (W := W1) HK4.out (by kernel_rfl) (by kernel_rfl) ?_
  refine quiet_load_content rfl (.tmp 2) rfl w.heap.size rfl _ HC.out rfl ?_
  simp only [Act.put, List.setIfInBounds_toArray, List.set_cons_zero, List.set_cons_succ]
  refine wpQuiet_step (fun K hK => ?_)
  go_simp
  refine ⟨_, fun w' hk => HVa.out w' hk, hK _ ?_⟩
  clear hK K
  refine quiet_load_content rfl (.tmp 2) rfl w.heap.size rfl _ HC.out rfl ?_
  simp only [Act.put, List.setIfInBounds_toArray, List.set_cons_zero, List.set_cons_succ]
  refine wpQuiet_step (fun K hK => ?_)
  go_simp
  refine ⟨_, fun w' hk => HRA.out w' hk, hK _ ?_⟩
  clear hK K
  refine wpQuiet_step (fun K hK => ?_)
  go_simp
  refine ⟨_, fun _ _ => rfl, hK _ ?_⟩
  clear hK K
  refine wpQuiet_step (fun K hK => ?_)
  go_simp
  refine ⟨_, fun _ _ => rfl, hK _ ?_⟩
  clear hK K
  refine wpQuiet_nil ?_
  intro w5 hk5
  have HK5 : Hid (Kp W1 w5 Nul) := hk5
  clear hk5 HK4 HVa HRA
  go_wp2_with fail
  refine wp_region_kp (W := W1) HK5.out (by kernel_rfl) (by kernel_rfl) ?_
  refine quiet_load_content rfl (.tmp 2) rfl w.heap.size rfl _ HC.out rfl ?_
  simp only [Act.put, List.setIfInBounds_toArray, List.set_cons_zero, List.set_cons_succ]
  refine quiet_load_content rfl (.tmp 3) rfl (w.heap.size + 1) rfl _ HD.out rfl ?_
  simp only [Act.put, List.setIfInBounds_toArray, List.set_cons_zero, List.set_cons_succ]
  refine wpQuiet_step (fun K hK => ?_)
  go_simp
  refine ⟨_, fun w' hk => HGs.out w' hk, hK _ ?_⟩
  clear hK K
  refine quiet_load_content rfl (.tmp 2) rfl w.heap.size rfl _ HC.out rfl ?_
  simp only [Act.put, List.setIfInBounds_toArray, List.set_cons_zero, List.set_cons_succ]
  refine quiet_load_content rfl (.tmp 3) rfl (w.heap.size + 1) rfl _ HD.out rfl ?_
  simp only [Act.put, List.setIfInBounds_toArray, List.set_cons_zero, List.set_cons_succ]
  refine wpQuiet_step (fun K hK => ?_)
  go_simp
  refine ⟨_, fun w' hk => HRs.out w' hk, hK _ ?_⟩
  clear hK K
  refine wpQuiet_step (fun K hK => ?_)
  go_simp
  refine ⟨_, fun _ _ => rfl, hK _ ?_⟩
  clear hK K
  refine wpQuiet_step (fun K hK => ?_)
  go_simp
  refine ⟨_, fun _ _ => rfl, hK _ ?_⟩
  clear hK K
  refine wpQuiet_nil ?_
  intro w6 hk6
  have HK6 : Hid (Kp W1 w6 Nul) := hk6
  have HKW : Hid (Kp w w6 Nul) := HK1.out.trans hk6
  have hA6 : Blk w6 w.heap.size (ca.cells sl) 33 := HC.out _ hk6
  have HA : Hid (Blk w6 w.heap.size (ca.cells sl) 33) := hA6
  have HOwn : Hid (Calls Tryd.prog 13 #[ca.val sl] w6 fun e w' => ∃ sl' fp, e = .returned (ca.val sl') ∧ Own w' w6.heap.size sl' ca.t fp ∧ Below w6.heap.size w6 w') := rOwn_at ca sl (fun _ => True) w6 HZ.out (H1.out.inn.kp HKW.out (fun _ _ x => x))
  clear hk6 hA6 HK5 HGs HRs HD HC HK1 HK6
  -- own
  go_wp2_with (refine load_content_law rfl (.tmp 2) rfl w.heap.size rfl _ HA.out rfl ?_)
  refine HOwn.out.mono ?_
  rintro e w7 ⟨so, fo, rfl, ow7, bw7⟩
  have OW7 : Hid (Own w7 w6.heap.size so ca.t fo) := ow7
  have BW7 : Hid (Below w6.heap.size w6 w7) := bw7
  have OS : Hid (so.oneCell' = true) := ow7.own.one
  clear ow7 bw7 HOwn
  have HCp : Hid (∀ wq, Below w7.heap.size w7 wq → Calls Tryd.prog 14 #[ca.val so] wq fun e w' => ∃ sl' fp, e = .returned ((cpC ca).val sl') ∧ Own w' wq.heap.size sl' (cpC ca).t fp ∧ Below wq.heap.size wq w') := fun wq hq => gCopy_at ca so _ wq H1.out.vx HZ.out H1.out.ok (OW7.out.below hq).isIn
  have HRc : Hid (∀ wq, Kp w wq Nul → Calls Tryd.prog 15 #[ca.val sl] wq fun e w' => ∃ sl' fp, e = .returned ((cpC ca).val sl') ∧ Own w' wq.heap.size sl' (cpC ca).t fp ∧ Below wq.heap.size wq w') := fun wq hq => rcCopy_at ca sl (fun _ => True) wq H1.out.vx HZ.out H1.out.ok (H1.out.inn.kp hq (fun _ _ x => x))
  have HZ2 : Hid ((cpC ca).t.size ≤ 1048576) := by show _ ≤ _; unfold cpC; rw [cpy_size]; exact HZ.out
  generalize cpC ca = cc at *
  go_wp2_with (first | (refine wpList_store_new rfl 33 (.tmp 8) (.tmp 36) rfl _ _ _ _ _ (by first | rfl | simp) rfl rfl rfl infoContent (ca.one OS.out) ?_) | (refine load_content_law rfl (.tmp 8) rfl w7.heap.size rfl (ca.cells so).toArray (Blk.new w7 (ca.cells so) _) rfl ?_))
  obtain ⟨w7a, hw7a⟩ : ∃ w7a, w7.alloc (.cells (ca.cells so).toArray 33) = w7a := ⟨_, rfl⟩
  have B7 : Hid (Below w7.heap.size w7 w7a ∧ w7a.heap.size = w7.heap.size + 1 ∧ Blk w7a w7.heap.size (ca.cells so) 33) := by
    rw [← hw7a]
    exact ⟨(Below.refl _ _).alloc (Nat.le_refl _) _, by rw [World.size_alloc], Blk.new w7 _ _⟩
  have HCa := HCp.out _ B7.out.1
  have HWa : Hid (w7.alloc (.cells #[.int .i64 ca.k, .int .i64 ca.v.k, .float .f64 ca.v.x, .string ca.v.s, .bool ca.v.b, .int .i64 ca.v.f, .int .i64 ca.t.hd.k, .int .i64 ca.t.hd.o, .float .f64 ca.t.hd.x, .string ca.t.hd.s, .bool ca.t.hd.b, .int .i64 ca.t.hd.f, .int .i64 ca.t.hd.c1, .int .i64 ca.t.hd.r1, .bool ca.t.hd.p1, .bool ca.t.hd.q1, .int .i64 ca.t.hd.c2, .int .i64 ca.t.hd.r2, .bool ca.t.hd.p2, .bool ca.t.hd.q2, so] 33) = w7a) := hw7a
  rw [HWa.out]
  clear hw7a HWa
  -- x
  refine HCa.mono ?_
  rintro e w8 ⟨sx, fx, rfl, ow8, bw8⟩
  have OW8 : Hid (Own w8 w7a.heap.size sx cc.t fx) := ow8
  have BW8 : Hid (Below w7a.heap.size w7a w8) := bw8
  have OX : Hid (sx.oneCell' = true) := ow8.own.one
  clear ow8 bw8 HCa
  have L8 : Hid (∀ o, (w8.alloc o).heap[w7.heap.size]? = some (.cells (ca.cells so).toArray 33 (0, 0))) := fun o => Blk.alloc (w := w8) (b := w7.heap.size) (cs := ca.cells so) ((BW8.out.block _ (by rw [B7.out.2.1]; omega)).trans B7.out.2.2) o
  go_wp2_with (first | (refine wpList_store_new rfl 33 (.tmp 9) (.tmp 38) rfl _ _ _ _ _ (by first | rfl | simp) rfl rfl rfl infoContent (cc.one OX.out) ?_) | (refine load_content_law rfl (.tmp 8) rfl w7.heap.size rfl (ca.cells so).toArray (L8.out _) rfl ?_))
  obtain ⟨w8a, hw8a⟩ : ∃ w8a, w8.alloc (.cells (cc.cells sx).toArray 33) = w8a := ⟨_, rfl⟩
  have B8 : Hid (Below w8.heap.size w8 w8a ∧ w8a.heap.size = w8.heap.size + 1 ∧ Blk w8a w8.heap.size (cc.cells sx) 33) := by
    rw [← hw8a]
    exact ⟨(Below.refl _ _).alloc (Nat.le_refl _) _, by rw [World.size_alloc], Blk.new w8 _ _⟩
  have s78 : Hid (w7.heap.size ≤ w7a.heap.size ∧ w7a.heap.size ≤ w8.heap.size) := ⟨B7.out.1.size, BW8.out.size⟩
  have HCa := HCp.out w8a ((B7.out.1.trans (BW8.out.mono s78.out.1)).trans (B8.out.1.mono (Nat.le_trans s78.out.1 s78.out.2)))
  have HWa : Hid (w8.alloc (.cells #[.int .i64 cc.k, .int .i64 cc.v.k, .float .f64 cc.v.x, .string cc.v.s, .bool cc.v.b, .int .i64 cc.v.f, .int .i64 cc.t.hd.k, .int .i64 cc.t.hd.o, .float .f64 cc.t.hd.x, .string cc.t.hd.s, .bool cc.t.hd.b, .int .i64 cc.t.hd.f, .int .i64 cc.t.hd.c1, .int .i64 cc.t.hd.r1, .bool cc.t.hd.p1, .bool cc.t.hd.q1, .int .i64 cc.t.hd.c2, .int .i64 cc.t.hd.r2, .bool cc.t.hd.p2, .bool cc.t.hd.q2, sx] 33) = w8a) := hw8a
  rw [HWa.out]
  clear hw8a HWa L8
  -- y
  refine HCa.mono ?_
  rintro e w9 ⟨sy, fy, rfl, ow9, bw9⟩
  have OW9 : Hid (Own w9 w8a.heap.size sy cc.t fy) := ow9
  have BW9 : Hid (Below w8a.heap.size w8a w9) := bw9
  have OY : Hid (sy.oneCell' = true) := ow9.own.one
  clear ow9 bw9 HCa HCp
  have s67 : Hid (w.heap.size + 1 < w6.heap.size + 1 ∧ w6.heap.size ≤ w7.heap.size) := ⟨by have := HA.out.lt; omega, BW7.out.size⟩
  have s89 : Hid (w8.heap.size ≤ w8a.heap.size ∧ w8a.heap.size ≤ w9.heap.size) := ⟨B8.out.1.size, BW9.out.size⟩
  have B69 : Hid (Below w6.heap.size w6 w9) := by
    have a1 := s78.out; have a2 := s67.out; have a3 := s89.out
    exact (((BW7.out.trans (B7.out.1.mono (by omega))).trans (BW8.out.mono (by omega))).trans (B8.out.1.mono (by omega))).trans (BW9.out.mono (by omega))
  have L9 : Hid (∀ o, (w9.alloc o).heap[w.heap.size]? = some (.cells (ca.cells sl).toArray 33 (0, 0))) := fun o => Blk.alloc (w := w9) (b := w.heap.size) (cs := ca.cells sl) ((B69.out.block _ HA.out.lt).trans HA.out) o
  go_wp2_with (first | (refine wpList_store_new rfl 33 (.tmp 10) (.tmp 40) rfl _ _ _ _ _ (by first | rfl | simp) rfl rfl rfl infoContent (cc.one OY.out) ?_) | (refine load_content_law rfl (.tmp 2) rfl w.heap.size rfl (ca.cells sl).toArray (L9.out _) rfl ?_))
  obtain ⟨w9a, hw9a⟩ : ∃ w9a, w9.alloc (.cells (cc.cells sy).toArray 33) = w9a := ⟨_, rfl⟩
  have B9 : Hid (Below w9.heap.size w9 w9a ∧ w9a.heap.size = w9.heap.size + 1 ∧ Blk w9a w9.heap.size (cc.cells sy) 33) := by
    rw [← hw9a]
    exact ⟨(Below.refl _ _).alloc (Nat.le_refl _) _, by rw [World.size_alloc], Blk.new w9 _ _⟩
  have B69a : Hid (Below w6.heap.size w6 w9a) := B69.out.trans (B9.out.1.mono B69.out.size)
  have HCa := HRc.out w9a (HKW.out.trans (Kp.of_below B69a.out))
  have HWa : Hid (w9.alloc (.cells #[.int .i64 cc.k, .int .i64 cc.v.k, .float .f64 cc.v.x, .string cc.v.s, .bool cc.v.b, .int .i64 cc.v.f, .int .i64 cc.t.hd.k, .int .i64 cc.t.hd.o, .float .f64 cc.t.hd.x, .string cc.t.hd.s, .bool cc.t.hd.b, .int .i64 cc.t.hd.f, .int .i64 cc.t.hd.c1, .int .i64 cc.t.hd.r1, .bool cc.t.hd.p1, .bool cc.t.hd.q1, .int .i64 cc.t.hd.c2, .int .i64 cc.t.hd.r2, .bool cc.t.hd.p2, .bool cc.t.hd.q2, sy] 33) = w9a) := hw9a
  rw [HWa.out]
  clear hw9a HWa L9
  -- want
  refine HCa.mono ?_
  rintro e w10 ⟨sw, fw, rfl, ow10, bw10⟩
  have OV : Hid (sw.oneCell' = true) := ow10.own.one
  obtain ⟨X, hX⟩ : ∃ X, w10.alloc (.cells (cc.cells sw).toArray 33) = X := ⟨_, rfl⟩
  have bX : Below w10.heap.size w10 X ∧ Blk X w10.heap.size (cc.cells sw) 33 ∧ X.heap.size = w10.heap.size + 1 := by
    rw [← hX]
    exact ⟨(Below.refl _ _).alloc (Nat.le_refl _) _, Blk.new w10 _ _, by rw [World.size_alloc]⟩
  have z0 := s67.out
  have z1 := s78.out
  have z2 := s89.out
  have z3 := B7.out.2.1
  have z4 := B8.out.2.1
  have z5 := B9.out.2.1
  have z6 := bw10.size
  have z7 := HA.out.lt
  have z8 := HKW.out.size
  have y10 : Below w9a.heap.size w9a X := bw10.trans (bX.1.mono z6)
  have y9 : Below w9.heap.size w9 X := B9.out.1.trans (y10.mono (by omega))
  have y8a : Below w8a.heap.size w8a X := BW9.out.trans (y9.mono (by omega))
  have y8 : Below w8.heap.size w8 X := B8.out.1.trans (y8a.mono (by omega))
  have y7a : Below w7a.heap.size w7a X := BW8.out.trans (y8.mono (by omega))
  have y7 : Below w7.heap.size w7 X := B7.out.1.trans (y7a.mono (by omega))
  have y6 : Below w6.heap.size w6 X := BW7.out.trans (y7.mono (by omega))
  have xA : Blk X w.heap.size (ca.cells sl) 33 := (y6.block _ z7).trans HA.out
  have xO : Blk X w7.heap.size (ca.cells so) 33 := (y7a.block _ (by omega)).trans B7.out.2.2
  have xX : Blk X w8.heap.size (cc.cells sx) 33 := (y8a.block _ (by omega)).trans B8.out.2.2
  have xY : Blk X w9.heap.size (cc.cells sy) 33 := (y10.block _ (by omega)).trans B9.out.2.2
  have xV := bX.2.1
  have kX : Kp w X Nul := HKW.out.trans (Kp.of_below y6)
  have tA : NdIn X (fun b => b < w.heap.size) sl ca.t := H1.out.inn.mono (fun b _ hlt => ⟨kX.block b hlt (fun x => x), hlt⟩)
  have tO : Own X w6.heap.size so ca.t fo := OW7.out.below y7
  have tX : Own X w7a.heap.size sx cc.t fx := OW8.out.below y8
  have tY : Own X w8a.heap.size sy cc.t fy := OW9.out.below y9
  have tV : Own X w9a.heap.size sw cc.t fw := ow10.below bX.1
  have uO : ∀ i ∈ fo, w6.heap.size ≤ i ∧ i < w7.heap.size := fun i hi => ⟨(OW7.out.new i hi).1, (OW7.out.new i hi).2⟩
  have uX : ∀ i ∈ fx, w7a.heap.size ≤ i ∧ i < w8.heap.size := fun i hi => ⟨(OW8.out.new i hi).1, (OW8.out.new i hi).2⟩
  have uY : ∀ i ∈ fy, w8a.heap.size ≤ i ∧ i < w9.heap.size := fun i hi => ⟨(OW9.out.new i hi).1, (OW9.out.new i hi).2⟩
  have uV : ∀ i ∈ fw, w9a.heap.size ≤ i ∧ i < w10.heap.size := fun i hi => ⟨(ow10.new i hi).1, (ow10.new i hi).2⟩
  have nK : ∀ i, (i < w6.heap.size ∨ i = w7.heap.size ∨ w8.heap.size ≤ i) → ¬ (i ∈ fx ∨ i ∈ fo) := fun i hi hm => by
    rcases hm with hm | hm
    · have := uX i hm; omega
    · have := uO i hm; omega
  have HF : Hid (∀ wq, Kp X wq (fun i => i ∈ fx ∨ i ∈ fo) → Kp w wq Nul ∧ Blk wq w.heap.size (ca.cells sl) 33 ∧ Blk wq w7.heap.size (ca.cells so) 33 ∧ Blk wq w8.heap.size (cc.cells sx) 33 ∧ Blk wq w9.heap.size (cc.cells sy) 33 ∧ Blk wq w10.heap.size (cc.cells sw) 33 ∧
      NdIn wq (fun b => b < w.heap.size) sl ca.t ∧ NdIn wq (fun b => b ∈ fy) sy cc.t ∧ NdIn wq (fun b => b ∈ fw) sw cc.t) := fun wq k => by
    refine ⟨kX.trans' k (fun i hi hm => nK i (.inl (by omega)) hm), xA.kp k (nK _ (.inl z7)), xO.kp k (nK _ (.inr (.inl rfl))), xX.kp k (nK _ (.inr (.inr (Nat.le_refl _)))), xY.kp k (nK _ (.inr (.inr (by omega)))), xV.kp k (nK _ (.inr (.inr (by omega)))), ?_, ?_, ?_⟩
    · exact tA.kp k (fun b hb => nK b (.inl (by omega)))
    · exact (tY.own.isIn (F := fun b => b ∈ fy) (fun b hb => hb)).kp k (fun b hb => nK b (.inr (.inr (by have := uY b hb; omega))))
    · exact (tV.own.isIn (F := fun b => b ∈ fw) (fun b hb => hb)).kp k (fun b hb => nK b (.inr (.inr (by have := uV b hb; omega))))
  have HFX : Hid (∀ wq, Kp X wq Nul → Own wq 0 sx cc.t fx) := fun wq k => (tX.below (Kp.below k)).le (Nat.zero_le _)
  have HFO : Hid (∀ wq, Kp X wq (fun i => i ∈ fx) → Own wq 0 so ca.t fo) := fun wq k => ⟨tO.own.mono (fun b hb => k.block b (tO.new b hb).2 (fun hm => by have := uX b hm; have := uO b hb; omega)), tO.nodup, fun b hb => ⟨Nat.zero_le _, Nat.lt_of_lt_of_le (tO.new b hb).2 k.size⟩⟩
  have HWX : Hid (w10.alloc (.cells #[.int .i64 cc.k, .int .i64 cc.v.k, .float .f64 cc.v.x, .string cc.v.s, .bool cc.v.b, .int .i64 cc.v.f, .int .i64 cc.t.hd.k, .int .i64 cc.t.hd.o, .float .f64 cc.t.hd.x, .string cc.t.hd.s, .bool cc.t.hd.b, .int .i64 cc.t.hd.f, .int .i64 cc.t.hd.c1, .int .i64 cc.t.hd.r1, .bool cc.t.hd.p1, .bool cc.t.hd.q1, .int .i64 cc.t.hd.c2, .int .i64 cc.t.hd.r2, .bool cc.t.hd.p2, .bool cc.t.hd.q2, sw] 33) = X) := hX
  have L10 : Hid ((w10.alloc (.cells (cc.cells sw).toArray 33)).heap[w8.heap.size]? = some (.cells (cc.cells sx).toArray 33 (0, 0)) ∧ (w10.alloc (.cells (cc.cells sw).toArray 33)).heap[w10.heap.size]? = some (.cells (cc.cells sw).toArray 33 (0, 0))) := by rw [hX]; exact ⟨xX, xV⟩
  clear hX bX z0 z1 z2 z3 z4 z5 z6 z7 z8 y10 y9 y8a y8 y7a y7 y6 xA xO xX xY xV kX tA tO tX tY tV uO uX uY uV nK ow10 bw10 HCa HRc OW7 OW8 OW9 BW7 BW8 BW9 B7 B8 B9 B69 B69a s67 s78 s89 HKW HA H1
  go_wp2_with (first | (refine wpList_store_new rfl 33 (.tmp 11) (.tmp 42) rfl _ _ _ _ _ (by first | rfl | simp) rfl rfl rfl infoContent (cc.one OV.out) ?_) | (refine load_content_law rfl (.tmp 9) rfl w8.heap.size rfl (cc.cells sx).toArray L10.out.1 rfl ?_) | (refine load_content_law rfl (.tmp 11) rfl w10.heap.size rfl (cc.cells sw).toArray L10.out.2 rfl ?_))
  rw [HWX.out]
  clear HWX L10
  -- three
  have f0 := HF.out X (Kp.refl _ _)
  refine (just_at cc sx sw _ _ X (HFX.out X (Kp.refl _ _)).isIn f0.2.2.2.2.2.2.2.2).mono ?_
  rintro e w11 ⟨rfl, hk11⟩
  have K11 : Hid (Kp X w11 Nul) := hk11
  have F11 := HF.out w11 hk11.of_nul
  have G1 : Hid (Blk w11 w9.heap.size (cc.cells sy) 33 ∧ Blk w11 w10.heap.size (cc.cells sw) 33) := ⟨F11.2.2.2.2.1, F11.2.2.2.2.2.1⟩
  clear f0 hk11 F11
  go_wp2_with (first | (refine load_content_law rfl (.tmp 10) rfl w9.heap.size rfl (cc.cells sy).toArray G1.out.1 rfl ?_) | (refine load_content_law rfl (.tmp 11) rfl w10.heap.size rfl (cc.cells sw).toArray G1.out.2 rfl ?_))
  have F11 := HF.out w11 K11.out.of_nul
  refine (just_at cc sy sw _ _ w11 F11.2.2.2.2.2.2.2.1 F11.2.2.2.2.2.2.2.2).mono ?_
  rintro e w12 ⟨rfl, hk12⟩
  have K12 : Hid (Kp X w12 Nul) := K11.out.trans hk12
  have F12 := HF.out w12 K12.out.of_nul
  have R12 : Hid (w12.rangeAt w8.heap.size 6 (cc.t.hd.cells sx)) := Blk.range (pre := [.int .i64 cc.k, .int .i64 cc.v.k, .float .f64 cc.v.x, .string cc.v.s, .bool cc.v.b, .int .i64 cc.v.f]) (l := cc.t.hd.cells sx) (post := []) F12.2.2.2.1
  clear hk12 F11 F12 G1 K11
  go_wp2_with (refine wpList_load_mid rfl 31 (.tmp 51) rfl w8.heap.size 6 rfl (cc.t.hd.cells sx) _ R12.out Tryd.underlying31 rfl infoNode ?_)
  refine (over_any cc.t.size cc.t sx fx w12 (Nat.le_refl _) HZ2.out (HFX.out w12 K12.out)).mono ?_
  rintro e w13 ⟨rfl, hk13⟩
  have K13 : Hid (Kp X w13 (fun i => i ∈ fx)) := K12.out.of_nul.trans hk13
  have K13b : Hid (Kp X w13 (fun i => i ∈ fx ∨ i ∈ fo)) := K13.out.mono (fun _ _ h => .inl h)
  have F13 := HF.out w13 K13b.out
  have G1 : Hid (Blk w13 w9.heap.size (cc.cells sy) 33 ∧ Blk w13 w10.heap.size (cc.cells sw) 33) := ⟨F13.2.2.2.2.1, F13.2.2.2.2.2.1⟩
  clear hk13 K12 R12 HFX F13
  -- four
  go_wp2_with (first | (refine load_content_law rfl (.tmp 10) rfl w9.heap.size rfl (cc.cells sy).toArray G1.out.1 rfl ?_) | (refine load_content_law rfl (.tmp 11) rfl w10.heap.size rfl (cc.cells sw).toArray G1.out.2 rfl ?_))
  have F13 := HF.out w13 K13b.out
  refine (just_at cc sy sw _ _ w13 F13.2.2.2.2.2.2.2.1 F13.2.2.2.2.2.2.2.2).mono ?_
  rintro e w14 ⟨rfl, hk14⟩
  have K14 : Hid (Kp X w14 (fun i => i ∈ fx)) := K13.out.trans hk14.of_nul
  have K14b : Hid (Kp X w14 (fun i => i ∈ fx ∨ i ∈ fo)) := K14.out.mono (fun _ _ h => .inl h)
  have F14 := HF.out w14 K14b.out
  have G2 : Hid (Blk w14 w7.heap.size (ca.cells so) 33 ∧ Blk w14 w.heap.size (ca.cells sl) 33) := ⟨F14.2.2.1, F14.2.1⟩
  clear hk14 F13 F14 K13 K13b G1
  go_wp2_with (first | (refine load_content_law rfl (.tmp 8) rfl w7.heap.size rfl (ca.cells so).toArray G2.out.1 rfl ?_) | (refine load_content_law rfl (.tmp 2) rfl w.heap.size rfl (ca.cells sl).toArray G2.out.2 rfl ?_))
  have F14 := HF.out w14 K14b.out
  refine (just_at ca so sl _ _ w14 (HFO.out w14 K14.out).isIn F14.2.2.2.2.2.2.1).mono ?_
  rintro e w15 ⟨rfl, hk15⟩
  have K15 : Hid (Kp X w15 (fun i => i ∈ fx)) := K14.out.trans hk15.of_nul
  have K15b : Hid (Kp X w15 (fun i => i ∈ fx ∨ i ∈ fo)) := K15.out.mono (fun _ _ h => .inl h)
  have F15 := HF.out w15 K15b.out
  have R15 : Hid (w15.rangeAt w7.heap.size 6 (ca.t.hd.cells so)) := Blk.range (pre := [.int .i64 ca.k, .int .i64 ca.v.k, .float .f64 ca.v.x, .string ca.v.s, .bool ca.v.b, .int .i64 ca.v.f]) (l := ca.t.hd.cells so) (post := []) F15.2.2.1
  clear hk15 F14 F15 K14 K14b G2
  go_wp2_with (refine wpList_load_mid rfl 31 (.tmp 62) rfl w7.heap.size 6 rfl (ca.t.hd.cells so) _ R15.out Tryd.underlying31 rfl infoNode ?_)
  refine (over_any ca.t.size ca.t so fo w15 (Nat.le_refl _) HZ.out (HFO.out w15 K15.out)).mono ?_
  rintro e w16 ⟨rfl, hk16⟩
  have K16 : Hid (Kp X w16 (fun i => i ∈ fx ∨ i ∈ fo)) := K15b.out.trans (hk16.mono (fun _ _ h => .inr h))
  have F16 := HF.out w16 K16.out
  have G3 : Hid (Blk w16 w9.heap.size (cc.cells sy) 33 ∧ Blk w16 w10.heap.size (cc.cells sw) 33) := ⟨F16.2.2.2.2.1, F16.2.2.2.2.2.1⟩
  clear hk16 F16 K15 K15b R15 HFO
  -- five
  go_wp2_with (first | (refine load_content_law rfl (.tmp 10) rfl w9.heap.size rfl (cc.cells sy).toArray G3.out.1 rfl ?_) | (refine load_content_law rfl (.tmp 11) rfl w10.heap.size rfl (cc.cells sw).toArray G3.out.2 rfl ?_))
  have F16 := HF.out w16 K16.out
  refine (just_at cc sy sw _ _ w16 F16.2.2.2.2.2.2.2.1 F16.2.2.2.2.2.2.2.2).mono ?_
  rintro e w17 ⟨rfl, hk17⟩
  have K17 : Hid (Kp w w17 Nul) := (HF.out w16 K16.out).1.trans hk17
  clear hk17 F16 G3 K16 HF
  go_wp2_with fail
  go_ret
  exact ⟨rfl, K17.out⟩
end Go.Proofs.YtjmbmapanmbnhaaDoor
