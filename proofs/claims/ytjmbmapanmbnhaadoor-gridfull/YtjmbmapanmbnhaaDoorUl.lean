/- Get; Put that is refused. -/
import Derived.Test.YtjmbmapanmbnhaaDoorUj
namespace Go.Proofs.YtjmbmapanmbnhaaDoor
open Go.RowKit Go.Maps

set_option maxRecDepth 20000 in
set_option maxHeartbeats 8000000 in
theorem get_at (g : Nat) (c r : Int) (mv : Option Nat) (V : Value) (u : Ct) (w : World) (hlk : Lk w g c r mv V true)
    (hcp : ∀ wq, Kp w wq Nul → Calls Tryd.prog 14 #[V] wq fun e w' => ∃ sl' fp, e = .returned (u.val sl') ∧ Own w' wq.heap.size sl' u.t fp ∧ Kp wq w' Nul) :
    Calls Tryd.prog 28 #[.pointer (some ⟨g, 0, none⟩), .agg #[.int .i64 c, .int .i64 r]] w fun e w' => ∃ sl', e = .returned (u.val sl') ∧ sl'.oneCell' = true ∧ Kp w w' Nul := by
  obtain ⟨W1, hW1⟩ : ∃ W1, (w.alloc (.cells #[.int .i64 c, .int .i64 r] 26)).alloc (.cells #[.int .i64 0, .int .i64 0, .float .f64 0, .string ⟨#[]⟩, .bool false, .int .i64 0, .int .i64 0, .int .i64 0, .float .f64 0, .string ⟨#[]⟩, .bool false, .int .i64 0, .int .i64 0, .int .i64 0, .bool false, .bool false, .int .i64 0, .int .i64 0, .bool false, .bool false, .slice none 0 0] 33) = W1 := ⟨_, rfl⟩
  have k1 : Kp w W1 Nul := by rw [← hW1]; exact ((Kp.refl w Nul).alloc _).alloc _
  have hA1 : Blk W1 w.heap.size [.int .i64 c, .int .i64 r] 26 := by rw [← hW1]; exact (Blk.new w [.int .i64 c, .int .i64 r] _).alloc _
  have hZ1 : Blk W1 (w.heap.size + 1) [.int .i64 0, .int .i64 0, .float .f64 0, .string ⟨#[]⟩, .bool false, .int .i64 0, .int .i64 0, .int .i64 0, .float .f64 0, .string ⟨#[]⟩, .bool false, .int .i64 0, .int .i64 0, .int .i64 0, .bool false, .bool false, .int .i64 0, .int .i64 0, .bool false, .bool false, .slice none 0 0] 33 := by
    have := Blk.new (w.alloc (.cells #[.int .i64 c, .int .i64 r] 26)) [.int .i64 0, .int .i64 0, .float .f64 0, .string ⟨#[]⟩, .bool false, .int .i64 0, .int .i64 0, .int .i64 0, .float .f64 0, .string ⟨#[]⟩, .bool false, .int .i64 0, .int .i64 0, .int .i64 0, .bool false, .bool false, .int .i64 0, .int .i64 0, .bool false, .bool false, .slice none 0 0] 33
    rw [World.size_alloc] at this
    rw [← hW1]; exact this
  have hglt : g < w.heap.size := (Array.getElem?_eq_some_iff.1 hlk.cell).1
  have hg1 : Blk W1 g [.map mv] 77 := (k1.block g hglt (fun x => x)).trans hlk.cell
  have HS : Hid (∀ wq, Kp W1 wq (fun i => i = w.heap.size + 1) → (wq.cell? ⟨w.heap.size, 0, none⟩ = some (.int .i64 c) ∧ wq.cell? ⟨w.heap.size, 1, none⟩ = some (.int .i64 r) ∧ wq.cell? ⟨g, 0, none⟩ = some (.map mv) ∧ (Instr.lookup 75 (.map mv) (.agg #[.int .i64 c, .int .i64 r]) false).run Tryd.prog wq = .ok V wq)) := fun wq k => ⟨(hA1.kp k (by show ¬ w.heap.size = w.heap.size + 1; omega)).cell rfl, (hA1.kp k (by show ¬ w.heap.size = w.heap.size + 1; omega)).cell rfl, (hg1.kp k (by show ¬ g = w.heap.size + 1; omega)).cell rfl, hlk.one wq (fun m hm => by
    have h2 := (hlk.ne m hm).2
    have h3 := k1.size
    exact (k.block m (by omega) (by show ¬ m = w.heap.size + 1; omega)).trans (k1.block m h2 (fun x => x)))⟩
  have HCp : Hid (∀ wq, Kp W1 wq Nul → Calls Tryd.prog 14 #[V] wq fun e w' => ∃ sl' fp, e = .returned (u.val sl') ∧ Own w' wq.heap.size sl' u.t fp ∧ Kp wq w' Nul) := fun wq k => hcp wq (k1.trans k)
  have HZ : Hid (Blk W1 (w.heap.size + 1) [.int .i64 0, .int .i64 0, .float .f64 0, .string ⟨#[]⟩, .bool false, .int .i64 0, .int .i64 0, .int .i64 0, .float .f64 0, .string ⟨#[]⟩, .bool false, .int .i64 0, .int .i64 0, .int .i64 0, .bool false, .bool false, .int .i64 0, .int .i64 0, .bool false, .bool false, .slice none 0 0] 33) := hZ1
  have HW1 : Hid ((w.alloc (.cells #[.int .i64 c, .int .i64 r] 26)).alloc (.cells #[.int .i64 0, .int .i64 0, .float .f64 0, .string ⟨#[]⟩, .bool false, .int .i64 0, .int .i64 0, .int .i64 0, .float .f64 0, .string ⟨#[]⟩, .bool false, .int .i64 0, .int .i64 0, .int .i64 0, .bool false, .bool false, .int .i64 0, .int .i64 0, .bool false, .bool false, .slice none 0 0] 33) = W1) := hW1
  have HK1 : Hid (Kp w W1 Nul) := k1
  clear hW1 k1 hA1 hZ1 hg1 hlk hcp hglt
  go_enter Tryd.func28, Tryd.ntmps28
  go_wp2_with fail
  rw [HW1.out]
  clear HW1
  refine wp_region_noPanic ?_
  refine wp_region_hel (fun w' : World => Kp W1 w' (fun i => i = w.heap.size + 1)) (by kernel_rfl) ((Kp.refl W1 _).drew) (fun hHeld => ?_)
  have tok0 : True := trivial
  have tok1 : True := trivial
  have tok2 : True := trivial
  have tok3 : True := trivial
  have tok4 : True := trivial
  have tok5 : True := trivial
  iterate 6 ((first | (clear tok0; refine wpH_takes (i := 0) (v := ?_) (some 8) rfl rfl (by kernel_rfl) (by kernel_rfl) (by kernel_rfl) (fun _ _ _ h => h) (Or.inl ⟨by rfl, ?_⟩) hHeld ?_) | (clear tok1; refine wpH_takes (i := 1) (v := ?_) (some 9) rfl rfl (by kernel_rfl) (by kernel_rfl) (by kernel_rfl) (fun _ _ _ h => h) (Or.inl ⟨by rfl, ?_⟩) hHeld ?_) | (clear tok2; refine wpH_takes (i := 2) (v := ?_) (some 10) rfl rfl (by kernel_rfl) (by kernel_rfl) (by kernel_rfl) (fun _ _ _ h => h) (Or.inl ⟨by rfl, ?_⟩) hHeld ?_) | (clear tok3; refine wpH_takes (i := 3) (v := ?_) (some 11) rfl rfl (by kernel_rfl) (by kernel_rfl) (by kernel_rfl) (fun _ _ _ h => h) (Or.inl ⟨by rfl, ?_⟩) hHeld ?_) | (clear tok4; refine wpH_takes (i := 4) (v := ?_) (some 12) rfl rfl (by kernel_rfl) (by kernel_rfl) (by kernel_rfl) (fun _ _ _ h => h) (Or.inl ⟨by rfl, ?_⟩) hHeld ?_) | (clear tok5; refine wpH_takes (i := 5) (v := ?_) (some 13) rfl rfl (by kernel_rfl) (by kernel_rfl) (by kernel_rfl) (fun _ _ _ h => h) (Or.inl ⟨by rfl, ?_⟩) hHeld ?_)); rotate_left; (· intro w hSw; obtain ⟨s0, s1, s2, s3⟩ := HS.out _ hSw; clear hSw; go_simp; try with_reducible rfl); simp only [Act.put, List.setIfInBounds_toArray, List.set_cons_zero, List.set_cons_succ])
  refine wpH_step (i := 6) (by kernel_rfl) rfl rfl (fun K hK => ?_)
  go_simp
  refine (HCp.out _ (Kp.refl W1 Nul).drew).mono ?_
  rintro e w4 ⟨sl', fp, rfl, hown, hk4⟩
  have hk14 : Kp W1 w4 Nul := (Kp.refl W1 Nul).drew.trans hk4
  have hone := hown.own.one
  refine hK.out _ _ hk14.of_nul (fun hHeld2 => ?_)
  clear hK K hown hk4
  have hZ4 := HZ.out.kp hk14 (fun x => x)
  refine wpH_step (i := 7) (by kernel_rfl) rfl rfl (fun K hK => ?_)
  refine wp_store_mid 33 (.tmp 4) (.tmp 14) rfl (w.heap.size + 1) 0 (u.cells sl').toArray rfl rfl (there_of_block hZ4 _ _ (by simp)) infoContent (u.one hone) ?_
  obtain ⟨W5, hW5⟩ : ∃ W5, w4.setCells (w.heap.size + 1) 0 (u.cells sl') = W5 := ⟨_, rfl⟩
  have k45 : Kp w4 W5 (fun i => i = w.heap.size + 1) := by rw [← hW5]; exact setCells_kp (fun i => i = w.heap.size + 1) rfl _ _ _
  have hB5 : W5.heap[w.heap.size + 1]? = some (.cells (u.cells sl').toArray 33 (0, 0)) := by
    rw [← hW5]
    exact heap_setCells_whole (cs := (u.cells sl').toArray) hZ4 rfl
  show K _ (w4.setCells (w.heap.size + 1) 0 (u.cells sl'))
  rw [hW5]
  refine hK.out _ _ (hk14.of_nul.trans k45) (fun _ => ?_)
  have HONE : Hid (sl'.oneCell' = true) := hone
  have HEND : Hid (Kp w W5 Nul) := (HK1.out.trans hk14).trans' k45 (fun i hi e => by have : i = w.heap.size + 1 := e; omega)
  clear hK K hHeld hHeld2 hk14 k45 hone hZ4 hW5
  refine wpAnyH_done (by kernel_rfl) ?_ _
  refine NoPanic.normal ?_
  go_wp2_with fail
  refine bodyPost_ret (results_cell_row rfl _ _ (w.heap.size + 1) 33 _ (0, 0) _ rfl hB5 Tryd.underlying33 rfl infoContent) rfl ?_
  exact ⟨_, rfl, HONE.out, HEND.out⟩
set_option maxRecDepth 20000 in
set_option maxHeartbeats 8000000 in
/-- Put of what may not be, and of what may be into no cell. -/
theorem put_no (g : Nat) (c r : Int) (ct : Ct) (sl : Value) (V : Bool) (w : World) (hV : V = true → vC c r = false)
    (hval : ∀ wq, Kp w wq Nul → Calls Tryd.prog 9 #[ct.val sl] wq fun e w' => e = .returned (.bool V) ∧ Kp wq w' Nul) :
    Calls Tryd.prog 20 #[.pointer (some ⟨g, 0, none⟩), .agg #[.int .i64 c, .int .i64 r], ct.val sl] w fun e w' => e = .returned (.int .i64 (if V then 20 else 1)) ∧ Kp w w' Nul := by
  obtain ⟨W1, hW1⟩ : ∃ W1, (w.alloc (.cells #[.int .i64 c, .int .i64 r] 26)).alloc (.cells (ct.cells sl).toArray 33) = W1 := ⟨_, rfl⟩
  have k1 : Kp w W1 Nul := by rw [← hW1]; exact ((Kp.refl w Nul).alloc _).alloc _
  have hA1 : Blk W1 w.heap.size [.int .i64 c, .int .i64 r] 26 := by rw [← hW1]; exact (Blk.new w [.int .i64 c, .int .i64 r] _).alloc _
  have hC1 : Blk W1 (w.heap.size + 1) (ct.cells sl) 33 := by
    have := Blk.new (w.alloc (.cells #[.int .i64 c, .int .i64 r] 26)) (ct.cells sl) 33
    rw [World.size_alloc] at this
    rw [← hW1]; exact this
  have HC1 : Hid (((w.alloc (.cells #[.int .i64 c, .int .i64 r] 26)).alloc (.cells (ct.cells sl).toArray 33)).heap[w.heap.size + 1]? = some (.cells (ct.cells sl).toArray 33 (0, 0))) := by show _ = _; rw [hW1]; exact hC1
  have HW1 : Hid ((w.alloc (.cells #[.int .i64 c, .int .i64 r] 26)).alloc (.cells #[.int .i64 ct.k, .int .i64 ct.v.k, .float .f64 ct.v.x, .string ct.v.s, .bool ct.v.b, .int .i64 ct.v.f, .int .i64 ct.t.hd.k, .int .i64 ct.t.hd.o, .float .f64 ct.t.hd.x, .string ct.t.hd.s, .bool ct.t.hd.b, .int .i64 ct.t.hd.f, .int .i64 ct.t.hd.c1, .int .i64 ct.t.hd.r1, .bool ct.t.hd.p1, .bool ct.t.hd.q1, .int .i64 ct.t.hd.c2, .int .i64 ct.t.hd.r2, .bool ct.t.hd.p2, .bool ct.t.hd.q2, sl] 33) = W1) := hW1
  have HS : Hid (∀ wq, Kp W1 wq Nul → (wq.cell? ⟨w.heap.size, 0, none⟩ = some (.int .i64 c) ∧ wq.cell? ⟨w.heap.size, 1, none⟩ = some (.int .i64 r))) := fun wq k => ⟨(hA1.kp k (fun x => x)).cell rfl, (hA1.kp k (fun x => x)).cell rfl⟩
  have HV : Hid (Calls Tryd.prog 9 #[ct.val sl] W1 fun e w' => e = .returned (.bool V) ∧ Kp W1 w' Nul) := hval W1 k1
  have HA : Hid (V = true → ∀ w, Calls Tryd.prog 51 #[.agg #[.int .i64 c, .int .i64 r]] w fun e w' => e = .returned (.bool false) ∧ Kp w w' Nul) := fun h w => (pValid_at c r w).mono fun e w' ⟨h1, h2⟩ => ⟨by rw [h1, hV h], by rw [h2]; exact (Kp.refl w Nul).alloc _⟩
  have HK1 : Hid (Kp w W1 Nul) := k1
  clear hval hW1 k1 hA1 hC1 hV
  go_enter Tryd.func20, Tryd.ntmps20
  go_wp2_with (first | (refine load_content_law rfl (.tmp 5) rfl (w.heap.size + 1) rfl _ HC1.out rfl ?_) | fail)
  rw [HW1.out]
  refine HV.out.mono ?_
  rintro e w2 ⟨rfl, hk2⟩
  obtain ⟨a1, a2⟩ := HS.out w2 hk2
  have HK2 : Hid (Kp w w2 Nul) := HK1.out.trans hk2
  clear hk2 HV HC1 HW1 HS
  cases V with
  | false =>
    go_wp2_with fail
    go_ret
    exact ⟨rfl, HK2.out⟩
  | true =>
    go_wp2_with fail
    refine (HA.out trivial _).mono ?_
    rintro e w3 ⟨rfl, hk3⟩
    have HK3 : Hid (Kp w w3 Nul) := HK2.out.trans hk3
    clear hk3
    go_wp2_with fail
    go_ret
    exact ⟨rfl, HK3.out⟩
end Go.Proofs.YtjmbmapanmbnhaaDoor
