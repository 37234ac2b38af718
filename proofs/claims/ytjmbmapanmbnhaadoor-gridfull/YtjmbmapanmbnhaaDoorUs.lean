/- keep: into a grid that has contents. -/
import Derived.Test.YtjmbmapanmbnhaaDoorUi
import Derived.Test.YtjmbmapanmbnhaaDoorUr
namespace Go.Proofs.YtjmbmapanmbnhaaDoor
open Go.RowKit Go.Maps

theorem ownsMap_tight {w : World} {m n : Nat} {D : DataW Value} (h : w.ownsMap Tryd.prog 26 rawE m n D) : w.ownsMap Tryd.prog 26 rawE m (Maps.size D) D := by
  obtain ⟨es, clock, h1, h2, h3, rfl⟩ := h
  refine ⟨es, clock, h1, h2, ?_, rfl⟩
  show es.size ≤ List.length _
  rw [length_read]
  exact Nat.le_refl _
set_option maxRecDepth 20000 in
set_option maxHeartbeats 8000000 in
theorem keep_more (g m : Nat) (c r : Int) (hc : I64 c) (hr : I64 r) (ct : Ct) (sl : Value) (F : Nat → Prop) (D : DataW Value) (L : List Cc) (w : World) (hb : Blk w g [.map (some m)] 77) (hF : F g) (hFm : F m) (hne : m ≠ g) (hown : w.ownsMap Tryd.prog 26 rawE m 4096 D) (hm : MapHas w F D L) (hroom : (putL L (c, r) ct).length ≤ 4096) (hin : NdIn w F sl ct.t) (hold : ∀ w', Kp w w' (fun i => i = m) → ∀ sl t, NdIn w F sl t → NdIn w' F sl t) :
    Calls Tryd.prog 53 #[.pointer (some ⟨g, 0, none⟩), .agg #[.int .i64 c, .int .i64 r], ct.val sl] w fun e w' => e = .returned (.tuple #[]) ∧ GridIn w' F g (putL L (c, r) ct) ∧ Kp w w' (fun i => i = m) := by
  have hkey := kl_key hc hr
  obtain ⟨W1, hW1⟩ : ∃ W1, (w.alloc (.cells #[.int .i64 c, .int .i64 r] 26)).alloc (.cells (ct.cells sl).toArray 33) = W1 := ⟨_, rfl⟩
  have k1 : Kp w W1 Nul := by rw [← hW1]; exact ((Kp.refl w Nul).alloc _).alloc _
  have hmlt := hown.lt
  have hA1 : Blk W1 w.heap.size [.int .i64 c, .int .i64 r] 26 := by rw [← hW1]; exact (Blk.new w [.int .i64 c, .int .i64 r] _).alloc _
  have hC1 : Blk W1 (w.heap.size + 1) (ct.cells sl) 33 := by
    have := Blk.new (w.alloc (.cells #[.int .i64 c, .int .i64 r] 26)) (ct.cells sl) 33
    rw [World.size_alloc] at this
    rw [← hW1]; exact this
  have hb1 := hb.kp k1 (fun x => x)
  have hown1 := ownsMap_block hown (k1.block m hmlt (fun x => x))
  obtain ⟨W4, hrun, hown4, hturn⟩ := hown1.drew.store lawAddr Tryd.underlying75 (by decide) hkey (val := ct.val sl) (d := .held (ct.val sl)) (ps := []) rfl
  have k4 : Kp W1 W4 (fun i => i = m) := ((Kp.refl W1 _).drew).trans (Kp.of_turned hturn)
  have k04 : Kp w W4 (fun i => i = m) := k1.of_nul.trans k4
  have hHas := grid_put hown hm hc hr (hold W4 k04 sl ct.t hin) (hold W4 k04)
  have HEND : Hid (GridIn W4 F g (putL L (c, r) ct) ∧ Kp w W4 (fun i => i = m)) := ⟨⟨hF, .inr ⟨m, _, hb1.kp k4 (fun e => hne e.symm), hFm, hne, ownsMap_le (ownsMap_tight hown4) (by rw [hHas.size]; exact hroom), hHas⟩⟩, k04⟩
  have HW1 : Hid ((w.alloc (.cells #[.int .i64 c, .int .i64 r] 26)).alloc (.cells #[.int .i64 ct.k, .int .i64 ct.v.k, .float .f64 ct.v.x, .string ct.v.s, .bool ct.v.b, .int .i64 ct.v.f, .int .i64 ct.t.hd.k, .int .i64 ct.t.hd.o, .float .f64 ct.t.hd.x, .string ct.t.hd.s, .bool ct.t.hd.b, .int .i64 ct.t.hd.f, .int .i64 ct.t.hd.c1, .int .i64 ct.t.hd.r1, .bool ct.t.hd.p1, .bool ct.t.hd.q1, .int .i64 ct.t.hd.c2, .int .i64 ct.t.hd.r2, .bool ct.t.hd.p2, .bool ct.t.hd.q2, sl] 33) = W1) := hW1
  have c1 : W1.cell? ⟨g, 0, none⟩ = some (.map (some m)) := hb1.cell rfl
  have HS3 : Hid (W1.cell? ⟨g, 0, none⟩ = some (.map (some m)) ∧ W1.cell? ⟨w.heap.size, 0, none⟩ = some (.int .i64 c) ∧ W1.cell? ⟨w.heap.size, 1, none⟩ = some (.int .i64 r) ∧ Blk W1 (w.heap.size + 1) (ct.cells sl) 33) := ⟨c1, hA1.cell rfl, hA1.cell rfl, hC1⟩
  have HS4 : Hid (W4.cell? ⟨g, 0, none⟩ = some (.map (some m)) ∧ W4.cell? ⟨w.heap.size, 0, none⟩ = some (.int .i64 c) ∧ W4.cell? ⟨w.heap.size, 1, none⟩ = some (.int .i64 r) ∧ Blk W4 (w.heap.size + 1) (ct.cells sl) 33) := ⟨(hb1.kp k4 (fun e => hne e.symm)).cell rfl, (hA1.kp k4 (by show ¬ w.heap.size = m; omega)).cell rfl, (hA1.kp k4 (by show ¬ w.heap.size = m; omega)).cell rfl, hC1.kp k4 (by show ¬ w.heap.size + 1 = m; omega)⟩
  have cL : ((w.alloc (.cells #[.int .i64 c, .int .i64 r] 26)).alloc (.cells #[.int .i64 ct.k, .int .i64 ct.v.k, .float .f64 ct.v.x, .string ct.v.s, .bool ct.v.b, .int .i64 ct.v.f, .int .i64 ct.t.hd.k, .int .i64 ct.t.hd.o, .float .f64 ct.t.hd.x, .string ct.t.hd.s, .bool ct.t.hd.b, .int .i64 ct.t.hd.f, .int .i64 ct.t.hd.c1, .int .i64 ct.t.hd.r1, .bool ct.t.hd.p1, .bool ct.t.hd.q1, .int .i64 ct.t.hd.c2, .int .i64 ct.t.hd.r2, .bool ct.t.hd.p2, .bool ct.t.hd.q2, sl] 33)).cell? ⟨g, 0, none⟩ = some (.map (some m)) := by rw [HW1.out]; exact c1
  have hnil := eq_nilmap (some m)
  clear hb hin hF hFm hW1 k1 k4 k04 hA1 hC1 hb1 hown hown1 hown4 hturn hHas hkey hne hm hroom hold hmlt c1
  go_enter Tryd.func53, Tryd.ntmps53
  go_wp2_with fail
  rw [HW1.out]
  clear HW1
  refine wp_region_noPanic ?_
  refine wp_region_hel (fun w' : World => w'.cell? ⟨g, 0, none⟩ = some (.map (some m)) ∧ w'.cell? ⟨w.heap.size, 0, none⟩ = some (.int .i64 c) ∧ w'.cell? ⟨w.heap.size, 1, none⟩ = some (.int .i64 r) ∧ Blk w' (w.heap.size + 1) (ct.cells sl) 33) (by kernel_rfl) (HS3.out) (fun hHeld => ?_)
  have tok0 : True := trivial
  have tok1 : True := trivial
  have tok2 : True := trivial
  have tok3 : True := trivial
  have tok4 : True := trivial
  iterate 5 ((first | (clear tok0; refine wpH_takes (i := 0) (v := ?_) (some 15) rfl rfl (by kernel_rfl) (by kernel_rfl) (by kernel_rfl) (fun _ _ _ h => h) (Or.inl ⟨by rfl, ?_⟩) hHeld ?_) | (clear tok1; refine wpH_takes (i := 1) (v := ?_) (some 16) rfl rfl (by kernel_rfl) (by kernel_rfl) (by kernel_rfl) (fun _ _ _ h => h) (Or.inl ⟨by rfl, ?_⟩) hHeld ?_) | (clear tok2; refine wpH_takes (i := 2) (v := ?_) (some 17) rfl rfl (by kernel_rfl) (by kernel_rfl) (by kernel_rfl) (fun _ _ _ h => h) (Or.inl ⟨by rfl, ?_⟩) hHeld ?_) | (clear tok3; refine wpH_takes (i := 3) (v := ?_) (some 18) rfl rfl (by kernel_rfl) (by kernel_rfl) (by kernel_rfl) (fun _ _ _ h => h) (Or.inl ⟨by rfl, ?_⟩) hHeld ?_) | (clear tok4; refine wpH_takes (i := 4) (v := ?_) (some 19) rfl rfl (by kernel_rfl) (by kernel_rfl) (by kernel_rfl) (fun _ _ _ h => h) (Or.inl ⟨by rfl, ?_⟩) hHeld ?_)); rotate_left; (· intro w hSw; obtain ⟨s0, s1, s2, s3⟩ := hSw; clear s3; go_simp; try with_reducible rfl); simp only [Act.put, List.setIfInBounds_toArray, List.set_cons_zero, List.set_cons_succ])
  refine wpH_takes (i := 5) (v := ct.val sl) (some 20) rfl rfl (by kernel_rfl) (by kernel_rfl) (by kernel_rfl) (fun _ _ _ h => h) (Or.inl ⟨by rfl, fun w' hSw => exec_load_content _ rfl rfl hSw.2.2.2 rfl⟩) hHeld ?_
  simp only [Act.put, List.setIfInBounds_toArray, List.set_cons_zero, List.set_cons_succ]
  generalize ct.val sl = V at *
  refine wpH_step (i := 6) (by kernel_rfl) rfl rfl (fun K hK => ?_)
  go_simp
  refine hK.out _ _ HS4.out (fun _ => ?_)
  clear hK K hHeld
  refine wpAnyH_done (by kernel_rfl) ?_ _
  refine NoPanic.normal ?_
  go_wp2_with fail
  go_end0
  exact ⟨rfl, HEND.out⟩
end Go.Proofs.YtjmbmapanmbnhaaDoor
