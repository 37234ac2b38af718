/- Put: a grid's first content. -/
import Derived.Test.YtjmbmapanmbnhaaDoorUi
import Derived.Test.YtjmbmapanmbnhaaDoorXx
import Derived.Test.YtjmbmapanmbnhaaDoorDa
namespace Go.Proofs.YtjmbmapanmbnhaaDoor
open Go.RowKit Go.Maps

theorem load_content_law {ops : Array Oper} {rest : List Oper} {o : Oper} {a : Act} {w : World} {Q : Exit → Act → World → Prop} (hgd : Region.wanted o (yielded ops a.tmps) = true) (x : Operand) (ho : o.op = .load 33 x) (g : Nat) (hx : a.eval x = .pointer (some ⟨g, 0, none⟩)) (cs : Array Value) (hg : w.heap[g]? = some (.cells cs 33 (0, 0))) (hcs : cs.size = 21)
    (h : wpList Tryd.prog ops Q rest (a.put o.dst (.agg cs)) w) : wpList Tryd.prog ops Q (o :: rest) a w :=
  wpList_step fun K hK => by
    simp only [hgd, if_true]
    exact wp_load_row 33 x ho g hx 33 cs (0, 0) _ hg Tryd.underlying33 rfl (by rw [hcs]; exact infoContent) (hK _ _ h)
set_option maxRecDepth 20000 in
set_option maxHeartbeats 8000000 in
theorem put_first (g : Nat) (c r : Int) (hx : vC c r = true) (ct : Ct) (hct : ct.k = 1) (sl : Value) (w : World) (hb : Blk w g [.map none] 77)
    (hval : ∀ wq, Kp w wq Nul → Calls Tryd.prog 9 #[ct.val sl] wq fun e w' => e = .returned (.bool true) ∧ Kp wq w' Nul)
    (hcp : ∀ wq, Kp w wq Nul → Calls Tryd.prog 14 #[ct.val sl] wq fun e w' => ∃ sl' fp, e = .returned ((cpC ct).val sl') ∧ Own w' wq.heap.size sl' (cpC ct).t fp ∧ Kp wq w' Nul) :
    Calls Tryd.prog 20 #[.pointer (some ⟨g, 0, none⟩), .agg #[.int .i64 c, .int .i64 r], ct.val sl] w fun e w' => e = .returned (.int .i64 0) ∧ GridIn w' (fun _ => True) g [((c, r), cpC ct)] ∧ Kp w w' (fun i => i = g) := by
  have hi : I64 c ∧ I64 r := by
    have := (vC_iff c r).1 hx
    unfold I64
    omega
  obtain ⟨W1, hW1⟩ : ∃ W1, (w.alloc (.cells #[.int .i64 c, .int .i64 r] 26)).alloc (.cells (ct.cells sl).toArray 33) = W1 := ⟨_, rfl⟩
  have k1 : Kp w W1 Nul := by rw [← hW1]; exact ((Kp.refl w Nul).alloc _).alloc _
  have hA1 : Blk W1 w.heap.size [.int .i64 c, .int .i64 r] 26 := by rw [← hW1]; exact (Blk.new w [.int .i64 c, .int .i64 r] _).alloc _
  have hC1 : Blk W1 (w.heap.size + 1) (ct.cells sl) 33 := by
    have := Blk.new (w.alloc (.cells #[.int .i64 c, .int .i64 r] 26)) (ct.cells sl) 33
    rw [World.size_alloc] at this
    rw [← hW1]; exact this
  have HC1 : Hid (((w.alloc (.cells #[.int .i64 c, .int .i64 r] 26)).alloc (.cells (ct.cells sl).toArray 33)).heap[w.heap.size + 1]? = some (.cells (ct.cells sl).toArray 33 (0, 0))) := by show _ = _; rw [hW1]; exact hC1
  have HW1 : Hid ((w.alloc (.cells #[.int .i64 c, .int .i64 r] 26)).alloc (.cells #[.int .i64 ct.k, .int .i64 ct.v.k, .float .f64 ct.v.x, .string ct.v.s, .bool ct.v.b, .int .i64 ct.v.f, .int .i64 ct.t.hd.k, .int .i64 ct.t.hd.o, .float .f64 ct.t.hd.x, .string ct.t.hd.s, .bool ct.t.hd.b, .int .i64 ct.t.hd.f, .int .i64 ct.t.hd.c1, .int .i64 ct.t.hd.r1, .bool ct.t.hd.p1, .bool ct.t.hd.q1, .int .i64 ct.t.hd.c2, .int .i64 ct.t.hd.r2, .bool ct.t.hd.p2, .bool ct.t.hd.q2, sl] 33) = W1) := hW1
  have HS : Hid (∀ wq, Kp W1 wq Nul → (wq.cell? ⟨w.heap.size, 0, none⟩ = some (.int .i64 c) ∧ wq.cell? ⟨w.heap.size, 1, none⟩ = some (.int .i64 r) ∧ wq.cell? ⟨w.heap.size + 1, 0, none⟩ = some (.int .i64 1) ∧ wq.cell? ⟨g, 0, none⟩ = some (.map none) ∧ Blk wq (w.heap.size + 1) (ct.cells sl) 33)) := fun wq k => ⟨(hA1.kp k (fun x => x)).cell rfl, (hA1.kp k (fun x => x)).cell rfl, by have := (hC1.kp k (fun x => x)).cell (i := 0) rfl; rw [hct] at this; exact this, ((hb.kp k1 (fun x => x)).kp k (fun x => x)).cell rfl, hC1.kp k (fun x => x)⟩
  have hglt0 : g < w.heap.size := hb.lt
  have HS2 : Hid (∀ wq, Kp W1 wq (fun i => i = g) → (wq.cell? ⟨w.heap.size, 0, none⟩ = some (.int .i64 c) ∧ wq.cell? ⟨w.heap.size, 1, none⟩ = some (.int .i64 r) ∧ Blk wq (w.heap.size + 1) (ct.cells sl) 33)) := fun wq k => ⟨(hA1.kp k (by show ¬ w.heap.size = g; omega)).cell rfl, (hA1.kp k (by show ¬ w.heap.size = g; omega)).cell rfl, hC1.kp k (by show ¬ w.heap.size + 1 = g; omega)⟩
  have HV : Hid (Calls Tryd.prog 9 #[ct.val sl] W1 fun e w' => e = .returned (.bool true) ∧ Kp W1 w' Nul) := hval W1 k1
  have HA : Hid (∀ w, Calls Tryd.prog 51 #[.agg #[.int .i64 c, .int .i64 r]] w fun e w' => e = .returned (.bool true) ∧ Kp w w' Nul) := fun w => (pValid_at c r w).mono fun e w' ⟨h1, h2⟩ => ⟨by rw [h1, hx], by rw [h2]; exact (Kp.refl w Nul).alloc _⟩
  have HCp : Hid (∀ wq, Kp W1 wq Nul → Calls Tryd.prog 14 #[ct.val sl] wq fun e w' => ∃ sl' fp, e = .returned ((cpC ct).val sl') ∧ Own w' wq.heap.size sl' (cpC ct).t fp ∧ Kp wq w' Nul) := fun wq k => hcp wq (k1.trans k)
  have HKeep : Hid (∀ wq sl', Kp W1 wq Nul → NdIn wq (fun b => W1.heap.size ≤ b ∧ b < wq.heap.size) sl' (cpC ct).t → Calls Tryd.prog 53 #[.pointer (some ⟨g, 0, none⟩), .agg #[.int .i64 c, .int .i64 r], (cpC ct).val sl'] wq fun e w' => e = .returned (.tuple #[]) ∧ GridIn w' (fun _ => True) g [((c, r), cpC ct)] ∧ Kp wq w' (fun i => i = g)) := fun wq sl' k hin => by
    have hglt : g < W1.heap.size := Nat.lt_of_lt_of_le hb.lt k1.size
    exact keep_first g c r hi.1 hi.2 (cpC ct) sl' (fun _ => True) wq ((hb.kp k1 (fun x => x)).kp k (fun x => x)) trivial (fun _ _ => trivial) (hin.mono (fun b hB hlt => ⟨rfl, trivial, by omega, hB.2⟩))
  have HK1 : Hid (Kp w W1 Nul) := k1
  have hlen : ∀ (w : World) ty, (Builtin.len_ #[75] ty #[.map none]).run Tryd.prog w = .ok (.int .i64 0) w := fun w ty => Maps.len_nil Tryd.underlying75 ty
  clear hval hcp hW1 k1 hA1 hC1 hb hx hi hct hglt0
  go_enter Tryd.func20, Tryd.ntmps20
  go_wp2_with (first | (refine load_content_law rfl (.tmp 5) rfl (w.heap.size + 1) rfl _ HC1.out rfl ?_) | fail)
  rw [HW1.out]
  refine HV.out.mono ?_
  rintro e w2 ⟨rfl, hk2⟩
  obtain ⟨a1, a2, a3, a4, _⟩ := HS.out w2 hk2
  have HK2 : Hid (Kp W1 w2 Nul) := hk2
  clear hk2 HV HC1 HW1
  go_wp2_with fail
  refine (HA.out _).mono ?_
  rintro e w3 ⟨rfl, hk3⟩
  obtain ⟨b1, b2, b3, b4, hB3⟩ := HS.out w3 (HK2.out.trans hk3)
  have HK3 : Hid (Kp W1 w3 Nul) := HK2.out.trans hk3
  have hl3 := hlen w3
  clear hk3 HA a1 a2 a3 a4 hB3 hlen HK2
  go_wp2_with fail
  refine wp_region_noPanic ?_
  refine wp_region_hel (fun w' : World => Kp W1 w' (fun i => i = g)) (by kernel_rfl) (HK3.out.of_nul.drew) (fun hHeld => ?_)
  have tok0 : True := trivial
  have tok1 : True := trivial
  iterate 2 ((first | (clear tok0; refine wpH_takes (i := 0) (v := ?_) (some 41) rfl rfl (by kernel_rfl) (by kernel_rfl) (by kernel_rfl) (fun _ _ _ h => h) (Or.inl ⟨by rfl, ?_⟩) hHeld ?_) | (clear tok1; refine wpH_takes (i := 1) (v := ?_) (some 42) rfl rfl (by kernel_rfl) (by kernel_rfl) (by kernel_rfl) (fun _ _ _ h => h) (Or.inl ⟨by rfl, ?_⟩) hHeld ?_)); rotate_left; (· intro w hSw; obtain ⟨s0, s1, _⟩ := HS2.out _ hSw; clear hSw; go_simp; try with_reducible rfl); simp only [Act.put, List.setIfInBounds_toArray, List.set_cons_zero, List.set_cons_succ])
  refine wpH_takes (i := 2) (v := ct.val sl) (some 43) rfl rfl (by kernel_rfl) (by kernel_rfl) (by kernel_rfl) (fun _ _ _ h => h) (Or.inl ⟨by rfl, fun w' hSw => exec_load_content _ rfl rfl (HS2.out w' hSw).2.2 rfl⟩) hHeld ?_
  simp only [Act.put, List.setIfInBounds_toArray, List.set_cons_zero, List.set_cons_succ]
  refine wpH_step (i := 3) (by kernel_rfl) rfl rfl (fun K hK => ?_)
  go_simp
  refine (HCp.out _ HK3.out.drew).mono ?_
  rintro e w4 ⟨sl', fp, rfl, hown, hk4⟩
  have hk14 : Kp W1 w4 Nul := HK3.out.drew.trans hk4
  have hin4 := hown.isIn.mono (w' := w4) (F' := fun b => W1.heap.size ≤ b ∧ b < w4.heap.size) (fun b hB _ => ⟨rfl, by have h1 := hB.1; have h2 := HK3.out.size; have h3 : w3.drew.heap.size = w3.heap.size := rfl; omega, hB.2⟩)
  refine hK.out _ _ hk14.of_nul (fun hHeld2 => ?_)
  clear hK K hown hk4
  refine wpH_step (i := 4) (by kernel_rfl) rfl rfl (fun K hK => ?_)
  go_simp
  refine (HKeep.out w4 sl' hk14 hin4).mono ?_
  rintro e w5 ⟨rfl, hg5, hk5⟩
  refine hK.out _ _ (hk14.of_nul.trans hk5) (fun _ => ?_)
  have HEND : Hid (GridIn w5 (fun _ => True) g [((c, r), cpC ct)] ∧ Kp w w5 (fun i => i = g)) := ⟨hg5, (HK1.out.trans hk14).of_nul.trans hk5⟩
  clear hK K hHeld hHeld2 hg5 hk5 hk14 hin4
  refine wpAnyH_done (by kernel_rfl) ?_ _
  refine NoPanic.normal ?_
  go_wp2_with fail
  go_ret
  exact ⟨rfl, HEND.out⟩
end Go.Proofs.YtjmbmapanmbnhaaDoor
