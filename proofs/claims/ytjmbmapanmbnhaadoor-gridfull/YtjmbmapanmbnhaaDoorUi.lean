/- keep: a grid's first content. -/
import Derived.Test.YtjmbmapanmbnhaaDoorUd
import Derived.Test.YtjmbmapanmbnhaaDoorUk
import Derived.Test.YtjmbmapanmbnhaaDoorUx
namespace Go.Proofs.YtjmbmapanmbnhaaDoor
open Go.RowKit Go.Maps

/-- A variable that has a content, loaded whole. -/
theorem exec_load_content {o : Oper} {a : Act} {x : Operand} {g : Nat} {w : World} (cs : Array Value) (ho : o.op = .load 33 x) (hx : a.eval x = .pointer (some ⟨g, 0, none⟩)) (hg : w.heap[g]? = some (.cells cs 33 (0, 0))) (hcs : cs.size = 21) :
    (execOp a.eval o).run Tryd.prog w = .ok (.value (.agg cs)) w := by
  have hl := run_loadVar_row (P := Tryd.prog) w g 33 33 cs (0, 0) _ hg Tryd.underlying33 rfl (by rw [hcs]; exact infoContent)
  unfold execOp
  simp only [ho, hx, Instr.loadAt, Instr.sureAddr, Sem.run_bind, Sem.run_pure, Result.andThen_ok, hl]
set_option maxRecDepth 20000 in
set_option maxHeartbeats 8000000 in
theorem keep_first (g : Nat) (c r : Int) (hc : I64 c) (hr : I64 r) (ct : Ct) (sl : Value) (F : Nat → Prop) (w : World) (hb : Blk w g [.map none] 77) (hF : F g) (hFn : ∀ i, w.heap.size ≤ i → F i) (hin : NdIn w (fun b => F b ∧ b ≠ g ∧ b < w.heap.size) sl ct.t) :
    Calls Tryd.prog 53 #[.pointer (some ⟨g, 0, none⟩), .agg #[.int .i64 c, .int .i64 r], ct.val sl] w fun e w' => e = .returned (.tuple #[]) ∧ GridIn w' F g [((c, r), ct)] ∧ Kp w w' (fun i => i = g) := by
  have hkey := kl_key hc hr
  obtain ⟨W1, hW1⟩ : ∃ W1, (w.alloc (.cells #[.int .i64 c, .int .i64 r] 26)).alloc (.cells (ct.cells sl).toArray 33) = W1 := ⟨_, rfl⟩
  have k1 : Kp w W1 Nul := by rw [← hW1]; exact ((Kp.refl w Nul).alloc _).alloc _
  have s1 : W1.heap.size = w.heap.size + 1 + 1 := by rw [← hW1]; simp
  have hglt : g < w.heap.size := hb.lt
  have hA1 : Blk W1 w.heap.size [.int .i64 c, .int .i64 r] 26 := by rw [← hW1]; exact (Blk.new w [.int .i64 c, .int .i64 r] _).alloc _
  have hC1 : Blk W1 (w.heap.size + 1) (ct.cells sl) 33 := by
    have := Blk.new (w.alloc (.cells #[.int .i64 c, .int .i64 r] 26)) (ct.cells sl) 33
    rw [World.size_alloc] at this
    rw [← hW1]; exact this
  have hb1 := hb.kp k1 (fun x => x)
  obtain ⟨W2, hW2⟩ : ∃ W2, W1.alloc (.map #[] 0) = W2 := ⟨_, rfl⟩
  obtain ⟨W3, hW3⟩ : ∃ W3, W2.setCell ⟨g, 0, none⟩ (.map (some W1.heap.size)) = W3 := ⟨_, rfl⟩
  have k2 : Kp W1 W2 Nul := by rw [← hW2]; exact (Kp.refl W1 Nul).alloc _
  have hlne : W1.heap.size ≠ g := by omega
  have hown2 : W2.ownsMap Tryd.prog 26 rawE W1.heap.size 0 (.map []) := by rw [← hW2]; exact World.ownsMap_made W1 _ _ _
  have hown3 : W3.ownsMap Tryd.prog 26 rawE W1.heap.size 0 (.map []) := by rw [← hW3]; exact hown2.setCell hlne _
  have k3 : Kp W2 W3 (fun i => i = g) := by rw [← hW3]; exact (Kp.refl W2 _).setCell ⟨g, 0, none⟩ _ (.inr rfl)
  have hb2 := hb1.kp k2 (fun x => x)
  have hb3 : Blk W3 g [.map (some W1.heap.size)] 77 := by rw [← hW3]; exact hb2.set 0 _
  have hA3 := (hA1.kp k2 (fun x => x)).kp k3 (by show ¬ w.heap.size = g; omega)
  have hC3 := (hC1.kp k2 (fun x => x)).kp k3 (by show ¬ w.heap.size + 1 = g; omega)
  obtain ⟨W4, hrun, hown4, hturn⟩ := hown3.drew.store lawAddr Tryd.underlying75 (by decide) hkey (val := ct.val sl) (d := .held (ct.val sl)) (ps := []) rfl
  have k4 : Kp W3 W4 (fun i => i = W1.heap.size) := ((Kp.refl W3 _).drew).trans (Kp.of_turned hturn)
  have k03 : Kp w W3 (fun i => i = g) := (k1.trans k2).of_nul.trans' k3 (fun i _ e => e)
  have k04 : Kp w W4 (fun i => i = g) := k03.trans' k4 (fun i hi e => absurd e (by omega))
  have hin4 : NdIn W4 F sl ct.t := hin.mono (fun b hB _ => ⟨k04.block b hB.2.2 hB.2.1, hB.1⟩)
  have hHas := has_one (F := F) hc hr hin4
  have HEND : Hid (GridIn W4 F g [((c, r), ct)] ∧ Kp w W4 (fun i => i = g)) := ⟨⟨hF, .inr ⟨W1.heap.size, _, hb3.kp k4 (by show ¬ g = W1.heap.size; omega), hFn _ (by omega), hlne, ownsMap_le hown4 (by decide), hHas⟩⟩, k04⟩
  have HW1 : Hid ((w.alloc (.cells #[.int .i64 c, .int .i64 r] 26)).alloc (.cells (ct.cells sl).toArray 33) = W1) := hW1
  have HW2 : Hid (W1.alloc (.map #[] 0) = W2) := hW2
  have HW3 : Hid (W2.setCell ⟨g, 0, none⟩ (.map (some W1.heap.size)) = W3) := hW3
  have c1 : W1.cell? ⟨g, 0, none⟩ = some (.map none) := hb1.cell rfl
  have c2 : W2.cell? ⟨g, 0, none⟩ = some (.map none) := hb2.cell rfl
  have f2 : W2.frozen? ⟨g, 0, none⟩ = false := hb2.froz _
  have c3 : W3.cell? ⟨g, 0, none⟩ = some (.map (some W1.heap.size)) := hb3.cell rfl
  have c4 : W3.cell? ⟨w.heap.size, 0, none⟩ = some (.int .i64 c) := hA3.cell rfl
  have c5 : W3.cell? ⟨w.heap.size, 1, none⟩ = some (.int .i64 r) := hA3.cell rfl
  have hmm : (Instr.makeMap 75 none).run Tryd.prog W1 = .ok (.map (some W1.heap.size)) W2 := by rw [← hW2]; rfl
  have HS3 : Hid (W3.cell? ⟨g, 0, none⟩ = some (.map (some (w.heap.size + 1 + 1))) ∧ W3.cell? ⟨w.heap.size, 0, none⟩ = some (.int .i64 c) ∧ W3.cell? ⟨w.heap.size, 1, none⟩ = some (.int .i64 r) ∧ Blk W3 (w.heap.size + 1) (ct.cells sl) 33) := ⟨by rw [← s1]; exact c3, c4, c5, hC3⟩
  have HS4 : Hid (W4.cell? ⟨g, 0, none⟩ = some (.map (some (w.heap.size + 1 + 1))) ∧ W4.cell? ⟨w.heap.size, 0, none⟩ = some (.int .i64 c) ∧ W4.cell? ⟨w.heap.size, 1, none⟩ = some (.int .i64 r) ∧ Blk W4 (w.heap.size + 1) (ct.cells sl) 33) := ⟨by rw [← s1]; exact (hb3.kp k4 (by show ¬ g = W1.heap.size; omega)).cell rfl, (hA3.kp k4 (by show ¬ w.heap.size = W1.heap.size; omega)).cell rfl, (hA3.kp k4 (by show ¬ w.heap.size = W1.heap.size; omega)).cell rfl, hC3.kp k4 (by show ¬ w.heap.size + 1 = W1.heap.size; omega)⟩
  rw [s1] at HW3 c3 hmm hrun
  have hnil := eq_nilmap none
  clear hb hin hF hFn hW2 hW3 k1 k2 k3 k4 k03 k04 hA1 hC1 hA3 hC3 hb1 hb2 hb3 hown2 hown3 hown4 hturn hHas hin4 hkey s1 hlne hglt
  go_enter Tryd.func53, Tryd.ntmps53
  go_wp2_with fail
  rw [HW3.out]
  clear HW1 HW2 HW3 hW1
  refine wp_region_noPanic ?_
  refine wp_region_hel (fun w' : World => w'.cell? ⟨g, 0, none⟩ = some (.map (some (w.heap.size + 1 + 1))) ∧ w'.cell? ⟨w.heap.size, 0, none⟩ = some (.int .i64 c) ∧ w'.cell? ⟨w.heap.size, 1, none⟩ = some (.int .i64 r) ∧ Blk w' (w.heap.size + 1) (ct.cells sl) 33) (by kernel_rfl) (HS3.out) (fun hHeld => ?_)
  have tok0 : True := trivial
  have tok1 : True := trivial
  have tok2 : True := trivial
  have tok3 : True := trivial
  have tok4 : True := trivial
  iterate 5 ((first | (clear tok0; refine wpH_takes (i := 0) (v := ?_) (some 15) rfl rfl (by kernel_rfl) (by kernel_rfl) (by kernel_rfl) (fun _ _ _ h => h) (Or.inl ⟨by rfl, ?_⟩) hHeld ?_) | (clear tok1; refine wpH_takes (i := 1) (v := ?_) (some 16) rfl rfl (by kernel_rfl) (by kernel_rfl) (by kernel_rfl) (fun _ _ _ h => h) (Or.inl ⟨by rfl, ?_⟩) hHeld ?_) | (clear tok2; refine wpH_takes (i := 2) (v := ?_) (some 17) rfl rfl (by kernel_rfl) (by kernel_rfl) (by kernel_rfl) (fun _ _ _ h => h) (Or.inl ⟨by rfl, ?_⟩) hHeld ?_) | (clear tok3; refine wpH_takes (i := 3) (v := ?_) (some 18) rfl rfl (by kernel_rfl) (by kernel_rfl) (by kernel_rfl) (fun _ _ _ h => h) (Or.inl ⟨by rfl, ?_⟩) hHeld ?_) | (clear tok4; refine wpH_takes (i := 4) (v := ?_) (some 19) rfl rfl (by kernel_rfl) (by kernel_rfl) (by kernel_rfl) (fun _ _ _ h => h) (Or.inl ⟨by rfl, ?_⟩) hHeld ?_)); rotate_left; (· intro w hSw; obtain ⟨s0, s1, s2, s3⟩ := hSw; clear s3; go_simp; try with_reducible rfl); simp only [Act.put, List.setIfInBounds_toArray, List.set_cons_zero, List.set_cons_succ])
  refine wpH_takes (i := 5) (v := ct.val sl) (some 20) rfl rfl (by kernel_rfl) (by kernel_rfl) (by kernel_rfl) (fun _ _ _ h => h) (Or.inl ⟨by rfl, fun w' hSw => exec_load_content _ rfl rfl hSw.2.2.2 rfl⟩) hHeld ?_
  simp only [Act.put, List.setIfInBounds_toArray, List.set_cons_zero, List.set_cons_succ]
  generalize ct.val sl = V at *
  refine wpH_step (i := 6) (by kernel_rfl) rfl rfl (fun K hK => ?_)
  go_simp
  refine hK.out _ _ HS4.out (fun _ => ?_)
  clear hK K hHeld
  refine wpAnyH_done (by kernel_rfl) ?_ _
  refine NoPanic.normal ?_
  go_wp2_with fail
  go_end0
  exact ⟨rfl, HEND.out⟩
end Go.Proofs.YtjmbmapanmbnhaaDoor
