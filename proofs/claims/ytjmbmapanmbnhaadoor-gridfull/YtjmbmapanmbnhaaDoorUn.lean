/- awake: its contents and callees. -/
import Derived.Test.YtjmbmapanmbnhaaDoorUm
namespace Go.Proofs.YtjmbmapanmbnhaaDoor
open Go.RowKit Go.Maps

def ct7 : Ct := ⟨1, ⟨1, 4619567317775286272, ⟨#[]⟩, false, 0⟩, zNd⟩
def ct3 : Ct := ⟨3, ⟨0, 0, ⟨#[]⟩, false, 0⟩, zNd⟩
theorem zsize : zNd.size = 1 := by unfold zNd; rw [Nd.size, sizeL]
theorem cpy_zNd : cpy zNd = zNd := by
  unfold zNd
  rw [cpy, cpyL]
  rfl
theorem zeroN_z : zeroN zNd = true := by
  unfold zeroN zNd
  simp [tsame, hsame]
  try decide
theorem valid7 : validC ct7 false 0 = true := by
  have h1 : bareV ct7.v = true := by simp [bareV, ct7]
  have h2 : zeroN ct7.t = true := zeroN_z
  simp [validC, validV, h1, h2]
  simp [ct7]
theorem valid3 : validC ct3 false 0 = false := by simp [validC, ct3]
theorem cp7 : cpC ct7 = ct7 := by
  unfold cpC ct7
  simp only [cpy_zNd]
  congr 1
theorem valid_ct (ct : Ct) (ht : ct.t = zNd) (hk : ct.v.k ≠ 2) (hk2 : ct.k ≠ 2) (V : Bool) (hV : validC ct false 0 = V) (w : World) : Calls Tryd.prog 9 #[ct.val (.slice none 0 0)] w fun e w' => e = .returned (.bool V) ∧ Kp w w' Nul := by
  refine (gValid_at ct (.slice none 0 0) (fun _ => True) false 0 w (by rw [ht]; exact zNd_ok) (by rw [ht]; exact zNd_in w _) (fun _ h => absurd h hk) (fun h => absurd h hk2)).mono ?_
  rintro e w' ⟨h1, h2⟩
  rw [hV] at h1
  exact ⟨h1, Kp.of_below h2⟩
theorem copy_ct (ct : Ct) (sl : Value) (F : Nat → Prop) (ht : ct.t = zNd) (hx : ct.v.x < 18446744073709551616) (w : World) (hin : NdIn w F sl ct.t) : Calls Tryd.prog 14 #[ct.val sl] w fun e w' => ∃ sl' fp, e = .returned ((cpC ct).val sl') ∧ Own w' w.heap.size sl' (cpC ct).t fp ∧ Kp w w' Nul := by
  refine (gCopy_at ct sl F w hx (by rw [ht, zsize]; decide) (by rw [ht]; exact zNd_ok) hin).mono ?_
  rintro e w' ⟨sl', fp, h1, h2, h3⟩
  exact ⟨sl', fp, h1, h2, Kp.of_below h3⟩
set_option maxHeartbeats 1000000 in
theorem cell_at (x y : Int) (w : World) : Calls Tryd.prog 21 #[.int .i64 x, .int .i64 y] w fun e w' => e = .returned (.agg #[.int .i64 x, .int .i64 y]) ∧ Kp w w' Nul := by
  go_enter Tryd.func21, Tryd.ntmps21
  go_wp2_with fail
  refine bodyPost_ret (results_cell_row rfl _ _ w.heap.size 26 _ (0, 0) _ rfl (heap_alloc_new _ _) Tryd.underlying26 rfl (by kernel_rfl)) rfl ?_
  exact ⟨rfl, (Kp.refl w Nul).alloc _⟩
set_option maxRecDepth 20000 in
set_option maxHeartbeats 1000000 in
theorem number_at (w : World) : Calls Tryd.prog 30 #[.float .f64 4619567317775286272] w fun e w' => e = .returned (ct7.val (.slice none 0 0)) ∧ Kp w w' Nul := by
  go_enter Tryd.func30, Tryd.ntmps30
  go_wp2_with (refine wpList_store_new rfl 33 (.tmp 2) (.tmp 5) rfl _ _ _ _ _ (by simp) rfl rfl rfl infoContent (Ct.one ct7 (sl := .slice none 0 0) rfl) ?_)
  refine bodyPost_ret (results_cell_row rfl _ _ w.heap.size 33 _ (0, 0) _ rfl (heap_alloc_new _ _) Tryd.underlying33 rfl infoContent) rfl ?_
  exact ⟨rfl, (Kp.refl w Nul).alloc _⟩
theorem GridIn.kp {w w' : World} {F : Nat → Prop} {g : Nat} {L : List Cc} (h : GridIn w F g L) (k : Kp w w' Nul) : GridIn w' F g L := by
  obtain ⟨h0, h⟩ := h
  refine ⟨h0, ?_⟩
  rcases h with ⟨hb, he⟩ | ⟨m, D, hb, hFm, hne, hown, hm⟩
  · exact .inl ⟨(k.block g (Array.getElem?_eq_some_iff.1 hb).1 (fun x => x)).trans hb, he⟩
  · exact .inr ⟨m, D, (k.block g (Array.getElem?_eq_some_iff.1 hb).1 (fun x => x)).trans hb, hFm, hne, ownsMap_block hown (k.block m hown.lt (fun x => x)), ⟨hm.size, hm.rng, hm.keys, fun c' r' ct' h' => by obtain ⟨sl, e1, e2⟩ := hm.vals c' r' ct' h'; exact ⟨sl, e1, e2.kpn k⟩, hm.once⟩⟩
theorem eql_area1 (w : World) : (binOp .eql 58 (.agg #[.int .i64 1, .int .i64 1, .int .i64 1, .int .i64 1]) (.agg #[.int .i64 1, .int .i64 1, .int .i64 1, .int .i64 1])).run Tryd.prog w = .ok (.bool true) w := by simp [go_sem]
theorem seven : FloatKind.f64.format.order 4619567317775286272 4619567317775286272 = some .eq := by decide +kernel
end Go.Proofs.YtjmbmapanmbnhaaDoor
