/- awake. -/
import Derived.Test.YtjmbmapanmbnhaaDoorB12
import Derived.Deep.RegionHeld3
namespace Go.Proofs.YtjmbmapanmbnhaaDoor
open Go.RowKit Go.Maps

set_option maxRecDepth 20000 in
set_option maxHeartbeats 8000000 in
theorem awake17 (w : World) : Calls Tryd.prog 7 #[] w fun e w' => e = .returned (.bool true) ∧ Kp w w' Nul := by
  have HNew : Hid (Calls Tryd.prog 18 #[] w fun e w' => e = .returned (.pointer (some ⟨w.heap.size, 0, none⟩)) ∧ w' = w.alloc (.cells #[.map none] 77)) := new_at w
  have HCell : Hid (∀ x y w, Calls Tryd.prog 21 #[.int .i64 x, .int .i64 y] w fun e w' => e = .returned (.agg #[.int .i64 x, .int .i64 y]) ∧ Kp w w' Nul) := cell_at
  have HNum : Hid (∀ w, Calls Tryd.prog 30 #[.float .f64 4619567317775286272] w fun e w' => e = .returned (ct7.val (.slice none 0 0)) ∧ Kp w w' Nul) := number_at
  have hb0 : Blk (w.alloc (.cells #[.map none] 77)) w.heap.size [.map none] 77 := Blk.new w [.map none] _
  have HB0 : Hid (∀ wq, Kp (w.alloc (.cells #[.map none] 77)) wq Nul → Blk wq w.heap.size [.map none] 77) := fun wq k => hb0.kp k (fun x => x)
  have HK0 : Hid (Kp w (w.alloc (.cells #[.map none] 77)) Nul) := (Kp.refl w Nul).alloc _
  have HPut1 : Hid (∀ wq, Kp (w.alloc (.cells #[.map none] 77)) wq Nul → Calls Tryd.prog 20 #[.pointer (some ⟨w.heap.size, 0, none⟩), .agg #[.int .i64 1, .int .i64 1], ct7.val (.slice none 0 0)] wq fun e w' => e = .returned (.int .i64 0) ∧ GridIn w' (fun _ => True) w.heap.size [((1, 1), ct7)] ∧ Kp w w' Nul) := fun wq k => by
    have h := put_first w.heap.size 1 1 (by decide) ct7 rfl (.slice none 0 0) wq (HB0.out wq k) (fun wz _ => valid_ct ct7 rfl (by decide) (by decide) true valid7 wz) (fun wz _ => copy_ct ct7 _ (fun _ => True) rfl (by decide) wz (zNd_in wz _))
    rw [cp7] at h
    refine h.mono ?_
    rintro e w' ⟨h1, h2, h3⟩
    exact ⟨h1, h2, (HK0.out.trans k).trans' h3 (fun i hi e => by have : i = w.heap.size := e; omega)⟩
  have HPut2 : Hid (∀ wq, Calls Tryd.prog 20 #[.pointer (some ⟨w.heap.size, 0, none⟩), .agg #[.int .i64 257, .int .i64 1], ct7.val (.slice none 0 0)] wq fun e w' => e = .returned (.int .i64 20) ∧ Kp wq w' Nul) := fun wq => put_no w.heap.size 257 1 ct7 (.slice none 0 0) true wq (fun _ => by decide) (fun wz _ => valid_ct ct7 rfl (by decide) (by decide) true valid7 wz)
  have HPut3 : Hid (∀ wq, Calls Tryd.prog 20 #[.pointer (some ⟨w.heap.size, 0, none⟩), .agg #[.int .i64 2, .int .i64 2], ct3.val (.slice none 0 0)] wq fun e w' => e = .returned (.int .i64 1) ∧ Kp wq w' Nul) := fun wq => put_no w.heap.size 2 2 ct3 (.slice none 0 0) false wq (fun h => by cases h) (fun wz _ => valid_ct ct3 rfl (by decide) (by decide) false valid3 wz)
  have HGet : Hid (∀ wq, GridIn wq (fun _ => True) w.heap.size [((1, 1), ct7)] → Calls Tryd.prog 28 #[.pointer (some ⟨w.heap.size, 0, none⟩), .agg #[.int .i64 1, .int .i64 1]] wq fun e w' => ∃ sl', e = .returned (ct7.val sl') ∧ sl'.oneCell' = true ∧ Kp wq w' Nul) := fun wq hg => by
    have hi : I64 1 := by unfold I64; omega
    obtain ⟨mv, v, b, hlk, h⟩ := lk_of hg hi hi
    rcases h with ⟨rfl, ct, sl, hmem, rfl, hin⟩ | ⟨_, _, h⟩
    · rw [List.mem_singleton] at hmem
      cases hmem
      have h2 := get_at w.heap.size 1 1 mv _ (cpC ct7) wq hlk (fun wz k => copy_ct ct7 sl (fun _ => True) rfl (by decide) wz (hin.kpn k))
      rw [cp7] at h2
      exact h2
    · exact absurd (List.mem_singleton.2 rfl) (h ct7)
  have HBd : Hid (∀ wq, GridIn wq (fun _ => True) w.heap.size [((1, 1), ct7)] → Calls Tryd.prog 27 #[.pointer (some ⟨w.heap.size, 0, none⟩)] wq fun e w' => e = .returned (.tuple #[.agg #[.int .i64 1, .int .i64 1, .int .i64 1, .int .i64 1], .bool true]) ∧ Kp wq w' Nul) := fun wq hg => bounds_one w.heap.size ct7 wq hg
  have HLen : Hid (∀ wq, GridIn wq (fun _ => True) w.heap.size [((1, 1), ct7)] → Calls Tryd.prog 22 #[.pointer (some ⟨w.heap.size, 0, none⟩)] wq fun e w' => e = .returned (.int .i64 1) ∧ w' = wq) := fun wq hg => len_at wq (fun _ => True) w.heap.size [((1, 1), ct7)] hg
  clear hb0
  go_enter Tryd.func7, Tryd.ntmps7
  go_wp2_with fail
  refine HNew.out.mono ?_
  rintro e w1 ⟨rfl, hz⟩
  have hk1 : Kp (w.alloc (.cells #[.map none] 77)) w1 Nul := by rw [hz]; exact Kp.refl _ _
  clear hz HNew
  go_wp2_with fail
  refine (HCell.out _ _ _).mono ?_
  rintro e w2 ⟨rfl, hk2⟩
  go_wp2_with fail
  refine (HNum.out _).mono ?_
  rintro e w3 ⟨rfl, hk3⟩
  have HK3 : Hid (Kp (w.alloc (.cells #[.map none] 77)) w3 Nul) := (hk1.trans hk2).trans hk3
  clear hk1 hk2 hk3
  go_wp2_with fail
  refine (HPut1.out _ HK3.out).mono ?_
  rintro e w4 ⟨rfl, hg4, hk4⟩
  have HG4 : Hid (GridIn w4 (fun _ => True) w.heap.size [((1, 1), ct7)]) := hg4
  have HK4 : Hid (Kp w w4 Nul) := hk4
  clear hg4 hk4 HK3 HPut1
  go_wp2_with fail
  refine (HCell.out _ _ _).mono ?_
  rintro e w5 ⟨rfl, hk5⟩
  go_wp2_with fail
  refine (HNum.out _).mono ?_
  rintro e w6 ⟨rfl, hk6⟩
  go_wp2_with fail
  refine (HPut2.out _).mono ?_
  rintro e w7 ⟨rfl, hk7⟩
  go_wp2_with fail
  refine (HCell.out _ _ _).mono ?_
  rintro e w8 ⟨rfl, hk8⟩
  go_wp2_with fail
  refine (HPut3.out _).mono ?_
  rintro e w9 ⟨rfl, hk9⟩
  go_wp2_with fail
  refine (HCell.out _ _ _).mono ?_
  rintro e w10 ⟨rfl, hk10⟩
  have hk410 : Kp w4 w10 Nul := ((((hk5.trans hk6).trans hk7).trans hk8).trans hk9).trans hk10
  have HG10 : Hid (GridIn w10 (fun _ => True) w.heap.size [((1, 1), ct7)]) := HG4.out.kp hk410
  have HK10 : Hid (Kp w w10 Nul) := HK4.out.trans hk410
  clear hk5 hk6 hk7 hk8 hk9 hk10 hk410 HG4 HK4 HPut2 HPut3 HNum
  go_wp2_with fail
  refine (HGet.out _ HG10.out).mono ?_
  rintro e w11 ⟨sl, rfl, hone, hk11⟩
  have HG11 : Hid (GridIn w11 (fun _ => True) w.heap.size [((1, 1), ct7)]) := HG10.out.kp hk11
  have HK11 : Hid (Kp w w11 Nul) := HK10.out.trans hk11
  have HONE : Hid (sl.oneCell' = true) := hone
  obtain ⟨W12, hW12⟩ : ∃ W12, w11.alloc (.cells (ct7.cells sl).toArray 33) = W12 := ⟨_, rfl⟩
  have hC12 : Blk W12 w11.heap.size (ct7.cells sl) 33 := by rw [← hW12]; exact Blk.new w11 _ _
  have k12 : Kp w11 W12 Nul := by rw [← hW12]; exact (Kp.refl w11 Nul).alloc _
  clear hk11 hone HG10 HK10 HGet
  go_wp2_with (refine wpList_store_new rfl 33 (.tmp 5) (.tmp 25) rfl _ _ _ _ _ (by simp) rfl rfl rfl infoContent (Ct.one ct7 HONE.out) ?_)
  refine (HBd.out _ (HG11.out.kp k12)).mono ?_
  rintro e w13 ⟨rfl, hk13⟩
  have hg13 := (HG11.out.kp k12).kp hk13
  have hC13 := hC12.kp hk13 (fun x => x)
  have hk013 : Kp w w13 Nul := (HK11.out.trans k12).trans hk13
  obtain ⟨W14, hW14⟩ : ∃ W14, w13.alloc (.cells #[.int .i64 1, .int .i64 1, .int .i64 1, .int .i64 1] 58) = W14 := ⟨_, rfl⟩
  have k14 : Kp w13 W14 Nul := by rw [← hW14]; exact (Kp.refl w13 Nul).alloc _
  have hA14 : Blk W14 w13.heap.size [.int .i64 1, .int .i64 1, .int .i64 1, .int .i64 1] 58 := by rw [← hW14]; exact Blk.new w13 [.int .i64 1, .int .i64 1, .int .i64 1, .int .i64 1] _
  have hC14 := hC13.kp k14 (fun x => x)
  have HS : Hid (∀ wq, Kp W14 wq Nul → (wq.cell? ⟨w11.heap.size, 2, none⟩ = some (.float .f64 4619567317775286272) ∧ wq.cell? ⟨w13.heap.size, 0, none⟩ = some (.int .i64 1) ∧ wq.cell? ⟨w13.heap.size, 1, none⟩ = some (.int .i64 1) ∧ wq.cell? ⟨w13.heap.size, 2, none⟩ = some (.int .i64 1) ∧ wq.cell? ⟨w13.heap.size, 3, none⟩ = some (.int .i64 1))) := fun wq k => ⟨(hC14.kp k (fun x => x)).cell rfl, (hA14.kp k (fun x => x)).cell rfl, (hA14.kp k (fun x => x)).cell rfl, (hA14.kp k (fun x => x)).cell rfl, (hA14.kp k (fun x => x)).cell rfl⟩
  have HLen14 : Hid (∀ wq, Kp W14 wq Nul → Calls Tryd.prog 22 #[.pointer (some ⟨w.heap.size, 0, none⟩)] wq fun e w' => e = .returned (.int .i64 1) ∧ Kp W14 w' Nul) := fun wq k => (HLen.out wq ((hg13.kp k14).kp k)).mono fun e w' ⟨h1, h2⟩ => ⟨h1, by rw [h2]; exact k⟩
  have HCell14 : Hid (∀ wq, Kp W14 wq Nul → Calls Tryd.prog 21 #[.int .i64 1, .int .i64 1] wq fun e w' => e = .returned (.agg #[.int .i64 1, .int .i64 1]) ∧ Kp W14 w' Nul) := fun wq k => (HCell.out 1 1 wq).mono fun e w' ⟨h1, h2⟩ => ⟨h1, k.trans h2⟩
  have HK14 : Hid (Kp w W14 Nul) := hk013.trans k14
  have hk0 : Kp W14 W14.drew Nul := (Kp.refl W14 Nul).drew
  have he := eql_area1
  have h7 := seven
  clear hk13 hg13 hC13 hk013 hC12 k12 hA14 hC14 HG11 HK11 HBd HLen HCell HONE k14 HB0 HK0
  go_wp2_with fail
  go_region_held3 (fun w' => w'.cell? ⟨w11.heap.size, 2, none⟩ = some (.float .f64 4619567317775286272) ∧ w'.cell? ⟨w13.heap.size, 0, none⟩ = some (.int .i64 1) ∧ w'.cell? ⟨w13.heap.size, 1, none⟩ = some (.int .i64 1) ∧ w'.cell? ⟨w13.heap.size, 2, none⟩ = some (.int .i64 1) ∧ w'.cell? ⟨w13.heap.size, 3, none⟩ = some (.int .i64 1))
    (exact HS.out _ (by assumption))
    (first
      | (go_at_call 22; refine (HLen14.out _ (by assumption)).mono ?_; rintro e wz ⟨rfl, hkz⟩)
      | (go_at_call 21; refine (HCell14.out _ (by assumption)).mono ?_; rintro e wz ⟨rfl, hkz⟩))
  all_goals
    go_wp2_with fail
    go_ret
    exact ⟨rfl, HK14.out.trans (by assumption)⟩
end Go.Proofs.YtjmbmapanmbnhaaDoor
