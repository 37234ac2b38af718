/-Move: ofMove's closure. -/
import Derived.Test.YtecjfnkakodebaaGreatDoorQwMvd
import Derived.Test.YtecjfnkakodebaaGreatDoorQwMvn
import Derived.Test.YtecjfnkakodebaaGreatDoorQwMvg
namespace Go.Proofs.YtecjfnkakodebaaGreatDoor
open Go.RowKit
theorem row_lo {w : World} {b : Nat} {x y z u : Value} {t : TypeId} (h : Blk w b [x, y, z, u] t) : w.rangeAt b 0 [x, y] := rangeAt_mid (pre := []) (l := [x, y]) (post := [z, u]) (by unfold Blk at h; rw[h]; rfl)
theorem row_hi {w : World} {b : Nat} {x y z u : Value} {t : TypeId} (h : Blk w b [x, y, z, u] t) : w.rangeAt b 2 [z, u] := rangeAt_mid (pre := [x, y]) (l := [z, u]) (post := []) (by unfold Blk at h; rw[h]; rfl)
set_option maxRecDepth 20000 in
set_option maxHeartbeats 8000000 in
theorem ofMove1_core (xf xt : Nat) (a1 a2 a3 a4 A1 A2 A3 A4 B1 B2 B3 B4 X1 X2 X3 X4 : Int) (p q : Bool) (w : World) (hk : MvIn w xf xt ((A1, A2), (A3, A4)) ((B1, B2), (B3, B4)))
  (HP : Hid (∀w, Calls Tryz.prog 104 #[.agg #[.int .i64 a1, .int .i64 a2, .int .i64 a3, .int .i64 a4], .agg #[.int .i64 A1, .int .i64 A2, .int .i64 A3, .int .i64 A4]] w fun e w' => e = .returned (.bool p)/\Kp w w' Nul))
  (HQ : Hid (∀w, Calls Tryz.prog 104 #[.agg #[.int .i64 a1, .int .i64 a2, .int .i64 a3, .int .i64 a4], .agg #[.int .i64 B1, .int .i64 B2, .int .i64 B3, .int .i64 B4]] w fun e w' => e = .returned (.bool q)/\Kp w w' Nul))
  (HX : Hid (p = true->∀w, Calls Tryz.prog 56 #[.agg #[.int .i64 a1, .int .i64 a2], .agg #[.int .i64 A1, .int .i64 A2], .agg #[.int .i64 B1, .int .i64 B2]] w fun e w' => e = .returned (.agg #[.int .i64 X1, .int .i64 X2])/\Kp w w' Nul))
  (HY : Hid (p = true->∀w, Calls Tryz.prog 56 #[.agg #[.int .i64 a3, .int .i64 a4], .agg #[.int .i64 A1, .int .i64 A2], .agg #[.int .i64 B1, .int .i64 B2]] w fun e w' => e = .returned (.agg #[.int .i64 X3, .int .i64 X4])/\Kp w w' Nul)) :
  Calls Tryz.prog 103 #[.agg #[.int .i64 a1, .int .i64 a2, .int .i64 a3, .int .i64 a4], .pointer (some ⟨xf, 0, none⟩), .pointer (some ⟨xt, 0, none⟩)] w fun e w' => e = .returned (if p then .tuple #[.agg #[.int .i64 X1, .int .i64 X2, .int .i64 X3, .int .i64 X4], .bool true] else if q then .tuple #[.agg #[.int .i64 0, .int .i64 0, .int .i64 0, .int .i64 0], .bool false] else .tuple #[.agg #[.int .i64 a1, .int .i64 a2, .int .i64 a3, .int .i64 a4], .bool true])/\Kp w w' Nul := by
 obtain⟨W, hW⟩ : ∃W, (w.alloc (.cells #[.int .i64 a1, .int .i64 a2, .int .i64 a3, .int .i64 a4] 34)).alloc (.cells #[.int .i64 0, .int .i64 0, .int .i64 0, .int .i64 0] 34) = W := ⟨_, rfl⟩
 have HW : Hid ((w.alloc (.cells #[.int .i64 a1, .int .i64 a2, .int .i64 a3, .int .i64 a4] 34)).alloc (.cells #[.int .i64 0, .int .i64 0, .int .i64 0, .int .i64 0] 34) = W) := hW
 have kW : Hid (Kp w W Nul) := by show Kp _ _ _; rw[<- hW]; exact((Kp.refl w Nul).alloc _).alloc _
 have HB0 : Hid (∀wq, Kp W wq Nul->Blk wq w.heap.size [.int .i64 a1, .int .i64 a2, .int .i64 a3, .int .i64 a4] 34) := fun wq k => by
  have : Blk W w.heap.size [.int .i64 a1, .int .i64 a2, .int .i64 a3, .int .i64 a4] 34 := by rw[<- hW]; exact(Blk.new w _ _).alloc _
  exact this.kp k (fun x => x)
 have HB1 : Hid (∀wq, Kp W wq Nul->Blk wq (w.heap.size + 1) [.int .i64 0, .int .i64 0, .int .i64 0, .int .i64 0] 34) := fun wq k => by
  have : Blk W (w.heap.size + 1) [.int .i64 0, .int .i64 0, .int .i64 0, .int .i64 0] 34 := by rw[<- hW]; exact blk2
  exact this.kp k (fun x => x)
 have HXf : Hid (∀wq, Kp W wq Nul->Blk wq xf [.int .i64 A1, .int .i64 A2, .int .i64 A3, .int .i64 A4] 34) := fun wq k => hk.c.kp (kW.out.trans k) (fun x => x)
 have HXt : Hid (∀wq, Kp W wq Nul->Blk wq xt [.int .i64 B1, .int .i64 B2, .int .i64 B3, .int .i64 B4] 34) := fun wq k => hk.r.kp (kW.out.trans k) (fun x => x)
 have g0 : ((w.alloc (.cells #[.int .i64 a1, .int .i64 a2, .int .i64 a3, .int .i64 a4] 34)).alloc (.cells #[.int .i64 0, .int .i64 0, .int .i64 0, .int .i64 0] 34)).cell? ⟨xf, 0, none⟩ = some (.int .i64 A1) := by rw[hW]; exact(HXf.out W (Kp.refl _ _)).cell rfl
 have g1 : ((w.alloc (.cells #[.int .i64 a1, .int .i64 a2, .int .i64 a3, .int .i64 a4] 34)).alloc (.cells #[.int .i64 0, .int .i64 0, .int .i64 0, .int .i64 0] 34)).cell? ⟨xf, 1, none⟩ = some (.int .i64 A2) := by rw[hW]; exact(HXf.out W (Kp.refl _ _)).cell rfl
 have g2 : ((w.alloc (.cells #[.int .i64 a1, .int .i64 a2, .int .i64 a3, .int .i64 a4] 34)).alloc (.cells #[.int .i64 0, .int .i64 0, .int .i64 0, .int .i64 0] 34)).cell? ⟨xf, 2, none⟩ = some (.int .i64 A3) := by rw[hW]; exact(HXf.out W (Kp.refl _ _)).cell rfl
 have g3 : ((w.alloc (.cells #[.int .i64 a1, .int .i64 a2, .int .i64 a3, .int .i64 a4] 34)).alloc (.cells #[.int .i64 0, .int .i64 0, .int .i64 0, .int .i64 0] 34)).cell? ⟨xf, 3, none⟩ = some (.int .i64 A4) := by rw[hW]; exact(HXf.out W (Kp.refl _ _)).cell rfl
 have HL : Hid (¬xf = w.heap.size + 1/\¬xt = w.heap.size + 1) := ⟨by have := hk.c.lt; omega, by have := hk.r.lt; omega⟩
 clear hW hk
 go_enter Tryz.func103, Tryz.ntmps103
 go_wp2_with fail
 rw[HW.out] at g0 g1 g2 g3 ⊢
 clear HW g0 g1 g2 g3
 refine(HP.out W).mono ?_
 rintro e w1 ⟨rfl, hk1⟩
 have K1 : Hid (Kp W w1 Nul) := hk1
 have f0 : w1.cell? ⟨xt, 0, none⟩ = some (.int .i64 B1) := (HXt.out w1 hk1).cell rfl
 have f1 : w1.cell? ⟨xt, 1, none⟩ = some (.int .i64 B2) := (HXt.out w1 hk1).cell rfl
 have f2 : w1.cell? ⟨xt, 2, none⟩ = some (.int .i64 B3) := (HXt.out w1 hk1).cell rfl
 have f3 : w1.cell? ⟨xt, 3, none⟩ = some (.int .i64 B4) := (HXt.out w1 hk1).cell rfl
 have d0 : w1.cell? ⟨w.heap.size, 0, none⟩ = some (.int .i64 a1) := (HB0.out w1 hk1).cell rfl
 have d1 : w1.cell? ⟨w.heap.size, 1, none⟩ = some (.int .i64 a2) := (HB0.out w1 hk1).cell rfl
 have d2 : w1.cell? ⟨w.heap.size, 2, none⟩ = some (.int .i64 a3) := (HB0.out w1 hk1).cell rfl
 have d3 : w1.cell? ⟨w.heap.size, 3, none⟩ = some (.int .i64 a4) := (HB0.out w1 hk1).cell rfl
 clear hk1
 cases p
 ·clear HX HY
  go_wp2_with fail
  refine(HQ.out w1).mono ?_
  rintro e w2 ⟨rfl, hk2⟩
  have K2 : Hid (Kp W w2 Nul) := K1.out.trans hk2
  clear f0 f1 f2 f3 d0 d1 d2 d3
  have f0 : w2.cell? ⟨xt, 0, none⟩ = some (.int .i64 B1) := (HXt.out w2 K2.out).cell rfl
  have f1 : w2.cell? ⟨xt, 1, none⟩ = some (.int .i64 B2) := (HXt.out w2 K2.out).cell rfl
  have f2 : w2.cell? ⟨xt, 2, none⟩ = some (.int .i64 B3) := (HXt.out w2 K2.out).cell rfl
  have f3 : w2.cell? ⟨xt, 3, none⟩ = some (.int .i64 B4) := (HXt.out w2 K2.out).cell rfl
  have d0 : w2.cell? ⟨w.heap.size, 0, none⟩ = some (.int .i64 a1) := (HB0.out w2 K2.out).cell rfl
  have d1 : w2.cell? ⟨w.heap.size, 1, none⟩ = some (.int .i64 a2) := (HB0.out w2 K2.out).cell rfl
  have d2 : w2.cell? ⟨w.heap.size, 2, none⟩ = some (.int .i64 a3) := (HB0.out w2 K2.out).cell rfl
  have d3 : w2.cell? ⟨w.heap.size, 3, none⟩ = some (.int .i64 a4) := (HB0.out w2 K2.out).cell rfl
  clear hk2
  cases q
  ·go_wp2_with (first | (refine wpList_store_blk rfl 34 (.tmp 4) (.tmp 30) rfl (w.heap.size + 1) _ [.int .i64 a1, .int .i64 a2, .int .i64 a3, .int .i64 a4] _ (HB1.out _ K2.out) rfl rfl rfl infoArea (ints4 _ _ _ _) ?_; intro Y hbY hkY) | fail)
   refine bodyPost_ret (results_row_tmp rfl _ _ (w.heap.size + 1) 34 _ (0, 0) _ rfl hbY Tryz.underlying34 rfl infoArea) rfl ?_
   exact⟨rfl, (kW.out.trans K2.out).trans' hkY (fun i hi e => by have e' : i = w.heap.size + 1 := e; omega)⟩
  ·go_wp2_with (first | (refine wpList_store_blk rfl 34 (.tmp 4) (.tmp 29) rfl (w.heap.size + 1) _ [.int .i64 0, .int .i64 0, .int .i64 0, .int .i64 0] _ (HB1.out _ K2.out) rfl rfl rfl infoArea (ints4 _ _ _ _) ?_; intro Y hbY hkY) | fail)
   refine bodyPost_ret (results_row_tmp rfl _ _ (w.heap.size + 1) 34 _ (0, 0) _ rfl hbY Tryz.underlying34 rfl infoArea) rfl ?_
   exact⟨rfl, (kW.out.trans K2.out).trans' hkY (fun i hi e => by have e' : i = w.heap.size + 1 := e; omega)⟩
 ·go_wp2_with fail
  have HX' : Hid (∀w, Calls Tryz.prog 56 #[.agg #[.int .i64 a1, .int .i64 a2], .agg #[.int .i64 A1, .int .i64 A2], .agg #[.int .i64 B1, .int .i64 B2]] w fun e w' => e = .returned (.agg #[.int .i64 X1, .int .i64 X2])/\Kp w w' Nul) := fun w => HX.out (by trivial) w
  have HY' : Hid (∀w, Calls Tryz.prog 56 #[.agg #[.int .i64 a3, .int .i64 a4], .agg #[.int .i64 A1, .int .i64 A2], .agg #[.int .i64 B1, .int .i64 B2]] w fun e w' => e = .returned (.agg #[.int .i64 X3, .int .i64 X4])/\Kp w w' Nul) := fun w => HY.out (by trivial) w
  clear HX HY f0 f1 f2 f3 d0 d1 d2 d3 HP HQ
  have HS0 : Hid (∀wq, Kp W wq (fun i => i = (w.heap.size + 1))->Blk wq w.heap.size [.int .i64 a1, .int .i64 a2, .int .i64 a3, .int .i64 a4] 34) := fun wq k => (HB0.out W (Kp.refl _ _)).kp k (fun e => by have e' : w.heap.size = w.heap.size + 1 := e; omega)
  have HSf : Hid (∀wq, Kp W wq (fun i => i = (w.heap.size + 1))->Blk wq xf [.int .i64 A1, .int .i64 A2, .int .i64 A3, .int .i64 A4] 34) := fun wq k => (HXf.out W (Kp.refl _ _)).kp k (fun e => HL.out.1 e)
  have HSt : Hid (∀wq, Kp W wq (fun i => i = (w.heap.size + 1))->Blk wq xt [.int .i64 B1, .int .i64 B2, .int .i64 B3, .int .i64 B4] 34) := fun wq k => (HXt.out W (Kp.refl _ _)).kp k (fun e => HL.out.2 e)
  refine wp_region_hel (fun w' : World => Kp W w' (fun i => i = (w.heap.size + 1))) (by kernel_rfl) (K1.out.of_nul.drew) (fun hHeld => ?_)
  refine wpH_takes (i := 0) (v := .pointer (some ⟨w.heap.size, 0, none⟩)) (some 10) rfl rfl (by kernel_rfl) (fun _ _ _ h => h) (Or.inl ⟨by rfl, ?_⟩) hHeld ?_
  ·intro w' hSw; clear hSw; go_simp
  simp only[Act.put,Sz0,Sz1,Sz2]
  refine wpH_takes (i := 1) (v := .agg #[.int .i64 a1, .int .i64 a2]) (some 11) rfl rfl (by kernel_rfl) (fun _ _ _ h => h) (Or.inl ⟨by rfl, fun w' hSw => exec_load_row 32 (.tmp 10) rfl w.heap.size 0 rfl [.int .i64 a1, .int .i64 a2] _ (row_lo (HS0.out w' hSw)) Tryz.underlying32 rfl infoAddr2'⟩) hHeld ?_
  simp only[Act.put,Sz0,Sz1,Sz2]
  refine wpH_takes (i := 2) (v := .pointer (some ⟨xf, 0, none⟩)) (some 12) rfl rfl (by kernel_rfl) (fun _ _ _ h => h) (Or.inl ⟨by rfl, ?_⟩) hHeld ?_
  ·intro w' hSw; clear hSw; go_simp
  simp only[Act.put,Sz0,Sz1,Sz2]
  refine wpH_takes (i := 3) (v := .agg #[.int .i64 A1, .int .i64 A2]) (some 13) rfl rfl (by kernel_rfl) (fun _ _ _ h => h) (Or.inl ⟨by rfl, fun w' hSw => exec_load_row 32 (.tmp 12) rfl xf 0 rfl [.int .i64 A1, .int .i64 A2] _ (row_lo (HSf.out w' hSw)) Tryz.underlying32 rfl infoAddr2'⟩) hHeld ?_
  simp only[Act.put,Sz0,Sz1,Sz2]
  refine wpH_takes (i := 4) (v := .pointer (some ⟨xt, 0, none⟩)) (some 14) rfl rfl (by kernel_rfl) (fun _ _ _ h => h) (Or.inl ⟨by rfl, ?_⟩) hHeld ?_
  ·intro w' hSw; clear hSw; go_simp
  simp only[Act.put,Sz0,Sz1,Sz2]
  refine wpH_takes (i := 5) (v := .agg #[.int .i64 B1, .int .i64 B2]) (some 15) rfl rfl (by kernel_rfl) (fun _ _ _ h => h) (Or.inl ⟨by rfl, fun w' hSw => exec_load_row 32 (.tmp 14) rfl xt 0 rfl [.int .i64 B1, .int .i64 B2] _ (row_lo (HSt.out w' hSw)) Tryz.underlying32 rfl infoAddr2'⟩) hHeld ?_
  simp only[Act.put,Sz0,Sz1,Sz2]
  refine wpH_takes (i := 7) (v := .pointer (some ⟨w.heap.size, 2, none⟩)) (some 17) rfl rfl (by kernel_rfl) (fun _ _ _ h => h) (Or.inl ⟨by rfl, ?_⟩) hHeld ?_
  ·intro w' hSw; clear hSw; go_simp
  simp only[Act.put,Sz0,Sz1,Sz2]
  refine wpH_takes (i := 8) (v := .agg #[.int .i64 a3, .int .i64 a4]) (some 18) rfl rfl (by kernel_rfl) (fun _ _ _ h => h) (Or.inl ⟨by rfl, fun w' hSw => exec_load_row 32 (.tmp 17) rfl w.heap.size 2 rfl [.int .i64 a3, .int .i64 a4] _ (row_hi (HS0.out w' hSw)) Tryz.underlying32 rfl infoAddr2'⟩) hHeld ?_
  simp only[Act.put,Sz0,Sz1,Sz2]
  refine wpH_takes (i := 9) (v := .pointer (some ⟨xf, 0, none⟩)) (some 19) rfl rfl (by kernel_rfl) (fun _ _ _ h => h) (Or.inl ⟨by rfl, ?_⟩) hHeld ?_
  ·intro w' hSw; clear hSw; go_simp
  simp only[Act.put,Sz0,Sz1,Sz2]
  refine wpH_takes (i := 10) (v := .agg #[.int .i64 A1, .int .i64 A2]) (some 20) rfl rfl (by kernel_rfl) (fun _ _ _ h => h) (Or.inl ⟨by rfl, fun w' hSw => exec_load_row 32 (.tmp 19) rfl xf 0 rfl [.int .i64 A1, .int .i64 A2] _ (row_lo (HSf.out w' hSw)) Tryz.underlying32 rfl infoAddr2'⟩) hHeld ?_
  simp only[Act.put,Sz0,Sz1,Sz2]
  refine wpH_takes (i := 11) (v := .pointer (some ⟨xt, 0, none⟩)) (some 21) rfl rfl (by kernel_rfl) (fun _ _ _ h => h) (Or.inl ⟨by rfl, ?_⟩) hHeld ?_
  ·intro w' hSw; clear hSw; go_simp
  simp only[Act.put,Sz0,Sz1,Sz2]
  refine wpH_takes (i := 12) (v := .agg #[.int .i64 B1, .int .i64 B2]) (some 22) rfl rfl (by kernel_rfl) (fun _ _ _ h => h) (Or.inl ⟨by rfl, fun w' hSw => exec_load_row 32 (.tmp 21) rfl xt 0 rfl [.int .i64 B1, .int .i64 B2] _ (row_lo (HSt.out w' hSw)) Tryz.underlying32 rfl infoAddr2'⟩) hHeld ?_
  simp only[Act.put,Sz0,Sz1,Sz2]
  refine wpH_step (i := 6) (by kernel_rfl) rfl rfl (fun K hK => ?_)
  go_simp
  refine(HX'.out _).mono ?_
  rintro e v1 ⟨rfl, hk2⟩
  have L1 : Hid (Kp W v1 Nul) := K1.out.drew.trans hk2
  refine hK.out _ _ L1.out.of_nul (fun hHeld => ?_)
  clear hK K hk2
  (try simp only[Act.put,Sz0,Sz1,Sz2])
  refine wpH_step (i := 13) (by kernel_rfl) rfl rfl (fun K hK => ?_)
  go_simp
  refine(HY'.out _).mono ?_
  rintro e v2 ⟨rfl, hk2⟩
  have L2 : Hid (Kp W v2 Nul) := L1.out.trans hk2
  refine hK.out _ _ L2.out.of_nul (fun hHeld => ?_)
  clear hK K hk2
  (try simp only[Act.put,Sz0,Sz1,Sz2])
  refine wpH_step (i := 14) (by kernel_rfl) rfl rfl (fun K hK => ?_)
  go_simp
  refine hK.out _ _ L2.out.of_nul (fun hHeld => ?_)
  clear hK K
  (try simp only[Act.put,Sz0,Sz1,Sz2])
  refine wpH_step (i := 15) (by kernel_rfl) rfl rfl (fun K hK => ?_)
  refine wp_store_blk 34 (.tmp 4) (.tmp 24) rfl (w.heap.size + 1) _ [.int .i64 X1, .int .i64 X2, .int .i64 X3, .int .i64 X4] _ (HB1.out _ L2.out) rfl rfl rfl infoArea (ints4 _ _ _ _) ?_
  intro Y hbY hkY
  have LY : Hid (Kp W Y (fun i => i = (w.heap.size + 1))) := L2.out.of_nul.trans hkY
  refine hK.out _ _ LY.out (fun hHeld => ?_)
  clear hK K
  (try simp only[Act.put])
  refine wpH_step (i := 16) (by kernel_rfl) rfl rfl (fun K hK => ?_)
  go_simp
  refine hK.out _ _ LY.out (fun hHeld => ?_)
  clear hK K
  (try simp only[Act.put,Sz0,Sz1,Sz2])
  refine wpAnyH_done (by kernel_rfl) ?_ _
  go_wp2_with fail
  refine bodyPost_ret (results_row_tmp rfl _ _ (w.heap.size + 1) 34 _ (0, 0) _ rfl hbY Tryz.underlying34 rfl infoArea) rfl ?_
  exact⟨rfl, kW.out.trans' LY.out (fun i hi e => by have e' : i = w.heap.size + 1 := e; omega)⟩
theorem ofMove1_at (xf xt : Nat) (A B : Ar4) (h : mvOk A B) (a : Ar4) (w : World) (hk : MvIn w xf xt A B) :
  Calls Tryz.prog 103 #[.agg #[.int .i64 a.1.1, .int .i64 a.1.2, .int .i64 a.2.1, .int .i64 a.2.2], .pointer (some ⟨xf, 0, none⟩), .pointer (some ⟨xt, 0, none⟩)] w fun e w' => e = .returned (fateV (mvF A B a))/\Kp w w' Nul := by
 obtain⟨⟨a1, a2⟩, a3, a4⟩ := a
 have hA := (ar_ok A).1 h.a
 have hB := (ar_ok B).1 h.b
 have key : (inB A (a1, a2)&&inB A (a3, a4)) = true->(A.1.1<=a1/\a1<=A.2.1/\A.1.2<=a2/\a2<=A.2.2)/\(A.1.1<=a3/\a3<=A.2.1/\A.1.2<=a4/\a4<=A.2.2) := fun q => by
  rw[Bool.and_eq_true, inB_iff h.a, inB_iff h.a] at q
  exact q
 obtain⟨⟨A1, A2⟩, A3, A4⟩ := A
 obtain⟨⟨B1, B2⟩, B3, B4⟩ := B
 simp only at hA hB key
 have hc := ofMove1_core xf xt a1 a2 a3 a4 A1 A2 A3 A4 B1 B2 B3 B4 (a1 + B1-A1) (a2 + B2-A2) (a3 + B1-A1) (a4 + B2-A2) _ _ w hk (fun w => within_at' a1 a2 a3 a4 A1 A2 A3 A4 w) (fun w => within_at' a1 a2 a3 a4 B1 B2 B3 B4 w)
  (fun q w => by
   have k := key q
   have := moved_at a1 a2 A1 A2 B1 B2 w
   rw[mvd_val (by unfold I64; omega), mvd_val (by unfold I64; omega)] at this
   exact this)
  (fun q w => by
   have k := key q
   have := moved_at a3 a4 A1 A2 B1 B2 w
   rw[mvd_val (by unfold I64; omega), mvd_val (by unfold I64; omega)] at this
   exact this)
 refine hc.mono (fun e w' q => ⟨q.1.trans ?_, q.2⟩)
 unfold mvF inB mvP
 simp only
 cases (inA A1 A2 A3 A4 a1 a2&&inA A1 A2 A3 A4 a3 a4) <;> cases (inA B1 B2 B3 B4 a1 a2&&inA B1 B2 B3 B4 a3 a4) <;> rfl
end Go.Proofs.YtecjfnkakodebaaGreatDoor
namespace Go.Proofs.YtecjfnkakodebaaGreatDoor.OfM
open Go.RowKit Go.Maps
set_option maxRecDepth 20000 in
set_option maxHeartbeats 16000000 in
theorem named_ln (xf xt : Nat) (ArA ArB : Ar4) (h : mvOk ArA ArB) (hd : Hd) (ts : List Nd) (sl : Value) (hs : sl.oneCell' = true) (w : World) (hk : MvIn w xf xt ArA ArB) :
  Calls Tryz.prog 142 #[.agg #[fateM xf xt], hd.val sl] w fun e w' => e = .returned ((nmN (mvF ArA ArB) (.mk hd ts)).hd.val (nmS (mvF ArA ArB) hd sl))/\Kp w w' Nul := by
 have HF : Hid (∀(a : Ar4) wq, Kp w wq Nul->Calls Tryz.prog 103 #[.agg #[.int .i64 a.1.1, .int .i64 a.1.2, .int .i64 a.2.1, .int .i64 a.2.2], .pointer (some ⟨xf, 0, none⟩), .pointer (some ⟨xt, 0, none⟩)] wq fun e w' => e = .returned (fateV (mvF ArA ArB a))/\Kp wq w' Nul) := fun a wq k => ofMove1_at xf xt ArA ArB h a wq (hk.kp k)
 have HA : Hid (∀(c r : Int) w, Calls Tryz.prog 105 #[.agg #[.int .i64 c, .int .i64 r]] w fun e w' => e = .returned (.agg #[.int .i64 c, .int .i64 r, .int .i64 c, .int .i64 r])/\Kp w w' Nul) := fun c r w => alone_at c r w
 generalize mvF ArA ArB = f at *
 clear hk h
 have HO : Hid (sl.oneCell' = true) := hs
 obtain⟨k, o', x, s, bb, ff, c1, r1, p1, q1, c2, r2, p2, q2⟩ := hd
 clear hs
 by_cases hk6 : k = 6
 ·subst hk6
  have hAr : nmA (Hd.mk 6 o' x s bb ff c1 r1 p1 q1 c2 r2 p2 q2) = ((c1, r1), (c2, r2)) := by unfold nmA; rw[if_pos rfl]
  have hFr := HF.out ((c1, r1), (c2, r2))
  have HV : Hid (fateV (f ((c1, r1), (c2, r2))) = fateV (f ((c1, r1), (c2, r2)))) := rfl
  rw[show nmN f (Nd.mk (Hd.mk 6 o' x s bb ff c1 r1 p1 q1 c2 r2 p2 q2) ts) = (match f ((c1, r1), (c2, r2)) with | none => ndF | some a => .mk (toH (Hd.mk 6 o' x s bb ff c1 r1 p1 q1 c2 r2 p2 q2) a) ts) by unfold nmN; rw[<- hAr]; rfl]
  rw[show nmS f (Hd.mk 6 o' x s bb ff c1 r1 p1 q1 c2 r2 p2 q2) sl = (match f ((c1, r1), (c2, r2)) with | none => .slice none 0 0 | some _ => sl) by unfold nmS; rw[<- hAr]; rfl]
  have HFr : Hid (∀wq, Kp w wq Nul->Calls Tryz.prog 103 #[.agg #[.int .i64 c1, .int .i64 r1, .int .i64 c2, .int .i64 r2], .pointer (some ⟨xf, 0, none⟩), .pointer (some ⟨xt, 0, none⟩)] wq fun e w' => e = .returned (fateV (f ((c1, r1), (c2, r2))))/\Kp wq w' Nul) := hFr
  clear hAr hFr HF HV
  generalize f ((c1, r1), (c2, r2)) = R at *
  go_enter Tryz.func142, Tryz.ntmps142
  go_wp2_with fail
  obtain⟨W0, hW0⟩ : ∃W0, ((w.alloc (.cells #[fateM xf xt] 115)).alloc (.cells #[.int .i64 6, .int .i64 o', .float .f64 x, .string s, .bool bb, .int .i64 ff, .int .i64 c1, .int .i64 r1, .bool p1, .bool q1, .int .i64 c2, .int .i64 r2, .bool p2, .bool q2, sl] 48)).alloc (.cells #[.int .i64 0, .int .i64 0, .float .f64 0, .string ⟨#[]⟩, .bool false, .int .i64 0, .int .i64 0, .int .i64 0, .bool false, .bool false, .int .i64 0, .int .i64 0, .bool false, .bool false, .slice none 0 0] 48) = W0 := ⟨_, rfl⟩
  rw[hW0]
  have k0 : Kp w W0 Nul := by rw[<- hW0]; exact(((Kp.refl w Nul).alloc _).alloc _).alloc _
  have b0 : Blk W0 w.heap.size [fateM xf xt] 115 := by rw[<- hW0]; exact((Blk.new w _ _).alloc _).alloc _
  have b1 : Blk W0 (w.heap.size + 1) [.int .i64 6, .int .i64 o', .float .f64 x, .string s, .bool bb, .int .i64 ff, .int .i64 c1, .int .i64 r1, .bool p1, .bool q1, .int .i64 c2, .int .i64 r2, .bool p2, .bool q2, sl] 48 := by
   rw[<- hW0]
   have := Blk.new (w.alloc (.cells #[fateM xf xt] 115)) [.int .i64 6, .int .i64 o', .float .f64 x, .string s, .bool bb, .int .i64 ff, .int .i64 c1, .int .i64 r1, .bool p1, .bool q1, .int .i64 c2, .int .i64 r2, .bool p2, .bool q2, sl] 48
   rw[World.size_alloc] at this
   exact this.alloc _
  have b2 : Blk W0 (w.heap.size + 1 + 1) [.int .i64 0, .int .i64 0, .float .f64 0, .string ⟨#[]⟩, .bool false, .int .i64 0, .int .i64 0, .int .i64 0, .bool false, .bool false, .int .i64 0, .int .i64 0, .bool false, .bool false, .slice none 0 0] 48 := by
   rw[<- hW0]
   have := Blk.new ((w.alloc (.cells #[fateM xf xt] 115)).alloc (.cells #[.int .i64 6, .int .i64 o', .float .f64 x, .string s, .bool bb, .int .i64 ff, .int .i64 c1, .int .i64 r1, .bool p1, .bool q1, .int .i64 c2, .int .i64 r2, .bool p2, .bool q2, sl] 48)) [.int .i64 0, .int .i64 0, .float .f64 0, .string ⟨#[]⟩, .bool false, .int .i64 0, .int .i64 0, .int .i64 0, .bool false, .bool false, .int .i64 0, .int .i64 0, .bool false, .bool false, .slice none 0 0] 48
   rw[World.size_alloc, World.size_alloc] at this
   exact this
  clear hW0
  refine(HA.out c1 r1 _).mono ?_
  rintro e w1 ⟨rfl, hk1⟩
  have K1 : Hid (Kp w w1 Nul) := k0.trans hk1
  have hsz : w.heap.size + 3<=w1.heap.size := by have := (b2.kp hk1 (fun x => x)).lt; omega
  obtain⟨W1, hW1⟩ : ∃W1, w1.alloc (.cells #[.int .i64 c1, .int .i64 r1, .int .i64 c1, .int .i64 r1] 34) = W1 := ⟨_, rfl⟩
  have k1a : Kp w1 W1 Nul := by rw[<- hW1]; exact(Kp.refl _ _).alloc _
  have bA : Blk W1 w1.heap.size [.int .i64 c1, .int .i64 r1, .int .i64 c1, .int .i64 r1] 34 := by rw[<- hW1]; exact Blk.new _ _ _
  have k01 := hk1.trans k1a
  have HB0 : Hid (Blk W1 w.heap.size [fateM xf xt] 115) := b0.kp k01 (fun x => x)
  have HB1 : Hid (Blk W1 (w.heap.size + 1) [.int .i64 6, .int .i64 o', .float .f64 x, .string s, .bool bb, .int .i64 ff, .int .i64 c1, .int .i64 r1, .bool p1, .bool q1, .int .i64 c2, .int .i64 r2, .bool p2, .bool q2, sl] 48) := b1.kp k01 (fun x => x)
  have HB2 : Hid (Blk W1 (w.heap.size + 1 + 1) [.int .i64 0, .int .i64 0, .float .f64 0, .string ⟨#[]⟩, .bool false, .int .i64 0, .int .i64 0, .int .i64 0, .bool false, .bool false, .int .i64 0, .int .i64 0, .bool false, .bool false, .slice none 0 0] 48) := b2.kp k01 (fun x => x)
  have HBA : Hid (Blk W1 w1.heap.size [.int .i64 c1, .int .i64 r1, .int .i64 c1, .int .i64 r1] 34) := bA
  have KW1 : Hid (Kp w W1 Nul) := K1.out.trans k1a
  have HSZ : Hid (w.heap.size + 3<=w1.heap.size) := hsz
  have d0 : W1.cell? ⟨(w.heap.size + 1), 0, none⟩ = some (.int .i64 6) := HB1.out.cell rfl
  have d10 : W1.cell? ⟨(w.heap.size + 1), 10, none⟩ = some (.int .i64 c2) := HB1.out.cell rfl
  have d11 : W1.cell? ⟨(w.heap.size + 1), 11, none⟩ = some (.int .i64 r2) := HB1.out.cell rfl
  clear k0 b0 b1 b2 hk1 hsz k1a bA k01
  go_wp2_with (first | (refine wpList_store_part rfl 32 (.tmp 17) (.tmp 16) rfl w1.heap.size 2 [.int .i64 c1, .int .i64 r1] [.int .i64 c1, .int .i64 r1] [] [.int .i64 c2, .int .i64 r2] _ HBA.out rfl rfl rfl rfl infoAddr2' (ints2 _ _) ?_; intro W2 hbA2 hk2; have e0 : W2.cell? ⟨w1.heap.size, 0, none⟩ = some (.int .i64 c1) := hbA2.cell rfl; have e1 : W2.cell? ⟨w1.heap.size, 1, none⟩ = some (.int .i64 r1) := hbA2.cell rfl; have e2 : W2.cell? ⟨w1.heap.size, 2, none⟩ = some (.int .i64 c2) := hbA2.cell rfl; have e3 : W2.cell? ⟨w1.heap.size, 3, none⟩ = some (.int .i64 r2) := hbA2.cell rfl; have f0 : W2.cell? ⟨w.heap.size, 0, none⟩ = some (fateM xf xt) := (HB0.out.kp hk2 (Blk.ne HB0.out HBA.out (by decide))).cell rfl) | fail)
  have HC0 : Hid (Blk W2 w.heap.size [fateM xf xt] 115) := HB0.out.kp hk2 (Blk.ne HB0.out HBA.out (by decide))
  have HC1 : Hid (Blk W2 (w.heap.size + 1) [.int .i64 6, .int .i64 o', .float .f64 x, .string s, .bool bb, .int .i64 ff, .int .i64 c1, .int .i64 r1, .bool p1, .bool q1, .int .i64 c2, .int .i64 r2, .bool p2, .bool q2, sl] 48) := HB1.out.kp hk2 (Blk.ne HB1.out HBA.out (by decide))
  have HC2 : Hid (Blk W2 (w.heap.size + 1 + 1) [.int .i64 0, .int .i64 0, .float .f64 0, .string ⟨#[]⟩, .bool false, .int .i64 0, .int .i64 0, .int .i64 0, .bool false, .bool false, .int .i64 0, .int .i64 0, .bool false, .bool false, .slice none 0 0] 48) := HB2.out.kp hk2 (Blk.ne HB2.out HBA.out (by decide))
  have HCA : Hid (Blk W2 w1.heap.size [.int .i64 c1, .int .i64 r1, .int .i64 c2, .int .i64 r2] 34) := hbA2
  have KW2 : Hid (Kp w W2 Nul) := KW1.out.trans' hk2 (fun i hi e => by have : i = w1.heap.size := e; have := HSZ.out; omega)
  clear hk2 hbA2 HB0 HB1 HB2 HBA KW1 d0 d10 d11 e0 e1 e2 e3 f0
  refine(HFr.out _ KW2.out).mono ?_
  rintro e W3 ⟨rfl, hk3⟩
  have HD1 : Hid (Blk W3 (w.heap.size + 1) [.int .i64 6, .int .i64 o', .float .f64 x, .string s, .bool bb, .int .i64 ff, .int .i64 c1, .int .i64 r1, .bool p1, .bool q1, .int .i64 c2, .int .i64 r2, .bool p2, .bool q2, sl] 48) := HC1.out.kp hk3 (fun x => x)
  have HD2 : Hid (Blk W3 (w.heap.size + 1 + 1) [.int .i64 0, .int .i64 0, .float .f64 0, .string ⟨#[]⟩, .bool false, .int .i64 0, .int .i64 0, .int .i64 0, .bool false, .bool false, .int .i64 0, .int .i64 0, .bool false, .bool false, .slice none 0 0] 48) := HC2.out.kp hk3 (fun x => x)
  have HDA : Hid (Blk W3 w1.heap.size [.int .i64 c1, .int .i64 r1, .int .i64 c2, .int .i64 r2] 34) := HCA.out.kp hk3 (fun x => x)
  have KW3 : Hid (Kp w W3 Nul) := KW2.out.trans hk3
  clear hk3 HC0 HC1 HC2 HCA KW2 HFr HA
  have LE : Hid (∀i, i = (w.heap.size + 1)∨i = (w.heap.size + 1 + 1)∨i = w1.heap.size->¬i<w.heap.size) := fun i hi => by have := HSZ.out; omega
  cases R with
  | none =>
   simp only[fateV, fateA, Option.isSome]
   go_wp2_with (first
    | (refine wpList_store_blk rfl 34 (.tmp 5) (.tmp 23) rfl w1.heap.size _ [.int .i64 0, .int .i64 0, .int .i64 0, .int .i64 0] _ HDA.out rfl rfl rfl infoArea (ints4 _ _ _ _) ?_; intro W4 hbA4 hk4; have HE2 : Hid (Blk W4 (w.heap.size + 1 + 1) [.int .i64 0, .int .i64 0, .float .f64 0, .string ⟨#[]⟩, .bool false, .int .i64 0, .int .i64 0, .int .i64 0, .bool false, .bool false, .int .i64 0, .int .i64 0, .bool false, .bool false, .slice none 0 0] 48) := HD2.out.kp hk4 (Blk.ne HD2.out HDA.out (by decide)))
    | (refine wpList_store_blk rfl 48 (.tmp 4) (.tmp 27) rfl (w.heap.size + 1 + 1) _ [.int .i64 4, .int .i64 0, .float .f64 0, .string ⟨#[]⟩, .bool false, .int .i64 4, .int .i64 0, .int .i64 0, .bool false, .bool false, .int .i64 0, .int .i64 0, .bool false, .bool false, .slice none 0 0] _ HE2.out rfl rfl rfl infoNode (Hd.one ⟨4, 0, 0, ⟨#[]⟩, false, 4, 0, 0, false, false, 0, 0, false, false⟩ rfl) ?_; intro W5 hb5 hk5)
    | fail)
   refine bodyPost_ret (results_cell_row rfl _ _ (w.heap.size + 1 + 1) 48 _ (0, 0) _ rfl hb5 Tryz.underlying48 rfl infoNode) rfl ?_
   refine⟨rfl, (KW3.out.trans' hk4 (fun i hi e => LE.out i (.inr (.inr e)) hi)).trans' hk5 (fun i hi e => LE.out i (.inr (.inl e)) hi)⟩
  | some b =>
   obtain⟨⟨b1, s1⟩, ⟨b2, s2⟩⟩ := b
   simp only[fateV, fateA, Option.isSome]
   go_wp2_with (first
    | (refine wpList_store_blk rfl 34 (.tmp 5) (.tmp 23) rfl w1.heap.size _ [.int .i64 b1, .int .i64 s1, .int .i64 b2, .int .i64 s2] _ HDA.out rfl rfl rfl infoArea (ints4 _ _ _ _) ?_; intro W4 hbA4 hk4; have HE1 : Hid (Blk W4 (w.heap.size + 1) [.int .i64 6, .int .i64 o', .float .f64 x, .string s, .bool bb, .int .i64 ff, .int .i64 c1, .int .i64 r1, .bool p1, .bool q1, .int .i64 c2, .int .i64 r2, .bool p2, .bool q2, sl] 48) := HD1.out.kp hk4 (Blk.ne HD1.out HDA.out (by decide)); have HE2 : Hid (Blk W4 (w.heap.size + 1 + 1) [.int .i64 0, .int .i64 0, .float .f64 0, .string ⟨#[]⟩, .bool false, .int .i64 0, .int .i64 0, .int .i64 0, .bool false, .bool false, .int .i64 0, .int .i64 0, .bool false, .bool false, .slice none 0 0] 48) := HD2.out.kp hk4 (Blk.ne HD2.out HDA.out (by decide)); have e0 : W4.cell? ⟨w1.heap.size, 0, none⟩ = some (.int .i64 b1) := hbA4.cell rfl; have e1 : W4.cell? ⟨w1.heap.size, 1, none⟩ = some (.int .i64 s1) := hbA4.cell rfl)
    | (refine wpList_store_part rfl 32 (.tmp 31) (.tmp 29) rfl (w.heap.size + 1) 6 [.int .i64 6, .int .i64 o', .float .f64 x, .string s, .bool bb, .int .i64 ff] [.int .i64 c1, .int .i64 r1] [.bool p1, .bool q1, .int .i64 c2, .int .i64 r2, .bool p2, .bool q2, sl] [.int .i64 b1, .int .i64 s1] _ HE1.out rfl rfl rfl rfl infoAddr2' (ints2 _ _) ?_; intro W5 hb5 hk5; have g0 : W5.cell? ⟨(w.heap.size + 1), 0, none⟩ = some (.int .i64 6) := hb5.cell rfl; have HF2 : Hid (Blk W5 (w.heap.size + 1 + 1) [.int .i64 0, .int .i64 0, .float .f64 0, .string ⟨#[]⟩, .bool false, .int .i64 0, .int .i64 0, .int .i64 0, .bool false, .bool false, .int .i64 0, .int .i64 0, .bool false, .bool false, .slice none 0 0] 48) := HE2.out.kp hk5 (by show ¬(w.heap.size + 1 + 1) = (w.heap.size + 1); omega); have hbA5 := hbA4.kp hk5 (Blk.ne hbA4 HE1.out (by decide)); have e2 : W5.cell? ⟨w1.heap.size, 2, none⟩ = some (.int .i64 b2) := hbA5.cell rfl; have e3 : W5.cell? ⟨w1.heap.size, 3, none⟩ = some (.int .i64 s2) := hbA5.cell rfl)
    | (refine wpList_store_part rfl 32 (.tmp 38) (.tmp 36) rfl (w.heap.size + 1) 10 [.int .i64 6, .int .i64 o', .float .f64 x, .string s, .bool bb, .int .i64 ff, .int .i64 b1, .int .i64 s1, .bool p1, .bool q1] [.int .i64 c2, .int .i64 r2] [.bool p2, .bool q2, sl] [.int .i64 b2, .int .i64 s2] _ hb5 rfl rfl rfl rfl infoAddr2' (ints2 _ _) ?_; intro W6 hb6 hk6; have HG1 : Hid (Blk W6 (w.heap.size + 1) [.int .i64 6, .int .i64 o', .float .f64 x, .string s, .bool bb, .int .i64 ff, .int .i64 b1, .int .i64 s1, .bool p1, .bool q1, .int .i64 b2, .int .i64 s2, .bool p2, .bool q2, sl] 48) := hb6; have HG2 : Hid (Blk W6 (w.heap.size + 1 + 1) [.int .i64 0, .int .i64 0, .float .f64 0, .string ⟨#[]⟩, .bool false, .int .i64 0, .int .i64 0, .int .i64 0, .bool false, .bool false, .int .i64 0, .int .i64 0, .bool false, .bool false, .slice none 0 0] 48) := HF2.out.kp hk6 (by show ¬(w.heap.size + 1 + 1) = (w.heap.size + 1); omega))
    | (refine wpList_load_mid rfl 48 (.tmp 3) rfl (w.heap.size + 1) 0 rfl [.int .i64 6, .int .i64 o', .float .f64 x, .string s, .bool bb, .int .i64 ff, .int .i64 b1, .int .i64 s1, .bool p1, .bool q1, .int .i64 b2, .int .i64 s2, .bool p2, .bool q2, sl] _ (blk_range HG1.out) Tryz.underlying48 rfl infoNode ?_)
    | (refine wpList_store_blk rfl 48 (.tmp 4) (.tmp 39) rfl (w.heap.size + 1 + 1) _ [.int .i64 6, .int .i64 o', .float .f64 x, .string s, .bool bb, .int .i64 ff, .int .i64 b1, .int .i64 s1, .bool p1, .bool q1, .int .i64 b2, .int .i64 s2, .bool p2, .bool q2, sl] _ HG2.out rfl rfl rfl infoNode (Hd.one ⟨6, o', x, s, bb, ff, b1, s1, p1, q1, b2, s2, p2, q2⟩ HO.out) ?_; intro W7 hb7 hk7)
    | fail)
   refine bodyPost_ret (results_cell_row rfl _ _ (w.heap.size + 1 + 1) 48 _ (0, 0) _ rfl hb7 Tryz.underlying48 rfl infoNode) rfl ?_
   exact⟨rfl, (((KW3.out.trans' hk4 (fun i hi e => LE.out i (.inr (.inr e)) hi)).trans' hk5 (fun i hi e => LE.out i (.inl e) hi)).trans' hk6 (fun i hi e => LE.out i (.inl e) hi)).trans' hk7 (fun i hi e => LE.out i (.inr (.inl e)) hi)⟩
 ·have hAr : nmA (Hd.mk k o' x s bb ff c1 r1 p1 q1 c2 r2 p2 q2) = ((c1, r1), (c1, r1)) := by unfold nmA; rw[if_neg (show ¬k = 6 from hk6)]
  have hFr := HF.out ((c1, r1), (c1, r1))
  have HV : Hid (fateV (f ((c1, r1), (c1, r1))) = fateV (f ((c1, r1), (c1, r1)))) := rfl
  rw[show nmN f (Nd.mk (Hd.mk k o' x s bb ff c1 r1 p1 q1 c2 r2 p2 q2) ts) = (match f ((c1, r1), (c1, r1)) with | none => ndF | some a => .mk (toH (Hd.mk k o' x s bb ff c1 r1 p1 q1 c2 r2 p2 q2) a) ts) by unfold nmN; rw[<- hAr]; rfl]
  rw[show nmS f (Hd.mk k o' x s bb ff c1 r1 p1 q1 c2 r2 p2 q2) sl = (match f ((c1, r1), (c1, r1)) with | none => .slice none 0 0 | some _ => sl) by unfold nmS; rw[<- hAr]; rfl]
  have HFr : Hid (∀wq, Kp w wq Nul->Calls Tryz.prog 103 #[.agg #[.int .i64 c1, .int .i64 r1, .int .i64 c1, .int .i64 r1], .pointer (some ⟨xf, 0, none⟩), .pointer (some ⟨xt, 0, none⟩)] wq fun e w' => e = .returned (fateV (f ((c1, r1), (c1, r1))))/\Kp wq w' Nul) := hFr
  clear hAr hFr HF HV
  generalize f ((c1, r1), (c1, r1)) = R at *
  go_enter Tryz.func142, Tryz.ntmps142
  go_wp2_with fail
  obtain⟨W0, hW0⟩ : ∃W0, ((w.alloc (.cells #[fateM xf xt] 115)).alloc (.cells #[.int .i64 k, .int .i64 o', .float .f64 x, .string s, .bool bb, .int .i64 ff, .int .i64 c1, .int .i64 r1, .bool p1, .bool q1, .int .i64 c2, .int .i64 r2, .bool p2, .bool q2, sl] 48)).alloc (.cells #[.int .i64 0, .int .i64 0, .float .f64 0, .string ⟨#[]⟩, .bool false, .int .i64 0, .int .i64 0, .int .i64 0, .bool false, .bool false, .int .i64 0, .int .i64 0, .bool false, .bool false, .slice none 0 0] 48) = W0 := ⟨_, rfl⟩
  rw[hW0]
  have k0 : Kp w W0 Nul := by rw[<- hW0]; exact(((Kp.refl w Nul).alloc _).alloc _).alloc _
  have b0 : Blk W0 w.heap.size [fateM xf xt] 115 := by rw[<- hW0]; exact((Blk.new w _ _).alloc _).alloc _
  have b1 : Blk W0 (w.heap.size + 1) [.int .i64 k, .int .i64 o', .float .f64 x, .string s, .bool bb, .int .i64 ff, .int .i64 c1, .int .i64 r1, .bool p1, .bool q1, .int .i64 c2, .int .i64 r2, .bool p2, .bool q2, sl] 48 := by
   rw[<- hW0]
   have := Blk.new (w.alloc (.cells #[fateM xf xt] 115)) [.int .i64 k, .int .i64 o', .float .f64 x, .string s, .bool bb, .int .i64 ff, .int .i64 c1, .int .i64 r1, .bool p1, .bool q1, .int .i64 c2, .int .i64 r2, .bool p2, .bool q2, sl] 48
   rw[World.size_alloc] at this
   exact this.alloc _
  have b2 : Blk W0 (w.heap.size + 1 + 1) [.int .i64 0, .int .i64 0, .float .f64 0, .string ⟨#[]⟩, .bool false, .int .i64 0, .int .i64 0, .int .i64 0, .bool false, .bool false, .int .i64 0, .int .i64 0, .bool false, .bool false, .slice none 0 0] 48 := by
   rw[<- hW0]
   have := Blk.new ((w.alloc (.cells #[fateM xf xt] 115)).alloc (.cells #[.int .i64 k, .int .i64 o', .float .f64 x, .string s, .bool bb, .int .i64 ff, .int .i64 c1, .int .i64 r1, .bool p1, .bool q1, .int .i64 c2, .int .i64 r2, .bool p2, .bool q2, sl] 48)) [.int .i64 0, .int .i64 0, .float .f64 0, .string ⟨#[]⟩, .bool false, .int .i64 0, .int .i64 0, .int .i64 0, .bool false, .bool false, .int .i64 0, .int .i64 0, .bool false, .bool false, .slice none 0 0] 48
   rw[World.size_alloc, World.size_alloc] at this
   exact this
  clear hW0
  refine(HA.out c1 r1 _).mono ?_
  rintro e w1 ⟨rfl, hk1⟩
  have K1 : Hid (Kp w w1 Nul) := k0.trans hk1
  have hsz : w.heap.size + 3<=w1.heap.size := by have := (b2.kp hk1 (fun x => x)).lt; omega
  obtain⟨W1, hW1⟩ : ∃W1, w1.alloc (.cells #[.int .i64 c1, .int .i64 r1, .int .i64 c1, .int .i64 r1] 34) = W1 := ⟨_, rfl⟩
  have k1a : Kp w1 W1 Nul := by rw[<- hW1]; exact(Kp.refl _ _).alloc _
  have bA : Blk W1 w1.heap.size [.int .i64 c1, .int .i64 r1, .int .i64 c1, .int .i64 r1] 34 := by rw[<- hW1]; exact Blk.new _ _ _
  have k01 := hk1.trans k1a
  have HB0 : Hid (Blk W1 w.heap.size [fateM xf xt] 115) := b0.kp k01 (fun x => x)
  have HB1 : Hid (Blk W1 (w.heap.size + 1) [.int .i64 k, .int .i64 o', .float .f64 x, .string s, .bool bb, .int .i64 ff, .int .i64 c1, .int .i64 r1, .bool p1, .bool q1, .int .i64 c2, .int .i64 r2, .bool p2, .bool q2, sl] 48) := b1.kp k01 (fun x => x)
  have HB2 : Hid (Blk W1 (w.heap.size + 1 + 1) [.int .i64 0, .int .i64 0, .float .f64 0, .string ⟨#[]⟩, .bool false, .int .i64 0, .int .i64 0, .int .i64 0, .bool false, .bool false, .int .i64 0, .int .i64 0, .bool false, .bool false, .slice none 0 0] 48) := b2.kp k01 (fun x => x)
  have HBA : Hid (Blk W1 w1.heap.size [.int .i64 c1, .int .i64 r1, .int .i64 c1, .int .i64 r1] 34) := bA
  have KW1 : Hid (Kp w W1 Nul) := K1.out.trans k1a
  have HSZ : Hid (w.heap.size + 3<=w1.heap.size) := hsz
  have d0 : W1.cell? ⟨(w.heap.size + 1), 0, none⟩ = some (.int .i64 k) := HB1.out.cell rfl
  have d10 : W1.cell? ⟨(w.heap.size + 1), 10, none⟩ = some (.int .i64 c2) := HB1.out.cell rfl
  have d11 : W1.cell? ⟨(w.heap.size + 1), 11, none⟩ = some (.int .i64 r2) := HB1.out.cell rfl
  clear k0 b0 b1 b2 hk1 hsz k1a bA k01
  have e0 : W1.cell? ⟨w1.heap.size, 0, none⟩ = some (.int .i64 c1) := HBA.out.cell rfl
  have e1 : W1.cell? ⟨w1.heap.size, 1, none⟩ = some (.int .i64 r1) := HBA.out.cell rfl
  have e2 : W1.cell? ⟨w1.heap.size, 2, none⟩ = some (.int .i64 c1) := HBA.out.cell rfl
  have e3 : W1.cell? ⟨w1.heap.size, 3, none⟩ = some (.int .i64 r1) := HBA.out.cell rfl
  have f0 : W1.cell? ⟨w.heap.size, 0, none⟩ = some (fateM xf xt) := HB0.out.cell rfl
  go_wp2_with fail
  have HC0 := HB0
  have HC1 := HB1
  have HC2 := HB2
  have HCA := HBA
  have KW2 := KW1
  clear HB0 HB1 HB2 HBA KW1 d0 d10 d11 e0 e1 e2 e3 f0
  refine(HFr.out _ KW2.out).mono ?_
  rintro e W3 ⟨rfl, hk3⟩
  have HD1 : Hid (Blk W3 (w.heap.size + 1) [.int .i64 k, .int .i64 o', .float .f64 x, .string s, .bool bb, .int .i64 ff, .int .i64 c1, .int .i64 r1, .bool p1, .bool q1, .int .i64 c2, .int .i64 r2, .bool p2, .bool q2, sl] 48) := HC1.out.kp hk3 (fun x => x)
  have HD2 : Hid (Blk W3 (w.heap.size + 1 + 1) [.int .i64 0, .int .i64 0, .float .f64 0, .string ⟨#[]⟩, .bool false, .int .i64 0, .int .i64 0, .int .i64 0, .bool false, .bool false, .int .i64 0, .int .i64 0, .bool false, .bool false, .slice none 0 0] 48) := HC2.out.kp hk3 (fun x => x)
  have HDA : Hid (Blk W3 w1.heap.size [.int .i64 c1, .int .i64 r1, .int .i64 c1, .int .i64 r1] 34) := HCA.out.kp hk3 (fun x => x)
  have KW3 : Hid (Kp w W3 Nul) := KW2.out.trans hk3
  clear hk3 HC0 HC1 HC2 HCA KW2 HFr HA
  have LE : Hid (∀i, i = (w.heap.size + 1)∨i = (w.heap.size + 1 + 1)∨i = w1.heap.size->¬i<w.heap.size) := fun i hi => by have := HSZ.out; omega
  cases R with
  | none =>
   simp only[fateV, fateA, Option.isSome]
   go_wp2_with (first
    | (refine wpList_store_blk rfl 34 (.tmp 5) (.tmp 23) rfl w1.heap.size _ [.int .i64 0, .int .i64 0, .int .i64 0, .int .i64 0] _ HDA.out rfl rfl rfl infoArea (ints4 _ _ _ _) ?_; intro W4 hbA4 hk4; have HE2 : Hid (Blk W4 (w.heap.size + 1 + 1) [.int .i64 0, .int .i64 0, .float .f64 0, .string ⟨#[]⟩, .bool false, .int .i64 0, .int .i64 0, .int .i64 0, .bool false, .bool false, .int .i64 0, .int .i64 0, .bool false, .bool false, .slice none 0 0] 48) := HD2.out.kp hk4 (Blk.ne HD2.out HDA.out (by decide)))
    | (refine wpList_store_blk rfl 48 (.tmp 4) (.tmp 27) rfl (w.heap.size + 1 + 1) _ [.int .i64 4, .int .i64 0, .float .f64 0, .string ⟨#[]⟩, .bool false, .int .i64 4, .int .i64 0, .int .i64 0, .bool false, .bool false, .int .i64 0, .int .i64 0, .bool false, .bool false, .slice none 0 0] _ HE2.out rfl rfl rfl infoNode (Hd.one ⟨4, 0, 0, ⟨#[]⟩, false, 4, 0, 0, false, false, 0, 0, false, false⟩ rfl) ?_; intro W5 hb5 hk5)
    | fail)
   refine bodyPost_ret (results_cell_row rfl _ _ (w.heap.size + 1 + 1) 48 _ (0, 0) _ rfl hb5 Tryz.underlying48 rfl infoNode) rfl ?_
   refine⟨rfl, (KW3.out.trans' hk4 (fun i hi e => LE.out i (.inr (.inr e)) hi)).trans' hk5 (fun i hi e => LE.out i (.inr (.inl e)) hi)⟩
  | some b =>
   obtain⟨⟨b1, s1⟩, ⟨b2, s2⟩⟩ := b
   simp only[fateV, fateA, Option.isSome]
   go_wp2_with (first
    | (refine wpList_store_blk rfl 34 (.tmp 5) (.tmp 23) rfl w1.heap.size _ [.int .i64 b1, .int .i64 s1, .int .i64 b2, .int .i64 s2] _ HDA.out rfl rfl rfl infoArea (ints4 _ _ _ _) ?_; intro W4 hbA4 hk4; have HE1 : Hid (Blk W4 (w.heap.size + 1) [.int .i64 k, .int .i64 o', .float .f64 x, .string s, .bool bb, .int .i64 ff, .int .i64 c1, .int .i64 r1, .bool p1, .bool q1, .int .i64 c2, .int .i64 r2, .bool p2, .bool q2, sl] 48) := HD1.out.kp hk4 (Blk.ne HD1.out HDA.out (by decide)); have HE2 : Hid (Blk W4 (w.heap.size + 1 + 1) [.int .i64 0, .int .i64 0, .float .f64 0, .string ⟨#[]⟩, .bool false, .int .i64 0, .int .i64 0, .int .i64 0, .bool false, .bool false, .int .i64 0, .int .i64 0, .bool false, .bool false, .slice none 0 0] 48) := HD2.out.kp hk4 (Blk.ne HD2.out HDA.out (by decide)); have e0 : W4.cell? ⟨w1.heap.size, 0, none⟩ = some (.int .i64 b1) := hbA4.cell rfl; have e1 : W4.cell? ⟨w1.heap.size, 1, none⟩ = some (.int .i64 s1) := hbA4.cell rfl)
    | (refine wpList_store_part rfl 32 (.tmp 31) (.tmp 29) rfl (w.heap.size + 1) 6 [.int .i64 k, .int .i64 o', .float .f64 x, .string s, .bool bb, .int .i64 ff] [.int .i64 c1, .int .i64 r1] [.bool p1, .bool q1, .int .i64 c2, .int .i64 r2, .bool p2, .bool q2, sl] [.int .i64 b1, .int .i64 s1] _ HE1.out rfl rfl rfl rfl infoAddr2' (ints2 _ _) ?_; intro W5 hb5 hk5; have g0 : W5.cell? ⟨(w.heap.size + 1), 0, none⟩ = some (.int .i64 k) := hb5.cell rfl; have HF2 : Hid (Blk W5 (w.heap.size + 1 + 1) [.int .i64 0, .int .i64 0, .float .f64 0, .string ⟨#[]⟩, .bool false, .int .i64 0, .int .i64 0, .int .i64 0, .bool false, .bool false, .int .i64 0, .int .i64 0, .bool false, .bool false, .slice none 0 0] 48) := HE2.out.kp hk5 (by show ¬(w.heap.size + 1 + 1) = (w.heap.size + 1); omega); have hbA5 := hbA4.kp hk5 (Blk.ne hbA4 HE1.out (by decide)); have e2 : W5.cell? ⟨w1.heap.size, 2, none⟩ = some (.int .i64 b2) := hbA5.cell rfl; have e3 : W5.cell? ⟨w1.heap.size, 3, none⟩ = some (.int .i64 s2) := hbA5.cell rfl; have HG1 : Hid (Blk W5 (w.heap.size + 1) [.int .i64 k, .int .i64 o', .float .f64 x, .string s, .bool bb, .int .i64 ff, .int .i64 b1, .int .i64 s1, .bool p1, .bool q1, .int .i64 c2, .int .i64 r2, .bool p2, .bool q2, sl] 48) := hb5; have HG2 : Hid (Blk W5 (w.heap.size + 1 + 1) [.int .i64 0, .int .i64 0, .float .f64 0, .string ⟨#[]⟩, .bool false, .int .i64 0, .int .i64 0, .int .i64 0, .bool false, .bool false, .int .i64 0, .int .i64 0, .bool false, .bool false, .slice none 0 0] 48) := HF2.out)
    | (refine wpList_load_mid rfl 48 (.tmp 3) rfl (w.heap.size + 1) 0 rfl [.int .i64 k, .int .i64 o', .float .f64 x, .string s, .bool bb, .int .i64 ff, .int .i64 b1, .int .i64 s1, .bool p1, .bool q1, .int .i64 c2, .int .i64 r2, .bool p2, .bool q2, sl] _ (blk_range HG1.out) Tryz.underlying48 rfl infoNode ?_)
    | (refine wpList_store_blk rfl 48 (.tmp 4) (.tmp 39) rfl (w.heap.size + 1 + 1) _ [.int .i64 k, .int .i64 o', .float .f64 x, .string s, .bool bb, .int .i64 ff, .int .i64 b1, .int .i64 s1, .bool p1, .bool q1, .int .i64 c2, .int .i64 r2, .bool p2, .bool q2, sl] _ HG2.out rfl rfl rfl infoNode (Hd.one ⟨k, o', x, s, bb, ff, b1, s1, p1, q1, c2, r2, p2, q2⟩ HO.out) ?_; intro W7 hb7 hk7)
    | fail)
   refine bodyPost_ret (results_cell_row rfl _ _ (w.heap.size + 1 + 1) 48 _ (0, 0) _ rfl hb7 Tryz.underlying48 rfl infoNode) rfl ?_
   refine⟨?_, ((KW3.out.trans' hk4 (fun i hi e => LE.out i (.inr (.inr e)) hi)).trans' hk5 (fun i hi e => LE.out i (.inl e) hi)).trans' hk7 (fun i hi e => LE.out i (.inr (.inl e)) hi)⟩
   show Ending.returned _ = Ending.returned ((toH (Hd.mk k o' x s bb ff c1 r1 p1 q1 c2 r2 p2 q2) ((b1, s1), (b2, s2))).val sl)
   unfold toH
   rw[if_neg (show ¬k = 6 from hk6)]
end Go.Proofs.YtecjfnkakodebaaGreatDoor.OfM
namespace Go.Proofs.YtecjfnkakodebaaGreatDoor.OfM
open Go.RowKit Go.Maps
structure AlE (w : World) (pf pw xf xt : Nat) (ArA ArB : Ar4) : Prop where
 f : Blk w pf [fateM xf xt] 115
 g : Blk w pw [alF pf pw] 119
 k : MvIn w xf xt ArA ArB
theorem AlE.kp {w w' : World} {pf pw xf xt : Nat} {ArA ArB : Ar4} {S : Nat->Prop} (h : AlE w pf pw xf xt ArA ArB) (k : Kp w w' S) (hS : ∀i, S i->∃cs : Array Value, w.heap[i]? = some (.cells cs 48 (0, 0))) : AlE w' pf pw xf xt ArA ArB := by
 have ne : ∀ {b : Nat} {cs : List Value} {t : TypeId}, Blk w b cs t->t ≠ 48->¬S b := fun {b cs t} hb ht q => by
  obtain⟨cs', e⟩ := hS b q
  unfold Blk at hb
  rw[hb] at e
  simp only[Option.some.injEq, Obj.cells.injEq] at e
  exact ht e.2.1
 exact⟨h.f.kp k (ne h.f (by decide)), h.g.kp k (ne h.g (by decide)), h.k.c.kp k (ne h.k.c (by decide)), h.k.r.kp k (ne h.k.r (by decide))⟩
theorem AlE.nul {w w' : World} {pf pw xf xt : Nat} {ArA ArB : Ar4} (h : AlE w pf pw xf xt ArA ArB) (k : Kp w w' Nul) : AlE w' pf pw xf xt ArA ArB := h.kp k (fun _ q => q.elim)
set_option maxRecDepth 20000 in
set_option maxHeartbeats 16000000 in
theorem along1_any (pf pw xf xt : Nat) (ArA ArB : Ar4) (hl : mvOk ArA ArB) (N : Nat) : ∀(t : Nd) (sl : Value) (fp : List Nat) (w : World), t.size<=N->NdOwn w sl t fp->fp.Nodup->AlE w pf pw xf xt ArA ArB ->
  Calls Tryz.prog 141 #[t.hd.val sl, .pointer (some ⟨pf, 0, none⟩), .pointer (some ⟨pw, 0, none⟩)] w fun e w' => ∃sl' fp', e = .returned ((alN (mvF ArA ArB) t).hd.val sl')/\AlR (mvF ArA ArB) t fp w w' sl' fp' := by
 induction N with
 | zero => intro t sl fp w h; have := size_pos t; omega
 | succ N ih =>
  intro t sl fp w hN hown hnd hE
  have IH : Hid (∀(t : Nd) (sl : Value) (fp : List Nat) (w : World), t.size<=N->NdOwn w sl t fp->fp.Nodup->AlE w pf pw xf xt ArA ArB ->
   Calls Tryz.prog 141 #[t.hd.val sl, .pointer (some ⟨pf, 0, none⟩), .pointer (some ⟨pw, 0, none⟩)] w fun e w' => ∃sl' fp', e = .returned ((alN (mvF ArA ArB) t).hd.val sl')/\AlR (mvF ArA ArB) t fp w w' sl' fp') := ih
  have HNm : Hid (∀(hd : Hd) (ts : List Nd) (sl : Value), sl.oneCell' = true->∀w, MvIn w xf xt ArA ArB->Calls Tryz.prog 142 #[.agg #[fateM xf xt], hd.val sl] w fun e w' => e = .returned ((nmN (mvF ArA ArB) (.mk hd ts)).hd.val (nmS (mvF ArA ArB) hd sl))/\Kp w w' Nul) := fun hd ts sl hs w hk => named_ln xf xt ArA ArB hl hd ts sl hs w hk
  generalize mvF ArA ArB = f at *
  have O1 : Hid (sl.oneCell' = true) := hown.one
  have HE : Hid (AlE w pf pw xf xt ArA ArB) := hE
  have HOwn : Hid (NdOwn w sl t fp) := hown
  have HNd : Hid (fp.Nodup) := hnd
  have HN : Hid (t.size<=N + 1) := hN
  clear ih hown hnd hE hl hN
  obtain⟨hd, ts⟩ := t
  change Calls Tryz.prog _ #[hd.val sl, _, _] w _
  obtain⟨W0, hW0⟩ : ∃W0, (w.alloc (.cells (hd.cells sl).toArray 48)).alloc (.cells #[.int .i64 0, .int .i64 0, .float .f64 0, .string ⟨#[]⟩, .bool false, .int .i64 0, .int .i64 0, .int .i64 0, .bool false, .bool false, .int .i64 0, .int .i64 0, .bool false, .bool false, .slice none 0 0] 48) = W0 := ⟨_, rfl⟩
  have k0 : Hid (Kp w W0 Nul) := by show Kp _ _ _; rw[<- hW0]; exact((Kp.refl w Nul).alloc _).alloc _
  have b1 : Hid (Blk W0 w.heap.size (hd.cells sl) 48) := by show Blk _ _ _ _; rw[<- hW0]; exact(Blk.new w _ _).alloc _
  have b2 : Hid (Blk W0 (w.heap.size + 1) [.int .i64 0, .int .i64 0, .float .f64 0, .string ⟨#[]⟩, .bool false, .int .i64 0, .int .i64 0, .int .i64 0, .bool false, .bool false, .int .i64 0, .int .i64 0, .bool false, .bool false, .slice none 0 0] 48) := by
   show Blk _ _ _ _; rw[<- hW0]
   have := Blk.new (w.alloc (.cells (hd.cells sl).toArray 48)) [.int .i64 0, .int .i64 0, .float .f64 0, .string ⟨#[]⟩, .bool false, .int .i64 0, .int .i64 0, .int .i64 0, .bool false, .bool false, .int .i64 0, .int .i64 0, .bool false, .bool false, .slice none 0 0] 48
   rw[World.size_alloc] at this
   exact this
  obtain⟨k, o', x, s, bb, ff, c1, r1, p1, q1, c2, r2, p2, q2⟩ := hd
  by_cases hk : k = 5∨k = 6
  ·rcases hk with hk | hk
   ·subst hk
    have y0 : W0.cell? ⟨w.heap.size, 0, none⟩ = some (.int .i64 5) := b1.out.cell rfl
    have y1 : W0.cell? ⟨pf, 0, none⟩ = some (fateM xf xt) := (HE.out.nul k0.out).f.cell rfl
    have hal : alN f (.mk ⟨5, o', x, s, bb, ff, c1, r1, p1, q1, c2, r2, p2, q2⟩ ts) = nmN f (.mk ⟨5, o', x, s, bb, ff, c1, r1, p1, q1, c2, r2, p2, q2⟩ ts) := by rw[alN, if_pos (by simp)]
    have HR : Hid (∀w', Kp w w' Nul->AlR f (.mk ⟨5, o', x, s, bb, ff, c1, r1, p1, q1, c2, r2, p2, q2⟩ ts) fp w w' (nmS f ⟨5, o', x, s, bb, ff, c1, r1, p1, q1, c2, r2, p2, q2⟩ sl) (nmFp f ⟨5, o', x, s, bb, ff, c1, r1, p1, q1, c2, r2, p2, q2⟩ fp)) := fun w' kw => nm_own f ⟨5, o', x, s, bb, ff, c1, r1, p1, q1, c2, r2, p2, q2⟩ ts sl fp w w' HOwn.out kw (by simp)
    have HCl : Hid (Calls Tryz.prog 142 #[.agg #[fateM xf xt], Hd.val ⟨5, o', x, s, bb, ff, c1, r1, p1, q1, c2, r2, p2, q2⟩ sl] W0 fun e w' => e = .returned ((nmN f (.mk ⟨5, o', x, s, bb, ff, c1, r1, p1, q1, c2, r2, p2, q2⟩ ts)).hd.val (nmS f ⟨5, o', x, s, bb, ff, c1, r1, p1, q1, c2, r2, p2, q2⟩ sl))/\Kp W0 w' Nul) := HNm.out ⟨5, o', x, s, bb, ff, c1, r1, p1, q1, c2, r2, p2, q2⟩ ts sl O1.out W0 (HE.out.nul k0.out).k
    have OS : Hid ((nmS f ⟨5, o', x, s, bb, ff, c1, r1, p1, q1, c2, r2, p2, q2⟩ sl).oneCell' = true) := by
     show _ = _; unfold nmS; split
     ·rfl
     ·exact O1.out
    rw[hal]
    clear HNm HE HOwn HNd HN IH hal
    generalize (nmN f (.mk ⟨5, o', x, s, bb, ff, c1, r1, p1, q1, c2, r2, p2, q2⟩ ts)).hd = hh at *
    generalize nmS f ⟨5, o', x, s, bb, ff, c1, r1, p1, q1, c2, r2, p2, q2⟩ sl = sl2 at *
    generalize nmFp f ⟨5, o', x, s, bb, ff, c1, r1, p1, q1, c2, r2, p2, q2⟩ fp = fp2 at *
    go_enter Tryz.func141, Tryz.ntmps141
    go_wp2_with (first | (refine wpList_load_mid rfl 48 (.tmp 3) rfl w.heap.size 0 rfl (Hd.cells ⟨5, o', x, s, bb, ff, c1, r1, p1, q1, c2, r2, p2, q2⟩ sl) _ (blk_range b1.out) Tryz.underlying48 rfl infoNode ?_) | fail)
    refine HCl.out.mono ?_
    rintro e w1 ⟨rfl, hk1⟩
    have b2' := b2.out.kp hk1 (fun x => x)
    have HB2 : Hid (Blk w1 (w.heap.size + 1) [.int .i64 0, .int .i64 0, .float .f64 0, .string ⟨#[]⟩, .bool false, .int .i64 0, .int .i64 0, .int .i64 0, .bool false, .bool false, .int .i64 0, .int .i64 0, .bool false, .bool false, .slice none 0 0] 48) := b2'
    clear b2'
    go_wp2_with (first | (refine wpList_store_blk rfl 48 (.tmp 4) (.tmp 14) rfl (w.heap.size + 1) _ (hh.cells sl2) _ HB2.out rfl rfl rfl infoNode (hh.one OS.out) ?_; intro w2 hb2 hk2) | fail)
    refine bodyPost_ret (results_cell_row rfl _ _ (w.heap.size + 1) 48 _ (0, 0) _ rfl hb2 Tryz.underlying48 rfl infoNode) rfl ?_
    exact⟨sl2, fp2, rfl, HR.out w2 ((k0.out.trans hk1).trans' hk2 (fun i hi e => by have : i = w.heap.size + 1 := e; omega))⟩
   ·subst hk
    have y0 : W0.cell? ⟨w.heap.size, 0, none⟩ = some (.int .i64 6) := b1.out.cell rfl
    have y1 : W0.cell? ⟨pf, 0, none⟩ = some (fateM xf xt) := (HE.out.nul k0.out).f.cell rfl
    have hal : alN f (.mk ⟨6, o', x, s, bb, ff, c1, r1, p1, q1, c2, r2, p2, q2⟩ ts) = nmN f (.mk ⟨6, o', x, s, bb, ff, c1, r1, p1, q1, c2, r2, p2, q2⟩ ts) := by rw[alN, if_pos (by simp)]
    have HR : Hid (∀w', Kp w w' Nul->AlR f (.mk ⟨6, o', x, s, bb, ff, c1, r1, p1, q1, c2, r2, p2, q2⟩ ts) fp w w' (nmS f ⟨6, o', x, s, bb, ff, c1, r1, p1, q1, c2, r2, p2, q2⟩ sl) (nmFp f ⟨6, o', x, s, bb, ff, c1, r1, p1, q1, c2, r2, p2, q2⟩ fp)) := fun w' kw => nm_own f ⟨6, o', x, s, bb, ff, c1, r1, p1, q1, c2, r2, p2, q2⟩ ts sl fp w w' HOwn.out kw (by simp)
    have HCl : Hid (Calls Tryz.prog 142 #[.agg #[fateM xf xt], Hd.val ⟨6, o', x, s, bb, ff, c1, r1, p1, q1, c2, r2, p2, q2⟩ sl] W0 fun e w' => e = .returned ((nmN f (.mk ⟨6, o', x, s, bb, ff, c1, r1, p1, q1, c2, r2, p2, q2⟩ ts)).hd.val (nmS f ⟨6, o', x, s, bb, ff, c1, r1, p1, q1, c2, r2, p2, q2⟩ sl))/\Kp W0 w' Nul) := HNm.out ⟨6, o', x, s, bb, ff, c1, r1, p1, q1, c2, r2, p2, q2⟩ ts sl O1.out W0 (HE.out.nul k0.out).k
    have OS : Hid ((nmS f ⟨6, o', x, s, bb, ff, c1, r1, p1, q1, c2, r2, p2, q2⟩ sl).oneCell' = true) := by
     show _ = _; unfold nmS; split
     ·rfl
     ·exact O1.out
    rw[hal]
    clear HNm HE HOwn HNd HN IH hal
    generalize (nmN f (.mk ⟨6, o', x, s, bb, ff, c1, r1, p1, q1, c2, r2, p2, q2⟩ ts)).hd = hh at *
    generalize nmS f ⟨6, o', x, s, bb, ff, c1, r1, p1, q1, c2, r2, p2, q2⟩ sl = sl2 at *
    generalize nmFp f ⟨6, o', x, s, bb, ff, c1, r1, p1, q1, c2, r2, p2, q2⟩ fp = fp2 at *
    go_enter Tryz.func141, Tryz.ntmps141
    go_wp2_with (first | (refine wpList_load_mid rfl 48 (.tmp 3) rfl w.heap.size 0 rfl (Hd.cells ⟨6, o', x, s, bb, ff, c1, r1, p1, q1, c2, r2, p2, q2⟩ sl) _ (blk_range b1.out) Tryz.underlying48 rfl infoNode ?_) | fail)
    refine HCl.out.mono ?_
    rintro e w1 ⟨rfl, hk1⟩
    have b2' := b2.out.kp hk1 (fun x => x)
    have HB2 : Hid (Blk w1 (w.heap.size + 1) [.int .i64 0, .int .i64 0, .float .f64 0, .string ⟨#[]⟩, .bool false, .int .i64 0, .int .i64 0, .int .i64 0, .bool false, .bool false, .int .i64 0, .int .i64 0, .bool false, .bool false, .slice none 0 0] 48) := b2'
    clear b2'
    go_wp2_with (first | (refine wpList_store_blk rfl 48 (.tmp 4) (.tmp 14) rfl (w.heap.size + 1) _ (hh.cells sl2) _ HB2.out rfl rfl rfl infoNode (hh.one OS.out) ?_; intro w2 hb2 hk2) | fail)
    refine bodyPost_ret (results_cell_row rfl _ _ (w.heap.size + 1) 48 _ (0, 0) _ rfl hb2 Tryz.underlying48 rfl infoNode) rfl ?_
    exact⟨sl2, fp2, rfl, HR.out w2 ((k0.out.trans hk1).trans' hk2 (fun i hi e => by have : i = w.heap.size + 1 := e; omega))⟩
  ·have HK5 : Hid (¬k = 5) := fun e => hk (.inl e)
   have HK6 : Hid (¬k = 6) := fun e => hk (.inr e)
   have e5 : (k==5) = false := by simpa using HK5.out
   have e6 : (k==6) = false := by simpa using HK6.out
   have y0 : W0.cell? ⟨w.heap.size, 0, none⟩ = some (.int .i64 k) := b1.out.cell rfl
   have hal : alN f (.mk ⟨k, o', x, s, bb, ff, c1, r1, p1, q1, c2, r2, p2, q2⟩ ts) = .mk ⟨k, o', x, s, bb, ff, c1, r1, p1, q1, c2, r2, p2, q2⟩ (alL f ts) := by rw[alN, if_neg hk]
   rw[hal]
   have hown := HOwn.out
   rw[NdOwn] at hown
   rcases hown with ⟨rfl, rfl, rfl⟩ | ⟨b, c, fps, cs, rfl, h2, h3, h4, h5, h6, rfl, h8⟩
   ·have y14 : W0.cell? ⟨w.heap.size, 14, none⟩ = some (.slice none 0 0) := b1.out.cell rfl
    have HR : Hid (∀w', Kp w w' Nul->AlR f (.mk ⟨k, o', x, s, bb, ff, c1, r1, p1, q1, c2, r2, p2, q2⟩ []) [] w w' (.slice none 0 0) []) := fun w' kw => ⟨by rw[hal, alL, NdOwn]; exact .inl ⟨rfl, rfl, rfl⟩, List.Sublist.refl _, kw.mono (fun _ _ q => q.elim)⟩
    clear HNm IH HOwn HNd HN hal hk
    go_enter Tryz.func141, Tryz.ntmps141
    go_wp2_with fail
    go_loopw[18] (fun i wr => i = .int .i64 0/\wr = W0) (fun _ _ => 0)
    case atStart => exact⟨rfl, rfl⟩
    case round =>
     obtain⟨rfl, rfl⟩ := hrel
     go_wp2_with (first
      | (refine wpList_load_mid rfl 48 (.tmp 3) rfl w.heap.size 0 rfl (Hd.cells ⟨k, o', x, s, bb, ff, c1, r1, p1, q1, c2, r2, p2, q2⟩ (.slice none 0 0)) _ (blk_range b1.out) Tryz.underlying48 rfl infoNode ?_)
      | (refine wpList_store_blk rfl 48 (.tmp 4) (.tmp 31) rfl (w.heap.size + 1) _ (Hd.cells ⟨k, o', x, s, bb, ff, c1, r1, p1, q1, c2, r2, p2, q2⟩ (.slice none 0 0)) _ b2.out rfl rfl rfl infoNode (Hd.one ⟨k, o', x, s, bb, ff, c1, r1, p1, q1, c2, r2, p2, q2⟩ rfl) ?_; intro w2 hb2 hk2)
      | fail)
     refine bodyPost_ret (results_cell_row rfl _ _ (w.heap.size + 1) 48 _ (0, 0) _ rfl hb2 Tryz.underlying48 rfl infoNode) rfl ?_
     first
     | exact⟨_, HR.out w2 (k0.out.trans' hk2 (fun i hi e => by have : i = w.heap.size + 1 := e; omega))⟩
     | exact⟨_, _, rfl, HR.out w2 (k0.out.trans' hk2 (fun i hi e => by have : i = w.heap.size + 1 := e; omega))⟩
   ·have HAt0 : Hid (AlAt f w W0 b c 0 ts fps [] fps) := (AlAt.start h5 h6 h8).nul k0.out
    have HCL : Hid (ts.length<=c) := h3
    have HCm : Hid (c<=maxLen) := h4
    have HNb : Hid ((b::fps).Nodup) := HNd.out
    have HTs : Hid (ts≠[]) := h2
    have HSz : Hid (sizeL ts<=N) := by show _<=_; have := HN.out; rw[Nd.size] at this; omega
    have HLt : Hid (∀i∈b::fps, i<w.heap.size) := fun i hi => node_lt (HOwn.out.node i hi)
    have HNode : Hid (∀i∈b::fps, ∃cs : Array Value, W0.heap[i]? = some (.cells cs 48 (0, 0))) := fun i hi => by
     obtain⟨cs, e⟩ := HOwn.out.node i hi
     exact⟨cs, (k0.out.block i (node_lt ⟨cs, e⟩) (fun x => x)).trans e⟩
    have HE0 : Hid (AlE W0 pf pw xf xt ArA ArB) := HE.out.nul k0.out
    have y14 : W0.cell? ⟨w.heap.size, 14, none⟩ = some (.slice (some ⟨b, 0, none⟩) ts.length c) := b1.out.cell rfl
    have hlen : ts.length<=9223372036854775807 := by unfold maxLen at h4; omega
    generalize hn : ts.length = n at *
    have HL : Hid (ts.length = n) := hn
    have HLen : Hid (n<=9223372036854775807) := hlen
    clear HNm HOwn HNd HN hal hk h2 h3 h4 h5 h6 h8 hn hlen
    go_enter Tryz.func141, Tryz.ntmps141
    go_wp2_with fail
    go_loopw[18] (fun i wr => ∃(q : Nat) (fa fb : List Nat), q<=n/\i = .int .i64 q/\AlAt f w wr b c q ts fps fa fb/\Kp W0 wr (fun i => i∈b::fps)) (fun i _ => n-(RowKit.intOf i).toNat)
    case atStart => exact⟨0, [], fps, Nat.zero_le _, rfl, HAt0.out, Kp.refl _ _⟩
    case round =>
     clear HAt0 y0 y14
     obtain⟨q, fa, fb, hq, rfl, hat, hkw⟩ := hrel
     have HAt : Hid (AlAt f w wr b c q ts fps fa fb) := hat
     have HKW : Hid (Kp W0 wr (fun i => i∈b::fps)) := hkw
     have HN1 : Hid (Blk wr w.heap.size (Hd.cells ⟨k, o', x, s, bb, ff, c1, r1, p1, q1, c2, r2, p2, q2⟩ (.slice (some ⟨b, 0, none⟩) n c)) 48) := b1.out.kp hkw (fun e => by have := HLt.out _ e; omega)
     have HN2 : Hid (Blk wr (w.heap.size + 1) [.int .i64 0, .int .i64 0, .float .f64 0, .string ⟨#[]⟩, .bool false, .int .i64 0, .int .i64 0, .int .i64 0, .bool false, .bool false, .int .i64 0, .int .i64 0, .bool false, .bool false, .slice none 0 0] 48) := b2.out.kp hkw (fun e => by have := HLt.out _ e; omega)
     have HEr : Hid (AlE wr pf pw xf xt ArA ArB) := HE0.out.kp hkw HNode.out
     clear hat hkw
     by_cases hlt : q<n
     ·have hqt : q<ts.length := by rw[HL.out]; exact hlt
      obtain⟨slq, f1, f2, hrg, hno, hfb, hrs⟩ := HAt.out.next hqt
      have HRG : Hid (wr.rangeAt b (q*15) ((ts[q]).hd.cells slq)) := hrg
      have O3 : Hid (slq.oneCell' = true) := hno.one
      have HFb : Hid (fb = f1++f2) := hfb
      have HRs : Hid (NdsOwn wr b ((q + 1)*15) (ts.drop (q + 1)) f2) := hrs
      have HF1 : Hid (∀i∈f1, i∈fps) := fun i hi => by
       obtain⟨fA, e1, _⟩ := HAt.out.sub
       rw[e1, hfb]
       exact List.mem_append_right _ (List.mem_append_left _ hi)
      have HBf : Hid (b∉f1) := fun e => (List.nodup_cons.1 HNb.out).1 (HF1.out b e)
      have hnf : f1.Nodup := by
       obtain⟨fA, e1, _⟩ := HAt.out.sub
       have := (List.nodup_cons.1 HNb.out).2
       rw[e1, hfb, List.nodup_append] at this
       exact(List.nodup_append.1 this.2.1).1
      have HCall : Hid (∀wq, Kp (wr.alloc (.cells ((ts[q]).hd.cells slq).toArray 48)) wq Nul->Calls Tryz.prog 141 #[(ts[q]).hd.val slq, .pointer (some ⟨pf, 0, none⟩), .pointer (some ⟨pw, 0, none⟩)] wq fun e w' => ∃sl' fp', e = .returned ((alN f ts[q]).hd.val sl')/\AlR f ts[q] f1 wq w' sl' fp') := fun wq kq => by
       have kk : Kp wr wq Nul := ((Kp.refl wr Nul).alloc _).trans kq
       exact IH.out ts[q] slq f1 wq (by have := HSz.out; have := size_get ts q hqt; omega) (hno.mono (fun i hi => kk.block i (node_lt (hno.node i hi)) (fun x => x))) hnf (HEr.out.nul kk)
      have hw1 : w.heap.size + 1<wr.heap.size := HN2.out.lt
      have hpw := HEr.out.g.lt
      have hNpw : ∀i∈f1, i≠pw := fun i hi e => by
       obtain⟨cs, q1⟩ := hno.node i hi
       have q2 := HEr.out.g
       unfold Blk at q2
       rw[e, q2] at q1
       simp at q1
      have HNot : Hid ((¬w.heap.size∈f1)/\(¬pw∈f1)/\(¬wr.heap.size∈f1)) := ⟨fun e => by have := HLt.out _ (List.mem_cons_of_mem _ (HF1.out _ e)); omega, fun e => hNpw pw e rfl, fun e => by have := node_lt (hno.node _ e); omega⟩
      have HNb2 : Hid (b≠w.heap.size/\b≠pw/\b≠wr.heap.size) := ⟨by have := HLt.out b List.mem_cons_self; omega, fun e => by
       obtain⟨cs, q1, _⟩ := HAt.out.row
       have q2 := HEr.out.g
       unfold Blk at q2
       rw[e, q2] at q1
       simp at q1, by have := HLt.out b List.mem_cons_self; omega⟩
      have HC : Hid (q<c) := by show _<_; have := HCL.out; omega
      have hq0 : (0 : Int)<=(q : Int) := by omega
      have hqn : (q : Int)<(n : Int) := by omega
      have hkb : (q : Int) + 1<=9223372036854775807 := by have := HLen.out; omega
      have HSA : Hid (AlS (wr.alloc (.cells ((ts[q]).hd.cells slq).toArray 48)) w.heap.size (Hd.cells ⟨k, o', x, s, bb, ff, c1, r1, p1, q1, c2, r2, p2, q2⟩ (.slice (some ⟨b, 0, none⟩) n c)) pw (alF pf pw) wr.heap.size ((ts[q]).hd.cells slq)) := ⟨HN1.out.alloc _, HEr.out.g.alloc _, Blk.new _ _ _⟩
      clear hrg hno hfb hrs hnf hw1 hpw hNpw HEr HE0
      obtain⟨hh, hhe⟩ : ∃hh, (ts[q]).hd = hh := ⟨_, rfl⟩
      rw[hhe] at HRG HCall HSA
      clear hhe
      go_wp2_with (first
       | (refine wpList_load_mid rfl 48 (.tmp 21) rfl b (q*15) rfl (hh.cells slq) _ HRG.out Tryz.underlying48 rfl infoNode ?_)
       | (refine wpList_store_new rfl 48 (.tmp 6) (.tmp 22) rfl _ _ _ _ _ (by first | rfl | simp) rfl rfl rfl infoNode (hh.one O3.out) ?_)
       | fail)
      refine wp_region_noPanic ?_
      refine wp_region_hel (fun w' : World => AlS w' w.heap.size (Hd.cells ⟨k, o', x, s, bb, ff, c1, r1, p1, q1, c2, r2, p2, q2⟩ (.slice (some ⟨b, 0, none⟩) n c)) pw (alF pf pw) wr.heap.size (hh.cells slq)) (by kernel_rfl) (HSA.out.nul ((Kp.refl _ _).drew)) (fun hHeld => ?_)
      refine wpH_takes (i := 0) (v := ?_) (some 23) rfl rfl (by kernel_rfl) (fun _ _ _ h => h) (Or.inl ⟨by rfl, ?_⟩) hHeld ?_
      rotate_left
      ·intro w' hSw; have s0 := hSw.n14 rfl; have s1 := hSw.w0; clear hSw; go_simp; try with_reducible rfl
      simp only[Act.put,Sz0,Sz1,Sz2]
      refine wpH_takes (i := 1) (v := ?_) (some 24) rfl rfl (by kernel_rfl) (fun _ _ _ h => h) (Or.inl ⟨by rfl, ?_⟩) hHeld ?_
      rotate_left
      ·intro w' hSw; have s0 := hSw.n14 rfl; have s1 := hSw.w0; clear hSw; go_simp; try with_reducible rfl
      simp only[Act.put,Sz0,Sz1,Sz2]
      refine wpH_takes (i := 2) (v := ?_) (some 25) rfl rfl (by kernel_rfl) (fun _ _ _ h => h) (Or.inl ⟨by rfl, ?_⟩) hHeld ?_
      rotate_left
      ·intro w' hSw; have s0 := hSw.n14 rfl; have s1 := hSw.w0; clear hSw; go_simp; try with_reducible rfl
      simp only[Act.put,Sz0,Sz1,Sz2]
      refine wpH_takes (i := 3) (v := ?_) (some 26) rfl rfl (by kernel_rfl) (fun _ _ _ h => h) (Or.inl ⟨by rfl, ?_⟩) hHeld ?_
      rotate_left
      ·intro w' hSw; have s0 := hSw.n14 rfl; have s1 := hSw.w0; clear hSw; go_simp; try with_reducible rfl
      simp only[Act.put,Sz0,Sz1,Sz2]
      refine wpH_takes (i := 4) (v := .agg (hh.cells slq).toArray) (some 27) rfl rfl (by kernel_rfl) (fun _ _ _ h => h) (Or.inl ⟨by rfl, fun w' hSw => exec_load_row 48 (.tmp 6) rfl wr.heap.size 0 rfl (hh.cells slq) _ (blk_range hSw.a) Tryz.underlying48 rfl infoNode⟩) hHeld ?_
      simp only[Act.put,Sz0,Sz1,Sz2]
      refine wpH_step (i := 5) (by kernel_rfl) rfl rfl (fun K hK => ?_)
      go_simp
      refine(HCall.out _ ((Kp.refl _ _).drew)).mono ?_
      rintro e w1 ⟨sl', f1', rfl, hR⟩
      have kA : Kp wr w1 (fun i => i∈f1) := (((Kp.refl wr _).alloc _).drew).trans hR.kp
      have HR1 : Hid (NdOwn w1 sl' (alN f ts[q]) f1'/\f1'.Sublist f1/\Kp wr w1 (fun i => i∈f1)) := ⟨hR.own, hR.sub, kA⟩
      have HSB : Hid (AlS w1 w.heap.size (Hd.cells ⟨k, o', x, s, bb, ff, c1, r1, p1, q1, c2, r2, p2, q2⟩ (.slice (some ⟨b, 0, none⟩) n c)) pw (alF pf pw) wr.heap.size (hh.cells slq)) := (HSA.out.nul ((Kp.refl _ _).drew)).kp hR.kp (HNot.out.1) (HNot.out.2.1) (HNot.out.2.2)
      have O5 : Hid (sl'.oneCell' = true) := hR.own.one
      refine hK.out _ _ HSB.out (fun hHeld => ?_)
      clear hK K hR kA HCall HSA
      have TH : Hid (w1.there b (q*15) 15) := by
       obtain⟨cs, r1, r2⟩ := HAt.out.row
       have hbn : b∉f1 := HBf.out
       exact there_of_block ((HR1.out.2.2.block b (Array.getElem?_eq_some_iff.1 r1).1 hbn).trans r1) _ _ (by have := HC.out; omega)
      refine wpH_takes (i := 6) (v := ?_) (some 29) rfl rfl (by kernel_rfl) (fun _ _ _ h => h) (Or.inl ⟨by rfl, ?_⟩) hHeld ?_
      rotate_left
      ·intro w' hSw; clear hSw; go_simp; try with_reducible rfl
      (try simp only[Act.put,Sz0,Sz1,Sz2])
      refine wpH_step (i := 7) (by kernel_rfl) rfl rfl (fun K hK => ?_)
      have HST : Hid (AlAt f w (w1.setCells b (q*15) ((alN f ts[q]).hd.cells sl')) b c (q + 1) ts fps (fa++f1') f2) := HAt.out.step hqt (by rw[HL.out]; exact HCL.out) HNb.out HFb.out HRs.out HR1.out.2.2 HR1.out.1 HR1.out.2.1
      have HKX : Hid (Kp wr (w1.setCells b (q*15) ((alN f ts[q]).hd.cells sl')) (fun i => i∈b::fps)) := (HR1.out.2.2.mono (fun i _ q => List.mem_cons_of_mem _ (HF1.out i q))).trans (setCells_kp _ (by show b∈b::fps; exact List.mem_cons_self) _ _ _)
      have HSX : Hid (AlS (w1.setCells b (q*15) ((alN f ts[q]).hd.cells sl')) w.heap.size (Hd.cells ⟨k, o', x, s, bb, ff, c1, r1, p1, q1, c2, r2, p2, q2⟩ (.slice (some ⟨b, 0, none⟩) n c)) pw (alF pf pw) wr.heap.size (hh.cells slq)) := HSB.out.kp (setCells_kp (fun i => i = b) rfl _ _ _) (fun e => HNb2.out.1 e.symm) (fun e => HNb2.out.2.1 e.symm) (fun e => HNb2.out.2.2 e.symm)
      generalize (alN f ts[q]).hd = hu at *
      refine wp_store_mid 48 (.tmp 29) (.tmp 28) rfl b (q*15) (hu.cells sl').toArray rfl rfl TH.out infoNode (hu.one O5.out) ?_
      obtain⟨X, hX⟩ : ∃X, w1.setCells b (q*15) (hu.cells sl') = X := ⟨_, rfl⟩
      show K _ (w1.setCells b (q*15) (hu.cells sl'))
      rw[hX] at HST HKX HSX ⊢
      refine hK.out _ _ HSX.out (fun _ => ?_)
      clear hK K hX HSB TH HR1 HSX hHeld
      refine wpAnyH_done (by kernel_rfl) ?_ _
      refine NoPanic.normal ?_
      go_wp2_with fail
      go_roundw
      case rel => exact⟨q + 1, fa++f1', f2, by omega, by go_num, HST.out, HKW.out.trans HKX.out⟩
      case measure => simp only[RowKit.intOf]; omega
     ·have hqe : q = n := by omega
      subst hqe
      have hqn : ¬((q : Int)<(q : Int)) := by omega
      have HFin : Hid (∀w', Kp wr w' (fun i => i = w.heap.size + 1)->AlR f (.mk ⟨k, o', x, s, bb, ff, c1, r1, p1, q1, c2, r2, p2, q2⟩ ts) (b::fps) w w' (.slice (some ⟨b, 0, none⟩) q c) (b::fa)) := fun w' kw => by
       have hA := HAt.out
       rw[<- HL.out] at hA
       obtain⟨f1, f2⟩ := hA.fin HTs.out (by rw[HL.out]; exact HCL.out) HCm.out ⟨k, o', x, s, bb, ff, c1, r1, p1, q1, c2, r2, p2, q2⟩
       rw[HL.out] at f1
       refine⟨?_, f2, ?_⟩
       ·rw[alN, if_neg (by intro e; rcases e with e | e; exact HK5.out e; exact HK6.out e)]
        exact f1.mono (fun i hi => kw.block i (node_lt (f1.node i hi)) (fun e => by have : i = w.heap.size + 1 := e; have := HLt.out i (f2.subset hi); omega))
       ·exact(HAt.out.kp.of_size kw (fun i hi e => by have : i = w.heap.size + 1 := e; omega))
      clear HAt IH HCL HCm HNb HTs HSz HNode HE0 HL HLen HEr hlt hq
      go_wp2_with (first
       | (refine wpList_load_mid rfl 48 (.tmp 3) rfl w.heap.size 0 rfl (Hd.cells ⟨k, o', x, s, bb, ff, c1, r1, p1, q1, c2, r2, p2, q2⟩ (.slice (some ⟨b, 0, none⟩) q c)) _ (blk_range HN1.out) Tryz.underlying48 rfl infoNode ?_)
       | (refine wpList_store_blk rfl 48 (.tmp 4) (.tmp 31) rfl (w.heap.size + 1) _ (Hd.cells ⟨k, o', x, s, bb, ff, c1, r1, p1, q1, c2, r2, p2, q2⟩ (.slice (some ⟨b, 0, none⟩) q c)) _ HN2.out rfl rfl rfl infoNode (Hd.one ⟨k, o', x, s, bb, ff, c1, r1, p1, q1, c2, r2, p2, q2⟩ rfl) ?_; intro w2 hb2 hk2)
       | fail)
      refine bodyPost_ret (results_cell_row rfl _ _ (w.heap.size + 1) 48 _ (0, 0) _ rfl hb2 Tryz.underlying48 rfl infoNode) rfl ?_
      first
      | exact⟨_, _, rfl, HFin.out w2 hk2⟩
      | exact⟨_, rfl, _, HFin.out w2 hk2⟩
set_option maxRecDepth 20000 in
set_option maxHeartbeats 16000000 in
theorem along_at (xf xt : Nat) (ArA ArB : Ar4) (hl : mvOk ArA ArB) (t : Nd) (sl : Value) (fp : List Nat) (w : World) (hown : NdOwn w sl t fp) (hnd : fp.Nodup) (hk : MvIn w xf xt ArA ArB) :
  Calls Tryz.prog 106 #[.agg #[fateM xf xt], t.hd.val sl] w fun e w' => ∃sl' fp', e = .returned ((alN (mvF ArA ArB) t).hd.val sl')/\AlR (mvF ArA ArB) t fp w w' sl' fp' := by
 have O1 : Hid (sl.oneCell' = true) := hown.one
 have HLt : Hid (∀i∈fp, i<w.heap.size) := fun i hi => node_lt (hown.node i hi)
 have HCall : Hid (∀wq, Kp w wq Nul->Blk wq w.heap.size [fateM xf xt] 115->Blk wq (w.heap.size + 1 + 1 + 1) [alF w.heap.size (w.heap.size + 1 + 1 + 1)] 119 -> Calls Tryz.prog 141 #[t.hd.val sl, .pointer (some ⟨w.heap.size, 0, none⟩), .pointer (some ⟨w.heap.size + 1 + 1 + 1, 0, none⟩)] wq fun e w' => ∃sl' fp', e = .returned ((alN (mvF ArA ArB) t).hd.val sl')/\AlR (mvF ArA ArB) t fp wq w' sl' fp') := fun wq k h1 h2 =>
  along1_any _ _ xf xt ArA ArB hl t.size t sl fp wq (Nat.le_refl _) (hown.mono (fun i hi => k.block i (node_lt (hown.node i hi)) (fun x => x))) hnd ⟨h1, h2, hk.kp k⟩
 have HR : Hid (∀wq w1 w2 sl' fp', Kp w wq Nul->AlR (mvF ArA ArB) t fp wq w1 sl' fp'->Kp w1 w2 (fun i => i = w.heap.size + 1 + 1)->AlR (mvF ArA ArB) t fp w w2 sl' fp') := fun wq w1 w2 sl' fp' k h k2 =>
  ⟨h.own.mono (fun i hi => k2.block i (node_lt (h.own.node i hi)) (fun e => by have e' : i = w.heap.size + 1 + 1 := e; have := HLt.out i (h.sub.subset hi); omega)), h.sub, ((k.mono (fun _ _ q => q.elim)).trans h.kp).of_size k2 (fun i hi e => by have e' : i = w.heap.size + 1 + 1 := e; omega)⟩
 generalize mvF ArA ArB = f at *
 generalize (alN f t).hd = hu at *
 generalize t.hd = hh at *
 clear hown hnd hk hl
 obtain⟨k, o', x, s, bb, ff, c1, r1, p1, q1, c2, r2, p2, q2⟩ := hh
 go_enter Tryz.func106, Tryz.ntmps106
 go_wp2_with fail
 obtain⟨W0, hW0⟩ : ∃W0, (((w.alloc (.cells #[fateM xf xt] 115)).alloc (.cells #[.int .i64 k, .int .i64 o', .float .f64 x, .string s, .bool bb, .int .i64 ff, .int .i64 c1, .int .i64 r1, .bool p1, .bool q1, .int .i64 c2, .int .i64 r2, .bool p2, .bool q2, sl] 48)).alloc (.cells #[.int .i64 0, .int .i64 0, .float .f64 0, .string ⟨#[]⟩, .bool false, .int .i64 0, .int .i64 0, .int .i64 0, .bool false, .bool false, .int .i64 0, .int .i64 0, .bool false, .bool false, .slice none 0 0] 48)).alloc (.cells #[alF w.heap.size (w.heap.size + 1 + 1 + 1)] 119) = W0 := ⟨_, rfl⟩
 rw[hW0]
 have k0 : Kp w W0 Nul := by rw[<- hW0]; exact((((Kp.refl w Nul).alloc _).alloc _).alloc _).alloc _
 have b0 : Blk W0 w.heap.size [fateM xf xt] 115 := by rw[<- hW0]; exact(((Blk.new w _ _).alloc _).alloc _).alloc _
 have b2 : Blk W0 (w.heap.size + 1 + 1) [.int .i64 0, .int .i64 0, .float .f64 0, .string ⟨#[]⟩, .bool false, .int .i64 0, .int .i64 0, .int .i64 0, .bool false, .bool false, .int .i64 0, .int .i64 0, .bool false, .bool false, .slice none 0 0] 48 := by
  rw[<- hW0]
  have := Blk.new ((w.alloc (.cells #[fateM xf xt] 115)).alloc (.cells #[.int .i64 k, .int .i64 o', .float .f64 x, .string s, .bool bb, .int .i64 ff, .int .i64 c1, .int .i64 r1, .bool p1, .bool q1, .int .i64 c2, .int .i64 r2, .bool p2, .bool q2, sl] 48)) [.int .i64 0, .int .i64 0, .float .f64 0, .string ⟨#[]⟩, .bool false, .int .i64 0, .int .i64 0, .int .i64 0, .bool false, .bool false, .int .i64 0, .int .i64 0, .bool false, .bool false, .slice none 0 0] 48
  rw[World.size_alloc, World.size_alloc] at this
  exact this.alloc _
 have b3 : Blk W0 (w.heap.size + 1 + 1 + 1) [alF w.heap.size (w.heap.size + 1 + 1 + 1)] 119 := by
  rw[<- hW0]
  have := Blk.new (((w.alloc (.cells #[fateM xf xt] 115)).alloc (.cells #[.int .i64 k, .int .i64 o', .float .f64 x, .string s, .bool bb, .int .i64 ff, .int .i64 c1, .int .i64 r1, .bool p1, .bool q1, .int .i64 c2, .int .i64 r2, .bool p2, .bool q2, sl] 48)).alloc (.cells #[.int .i64 0, .int .i64 0, .float .f64 0, .string ⟨#[]⟩, .bool false, .int .i64 0, .int .i64 0, .int .i64 0, .bool false, .bool false, .int .i64 0, .int .i64 0, .bool false, .bool false, .slice none 0 0] 48)) [alF w.heap.size (w.heap.size + 1 + 1 + 1)] 119
  rw[World.size_alloc, World.size_alloc, World.size_alloc] at this
  exact this
 clear hW0
 refine(HCall.out W0 k0 b0 b3).mono ?_
 rintro e w1 ⟨sl', fp', rfl, hR⟩
 have HB2 : Hid (Blk w1 (w.heap.size + 1 + 1) [.int .i64 0, .int .i64 0, .float .f64 0, .string ⟨#[]⟩, .bool false, .int .i64 0, .int .i64 0, .int .i64 0, .bool false, .bool false, .int .i64 0, .int .i64 0, .bool false, .bool false, .slice none 0 0] 48) := b2.kp hR.kp (fun e => by have := HLt.out _ e; omega)
 have HR1 : Hid (∀w2, Kp w1 w2 (fun i => i = w.heap.size + 1 + 1)->AlR f t fp w w2 sl' fp') := fun w2 k2 => HR.out W0 w1 w2 sl' fp' k0 hR k2
 have O5 : Hid (sl'.oneCell' = true) := hR.own.one
 clear hR k0 b0 b2 b3 HCall HR
 go_wp2_with (first | (refine wpList_store_blk rfl 48 (.tmp 4) (.tmp 9) rfl (w.heap.size + 1 + 1) _ (hu.cells sl') _ HB2.out rfl rfl rfl infoNode (hu.one O5.out) ?_; intro w2 hb2 hk2) | fail)
 refine bodyPost_ret (results_cell_row rfl _ _ (w.heap.size + 1 + 1) 48 _ (0, 0) _ rfl hb2 Tryz.underlying48 rfl infoNode) rfl ?_
 first
 | exact⟨_, _, rfl, HR1.out w2 hk2⟩
 | exact⟨_, rfl, _, HR1.out w2 hk2⟩
end Go.Proofs.YtecjfnkakodebaaGreatDoor.OfM
