/- GridFull: the walk. -/
import Derived.Test.YtjmbmapanmbnhaaDoorQl
namespace Go.Proofs.YtjmbmapanmbnhaaDoor
open Go.RowKit Go.Maps

set_option maxRecDepth 20000 in
set_option maxHeartbeats 20000000 in
theorem full17 (rows : Int) (hrw : I64 rows) (ct : Ct) (sl : Value) (du : Ct) (sl2 : Value) (w : World) (h1 : Cn w ct sl) (h2 : Cn w du sl2) (hv : VS w) :
    Calls Tryd.prog 4 #[.int .i64 rows, ct.val sl, du.val sl2] w fun e w' => e = .returned (.bool true) ∧ Kp w w' Nul := by
  obtain ⟨W1, hW1⟩ : ∃ W1, (w.alloc (.cells (ct.cells sl).toArray 33)).alloc (.cells (du.cells sl2).toArray 33) = W1 := ⟨_, rfl⟩
  have k1 : Kp w W1 Nul := by rw [← hW1]; exact ((Kp.refl w Nul).alloc _).alloc _
  have hC1 : Blk W1 w.heap.size (ct.cells sl) 33 := by rw [← hW1]; exact (Blk.new w (ct.cells sl) _).alloc _
  have hD1 : Blk W1 (w.heap.size + 1) (du.cells sl2) 33 := by
    have := Blk.new (w.alloc (.cells (ct.cells sl).toArray 33)) (du.cells sl2) 33
    rw [World.size_alloc] at this
    rw [← hW1]; exact this
  have z1 : W1.heap.size = w.heap.size + 2 := by rw [← hW1]; simp
  have HW1 : Hid ((w.alloc (.cells #[.int .i64 ct.k, .int .i64 ct.v.k, .float .f64 ct.v.x, .string ct.v.s, .bool ct.v.b, .int .i64 ct.v.f, .int .i64 ct.t.hd.k, .int .i64 ct.t.hd.o, .float .f64 ct.t.hd.x, .string ct.t.hd.s, .bool ct.t.hd.b, .int .i64 ct.t.hd.f, .int .i64 ct.t.hd.c1, .int .i64 ct.t.hd.r1, .bool ct.t.hd.p1, .bool ct.t.hd.q1, .int .i64 ct.t.hd.c2, .int .i64 ct.t.hd.r2, .bool ct.t.hd.p2, .bool ct.t.hd.q2, sl] 33)).alloc (.cells #[.int .i64 du.k, .int .i64 du.v.k, .float .f64 du.v.x, .string du.v.s, .bool du.v.b, .int .i64 du.v.f, .int .i64 du.t.hd.k, .int .i64 du.t.hd.o, .float .f64 du.t.hd.x, .string du.t.hd.s, .bool du.t.hd.b, .int .i64 du.t.hd.f, .int .i64 du.t.hd.c1, .int .i64 du.t.hd.r1, .bool du.t.hd.p1, .bool du.t.hd.q1, .int .i64 du.t.hd.c2, .int .i64 du.t.hd.r2, .bool du.t.hd.p2, .bool du.t.hd.q2, sl2] 33) = W1) := hW1
  have HAw : Hid (Calls Tryd.prog 7 #[] W1 fun e w' => e = .returned (.bool true) ∧ Kp W1 w' Nul) := awake17 W1
  have HNew : Hid (∀ w, Calls Tryd.prog 18 #[] w fun e w' => e = .returned (.pointer (some ⟨w.heap.size, 0, none⟩)) ∧ w' = w.alloc (.cells #[.map none] 77)) := new_at
  have HHc : Hid (∀ wq, Kp w wq Nul → Calls Tryd.prog 8 #[ct.val sl] wq fun e w' => e = .returned (.bool (decide (1048576 < ct.t.size))) ∧ Kp wq w' Nul) := fun wq k => (heavy_at ct sl (fun _ => True) wq (h1.inn.kp k (fun _ _ x => x))).mono fun e w' ⟨q1, q2⟩ => ⟨q1, Kp.of_gr q2⟩
  have HHd : Hid (∀ wq, Kp w wq Nul → Calls Tryd.prog 8 #[du.val sl2] wq fun e w' => e = .returned (.bool (decide (1048576 < du.t.size))) ∧ Kp wq w' Nul) := fun wq k => (heavy_at du sl2 (fun _ => True) wq (h2.inn.kp k (fun _ _ x => x))).mono fun e w' ⟨q1, q2⟩ => ⟨q1, Kp.of_gr q2⟩
  have HVc : Hid (∀ wq, Kp w wq Nul → Calls Tryd.prog 9 #[ct.val sl] wq fun e w' => e = .returned (.bool (gv ct)) ∧ Kp wq w' Nul) := fun wq k => gv_at ct sl (fun _ => True) wq h1.ok (h1.inn.kp k (fun _ _ x => x)) (hv.kp k)
  have HVd : Hid (∀ wq, Kp w wq Nul → Calls Tryd.prog 9 #[du.val sl2] wq fun e w' => e = .returned (.bool (gv du)) ∧ Kp wq w' Nul) := fun wq k => gv_at du sl2 (fun _ => True) wq h2.ok (h2.inn.kp k (fun _ _ x => x)) (hv.kp k)
  have HPk : Hid (∀ w, Calls Tryd.prog 19 #[.int .i64 rows, .int .i64 256] w fun e w' => (∃ q : Nat, e = .returned (.int .i64 q) ∧ q < 256) ∧ w' = w) := pick_at rows hrw
  have HK1 : Hid (Kp w W1 Nul) := k1
  have HBc : Hid (Blk W1 w.heap.size (ct.cells sl) 33) := hC1
  have HBd : Hid (Blk W1 (w.heap.size + 1) (du.cells sl2) 33) := hD1
  have HZ1 : Hid (W1.heap.size = w.heap.size + 2) := z1
  have H1 : Hid (Cn w ct sl) := h1
  have H2 : Hid (Cn w du sl2) := h2
  have HV : Hid (VS w) := hv
  clear hW1 k1 hC1 hD1 z1 h1 h2 hv hrw
  go_enter Tryd.func4, Tryd.ntmps4
  go_wp2_with fail
  rw [HW1.out]
  refine HAw.out.mono ?_
  rintro e w1 ⟨rfl, hk1⟩
  have HK2 : Hid (Kp W1 w1 Nul) := hk1
  clear hk1 HAw HW1
  go_wp2_with fail
  refine (HNew.out w1).mono ?_
  rintro e w2 ⟨rfl, hw2⟩
  obtain ⟨g, hg⟩ : ∃ g, w1.heap.size = g := ⟨_, rfl⟩
  have k2 : Kp W1 w2 Nul := by rw [hw2]; exact HK2.out.alloc _
  have hgB : w.heap.size + 2 ≤ g := by rw [← hg, ← HZ1.out]; exact HK2.out.size
  have HF2 : Hid (FS w w2 g [] w2) := by
    refine ⟨?_, Kg.refl _ _ _, HK1.out.trans k2⟩
    rw [hw2, ← hg]
    exact grid_new w1 _ (by show w.heap.size ≤ w1.heap.size; omega)
  have HgB : Hid (w.heap.size + 2 ≤ g) := hgB
  have HKW2 : Hid (Kp w w2 Nul) := HK1.out.trans k2
  have HC : Hid (∀ wq, Kg w.heap.size g w2 wq → wq.heap[w.heap.size]? = some (.cells (ct.cells sl).toArray 33 (0, 0))) := fun wq k => k.blk (HBc.out.kp k2 (fun x => x)) (by omega)
  have HD : Hid (∀ wq, Kg w.heap.size g w2 wq → wq.heap[w.heap.size + 1]? = some (.cells (du.cells sl2).toArray 33 (0, 0))) := fun wq k => k.blk (HBd.out.kp k2 (fun x => x)) (by omega)
  have HZ2 : Hid (w2.heap.size = g + 1) := by show _ = _; rw [hw2, World.size_alloc, hg]
  rw [hg]
  clear hw2 hg k2 hgB HNew HBc HBd HZ1 HK1 HK2
  go_wp2_with (first | (refine load_content_law rfl (.tmp 4) rfl w.heap.size rfl _ (HC.out _ (Kg.refl _ _ _)) rfl ?_) | fail)
  refine (HHc.out _ HKW2.out).mono ?_
  rintro e w3 ⟨rfl, hk3⟩
  have HK3 : Hid (Kp w2 w3 Nul) := hk3
  clear hk3 HHc
  by_cases b1 : 1048576 < ct.t.size
  · rw [decide_eq_true b1]
    go_wp2_with fail
    go_ret
    exact ⟨rfl, HKW2.out.trans HK3.out⟩
  rw [decide_eq_false b1]
  go_wp2_with (first | (refine load_content_law rfl (.tmp 5) rfl (w.heap.size + 1) rfl _ (HD.out _ (Kg.of_nul HK3.out)) rfl ?_) | fail)
  refine (HHd.out _ (HKW2.out.trans HK3.out)).mono ?_
  rintro e w4 ⟨rfl, hk4⟩
  have HK4 : Hid (Kp w2 w4 Nul) := HK3.out.trans hk4
  clear hk4 HHd HK3
  by_cases b2 : 1048576 < du.t.size
  · rw [decide_eq_true b2]
    go_wp2_with fail
    go_ret
    exact ⟨rfl, HKW2.out.trans HK4.out⟩
  rw [decide_eq_false b2]
  go_wp2_with (first | (refine load_content_law rfl (.tmp 4) rfl w.heap.size rfl _ (HC.out _ (Kg.of_nul HK4.out)) rfl ?_) | fail)
  refine (HVc.out _ (HKW2.out.trans HK4.out)).mono ?_
  rintro e w5 ⟨rfl, hk5⟩
  have HK5 : Hid (Kp w2 w5 Nul) := HK4.out.trans hk5
  clear hk5 HVc HK4
  cases hb3 : gv ct with
  | false =>
    clear hb3
    go_wp2_with fail
    go_ret
    exact ⟨rfl, HKW2.out.trans HK5.out⟩
  | true =>
  have HB3 : Hid (gv ct = true) := hb3
  clear hb3
  go_wp2_with (first | (refine load_content_law rfl (.tmp 5) rfl (w.heap.size + 1) rfl _ (HD.out _ (Kg.of_nul HK5.out)) rfl ?_) | fail)
  refine (HVd.out _ (HKW2.out.trans HK5.out)).mono ?_
  rintro e w6 ⟨rfl, hk6⟩
  have HK6 : Hid (Kp w2 w6 Nul) := HK5.out.trans hk6
  clear hk6 HVd HK5
  cases hb4 : gv du with
  | false =>
    clear hb4
    go_wp2_with fail
    go_ret
    exact ⟨rfl, HKW2.out.trans HK6.out⟩
  | true =>
  have HB4 : Hid (gv du = true) := hb4
  have c6 : w6.cell? ⟨w.heap.size, 0, none⟩ = some (.int .i64 ct.k) := Blk.cell (cs := ct.cells sl) (HC.out _ (Kg.of_nul HK6.out)) rfl
  clear hb4
  by_cases hk0 : ct.k = 0
  · rw [hk0] at c6
    go_wp2_with fail
    go_ret
    exact ⟨rfl, HKW2.out.trans HK6.out⟩
  have hk0b : (ct.k == 0) = false := by simpa using hk0
  go_wp2_with fail
  refine (HPk.out _).mono ?_
  rintro e w7 ⟨⟨q, rfl, hq⟩, hw7⟩
  replace hw7 := hw7.symm
  subst hw7
  have HF6 : Hid (FS w w2 g [] w6) := HF2.out.kp HK6.out
  clear HPk HF2 c6
  go_wp2_with fail
  have HB1 : Hid (ct.t.size ≤ 1048576) := by show _ ≤ _; omega
  have HB2 : Hid (du.t.size ≤ 1048576) := by show _ ≤ _; omega
  have HK0 : Hid (ct.k ≠ 0) := hk0
  have HQ : Hid (q < 256) := hq
  have HCell : Hid (∀ x y w, Calls Tryd.prog 21 #[.int .i64 x, .int .i64 y] w fun e w' => e = .returned (.agg #[.int .i64 x, .int .i64 y]) ∧ Kp w w' Nul) := cell_at
  clear b1 b2 hk0 hk0b hq
  go_loopw [10, 11] (fun n row wr => ∃ k a : Nat, n = .int .i64 k ∧ row = .int .i64 ((a : Int) + 1) ∧ k ≤ 4096 ∧ a ≤ 4096 ∧ (k = 4096 ∨ k = a * (q + 1)) ∧ ∃ L, Fills (q + 1) k L ∧ FS w w2 g L wr) (fun _ row _ => 4097 - (intOf row).toNat)
  case atStart => exact ⟨0, 0, rfl, rfl, by omega, by omega, .inr (by simp), [], fills_zero _, HF6.out⟩
  case round =>
    clear HF6
    obtain ⟨k, a, rfl, rfl, hk, ha, hka, L, hfl, hfs⟩ := hrel
    have HFL : Hid (Fills (q + 1) k L) := hfl
    have HFS : Hid (FS w w2 g L wr) := hfs
    clear hfl hfs
    by_cases hgo : a < 4096 ∧ k < 4096
    · obtain ⟨ha4, hk4⟩ := hgo
      have hka' : k = a * (q + 1) := by omega
      have HKA : Hid (k = a * (q + 1)) := hka'
      have j1 : (a : Int) + 1 ≤ 4096 := by omega
      have j2 : (k : Int) < 4096 := by omega
      have HA4 : Hid (a < 4096) := ha4
      clear hka hka' hk ha
      go_wp2_with fail
      clear j1 j2
      go_loopw [10, 12] (fun n col wi => ∃ k' b : Nat, n = .int .i64 k' ∧ col = .int .i64 ((b : Int) + 1) ∧ b ≤ q + 1 ∧ k' ≤ 4096 ∧ k' = a * (q + 1) + b ∧ ∃ L, Fills (q + 1) k' L ∧ FS w w2 g L wi) (fun _ col _ => q + 2 - (intOf col).toNat)
      case atStart => exact ⟨k, 0, rfl, rfl, by omega, by omega, by rw [HKA.out]; rfl, L, HFL.out, HFS.out⟩
      case round =>
        clear HFL HFS HKA
        obtain ⟨k', b, rfl, rfl, hb, hk', hkb, L', hfl, hfs⟩ := hrel
        have HFL : Hid (Fills (q + 1) k' L') := hfl
        have HFS : Hid (FS w w2 g L' wr) := hfs
        have HKB : Hid (k' = a * (q + 1) + b) := hkb
        clear hfl hfs hkb
        by_cases hgo : b < q + 1 ∧ k' < 4096
        · obtain ⟨hb1, hk1⟩ := hgo
          have j1 : (b : Int) + 1 ≤ 1 + (q : Int) := by omega
          have j2 : (k' : Int) < 4096 := by omega
          have hvc : vC ((b : Int) + 1) ((a : Int) + 1) = true := by
            rw [vC_iff]
            have := HQ.out
            have := HA4.out
            omega
          have HP : Hid (∀ wq, Kp wr wq Nul → Calls Tryd.prog 20 #[.pointer (some ⟨g, 0, none⟩), .agg #[.int .i64 ((b : Int) + 1), .int .i64 ((a : Int) + 1)], ct.val sl] wq fun e w' => e = .returned (.int .i64 0) ∧ FS w w2 g (putL L' ((b : Int) + 1, (a : Int) + 1) (cpC ct)) w') := fun wq k =>
            fs_ok (HFS.out.kp k) H1.out HV.out HB3.out HB1.out HK0.out hvc (by rw [HFL.out.1]; omega) (.inl (by rw [HFL.out.1]; exact hk1))
          have HFN : Hid (Fills (q + 1) (k' + 1) (putL L' ((b : Int) + 1, (a : Int) + 1) (cpC ct))) := HFL.out.step hb1 HKB.out.symm
          have HKG : Hid (Kg w.heap.size g w2 wr) := HFS.out.kg
          have HKB' : Hid (k' + 1 = a * (q + 1) + (b + 1)) := by show _ = _; have := HKB.out; omega
          clear hvc HFL HFS HKB
          go_wp2_with fail
          refine wp_region_noPanic ?_
          refine wp_region_hel (fun w' : World => Kg w.heap.size g w2 w') (by kernel_rfl) (HKG.out.trans (Kg.of_nul ((Kp.refl wr Nul).drew))) (fun hHeld => ?_)
          refine wpH_takes (i := 0) (v := ?_) (some 69) rfl rfl (by kernel_rfl) (by kernel_rfl) (by kernel_rfl) (fun _ _ _ h => h) (Or.inl ⟨by rfl, ?_⟩) hHeld ?_
          rotate_left
          · intro w' hSw; clear hSw; go_simp; try with_reducible rfl
          simp only [Act.put, List.setIfInBounds_toArray, List.set_cons_zero, List.set_cons_succ]
          refine wpH_takes (i := 1) (v := ?_) (some 70) rfl rfl (by kernel_rfl) (by kernel_rfl) (by kernel_rfl) (fun _ _ _ h => h) (Or.inl ⟨by rfl, ?_⟩) hHeld ?_
          rotate_left
          · intro w' hSw; clear hSw; go_simp; try with_reducible rfl
          simp only [Act.put, List.setIfInBounds_toArray, List.set_cons_zero, List.set_cons_succ]
          refine wpH_takes (i := 2) (v := ?_) (some 71) rfl rfl (by kernel_rfl) (by kernel_rfl) (by kernel_rfl) (fun _ _ _ h => h) (Or.inl ⟨by rfl, ?_⟩) hHeld ?_
          rotate_left
          · intro w' hSw; clear hSw; go_simp; try with_reducible rfl
          simp only [Act.put, List.setIfInBounds_toArray, List.set_cons_zero, List.set_cons_succ]
          refine wpH_takes (i := 4) (v := ct.val sl) (some 73) rfl rfl (by kernel_rfl) (by kernel_rfl) (by kernel_rfl) (fun _ _ _ h => h) (Or.inl ⟨by rfl, fun w' hSw => exec_load_content _ rfl rfl (HC.out w' hSw) rfl⟩) hHeld ?_
          simp only [Act.put, List.setIfInBounds_toArray, List.set_cons_zero, List.set_cons_succ]
          refine wpH_step (i := 3) (by kernel_rfl) rfl rfl (fun K hK => ?_)
          go_simp
          refine (HCell.out _ _ _).mono ?_
          rintro e w8 ⟨rfl, hk8⟩
          have hk8' : Kp wr w8 Nul := ((Kp.refl wr Nul).drew).trans hk8
          refine hK.out _ _ (HKG.out.trans (Kg.of_nul hk8')) (fun hHeld2 => ?_)
          clear hK K hHeld hk8
          refine wpH_step (i := 5) (by kernel_rfl) rfl rfl (fun K hK => ?_)
          go_simp
          refine (HP.out w8 hk8').mono ?_
          rintro e w9 ⟨rfl, hf9⟩
          have HF9 : Hid (FS w w2 g (putL L' ((b : Int) + 1, (a : Int) + 1) (cpC ct)) w9) := hf9
          refine hK.out _ _ hf9.kg (fun hHeld3 => ?_)
          clear hK K hHeld2 hk8' hf9 HP HKG
          refine wpH_takes (i := 6) (v := ?_) (some 75) rfl rfl (by kernel_rfl) (by kernel_rfl) (by kernel_rfl) (fun _ _ _ h => h) (Or.inl ⟨by rfl, ?_⟩) hHeld3 ?_
          rotate_left
          · intro w' hSw; clear hSw; go_simp; try with_reducible rfl
          simp only [Act.put, List.setIfInBounds_toArray, List.set_cons_zero, List.set_cons_succ]
          refine wpAnyH_done (by kernel_rfl) ?_ _
          refine NoPanic.normal ?_
          clear hHeld3
          have jk : (k' : Int) + 1 ≤ 9223372036854775807 := by omega
          have jb : (b : Int) + 1 + 1 ≤ 9223372036854775807 := by have := HQ.out; omega
          go_wp2_with fail
          go_roundw
          case rel => exact ⟨k' + 1, b + 1, by go_num, by go_num, by omega, by omega, HKB'.out, _, HFN.out, HF9.out⟩
          case measure => simp only [intOf]; omega
        · have hex : Hid (k' = 4096 ∨ k' = (a + 1) * (q + 1)) := by
            show _ ∨ _
            have := HKB.out
            rw [Nat.succ_mul]
            omega
          have HHb : Hid (b ≤ q + 1) := hb
          have HHk : Hid (k' ≤ 4096) := hk'
          have ja : (a : Int) + 1 + 1 ≤ 9223372036854775807 := by have := HA4.out; omega
          by_cases hbq : b < q + 1
          rotate_left
          · have jd : ¬ ((b : Int) + 1 ≤ 1 + (q : Int)) := by omega
            have jd2 : decide ((b : Int) + 1 ≤ 1 + (q : Int)) = false := by simp; omega
            clear hbq hgo hb hk'
            go_wp2_with fail
            go_roundw
            case rel => exact ⟨k', a + 1, by go_num, by go_num, HHk.out, by have := HA4.out; omega, hex.out, L', HFL.out, HFS.out⟩
            case measure => simp only [intOf]; have := HA4.out; omega
          · have jd0 : (b : Int) + 1 ≤ 1 + (q : Int) := by omega
            have hke : k' = 4096 := by omega
            subst hke
            clear hbq hgo hb hk'
            go_wp2_with fail
            go_roundw
            case rel => exact ⟨4096, a + 1, by go_num, by go_num, HHk.out, by have := HA4.out; omega, hex.out, L', HFL.out, HFS.out⟩
            case measure => simp only [intOf]; have := HA4.out; omega
    · have hke : k = 4096 := by
        rcases hka with h | h
        · exact h
        · have ha' : a = 4096 ∨ 4096 ≤ k := by omega
          rcases ha' with h' | h'
          · subst h'
            have := Nat.mul_le_mul_left 4096 (show 1 ≤ q + 1 by omega)
            omega
          · omega
      subst hke
      have HFl : Hid (L.length = 4096) := HFL.out.1
      have HFi : Hid (∃ c', (((1 : Int), (1 : Int)), c') ∈ L) := HFL.out.first
      have jj : ((a : Int) + 1 ≤ 4096) ∨ ¬ ((a : Int) + 1 ≤ 4096) := Decidable.em _
      clear hka hgo hk ha
      rcases jj with jj | jj
      all_goals
        go_wp2_with fail
        refine (HCell.out _ _ _).mono ?_
        rintro e w3 ⟨rfl, hk3⟩
        obtain ⟨W4, hW4⟩ : ∃ W4, w3.alloc (.cells #[.int .i64 256, .int .i64 4096] 26) = W4 := ⟨_, rfl⟩
        have HW4 : Hid (w3.alloc (.cells #[.int .i64 256, .int .i64 4096] 26) = W4) := hW4
        have HB4' : Hid (Blk W4 w3.heap.size [.int .i64 256, .int .i64 4096] 26) := by show Blk _ _ _ _; rw [← hW4]; exact Blk.new w3 [.int .i64 256, .int .i64 4096] _
        have HK4 : Hid (Kp wr W4 Nul) := by show Kp _ _ _; rw [← hW4]; exact hk3.alloc _
        have HP1 : Hid (g < w3.heap.size) := by
          obtain ⟨mv, hgb⟩ := HFS.out.gi.blk
          exact Nat.lt_of_lt_of_le hgb.lt hk3.size
        clear hk3 hW4
        go_wp2_with fail
        rw [HW4.out]
        refine (HCell.out _ _ _).mono ?_
        rintro e w5 ⟨rfl, hk5⟩
        obtain ⟨W6, hW6⟩ : ∃ W6, w5.alloc (.cells #[.int .i64 1, .int .i64 1] 26) = W6 := ⟨_, rfl⟩
        have HW6 : Hid (w5.alloc (.cells #[.int .i64 1, .int .i64 1] 26) = W6) := hW6
        have k56 : Kp w5 W6 Nul := by rw [← hW6]; exact (Kp.refl w5 Nul).alloc _
        have ht6 : TS w w2 g w3.heap.size w5.heap.size 256 4096 L W6 := by
          refine ⟨HFS.out.kp ((HK4.out.trans hk5).trans k56), (HB4'.out.kp hk5 (fun x => x)).kp k56 (fun x => x), ?_, by have := HP1.out; omega, ?_⟩
          · rw [← hW6]; exact Blk.new w5 [.int .i64 1, .int .i64 1] _
          · have := HP1.out
            have := HB4'.out.lt
            have := hk5.size
            omega
        have HT6 : Hid (TS w w2 g w3.heap.size w5.heap.size 256 4096 L W6) := ht6
        have y1 : ∀ o, (w5.alloc o).cell? ⟨w3.heap.size, 0, none⟩ = some (.int .i64 256) := fun o => (((HB4'.out.kp hk5 (fun x => x))).alloc o).cell rfl
        have y2 : ∀ o, (w5.alloc o).cell? ⟨w3.heap.size, 1, none⟩ = some (.int .i64 4096) := fun o => (((HB4'.out.kp hk5 (fun x => x))).alloc o).cell rfl
        have HG5 : Hid (∀ o, Kg w.heap.size g w2 (w5.alloc o)) := fun o => HFS.out.kg.trans (Kg.of_nul ((HK4.out.trans hk5).alloc o))
        have HL35 : Hid (w3.heap.size < w5.heap.size) := Nat.lt_of_lt_of_le HB4'.out.lt hk5.size
        clear ht6 k56 hk5 hW6 HW4 HB4' HK4 HFS
        by_cases hq0 : q = 0
        · subst hq0
          have HNo : Hid (∀ c', (((2 : Int), (1 : Int)), c') ∉ L) := HFL.out.last0
          go_wp2_with fail
          rw [HW6.out]
          refine (HCell.out _ _ _).mono ?_
          rintro e w7 ⟨rfl, hk7⟩
          have ht7 := HT6.out.kp hk7
          have e1 : w7.cell? ⟨w3.heap.size, 0, none⟩ = some (.int .i64 256) := ht7.b1.cell rfl
          have e2 : w7.cell? ⟨w3.heap.size, 1, none⟩ = some (.int .i64 4096) := ht7.b1.cell rfl
          have e3 := ht7.b1.froz 0
          have e4 := ht7.b1.froz 1
          have ht8 : TS w w2 g w3.heap.size w5.heap.size 2 1 L ((w7.setCell ⟨w3.heap.size, 0, none⟩ (.int .i64 2)).setCell ⟨w3.heap.size, 1, none⟩ (.int .i64 1)) := ht7.set 2 1 (by have := HP1.out; have := HZ2.out; omega) HKW2.out.size (by have := HL35.out; omega)
          obtain ⟨W8, hW8⟩ : ∃ W8, (w7.setCell ⟨w3.heap.size, 0, none⟩ (.int .i64 2)).setCell ⟨w3.heap.size, 1, none⟩ (.int .i64 1) = W8 := ⟨_, rfl⟩
          rw [hW8] at ht8
          have HW8 : Hid ((w7.setCell ⟨w3.heap.size, 0, none⟩ (.int .i64 2)).setCell ⟨w3.heap.size, 1, none⟩ (.int .i64 1) = W8) := hW8
          have HT : Hid (TS w w2 g w3.heap.size w5.heap.size 2 1 L W8) := ht8
          have HC8 : Hid (((w7.setCell ⟨w3.heap.size, 0, none⟩ (.int .i64 2)).setCell ⟨w3.heap.size, 1, none⟩ (.int .i64 1)).heap[w.heap.size]? = some (.cells (ct.cells sl).toArray 33 (0, 0))) := by show _ = _; rw [hW8]; exact HC.out W8 ht8.fs.kg
          clear ht7 ht8 hW8 hk7 HT6 HG5 y1 y2 HW6
          go_wp2_with (first | (refine load_content_law rfl (.tmp 4) rfl w.heap.size rfl _ HC8.out rfl ?_) | fail)
          rw [HW8.out]
          clear HW8 HC8 e1 e2 e3 e4
          refine (ts_full HT.out H1.out HV.out HB3.out HK0.out (by decide) HFl.out HNo.out).mono ?_
          rintro e v1 ⟨rfl, ht1⟩
          have HT1 : Hid (TS w w2 g w3.heap.size w5.heap.size 2 1 L v1) := ht1
          have f1 : v1.cell? ⟨w3.heap.size, 0, none⟩ = some (.int .i64 2) := ht1.b1.cell rfl
          have f2 : v1.cell? ⟨w3.heap.size, 1, none⟩ = some (.int .i64 1) := ht1.b1.cell rfl
          clear ht1 HT
          go_wp2_with fail
          refine (ts_none HT1.out HV.out (by decide) HNo.out).mono ?_
          rintro e v2 ⟨rfl, ht2⟩
          have HT2 : Hid (TS w w2 g w3.heap.size w5.heap.size 2 1 L v2) := ht2
          have e1 : v2.cell? ⟨w5.heap.size, 0, none⟩ = some (.int .i64 1) := ht2.b2.cell rfl
          have e2 : v2.cell? ⟨w5.heap.size, 1, none⟩ = some (.int .i64 1) := ht2.b2.cell rfl
          have HD2 : Hid (v2.heap[w.heap.size + 1]? = some (.cells (du.cells sl2).toArray 33 (0, 0))) := HD.out v2 ht2.fs.kg
          clear ht2 HT1 f1 f2
          go_wp2_with (first | (refine load_content_law rfl (.tmp 5) rfl (w.heap.size + 1) rfl _ HD2.out rfl ?_) | fail)
          refine (ts_other HT2.out H2.out HV.out HB4.out HB2.out HFl.out HFi.out HNo.out).mono ?_
          rintro e v3 ⟨rfl, L3, ht3, hl3, hn3⟩
          have HT3 : Hid (TS w w2 g w3.heap.size w5.heap.size 2 1 L3 v3) := ht3
          have HL3 : Hid ((delL L3 (1, 1)).length = 4095) := hl3
          have HN3 : Hid (∀ c', (((2 : Int), (1 : Int)), c') ∉ delL L3 (1, 1)) := hn3
          have e1 : v3.cell? ⟨w5.heap.size, 0, none⟩ = some (.int .i64 1) := ht3.b2.cell rfl
          have e2 : v3.cell? ⟨w5.heap.size, 1, none⟩ = some (.int .i64 1) := ht3.b2.cell rfl
          clear ht3 hl3 hn3 HT2 HD2
          go_wp2_with fail
          refine (ts_gone HT3.out HV.out).mono ?_
          rintro e v4 ⟨rfl, ht4⟩
          have HT4 : Hid (TS w w2 g w3.heap.size w5.heap.size 2 1 (delL L3 (1, 1)) v4) := ht4
          have f1 : v4.cell? ⟨w3.heap.size, 0, none⟩ = some (.int .i64 2) := ht4.b1.cell rfl
          have f2 : v4.cell? ⟨w3.heap.size, 1, none⟩ = some (.int .i64 1) := ht4.b1.cell rfl
          have HC4 : Hid (v4.heap[w.heap.size]? = some (.cells (ct.cells sl).toArray 33 (0, 0))) := HC.out v4 ht4.fs.kg
          clear ht4 HT3 e1 e2
          go_wp2_with (first | (refine load_content_law rfl (.tmp 4) rfl w.heap.size rfl _ HC4.out rfl ?_) | fail)
          refine (ts_again HT4.out H1.out HV.out HB3.out HB1.out HK0.out (by decide) HL3.out HN3.out).mono ?_
          rintro e v5 ⟨rfl, L5, ht5, hl5⟩
          have HT5 : Hid (TS w w2 g w3.heap.size w5.heap.size 2 1 L5 v5) := ht5
          have HLn : Hid (Calls Tryd.prog 22 #[.pointer (some ⟨g, 0, none⟩)] v5 fun e w' => e = .returned (.int .i64 4096) ∧ w' = v5) := by
            have := Go.Proofs.YtjmbmapanmbnhaaDoor.len_at v5 _ g L5 ht5.fs.gi
            rw [hl5] at this
            exact this
          clear ht5 hl5 HT4 f1 f2 HC4
          go_wp2_with (go_at_call 22; refine HLn.out.mono ?_; rintro e v6 ⟨rfl, hv6⟩; replace hv6 := hv6.symm; subst hv6)
          go_ret
          exact ⟨rfl, HT5.out.fs.kw⟩
        · have HNo : Hid (∀ c', (((256 : Int), (4096 : Int)), c') ∉ L) := HFL.out.last (by omega)
          have jq : ((1 : Int) + (q : Int) == 1) = false := by simp; omega
          have jq2 : ¬ (1 : Int) + (q : Int) = 1 := by omega
          go_wp2_with (first | (refine load_content_law rfl (.tmp 4) rfl w.heap.size rfl _ (HC.out _ (HG5.out _)) rfl ?_) | fail)
          rw [HW6.out]
          have HT : Hid (TS w w2 g w3.heap.size w5.heap.size 256 4096 L W6) := HT6.out
          clear HT6 HG5 y1 y2 HW6 jq jq2 hq0
          refine (ts_full HT.out H1.out HV.out HB3.out HK0.out (by decide) HFl.out HNo.out).mono ?_
          rintro e v1 ⟨rfl, ht1⟩
          have HT1 : Hid (TS w w2 g w3.heap.size w5.heap.size 256 4096 L v1) := ht1
          have f1 : v1.cell? ⟨w3.heap.size, 0, none⟩ = some (.int .i64 256) := ht1.b1.cell rfl
          have f2 : v1.cell? ⟨w3.heap.size, 1, none⟩ = some (.int .i64 4096) := ht1.b1.cell rfl
          clear ht1 HT
          go_wp2_with fail
          refine (ts_none HT1.out HV.out (by decide) HNo.out).mono ?_
          rintro e v2 ⟨rfl, ht2⟩
          have HT2 : Hid (TS w w2 g w3.heap.size w5.heap.size 256 4096 L v2) := ht2
          have e1 : v2.cell? ⟨w5.heap.size, 0, none⟩ = some (.int .i64 1) := ht2.b2.cell rfl
          have e2 : v2.cell? ⟨w5.heap.size, 1, none⟩ = some (.int .i64 1) := ht2.b2.cell rfl
          have HD2 : Hid (v2.heap[w.heap.size + 1]? = some (.cells (du.cells sl2).toArray 33 (0, 0))) := HD.out v2 ht2.fs.kg
          clear ht2 HT1 f1 f2
          go_wp2_with (first | (refine load_content_law rfl (.tmp 5) rfl (w.heap.size + 1) rfl _ HD2.out rfl ?_) | fail)
          refine (ts_other HT2.out H2.out HV.out HB4.out HB2.out HFl.out HFi.out HNo.out).mono ?_
          rintro e v3 ⟨rfl, L3, ht3, hl3, hn3⟩
          have HT3 : Hid (TS w w2 g w3.heap.size w5.heap.size 256 4096 L3 v3) := ht3
          have HL3 : Hid ((delL L3 (1, 1)).length = 4095) := hl3
          have HN3 : Hid (∀ c', ((256, 4096), c') ∉ delL L3 (1, 1)) := hn3
          have e1 : v3.cell? ⟨w5.heap.size, 0, none⟩ = some (.int .i64 1) := ht3.b2.cell rfl
          have e2 : v3.cell? ⟨w5.heap.size, 1, none⟩ = some (.int .i64 1) := ht3.b2.cell rfl
          clear ht3 hl3 hn3 HT2 HD2
          go_wp2_with fail
          refine (ts_gone HT3.out HV.out).mono ?_
          rintro e v4 ⟨rfl, ht4⟩
          have HT4 : Hid (TS w w2 g w3.heap.size w5.heap.size 256 4096 (delL L3 (1, 1)) v4) := ht4
          have f1 : v4.cell? ⟨w3.heap.size, 0, none⟩ = some (.int .i64 256) := ht4.b1.cell rfl
          have f2 : v4.cell? ⟨w3.heap.size, 1, none⟩ = some (.int .i64 4096) := ht4.b1.cell rfl
          have HC4 : Hid (v4.heap[w.heap.size]? = some (.cells (ct.cells sl).toArray 33 (0, 0))) := HC.out v4 ht4.fs.kg
          clear ht4 HT3 e1 e2
          go_wp2_with (first | (refine load_content_law rfl (.tmp 4) rfl w.heap.size rfl _ HC4.out rfl ?_) | fail)
          refine (ts_again HT4.out H1.out HV.out HB3.out HB1.out HK0.out (by decide) HL3.out HN3.out).mono ?_
          rintro e v5 ⟨rfl, L5, ht5, hl5⟩
          have HT5 : Hid (TS w w2 g w3.heap.size w5.heap.size 256 4096 L5 v5) := ht5
          have HLn : Hid (Calls Tryd.prog 22 #[.pointer (some ⟨g, 0, none⟩)] v5 fun e w' => e = .returned (.int .i64 4096) ∧ w' = v5) := by
            have := Go.Proofs.YtjmbmapanmbnhaaDoor.len_at v5 _ g L5 ht5.fs.gi
            rw [hl5] at this
            exact this
          clear ht5 hl5 HT4 f1 f2 HC4
          go_wp2_with (go_at_call 22; refine HLn.out.mono ?_; rintro e v6 ⟨rfl, hv6⟩; replace hv6 := hv6.symm; subst hv6)
          go_ret
          exact ⟨rfl, HT5.out.fs.kw⟩
end Go.Proofs.YtjmbmapanmbnhaaDoor
