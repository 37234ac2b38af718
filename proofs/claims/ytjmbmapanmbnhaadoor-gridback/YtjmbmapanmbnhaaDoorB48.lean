/- GridBack: the walk. -/
import Derived.Test.YtjmbmapanmbnhaaDoorB47
namespace Go.Proofs.YtjmbmapanmbnhaaDoor
open Go.RowKit Go.Maps Go.Sort Go.Lib Go.Shelf
attribute [local go_sem] Oper.semAt_some

set_option maxRecDepth 20000 in
set_option maxHeartbeats 40000000 in
theorem back17 (vl vk vo : Value) (xl xk : List (Cc × Value)) (zo : List Int) (w : World) (hl : PutsIn w vl xl) (hk : PutsIn w vk xk) (ho : IntsIn w vo zo) (hv : VS w) :
    Calls Tryd.prog 5 #[vl, vk, vo] w fun e w' => e = .returned (.bool true) ∧ Kp w w' Nul := by
  have HAw : Hid (Calls Tryd.prog 7 #[] w fun e w' => e = .returned (.bool true) ∧ Kp w w' Nul) := awake17 w
  have HNew : Hid (∀ w, Calls Tryd.prog 18 #[] w fun e w' => e = .returned (.pointer (some ⟨w.heap.size, 0, none⟩)) ∧ w' = w.alloc (.cells #[.map none] 77)) := new_at
  have HV : Hid (VS w) := hv
  obtain ⟨la, lc, rfl, hla⟩ := hl.sl
  obtain ⟨ka, kc, rfl, hka⟩ := hk.sl
  obtain ⟨oa, oc, rfl, hoa⟩ := ho.sl
  have HLA : Hid (0 < xl.length → ∃ b o, la = some ⟨b, o, none⟩ ∧ ∀ (i : Nat) y, xl[i]? = some y → w.rangeAt b (o + i * 23) (ptCells y.1 y.2)) := hla
  have HKA : Hid (0 < xk.length → ∃ b o, ka = some ⟨b, o, none⟩ ∧ ∀ (i : Nat) y, xk[i]? = some y → w.rangeAt b (o + i * 23) (ptCells y.1 y.2)) := hka
  have HOA : Hid (0 < zo.length → ∃ b o, oa = some ⟨b, o, none⟩ ∧ ∀ (i : Nat) y, zo[i]? = some y → w.cell? ⟨b, o + i, none⟩ = some (.int .i64 y)) := hoa
  have HLC : Hid (∀ y ∈ xl, Cn w y.1.2 y.2) := hl.cn
  have HKC : Hid (∀ y ∈ xk, Cn w y.1.2 y.2) := hk.cn
  have HOR : Hid (∀ z ∈ zo, I64 z) := ho.rng
  have hLL : xl.length ≤ 9223372036854775807 := by have := hl.len; unfold maxLen at this; omega
  have hKL : xk.length ≤ 9223372036854775807 := by have := hk.len; unfold maxLen at this; omega
  have hOL : zo.length ≤ 9223372036854775807 := by have := ho.len; unfold maxLen at this; omega
  generalize hnl : xl.length = nl at *
  generalize hnk : xk.length = nk at *
  generalize hno : zo.length = no at *
  have HNL : Hid (xl.length = nl ∧ nl ≤ 9223372036854775807) := ⟨hnl, hLL⟩
  have HNK : Hid (xk.length = nk ∧ nk ≤ 9223372036854775807) := ⟨hnk, hKL⟩
  have HNO : Hid (zo.length = no ∧ no ≤ 9223372036854775807) := ⟨hno, hOL⟩
  clear hl hk ho hv hla hka hoa hnl hnk hno hLL hKL hOL
  refine (callsIn_wide (n := 12)).1 ?_
  refine callsIn_of_wp_marks Tryd.func5 rfl trivial ?_ rfl
  simp only [Tryd.ntmps5, List.size_toArray, List.length_cons, List.length_nil, Nat.reduceAdd, Nat.reduceSub, Array.replicate_succ, Array.replicate_zero, List.push_toArray, List.append_toArray, List.nil_append, List.cons_append]
  refine wpIn_wide.2 ?_
  go_wp2_with fail
  refine HAw.out.mono ?_
  rintro e w1 ⟨rfl, hk1⟩
  have HK1 : Hid (Kp w w1 Nul) := hk1
  clear hk1 HAw
  go_wp2_with fail
  refine (HNew.out w1).mono ?_
  rintro e w2 ⟨rfl, hw2⟩
  have HW2 : Hid (w2 = w1.alloc (.cells #[.map none] 77)) := hw2
  clear hw2
  go_wp2_with fail
  refine (HNew.out w2).mono ?_
  rintro e w3 ⟨rfl, hw3⟩
  have HW3 : Hid (w3 = w2.alloc (.cells #[.map none] 77)) := hw3
  clear hw3
  go_wp2_with fail
  refine (HNew.out w3).mono ?_
  rintro e w4 ⟨rfl, hw4⟩
  have HSt : Hid (St3 FA FA FA w w4 w1.heap.size [] w2.heap.size [] w3.heap.size []) := by
    have e2 := HW2.out
    have e3 := HW3.out
    have k12 : Kp w1 w2 Nul := by rw [e2]; exact (Kp.refl _ _).alloc _
    have k23 : Kp w2 w3 Nul := by rw [e3]; exact (Kp.refl _ _).alloc _
    have k34 : Kp w3 w4 Nul := by rw [hw4]; exact (Kp.refl _ _).alloc _
    have s2 : w2.heap.size = w1.heap.size + 1 := by rw [e2, World.size_alloc]
    have s3 : w3.heap.size = w2.heap.size + 1 := by rw [e3, World.size_alloc]
    have z1 := HK1.out.size
    have m1 : Mine w w2 FA w1.heap.size [] := by rw [e2]; exact Mine.new w w1 z1
    have m2 : Mine w w3 FA w2.heap.size [] := by rw [e3]; exact Mine.new w w2 (by omega)
    have m3 : Mine w w4 FA w3.heap.size [] := by rw [hw4]; exact Mine.new w w3 (by omega)
    have b1 : Blk w2 w1.heap.size [.map none] 77 := by rw [e2]; exact Blk.new w1 [.map none] _
    have b2 : Blk w3 w2.heap.size [.map none] 77 := by rw [e3]; exact Blk.new w2 [.map none] _
    have b3 : Blk w4 w3.heap.size [.map none] 77 := by rw [hw4]; exact Blk.new w3 [.map none] _
    have b1' := (b1.kp k23 (fun x => x)).kp k34 (fun x => x)
    have b2' := b2.kp k34 (fun x => x)
    exact ⟨(m1.nul k23).nul k34, m2.nul k34, m3, apart_new (by omega) b1', apart_new (by omega) b2', apart_new (by omega) b3, ((HK1.out.trans k12).trans k23).trans k34⟩
  clear hw4 HW2 HW3 HNew HK1
  generalize w1.heap.size = ga at *
  generalize w2.heap.size = gb at *
  generalize w3.heap.size = gc at *
  go_wp2_with fail
  go_loopw [11] (fun i wr => ∃ (q : Nat) (La : List Cc), q ≤ nl ∧ i = .int .i64 q ∧ St3 FA FA FA w wr ga La gb [] gc []) (fun i _ => nl - (RowKit.intOf i).toNat)
  case atStart => exact ⟨0, [], Nat.zero_le _, rfl, HSt.out⟩
  case round =>
    clear HSt
    obtain ⟨q, La, hq, rfl, hst⟩ := hrel
    have HST : Hid (St3 FA FA FA w wr ga La gb [] gc []) := hst
    clear hst
    by_cases hlt : q < nl
    · have hqt : q < xl.length := by rw [HNL.out.1]; exact hlt
      obtain ⟨b, o, rfl, hra⟩ := HLA.out (by have := HNL.out.1; omega)
      obtain ⟨⟨⟨⟨c, s⟩, a⟩, sa⟩, hys⟩ : ∃ y, xl[q] = y := ⟨_, rfl⟩
      have hget : xl[q]? = some (((c, s), a), sa) := by rw [List.getElem?_eq_getElem hqt, hys]
      have hr := hra q _ hget
      have hcn := HLC.out _ (List.mem_of_getElem? hget)
      have HCN : Hid (Cn w a sa) := hcn
      have HRG : Hid (∀ wq, Kp w wq Nul → wq.rangeAt b (o + q * 23) [.int .i64 c, .int .i64 s] ∧ wq.rangeAt b (o + q * 23 + 2) (a.cells sa)) := fun wq k => pt_parts (rangeAt_kp hr k (fun x => x))
      have HHv : Hid (∀ wq, Kp w wq Nul → Calls Tryd.prog 8 #[.agg (a.cells sa).toArray] wq fun e w' => e = .returned (.bool (decide (1048576 < a.t.size))) ∧ Kp wq w' Nul) := fun wq k => (heavy_at a sa (fun _ => True) wq (hcn.inn.kp k (fun _ _ x => x))).mono fun e w' ⟨q1, q2⟩ => ⟨q1, Kp.of_gr q2⟩
      have hq0 : (0 : Int) ≤ (q : Int) := by omega
      have hqn : (q : Int) < (nl : Int) := by omega
      have hkb : (q : Int) + 1 ≤ 9223372036854775807 := by have := HNL.out.2; omega
      clear hqt hys hget hr hra hcn
      go_wp2_with (first | (refine wpList_load_mid rfl 33 (.tmp 49) rfl b (o + q * 23 + 2) rfl (a.cells sa) _ (HRG.out _ HST.out.kp).2 Tryd.underlying33 rfl infoContent ?_) | fail)
      refine (HHv.out _ HST.out.kp).mono ?_
      rintro e w5 ⟨rfl, hk5⟩
      have HS5 : Hid (St3 FA FA FA w w5 ga La gb [] gc []) := HST.out.nul hk5
      clear hk5 HHv HST
      by_cases b1 : 1048576 < a.t.size
      · rw [decide_eq_true b1]
        go_wp2_with fail
        exact ⟨_, results_tmp rfl _ _ _, rfl, HS5.out.kp⟩
      rw [decide_eq_false b1]
      have HSZ : Hid (a.t.size ≤ 1048576) := by show _ ≤ _; omega
      clear b1
      have HPut : Hid (∀ wq, Kp w5 wq Nul → Calls Tryd.prog 20 #[.pointer (some ⟨ga, 0, none⟩), .agg #[.int .i64 c, .int .i64 s], .agg (a.cells sa).toArray] wq fun e w' => ∃ er L', e = .returned (.int .i64 er) ∧ St3 FA FA FA w w' ga L' gb [] gc []) := fun wq k => by
        have h5 := HS5.out.nul k
        refine (put_any FA ga c s a sa (fun _ => True) La wq h5.m1.gi (fun _ _ => Nat.zero_le _) h5.m1.ok HCN.out.ok HCN.out.vx HSZ.out (HCN.out.inn.kp h5.kp (fun _ _ x => x)) (HV.out.kp h5.kp)).mono ?_
        rintro e w' ⟨er, L', rfl, h1, h2, h3⟩
        exact ⟨er, L', rfl, h5.step h3 h1 h2.ok⟩
      go_wp2_with fail
      refine wp_region_noPanic ?_
      refine wp_region_hel (fun w' : World => Kp w w' Nul) (by kernel_rfl) (HS5.out.kp.drew) (fun hHeld => ?_)
      refine wpH_takes (i := 0) (v := ?_) (some 52) rfl rfl (by kernel_rfl) (by kernel_rfl) (by kernel_rfl) (fun _ _ _ h => h) (Or.inl ⟨by rfl, ?_⟩) hHeld ?_
      rotate_left
      · intro w' hSw; clear hSw; go_simp; try with_reducible rfl
      simp only [Act.put, List.setIfInBounds_toArray, List.set_cons_zero, List.set_cons_succ]
      refine wpH_takes (i := 1) (v := ?_) (some 53) rfl rfl (by kernel_rfl) (by kernel_rfl) (by kernel_rfl) (fun _ _ _ h => h) (Or.inl ⟨by rfl, ?_⟩) hHeld ?_
      rotate_left
      · intro w' hSw; clear hSw; go_simp; try with_reducible rfl
      simp only [Act.put, List.setIfInBounds_toArray, List.set_cons_zero, List.set_cons_succ]
      refine wpH_takes (i := 2) (v := ?_) (some 54) rfl rfl (by kernel_rfl) (by kernel_rfl) (by kernel_rfl) (fun _ _ _ h => h) (Or.inl ⟨by rfl, ?_⟩) hHeld ?_
      rotate_left
      · intro w' hSw; clear hSw; go_simp; try with_reducible rfl
      simp only [Act.put, List.setIfInBounds_toArray, List.set_cons_zero, List.set_cons_succ]
      refine wpH_takes (i := 3) (v := ?_) (some 55) rfl rfl (by kernel_rfl) (by kernel_rfl) (by kernel_rfl) (fun _ _ _ h => h) (Or.inl ⟨by rfl, ?_⟩) hHeld ?_
      rotate_left
      · intro w' hSw; clear hSw; go_simp; try with_reducible rfl
      simp only [Act.put, List.setIfInBounds_toArray, List.set_cons_zero, List.set_cons_succ]
      refine wpH_takes (i := 4) (v := ?_) (some 56) rfl rfl (by kernel_rfl) (by kernel_rfl) (by kernel_rfl) (fun _ _ _ h => h) (Or.inl ⟨by rfl, ?_⟩) hHeld ?_
      rotate_left
      · intro w' hSw; clear hSw; go_simp; try with_reducible rfl
      simp only [Act.put, List.setIfInBounds_toArray, List.set_cons_zero, List.set_cons_succ]
      refine wpH_takes (i := 5) (v := .agg ([.int .i64 c, .int .i64 s]).toArray) (some 57) rfl rfl (by kernel_rfl) (by kernel_rfl) (by kernel_rfl) (fun _ _ _ h => h) (Or.inl ⟨by rfl, fun w' hSw => exec_load_row 26 (.tmp 56) rfl b (o + q * 23) rfl ([.int .i64 c, .int .i64 s]) _ (HRG.out w' hSw).1 Tryd.underlying26 rfl infoAddr2⟩) hHeld ?_
      simp only [Act.put, List.setIfInBounds_toArray, List.set_cons_zero, List.set_cons_succ]
      refine wpH_takes (i := 6) (v := ?_) (some 58) rfl rfl (by kernel_rfl) (by kernel_rfl) (by kernel_rfl) (fun _ _ _ h => h) (Or.inl ⟨by rfl, ?_⟩) hHeld ?_
      rotate_left
      · intro w' hSw; clear hSw; go_simp; try with_reducible rfl
      simp only [Act.put, List.setIfInBounds_toArray, List.set_cons_zero, List.set_cons_succ]
      refine wpH_takes (i := 7) (v := ?_) (some 59) rfl rfl (by kernel_rfl) (by kernel_rfl) (by kernel_rfl) (fun _ _ _ h => h) (Or.inl ⟨by rfl, ?_⟩) hHeld ?_
      rotate_left
      · intro w' hSw; clear hSw; go_simp; try with_reducible rfl
      simp only [Act.put, List.setIfInBounds_toArray, List.set_cons_zero, List.set_cons_succ]
      refine wpH_takes (i := 8) (v := ?_) (some 60) rfl rfl (by kernel_rfl) (by kernel_rfl) (by kernel_rfl) (fun _ _ _ h => h) (Or.inl ⟨by rfl, ?_⟩) hHeld ?_
      rotate_left
      · intro w' hSw; clear hSw; go_simp; try with_reducible rfl
      simp only [Act.put, List.setIfInBounds_toArray, List.set_cons_zero, List.set_cons_succ]
      refine wpH_takes (i := 9) (v := ?_) (some 61) rfl rfl (by kernel_rfl) (by kernel_rfl) (by kernel_rfl) (fun _ _ _ h => h) (Or.inl ⟨by rfl, ?_⟩) hHeld ?_
      rotate_left
      · intro w' hSw; clear hSw; go_simp; try with_reducible rfl
      simp only [Act.put, List.setIfInBounds_toArray, List.set_cons_zero, List.set_cons_succ]
      refine wpH_takes (i := 10) (v := .agg (a.cells sa).toArray) (some 62) rfl rfl (by kernel_rfl) (by kernel_rfl) (by kernel_rfl) (fun _ _ _ h => h) (Or.inl ⟨by rfl, fun w' hSw => exec_load_row 33 (.tmp 61) rfl b (o + q * 23 + 2) rfl (a.cells sa) _ (HRG.out w' hSw).2 Tryd.underlying33 rfl infoContent⟩) hHeld ?_
      simp only [Act.put, List.setIfInBounds_toArray, List.set_cons_zero, List.set_cons_succ]
      refine wpH_step (i := 11) (by kernel_rfl) rfl rfl (fun K hK => ?_)
      go_simp
      refine (HPut.out _ ((Kp.refl _ _).drew)).mono ?_
      rintro e w6 ⟨er, L6, rfl, hst6⟩
      have HS6 : Hid (St3 FA FA FA w w6 ga L6 gb [] gc []) := hst6
      refine hK.out _ _ hst6.kp (fun _ => ?_)
      clear hK K hst6 hHeld HPut HRG HS5
      refine wpAnyH_done (by kernel_rfl) ?_ _
      refine NoPanic.normal ?_
      go_wp2_with fail
      go_roundw
      case rel => exact ⟨q + 1, L6, by omega, by go_num, HS6.out⟩
      case measure => simp only [RowKit.intOf]; omega
    · have hqe : q = nl := by omega
      subst hqe
      have hqn : ¬ ((q : Int) < (q : Int)) := by omega
      go_wp2_with fail
      clear hqn hq hlt
      go_loopw [12] (fun i wr => ∃ (q : Nat) (Lb : List Cc), q ≤ nk ∧ i = .int .i64 q ∧ St3 FA FA FA w wr ga La gb Lb gc []) (fun i _ => nk - (RowKit.intOf i).toNat)
      case atStart => exact ⟨0, [], Nat.zero_le _, rfl, HST.out⟩
      case round =>
        clear HST
        obtain ⟨q, Lb, hq, rfl, hst⟩ := hrel
        have HST : Hid (St3 FA FA FA w wr ga La gb Lb gc []) := hst
        clear hst
        by_cases hlt : q < nk
        · have hqt : q < xk.length := by rw [HNK.out.1]; exact hlt
          obtain ⟨b, o, rfl, hra⟩ := HKA.out (by have := HNK.out.1; omega)
          obtain ⟨⟨⟨⟨c, s⟩, a⟩, sa⟩, hys⟩ : ∃ y, xk[q] = y := ⟨_, rfl⟩
          have hget : xk[q]? = some (((c, s), a), sa) := by rw [List.getElem?_eq_getElem hqt, hys]
          have hr := hra q _ hget
          have hcn := HKC.out _ (List.mem_of_getElem? hget)
          have HCN : Hid (Cn w a sa) := hcn
          have HRG : Hid (∀ wq, Kp w wq Nul → wq.rangeAt b (o + q * 23) [.int .i64 c, .int .i64 s] ∧ wq.rangeAt b (o + q * 23 + 2) (a.cells sa)) := fun wq k => pt_parts (rangeAt_kp hr k (fun x => x))
          have HHv : Hid (∀ wq, Kp w wq Nul → Calls Tryd.prog 8 #[.agg (a.cells sa).toArray] wq fun e w' => e = .returned (.bool (decide (1048576 < a.t.size))) ∧ Kp wq w' Nul) := fun wq k => (heavy_at a sa (fun _ => True) wq (hcn.inn.kp k (fun _ _ x => x))).mono fun e w' ⟨q1, q2⟩ => ⟨q1, Kp.of_gr q2⟩
          have hq0 : (0 : Int) ≤ (q : Int) := by omega
          have hqn : (q : Int) < (nk : Int) := by omega
          have hkb : (q : Int) + 1 ≤ 9223372036854775807 := by have := HNK.out.2; omega
          clear hqt hys hget hr hra hcn
          go_wp2_with (first | (refine wpList_load_mid rfl 33 (.tmp 73) rfl b (o + q * 23 + 2) rfl (a.cells sa) _ (HRG.out _ HST.out.kp).2 Tryd.underlying33 rfl infoContent ?_) | fail)
          refine (HHv.out _ HST.out.kp).mono ?_
          rintro e w5 ⟨rfl, hk5⟩
          have HS5 : Hid (St3 FA FA FA w w5 ga La gb Lb gc []) := HST.out.nul hk5
          clear hk5 HHv HST
          by_cases b1 : 1048576 < a.t.size
          · rw [decide_eq_true b1]
            go_wp2_with fail
            exact ⟨_, results_tmp rfl _ _ _, rfl, HS5.out.kp⟩
          rw [decide_eq_false b1]
          have HSZ : Hid (a.t.size ≤ 1048576) := by show _ ≤ _; omega
          clear b1
          have HPut : Hid (∀ wq, Kp w5 wq Nul → Calls Tryd.prog 20 #[.pointer (some ⟨gb, 0, none⟩), .agg #[.int .i64 c, .int .i64 s], .agg (a.cells sa).toArray] wq fun e w' => ∃ er L', e = .returned (.int .i64 er) ∧ St3 FA FA FA w w' ga La gb L' gc []) := fun wq k => by
            have h5 := HS5.out.nul k
            refine (put_any FA gb c s a sa (fun _ => True) Lb wq h5.rot.m1.gi (fun _ _ => Nat.zero_le _) h5.rot.m1.ok HCN.out.ok HCN.out.vx HSZ.out (HCN.out.inn.kp h5.kp (fun _ _ x => x)) (HV.out.kp h5.kp)).mono ?_
            rintro e w' ⟨er, L', rfl, h1, h2, h3⟩
            exact ⟨er, L', rfl, (h5.rot.step h3 h1 h2.ok).rot.rot⟩
          go_wp2_with fail
          refine wp_region_noPanic ?_
          refine wp_region_hel (fun w' : World => Kp w w' Nul) (by kernel_rfl) (HS5.out.kp.drew) (fun hHeld => ?_)
          refine wpH_takes (i := 0) (v := ?_) (some 76) rfl rfl (by kernel_rfl) (by kernel_rfl) (by kernel_rfl) (fun _ _ _ h => h) (Or.inl ⟨by rfl, ?_⟩) hHeld ?_
          rotate_left
          · intro w' hSw; clear hSw; go_simp; try with_reducible rfl
          simp only [Act.put, List.setIfInBounds_toArray, List.set_cons_zero, List.set_cons_succ]
          refine wpH_takes (i := 1) (v := ?_) (some 77) rfl rfl (by kernel_rfl) (by kernel_rfl) (by kernel_rfl) (fun _ _ _ h => h) (Or.inl ⟨by rfl, ?_⟩) hHeld ?_
          rotate_left
          · intro w' hSw; clear hSw; go_simp; try with_reducible rfl
          simp only [Act.put, List.setIfInBounds_toArray, List.set_cons_zero, List.set_cons_succ]
          refine wpH_takes (i := 2) (v := ?_) (some 78) rfl rfl (by kernel_rfl) (by kernel_rfl) (by kernel_rfl) (fun _ _ _ h => h) (Or.inl ⟨by rfl, ?_⟩) hHeld ?_
          rotate_left
          · intro w' hSw; clear hSw; go_simp; try with_reducible rfl
          simp only [Act.put, List.setIfInBounds_toArray, List.set_cons_zero, List.set_cons_succ]
          refine wpH_takes (i := 3) (v := ?_) (some 79) rfl rfl (by kernel_rfl) (by kernel_rfl) (by kernel_rfl) (fun _ _ _ h => h) (Or.inl ⟨by rfl, ?_⟩) hHeld ?_
          rotate_left
          · intro w' hSw; clear hSw; go_simp; try with_reducible rfl
          simp only [Act.put, List.setIfInBounds_toArray, List.set_cons_zero, List.set_cons_succ]
          refine wpH_takes (i := 4) (v := ?_) (some 80) rfl rfl (by kernel_rfl) (by kernel_rfl) (by kernel_rfl) (fun _ _ _ h => h) (Or.inl ⟨by rfl, ?_⟩) hHeld ?_
          rotate_left
          · intro w' hSw; clear hSw; go_simp; try with_reducible rfl
          simp only [Act.put, List.setIfInBounds_toArray, List.set_cons_zero, List.set_cons_succ]
          refine wpH_takes (i := 5) (v := .agg ([.int .i64 c, .int .i64 s]).toArray) (some 81) rfl rfl (by kernel_rfl) (by kernel_rfl) (by kernel_rfl) (fun _ _ _ h => h) (Or.inl ⟨by rfl, fun w' hSw => exec_load_row 26 (.tmp 80) rfl b (o + q * 23) rfl ([.int .i64 c, .int .i64 s]) _ (HRG.out w' hSw).1 Tryd.underlying26 rfl infoAddr2⟩) hHeld ?_
          simp only [Act.put, List.setIfInBounds_toArray, List.set_cons_zero, List.set_cons_succ]
          refine wpH_takes (i := 6) (v := ?_) (some 82) rfl rfl (by kernel_rfl) (by kernel_rfl) (by kernel_rfl) (fun _ _ _ h => h) (Or.inl ⟨by rfl, ?_⟩) hHeld ?_
          rotate_left
          · intro w' hSw; clear hSw; go_simp; try with_reducible rfl
          simp only [Act.put, List.setIfInBounds_toArray, List.set_cons_zero, List.set_cons_succ]
          refine wpH_takes (i := 7) (v := ?_) (some 83) rfl rfl (by kernel_rfl) (by kernel_rfl) (by kernel_rfl) (fun _ _ _ h => h) (Or.inl ⟨by rfl, ?_⟩) hHeld ?_
          rotate_left
          · intro w' hSw; clear hSw; go_simp; try with_reducible rfl
          simp only [Act.put, List.setIfInBounds_toArray, List.set_cons_zero, List.set_cons_succ]
          refine wpH_takes (i := 8) (v := ?_) (some 84) rfl rfl (by kernel_rfl) (by kernel_rfl) (by kernel_rfl) (fun _ _ _ h => h) (Or.inl ⟨by rfl, ?_⟩) hHeld ?_
          rotate_left
          · intro w' hSw; clear hSw; go_simp; try with_reducible rfl
          simp only [Act.put, List.setIfInBounds_toArray, List.set_cons_zero, List.set_cons_succ]
          refine wpH_takes (i := 9) (v := ?_) (some 85) rfl rfl (by kernel_rfl) (by kernel_rfl) (by kernel_rfl) (fun _ _ _ h => h) (Or.inl ⟨by rfl, ?_⟩) hHeld ?_
          rotate_left
          · intro w' hSw; clear hSw; go_simp; try with_reducible rfl
          simp only [Act.put, List.setIfInBounds_toArray, List.set_cons_zero, List.set_cons_succ]
          refine wpH_takes (i := 10) (v := .agg (a.cells sa).toArray) (some 86) rfl rfl (by kernel_rfl) (by kernel_rfl) (by kernel_rfl) (fun _ _ _ h => h) (Or.inl ⟨by rfl, fun w' hSw => exec_load_row 33 (.tmp 85) rfl b (o + q * 23 + 2) rfl (a.cells sa) _ (HRG.out w' hSw).2 Tryd.underlying33 rfl infoContent⟩) hHeld ?_
          simp only [Act.put, List.setIfInBounds_toArray, List.set_cons_zero, List.set_cons_succ]
          refine wpH_step (i := 11) (by kernel_rfl) rfl rfl (fun K hK => ?_)
          go_simp
          refine (HPut.out _ ((Kp.refl _ _).drew)).mono ?_
          rintro e w6 ⟨er, L6, rfl, hst6⟩
          have HS6 : Hid (St3 FA FA FA w w6 ga La gb L6 gc []) := hst6
          refine hK.out _ _ hst6.kp (fun _ => ?_)
          clear hK K hst6 hHeld HPut HRG HS5
          refine wpAnyH_done (by kernel_rfl) ?_ _
          refine NoPanic.normal ?_
          go_wp2_with fail
          go_roundw
          case rel => exact ⟨q + 1, L6, by omega, by go_num, HS6.out⟩
          case measure => simp only [RowKit.intOf]; omega
        · have hqe : q = nk := by omega
          subst hqe
          have hqn : ¬ ((q : Int) < (q : Int)) := by omega
          have HAll : Hid (Calls Tryd.prog 23 #[.pointer (some ⟨ga, 0, none⟩)] wr fun e w' => ∃ x0 x1, e = .returned (.func (.func 56) #[] #[.pointer (some ⟨x0, 0, none⟩), .pointer (some ⟨x1, 0, none⟩)]) ∧ Blk w' x0 [.pointer (some ⟨ga, 0, none⟩)] 39 ∧ Blk w' x1 [.int .i64 1, .int .i64 1, .int .i64 256, .int .i64 4096] 58 ∧ Kp wr w' Nul) := all_at ga wr
          go_wp2_with fail
          refine HAll.out.mono ?_
          rintro e w5 ⟨x0, x1, rfl, hb0, hb1, hk5⟩
          have HS5 : Hid (St3 FA FA FA w w5 ga La gb Lb gc []) := HST.out.nul hk5
          have HX0 : Hid (Blk w5 x0 [.pointer (some ⟨ga, 0, none⟩)] 39) := hb0
          have HX1 : Hid (Blk w5 x1 [.int .i64 1, .int .i64 1, .int .i64 256, .int .i64 4096] 58) := hb1
          clear hk5 hb0 hb1 HAll HST hqn hq hlt HLA HKA HLC HKC HNL HNK
          have hnf := eq_nilf 56
          go_wp2_with fail
          obtain ⟨w6, hW6⟩ : ∃ w6, w5.alloc (.cells #[.slice none 0 0] 47) = w6 := ⟨_, rfl⟩
          rw [hW6]
          have s6 : w6.heap.size = w5.heap.size + 1 := by rw [← hW6, World.size_alloc]
          have k56 : Kp w5 w6 Nul := by rw [← hW6]; exact (Kp.refl w5 Nul).alloc _
          have b6 : Blk w6 w5.heap.size [.slice none 0 0] 47 := by rw [← hW6]; exact Blk.new w5 [.slice none 0 0] _
          clear hW6
          obtain ⟨K, hKs, hKm⟩ := in_order HS5.out.m1.g0.once
          have hKl : K.length ≤ 4096 := by
            have := nodup_le _ (La.map (·.1)) (strict_nodup hKs) (fun x hx => by
              obtain ⟨y, hy, rfl⟩ := List.mem_map.1 hx
              exact List.mem_map.2 ⟨y, (hKm y).1 hy, rfl⟩)
            rw [List.length_map, List.length_map] at this
            have := HS5.out.m1.ok.len
            omega
          generalize hact : Act.mk _ _ = a0
          refine wp_range_own (α := Cc × Value) (N := K.length) (gf := 56) (lb := #[.pointer (some ⟨x0, 0, none⟩), .pointer (some ⟨x1, 0, none⟩)]) (by rw [← hact]; rfl) (enters_of Tryd.func56 (by kernel_rfl) rfl) (encs := encP) (fun _ => rfl) (TellP w6 K) (fun i => i = w5.heap.size) ?hseq (AllI w5 w6 K) ?hZ ?hZl ?hI (fun i => i = w5.heap.size ∨ (Value.slice none 0 0).ownBlock = some i) ?h0 ?hround ?hdone
          case hseq => exact in1_seq ga x0 x1 w5.heap.size La K w6 _ (HS5.out.m1.g0.kp k56) (HS5.out.m1.g0.low.kp k56) HS5.out.m1.ok.gd HS5.out.m1.ok.at' HS5.out.m1.ok.len hKs hKm (by omega) (fun i e => by have : i = w5.heap.size := e; omega) (HX0.out.kp k56 (fun x => x)) (HX1.out.kp k56 (fun x => x))
          case hZ => rintro k Z W ⟨v, zs, h⟩; exact h.hZ s6
          case hZl => rintro k Z W ⟨v, zs, h⟩; exact h.hZl
          case hI => rintro k Z W W' ⟨v, zs, h⟩ g; exact ⟨v, zs, h.hI s6 g⟩
          case h0 => exact ⟨.slice none 0 0, [], rfl, rfl, b6, Pts.nil _ _ _, fun i => Iff.rfl, k56⟩
          case hround =>
            subst hact
            rintro k ⟨⟨⟨c, s⟩, a⟩, sl⟩ Z W KK hkN hsW ⟨v, zs, hAll⟩ ⟨hKk, hnd⟩ hcont
            have HAL : Hid (AllR w5 w6 K k Z W v zs) := hAll
            have HND : Hid (NdIn W (fun i => w6.heap.size + 2 ≤ i ∧ ¬ Z i) sl a.t) := hnd
            have HKk : Hid (K[k]? = some ((c, s), a)) := hKk
            have HS6 : Hid (w6.heap.size = w5.heap.size + 1) := s6
            have HSW : Hid (w6.heap.size + 2 ≤ W.heap.size) := hsW
            have HKL : Hid (k < 4096) := by show _ < _; omega
            have O1 : Hid (sl.oneCell' = true) := hnd.one
            clear hAll hnd hKk hkN hsW b6 k56 hKs hKm hKl HX0 HX1 HOA HOR HNO HS5
            simp only [List.zip_toArray, List.zip_cons_cons, List.zip_nil_right, List.foldl_toArray', List.foldl_cons, List.foldl_nil]
            gi_wp2_with (first
              | (refine storeIn_new' rfl 33 (.tmp 16) (.tmp 94) rfl _ _ _ _ (by first | rfl | simp) rfl rfl rfl infoContent (a.one O1.out) ?_)
              | fail)
            refine hcont _ _ (((Kp.refl W Nul).alloc _).alloc _) (fun V hV => ?_)
            have hWl : w6.heap.size + 1 < W.heap.size := by have := HSW.out; omega
            have hAV : AllR w5 w6 K k Z V v zs := HAL.out.hI HS6.out ((((Kp.refl W _).alloc _).alloc _).trans (hV.mono (fun i _ e => .inr e)))
            have bA : Blk V W.heap.size [.int .i64 c, .int .i64 s] 26 := ((Blk.new W [.int .i64 c, .int .i64 s] 26).alloc _).kp hV (fun e => by have : W.heap.size = w6.heap.size + 1 := e; omega)
            have bC : Blk V (W.heap.size + 1) (a.cells sl) 33 := by
              have h1 := Blk.new (W.alloc (.cells #[.int .i64 c, .int .i64 s] 26)) (a.cells sl) 33
              rw [World.size_alloc] at h1
              exact h1.kp hV (fun e => by have : W.heap.size + 1 = w6.heap.size + 1 := e; omega)
            have hndV : NdIn V (fun i => w6.heap.size + 2 ≤ i ∧ ¬ Z i) sl a.t := (HND.out.kp (((Kp.refl W Nul).alloc _).alloc _) (fun _ _ x => x)).kp hV (fun i hi e => by have := hi.1; have : i = w6.heap.size + 1 := e; omega)
            have hsz : W.heap.size ≤ V.heap.size := Nat.le_trans (((Kp.refl W Nul).alloc (.cells #[.int .i64 c, .int .i64 s] 26)).alloc (.cells (a.cells sl).toArray 33)).size hV.size
            obtain ⟨pv, cv, rfl, _⟩ := hAV.pts.slice
            have y0 : V.cell? ⟨W.heap.size, 0, none⟩ = some (.int .i64 c) := bA.cell rfl
            have y1 : V.cell? ⟨W.heap.size, 1, none⟩ = some (.int .i64 s) := bA.cell rfl
            have y2 : V.cell? ⟨w5.heap.size, 0, none⟩ = some (.slice pv zs.length cv) := hAV.box.cell rfl
            have HC : Hid (V.heap[W.heap.size + 1]? = some (.cells (a.cells sl).toArray 33 (0, 0))) := bC
            have HRow : Hid ((V.alloc (.cells (ptCells ((c, s), a) sl).toArray 50)).ownsRow (w6.heap.size + 2) 50 23 (.slice pv zs.length cv) zs.length (rowP zs)) := hAV.pts.row.alloc _
            have HB5 : Hid (Blk (V.alloc (.cells (ptCells ((c, s), a) sl).toArray 50)) V.heap.size (ptCells ((c, s), a) sl) 50) := Blk.new V _ _
            have HAV : Hid (AllR w5 w6 K k Z V (.slice pv zs.length cv) zs) := hAV
            have HNV : Hid (NdIn V (fun i => w6.heap.size + 2 ≤ i ∧ ¬ Z i) sl a.t) := hndV
            have HVS : Hid (W.heap.size ≤ V.heap.size) := hsz
            have HZL : Hid (zs.length < 4096) := by show _ < _; rw [hAV.len]; exact HKL.out
            obtain ⟨i0, hi, hz0, hz1, hz2⟩ := infoPutI
            clear hcont hV hWl hAV bA bC hndV hsz HAL HND s6
            gi_wp2_with (first
              | (refine loadIn_content rfl (.tmp 16) rfl (W.heap.size + 1) rfl _ HC.out rfl ?_)
              | (refine wpListIn_append_tell _ rfl (.tmp 95) (.tmp 99) 47 rfl (w6.heap.size + 2) 50 i0 _ 23 200 Tryd.underlying47 hi hz0 hz1 hz2 rfl (by decide) (.slice pv zs.length cv) zs.length (rowP zs) rfl HRow.out ⟨V.heap.size, 0, none⟩ 1 1 (ptCells ((c, s), a) sl) rfl rfl ?c1 ?c2 (by decide) ?c3 ?c4 ?c5 ?_)
              | fail)
            case c1 =>
              intro j u hj
              rw [addr_at, Nat.zero_add]
              exact HB5.out.cell hj
            case c2 => exact pt_one _ O1.out
            case c3 => unfold maxLen; have := HZL.out; omega
            case c4 => have := HZL.out; omega
            case c5 => rw [World.size_alloc]; have := HSW.out; have := HVS.out; omega
            intro g6 c6 w7 hrow hgr htell
            have HB7 : Hid (Blk w7 w5.heap.size [.slice pv zs.length cv] 47) := (HAV.out.box.alloc _).kp (Kp.of_grown (S := fun i => (Value.slice pv zs.length cv).ownBlock = some i) hgr (fun i e => e)) (fun e => by
              have h1 := own_block HAV.out.pts.row _ e
              have h2 := HS6.out
              omega)
            have HRow7 : Hid (w7.ownsRow (w6.heap.size + 2) 50 23 (.slice (some ⟨g6, 0, none⟩) (zs.length + 1) c6) (zs.length + 1) (rowP zs ++ ptCells ((c, s), a) sl)) := hrow
            have HGr : Hid ((V.alloc (.cells (ptCells ((c, s), a) sl).toArray 50)).grownBy w7 (Value.slice pv zs.length cv).ownBlock) := hgr
            have HTe : Hid ((Value.slice pv zs.length cv).ownBlock = some g6 ∨ (V.alloc (.cells (ptCells ((c, s), a) sl).toArray 50)).heap.size ≤ g6) := by show _ ∨ _; rw [World.size_alloc]; exact htell
            clear hrow hgr htell HB5 HRow y0 y1 y2 HC hz0 hz1 hz2 hi
            gi_wp2_with (first
              | (refine storeIn_var rfl 47 (.tmp 14) (.tmp 100) rfl w5.heap.size rfl (.slice (some ⟨g6, 0, none⟩) (zs.length + 1) c6) rfl rfl 47 (.slice pv zs.length cv) HB7.out (by kernel_rfl) ?_; intro X hbX hkX)
              | fail)
            have HEND := HAV.out.more (W := W) HS6.out HVS.out HKk.out HNV.out ((Kp.refl V Nul).alloc _) HRow7.out HGr.out HTe.out hbX hkX
            first
            | exact ⟨rfl, HEND⟩
            | exact HEND
          case hdone =>
            subst hact
            rintro D Z W hD ⟨v, zs, hAll⟩ hdef
            obtain ⟨p, r, cap, hr, hrW, rfl, hzK, hrw⟩ := hAll.rw s6 hdef
            have hst : St3 (fun i => i ≠ r) (fun i => i ≠ r) (fun i => i ≠ r) w W ga La gb Lb gc [] := (HS5.out.low.nul hAll.kp).mono (fun i hi e => by subst e; exact absurd hi (by omega)) (fun i hi e => by subst e; exact absurd hi (by omega)) (fun i hi e => by subst e; exact absurd hi (by omega))
            have HRW : Hid (Rw W w5.heap.size p r K.length cap D zs) := hrw
            have HST : Hid (St3 (fun i => i ≠ r) (fun i => i ≠ r) (fun i => i ≠ r) w W ga La gb Lb gc []) := hst
            have HZK : Hid (∀ x, x ∈ zs.map (·.1) ↔ x ∈ La) := fun x => by rw [hzK]; exact hKm x
            have HLK : Hid (K.length ≤ 4096) := hKl
            have HWR : Hid (w.heap.size ≤ w5.heap.size ∧ w5.heap.size < r ∧ w6.heap.size ≤ D) := ⟨HS5.out.kp.size, hr, hD⟩
            have HOnce : Hid (La.Pairwise (fun x y => x.1 ≠ y.1)) := HS5.out.m1.g0.once
            clear hAll hst hrw hzK hKs hKm hKl b6 k56 hdef hrW HX0 HX1 HS5 hr hD
            generalize hn : K.length = n at *
            clear hn
            go_wp2_with fail
            go_loopw [17] (fun i wr => ∃ (q : Nat) (zs : List (Cc × Value)) (Lc : List Cc), q ≤ n ∧ i = .int .i64 q ∧ Rw wr w5.heap.size p r n cap D zs ∧ St3 (fun i => i ≠ r) (fun i => i ≠ r) (fun i => i ≠ r) w wr ga La gb Lb gc Lc ∧ (∀ x, x ∈ zs.map (·.1) ↔ x ∈ La) ∧ (∀ x, x ∈ Lc ↔ x ∈ (zs.take q).map (·.1)) ∧ Lc.length ≤ q) (fun i _ => n - (RowKit.intOf i).toNat)
            case atStart => exact ⟨0, zs, [], Nat.zero_le _, rfl, HRW.out, HST.out, HZK.out, fun x => by simp, Nat.le_refl _⟩
            case round =>
              clear HRW HST HZK
              obtain ⟨q, zs, Lc, hq, rfl, hrw, hst, hzk, hlc, hll⟩ := hrel
              have HRW : Hid (Rw wr w5.heap.size p r n cap D zs) := hrw
              have HST : Hid (St3 (fun i => i ≠ r) (fun i => i ≠ r) (fun i => i ≠ r) w wr ga La gb Lb gc Lc) := hst
              have HZK : Hid (∀ x, x ∈ zs.map (·.1) ↔ x ∈ La) := hzk
              have HLC : Hid (∀ x, x ∈ Lc ↔ x ∈ (zs.take q).map (·.1)) := hlc
              have HLL : Hid (Lc.length ≤ q) := hll
              have y0 : wr.cell? ⟨w5.heap.size, 0, none⟩ = some (.slice p n cap) := hrw.box.cell rfl
              clear hrw hst hzk hlc hll
              by_cases hlt : q < n
              · have hqn : (q : Int) < (n : Int) := by omega
                by_cases hno : q < no
                · have hqo : (q : Int) < (no : Int) := by omega
                  obtain ⟨ob, oo, rfl, hord⟩ := HOA.out (by omega)
                  obtain ⟨z, hz⟩ : ∃ z, zo[q]? = some z := ⟨_, List.getElem?_eq_getElem (by rw [HNO.out.1]; exact hno)⟩
                  have hzc := hord q z hz
                  have hzi : I64 z := HOR.out z (List.mem_of_getElem? hz)
                  have HZC : Hid (∀ wq, Kp wr wq Nul → wq.cell? ⟨ob, oo + q, none⟩ = some (.int .i64 z) ∧ wq.cell? ⟨w5.heap.size, 0, none⟩ = some (.slice p n cap)) := fun wq k => ⟨by
                    have e := (HST.out.kp.trans k).block ob (cell_lt hzc) (fun x => x)
                    simp only [World.cell?] at hzc ⊢
                    rw [e]; exact hzc, (HRW.out.box.kp k (fun x => x)).cell rfl⟩
                  have hnl := HLK.out
                  have HPk : Hid (∀ wq, Calls Tryd.prog 19 #[.int .i64 z, .int .i64 ((n : Int) - (q : Int))] wq fun e w' => e = .returned (.int .i64 (pkf z ((n : Int) - (q : Int)))) ∧ w' = wq) := fun wq => pick_n z _ hzi (by omega) wq
                  have hpk : (pkf z ((n : Int) - (q : Int)) : Int) < (n : Int) - (q : Int) := (pkf_val z _ (by omega)).2
                  generalize pkf z ((n : Int) - (q : Int)) = t at *
                  have hsub : (-9223372036854775808 : Int) ≤ (n : Int) - (q : Int) ∧ (n : Int) - (q : Int) ≤ 9223372036854775807 := by omega
                  have hadd : (q : Int) + (t : Int) ≤ 9223372036854775807 := by omega
                  have hq0 : (0 : Int) ≤ (q : Int) := by omega
                  clear hord hz hzc hzi hnl
                  go_wp2_with fail
                  refine wp_region_noPanic ?_
                  refine wp_region_nul (W := wr) (Kp.refl _ _) (by kernel_rfl) (by kernel_rfl) ?_
                  refine quiet_run (some 112) rfl ?_ (by rfl) ?_ ?_
                  rotate_left
                  · intro w' hk; obtain ⟨s0, s1⟩ := HZC.out _ hk; clear hk; go_simp; try with_reducible rfl
                  simp only [Act.put, List.setIfInBounds_toArray, List.set_cons_zero, List.set_cons_succ]
                  refine quiet_run (some 113) rfl ?_ (by rfl) ?_ ?_
                  rotate_left
                  · intro w' hk; obtain ⟨s0, s1⟩ := HZC.out _ hk; clear hk; go_simp; try with_reducible rfl
                  simp only [Act.put, List.setIfInBounds_toArray, List.set_cons_zero, List.set_cons_succ]
                  refine quiet_run (some 114) rfl ?_ (by rfl) ?_ ?_
                  rotate_left
                  · intro w' hk; obtain ⟨s0, s1⟩ := HZC.out _ hk; clear hk; go_simp; try with_reducible rfl
                  simp only [Act.put, List.setIfInBounds_toArray, List.set_cons_zero, List.set_cons_succ]
                  refine quiet_run (some 115) rfl ?_ (by rfl) ?_ ?_
                  rotate_left
                  · intro w' hk; obtain ⟨s0, s1⟩ := HZC.out _ hk; clear hk; go_simp; try with_reducible rfl
                  simp only [Act.put, List.setIfInBounds_toArray, List.set_cons_zero, List.set_cons_succ]
                  refine quiet_run (some 116) rfl ?_ (by rfl) ?_ ?_
                  rotate_left
                  · intro w' hk; obtain ⟨s0, s1⟩ := HZC.out _ hk; clear hk; go_simp; try with_reducible rfl
                  simp only [Act.put, List.setIfInBounds_toArray, List.set_cons_zero, List.set_cons_succ]
                  refine quiet_run (some 117) rfl ?_ (by rfl) ?_ ?_
                  rotate_left
                  · intro w' hk; obtain ⟨s0, s1⟩ := HZC.out _ hk; clear hk; go_simp; try with_reducible rfl
                  simp only [Act.put, List.setIfInBounds_toArray, List.set_cons_zero, List.set_cons_succ]
                  refine quiet_run (some 118) rfl ?_ (by rfl) ?_ ?_
                  rotate_left
                  · intro w' hk; obtain ⟨s0, s1⟩ := HZC.out _ hk; clear hk; go_simp; try with_reducible rfl
                  simp only [Act.put, List.setIfInBounds_toArray, List.set_cons_zero, List.set_cons_succ]
                  refine quiet_run (some 119) rfl ?_ (by rfl) ?_ ?_
                  rotate_left
                  · intro w' hk; obtain ⟨s0, s1⟩ := HZC.out _ hk; clear hk; go_simp; try with_reducible rfl
                  simp only [Act.put, List.setIfInBounds_toArray, List.set_cons_zero, List.set_cons_succ]
                  refine quiet_run (some 120) rfl (.int .i64 ((n : Int) - (q : Int))) (by rfl) ?_ ?_
                  · intro w' hk; clear hk; go_simp; exact (IntKind.wrap_i64 _).trans (by omega)
                  simp only [Act.put, List.setIfInBounds_toArray, List.set_cons_zero, List.set_cons_succ]
                  refine quiet_call (some 121) rfl 19 #[.int .i64 z, .int .i64 ((n : Int) - (q : Int))] (.int .i64 t) (by rfl) (fun w' => by go_simp) (fun w' hk => (HPk.out w').mono fun e w'' h => ⟨h.1, by rw [h.2]; exact hk⟩) ?_
                  simp only [Act.put, List.setIfInBounds_toArray, List.set_cons_zero, List.set_cons_succ]
                  refine quiet_run (some 122) rfl (.int .i64 ((q : Int) + (t : Int))) (by rfl) ?_ ?_
                  · intro w' hk; clear hk; go_simp; exact (IntKind.wrap_i64 _).trans (by omega)
                  simp only [Act.put, List.setIfInBounds_toArray, List.set_cons_zero, List.set_cons_succ]
                  refine quiet_run (some 18) rfl (.int .i64 ((q : Int) + (t : Int))) (by rfl) ?_ ?_
                  · intro w' hk; clear hk; go_simp
                  simp only [Act.put, List.setIfInBounds_toArray, List.set_cons_zero, List.set_cons_succ]
                  refine wpQuiet_nil ?_
                  intro w7 hk7
                  refine NoPanic.normal ?_
                  go_wp2_with fail
                  obtain ⟨j, hj⟩ : ∃ j : Nat, (q : Int) + (t : Int) = (j : Int) := ⟨q + t, by omega⟩
                  rw [hj]
                  have hqj : q ≤ j := by omega
                  have hjn : j < n := by omega
                  have HR7 : Hid (Rw w7 w5.heap.size p r n cap D zs) := HRW.out.nul hk7
                  have HS7 : Hid (St3 (fun i => i ≠ r) (fun i => i ≠ r) (fun i => i ≠ r) w w7 ga La gb Lb gc Lc) := HST.out.nul hk7
                  clear hk7 HZC HPk hpk hsub hadd hj HRW HST y0
                  obtain ⟨yi, hyi⟩ : ∃ y, zs[q]? = some y := ⟨_, List.getElem?_eq_getElem (by rw [HR7.out.len]; exact hlt)⟩
                  obtain ⟨yj, hyj⟩ : ∃ y, zs[j]? = some y := ⟨_, List.getElem?_eq_getElem (by rw [HR7.out.len]; exact hjn)⟩
                  obtain ⟨rfl, _⟩ := HR7.out.row (by omega)
                  have HBX : Hid (∀ wq, Kp w7 wq (fun i => i = r) → wq.cell? ⟨w5.heap.size, 0, none⟩ = some (.slice (some ⟨r, 0, none⟩) n cap)) := fun wq k => (HR7.out.box.kp k HR7.out.ne).cell rfl
                  have hR8 := HR7.out.nul ((Kp.refl w7 Nul).drew)
                  have R1 : Hid (w7.drew.rangeAt r (q * 23) (ptCells yi.1 yi.2)) := hR8.rng q yi hyi
                  have R2 : Hid (w7.drew.rangeAt r (j * 23) (ptCells yj.1 yj.2)) := hR8.rng j yj hyj
                  have O1 : Hid ((ptCells yi.1 yi.2).toArray.all (·.oneCell') = true) := all_oneCell_toArray (pt_one _ (hR8.tree yi (List.mem_of_getElem? hyi)).one)
                  have O2 : Hid ((ptCells yj.1 yj.2).toArray.all (·.oneCell') = true) := all_oneCell_toArray (pt_one _ (hR8.tree yj (List.mem_of_getElem? hyj)).one)
                  have T1 : Hid (w7.drew.there r (q * 23) 23) := hR8.there hlt
                  have T2 : Hid (w7.drew.there r (j * 23) 23) := hR8.there hjn
                  have HSW : Hid (∀ X, (w7.drew.setCells r (q * 23) (ptCells yj.1 yj.2)).setCells r (j * 23) (ptCells yi.1 yi.2) = X → Rw X w5.heap.size (some ⟨r, 0, none⟩) r n cap D ((zs.set q yj).set j yi) ∧ Kp w7.drew X (fun b => b = r)) := fun X hX => hR8.swap hyi hyj hX
                  have hj0 : (0 : Int) ≤ (j : Int) := by omega
                  have hjn' : (j : Int) < (n : Int) := by omega
                  have HYI : Hid (zs[q]? = some yi ∧ zs[j]? = some yj) := ⟨hyi, hyj⟩
                  clear hR8 hyi hyj
                  refine wp_region_noPanic ?_
                  refine wp_region_hel (fun w' : World => Kp w7 w' (fun i => i = r)) (by kernel_rfl) ((Kp.refl _ _).drew) (fun hHeld => ?_)
                  refine wpH_takes (i := 0) (v := ?_) (some 123) rfl rfl (by kernel_rfl) (by kernel_rfl) (by kernel_rfl) (fun _ _ _ h => h) (Or.inl ⟨by rfl, ?_⟩) hHeld ?_
                  rotate_left
                  · intro w' hSw; have s0 := HBX.out _ hSw; clear hSw; go_simp; try with_reducible rfl
                  simp only [Act.put, List.setIfInBounds_toArray, List.set_cons_zero, List.set_cons_succ]
                  refine wpH_takes (i := 1) (v := ?_) (some 124) rfl rfl (by kernel_rfl) (by kernel_rfl) (by kernel_rfl) (fun _ _ _ h => h) (Or.inl ⟨by rfl, ?_⟩) hHeld ?_
                  rotate_left
                  · intro w' hSw; have s0 := HBX.out _ hSw; clear hSw; go_simp; try with_reducible rfl
                  simp only [Act.put, List.setIfInBounds_toArray, List.set_cons_zero, List.set_cons_succ]
                  refine wpH_takes (i := 2) (v := ?_) (some 125) rfl rfl (by kernel_rfl) (by kernel_rfl) (by kernel_rfl) (fun _ _ _ h => h) (Or.inl ⟨by rfl, ?_⟩) hHeld ?_
                  rotate_left
                  · intro w' hSw; have s0 := HBX.out _ hSw; clear hSw; go_simp; try with_reducible rfl
                  simp only [Act.put, List.setIfInBounds_toArray, List.set_cons_zero, List.set_cons_succ]
                  refine wpH_takes (i := 3) (v := ?_) (some 126) rfl rfl (by kernel_rfl) (by kernel_rfl) (by kernel_rfl) (fun _ _ _ h => h) (Or.inl ⟨by rfl, ?_⟩) hHeld ?_
                  rotate_left
                  · intro w' hSw; have s0 := HBX.out _ hSw; clear hSw; go_simp; try with_reducible rfl
                  simp only [Act.put, List.setIfInBounds_toArray, List.set_cons_zero, List.set_cons_succ]
                  refine wpH_takes (i := 4) (v := ?_) (some 127) rfl rfl (by kernel_rfl) (by kernel_rfl) (by kernel_rfl) (fun _ _ _ h => h) (Or.inl ⟨by rfl, ?_⟩) hHeld ?_
                  rotate_left
                  · intro w' hSw; have s0 := HBX.out _ hSw; clear hSw; go_simp; try with_reducible rfl
                  simp only [Act.put, List.setIfInBounds_toArray, List.set_cons_zero, List.set_cons_succ]
                  refine wpH_takes (i := 5) (v := ?_) (some 128) rfl rfl (by kernel_rfl) (by kernel_rfl) (by kernel_rfl) (fun _ _ _ h => h) (Or.inl ⟨by rfl, ?_⟩) hHeld ?_
                  rotate_left
                  · intro w' hSw; have s0 := HBX.out _ hSw; clear hSw; go_simp; try with_reducible rfl
                  simp only [Act.put, List.setIfInBounds_toArray, List.set_cons_zero, List.set_cons_succ]
                  refine wpH_takes (i := 6) (v := ?_) (some 129) rfl rfl (by kernel_rfl) (by kernel_rfl) (by kernel_rfl) (fun _ _ _ h => h) (Or.inl ⟨by rfl, ?_⟩) hHeld ?_
                  rotate_left
                  · intro w' hSw; have s0 := HBX.out _ hSw; clear hSw; go_simp; try with_reducible rfl
                  simp only [Act.put, List.setIfInBounds_toArray, List.set_cons_zero, List.set_cons_succ]
                  refine wpH_takes (i := 8) (v := ?_) (some 131) rfl rfl (by kernel_rfl) (by kernel_rfl) (by kernel_rfl) (fun _ _ _ h => h) (Or.inl ⟨by rfl, ?_⟩) hHeld ?_
                  rotate_left
                  · intro w' hSw; have s0 := HBX.out _ hSw; clear hSw; go_simp; try with_reducible rfl
                  simp only [Act.put, List.setIfInBounds_toArray, List.set_cons_zero, List.set_cons_succ]
                  refine wpH_takes (i := 9) (v := ?_) (some 132) rfl rfl (by kernel_rfl) (by kernel_rfl) (by kernel_rfl) (fun _ _ _ h => h) (Or.inl ⟨by rfl, ?_⟩) hHeld ?_
                  rotate_left
                  · intro w' hSw; have s0 := HBX.out _ hSw; clear hSw; go_simp; try with_reducible rfl
                  simp only [Act.put, List.setIfInBounds_toArray, List.set_cons_zero, List.set_cons_succ]
                  refine wpH_takes (i := 10) (v := ?_) (some 133) rfl rfl (by kernel_rfl) (by kernel_rfl) (by kernel_rfl) (fun _ _ _ h => h) (Or.inl ⟨by rfl, ?_⟩) hHeld ?_
                  rotate_left
                  · intro w' hSw; have s0 := HBX.out _ hSw; clear hSw; go_simp; try with_reducible rfl
                  simp only [Act.put, List.setIfInBounds_toArray, List.set_cons_zero, List.set_cons_succ]
                  refine wpH_pair (i := 7) (j := 11) (.agg (ptCells yj.1 yj.2).toArray) (.agg (ptCells yi.1 yi.2).toArray) (some 130) (some 134) (by kernel_rfl) (by kernel_rfl) (by kernel_rfl) rfl rfl rfl rfl rfl rfl hHeld (by decide) (exec_load_row 50 (.tmp 129) rfl r (j * 23) rfl (ptCells yj.1 yj.2) _ R2.out Tryd.underlying50 rfl infoPut) (exec_load_row 50 (.tmp 133) rfl r (q * 23) rfl (ptCells yi.1 yi.2) _ R1.out Tryd.underlying50 rfl infoPut) (exec_load_row 50 (.tmp 133) rfl r (q * 23) rfl (ptCells yi.1 yi.2) _ R1.out Tryd.underlying50 rfl infoPut) (exec_load_row 50 (.tmp 129) rfl r (j * 23) rfl (ptCells yj.1 yj.2) _ R2.out Tryd.underlying50 rfl infoPut) rfl ?_
                  simp only [Act.put, List.setIfInBounds_toArray, List.set_cons_zero, List.set_cons_succ]
                  refine wpH_takes (i := 12) (v := ?_) (some 135) rfl rfl (by kernel_rfl) (by kernel_rfl) (by kernel_rfl) (fun _ _ _ h => h) (Or.inl ⟨by rfl, ?_⟩) hHeld ?_
                  rotate_left
                  · intro w' hSw; clear hSw; go_simp; try with_reducible rfl
                  simp only [Act.put, List.setIfInBounds_toArray, List.set_cons_zero, List.set_cons_succ]
                  refine wpH_step (i := 13) (by kernel_rfl) rfl rfl (fun K hK => ?_)
                  refine wp_store_mid 50 (.tmp 135) (.tmp 130) rfl r (q * 23) (ptCells yj.1 yj.2).toArray rfl rfl T1.out infoPut O2.out ?_
                  obtain ⟨X1, hX1⟩ : ∃ X1, w7.drew.setCells r (q * 23) (ptCells yj.1 yj.2) = X1 := ⟨_, rfl⟩
                  have T3 : Hid (X1.there r (j * 23) 23) := by show World.there _ _ _ _; rw [← hX1]; exact World.there_setCells T2.out _ _ _
                  show K _ (w7.drew.setCells r (q * 23) (ptCells yj.1 yj.2))
                  rw [hX1]
                  have HX1 : Hid (w7.drew.setCells r (q * 23) (ptCells yj.1 yj.2) = X1) := hX1
                  have kX1 : Kp w7 X1 (fun i => i = r) := (Kp.refl w7 _).drew.trans (hX1 ▸ setCells_kp (fun i => i = r) rfl _ _ _)
                  refine hK.out _ _ kX1 (fun hHeld => ?_)
                  clear hK K hX1 kX1
                  simp only [Act.put, List.setIfInBounds_toArray]
                  refine wpH_takes (i := 14) (v := ?_) (some 136) rfl rfl (by kernel_rfl) (by kernel_rfl) (by kernel_rfl) (fun _ _ _ h => h) (Or.inl ⟨by rfl, ?_⟩) hHeld ?_
                  rotate_left
                  · intro w' hSw; clear hSw; go_simp; try with_reducible rfl
                  simp only [Act.put]
                  refine wpH_step (i := 15) (by kernel_rfl) rfl rfl (fun K hK => ?_)
                  refine wp_store_mid 50 (.tmp 136) (.tmp 134) rfl r (j * 23) (ptCells yi.1 yi.2).toArray rfl rfl T3.out infoPut O1.out ?_
                  obtain ⟨X2, hX2⟩ : ∃ X2, X1.setCells r (j * 23) (ptCells yi.1 yi.2) = X2 := ⟨_, rfl⟩
                  show K _ (X1.setCells r (j * 23) (ptCells yi.1 yi.2))
                  rw [hX2]
                  have hsw := HSW.out X2 (by rw [HX1.out]; exact hX2)
                  have HR9 : Hid (Rw X2 w5.heap.size (some ⟨r, 0, none⟩) r n cap D ((zs.set q yj).set j yi)) := hsw.1
                  have HS9 : Hid (St3 (fun i => i ≠ r) (fun i => i ≠ r) (fun i => i ≠ r) w X2 ga La gb Lb gc Lc) := (HS7.out.nul ((Kp.refl w7 Nul).drew)).far hsw.2 (fun i hi e => hi e) (fun i hi e => by have : i = r := e; have := HWR.out; omega)
                  refine hK.out _ _ ((Kp.refl w7 _).drew.trans hsw.2) (fun _ => ?_)
                  clear hK K hX2 hsw HX1 T1 T2 T3 R1 R2 O1 O2 HSW HBX HR7 HS7
                  refine wpAnyH_done (by kernel_rfl) ?_ _
                  refine NoPanic.normal ?_
                  obtain ⟨⟨⟨c, s⟩, a⟩, sa⟩ := yj
                  obtain ⟨zs9, hz9⟩ : ∃ z, (zs.set q (((c, s), a), sa)).set j yi = z := ⟨_, rfl⟩
                  rw [hz9] at HR9
                  have hget9 : zs9[q]? = some (((c, s), a), sa) := by rw [← hz9]; exact swap_at HYI.out.1 HYI.out.2
                  have hmL : ((c, s), a) ∈ La := (HZK.out _).1 (List.mem_map.2 ⟨_, List.mem_of_getElem? HYI.out.2, rfl⟩)
                  have HML : Hid (((c, s), a) ∈ La) := hmL
                  have HZ9 : Hid (∀ x, x ∈ zs9.map (·.1) ↔ x ∈ La) := fun x => by
                    rw [← HZK.out x, List.mem_map, List.mem_map]
                    constructor
                    · rintro ⟨y, hy, e⟩; exact ⟨y, (swap_mem HYI.out.1 HYI.out.2 y).1 (by rw [hz9]; exact hy), e⟩
                    · rintro ⟨y, hy, e⟩; exact ⟨y, by rw [← hz9]; exact (swap_mem HYI.out.1 HYI.out.2 y).2 hy, e⟩
                  have HL9 : Hid (∀ x, x ∈ putL Lc (c, s) a ↔ x ∈ (zs9.take (q + 1)).map (·.1)) := fun x => by
                    rw [← hz9, swap_take HYI.out.1 HYI.out.2 hqj, List.map_append]
                    exact put_take (y := ((c, s), a)) HOnce.out HLC.out (fun z hz => by
                      obtain ⟨y, hy, rfl⟩ := List.mem_map.1 hz
                      exact (HZK.out _).1 (List.mem_map.2 ⟨y, List.mem_of_mem_take hy, rfl⟩)) hmL x
                  have HLn : Hid ((putL Lc (c, s) a).length ≤ q + 1) := by
                    show _ ≤ _
                    unfold putL
                    have := List.length_filter_le (fun x : Cc => decide (x.1 ≠ (c, s))) Lc
                    have := HLL.out
                    rw [List.length_cons]; omega
                  have HPT : Hid (∀ wq, Rw wq w5.heap.size (some ⟨r, 0, none⟩) r n cap D zs9 → wq.cell? ⟨w5.heap.size, 0, none⟩ = some (.slice (some ⟨r, 0, none⟩) n cap) ∧ wq.rangeAt r (q * 23) [.int .i64 c, .int .i64 s] ∧ wq.rangeAt r (q * 23 + 2) (a.cells sa)) := fun wq h => ⟨h.box.cell rfl, pt_parts (h.rng q _ hget9)⟩
                  have HPut : Hid (∀ wq, Kp X2 wq Nul → Calls Tryd.prog 20 #[.pointer (some ⟨gc, 0, none⟩), .agg #[.int .i64 c, .int .i64 s], .agg (a.cells sa).toArray] wq fun e w' => e = .returned (.int .i64 0) ∧ Rw w' w5.heap.size (some ⟨r, 0, none⟩) r n cap D zs9 ∧ St3 (fun i => i ≠ r) (fun i => i ≠ r) (fun i => i ≠ r) w w' ga La gb Lb gc (putL Lc (c, s) a)) := fun wq k => by
                    have h5 := (HS9.out.nul k).rot.rot
                    have r5 := HR9.out.nul k
                    have hgd := h5.rot.m1.ok.gd _ hmL
                    obtain ⟨_, cs, hrow, _⟩ := r5.row (by omega)
                    have hrl := (Array.getElem?_eq_some_iff.1 hrow).1
                    refine (put_any (fun i => i ≠ r) gc c s a sa (fun i => i ≠ r) Lc wq h5.m1.gi (fun i hi e => by subst e; omega) h5.m1.ok hgd.ok hgd.x hgd.size (r5.tree _ (List.mem_of_getElem? hget9)) (HV.out.kp h5.kp)).mono ?_
                    rintro e w' ⟨er, L', rfl, h1, h2, h3⟩
                    obtain ⟨rfl, rfl⟩ := h2.put (h5.rot.m1.ok.at' _ hmL) hgd.val hgd.k (.inl (by have := HLL.out; have := HLK.out; omega))
                    rw [hgd.cp] at h1 h2
                    exact ⟨rfl, r5.km h5.m1 h3, (h5.step h3 h1 h2.ok).rot⟩
                  clear hget9 hmL hz9
                  go_wp2_with fail
                  refine wp_region_noPanic ?_
                  refine wp_region_hel (fun w' : World => Rw w' w5.heap.size (some ⟨r, 0, none⟩) r n cap D zs9) (by kernel_rfl) (HR9.out.nul ((Kp.refl _ _).drew)) (fun hHeld => ?_)
                  refine wpH_takes (i := 0) (v := ?_) (some 137) rfl rfl (by kernel_rfl) (by kernel_rfl) (by kernel_rfl) (fun _ _ _ h => h) (Or.inl ⟨by rfl, ?_⟩) hHeld ?_
                  rotate_left
                  · intro w' hSw; have s0 := (HPT.out _ hSw).1; clear hSw; go_simp; try with_reducible rfl
                  simp only [Act.put, List.setIfInBounds_toArray, List.set_cons_zero, List.set_cons_succ]
                  refine wpH_takes (i := 1) (v := ?_) (some 138) rfl rfl (by kernel_rfl) (by kernel_rfl) (by kernel_rfl) (fun _ _ _ h => h) (Or.inl ⟨by rfl, ?_⟩) hHeld ?_
                  rotate_left
                  · intro w' hSw; have s0 := (HPT.out _ hSw).1; clear hSw; go_simp; try with_reducible rfl
                  simp only [Act.put, List.setIfInBounds_toArray, List.set_cons_zero, List.set_cons_succ]
                  refine wpH_takes (i := 2) (v := ?_) (some 139) rfl rfl (by kernel_rfl) (by kernel_rfl) (by kernel_rfl) (fun _ _ _ h => h) (Or.inl ⟨by rfl, ?_⟩) hHeld ?_
                  rotate_left
                  · intro w' hSw; have s0 := (HPT.out _ hSw).1; clear hSw; go_simp; try with_reducible rfl
                  simp only [Act.put, List.setIfInBounds_toArray, List.set_cons_zero, List.set_cons_succ]
                  refine wpH_takes (i := 3) (v := ?_) (some 140) rfl rfl (by kernel_rfl) (by kernel_rfl) (by kernel_rfl) (fun _ _ _ h => h) (Or.inl ⟨by rfl, ?_⟩) hHeld ?_
                  rotate_left
                  · intro w' hSw; have s0 := (HPT.out _ hSw).1; clear hSw; go_simp; try with_reducible rfl
                  simp only [Act.put, List.setIfInBounds_toArray, List.set_cons_zero, List.set_cons_succ]
                  refine wpH_takes (i := 4) (v := ?_) (some 141) rfl rfl (by kernel_rfl) (by kernel_rfl) (by kernel_rfl) (fun _ _ _ h => h) (Or.inl ⟨by rfl, ?_⟩) hHeld ?_
                  rotate_left
                  · intro w' hSw; have s0 := (HPT.out _ hSw).1; clear hSw; go_simp; try with_reducible rfl
                  simp only [Act.put, List.setIfInBounds_toArray, List.set_cons_zero, List.set_cons_succ]
                  refine wpH_takes (i := 5) (v := .agg ([.int .i64 c, .int .i64 s]).toArray) (some 142) rfl rfl (by kernel_rfl) (by kernel_rfl) (by kernel_rfl) (fun _ _ _ h => h) (Or.inl ⟨by rfl, fun w' hSw => exec_load_row 26 (.tmp 141) rfl r (q * 23) rfl ([.int .i64 c, .int .i64 s]) _ (HPT.out w' hSw).2.1 Tryd.underlying26 rfl infoAddr2⟩) hHeld ?_
                  simp only [Act.put, List.setIfInBounds_toArray, List.set_cons_zero, List.set_cons_succ]
                  refine wpH_takes (i := 6) (v := ?_) (some 143) rfl rfl (by kernel_rfl) (by kernel_rfl) (by kernel_rfl) (fun _ _ _ h => h) (Or.inl ⟨by rfl, ?_⟩) hHeld ?_
                  rotate_left
                  · intro w' hSw; have s0 := (HPT.out _ hSw).1; clear hSw; go_simp; try with_reducible rfl
                  simp only [Act.put, List.setIfInBounds_toArray, List.set_cons_zero, List.set_cons_succ]
                  refine wpH_takes (i := 7) (v := ?_) (some 144) rfl rfl (by kernel_rfl) (by kernel_rfl) (by kernel_rfl) (fun _ _ _ h => h) (Or.inl ⟨by rfl, ?_⟩) hHeld ?_
                  rotate_left
                  · intro w' hSw; have s0 := (HPT.out _ hSw).1; clear hSw; go_simp; try with_reducible rfl
                  simp only [Act.put, List.setIfInBounds_toArray, List.set_cons_zero, List.set_cons_succ]
                  refine wpH_takes (i := 8) (v := ?_) (some 145) rfl rfl (by kernel_rfl) (by kernel_rfl) (by kernel_rfl) (fun _ _ _ h => h) (Or.inl ⟨by rfl, ?_⟩) hHeld ?_
                  rotate_left
                  · intro w' hSw; have s0 := (HPT.out _ hSw).1; clear hSw; go_simp; try with_reducible rfl
                  simp only [Act.put, List.setIfInBounds_toArray, List.set_cons_zero, List.set_cons_succ]
                  refine wpH_takes (i := 9) (v := ?_) (some 146) rfl rfl (by kernel_rfl) (by kernel_rfl) (by kernel_rfl) (fun _ _ _ h => h) (Or.inl ⟨by rfl, ?_⟩) hHeld ?_
                  rotate_left
                  · intro w' hSw; have s0 := (HPT.out _ hSw).1; clear hSw; go_simp; try with_reducible rfl
                  simp only [Act.put, List.setIfInBounds_toArray, List.set_cons_zero, List.set_cons_succ]
                  refine wpH_takes (i := 10) (v := .agg (a.cells sa).toArray) (some 147) rfl rfl (by kernel_rfl) (by kernel_rfl) (by kernel_rfl) (fun _ _ _ h => h) (Or.inl ⟨by rfl, fun w' hSw => exec_load_row 33 (.tmp 146) rfl r (q * 23 + 2) rfl (a.cells sa) _ (HPT.out w' hSw).2.2 Tryd.underlying33 rfl infoContent⟩) hHeld ?_
                  simp only [Act.put, List.setIfInBounds_toArray, List.set_cons_zero, List.set_cons_succ]
                  refine wpH_step (i := 11) (by kernel_rfl) rfl rfl (fun K hK => ?_)
                  go_simp
                  refine (HPut.out _ ((Kp.refl _ _).drew)).mono ?_
                  rintro e w8 ⟨rfl, hr8, hs8⟩
                  have HS8 : Hid (St3 (fun i => i ≠ r) (fun i => i ≠ r) (fun i => i ≠ r) w w8 ga La gb Lb gc (putL Lc (c, s) a)) := hs8
                  have HR8 : Hid (Rw w8 w5.heap.size (some ⟨r, 0, none⟩) r n cap D zs9) := hr8
                  refine hK.out _ _ hr8 (fun hHeld => ?_)
                  clear hK K hr8 hs8 HPut HR9 HS9
                  (try simp only [Act.put])
                  refine wpH_takes (i := 12) (v := ?_) (some 149) rfl rfl (by kernel_rfl) (by kernel_rfl) (by kernel_rfl) (fun _ _ _ h => h) (Or.inl ⟨by rfl, ?_⟩) hHeld ?_
                  rotate_left
                  · intro w' hSw; clear hSw; go_simp; try with_reducible rfl
                  simp only [Act.put, List.setIfInBounds_toArray, List.set_cons_zero, List.set_cons_succ]
                  refine wpAnyH_done (by kernel_rfl) ?_ _
                  refine NoPanic.normal ?_
                  clear hHeld HPT
                  have hkb : (q : Int) + 1 ≤ 9223372036854775807 := by have := HLK.out; omega
                  go_wp2_with fail
                  go_roundw
                  case rel => exact ⟨q + 1, zs9, _, by omega, by go_num, HR8.out, HS8.out, HZ9.out, HL9.out, HLn.out⟩
                  case measure => simp only [RowKit.intOf]; omega
                · have hqo : ¬ ((q : Int) < (no : Int)) := by omega
                  have hq0 : (0 : Int) ≤ (q : Int) := by omega
                  have hqj : q ≤ q := Nat.le_refl _
                  have hjn : q < n := hlt
                  have HR7 : Hid (Rw wr w5.heap.size p r n cap D zs) := HRW.out
                  have HS7 : Hid (St3 (fun i => i ≠ r) (fun i => i ≠ r) (fun i => i ≠ r) w wr ga La gb Lb gc Lc) := HST.out
                  go_wp2_with fail
                  clear HRW HST y0
                  obtain ⟨yi, hyi⟩ : ∃ y, zs[q]? = some y := ⟨_, List.getElem?_eq_getElem (by rw [HR7.out.len]; exact hlt)⟩
                  obtain ⟨yj, hyj⟩ : ∃ y, zs[q]? = some y := ⟨_, List.getElem?_eq_getElem (by rw [HR7.out.len]; exact hjn)⟩
                  obtain ⟨rfl, _⟩ := HR7.out.row (by omega)
                  have HBX : Hid (∀ wq, Kp wr wq (fun i => i = r) → wq.cell? ⟨w5.heap.size, 0, none⟩ = some (.slice (some ⟨r, 0, none⟩) n cap)) := fun wq k => (HR7.out.box.kp k HR7.out.ne).cell rfl
                  have hR8 := HR7.out.nul ((Kp.refl wr Nul).drew)
                  have R1 : Hid (wr.drew.rangeAt r (q * 23) (ptCells yi.1 yi.2)) := hR8.rng q yi hyi
                  have R2 : Hid (wr.drew.rangeAt r (q * 23) (ptCells yj.1 yj.2)) := hR8.rng q yj hyj
                  have O1 : Hid ((ptCells yi.1 yi.2).toArray.all (·.oneCell') = true) := all_oneCell_toArray (pt_one _ (hR8.tree yi (List.mem_of_getElem? hyi)).one)
                  have O2 : Hid ((ptCells yj.1 yj.2).toArray.all (·.oneCell') = true) := all_oneCell_toArray (pt_one _ (hR8.tree yj (List.mem_of_getElem? hyj)).one)
                  have T1 : Hid (wr.drew.there r (q * 23) 23) := hR8.there hlt
                  have T2 : Hid (wr.drew.there r (q * 23) 23) := hR8.there hjn
                  have HSW : Hid (∀ X, (wr.drew.setCells r (q * 23) (ptCells yj.1 yj.2)).setCells r (q * 23) (ptCells yi.1 yi.2) = X → Rw X w5.heap.size (some ⟨r, 0, none⟩) r n cap D ((zs.set q yj).set q yi) ∧ Kp wr.drew X (fun b => b = r)) := fun X hX => hR8.swap hyi hyj hX
                  have hj0 : (0 : Int) ≤ (q : Int) := by omega
                  have hjn' : (q : Int) < (n : Int) := by omega
                  have HYI : Hid (zs[q]? = some yi ∧ zs[q]? = some yj) := ⟨hyi, hyj⟩
                  clear hR8 hyi hyj
                  refine wp_region_noPanic ?_
                  refine wp_region_hel (fun w' : World => Kp wr w' (fun i => i = r)) (by kernel_rfl) ((Kp.refl _ _).drew) (fun hHeld => ?_)
                  refine wpH_takes (i := 0) (v := ?_) (some 123) rfl rfl (by kernel_rfl) (by kernel_rfl) (by kernel_rfl) (fun _ _ _ h => h) (Or.inl ⟨by rfl, ?_⟩) hHeld ?_
                  rotate_left
                  · intro w' hSw; have s0 := HBX.out _ hSw; clear hSw; go_simp; try with_reducible rfl
                  simp only [Act.put, List.setIfInBounds_toArray, List.set_cons_zero, List.set_cons_succ]
                  refine wpH_takes (i := 1) (v := ?_) (some 124) rfl rfl (by kernel_rfl) (by kernel_rfl) (by kernel_rfl) (fun _ _ _ h => h) (Or.inl ⟨by rfl, ?_⟩) hHeld ?_
                  rotate_left
                  · intro w' hSw; have s0 := HBX.out _ hSw; clear hSw; go_simp; try with_reducible rfl
                  simp only [Act.put, List.setIfInBounds_toArray, List.set_cons_zero, List.set_cons_succ]
                  refine wpH_takes (i := 2) (v := ?_) (some 125) rfl rfl (by kernel_rfl) (by kernel_rfl) (by kernel_rfl) (fun _ _ _ h => h) (Or.inl ⟨by rfl, ?_⟩) hHeld ?_
                  rotate_left
                  · intro w' hSw; have s0 := HBX.out _ hSw; clear hSw; go_simp; try with_reducible rfl
                  simp only [Act.put, List.setIfInBounds_toArray, List.set_cons_zero, List.set_cons_succ]
                  refine wpH_takes (i := 3) (v := ?_) (some 126) rfl rfl (by kernel_rfl) (by kernel_rfl) (by kernel_rfl) (fun _ _ _ h => h) (Or.inl ⟨by rfl, ?_⟩) hHeld ?_
                  rotate_left
                  · intro w' hSw; have s0 := HBX.out _ hSw; clear hSw; go_simp; try with_reducible rfl
                  simp only [Act.put, List.setIfInBounds_toArray, List.set_cons_zero, List.set_cons_succ]
                  refine wpH_takes (i := 4) (v := ?_) (some 127) rfl rfl (by kernel_rfl) (by kernel_rfl) (by kernel_rfl) (fun _ _ _ h => h) (Or.inl ⟨by rfl, ?_⟩) hHeld ?_
                  rotate_left
                  · intro w' hSw; have s0 := HBX.out _ hSw; clear hSw; go_simp; try with_reducible rfl
                  simp only [Act.put, List.setIfInBounds_toArray, List.set_cons_zero, List.set_cons_succ]
                  refine wpH_takes (i := 5) (v := ?_) (some 128) rfl rfl (by kernel_rfl) (by kernel_rfl) (by kernel_rfl) (fun _ _ _ h => h) (Or.inl ⟨by rfl, ?_⟩) hHeld ?_
                  rotate_left
                  · intro w' hSw; have s0 := HBX.out _ hSw; clear hSw; go_simp; try with_reducible rfl
                  simp only [Act.put, List.setIfInBounds_toArray, List.set_cons_zero, List.set_cons_succ]
                  refine wpH_takes (i := 6) (v := ?_) (some 129) rfl rfl (by kernel_rfl) (by kernel_rfl) (by kernel_rfl) (fun _ _ _ h => h) (Or.inl ⟨by rfl, ?_⟩) hHeld ?_
                  rotate_left
                  · intro w' hSw; have s0 := HBX.out _ hSw; clear hSw; go_simp; try with_reducible rfl
                  simp only [Act.put, List.setIfInBounds_toArray, List.set_cons_zero, List.set_cons_succ]
                  refine wpH_takes (i := 8) (v := ?_) (some 131) rfl rfl (by kernel_rfl) (by kernel_rfl) (by kernel_rfl) (fun _ _ _ h => h) (Or.inl ⟨by rfl, ?_⟩) hHeld ?_
                  rotate_left
                  · intro w' hSw; have s0 := HBX.out _ hSw; clear hSw; go_simp; try with_reducible rfl
                  simp only [Act.put, List.setIfInBounds_toArray, List.set_cons_zero, List.set_cons_succ]
                  refine wpH_takes (i := 9) (v := ?_) (some 132) rfl rfl (by kernel_rfl) (by kernel_rfl) (by kernel_rfl) (fun _ _ _ h => h) (Or.inl ⟨by rfl, ?_⟩) hHeld ?_
                  rotate_left
                  · intro w' hSw; have s0 := HBX.out _ hSw; clear hSw; go_simp; try with_reducible rfl
                  simp only [Act.put, List.setIfInBounds_toArray, List.set_cons_zero, List.set_cons_succ]
                  refine wpH_takes (i := 10) (v := ?_) (some 133) rfl rfl (by kernel_rfl) (by kernel_rfl) (by kernel_rfl) (fun _ _ _ h => h) (Or.inl ⟨by rfl, ?_⟩) hHeld ?_
                  rotate_left
                  · intro w' hSw; have s0 := HBX.out _ hSw; clear hSw; go_simp; try with_reducible rfl
                  simp only [Act.put, List.setIfInBounds_toArray, List.set_cons_zero, List.set_cons_succ]
                  refine wpH_pair (i := 7) (j := 11) (.agg (ptCells yj.1 yj.2).toArray) (.agg (ptCells yi.1 yi.2).toArray) (some 130) (some 134) (by kernel_rfl) (by kernel_rfl) (by kernel_rfl) rfl rfl rfl rfl rfl rfl hHeld (by decide) (exec_load_row 50 (.tmp 129) rfl r (q * 23) rfl (ptCells yj.1 yj.2) _ R2.out Tryd.underlying50 rfl infoPut) (exec_load_row 50 (.tmp 133) rfl r (q * 23) rfl (ptCells yi.1 yi.2) _ R1.out Tryd.underlying50 rfl infoPut) (exec_load_row 50 (.tmp 133) rfl r (q * 23) rfl (ptCells yi.1 yi.2) _ R1.out Tryd.underlying50 rfl infoPut) (exec_load_row 50 (.tmp 129) rfl r (q * 23) rfl (ptCells yj.1 yj.2) _ R2.out Tryd.underlying50 rfl infoPut) rfl ?_
                  simp only [Act.put, List.setIfInBounds_toArray, List.set_cons_zero, List.set_cons_succ]
                  refine wpH_takes (i := 12) (v := ?_) (some 135) rfl rfl (by kernel_rfl) (by kernel_rfl) (by kernel_rfl) (fun _ _ _ h => h) (Or.inl ⟨by rfl, ?_⟩) hHeld ?_
                  rotate_left
                  · intro w' hSw; clear hSw; go_simp; try with_reducible rfl
                  simp only [Act.put, List.setIfInBounds_toArray, List.set_cons_zero, List.set_cons_succ]
                  refine wpH_step (i := 13) (by kernel_rfl) rfl rfl (fun K hK => ?_)
                  refine wp_store_mid 50 (.tmp 135) (.tmp 130) rfl r (q * 23) (ptCells yj.1 yj.2).toArray rfl rfl T1.out infoPut O2.out ?_
                  obtain ⟨X1, hX1⟩ : ∃ X1, wr.drew.setCells r (q * 23) (ptCells yj.1 yj.2) = X1 := ⟨_, rfl⟩
                  have T3 : Hid (X1.there r (q * 23) 23) := by show World.there _ _ _ _; rw [← hX1]; exact World.there_setCells T2.out _ _ _
                  show K _ (wr.drew.setCells r (q * 23) (ptCells yj.1 yj.2))
                  rw [hX1]
                  have HX1 : Hid (wr.drew.setCells r (q * 23) (ptCells yj.1 yj.2) = X1) := hX1
                  have kX1 : Kp wr X1 (fun i => i = r) := (Kp.refl wr _).drew.trans (hX1 ▸ setCells_kp (fun i => i = r) rfl _ _ _)
                  refine hK.out _ _ kX1 (fun hHeld => ?_)
                  clear hK K hX1 kX1
                  simp only [Act.put, List.setIfInBounds_toArray]
                  refine wpH_takes (i := 14) (v := ?_) (some 136) rfl rfl (by kernel_rfl) (by kernel_rfl) (by kernel_rfl) (fun _ _ _ h => h) (Or.inl ⟨by rfl, ?_⟩) hHeld ?_
                  rotate_left
                  · intro w' hSw; clear hSw; go_simp; try with_reducible rfl
                  simp only [Act.put]
                  refine wpH_step (i := 15) (by kernel_rfl) rfl rfl (fun K hK => ?_)
                  refine wp_store_mid 50 (.tmp 136) (.tmp 134) rfl r (q * 23) (ptCells yi.1 yi.2).toArray rfl rfl T3.out infoPut O1.out ?_
                  obtain ⟨X2, hX2⟩ : ∃ X2, X1.setCells r (q * 23) (ptCells yi.1 yi.2) = X2 := ⟨_, rfl⟩
                  show K _ (X1.setCells r (q * 23) (ptCells yi.1 yi.2))
                  rw [hX2]
                  have hsw := HSW.out X2 (by rw [HX1.out]; exact hX2)
                  have HR9 : Hid (Rw X2 w5.heap.size (some ⟨r, 0, none⟩) r n cap D ((zs.set q yj).set q yi)) := hsw.1
                  have HS9 : Hid (St3 (fun i => i ≠ r) (fun i => i ≠ r) (fun i => i ≠ r) w X2 ga La gb Lb gc Lc) := (HS7.out.nul ((Kp.refl wr Nul).drew)).far hsw.2 (fun i hi e => hi e) (fun i hi e => by have : i = r := e; have := HWR.out; omega)
                  refine hK.out _ _ ((Kp.refl wr _).drew.trans hsw.2) (fun _ => ?_)
                  clear hK K hX2 hsw HX1 T1 T2 T3 R1 R2 O1 O2 HSW HBX HR7 HS7
                  refine wpAnyH_done (by kernel_rfl) ?_ _
                  refine NoPanic.normal ?_
                  obtain ⟨⟨⟨c, s⟩, a⟩, sa⟩ := yj
                  obtain ⟨zs9, hz9⟩ : ∃ z, (zs.set q (((c, s), a), sa)).set q yi = z := ⟨_, rfl⟩
                  rw [hz9] at HR9
                  have hget9 : zs9[q]? = some (((c, s), a), sa) := by rw [← hz9]; exact swap_at HYI.out.1 HYI.out.2
                  have hmL : ((c, s), a) ∈ La := (HZK.out _).1 (List.mem_map.2 ⟨_, List.mem_of_getElem? HYI.out.2, rfl⟩)
                  have HML : Hid (((c, s), a) ∈ La) := hmL
                  have HZ9 : Hid (∀ x, x ∈ zs9.map (·.1) ↔ x ∈ La) := fun x => by
                    rw [← HZK.out x, List.mem_map, List.mem_map]
                    constructor
                    · rintro ⟨y, hy, e⟩; exact ⟨y, (swap_mem HYI.out.1 HYI.out.2 y).1 (by rw [hz9]; exact hy), e⟩
                    · rintro ⟨y, hy, e⟩; exact ⟨y, by rw [← hz9]; exact (swap_mem HYI.out.1 HYI.out.2 y).2 hy, e⟩
                  have HL9 : Hid (∀ x, x ∈ putL Lc (c, s) a ↔ x ∈ (zs9.take (q + 1)).map (·.1)) := fun x => by
                    rw [← hz9, swap_take HYI.out.1 HYI.out.2 hqj, List.map_append]
                    exact put_take (y := ((c, s), a)) HOnce.out HLC.out (fun z hz => by
                      obtain ⟨y, hy, rfl⟩ := List.mem_map.1 hz
                      exact (HZK.out _).1 (List.mem_map.2 ⟨y, List.mem_of_mem_take hy, rfl⟩)) hmL x
                  have HLn : Hid ((putL Lc (c, s) a).length ≤ q + 1) := by
                    show _ ≤ _
                    unfold putL
                    have := List.length_filter_le (fun x : Cc => decide (x.1 ≠ (c, s))) Lc
                    have := HLL.out
                    rw [List.length_cons]; omega
                  have HPT : Hid (∀ wq, Rw wq w5.heap.size (some ⟨r, 0, none⟩) r n cap D zs9 → wq.cell? ⟨w5.heap.size, 0, none⟩ = some (.slice (some ⟨r, 0, none⟩) n cap) ∧ wq.rangeAt r (q * 23) [.int .i64 c, .int .i64 s] ∧ wq.rangeAt r (q * 23 + 2) (a.cells sa)) := fun wq h => ⟨h.box.cell rfl, pt_parts (h.rng q _ hget9)⟩
                  have HPut : Hid (∀ wq, Kp X2 wq Nul → Calls Tryd.prog 20 #[.pointer (some ⟨gc, 0, none⟩), .agg #[.int .i64 c, .int .i64 s], .agg (a.cells sa).toArray] wq fun e w' => e = .returned (.int .i64 0) ∧ Rw w' w5.heap.size (some ⟨r, 0, none⟩) r n cap D zs9 ∧ St3 (fun i => i ≠ r) (fun i => i ≠ r) (fun i => i ≠ r) w w' ga La gb Lb gc (putL Lc (c, s) a)) := fun wq k => by
                    have h5 := (HS9.out.nul k).rot.rot
                    have r5 := HR9.out.nul k
                    have hgd := h5.rot.m1.ok.gd _ hmL
                    obtain ⟨_, cs, hrow, _⟩ := r5.row (by omega)
                    have hrl := (Array.getElem?_eq_some_iff.1 hrow).1
                    refine (put_any (fun i => i ≠ r) gc c s a sa (fun i => i ≠ r) Lc wq h5.m1.gi (fun i hi e => by subst e; omega) h5.m1.ok hgd.ok hgd.x hgd.size (r5.tree _ (List.mem_of_getElem? hget9)) (HV.out.kp h5.kp)).mono ?_
                    rintro e w' ⟨er, L', rfl, h1, h2, h3⟩
                    obtain ⟨rfl, rfl⟩ := h2.put (h5.rot.m1.ok.at' _ hmL) hgd.val hgd.k (.inl (by have := HLL.out; have := HLK.out; omega))
                    rw [hgd.cp] at h1 h2
                    exact ⟨rfl, r5.km h5.m1 h3, (h5.step h3 h1 h2.ok).rot⟩
                  clear hget9 hmL hz9
                  go_wp2_with fail
                  refine wp_region_noPanic ?_
                  refine wp_region_hel (fun w' : World => Rw w' w5.heap.size (some ⟨r, 0, none⟩) r n cap D zs9) (by kernel_rfl) (HR9.out.nul ((Kp.refl _ _).drew)) (fun hHeld => ?_)
                  refine wpH_takes (i := 0) (v := ?_) (some 137) rfl rfl (by kernel_rfl) (by kernel_rfl) (by kernel_rfl) (fun _ _ _ h => h) (Or.inl ⟨by rfl, ?_⟩) hHeld ?_
                  rotate_left
                  · intro w' hSw; have s0 := (HPT.out _ hSw).1; clear hSw; go_simp; try with_reducible rfl
                  simp only [Act.put, List.setIfInBounds_toArray, List.set_cons_zero, List.set_cons_succ]
                  refine wpH_takes (i := 1) (v := ?_) (some 138) rfl rfl (by kernel_rfl) (by kernel_rfl) (by kernel_rfl) (fun _ _ _ h => h) (Or.inl ⟨by rfl, ?_⟩) hHeld ?_
                  rotate_left
                  · intro w' hSw; have s0 := (HPT.out _ hSw).1; clear hSw; go_simp; try with_reducible rfl
                  simp only [Act.put, List.setIfInBounds_toArray, List.set_cons_zero, List.set_cons_succ]
                  refine wpH_takes (i := 2) (v := ?_) (some 139) rfl rfl (by kernel_rfl) (by kernel_rfl) (by kernel_rfl) (fun _ _ _ h => h) (Or.inl ⟨by rfl, ?_⟩) hHeld ?_
                  rotate_left
                  · intro w' hSw; have s0 := (HPT.out _ hSw).1; clear hSw; go_simp; try with_reducible rfl
                  simp only [Act.put, List.setIfInBounds_toArray, List.set_cons_zero, List.set_cons_succ]
                  refine wpH_takes (i := 3) (v := ?_) (some 140) rfl rfl (by kernel_rfl) (by kernel_rfl) (by kernel_rfl) (fun _ _ _ h => h) (Or.inl ⟨by rfl, ?_⟩) hHeld ?_
                  rotate_left
                  · intro w' hSw; have s0 := (HPT.out _ hSw).1; clear hSw; go_simp; try with_reducible rfl
                  simp only [Act.put, List.setIfInBounds_toArray, List.set_cons_zero, List.set_cons_succ]
                  refine wpH_takes (i := 4) (v := ?_) (some 141) rfl rfl (by kernel_rfl) (by kernel_rfl) (by kernel_rfl) (fun _ _ _ h => h) (Or.inl ⟨by rfl, ?_⟩) hHeld ?_
                  rotate_left
                  · intro w' hSw; have s0 := (HPT.out _ hSw).1; clear hSw; go_simp; try with_reducible rfl
                  simp only [Act.put, List.setIfInBounds_toArray, List.set_cons_zero, List.set_cons_succ]
                  refine wpH_takes (i := 5) (v := .agg ([.int .i64 c, .int .i64 s]).toArray) (some 142) rfl rfl (by kernel_rfl) (by kernel_rfl) (by kernel_rfl) (fun _ _ _ h => h) (Or.inl ⟨by rfl, fun w' hSw => exec_load_row 26 (.tmp 141) rfl r (q * 23) rfl ([.int .i64 c, .int .i64 s]) _ (HPT.out w' hSw).2.1 Tryd.underlying26 rfl infoAddr2⟩) hHeld ?_
                  simp only [Act.put, List.setIfInBounds_toArray, List.set_cons_zero, List.set_cons_succ]
                  refine wpH_takes (i := 6) (v := ?_) (some 143) rfl rfl (by kernel_rfl) (by kernel_rfl) (by kernel_rfl) (fun _ _ _ h => h) (Or.inl ⟨by rfl, ?_⟩) hHeld ?_
                  rotate_left
                  · intro w' hSw; have s0 := (HPT.out _ hSw).1; clear hSw; go_simp; try with_reducible rfl
                  simp only [Act.put, List.setIfInBounds_toArray, List.set_cons_zero, List.set_cons_succ]
                  refine wpH_takes (i := 7) (v := ?_) (some 144) rfl rfl (by kernel_rfl) (by kernel_rfl) (by kernel_rfl) (fun _ _ _ h => h) (Or.inl ⟨by rfl, ?_⟩) hHeld ?_
                  rotate_left
                  · intro w' hSw; have s0 := (HPT.out _ hSw).1; clear hSw; go_simp; try with_reducible rfl
                  simp only [Act.put, List.setIfInBounds_toArray, List.set_cons_zero, List.set_cons_succ]
                  refine wpH_takes (i := 8) (v := ?_) (some 145) rfl rfl (by kernel_rfl) (by kernel_rfl) (by kernel_rfl) (fun _ _ _ h => h) (Or.inl ⟨by rfl, ?_⟩) hHeld ?_
                  rotate_left
                  · intro w' hSw; have s0 := (HPT.out _ hSw).1; clear hSw; go_simp; try with_reducible rfl
                  simp only [Act.put, List.setIfInBounds_toArray, List.set_cons_zero, List.set_cons_succ]
                  refine wpH_takes (i := 9) (v := ?_) (some 146) rfl rfl (by kernel_rfl) (by kernel_rfl) (by kernel_rfl) (fun _ _ _ h => h) (Or.inl ⟨by rfl, ?_⟩) hHeld ?_
                  rotate_left
                  · intro w' hSw; have s0 := (HPT.out _ hSw).1; clear hSw; go_simp; try with_reducible rfl
                  simp only [Act.put, List.setIfInBounds_toArray, List.set_cons_zero, List.set_cons_succ]
                  refine wpH_takes (i := 10) (v := .agg (a.cells sa).toArray) (some 147) rfl rfl (by kernel_rfl) (by kernel_rfl) (by kernel_rfl) (fun _ _ _ h => h) (Or.inl ⟨by rfl, fun w' hSw => exec_load_row 33 (.tmp 146) rfl r (q * 23 + 2) rfl (a.cells sa) _ (HPT.out w' hSw).2.2 Tryd.underlying33 rfl infoContent⟩) hHeld ?_
                  simp only [Act.put, List.setIfInBounds_toArray, List.set_cons_zero, List.set_cons_succ]
                  refine wpH_step (i := 11) (by kernel_rfl) rfl rfl (fun K hK => ?_)
                  go_simp
                  refine (HPut.out _ ((Kp.refl _ _).drew)).mono ?_
                  rintro e w8 ⟨rfl, hr8, hs8⟩
                  have HS8 : Hid (St3 (fun i => i ≠ r) (fun i => i ≠ r) (fun i => i ≠ r) w w8 ga La gb Lb gc (putL Lc (c, s) a)) := hs8
                  have HR8 : Hid (Rw w8 w5.heap.size (some ⟨r, 0, none⟩) r n cap D zs9) := hr8
                  refine hK.out _ _ hr8 (fun hHeld => ?_)
                  clear hK K hr8 hs8 HPut HR9 HS9
                  (try simp only [Act.put])
                  refine wpH_takes (i := 12) (v := ?_) (some 149) rfl rfl (by kernel_rfl) (by kernel_rfl) (by kernel_rfl) (fun _ _ _ h => h) (Or.inl ⟨by rfl, ?_⟩) hHeld ?_
                  rotate_left
                  · intro w' hSw; clear hSw; go_simp; try with_reducible rfl
                  simp only [Act.put, List.setIfInBounds_toArray, List.set_cons_zero, List.set_cons_succ]
                  refine wpAnyH_done (by kernel_rfl) ?_ _
                  refine NoPanic.normal ?_
                  clear hHeld HPT
                  have hkb : (q : Int) + 1 ≤ 9223372036854775807 := by have := HLK.out; omega
                  go_wp2_with fail
                  go_roundw
                  case rel => exact ⟨q + 1, zs9, _, by omega, by go_num, HR8.out, HS8.out, HZ9.out, HL9.out, HLn.out⟩
                  case measure => simp only [RowKit.intOf]; omega
              · have hqe : q = n := by omega
                subst hqe
                have hqn : ¬ ((q : Int) < (q : Int)) := by omega
                have hsame : ∀ x, x ∈ Lc ↔ x ∈ La := fun x => by
                  have hl := HRW.out.len
                  rw [HLC.out x, ← HZK.out x, ← hl, List.take_length]
                have e1 : EqC La Lc := same_eqC HST.out.m1.g0.once HST.out.m3.g0.once (fun x => (hsame x).symm)
                have e2 : EqC Lc La := same_eqC HST.out.m3.g0.once HST.out.m1.g0.once hsame
                have HSA : Hid (St3 FA FA FA w wr ga La gb Lb gc Lc) := HST.out.mono (fun _ _ => Nat.zero_le _) (fun _ _ => Nat.zero_le _) (fun _ _ => Nat.zero_le _)
                have HE1 : Hid (Calls Tryd.prog 24 #[.pointer (some ⟨ga, 0, none⟩), .pointer (some ⟨gc, 0, none⟩)] wr fun e w' => e = .returned (.bool true) ∧ Kp wr w' Nul) := by
                  have := equal_at ga gc La Lc wr HST.out.m1.g0 HST.out.m3.g0 HST.out.m1.ok.okC HST.out.m3.ok.okC
                  rw [eqC_true e1] at this
                  exact this
                have HE2 : Hid (∀ wq, Kp wr wq Nul → Calls Tryd.prog 24 #[.pointer (some ⟨gc, 0, none⟩), .pointer (some ⟨ga, 0, none⟩)] wq fun e w' => e = .returned (.bool true) ∧ Kp wq w' Nul) := fun wq k => by
                  have h5 := HST.out.nul k
                  have := equal_at gc ga Lc La wq h5.m3.g0 h5.m1.g0 h5.m3.ok.okC h5.m1.ok.okC
                  rw [eqC_true e2] at this
                  exact this
                have HP1 : Hid (∀ wq, Kp wr wq Nul → Calls Tryd.prog 25 #[.pointer (some ⟨gc, 0, none⟩), .pointer (some ⟨ga, 0, none⟩)] wq fun e w' => ∃ p c, e = .returned (.slice p 0 c) ∧ Kp wq w' Nul) := fun wq k => by
                  have h5 := HST.out.nul k
                  refine (puts_at gc ga Lc La wq h5.m3.g0 h5.m1.g0 h5.m3.ok.gd h5.m1.ok.gd h5.m3.ok.len h5.m1.ok.len).mono ?_
                  rintro e w' ⟨ys, v', rfl, hR⟩
                  have hz : ys = [] := by
                    cases ys with
                    | nil => rfl
                    | cons y _ => exact absurd ((hR.mem y.1.1).1 (by simp)) (same_un hsame _)
                  subst hz
                  obtain ⟨p, c, e, _⟩ := hR.pts.slice
                  exact ⟨p, c, by rw [e]; rfl, hR.kp⟩
                have HPW : Hid (∀ wq, Kp wr wq Nul → Calls Tryd.prog 25 #[.pointer (some ⟨ga, 0, none⟩), .pointer (some ⟨gb, 0, none⟩)] wq fun e w' => ∃ ys v', e = .returned v' ∧ PutsR wq w' La Lb v' ys) := fun wq k => by
                  have h5 := HST.out.nul k
                  exact puts_at ga gb La Lb wq h5.m1.g0 h5.m2.g0 h5.m1.ok.gd h5.m2.ok.gd h5.m1.ok.len h5.m2.ok.len
                have HDD : Hid (∀ wq, Kp wr wq Nul → wq.heap[D]? = some (.deferred (some []))) := fun wq k => (HRW.out.nul k).dd
                clear hsame e1 e2 HRW HST HZK HLC HLL HOA HOR HNO HOnce hlt hq
                go_wp2_with fail
                clear y0 hqn
                refine HE1.out.mono ?_
                rintro e w7 ⟨rfl, hk7⟩
                have HK7 : Hid (Kp wr w7 Nul) := hk7
                clear hk7 HE1
                go_wp2_with fail
                refine (HE2.out w7 HK7.out).mono ?_
                rintro e w8 ⟨rfl, hk8⟩
                have HK8 : Hid (Kp wr w8 Nul) := HK7.out.trans hk8
                clear hk8 HK7 HE2
                go_wp2_with fail
                refine (HP1.out w8 HK8.out).mono ?_
                rintro e w9 ⟨p9, c9, rfl, hk9⟩
                have HK9 : Hid (Kp wr w9 Nul) := HK8.out.trans hk9
                clear hk9 HK8 HP1
                go_wp2_with fail
                refine (HPW.out w9 HK9.out).mono ?_
                rintro e w10 ⟨ys, v10, rfl, hR⟩
                obtain ⟨pw, cw, rfl, _⟩ := hR.pts.slice
                have k10 : Kp wr w10 Nul := HK9.out.trans hR.kp
                have HPT : Hid (Pts w10 w9.heap.size (fun _ => True) (.slice pw ys.length cw) ys) := hR.pts
                have HS10 : Hid (St3 FA FA FA w w10 ga La gb Lb gc Lc) := HSA.out.nul k10
                have HD10 : Hid (w10.heap[D]? = some (.deferred (some []))) := HDD.out _ k10
                have HWP : Hid (WayP La Lb (ys.map (·.1))) := by
                  refine ⟨?_, fun x => ?_, fun y hy => ?_, fun x hx => (HSA.out.m2.ok.gd x hx).k, HSA.out.m1.g0.once, HSA.out.m2.g0.once⟩
                  · have := strict_nodup hR.strict
                    rw [List.Nodup, List.pairwise_map] at this
                    exact List.pairwise_map.2 this
                  · rw [List.map_map]; exact hR.mem x
                  · obtain ⟨z, hz, rfl⟩ := List.mem_map.1 hy
                    exact hR.put z hz
                have HYL : Hid (ys.length ≤ 8192) := by
                  show _ ≤ _
                  have hnd := strict_nodup hR.strict
                  have := nodup_le _ ((La.map (·.1)) ++ (Lb.map (·.1))) hnd (fun x hx => by
                    rcases (hR.mem x).1 hx with ⟨b, h, _⟩ | ⟨⟨a, h⟩, _⟩
                    · exact List.mem_append_right _ (List.mem_map.2 ⟨_, h, rfl⟩)
                    · exact List.mem_append_left _ (List.mem_map.2 ⟨_, h, rfl⟩))
                  rw [List.length_append, List.length_map, List.length_map, List.length_map] at this
                  have := HSA.out.m1.ok.len
                  have := HSA.out.m2.ok.len
                  omega
                have HAT : Hid (∀ y ∈ ys, vC y.1.1.1 y.1.1.2 = true) := fun y hy => by
                  rcases (hR.mem y.1.1).1 (List.mem_map.2 ⟨y, hy, rfl⟩) with ⟨b, h, _⟩ | ⟨⟨a, h⟩, _⟩
                  · exact HSA.out.m2.ok.at' (y.1.1, b) h
                  · exact HSA.out.m1.ok.at' (y.1.1, a) h
                clear hR k10 HDD HPW HK9 HSA
                generalize hn : ys.length = n at *
                have HN : Hid (ys.length = n) := hn
                clear hn
                go_wp2_with fail
                go_loopw [20] (fun t wr => ∃ (j : Nat) (M : List Cc), j ≤ 2 ∧ t = .int .i64 j ∧ St3 FA FA FA w wr ga M gb Lb gc Lc ∧ Pts wr w9.heap.size (fun _ => True) (.slice pw n cw) ys ∧ wr.heap[D]? = some (.deferred (some [])) ∧ WayT j La (ys.map (·.1)) M) (fun t _ => 2 - (RowKit.intOf t).toNat)
                case atStart => exact ⟨0, La, by omega, rfl, HS10.out, HPT.out, HD10.out, fun _ => rfl, fun e => by omega, fun e => by omega⟩
                case round =>
                  clear HS10 HPT HD10
                  obtain ⟨j, M, hj, rfl, hst, hpt, hdd, hwt⟩ := hrel
                  have HST : Hid (St3 FA FA FA w wr ga M gb Lb gc Lc) := hst
                  have HPT : Hid (Pts wr w9.heap.size (fun _ => True) (.slice pw n cw) ys) := hpt
                  have HDD : Hid (wr.heap[D]? = some (.deferred (some []))) := hdd
                  have HWT : Hid (WayT j La (ys.map (·.1)) M) := hwt
                  clear hst hpt hdd hwt
                  by_cases hj2 : j < 2
                  · have hj2' : (j : Int) < 2 := by omega
                    go_wp2_with fail
                    go_loopw [21] (fun i wr => ∃ (q : Nat) (M : List Cc), q ≤ n ∧ i = .int .i64 q ∧ St3 FA FA FA w wr ga M gb Lb gc Lc ∧ Pts wr w9.heap.size (fun _ => True) (.slice pw n cw) ys ∧ wr.heap[D]? = some (.deferred (some [])) ∧ WayJ j La (ys.map (·.1)) q M) (fun i _ => n - (RowKit.intOf i).toNat)
                    case atStart => exact ⟨0, M, Nat.zero_le _, rfl, HST.out, HPT.out, HDD.out, HWT.out.start⟩
                    case round =>
                      clear HST HPT HDD HWT
                      obtain ⟨q, M, hq, rfl, hst, hpt, hdd, hwj⟩ := hrel
                      have HST : Hid (St3 FA FA FA w wr ga M gb Lb gc Lc) := hst
                      have HPT : Hid (Pts wr w9.heap.size (fun _ => True) (.slice pw n cw) ys) := hpt
                      have HDD : Hid (wr.heap[D]? = some (.deferred (some []))) := hdd
                      have HWJ : Hid (WayJ j La (ys.map (·.1)) q M) := hwj
                      clear hst hdd hwj
                      by_cases hlt : q < n
                      · have hqt : q < ys.length := by rw [HN.out]; exact hlt
                        obtain ⟨p2, c2, e2, hrw⟩ := hpt.slice
                        obtain ⟨b, hb, _, hrng⟩ := hrw (by omega)
                        have e3 : pw = some ⟨b, 0, none⟩ := by
                          rw [hb] at e2
                          simp only [Value.slice.injEq] at e2
                          exact e2.1
                        subst e3
                        clear hrw hb e2
                        obtain ⟨⟨⟨⟨c, s⟩, a⟩, sa⟩, hys⟩ : ∃ y, ys[q] = y := ⟨_, rfl⟩
                        have hget : ys[q]? = some (((c, s), a), sa) := by rw [List.getElem?_eq_getElem hqt, hys]
                        have hmem := List.mem_of_getElem? hget
                        have hgm : (ys.map (·.1))[q]? = some ((c, s), a) := by rw [List.getElem?_map, hget]; rfl
                        have HGM : Hid ((ys.map (·.1))[q]? = some ((c, s), a)) := hgm
                        have HVC : Hid (vC c s = true) := HAT.out _ hmem
                        have HTR : Hid (∀ wq, Kp wr wq Nul → NdIn wq (fun _ => True) sa a.t) := fun wq k => (HPT.out.tree _ hmem).kp k (fun _ _ x => x)
                        have HRG : Hid (∀ wq, Pts wq w9.heap.size (fun _ => True) (.slice (some ⟨b, 0, none⟩) n cw) ys → wq.rangeAt b (q * 23) [.int .i64 c, .int .i64 s] ∧ wq.rangeAt b (q * 23 + 2) (a.cells sa)) := fun wq h => by
                          obtain ⟨p2, c2, e2, hrw⟩ := h.slice
                          obtain ⟨b2, hb, _, hrng2⟩ := hrw (by have := HN.out; omega)
                          have e3 : b2 = b := by
                            rw [hb] at e2
                            simp only [Value.slice.injEq] at e2
                            simpa using e2.1.symm
                          subst e3
                          exact pt_parts (hrng2 q _ hget)
                        have y0 : wr.cell? ⟨b, q * 23 + 2, none⟩ = some (.int .i64 a.k) := (HRG.out _ HPT.out).2 0 _ rfl
                        have hkb : (q : Int) + 1 ≤ 9223372036854775807 := by have := HYL.out; omega
                        have hq0 : (0 : Int) ≤ (q : Int) := by omega
                        have hqn : (q : Int) < (n : Int) := by omega
                        clear hqt hys hget hmem hrng hgm hpt
                        by_cases hk : a.k = 0 ↔ j = 0
                        · have hcond : ((a.k == 0) == ((j : Int) == 0)) = true := by
                            by_cases q1 : a.k = 0
                            · have q2 : (j : Int) = 0 := by have := hk.1 q1; omega
                              rw [show (a.k == 0) = true from by simpa using q1, show ((j : Int) == 0) = true from by simpa using q2]; rfl
                            · have q2 : ¬ (j : Int) = 0 := fun e => q1 (hk.2 (by omega))
                              rw [show (a.k == 0) = false from by simpa using q1, show ((j : Int) == 0) = false from by simpa using q2]; rfl
                          have HPut : Hid (∀ wq, Kp wr wq Nul → Calls Tryd.prog 20 #[.pointer (some ⟨ga, 0, none⟩), .agg #[.int .i64 c, .int .i64 s], .agg (a.cells sa).toArray] wq fun e w' => e = .returned (.int .i64 0) ∧ ∃ M', St3 FA FA FA w w' ga M' gb Lb gc Lc ∧ Pts w' w9.heap.size (fun _ => True) (.slice (some ⟨b, 0, none⟩) n cw) ys ∧ w'.heap[D]? = some (.deferred (some [])) ∧ WayJ j La (ys.map (·.1)) (q + 1) M') := fun wq k => by
                            have h5 := HST.out.nul k
                            have g5 := put_y h5.m2.ok.gd (HWP.out.put _ (List.mem_of_getElem? HGM.out))
                            obtain ⟨mv, bg⟩ := h5.m1.g0.blk
                            refine (put_any FA ga c s a sa (fun _ => True) M wq h5.m1.gi (fun _ _ => Nat.zero_le _) h5.m1.ok g5.ok g5.x g5.size (HTR.out _ k) (HV.out.kp h5.kp)).mono ?_
                            rintro e w' ⟨er, L', rfl, h1, h2, h3⟩
                            obtain ⟨rfl, h6⟩ := HWJ.out.go hj2 HWP.out HGM.out hk HVC.out g5 h5.m1.g0.once h5.m2.ok.len h2
                            exact ⟨rfl, L', h5.step h3 h1 h2.ok, (HPT.out.kp k).km h3 bg, h5.m1.keeps h3 ((k.block D (Array.getElem?_eq_some_iff.1 HDD.out).1 (fun x => x)).trans HDD.out), h6⟩
                          clear hk HWJ HTR
                          go_wp2_with fail
                          refine wp_region_noPanic ?_
                          refine wp_region_hel (fun w' : World => Pts w' w9.heap.size (fun _ => True) (.slice (some ⟨b, 0, none⟩) n cw) ys) (by kernel_rfl) (HPT.out.kp ((Kp.refl _ _).drew)) (fun hHeld => ?_)
                          refine wpH_takes (i := 0) (v := ?_) (some 190) rfl rfl (by kernel_rfl) (by kernel_rfl) (by kernel_rfl) (fun _ _ _ h => h) (Or.inl ⟨by rfl, ?_⟩) hHeld ?_
                          rotate_left
                          · intro w' hSw; clear hSw; go_simp; try with_reducible rfl
                          simp only [Act.put, List.setIfInBounds_toArray, List.set_cons_zero, List.set_cons_succ]
                          refine wpH_takes (i := 1) (v := ?_) (some 191) rfl rfl (by kernel_rfl) (by kernel_rfl) (by kernel_rfl) (fun _ _ _ h => h) (Or.inl ⟨by rfl, ?_⟩) hHeld ?_
                          rotate_left
                          · intro w' hSw; clear hSw; go_simp; try with_reducible rfl
                          simp only [Act.put, List.setIfInBounds_toArray, List.set_cons_zero, List.set_cons_succ]
                          refine wpH_takes (i := 2) (v := ?_) (some 192) rfl rfl (by kernel_rfl) (by kernel_rfl) (by kernel_rfl) (fun _ _ _ h => h) (Or.inl ⟨by rfl, ?_⟩) hHeld ?_
                          rotate_left
                          · intro w' hSw; clear hSw; go_simp; try with_reducible rfl
                          simp only [Act.put, List.setIfInBounds_toArray, List.set_cons_zero, List.set_cons_succ]
                          refine wpH_takes (i := 3) (v := ?_) (some 193) rfl rfl (by kernel_rfl) (by kernel_rfl) (by kernel_rfl) (fun _ _ _ h => h) (Or.inl ⟨by rfl, ?_⟩) hHeld ?_
                          rotate_left
                          · intro w' hSw; clear hSw; go_simp; try with_reducible rfl
                          simp only [Act.put, List.setIfInBounds_toArray, List.set_cons_zero, List.set_cons_succ]
                          refine wpH_takes (i := 4) (v := ?_) (some 194) rfl rfl (by kernel_rfl) (by kernel_rfl) (by kernel_rfl) (fun _ _ _ h => h) (Or.inl ⟨by rfl, ?_⟩) hHeld ?_
                          rotate_left
                          · intro w' hSw; clear hSw; go_simp; try with_reducible rfl
                          simp only [Act.put, List.setIfInBounds_toArray, List.set_cons_zero, List.set_cons_succ]
                          refine wpH_takes (i := 5) (v := .agg ([.int .i64 c, .int .i64 s]).toArray) (some 195) rfl rfl (by kernel_rfl) (by kernel_rfl) (by kernel_rfl) (fun _ _ _ h => h) (Or.inl ⟨by rfl, fun w' hSw => exec_load_row 26 (.tmp 194) rfl b (q * 23) rfl ([.int .i64 c, .int .i64 s]) _ (HRG.out w' hSw).1 Tryd.underlying26 rfl infoAddr2⟩) hHeld ?_
                          simp only [Act.put, List.setIfInBounds_toArray, List.set_cons_zero, List.set_cons_succ]
                          refine wpH_takes (i := 6) (v := ?_) (some 196) rfl rfl (by kernel_rfl) (by kernel_rfl) (by kernel_rfl) (fun _ _ _ h => h) (Or.inl ⟨by rfl, ?_⟩) hHeld ?_
                          rotate_left
                          · intro w' hSw; clear hSw; go_simp; try with_reducible rfl
                          simp only [Act.put, List.setIfInBounds_toArray, List.set_cons_zero, List.set_cons_succ]
                          refine wpH_takes (i := 7) (v := ?_) (some 197) rfl rfl (by kernel_rfl) (by kernel_rfl) (by kernel_rfl) (fun _ _ _ h => h) (Or.inl ⟨by rfl, ?_⟩) hHeld ?_
                          rotate_left
                          · intro w' hSw; clear hSw; go_simp; try with_reducible rfl
                          simp only [Act.put, List.setIfInBounds_toArray, List.set_cons_zero, List.set_cons_succ]
                          refine wpH_takes (i := 8) (v := ?_) (some 198) rfl rfl (by kernel_rfl) (by kernel_rfl) (by kernel_rfl) (fun _ _ _ h => h) (Or.inl ⟨by rfl, ?_⟩) hHeld ?_
                          rotate_left
                          · intro w' hSw; clear hSw; go_simp; try with_reducible rfl
                          simp only [Act.put, List.setIfInBounds_toArray, List.set_cons_zero, List.set_cons_succ]
                          refine wpH_takes (i := 9) (v := ?_) (some 199) rfl rfl (by kernel_rfl) (by kernel_rfl) (by kernel_rfl) (fun _ _ _ h => h) (Or.inl ⟨by rfl, ?_⟩) hHeld ?_
                          rotate_left
                          · intro w' hSw; clear hSw; go_simp; try with_reducible rfl
                          simp only [Act.put, List.setIfInBounds_toArray, List.set_cons_zero, List.set_cons_succ]
                          refine wpH_takes (i := 10) (v := .agg (a.cells sa).toArray) (some 200) rfl rfl (by kernel_rfl) (by kernel_rfl) (by kernel_rfl) (fun _ _ _ h => h) (Or.inl ⟨by rfl, fun w' hSw => exec_load_row 33 (.tmp 199) rfl b (q * 23 + 2) rfl (a.cells sa) _ (HRG.out w' hSw).2 Tryd.underlying33 rfl infoContent⟩) hHeld ?_
                          simp only [Act.put, List.setIfInBounds_toArray, List.set_cons_zero, List.set_cons_succ]
                          refine wpH_step (i := 11) (by kernel_rfl) rfl rfl (fun K hK => ?_)
                          go_simp
                          refine (HPut.out _ ((Kp.refl _ _).drew)).mono ?_
                          rintro e w11 ⟨rfl, M', hs11, hp11, hd11, hw11⟩
                          have HS11 : Hid (St3 FA FA FA w w11 ga M' gb Lb gc Lc) := hs11
                          have HP11 : Hid (Pts w11 w9.heap.size (fun _ => True) (.slice (some ⟨b, 0, none⟩) n cw) ys) := hp11
                          have HD11 : Hid (w11.heap[D]? = some (.deferred (some []))) := hd11
                          have HW11 : Hid (WayJ j La (ys.map (·.1)) (q + 1) M') := hw11
                          refine hK.out _ _ hp11 (fun hHeld => ?_)
                          clear hK K hs11 hp11 hd11 hw11 HPut HRG HST HPT HDD
                          (try simp only [Act.put, List.setIfInBounds_toArray, List.set_cons_zero, List.set_cons_succ])
                          refine wpH_takes (i := 12) (v := ?_) (some 202) rfl rfl (by kernel_rfl) (by kernel_rfl) (by kernel_rfl) (fun _ _ _ h => h) (Or.inl ⟨by rfl, ?_⟩) hHeld ?_
                          rotate_left
                          · intro w' hSw; clear hSw; go_simp; try with_reducible rfl
                          simp only [Act.put, List.setIfInBounds_toArray, List.set_cons_zero, List.set_cons_succ]
                          refine wpAnyH_done (by kernel_rfl) ?_ _
                          refine NoPanic.normal ?_
                          clear hHeld y0
                          go_wp2_with fail
                          go_roundw
                          case rel => exact ⟨q + 1, M', by omega, by go_num, HS11.out, HP11.out, HD11.out, HW11.out⟩
                          case measure => simp only [RowKit.intOf]; omega
                        · have hcond : ((a.k == 0) == ((j : Int) == 0)) = false := by
                            by_cases q1 : a.k = 0
                            · have q2 : ¬ (j : Int) = 0 := fun e => hk ⟨fun _ => by omega, fun _ => q1⟩
                              rw [show (a.k == 0) = true from by simpa using q1, show ((j : Int) == 0) = false from by simpa using q2]; rfl
                            · have q2 : (j : Int) = 0 := by
                                by_cases q3 : j = 0
                                · omega
                                · exact absurd ⟨fun e => absurd e q1, fun e => absurd e q3⟩ hk
                              rw [show (a.k == 0) = false from by simpa using q1, show ((j : Int) == 0) = true from by simpa using q2]; rfl
                          have HNX : Hid (WayJ j La (ys.map (·.1)) (q + 1) M) := HWJ.out.skip HGM.out ⟨fun e e' => hk ⟨fun _ => e', fun _ => e⟩, fun e => Classical.byContradiction fun e' => hk ⟨fun h => absurd h e', fun h => absurd h e⟩⟩
                          clear hk HWJ HTR
                          go_wp2_with fail
                          go_roundw
                          case rel => exact ⟨q + 1, M, by omega, by go_num, HST.out, HPT.out, HDD.out, HNX.out⟩
                          case measure => simp only [RowKit.intOf]; omega
                      · have hqe : q = n := by omega
                        subst hqe
                        have hqn : ¬ ((q : Int) < (q : Int)) := by omega
                        have HNX : Hid (WayT (j + 1) La (ys.map (·.1)) M) := WayJ.fin (by rw [List.length_map, HN.out]; exact HWJ.out)
                        clear hpt
                        go_wp2_with fail
                        go_roundw
                        case rel => exact ⟨j + 1, M, by omega, by go_num, HST.out, HPT.out, HDD.out, HNX.out⟩
                        case measure => simp only [RowKit.intOf]; omega
                  · have hj3 : j = 2 := by omega
                    subst hj3
                    have hj2' : ¬ (((2 : Nat) : Int) < 2) := by omega
                    have hEq : EqC M Lb := HWP.out.done (HWT.out.2.2 rfl) HST.out.m1.g0.once
                    have HE : Hid (∀ wq, Kp wr wq Nul → Calls Tryd.prog 24 #[.pointer (some ⟨ga, 0, none⟩), .pointer (some ⟨gb, 0, none⟩)] wq fun e w' => e = .returned (.bool true) ∧ Kp wq w' Nul) := fun wq k => by
                      have h5 := HST.out.nul k
                      have := equal_at ga gb M Lb wq h5.m1.g0 h5.m2.g0 h5.m1.ok.okC h5.m2.ok.okC
                      rw [eqC_true hEq] at this
                      exact this
                    have HKW : Hid (Kp w wr Nul) := HST.out.kp
                    have HML : Hid ((M.length : Int) = Lb.length) := by show _ = _; rw [hEq.1]
                    clear hEq HPT HWT HWP HAT
                    go_wp2_with fail
                    refine (HE.out wr (Kp.refl _ _)).mono ?_
                    rintro e w12 ⟨rfl, hk12⟩
                    have HK12 : Hid (Kp w w12 Nul) := HKW.out.trans hk12
                    have HD12 : Hid (w12.heap[D]? = some (.deferred (some []))) := (hk12.block D (Array.getElem?_eq_some_iff.1 HDD.out).1 (fun x => x)).trans HDD.out
                    have HLa : Hid (Calls Tryd.prog 22 #[.pointer (some ⟨ga, 0, none⟩)] w12 fun e w' => e = .returned (.int .i64 Lb.length) ∧ w' = w12) := by
                      have := len_at w12 FA ga M (HST.out.nul hk12).m1.gi
                      rw [HML.out] at this
                      exact this
                    have HLb : Hid (Calls Tryd.prog 22 #[.pointer (some ⟨gb, 0, none⟩)] w12 fun e w' => e = .returned (.int .i64 Lb.length) ∧ w' = w12) := len_at w12 FA gb Lb (HST.out.nul hk12).m2.gi
                    clear hk12 HST HDD HKW HE HML
                    go_wp2_with fail
                    refine HLa.out.mono ?_
                    rintro e w13 ⟨rfl, rfl⟩
                    go_wp2_with fail
                    refine HLb.out.mono ?_
                    rintro e w14 ⟨rfl, rfl⟩
                    go_wp2_with fail
                    refine ⟨by simp, .inl ⟨_, _, rfl, run_takeDeferred HD12.out, ?_⟩⟩
                    exact ⟨_, results_tmp rfl _ _ _, rfl, putObj_kp HK12.out (by have := HWR.out; omega)⟩
end Go.Proofs.YtjmbmapanmbnhaaDoor
