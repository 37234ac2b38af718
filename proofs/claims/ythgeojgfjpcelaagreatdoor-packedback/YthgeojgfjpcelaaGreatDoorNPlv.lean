/- PackedBack: the walk. -/
import Derived.Test.YthgeojgfjpcelaaGreatDoorNPlg
import Derived.Test.YthgeojgfjpcelaaGreatDoorNPln
import Derived.Test.YthgeojgfjpcelaaGreatDoorNIr
namespace Go.Proofs.YthgeojgfjpcelaaGreatDoor
open Go.RowKit Go.Maps Go.Sort Go.Lib Go.Shelf

theorem puts_kp {w w' : World} {v : Value} {xs : List (Cc × Value)} (h : PutsIn w v xs) (k : Kp w w' Nul) : PutsIn w' v xs := by
  obtain ⟨a, c, hv, hp⟩ := h.sl
  refine ⟨⟨a, c, hv, fun h0 => ?_⟩, h.len, fun y hy => ?_⟩
  · obtain ⟨b, o, ha, hr⟩ := hp h0
    exact ⟨b, o, ha, fun i y hi => rangeAt_kp (hr i y hi) k (fun x => x)⟩
  · have := h.cn y hy
    exact ⟨this.ok, this.vx, this.inn.kp k (fun _ _ x => x)⟩
theorem grid_low {w : World} {F : Nat → Prop} {g : Nat} {L : List Cc} (h : GridIn w F g L) : GridIn w (fun b => F b ∧ b < w.heap.size) g L := by
  obtain ⟨hF, ⟨hb, e⟩ | ⟨m, D, hb, hm', hne, hown, hm⟩⟩ := h
  · exact ⟨⟨hF, (Array.getElem?_eq_some_iff.1 hb).1⟩, .inl ⟨hb, e⟩⟩
  · exact ⟨⟨hF, (Array.getElem?_eq_some_iff.1 hb).1⟩, .inr ⟨m, D, hb, ⟨hm', hown.lt⟩, hne, hown, ⟨hm.size, hm.rng, hm.keys, fun c r ct hc => by obtain ⟨sl, e1, e2⟩ := hm.vals c r ct hc; exact ⟨sl, e1, e2.mono (fun b hF' hb => ⟨rfl, hF', hb⟩)⟩, hm.once⟩⟩⟩
theorem pkE_cases (K : List Cc) : (pkE K = 0 ∧ (fileB K).length ≤ 4194304 ∧ pkS K = fileB K) ∨ pkE K = 2 := by
  unfold pkE pkS
  by_cases h : (fileB K).length ≤ 4194304
  · rw [if_pos h, if_pos h]; exact .inl ⟨rfl, h, rfl⟩
  · rw [if_neg h]; exact .inr rfl
set_option maxRecDepth 40000 in
set_option maxHeartbeats 16000000 in
theorem back24 (vl vm : Value) (xl xm : List (Cc × Value)) (w : World) (hl : PutsIn w vl xl) (hm : PutsIn w vm xm) (U : VS w) (hs : Sh w) (hT : Tab w) :
    Calls Tryz.prog 7 #[vl, vm] w fun e w' => e = .returned (.bool true) ∧ Kp w w' Nul := by
  have HMl : Hid (Calls Tryz.prog 27 #[vl] w fun e w' => ∃ g L, e = .returned (.pointer (some ⟨g, 0, none⟩)) ∧ GI w.heap.size w' g L ∧ Ok17 L ∧ Kp w w' Nul) := made24 vl xl w hl U
  have HMm : Hid (∀ wq, Kp w wq Nul → Calls Tryz.prog 27 #[vm] wq fun e w' => ∃ g L, e = .returned (.pointer (some ⟨g, 0, none⟩)) ∧ GI wq.heap.size w' g L ∧ Ok17 L ∧ Kp wq w' Nul) := fun wq k => made24 vm xm wq (puts_kp hm k) (U.kp k)
  have HPk : Hid (∀ g L K wq, Kp w wq Nul → GI 0 wq g L → Ok17 L → Strict (K.map (·.1)) → (∀ x, x ∈ K ↔ x ∈ L) → K.length = L.length → Calls Tryz.prog 11 #[.pointer (some ⟨g, 0, none⟩)] wq fun e w' => e = .returned (.tuple #[.string ⟨(pkS K).toArray⟩, .int .i64 (pkE K)]) ∧ Kp wq w' Nul) := fun g L K wq k h1 h2 h3 h4 h5 => pack_at g L K wq h1 h2 h3 h4 h5 (hs.kp k (fun x => x))
  have HUn : Hid (∀ t wq, Kp w wq Nul → Calls Tryz.prog 29 #[.string ⟨t.toArray⟩] wq fun e w' => UpP wq (upR t) (upO t) e w') := fun t wq k => unpack_at t wq (hs.kp k (fun x => x)) (U.kp k)
  have HEq : Hid (∀ g o L M wq, GI 0 wq g L → GI 0 wq o M → Ok17 L → Ok17 M → Calls Tryz.prog 28 #[.pointer (some ⟨g, 0, none⟩), .pointer (some ⟨o, 0, none⟩)] wq fun e w' => e = .returned (.bool (eqC L M)) ∧ Kp wq w' Nul) := fun g o L M wq h1 h2 h3 h4 => equal_at g o L M wq h1 h2 h3.okC h4.okC
  have HKn : Hid (∀ wq, Kp w wq Nul → Calls Tryz.prog 9 #[] wq fun e w' => e = .returned (.bool true) ∧ Kp wq w' Nul) := fun wq k => known24 wq (U.kp k) (hs.kp k (fun x => x)) (fun j hj => k.cellN (hT j hj) (fun x => x))
  have HV : Hid (VS w) := U
  obtain ⟨ma, mc, rfl, hma⟩ := hm.sl
  have HLA : Hid (0 < xm.length → ∃ b o, ma = some ⟨b, o, none⟩ ∧ ∀ (i : Nat) y, xm[i]? = some y → w.rangeAt b (o + i * 23) (ptCells y.1 y.2)) := hma
  have HLC : Hid (∀ y ∈ xm, Cn w y.1.2 y.2) := hm.cn
  have hLL : xm.length ≤ 9223372036854775807 := by have := hm.len; unfold maxLen at this; omega
  generalize hnl : xm.length = nl at *
  have HNL : Hid (xm.length = nl ∧ nl ≤ 9223372036854775807) := ⟨hnl, hLL⟩
  clear hl hm U hs hT hma hnl hLL
  go_enter Tryz.func7, Tryz.ntmps7
  go_wp2_with fail
  refine HMl.out.mono ?_
  rintro e w1 ⟨g, L, rfl, hg1, hoL, hk1⟩
  have HG1 : Hid (GI w.heap.size w1 g L) := hg1
  have HOL : Hid (Ok17 L) := hoL
  have HK1 : Hid (Kp w w1 Nul) := hk1
  clear hg1 hoL hk1 HMl
  go_wp2_with fail
  refine (HMm.out _ HK1.out).mono ?_
  rintro e w2 ⟨h, M, rfl, hg2, hoM, hk2⟩
  have hgL : GI 0 w2 g L := GridIn.mono (HG1.out.kp hk2) (fun _ _ => Nat.zero_le _)
  have hgM : GI 0 w2 h M := GridIn.mono hg2 (fun _ _ => Nat.zero_le _)
  obtain ⟨K, K1, K2, K3⟩ := sorted_of hgL.once
  obtain ⟨J, J1, J2, J3⟩ := sorted_of hgM.once
  have HGL : Hid (GI 0 w2 g L ∧ GI 0 w2 h M) := ⟨hgL, hgM⟩
  have HOM : Hid (Ok17 M) := hoM
  have HKK : Hid (Strict (K.map (·.1)) ∧ (∀ x, x ∈ K ↔ x ∈ L) ∧ K.length = L.length) := ⟨K1, K2, K3⟩
  have HJJ : Hid (Strict (J.map (·.1)) ∧ (∀ x, x ∈ J ↔ x ∈ M) ∧ J.length = M.length) := ⟨J1, J2, J3⟩
  have HK2 : Hid (Kp w w2 Nul) := HK1.out.trans hk2
  have hng := fun wq => nil_ptr24 g wq
  have hnh := fun wq => nil_ptr24 h wq
  have HOO : Hid (L.Pairwise (fun x y => x.1 ≠ y.1) ∧ M.Pairwise (fun x y => x.1 ≠ y.1)) := ⟨hgL.once, hgM.once⟩
  clear hg2 hoM hk2 hgL hgM K1 K2 K3 J1 J2 J3 HMm HG1 HK1
  go_wp2_with fail
  refine (HPk.out g L K w2 HK2.out HGL.out.1 HOL.out HKK.out.1 HKK.out.2.1 HKK.out.2.2).mono ?_
  rintro e w3 ⟨rfl, hk3⟩
  have HK3 : Hid (Kp w w3 Nul) := HK2.out.trans hk3
  have HG3 : Hid (GI 0 w3 g L ∧ GI 0 w3 h M) := ⟨HGL.out.1.kp hk3, HGL.out.2.kp hk3⟩
  obtain ⟨sK, hsK⟩ : ∃ sK, pkS K = sK := ⟨_, rfl⟩
  obtain ⟨eK, heK⟩ : ∃ eK, pkE K = eK := ⟨_, rfl⟩
  have HcK : Hid ((eK = 0 ∧ (fileB K).length ≤ 4194304 ∧ sK = fileB K) ∨ eK = 2) := by have := pkE_cases K; rw [hsK, heK] at this; exact this
  rw [hsK, heK]
  clear hk3 HGL HK2 hsK heK
  go_wp2_with fail
  refine (HPk.out h M J w3 HK3.out HG3.out.2 HOM.out HJJ.out.1 HJJ.out.2.1 HJJ.out.2.2).mono ?_
  rintro e w4 ⟨rfl, hk4⟩
  have HK4 : Hid (Kp w w4 Nul) := HK3.out.trans hk4
  have HG4 : Hid (GI 0 w4 g L ∧ GI 0 w4 h M) := ⟨HG3.out.1.kp hk4, HG3.out.2.kp hk4⟩
  obtain ⟨sJ, hsJ⟩ : ∃ sJ, pkS J = sJ := ⟨_, rfl⟩
  obtain ⟨eJ, heJ⟩ : ∃ eJ, pkE J = eJ := ⟨_, rfl⟩
  have HcJ : Hid ((eJ = 0 ∧ (fileB J).length ≤ 4194304 ∧ sJ = fileB J) ∨ eJ = 2) := by have := pkE_cases J; rw [hsJ, heJ] at this; exact this
  rw [hsJ, heJ]
  have HKN : Hid (Calls Tryz.prog 9 #[] w4 fun e w' => e = .returned (.bool true) ∧ Kp w4 w' Nul) := HKn.out w4 HK4.out
  clear hk4 HG3 HK3 hsJ heJ
  rcases HcK.out with ⟨e1, lK, sKe⟩ | e1
  · subst e1
    rcases HcJ.out with ⟨e2, lJ, sJe⟩ | e2
    · subst e2
      clear HKN
      go_wp2_with fail
      refine (HEq.out g h L M w4 HG4.out.1 HG4.out.2 HOL.out HOM.out).mono ?_
      rintro e w5 ⟨rfl, hk5⟩
      have HK5 : Hid (Kp w w5 Nul) := HK4.out.trans hk5
      have HG5 : Hid (GI 0 w5 g L) := HG4.out.1.kp hk5
      have hfe := file_eq HOL.out HOM.out HOO.out.1 HOO.out.2 HKK.out.1 HKK.out.2.1 HKK.out.2.2 HJJ.out.1 HJJ.out.2.1 HJJ.out.2.2 lK lJ
      have hq1 : (fileB K == fileB J) = eqC L M := by rw [Bool.eq_iff_iff, ← hfe]; simp
      have hq2 : decide (fileB K = fileB J) = eqC L M := by rw [Bool.eq_iff_iff, ← hfe]; simp
      have HUK : Hid (upO (fileB K) = some K ∧ upR (fileB K) = 0) := up_file HKK.out.1 (ok_of_mem HOL.out HKK.out.2.1 HKK.out.2.2) lK
      have HPS : Hid (pkS K = fileB K ∧ pkE K = 0) := by
        show _ ∧ _
        unfold pkS pkE
        rw [if_pos lK, if_pos lK]
        exact ⟨rfl, rfl⟩
      have HOK : Hid (Ok17 K.reverse) := by
        have := ok_of_mem HOL.out HKK.out.2.1 HKK.out.2.2
        exact ⟨fun x hx => this.gd x (List.mem_reverse.1 hx), fun x hx => this.at' x (List.mem_reverse.1 hx), by rw [List.length_reverse]; exact this.len⟩
      generalize eqC L M = Q at *
      clear hfe hk5 lK lJ HcK HcJ HG4 HK4 HJJ HOM hnh
      go_wp2_with fail
      refine (HUn.out (fileB K) w5 HK5.out).mono ?_
      intro e w6 hr
      rw [HUK.out.1, HUK.out.2] at hr
      cases hr with
      | @ok _ gx _ gix kx =>
      have HK6 : Hid (Kp w w6 Nul) := HK5.out.trans kx
      have HX6 : Hid (GridIn w6 (fun i => w5.heap.size ≤ i ∧ i < w6.heap.size) gx K.reverse) := grid_low gix
      have HG6 : Hid (GridIn w6 (fun i => i < w5.heap.size) g L) := HG5.out.low.kp kx
      have HSz : Hid (w.heap.size ≤ w5.heap.size ∧ w5.heap.size ≤ w6.heap.size) := ⟨HK5.out.size, kx.size⟩
      have hnx := fun wq => nil_ptr24 gx wq
      clear gix kx HG5 hq1 hq2
      go_wp2_with fail
      refine (HUn.out (fileB K) w6 HK6.out).mono ?_
      intro e w7 hr
      rw [HUK.out.1, HUK.out.2] at hr
      cases hr with
      | @ok _ gy _ giy ky =>
      have HK7 : Hid (Kp w w7 Nul) := HK6.out.trans ky
      have HX7 : Hid (GridIn w7 (fun i => w5.heap.size ≤ i ∧ i < w6.heap.size) gx K.reverse) := HX6.out.kp ky
      have HG7 : Hid (GridIn w7 (fun i => i < w5.heap.size) g L) := HG6.out.kp ky
      have HY7 : Hid (GridIn w7 (fun i => w6.heap.size ≤ i ∧ i < w7.heap.size) gy K.reverse) := grid_low giy
      have hny := fun wq => nil_ptr24 gy wq
      have HZ7 : Hid (w6.heap.size ≤ w7.heap.size) := ky.size
      have HEK : Hid (eqC K.reverse L = true) := by
        refine eqC_true (same_eqC ?_ HOO.out.1 (fun x => List.mem_reverse.trans (HKK.out.2.1 x)))
        exact GI.once (B := 0) (GridIn.mono HX7.out (fun _ _ => Nat.zero_le _))
      have HEX : Hid (∀ gz wq, GI 0 wq gz K.reverse → GI 0 wq g L → Calls Tryz.prog 28 #[.pointer (some ⟨gz, 0, none⟩), .pointer (some ⟨g, 0, none⟩)] wq fun e w' => e = .returned (.bool true) ∧ Kp wq w' Nul) := fun gz wq h1 h2 => by
        have := HEq.out gz g K.reverse L wq h1 h2 HOK.out HOL.out
        rw [HEK.out] at this
        exact this
      clear giy ky HK6 HX6 HG6 HEq
      go_wp2_with fail
      refine (HEX.out gx w7 (GridIn.mono HX7.out (fun _ _ => Nat.zero_le _)) (GridIn.mono HG7.out (fun _ _ => Nat.zero_le _))).mono ?_
      rintro e w8 ⟨rfl, k8⟩
      have HK8 : Hid (Kp w w8 Nul ∧ Kp w7 w8 Nul) := ⟨HK7.out.trans k8, k8⟩
      clear k8
      go_wp2_with fail
      refine (HEX.out gy w8 (GridIn.mono (HY7.out.kp HK8.out.2) (fun _ _ => Nat.zero_le _)) (GridIn.mono (HG7.out.kp HK8.out.2) (fun _ _ => Nat.zero_le _))).mono ?_
      rintro e w9 ⟨rfl, k9⟩
      have HK9 : Hid (Kp w w9 Nul) := HK8.out.1.trans k9
      have k79 := HK8.out.2.trans k9
      have HX9 : Hid (GridIn w9 (fun i => (w5.heap.size ≤ i ∧ i < w6.heap.size) ∨ w9.heap.size ≤ i) gx K.reverse) := GridIn.mono (HX7.out.kp k79) (fun i hi => .inl hi)
      have HG9 : Hid (GridIn w9 (fun i => i < w5.heap.size) g L) := HG7.out.kp k79
      have HY9 : Hid (GridIn w9 (fun i => w6.heap.size ≤ i ∧ i < w7.heap.size) gy K.reverse) := HY7.out.kp k79
      have HZ9 : Hid (w7.heap.size ≤ w9.heap.size ∧ w5.heap.size ≤ w6.heap.size ∧ w6.heap.size ≤ w7.heap.size ∧ w.heap.size ≤ w5.heap.size) := ⟨k79.size, HSz.out.2, HZ7.out, HSz.out.1⟩
      clear k9 k79 HK7 HK8 HX7 HG7 HY7 HEX HEK HZ7 HSz
      go_wp2_with fail
      go_loopw [13] (fun i wr => ∃ (q : Nat) (La : List Cc), q ≤ nl ∧ i = .int .i64 q ∧ GridIn wr (fun i => (w5.heap.size ≤ i ∧ i < w6.heap.size) ∨ w9.heap.size ≤ i) gx La ∧ Ok17 La ∧ Kp w9 wr (fun i => (w5.heap.size ≤ i ∧ i < w6.heap.size) ∨ w9.heap.size ≤ i)) (fun i _ => nl - (RowKit.intOf i).toNat)
      case atStart => exact ⟨0, _, Nat.zero_le _, rfl, HX9.out, HOK.out, Kp.refl _ _⟩
      case round =>
        clear HX9
        obtain ⟨q, La, hq, rfl, hgr, hor, hkr⟩ := hrel
        have HGR : Hid (GridIn wr (fun i => (w5.heap.size ≤ i ∧ i < w6.heap.size) ∨ w9.heap.size ≤ i) gx La) := hgr
        have HOR : Hid (Ok17 La) := hor
        have HKR : Hid (Kp w9 wr (fun i => (w5.heap.size ≤ i ∧ i < w6.heap.size) ∨ w9.heap.size ≤ i)) := hkr
        have HKW : Hid (Kp w wr Nul) := HK9.out.trans' hkr (fun i hi e => by have := HZ9.out; omega)
        clear hgr hor hkr
        by_cases hlt : q < nl
        · have hqt : q < xm.length := by rw [HNL.out.1]; exact hlt
          obtain ⟨b, o, rfl, hra⟩ := HLA.out (by have := HNL.out.1; omega)
          obtain ⟨⟨⟨⟨c, s'⟩, a⟩, sa⟩, hys⟩ : ∃ y, xm[q] = y := ⟨_, rfl⟩
          have hget : xm[q]? = some (((c, s'), a), sa) := by rw [List.getElem?_eq_getElem hqt, hys]
          have hr := hra q _ hget
          have HCN : Hid (Cn w a sa) := HLC.out _ (List.mem_of_getElem? hget)
          have HRG : Hid (∀ wq, Kp w wq Nul → wq.rangeAt b (o + q * 23) [.int .i64 c, .int .i64 s'] ∧ wq.rangeAt b (o + q * 23 + 2) (a.cells sa)) := fun wq k => pt_parts (rangeAt_kp hr k (fun x => x))
          have hq0 : (0 : Int) ≤ (q : Int) := by omega
          have hqn : (q : Int) < (nl : Int) := by omega
          have hkb : (q : Int) + 1 ≤ 9223372036854775807 := by have := HNL.out.2; omega
          have HPut : Hid (∀ wq, Kp wr wq Nul → Calls Tryz.prog 30 #[.pointer (some ⟨gx, 0, none⟩), .agg #[.int .i64 c, .int .i64 s'], .agg (a.cells sa).toArray] wq fun e w' => ∃ er L', e = .returned (.int .i64 er) ∧ GridIn w' (fun i => (w5.heap.size ≤ i ∧ i < w6.heap.size) ∨ w9.heap.size ≤ i) gx L' ∧ Ok17 L' ∧ Kp w9 w' (fun i => (w5.heap.size ≤ i ∧ i < w6.heap.size) ∨ w9.heap.size ≤ i)) := fun wq k => by
            have hk := HKW.out.trans k
            have hgq := HGR.out.kp k
            refine (put_all _ gx c s' a sa (fun _ => True) La wq hgq (fun i hi => .inr (by have := HKR.out.size; have := k.size; omega)) HOR.out HCN.out.ok HCN.out.vx (HCN.out.inn.kp hk (fun _ _ x => x)) (HV.out.kp hk)).mono ?_
            rintro e w' ⟨er, L', rfl, h1, h2, h3⟩
            exact ⟨er, L', rfl, h1, h2.ok, (HKR.out.trans k.of_nul).trans' h3.kp (fun i hi hs => grid_sm hgq hs)⟩
          clear hqt hys hget hr hra
          go_wp2_with fail
          refine wp_region_noPanic ?_
          refine wp_region_hel (fun w' : World => Kp w w' Nul) (by kernel_rfl) (HKW.out.drew) (fun hHeld => ?_)
          refine wpH_takes (i := 0) (v := ?_) (some 110) rfl rfl (by kernel_rfl) (by kernel_rfl) (by kernel_rfl) (fun _ _ _ h => h) (Or.inl ⟨by rfl, ?_⟩) hHeld ?_
          rotate_left
          · intro w' hSw; clear hSw; go_simp; try with_reducible rfl
          simp only [Act.put, List.setIfInBounds_toArray, List.set_cons_zero, List.set_cons_succ]
          refine wpH_takes (i := 1) (v := ?_) (some 111) rfl rfl (by kernel_rfl) (by kernel_rfl) (by kernel_rfl) (fun _ _ _ h => h) (Or.inl ⟨by rfl, ?_⟩) hHeld ?_
          rotate_left
          · intro w' hSw; clear hSw; go_simp; try with_reducible rfl
          simp only [Act.put, List.setIfInBounds_toArray, List.set_cons_zero, List.set_cons_succ]
          refine wpH_takes (i := 2) (v := ?_) (some 112) rfl rfl (by kernel_rfl) (by kernel_rfl) (by kernel_rfl) (fun _ _ _ h => h) (Or.inl ⟨by rfl, ?_⟩) hHeld ?_
          rotate_left
          · intro w' hSw; clear hSw; go_simp; try with_reducible rfl
          simp only [Act.put, List.setIfInBounds_toArray, List.set_cons_zero, List.set_cons_succ]
          refine wpH_takes (i := 3) (v := ?_) (some 113) rfl rfl (by kernel_rfl) (by kernel_rfl) (by kernel_rfl) (fun _ _ _ h => h) (Or.inl ⟨by rfl, ?_⟩) hHeld ?_
          rotate_left
          · intro w' hSw; clear hSw; go_simp; try with_reducible rfl
          simp only [Act.put, List.setIfInBounds_toArray, List.set_cons_zero, List.set_cons_succ]
          refine wpH_takes (i := 4) (v := ?_) (some 114) rfl rfl (by kernel_rfl) (by kernel_rfl) (by kernel_rfl) (fun _ _ _ h => h) (Or.inl ⟨by rfl, ?_⟩) hHeld ?_
          rotate_left
          · intro w' hSw; clear hSw; go_simp; try with_reducible rfl
          simp only [Act.put, List.setIfInBounds_toArray, List.set_cons_zero, List.set_cons_succ]
          refine wpH_takes (i := 5) (v := .agg ([.int .i64 c, .int .i64 s']).toArray) (some 115) rfl rfl (by kernel_rfl) (by kernel_rfl) (by kernel_rfl) (fun _ _ _ h => h) (Or.inl ⟨by rfl, fun w' hSw => exec_load_row 58 (.tmp 114) rfl b (o + q * 23) rfl ([.int .i64 c, .int .i64 s']) _ (HRG.out w' hSw).1 Tryz.underlying58 rfl infoAddr2⟩) hHeld ?_
          simp only [Act.put, List.setIfInBounds_toArray, List.set_cons_zero, List.set_cons_succ]
          refine wpH_takes (i := 6) (v := ?_) (some 116) rfl rfl (by kernel_rfl) (by kernel_rfl) (by kernel_rfl) (fun _ _ _ h => h) (Or.inl ⟨by rfl, ?_⟩) hHeld ?_
          rotate_left
          · intro w' hSw; clear hSw; go_simp; try with_reducible rfl
          simp only [Act.put, List.setIfInBounds_toArray, List.set_cons_zero, List.set_cons_succ]
          refine wpH_takes (i := 7) (v := ?_) (some 117) rfl rfl (by kernel_rfl) (by kernel_rfl) (by kernel_rfl) (fun _ _ _ h => h) (Or.inl ⟨by rfl, ?_⟩) hHeld ?_
          rotate_left
          · intro w' hSw; clear hSw; go_simp; try with_reducible rfl
          simp only [Act.put, List.setIfInBounds_toArray, List.set_cons_zero, List.set_cons_succ]
          refine wpH_takes (i := 8) (v := ?_) (some 118) rfl rfl (by kernel_rfl) (by kernel_rfl) (by kernel_rfl) (fun _ _ _ h => h) (Or.inl ⟨by rfl, ?_⟩) hHeld ?_
          rotate_left
          · intro w' hSw; clear hSw; go_simp; try with_reducible rfl
          simp only [Act.put, List.setIfInBounds_toArray, List.set_cons_zero, List.set_cons_succ]
          refine wpH_takes (i := 9) (v := ?_) (some 119) rfl rfl (by kernel_rfl) (by kernel_rfl) (by kernel_rfl) (fun _ _ _ h => h) (Or.inl ⟨by rfl, ?_⟩) hHeld ?_
          rotate_left
          · intro w' hSw; clear hSw; go_simp; try with_reducible rfl
          simp only [Act.put, List.setIfInBounds_toArray, List.set_cons_zero, List.set_cons_succ]
          refine wpH_takes (i := 10) (v := .agg (a.cells sa).toArray) (some 120) rfl rfl (by kernel_rfl) (by kernel_rfl) (by kernel_rfl) (fun _ _ _ h => h) (Or.inl ⟨by rfl, fun w' hSw => exec_load_row 67 (.tmp 119) rfl b (o + q * 23 + 2) rfl (a.cells sa) _ (HRG.out w' hSw).2 Tryz.underlying67 rfl infoContent⟩) hHeld ?_
          simp only [Act.put, List.setIfInBounds_toArray, List.set_cons_zero, List.set_cons_succ]
          refine wpH_step (i := 11) (by kernel_rfl) rfl rfl (fun K' hK => ?_)
          go_simp
          refine (HPut.out _ ((Kp.refl _ _).drew)).mono ?_
          rintro e wz ⟨er, L6, rfl, hg6, ho6, hk6⟩
          have HG6 : Hid (GridIn wz (fun i => (w5.heap.size ≤ i ∧ i < w6.heap.size) ∨ w9.heap.size ≤ i) gx L6 ∧ Ok17 L6 ∧ Kp w9 wz (fun i => (w5.heap.size ≤ i ∧ i < w6.heap.size) ∨ w9.heap.size ≤ i)) := ⟨hg6, ho6, hk6⟩
          refine hK.out _ _ (HK9.out.trans' hk6 (fun i hi e => by have := HZ9.out; omega)) (fun _ => ?_)
          clear hK K' hg6 ho6 hk6 hHeld HPut HRG HKR HGR HOR
          refine wpAnyH_done (by kernel_rfl) ?_ _
          refine NoPanic.normal ?_
          go_wp2_with fail
          go_roundw
          case rel => exact ⟨q + 1, L6, by omega, by go_num, HG6.out⟩
          case measure => simp only [RowKit.intOf]; omega
        · have hqe : q = nl := by omega
          subst hqe
          have hqn : ¬ ((q : Int) < (q : Int)) := by omega
          have HGE : Hid (GI 0 wr g L ∧ GI 0 wr gy K.reverse) := ⟨GridIn.mono (HG9.out.far HKR.out (fun i hi e => by have := HZ9.out; omega)) (fun _ _ => Nat.zero_le _), GridIn.mono (HY9.out.far HKR.out (fun i hi e => by have := HZ9.out; omega)) (fun _ _ => Nat.zero_le _)⟩
          have HPY : Hid (Calls Tryz.prog 11 #[.pointer (some ⟨gy, 0, none⟩)] wr fun e w' => e = .returned (.tuple #[.string ⟨(fileB K).toArray⟩, .int .i64 0]) ∧ Kp wr w' Nul) := by
            have := HPk.out gy K.reverse K wr HKW.out HGE.out.2 HOK.out HKK.out.1 (fun x => List.mem_reverse.symm) List.length_reverse.symm
            rw [HPS.out.1, HPS.out.2] at this
            exact this
          have HPG : Hid (∀ wq, Kp wr wq Nul → Calls Tryz.prog 11 #[.pointer (some ⟨g, 0, none⟩)] wq fun e w' => e = .returned (.tuple #[.string ⟨(fileB K).toArray⟩, .int .i64 0]) ∧ Kp wq w' Nul) := fun wq k => by
            have := HPk.out g L K wq (HKW.out.trans k) (HGE.out.1.kp k) HOL.out HKK.out.1 HKK.out.2.1 HKK.out.2.2
            rw [HPS.out.1, HPS.out.2] at this
            exact this
          clear HPk HUn HGR HOR HKR
          go_wp2_with fail
          refine HPY.out.mono ?_
          rintro e wa ⟨rfl, ka⟩
          have HKa : Hid (Kp wr wa Nul) := ka
          clear ka
          go_wp2_with fail
          refine (HPG.out wa HKa.out).mono ?_
          rintro e wb ⟨rfl, kb⟩
          have HKb : Hid (Kp w wb Nul) := (HKW.out.trans HKa.out).trans kb
          clear kb
          go_wp2_with fail
          refine (HKn.out wb HKb.out).mono ?_
          rintro e wc ⟨rfl, kc⟩
          have HKc : Hid (Kp w wc Nul) := HKb.out.trans kc
          clear kc
          go_wp2_with fail
          go_ret
          exact ⟨rfl, HKc.out⟩
    · subst e2
      go_wp2_with fail
      refine HKN.out.mono ?_
      rintro e w5 ⟨rfl, hk5⟩
      have HK5 : Hid (Kp w w5 Nul) := HK4.out.trans hk5
      clear hk5
      go_wp2_with fail
      go_ret
      exact ⟨rfl, HK5.out⟩
  · subst e1
    rcases HcJ.out with ⟨e2, lJ, sJe⟩ | e2
    · subst e2
      go_wp2_with fail
      refine HKN.out.mono ?_
      rintro e w5 ⟨rfl, hk5⟩
      have HK5 : Hid (Kp w w5 Nul) := HK4.out.trans hk5
      clear hk5
      go_wp2_with fail
      go_ret
      exact ⟨rfl, HK5.out⟩
    · subst e2
      go_wp2_with fail
      refine HKN.out.mono ?_
      rintro e w5 ⟨rfl, hk5⟩
      have HK5 : Hid (Kp w w5 Nul) := HK4.out.trans hk5
      clear hk5
      go_wp2_with fail
      go_ret
      exact ⟨rfl, HK5.out⟩
end Go.Proofs.YthgeojgfjpcelaaGreatDoor
