/- To, for a kind of 24 bits: the last digit's place is found; then the rounding. -/
import Derived.Test.YtnceajanlnnfoaaGreatDoorQmNu
import Derived.Deep.CutRange
import Derived.Deep.DeepCutAuto
namespace Go.Proofs.YtnceajanlnnfoaaGreatDoor
open Go.RowKit
set_option maxHeartbeats 16000000 in
set_option maxRecDepth 20000 in
theorem to24_far (neg : Bool) (num den : Value) (E mode sz L e0 E1 e1 q h : Int) (wh : Bool) (Q H : Int → Int) (Wh : Int → Bool) (w : World)
  (hsz0 : -3000 < sz) (hsz1 : sz < 3000) (he0 : Hid ((if (-149) < sz - 24 - 3 then sz - 24 - 3 else (-149)) = e0)) (hfar : 135 < e0) (hE1 : Hid (E1 = 135)) (he1 : Hid (e1 = 135)) (hb0 : -3000 < e1) (hb1 : e1 ≤ L) (hb2 : L < 3000) (hm0 : 1 ≤ mode) (hm1 : mode ≤ 6)
  (hh : Hid (h = -1 ∨ h = 0 ∨ h = 1)) (hQL : Hid (Q L = q)) (hHL : Hid (H L = h)) (hWL : Hid (Wh L = wh))
  (hSize : Hid (∀ w', Gr w w' → Calls Tryz.prog 153 #[.agg #[.bool neg, num, den, .int .i64 E, .bool false]] w' fun e w'' => e = .returned (.int .i64 sz) ∧ Gr w' w''))
  (hOf : Hid (∀ w', Calls Tryz.prog 100 #[.int .u64 16777215] w' fun e w'' => (∃ a m c, e = .returned (.slice a m c) ∧ NatAt w'' (.slice a m c) 16777215 ∧ ∀ x, a = some x → x.block = w'.heap.size) ∧ Gr w' w''))
  (hO1 : Hid (∀ w', Calls Tryz.prog 100 #[.int .u64 1] w' fun e w'' => (∃ a m c, e = .returned (.slice a m c) ∧ NatAt w'' (.slice a m c) 1 ∧ ∀ x, a = some x → x.block = w'.heap.size) ∧ Gr w' w''))
  (hBes : Hid (∀ nF dF e' w', e1 ≤ e' → e' ≤ L → NatAt w' nF 16777215 → NatAt w' dF 1 → Calls Tryz.prog 154 #[.agg #[.bool neg, nF, dF, .int .i64 E1, .bool false], .int .i64 e'] w' fun ee w'' => ee = .returned (.tuple #[.int .u64 (Q e'), .int .i64 (H e'), .bool (Wh e')]) ∧ Gr w' w''))
  (hQ0 : Hid (∀ e', e1 ≤ e' → e' ≤ L → 0 ≤ Q e' ∧ Q e' < 18446744073709551616)) (hQ1 : Hid (∀ e', e1 ≤ e' → e' < L → 16777216 ≤ Q e')) (hQ2 : Hid (Q L < 16777216)) :
  Calls Tryz.prog 99 #[.agg #[.bool neg, num, den, .int .i64 E, .bool false], .agg #[.int .i64 24, .int .i64 (-149), .int .i64 127], .int .i64 mode] w fun e w' => (∃ vF vG, e = .returned (.tuple #[vF, vG]) ∧ ToOut 24 127 16777216 8388608 neg mode q h wh L vF vG) ∧ Gr w w' := by
 obtain ⟨W0, hW0⟩ : ∃ W0, W0 = ((((w.alloc (.cells #[.bool neg, num, den, .int .i64 E, .bool false] 177)).alloc (.cells #[.int .i64 24, .int .i64 (-149), .int .i64 127] 179)).alloc (.cells #[.bool false, .bool false, .int .u64 0, .int .i64 0] 170)).alloc (.cells #[.bool false, .bool false, .bool false] 103)) := ⟨_, rfl⟩
 have G0 : Hid (Gr w W0) := by show Gr w W0; rw [hW0]; exact ((((Gr.refl w).alloc _ _).alloc _ _).alloc _ _).alloc _ _
 have V0 : Hid (Holds W0 w.heap.size [.bool neg, num, den, .int .i64 E, .bool false]) := by
  show Holds W0 _ _
  rw [hW0]
  exact (((holds_new w #[.bool neg, num, den, .int .i64 E, .bool false] _).gr ((Gr.refl _).alloc _ _)).gr ((Gr.refl _).alloc _ _)).gr ((Gr.refl _).alloc _ _)
 have K0 : Hid (Holds W0 (w.heap.size + 1) [.int .i64 24, .int .i64 (-149), .int .i64 127]) := by
  show Holds W0 _ _
  rw [hW0]
  have := holds_new (w.alloc (.cells #[.bool neg, num, den, .int .i64 E, .bool false] 177)) #[.int .i64 24, .int .i64 (-149), .int .i64 127] 179
  rw [show (w.alloc (.cells #[.bool neg, num, den, .int .i64 E, .bool false] 177)).heap.size = w.heap.size + 1 by show (w.heap.push _).size = _; simp] at this
  exact (this.gr ((Gr.refl _).alloc _ _)).gr ((Gr.refl _).alloc _ _)
 have F0 : Hid (Holds W0 (w.heap.size + 1 + 1) [.bool false, .bool false, .int .u64 0, .int .i64 0]) := by
  show Holds W0 _ _
  rw [hW0]
  have := holds_new ((w.alloc (.cells #[.bool neg, num, den, .int .i64 E, .bool false] 177)).alloc (.cells #[.int .i64 24, .int .i64 (-149), .int .i64 127] 179)) #[.bool false, .bool false, .int .u64 0, .int .i64 0] 170
  rw [show ((w.alloc (.cells #[.bool neg, num, den, .int .i64 E, .bool false] 177)).alloc (.cells #[.int .i64 24, .int .i64 (-149), .int .i64 127] 179)).heap.size = w.heap.size + 1 + 1 by show ((w.heap.push _).push _).size = _; simp] at this
  exact this.gr ((Gr.refl _).alloc _ _)
 have R0 : Hid (Holds W0 (w.heap.size + 1 + 1 + 1) [.bool false, .bool false, .bool false]) := by
  show Holds W0 _ _
  rw [hW0]
  have := holds_new (((w.alloc (.cells #[.bool neg, num, den, .int .i64 E, .bool false] 177)).alloc (.cells #[.int .i64 24, .int .i64 (-149), .int .i64 127] 179)).alloc (.cells #[.bool false, .bool false, .int .u64 0, .int .i64 0] 170)) #[.bool false, .bool false, .bool false] 103
  rwa [show (((w.alloc (.cells #[.bool neg, num, den, .int .i64 E, .bool false] 177)).alloc (.cells #[.int .i64 24, .int .i64 (-149), .int .i64 127] 179)).alloc (.cells #[.bool false, .bool false, .int .u64 0, .int .i64 0] 170)).heap.size = w.heap.size + 1 + 1 + 1 by show (((w.heap.push _).push _).push _).size = _; simp] at this
 go_enter Tryz.func99, Tryz.ntmps99
 go_upto_region 1 with fail
 rw [← hW0]
 clear hW0
 go_cut [8] (fun s wx => s = .int .i64 e0 ∧ Gr W0 wx)
 case first =>
  as_aux_lemma =>
  obtain ⟨a0, a1, a2, a3, a4, b0, b1⟩ : W0.cell? ⟨w.heap.size, 0, none⟩ = some (.bool neg) ∧ W0.cell? ⟨w.heap.size, 1, none⟩ = some num ∧ W0.cell? ⟨w.heap.size, 2, none⟩ = some den ∧ W0.cell? ⟨w.heap.size, 3, none⟩ = some (.int .i64 E) ∧ W0.cell? ⟨w.heap.size, 4, none⟩ = some (.bool false) ∧ W0.cell? ⟨w.heap.size + 1, 0, none⟩ = some (.int .i64 24) ∧ W0.cell? ⟨w.heap.size + 1, 1, none⟩ = some (.int .i64 (-149)) := ⟨V0.out.c0.1, V0.out.c1.1, V0.out.c2.1, V0.out.c3.1, V0.out.c4.1, K0.out.c0.1, K0.out.c1.1⟩
  have hwr : Hid (IntKind.i64.wrap (IntKind.i64.wrap (sz - 24) - 3) = sz - 24 - 3) := by show _ = _; rw [IntKind.wrap_i64, IntKind.wrap_i64]; omega
  go_region_with (go_at_call 153; refine (hSize.out _ (by first | exact G0.out | exact G0.out.drew)).mono ?_; rintro e w' ⟨rfl, hg⟩; have hg' : Hid (Gr W0 w') := Gr.trans (by first | exact Gr.refl _ | exact (Gr.refl _).drew) hg; have k0 := (K0.out.gr hg'.out).c0.1; have k1 := (K0.out.gr hg'.out).c1.1; clear hg)
  all_goals
   go_wp2
   all_goals
    go_meet
    case rel => exact ⟨by rw [← he0.out, ← hwr.out]; first | rw [if_pos (by omega)] | rw [if_neg (by omega)], by first | exact hg'.out | exact hg'.out.drew⟩
 case rest =>
  as_aux_lemma =>
  obtain ⟨hs, hg⟩ := hcut
  have GC : Hid (Gr W0 wc) := hg
  have hs' := hs.symm
  subst hs'
  clear hg hs
  have GCC : Hid (Gr W0 wc) := GC
  have a0 := (V0.out.gr GC.out).c0.1
  have b0 := (K0.out.gr GC.out).c0.1
  have b2 := (K0.out.gr GC.out).c2.1
  go_upto_region 4 with fail
  go_cut [8] (fun s wx => s = .int .i64 e1 ∧ ∃ nF dF, NatAt wx nF 16777215 ∧ NatAt wx dF 1 ∧ Holds wx w.heap.size [.bool neg, nF, dF, .int .i64 E1, .bool false] ∧ Holds wx (w.heap.size + 1) [.int .i64 24, .int .i64 (-149), .int .i64 127] ∧ Holds wx (w.heap.size + 1 + 1) [.bool false, .bool false, .int .u64 0, .int .i64 0] ∧ Holds wx (w.heap.size + 1 + 1 + 1) [.bool false, .bool false, .bool false] ∧ Gr w wx)
  case first =>
   as_aux_lemma =>
   have hOfw : Hid (∀ w', Calls Tryz.prog 100 #[.int .u64 (IntKind.u64.wrap (IntKind.u64.wrap 16777216 - 1))] w' fun e w'' => (∃ a m c, e = .returned (.slice a m c) ∧ NatAt w'' (.slice a m c) 16777215 ∧ ∀ x, a = some x → x.block = w'.heap.size) ∧ Gr w' w'') := hOf
   have HS0 : Hid (w.heap.size < wc.heap.size) := Nat.lt_of_lt_of_le (cell_lt V0.out.c0.1) GC.out.ext.size
   have a1 := (V0.out.gr GC.out).c1.1
   have a2 := (V0.out.gr GC.out).c2.1
   have a3 := (V0.out.gr GC.out).c3.1
   have a4 := (V0.out.gr GC.out).c4.1
   go_region_with (first
    | (go_at_call 100; refine (hOfw.out _).mono ?_; rintro e wN ⟨⟨aN, nN, cN, rfl, hn, hf⟩, hg⟩; have HN : Hid (NatAt wN (.slice aN nN cN) 16777215) := hn; have HFN : Hid (∀ x, aN = some x → x.block ≠ w.heap.size) := (by intro x hx; have h1 := hf x hx; have h2 := HS0.out; first | (have h3 : wc.heap.size ≤ x.block := (by rw [h1]; exact Nat.le_refl _); omega) | (have h4 := HGD.out.ext.size; rw [h1]; change wc.heap.size ≤ _ at h4; exact Nat.ne_of_gt (Nat.lt_of_lt_of_le h2 h4))); have HGN : Hid (Gr _ wN) := hg; have GN : Hid (Gr wc wN) := (by first | exact Gr.trans (Gr.refl wc).drew hg | exact hg | exact Gr.trans GD.out hg); have GX : Hid (Gr W0 wN) := GC.out.trans GN.out; clear hn hg hf; have v0 := (V0.out.gr GX.out).c0.1; have k0 := (K0.out.gr GX.out).c0.1; obtain ⟨x0, y0⟩ := (V0.out.gr GX.out).c0; obtain ⟨x1, y1⟩ := (V0.out.gr GX.out).c1; obtain ⟨x2, y2⟩ := (V0.out.gr GX.out).c2; obtain ⟨x3, y3⟩ := (V0.out.gr GX.out).c3; obtain ⟨x4, y4⟩ := (V0.out.gr GX.out).c4; clear GX)
    | (go_at_call_of 100 (Value.int IntKind.u64 1); refine (hO1.out _).mono ?_; rintro e wD ⟨⟨aD, nD, cD, rfl, hd, hf⟩, hg⟩; have HD : Hid (NatAt wD (.slice aD nD cD) 1) := hd; have HGD : Hid (Gr _ wD) := hg; have GD : Hid (Gr wc wD) := (by first | exact Gr.trans (Gr.refl wc).drew hg | exact Gr.trans GN.out hg | exact hg); have HFD : Hid (∀ x, aD = some x → x.block ≠ w.heap.size) := (by intro x hx; have h1 := hf x hx; have h2 := HS0.out; have h4 := GN.out.ext.size; rw [h1]; exact Nat.ne_of_gt (Nat.lt_of_lt_of_le h2 h4)); have GX : Hid (Gr W0 wD) := GC.out.trans GD.out; clear hd hg hf; have v0 := (V0.out.gr GX.out).c0.1; have k0 := (K0.out.gr GX.out).c0.1; obtain ⟨x0, y0⟩ := (V0.out.gr GX.out).c0; obtain ⟨x1, y1⟩ := (V0.out.gr GX.out).c1; obtain ⟨x2, y2⟩ := (V0.out.gr GX.out).c2; obtain ⟨x3, y3⟩ := (V0.out.gr GX.out).c3; obtain ⟨x4, y4⟩ := (V0.out.gr GX.out).c4))
   all_goals
    go_wp2
    go_meet
    case rel =>
     rw [he1.out]
     have hN := HN.out.gr HGD.out
     have hD := HD.out
     have GG := G0.out.trans GX.out
     have V := V0.out.gr GX.out
     have K := K0.out.gr GX.out
     have F := F0.out.gr GX.out
     have R := R0.out.gr GX.out
     have hS : w.heap.size ≤ w.heap.size := Nat.le_refl _
     refine ⟨rfl, .slice aN nN cN, .slice aD nD cD, ?_, ?_, ?_, ?_, ?_, ?_, ?_⟩
     ·first
       | exact (((((hN.put _ 0 _ HFN.out).put _ 1 _ HFN.out).put _ 2 _ HFN.out).put _ 3 _ HFN.out).put _ 4 _ HFN.out)
       | exact (((((hN.put _ 0 _ HFN.out).put _ 1 _ HFN.out).put _ 2 _ HFN.out).put _ 3 _ HFN.out).put _ 4 _ HFN.out).drew
     ·first
       | exact (((((hD.put _ 0 _ HFD.out).put _ 1 _ HFD.out).put _ 2 _ HFD.out).put _ 3 _ HFD.out).put _ 4 _ HFD.out)
       | exact (((((hD.put _ 0 _ HFD.out).put _ 1 _ HFD.out).put _ 2 _ HFD.out).put _ 3 _ HFD.out).put _ 4 _ HFD.out).drew
     ·rw [hE1.out]
      first
       | exact (((((V.set 0 _ (by simp)).set 1 _ (by simp)).set 2 _ (by simp)).set 3 _ (by simp)).set 4 _ (by simp))
       | exact (((((V.set 0 _ (by simp)).set 1 _ (by simp)).set 2 _ (by simp)).set 3 _ (by simp)).set 4 _ (by simp)).drew
     ·first
       | exact (((((K.oth _ _ _ (by omega)).oth _ _ _ (by omega)).oth _ _ _ (by omega)).oth _ _ _ (by omega)).oth _ _ _ (by omega))
       | exact (((((K.oth _ _ _ (by omega)).oth _ _ _ (by omega)).oth _ _ _ (by omega)).oth _ _ _ (by omega)).oth _ _ _ (by omega)).drew
     ·first
       | exact (((((F.oth _ _ _ (by omega)).oth _ _ _ (by omega)).oth _ _ _ (by omega)).oth _ _ _ (by omega)).oth _ _ _ (by omega))
       | exact (((((F.oth _ _ _ (by omega)).oth _ _ _ (by omega)).oth _ _ _ (by omega)).oth _ _ _ (by omega)).oth _ _ _ (by omega)).drew
     ·first
       | exact (((((R.oth _ _ _ (by omega)).oth _ _ _ (by omega)).oth _ _ _ (by omega)).oth _ _ _ (by omega)).oth _ _ _ (by omega))
       | exact (((((R.oth _ _ _ (by omega)).oth _ _ _ (by omega)).oth _ _ _ (by omega)).oth _ _ _ (by omega)).oth _ _ _ (by omega)).drew
     ·first
       | exact (((((GG.setCell _ _ hS).setCell _ _ hS).setCell _ _ hS).setCell _ _ hS).setCell _ _ hS)
       | exact (((((GG.setCell _ _ hS).setCell _ _ hS).setCell _ _ hS).setCell _ _ hS).setCell _ _ hS).drew
  case rest =>
   as_aux_lemma =>
   clear a0 b0 b2 GCC GC V0 K0 F0 R0 G0
   obtain ⟨hs, nF, dF, HNF, HDF, V1, K1, F1, R1, G1⟩ := hcut
   have hs' := hs.symm
   subst hs'
   clear hs
   obtain ⟨W1, GC, HB1, V0, K0, F0, R0, G0⟩ : ∃ W1, Hid (Gr W1 wc) ∧ Hid (NatAt W1 nF 16777215 ∧ NatAt W1 dF 1) ∧ Hid (Holds W1 w.heap.size [.bool neg, nF, dF, .int .i64 E1, .bool false]) ∧ Hid (Holds W1 (w.heap.size + 1) [.int .i64 24, .int .i64 (-149), .int .i64 127]) ∧ Hid (Holds W1 (w.heap.size + 1 + 1) [.bool false, .bool false, .int .u64 0, .int .i64 0]) ∧ Hid (Holds W1 (w.heap.size + 1 + 1 + 1) [.bool false, .bool false, .bool false]) ∧ Hid (Gr w W1) := ⟨wc, Gr.refl wc, ⟨HNF, HDF⟩, V1, K1, F1, R1, G1⟩
   clear HNF HDF V1 K1 F1 R1 G1
   have hBeside : Hid (∀ e' w', e1 ≤ e' → e' ≤ L → Gr W1 w' → Calls Tryz.prog 154 #[.agg #[.bool neg, nF, dF, .int .i64 E1, .bool false], .int .i64 e'] w' fun ee w'' => ee = .returned (.tuple #[.int .u64 (Q e'), .int .i64 (H e'), .bool (Wh e')]) ∧ Gr w' w'') := fun e' w' h1 h2 g => hBes.out nF dF e' w' h1 h2 (HB1.out.1.gr g) (HB1.out.2.gr g)
   clear HB1 hBes hOf hO1 he1 hE1
   have a0 := (V0.out.gr GC.out).c0.1
   have a1 := (V0.out.gr GC.out).c1.1
   have a2 := (V0.out.gr GC.out).c2.1
   have a3 := (V0.out.gr GC.out).c3.1
   have a4 := (V0.out.gr GC.out).c4.1
   have b2 := (K0.out.gr GC.out).c2.1
   go_wp2_with fail
   refine (hBeside.out e1 wc (Int.le_refl _) hb1 GC.out).mono ?_
   rintro e w1 ⟨rfl, hg⟩
   have G1 : Hid (Gr W1 w1) := GC.out.trans hg
   clear a0 a1 a2 a3 a4 b2 hg
   go_wp2
   go_loopw [8, 9, 10, 11] (fun s8 s9 s10 s11 wr => ∃ e' : Int, e1 ≤ e' ∧ e' ≤ L ∧ s8 = .int .i64 e' ∧ s9 = .int .u64 (Q e') ∧ s10 = .int .i64 (H e') ∧ s11 = .bool (Wh e') ∧ Gr W1 wr) (fun s8 _ _ _ _ => (L - intOf s8).toNat)
   case atStart => exact ⟨e1, Int.le_refl _, hb1, rfl, rfl, rfl, rfl, G1.out⟩
   case round =>
    as_aux_lemma =>
    obtain ⟨e', h1, h2, rfl, rfl, rfl, rfl, hg⟩ := hrel
    have GR : Hid (Gr W1 wr) := hg
    clear hg
    have a0 := (V0.out.gr GR.out).c0.1
    have a1 := (V0.out.gr GR.out).c1.1
    have a2 := (V0.out.gr GR.out).c2.1
    have a3 := (V0.out.gr GR.out).c3.1
    have a4 := (V0.out.gr GR.out).c4.1
    have b0 := (K0.out.gr GR.out).c0.1
    have b2 := (K0.out.gr GR.out).c2.1
    obtain ⟨q0, q1⟩ := hQ0.out e' h1 h2
    by_cases hl : e' < L
    ·have q3 := hQ1.out e' h1 hl
     have HB : Hid (∀ w', Gr W1 w' → Calls Tryz.prog 154 #[.agg #[.bool neg, nF, dF, .int .i64 E1, .bool false], .int .i64 (e' + 1)] w' fun ee w'' => ee = .returned (.tuple #[.int .u64 (Q (e' + 1)), .int .i64 (H (e' + 1)), .bool (Wh (e' + 1))]) ∧ Gr w' w'') := fun w' g => hBeside.out (e' + 1) w' (by omega) (by omega) g
     generalize Q e' = qe at *
     go_wp2_with fail
     refine (HB.out wr GR.out).mono ?_
     rintro e w2 ⟨rfl, hg2⟩
     have G2 : Hid (Gr W1 w2) := GR.out.trans hg2
     clear hg2 a0 a1 a2 a3 a4 b0 b2
     go_wp2
     go_roundw
     case rel => exact ⟨e' + 1, by omega, by omega, by go_num, rfl, rfl, rfl, G2.out⟩
     case measure => simp only [intOf]; omega
    ·have hL : e' = L := by omega
     subst hL
     have q3 := hQ2.out
     generalize Q e' = q' at *
     generalize H e' = h' at *
     generalize Wh e' = wh' at *
     have hQL' : q = q' := hQL.out.symm
     have hHL' : h = h' := hHL.out.symm
     have hWL' : wh = wh' := hWL.out.symm
     clear hQL hHL hWL
     subst hQL' hHL' hWL'
     clear hQ1 hBeside hSize hQ0 hQ2
     have HBIG : Hid (w.heap.size + 1 + 1 + 1 < wr.heap.size) := Nat.lt_of_lt_of_le (cell_lt R0.out.c0.1) GR.out.ext.size
     have GA : Hid (∀ c t, Gr W1 (wr.alloc (.cells c t))) := fun c t => GR.out.alloc c t
     have A1 : ∀ c t, (wr.alloc (.cells c t)).cell? ⟨w.heap.size, 0, none⟩ = some (.bool neg) := fun c t => (V0.out.gr (GA.out c t)).c0.1
     have B1 : ∀ c t, (wr.alloc (.cells c t)).cell? ⟨w.heap.size + 1, 0, none⟩ = some (.int .i64 24) := fun c t => (K0.out.gr (GA.out c t)).c0.1
     clear a0 a1 a2 a3 a4 b2
     go_upto_region 10 with fail
     go_cut [9] (fun s wx => s = .int .u64 q ∧ wx = wr.alloc (.cells #[.bool (!wh), .bool false, .bool (!wh && decide (q < 8388608))] 103))
     case first =>
      as_aux_lemma =>
      cases wh
      ·go_wp2
       go_meet
       case rel => exact ⟨rfl, by simp only [Bool.not_false, Bool.true_and]⟩
      ·go_wp2
       go_meet
       case rel => exact ⟨rfl, by simp only [Bool.not_true, Bool.false_and]⟩
     case rest =>
      as_aux_lemma =>
      obtain ⟨hs, rfl⟩ := hcut
      have hs' := hs.symm
      subst hs'
      clear hs
      go_upto_region 11 with fail
      generalize hfl : (#[.bool (!wh), .bool false, .bool (!wh && decide (q < 8388608))] : Array Value) = fl at *
      go_cut [87] (fun s wx => s = .bool (rndU mode neg q h wh) ∧ wx = wr.alloc (.cells fl 103))
      case first =>
       as_aux_lemma =>
       have HUP : Hid (∀ w, Calls Tryz.prog 155 #[.int .i64 mode, .bool neg, .bool (q % 2 == 1), .int .i64 h] w fun e w' => e = .returned (.bool (awy mode neg (q % 2 == 1) h)) ∧ w' = w) := fun w => up_any mode neg (q % 2 == 1) h hh.out w
       have HRU : Hid (rndU mode neg q h wh = (!wh && awy mode neg (q % 2 == 1) h)) := rfl
       generalize rndU mode neg q h wh = ru at *
       generalize awy mode neg (q % 2 == 1) h = au at *
       cases wh
       ·have hru : ru = au := HRU.out
        subst hru
        go_wp2_with (go_at_call 155; refine (HUP.out _).mono ?_; rintro e w' ⟨rfl, rfl⟩)
        go_meet
        case rel => exact ⟨rfl, rfl⟩
       ·have hru : ru = false := HRU.out
        subst hru
        go_wp2
        go_meet
        case rel => exact ⟨rfl, rfl⟩
      case rest =>
       as_aux_lemma =>
       obtain ⟨hs, rfl⟩ := hcut
       have hs' := hs.symm
       subst hs'
       clear hs
       have HQ1 : Hid (∃ q1, q1 = if rndU mode neg q h wh = true then q + 1 else q) := ⟨_, rfl⟩
       obtain ⟨q1', hq1⟩ := HQ1.out
       have hq1b : 0 ≤ q1' ∧ q1' ≤ 16777216 := by rw [hq1]; split <;> omega
       have HQ1' : Hid (q1' = if rndU mode neg q h wh = true then q + 1 else q) := hq1
       generalize hrue : rndU mode neg q h wh = ru at *
       have HRUE : Hid (rndU mode neg q h wh = ru) := hrue
       clear HQ1 hrue
       go_upto_if 87 with fail
       go_cut [9] (fun s wx => s = .int .u64 q1' ∧ wx = wr.alloc (.cells fl 103))
       case first =>
        as_aux_lemma =>
        cases ru
        ·have hq : q1' = q := hq1
         clear hq1
         subst hq
         go_wp2
         go_meet
         case rel => exact ⟨rfl, rfl⟩
        ·have hq : q1' = q + 1 := hq1
         clear hq1
         subst hq
         go_wp2
         go_meet
         case rel => exact ⟨by go_num, rfl⟩
       case rest =>
        as_aux_lemma =>
        obtain ⟨hs, rfl⟩ := hcut
        have hs' := hs.symm
        subst hs'
        clear hs hq1
        obtain ⟨q2, e2, hqe⟩ : ∃ q2 e2 : Int, (q1' = 16777216 ∧ q2 = 8388608 ∧ e2 = e' + 1) ∨ (q1' ≠ 16777216 ∧ q2 = q1' ∧ e2 = e') := by
         by_cases h : q1' = 16777216
         ·exact ⟨_, _, Or.inl ⟨h, rfl, rfl⟩⟩
         ·exact ⟨_, _, Or.inr ⟨h, rfl, rfl⟩⟩
        have HQE : Hid ((q1' = 16777216 ∧ q2 = 8388608 ∧ e2 = e' + 1) ∨ (q1' ≠ 16777216 ∧ q2 = q1' ∧ e2 = e')) := hqe
        clear hqe
        go_upto_if 94 with fail
        go_cut [8, 9] (fun s r wx => s = .int .i64 e2 ∧ r = .int .u64 q2 ∧ wx = wr.alloc (.cells fl 103))
        case first =>
         as_aux_lemma =>
         rcases HQE.out with ⟨rfl, rfl, rfl⟩ | ⟨hz, rfl, rfl⟩
         ·go_wp2
          go_meet
          case rel => exact ⟨by go_num, by go_num, rfl⟩
         ·have hz' : (q2 == 16777216) = false := by rw [beq_eq_false_iff_ne]; exact hz
          go_wp2
          go_meet
          case rel => exact ⟨rfl, rfl, rfl⟩
        case rest =>
         as_aux_lemma =>
         obtain ⟨hs, hr, rfl⟩ := hcut
         have hs' := hs.symm
         have hr' := hr.symm
         subst hs' hr'
         clear hs hr
         have hq2b : 0 ≤ q2 ∧ q2 < 16777216 ∧ -3000 < e2 ∧ e2 < 3001 := by rcases HQE.out with ⟨_, rfl, rfl⟩ | ⟨hz, rfl, rfl⟩ <;> omega
         obtain ⟨q20, q21, e20, e21⟩ := hq2b
         go_upto_region 17 with fail
         obtain ⟨nw, hnw⟩ : ∃ nw, nw = !wh := ⟨_, rfl⟩
         obtain ⟨ud, hud⟩ : ∃ ud, ud = (!wh && decide (q < 8388608)) := ⟨_, rfl⟩
         rw [← hud, ← hnw] at hfl
         have HNW : Hid (nw = !wh) := hnw
         have HUD : Hid (ud = (!wh && decide (q < 8388608))) := hud
         clear hnw hud
         subst hfl
         have Y1 := holds_new wr #[.bool nw, .bool false, .bool ud] 103
         have X2 := holds_new (wr.alloc (.cells #[.bool nw, .bool false, .bool ud] 103)) #[.bool neg, .bool false, .int .u64 q2, .int .i64 e2] 170
         rw [show (wr.alloc (.cells #[.bool nw, .bool false, .bool ud] 103)).heap.size = wr.heap.size + 1 by show (wr.heap.push _).size = _; simp] at X2
         have GRW : Gr W1 ((wr.alloc (.cells #[.bool nw, .bool false, .bool ud] 103)).alloc (.cells #[.bool neg, .bool false, .int .u64 q2, .int .i64 e2] 170)) := (GR.out.alloc _ _).alloc _ _
         have X1 := Y1.gr ((Gr.refl _).alloc #[.bool neg, .bool false, .int .u64 q2, .int .i64 e2] 170)
         have X3 := F0.out.gr GRW
         have X4 := R0.out.gr GRW
         have XV := V0.out.gr GRW
         have XK := K0.out.gr GRW
         have GW := G0.out.trans GRW
         have hbig : w.heap.size + 1 + 1 + 1 < wr.heap.size := HBIG.out
         have hS : w.heap.size ≤ w.heap.size := Nat.le_refl _
         clear A1 B1 b0 Y1 GRW
         clear GA HBIG GR G1 GC G0 V0 K0 F0 R0
         generalize (wr.alloc (.cells #[.bool nw, .bool false, .bool ud] 103)).alloc (.cells #[.bool neg, .bool false, .int .u64 q2, .int .i64 e2] 170) = W at *
         generalize hSS : w.heap.size = S at *
         have HS : Hid (w.heap.size = S) := hSS
         clear hSS hS
         generalize wr.heap.size = R at *
         obtain ⟨r, rfl⟩ : ∃ r, R = S + 1 + 1 + 1 + 1 + r := ⟨R - (S + 4), by omega⟩
         obtain ⟨x10, y10⟩ := X1.c0
         obtain ⟨x11, y11⟩ := X1.c1
         obtain ⟨x12, y12⟩ := X1.c2
         obtain ⟨x20, y20⟩ := X2.c0
         obtain ⟨x21, y21⟩ := X2.c1
         obtain ⟨x22, y22⟩ := X2.c2
         obtain ⟨x23, y23⟩ := X2.c3
         obtain ⟨x30, y30⟩ := X3.c0
         obtain ⟨x31, y31⟩ := X3.c1
         obtain ⟨x32, y32⟩ := X3.c2
         obtain ⟨x33, y33⟩ := X3.c3
         obtain ⟨x40, y40⟩ := X4.c0
         obtain ⟨x41, y41⟩ := X4.c1
         obtain ⟨x42, y42⟩ := X4.c2
         have v0 := XV.c0.1
         have k0 := XK.c0.1
         have k2 := XK.c2.1
         have GW' : Hid (Gr w W) := GW
         have X1 : Hid (Holds W (S + 1 + 1 + 1 + 1 + r) [.bool nw, .bool false, .bool ud]) := X1
         have X2 : Hid (Holds W (S + 1 + 1 + 1 + 1 + r + 1) [.bool neg, .bool false, .int .u64 q2, .int .i64 e2]) := X2
         have X3 : Hid (Holds W (S + 1 + 1) [.bool false, .bool false, .int .u64 0, .int .i64 0]) := X3
         have X4 : Hid (Holds W (S + 1 + 1 + 1) [.bool false, .bool false, .bool false]) := X4
         have XV : Hid (Holds W S [.bool neg, nF, dF, .int .i64 E1, .bool false]) := XV
         have XK : Hid (Holds W (S + 1) [.int .i64 24, .int .i64 (-149), .int .i64 127]) := XK
         clear GW hbig
         have HOUT : Hid (∀ vF vG, ((127 < e2 + 24 - 1 ∧ 8388608 ≤ q2 ∧ vG = .agg #[.bool true, .bool true, .bool ud] ∧ vF = (if Rn.far mode neg = true then .agg #[.bool neg, .bool true, .int .u64 0, .int .i64 0] else .agg #[.bool neg, .bool false, .int .u64 16777215, .int .i64 104])) ∨
           (¬ (127 < e2 + 24 - 1 ∧ 8388608 ≤ q2) ∧ vG = .agg #[.bool nw, .bool false, .bool ud] ∧ vF = .agg #[.bool neg, .bool false, .int .u64 q2, .int .i64 e2])) → ∃ vF' vG', Ending.returned (.tuple #[vF, vG]) = .returned (.tuple #[vF', vG']) ∧ ToOut 24 127 16777216 8388608 neg mode q h wh e' vF' vG') := by
          intro vF vG hv
          refine ⟨vF, vG, rfl, q1', q2, e2, by rw [HRUE.out]; exact HQ1'.out, HQE.out, ?_⟩
          rw [← HUD.out, ← HNW.out]
          exact hv
         clear HQ1' HQE HNW HUD HRUE
         have hov : Hid (∃ ov, ov = decide (127 < e2 + 24 - 1 ∧ 8388608 ≤ q2)) := ⟨_, rfl⟩
         obtain ⟨ov, hove⟩ := hov.out
         clear hov
         go_cut [119] (fun s wx => s = .bool ov ∧ wx = W)
         case first =>
          as_aux_lemma =>
          by_cases c1 : 127 < e2 + 24 - 1
          ·by_cases c2 : 8388608 ≤ q2
           ·have : ov = true := by rw [hove]; exact decide_eq_true ⟨c1, c2⟩
            subst this
            clear hove
            go_wp2
            go_meet
            case rel => exact ⟨rfl, rfl⟩
           ·have : ov = false := by rw [hove]; exact decide_eq_false (fun c => c2 c.2)
            subst this
            clear hove
            go_wp2
            go_meet
            case rel => exact ⟨rfl, rfl⟩
          ·have : ov = false := by rw [hove]; exact decide_eq_false (fun c => c1 c.1)
           subst this
           clear hove
           go_wp2
           go_meet
           case rel => exact ⟨rfl, rfl⟩
         case rest =>
          as_aux_lemma =>
          obtain ⟨hs, hw⟩ := hcut
          have hw' := hw.symm
          have hs' := hs.symm
          subst hs' hw'
          have HOV : Hid (ov = decide (127 < e2 + 24 - 1 ∧ 8388608 ≤ q2)) := hove
          clear hs hove hw
          go_upto_if 119 with fail
          go_cut [9] (fun s wx => s = .int .u64 q2 ∧ ∃ (a b c f0 f1 : Bool) (f2 f3 : Int), Holds wx (S + 1 + 1 + 1 + 1 + r) [.bool a, .bool b, .bool c] ∧ Holds wx (S + 1 + 1 + 1 + 1 + r + 1) [.bool f0, .bool f1, .int .u64 f2, .int .i64 f3] ∧ Holds wx (S + 1 + 1) [.bool false, .bool false, .int .u64 0, .int .i64 0] ∧ Holds wx (S + 1 + 1 + 1) [.bool false, .bool false, .bool false] ∧ Gr w wx ∧
            ∃ vF' vG', Ending.returned (.tuple #[.agg #[.bool f0, .bool f1, .int .u64 f2, .int .i64 f3], .agg #[.bool a, .bool b, .bool c]]) = .returned (.tuple #[vF', vG']) ∧ ToOut 24 127 16777216 8388608 neg mode q h wh e' vF' vG')
          case first =>
           as_aux_lemma =>
           cases ov
           ·have HO0 : ¬ (127 < e2 + 24 - 1 ∧ 8388608 ≤ q2) := of_decide_eq_false HOV.out.symm
            have HO : Hid (¬ (127 < e2 + 24 - 1 ∧ 8388608 ≤ q2)) := HO0
            clear HO0
            clear HOV
            go_wp2
            go_meet
            case rel => exact ⟨rfl, _, _, _, _, _, _, _, X1.out, X2.out, X3.out, X4.out, GW'.out, HOUT.out _ _ (Or.inr ⟨HO.out, rfl, rfl⟩)⟩
           ·have HO0 : 127 < e2 + 24 - 1 ∧ 8388608 ≤ q2 := of_decide_eq_true HOV.out.symm
            have HO : Hid (127 < e2 + 24 - 1 ∧ 8388608 ≤ q2) := HO0
            clear HO0
            clear HOV
            go_upto_region 21 with fail
            have YY : Holds ((((((W.setCell ⟨S + 1 + 1 + 1 + 1 + r, 1, none⟩ (.bool true)).setCell ⟨S + 1 + 1 + 1 + 1 + r, 0, none⟩ (.bool true)).setCell ⟨S + 1 + 1 + 1 + 1 + r + 1, 0, none⟩ (.bool neg)).setCell ⟨S + 1 + 1 + 1 + 1 + r + 1, 1, none⟩ (.bool true)).setCell ⟨S + 1 + 1 + 1 + 1 + r + 1, 2, none⟩ (.int .u64 0)).setCell ⟨S + 1 + 1 + 1 + 1 + r + 1, 3, none⟩ (.int .i64 0)) (S + 1 + 1 + 1 + 1 + r) [.bool true, .bool true, .bool ud] ∧ Holds ((((((W.setCell ⟨S + 1 + 1 + 1 + 1 + r, 1, none⟩ (.bool true)).setCell ⟨S + 1 + 1 + 1 + 1 + r, 0, none⟩ (.bool true)).setCell ⟨S + 1 + 1 + 1 + 1 + r + 1, 0, none⟩ (.bool neg)).setCell ⟨S + 1 + 1 + 1 + 1 + r + 1, 1, none⟩ (.bool true)).setCell ⟨S + 1 + 1 + 1 + 1 + r + 1, 2, none⟩ (.int .u64 0)).setCell ⟨S + 1 + 1 + 1 + 1 + r + 1, 3, none⟩ (.int .i64 0)) (S + 1 + 1 + 1 + 1 + r + 1) [.bool neg, .bool true, .int .u64 0, .int .i64 0] ∧ Holds ((((((W.setCell ⟨S + 1 + 1 + 1 + 1 + r, 1, none⟩ (.bool true)).setCell ⟨S + 1 + 1 + 1 + 1 + r, 0, none⟩ (.bool true)).setCell ⟨S + 1 + 1 + 1 + 1 + r + 1, 0, none⟩ (.bool neg)).setCell ⟨S + 1 + 1 + 1 + 1 + r + 1, 1, none⟩ (.bool true)).setCell ⟨S + 1 + 1 + 1 + 1 + r + 1, 2, none⟩ (.int .u64 0)).setCell ⟨S + 1 + 1 + 1 + 1 + r + 1, 3, none⟩ (.int .i64 0)) (S + 1 + 1) [.bool false, .bool false, .int .u64 0, .int .i64 0] ∧ Holds ((((((W.setCell ⟨S + 1 + 1 + 1 + 1 + r, 1, none⟩ (.bool true)).setCell ⟨S + 1 + 1 + 1 + 1 + r, 0, none⟩ (.bool true)).setCell ⟨S + 1 + 1 + 1 + 1 + r + 1, 0, none⟩ (.bool neg)).setCell ⟨S + 1 + 1 + 1 + 1 + r + 1, 1, none⟩ (.bool true)).setCell ⟨S + 1 + 1 + 1 + 1 + r + 1, 2, none⟩ (.int .u64 0)).setCell ⟨S + 1 + 1 + 1 + 1 + r + 1, 3, none⟩ (.int .i64 0)) (S + 1 + 1 + 1) [.bool false, .bool false, .bool false] ∧ Gr w ((((((W.setCell ⟨S + 1 + 1 + 1 + 1 + r, 1, none⟩ (.bool true)).setCell ⟨S + 1 + 1 + 1 + 1 + r, 0, none⟩ (.bool true)).setCell ⟨S + 1 + 1 + 1 + 1 + r + 1, 0, none⟩ (.bool neg)).setCell ⟨S + 1 + 1 + 1 + 1 + r + 1, 1, none⟩ (.bool true)).setCell ⟨S + 1 + 1 + 1 + 1 + r + 1, 2, none⟩ (.int .u64 0)).setCell ⟨S + 1 + 1 + 1 + 1 + r + 1, 3, none⟩ (.int .i64 0)) ∧ Holds ((((((W.setCell ⟨S + 1 + 1 + 1 + 1 + r, 1, none⟩ (.bool true)).setCell ⟨S + 1 + 1 + 1 + 1 + r, 0, none⟩ (.bool true)).setCell ⟨S + 1 + 1 + 1 + 1 + r + 1, 0, none⟩ (.bool neg)).setCell ⟨S + 1 + 1 + 1 + 1 + r + 1, 1, none⟩ (.bool true)).setCell ⟨S + 1 + 1 + 1 + 1 + r + 1, 2, none⟩ (.int .u64 0)).setCell ⟨S + 1 + 1 + 1 + 1 + r + 1, 3, none⟩ (.int .i64 0)) S [.bool neg, nF, dF, .int .i64 E1, .bool false] ∧ Holds ((((((W.setCell ⟨S + 1 + 1 + 1 + 1 + r, 1, none⟩ (.bool true)).setCell ⟨S + 1 + 1 + 1 + 1 + r, 0, none⟩ (.bool true)).setCell ⟨S + 1 + 1 + 1 + 1 + r + 1, 0, none⟩ (.bool neg)).setCell ⟨S + 1 + 1 + 1 + 1 + r + 1, 1, none⟩ (.bool true)).setCell ⟨S + 1 + 1 + 1 + 1 + r + 1, 2, none⟩ (.int .u64 0)).setCell ⟨S + 1 + 1 + 1 + 1 + r + 1, 3, none⟩ (.int .i64 0)) (S + 1) [.int .i64 24, .int .i64 (-149), .int .i64 127] := by
             have hR : w.heap.size ≤ S + 1 + 1 + 1 + 1 + r := by rw [HS.out]; omega
             have hR1 : w.heap.size ≤ S + 1 + 1 + 1 + 1 + r + 1 := by rw [HS.out]; omega
             refine ⟨?_, ?_, ?_, ?_, ?_, ?_, ?_⟩
             ·exact ((((((X1.out.set 1 _ (by simp)).set 0 _ (by simp)).oth _ _ _ (by omega)).oth _ _ _ (by omega)).oth _ _ _ (by omega)).oth _ _ _ (by omega))
             ·exact ((((((X2.out.oth _ _ _ (by omega)).oth _ _ _ (by omega)).set 0 _ (by simp)).set 1 _ (by simp)).set 2 _ (by simp)).set 3 _ (by simp))
             ·exact ((((((X3.out.oth _ _ _ (by omega)).oth _ _ _ (by omega)).oth _ _ _ (by omega)).oth _ _ _ (by omega)).oth _ _ _ (by omega)).oth _ _ _ (by omega))
             ·exact ((((((X4.out.oth _ _ _ (by omega)).oth _ _ _ (by omega)).oth _ _ _ (by omega)).oth _ _ _ (by omega)).oth _ _ _ (by omega)).oth _ _ _ (by omega))
             ·exact ((((((GW'.out.setCell _ _ hR).setCell _ _ hR).setCell _ _ hR1).setCell _ _ hR1).setCell _ _ hR1).setCell _ _ hR1)
             ·exact ((((((XV.out.oth _ _ _ (by omega)).oth _ _ _ (by omega)).oth _ _ _ (by omega)).oth _ _ _ (by omega)).oth _ _ _ (by omega)).oth _ _ _ (by omega))
             ·exact ((((((XK.out.oth _ _ _ (by omega)).oth _ _ _ (by omega)).oth _ _ _ (by omega)).oth _ _ _ (by omega)).oth _ _ _ (by omega)).oth _ _ _ (by omega))
            clear x10 y10 x11 y11 x12 y12 x20 y20 x21 y21 x22 y22 x23 y23 x30 y30 x31 y31 x32 y32 x33 y33 x40 y40 x41 y41 x42 y42 v0 k0 k2 X1 X2 X3 X4 XV XK GW'
            generalize ((((((W.setCell ⟨S + 1 + 1 + 1 + 1 + r, 1, none⟩ (.bool true)).setCell ⟨S + 1 + 1 + 1 + 1 + r, 0, none⟩ (.bool true)).setCell ⟨S + 1 + 1 + 1 + 1 + r + 1, 0, none⟩ (.bool neg)).setCell ⟨S + 1 + 1 + 1 + 1 + r + 1, 1, none⟩ (.bool true)).setCell ⟨S + 1 + 1 + 1 + 1 + r + 1, 2, none⟩ (.int .u64 0)).setCell ⟨S + 1 + 1 + 1 + 1 + r + 1, 3, none⟩ (.int .i64 0)) = W' at *
            obtain ⟨Y1, Y2, Y3, Y4, YG, YV, YK⟩ := YY
            have Y1 : Hid _ := Y1
            obtain ⟨x20, y20⟩ := Y2.c0
            obtain ⟨x21, y21⟩ := Y2.c1
            obtain ⟨x22, y22⟩ := Y2.c2
            obtain ⟨x23, y23⟩ := Y2.c3
            have v0 := YV.c0.1
            have k0 := YK.c0.1
            have k2 := YK.c2.1
            have Y1 : Hid (Holds W' (S + 1 + 1 + 1 + 1 + r) [.bool true, .bool true, .bool ud]) := Y1
            have Y2 : Hid (Holds W' (S + 1 + 1 + 1 + 1 + r + 1) [.bool neg, .bool true, .int .u64 0, .int .i64 0]) := Y2
            have Y3 : Hid (Holds W' (S + 1 + 1) [.bool false, .bool false, .int .u64 0, .int .i64 0]) := Y3
            have Y4 : Hid (Holds W' (S + 1 + 1 + 1) [.bool false, .bool false, .bool false]) := Y4
            have YG : Hid (Gr w W') := YG
            clear YV YK
            go_cut [147] (fun s wx => s = .bool (!Rn.far mode neg) ∧ wx = W')
            case first =>
             as_aux_lemma =>
             clear HOUT HO
             rcases (show mode = 1 ∨ mode = 2 ∨ mode = 3 ∨ mode = 4 ∨ mode = 5 ∨ mode = 6 by omega) with rfl | rfl | rfl | rfl | rfl | rfl
             all_goals
              cases neg
              all_goals
               go_wp2
               go_meet
               case rel => exact ⟨by simp [Rn.far], rfl⟩
            case rest =>
             as_aux_lemma =>
             obtain ⟨hs, hw⟩ := hcut
             have hw' := hw.symm
             have hs' := hs.symm
             subst hs' hw'
             clear hs hw
             cases hf : Rn.far mode neg
             ·have HF : Hid (Rn.far mode neg = false) := hf
              clear hf
              go_upto_region 22 with fail
              go_region
              all_goals
               go_wp2
               go_meet
               case rel =>
                have hR1 : w.heap.size ≤ S + 1 + 1 + 1 + 1 + r + 1 := by rw [HS.out]; omega
                exact ⟨rfl, _, _, _, _, _, _, _, (((((Y1.out.oth _ _ _ (by omega)).oth _ _ _ (by omega)).oth _ _ _ (by omega)).oth _ _ _ (by omega))).drew, (((((Y2.out.set 0 _ (by simp)).set 1 _ (by simp)).set 2 _ (by simp)).set 3 _ (by simp))).drew,
                 (((((Y3.out.oth _ _ _ (by omega)).oth _ _ _ (by omega)).oth _ _ _ (by omega)).oth _ _ _ (by omega))).drew, (((((Y4.out.oth _ _ _ (by omega)).oth _ _ _ (by omega)).oth _ _ _ (by omega)).oth _ _ _ (by omega))).drew,
                 (((((YG.out.setCell _ _ hR1).setCell _ _ hR1).setCell _ _ hR1).setCell _ _ hR1)).drew, HOUT.out _ _ (Or.inl ⟨HO.out.1, HO.out.2, rfl, (if_neg (by rw [HF.out]; exact Bool.false_ne_true)).symm⟩)⟩
             ·have HF : Hid (Rn.far mode neg = true) := hf
              clear hf
              go_wp2
              go_meet
              case rel => exact ⟨rfl, _, _, _, _, _, _, _, Y1.out, Y2.out, Y3.out, Y4.out, YG.out, HOUT.out _ _ (Or.inl ⟨HO.out.1, HO.out.2, rfl, (if_pos HF.out).symm⟩)⟩
          case rest =>
           as_aux_lemma =>
           obtain ⟨hs, a, b, c, f0, f1, f2, f3, Z1, Z2, Z3, Z4, ZG, HZ⟩ := hcut
           have hs' := hs.symm
           subst hs'
           clear hs HOUT HOV x10 y10 x11 y11 x12 y12 x20 y20 x21 y21 x22 y22 x23 y23 x30 y30 x31 y31 x32 y32 x33 y33 x40 y40 x41 y41 x42 y42 v0 k0 k2 X1 X2 X3 X4 XV XK GW'
           have HZ' : Hid (∃ vF' vG', Ending.returned (.tuple #[.agg #[.bool f0, .bool f1, .int .u64 f2, .int .i64 f3], .agg #[.bool a, .bool b, .bool c]]) = .returned (.tuple #[vF', vG']) ∧ ToOut 24 127 16777216 8388608 neg mode q h wh e' vF' vG') := HZ
           have ZG' : Hid (Gr w wc) := ZG
           have x10 := Z1.c0.1
           have x11 := Z1.c1.1
           have x12 := Z1.c2.1
           have x20 := Z2.c0.1
           have x21 := Z2.c1.1
           have x22 := Z2.c2.1
           have x23 := Z2.c3.1
           obtain ⟨x30, y30⟩ := Z3.c0
           obtain ⟨x31, y31⟩ := Z3.c1
           obtain ⟨x32, y32⟩ := Z3.c2
           obtain ⟨x33, y33⟩ := Z3.c3
           obtain ⟨x40, y40⟩ := Z4.c0
           obtain ⟨x41, y41⟩ := Z4.c1
           obtain ⟨x42, y42⟩ := Z4.c2
           clear Z1 Z2 Z3 Z4 ZG HZ
           have h2 : Hid (w.heap.size ≤ S + 1 + 1) := by show _ ≤ _; rw [HS.out]; omega
           have h3 : Hid (w.heap.size ≤ S + 1 + 1 + 1) := by show _ ≤ _; rw [HS.out]; omega
           go_wp2
           rename_i hK
           exact to_last (by omega) (by omega) (by omega) (by omega) (by omega) x10 x11 x12 x20 x21 x22 x23 x30 y30 x31 y31 x32 y32 x33 y33 x40 y40 x41 y41 x42 y42 hK (fun _ g => ⟨HZ'.out, g⟩) ZG' h2 h3
end Go.Proofs.YtnceajanlnnfoaaGreatDoor
