/- AddrBack: its walk. (By gen_addrback.py.) -/
import Derived.Test.YthehdloofamadaaDoorLc
import Derived.Test.YthehdloofamadaaDoorGq
import Derived.Deep.CutRange
import Derived.Deep.DeepCutAuto
namespace Go.Proofs.YthehdloofamadaaDoor
open Go.RowKit

set_option maxHeartbeats 16000000 in
set_option maxRecDepth 20000 in
theorem back_core (l : List UInt8) (n : Int) (hn : (l.length : Int) = n) (w : World) (c r a1 a2 a3 a4 x y p q E F1 p1 q1 E1 P F2 p2 q2 E2 F3 b1 b2 b3 b4 E3 z1 z2 y1 y2 : Int) (cf rf pf qf pf1 qf1 V pf2 qf2 zf zg S yf yg S' : Bool) (T1 T2 T3 : List UInt8) (n1 : Int) (hn1 : (T1.length : Int) = n1)
    (H0 : Hid (∀ w, Calls Tryd.prog 8 #[] w fun e w' => e = .returned (.bool true) ∧ Below w.heap.size w w'))
    (H1 : Hid (∀ w, Calls Tryd.prog 17 #[.string ⟨l.toArray⟩] w fun e w' => e = .returned (.tuple #[.agg #[.int .i64 p, .int .i64 q, .bool pf, .bool qf], .int .i64 E]) ∧ Below w.heap.size w w'))
    (H2 : Hid (∀ w1, Below w.heap.size w w1 → Calls Tryd.prog 13 #[.agg #[.int .i64 p, .int .i64 q, .bool pf, .bool qf]] w1 fun e w' => e = .returned (.tuple #[.string ⟨T1.toArray⟩, .int .i64 F1]) ∧ Below w1.heap.size w1 w'))
    (H3 : Hid (∀ w, Calls Tryd.prog 17 #[.string ⟨T1.toArray⟩] w fun e w' => e = .returned (.tuple #[.agg #[.int .i64 p1, .int .i64 q1, .bool pf1, .bool qf1], .int .i64 E1]) ∧ Below w.heap.size w w'))
    (H4 : Hid (∀ w, Calls Tryd.prog 21 #[.string ⟨l.toArray⟩] w fun e w' => e = .returned (.int .i64 P) ∧ Below w.heap.size w w'))
    (H5 : Hid (∀ w1, Below w.heap.size w w1 → Calls Tryd.prog 13 #[.agg #[.int .i64 c, .int .i64 r, .bool cf, .bool rf]] w1 fun e w' => e = .returned (.tuple #[.string ⟨T2.toArray⟩, .int .i64 F2]) ∧ Below w1.heap.size w1 w'))
    (H6 : Hid (∀ w, Calls Tryd.prog 9 #[.agg #[.int .i64 c, .int .i64 r]] w fun e w' => e = .returned (.bool V) ∧ Below w.heap.size w w'))
    (H7 : Hid (∀ w, Calls Tryd.prog 17 #[.string ⟨T2.toArray⟩] w fun e w' => e = .returned (.tuple #[.agg #[.int .i64 p2, .int .i64 q2, .bool pf2, .bool qf2], .int .i64 E2]) ∧ Below w.heap.size w w'))
    (H8 : Hid (∀ w1, Below w.heap.size w w1 → Calls Tryd.prog 31 #[.agg #[.int .i64 a1, .int .i64 a2, .int .i64 a3, .int .i64 a4]] w1 fun e w' => e = .returned (.tuple #[.string ⟨T3.toArray⟩, .int .i64 F3]) ∧ Below w1.heap.size w1 w'))
    (H9 : Hid (∀ w, Calls Tryd.prog 19 #[.string ⟨T3.toArray⟩] w fun e w' => e = .returned (.tuple #[.agg #[.int .i64 b1, .int .i64 b2, .int .i64 b3, .int .i64 b4], .int .i64 E3]) ∧ Below w.heap.size w w'))
    (H10 : Hid (∀ w, Calls Tryd.prog 15 #[.agg #[.int .i64 c, .int .i64 r, .bool cf, .bool rf], .int .i64 x, .int .i64 y] w fun e w' => e = .returned (.tuple #[.agg #[.int .i64 z1, .int .i64 z2, .bool zf, .bool zg], .bool S]) ∧ Below w.heap.size w w'))
    (H11 : Hid (-9223372036854775808 < x → -9223372036854775808 < y → ∀ w, Calls Tryd.prog 15 #[.agg #[.int .i64 z1, .int .i64 z2, .bool zf, .bool zg], .int .i64 (-x), .int .i64 (-y)] w fun e w' => e = .returned (.tuple #[.agg #[.int .i64 y1, .int .i64 y2, .bool yf, .bool yg], .bool S']) ∧ Below w.heap.size w w'))
    (hx0 : -9223372036854775808 ≤ x) (hx1 : x ≤ 9223372036854775807) (hy0 : -9223372036854775808 ≤ y) (hy1 : y ≤ 9223372036854775807)
    (hE : Hid (E = 0 → F1 = 0 ∧ E1 = 0 ∧ p = p1 ∧ q = q1 ∧ pf = pf1 ∧ qf = qf1 ∧ n = n1 ∧ n = P))
    (hV : Hid ((F2 == 0) = V)) (hF : Hid (F2 = 0 → E2 = 0 ∧ c = p2 ∧ r = q2 ∧ cf = pf2 ∧ rf = qf2))
    (hA : Hid (F3 = 0 → E3 = 0 ∧ a1 = b1 ∧ a2 = b2 ∧ a3 = b3 ∧ a4 = b4))
    (hS : Hid (S = true → S' = true ∧ c = y1 ∧ r = y2 ∧ cf = yf ∧ rf = yg)) :
    Calls Tryd.prog 6 #[.string ⟨l.toArray⟩, .agg #[.int .i64 c, .int .i64 r, .bool cf, .bool rf], .agg #[.int .i64 a1, .int .i64 a2, .int .i64 a3, .int .i64 a4], .int .i64 x, .int .i64 y] w fun e w' => e = .returned (.bool true) ∧ Below w.heap.size w w' := by
  have B0 : Hid (Below w.heap.size w ((w.alloc (.cells #[.int .i64 c, .int .i64 r, .bool cf, .bool rf] 25)).alloc (.cells #[.int .i64 a1, .int .i64 a2, .int .i64 a3, .int .i64 a4] 38))) := (((Gr.refl w).alloc _ _).alloc _ _).below
  have R_0 : Hid (Has4 ((w.alloc (.cells #[.int .i64 c, .int .i64 r, .bool cf, .bool rf] 25)).alloc (.cells #[.int .i64 a1, .int .i64 a2, .int .i64 a3, .int .i64 a4] 38)) w.heap.size (.int .i64 c) (.int .i64 r) (.bool cf) (.bool rf)) := (has4_new w _ _ _ _ _).gr ((Gr.refl _).alloc _ _)
  have A_0 : Hid (Has4 ((w.alloc (.cells #[.int .i64 c, .int .i64 r, .bool cf, .bool rf] 25)).alloc (.cells #[.int .i64 a1, .int .i64 a2, .int .i64 a3, .int .i64 a4] 38)) (w.heap.size + 1) (.int .i64 a1) (.int .i64 a2) (.int .i64 a3) (.int .i64 a4)) := by
    have := has4_new (w.alloc (.cells #[.int .i64 c, .int .i64 r, .bool cf, .bool rf] 25)) (.int .i64 a1) (.int .i64 a2) (.int .i64 a3) (.int .i64 a4) 38
    rw [World.size_alloc] at this
    exact this
  go_enter Tryd.func6, Tryd.ntmps6
  go_wp2_with fail
  refine (H0.out _).mono ?_
  rintro e w1 ⟨rfl, hb⟩
  have Bw1' : Hid (Below w.heap.size w w1) := B0.out.trans (hb.mono B0.out.size)
  have R_w1 : Hid (Has4 w1 w.heap.size (.int .i64 c) (.int .i64 r) (.bool cf) (.bool rf)) := R_0.out.bel hb
  have A_w1 : Hid (Has4 w1 (w.heap.size + 1) (.int .i64 a1) (.int .i64 a2) (.int .i64 a3) (.int .i64 a4)) := A_0.out.bel hb
  clear hb B0 R_0 A_0
  go_wp2_with fail
  refine (H1.out _).mono ?_
  rintro e w2 ⟨rfl, hb⟩
  have Bw2' : Hid (Below w.heap.size w w2) := Bw1'.out.trans (hb.mono Bw1'.out.size)
  have R_w2 : Hid (Has4 w2 w.heap.size (.int .i64 c) (.int .i64 r) (.bool cf) (.bool rf)) := R_w1.out.bel hb
  have A_w2 : Hid (Has4 w2 (w.heap.size + 1) (.int .i64 a1) (.int .i64 a2) (.int .i64 a3) (.int .i64 a4)) := A_w1.out.bel hb
  clear hb Bw1' R_w1 A_w1
  have CX : Hid (Below w.heap.size w (w2.alloc (.cells #[.int .i64 p, .int .i64 q, .bool pf, .bool qf] 25))) := Bw2'.out.alloc Bw2'.out.size _
  have R_X : Hid (Has4 (w2.alloc (.cells #[.int .i64 p, .int .i64 q, .bool pf, .bool qf] 25)) w.heap.size (.int .i64 c) (.int .i64 r) (.bool cf) (.bool rf)) := R_w2.out.bel ((Below.refl _ _).alloc (Nat.le_refl _) _)
  have A_X : Hid (Has4 (w2.alloc (.cells #[.int .i64 p, .int .i64 q, .bool pf, .bool qf] 25)) (w.heap.size + 1) (.int .i64 a1) (.int .i64 a2) (.int .i64 a3) (.int .i64 a4)) := A_w2.out.bel ((Below.refl _ _).alloc (Nat.le_refl _) _)
  have X_X : Hid (Has4 (w2.alloc (.cells #[.int .i64 p, .int .i64 q, .bool pf, .bool qf] 25)) w2.heap.size (.int .i64 p) (.int .i64 q) (.bool pf) (.bool qf)) := has4_new _ _ _ _ _ _
  clear Bw2' R_w2 A_w2
  go_upto_if 35 with fail
  generalize hW : (w2.alloc (.cells #[.int .i64 p, .int .i64 q, .bool pf, .bool qf] 25)) = W35 at *
  clear hW
  go_cut [10] (fun u wx => u = .bool false ∧ Below W35.heap.size W35 wx)
  case first =>
    as_aux_lemma =>
    by_cases h0 : E = 0
    · obtain ⟨e1, e2, e3, e4, e5, e6, e7, e8⟩ := hE.out h0
      subst h0 e1 e2 e3 e4 e5 e6 e7 e8
      clear hE hV hF hA hS H0 H1 H5 H6 H7 H8 H9 H10 H11
      have D0 : Hid (Below W35.heap.size W35 W35) := Below.refl _ _
      obtain ⟨X_Xa, X_Xb, X_Xc, X_Xd, _, _, _, _⟩ := X_X.out
      go_wp2_with fail
      refine (H2.out _ (CX.out.trans (D0.out.mono CX.out.size))).mono ?_
      rintro e v1 ⟨rfl, hb⟩
      clear X_Xa X_Xb X_Xc X_Xd
      have Bv1' : Hid (Below W35.heap.size W35 v1) := D0.out.trans (hb.mono D0.out.size)
      have X_v1 : Hid (Has4 v1 w2.heap.size (.int .i64 p) (.int .i64 q) (.bool pf) (.bool qf)) := X_X.out.bel hb
      clear hb D0 X_X
      go_wp2_with fail
      refine (H3.out _).mono ?_
      rintro e v2 ⟨rfl, hb⟩
      have Bv2' : Hid (Below W35.heap.size W35 v2) := Bv1'.out.trans (hb.mono Bv1'.out.size)
      have X_v2 : Hid (Has4 v2 w2.heap.size (.int .i64 p) (.int .i64 q) (.bool pf) (.bool qf)) := X_v1.out.bel hb
      clear hb Bv1' X_v1
      have CY : Hid (Below W35.heap.size W35 (v2.alloc (.cells #[.int .i64 p, .int .i64 q, .bool pf, .bool qf] 25))) := Bv2'.out.alloc Bv2'.out.size _
      have X_Y : Hid (Has4 (v2.alloc (.cells #[.int .i64 p, .int .i64 q, .bool pf, .bool qf] 25)) w2.heap.size (.int .i64 p) (.int .i64 q) (.bool pf) (.bool qf)) := X_v2.out.bel ((Below.refl _ _).alloc (Nat.le_refl _) _)
      have Y_Y : Hid (Has4 (v2.alloc (.cells #[.int .i64 p, .int .i64 q, .bool pf, .bool qf] 25)) v2.heap.size (.int .i64 p) (.int .i64 q) (.bool pf) (.bool qf)) := has4_new _ _ _ _ _ _
      clear Bv2' X_v2
      go_wp2_with fail
      refine (H4.out _).mono ?_
      rintro e v3 ⟨rfl, hb⟩
      have Bv3' : Hid (Below W35.heap.size W35 v3) := CY.out.trans (hb.mono CY.out.size)
      have X_v3 : Hid (Has4 v3 w2.heap.size (.int .i64 p) (.int .i64 q) (.bool pf) (.bool qf)) := X_Y.out.bel hb
      have Y_v3 : Hid (Has4 v3 v2.heap.size (.int .i64 p) (.int .i64 q) (.bool pf) (.bool qf)) := Y_Y.out.bel hb
      clear hb CY X_Y Y_Y
      obtain ⟨X_v3a, X_v3b, X_v3c, X_v3d, _, _, _, _⟩ := X_v3.out
      obtain ⟨Y_v3a, Y_v3b, Y_v3c, Y_v3d, _, _, _, _⟩ := Y_v3.out
      go_wp2_with fail
      go_meet
      case rel => exact ⟨rfl, Bv3'.out⟩
    · have h0' : (E == 0) = false := by simpa using h0
      clear h0 hE hV hF hA hS
      go_wp2_with fail
      go_meet
      case rel => exact ⟨rfl, Below.refl _ _⟩
  case rest =>
    as_aux_lemma =>
    obtain ⟨hs, hb⟩ := hcut
    have hs' := hs.symm
    subst hs'
    have hwc : ∃ z, z = wc := ⟨_, rfl⟩
    obtain ⟨wc35, hz⟩ := hwc
    rw [← hz] at hb ⊢
    clear hz hs
    have Bwc35' : Hid (Below w.heap.size w wc35) := CX.out.trans (hb.mono CX.out.size)
    have R_wc35 : Hid (Has4 wc35 w.heap.size (.int .i64 c) (.int .i64 r) (.bool cf) (.bool rf)) := R_X.out.bel hb
    have A_wc35 : Hid (Has4 wc35 (w.heap.size + 1) (.int .i64 a1) (.int .i64 a2) (.int .i64 a3) (.int .i64 a4)) := A_X.out.bel hb
    have X_wc35 : Hid (Has4 wc35 w2.heap.size (.int .i64 p) (.int .i64 q) (.bool pf) (.bool qf)) := X_X.out.bel hb
    clear hb CX R_X A_X X_X
    obtain ⟨R_wc35a, R_wc35b, R_wc35c, R_wc35d, _, _, _, _⟩ := R_wc35.out
    go_wp2_with fail
    refine (H5.out _ Bwc35'.out).mono ?_
    rintro e w5 ⟨rfl, hb⟩
    clear R_wc35a R_wc35b R_wc35c R_wc35d
    have Bw5' : Hid (Below w.heap.size w w5) := Bwc35'.out.trans (hb.mono Bwc35'.out.size)
    have R_w5 : Hid (Has4 w5 w.heap.size (.int .i64 c) (.int .i64 r) (.bool cf) (.bool rf)) := R_wc35.out.bel hb
    have A_w5 : Hid (Has4 w5 (w.heap.size + 1) (.int .i64 a1) (.int .i64 a2) (.int .i64 a3) (.int .i64 a4)) := A_wc35.out.bel hb
    have X_w5 : Hid (Has4 w5 w2.heap.size (.int .i64 p) (.int .i64 q) (.bool pf) (.bool qf)) := X_wc35.out.bel hb
    clear hb Bwc35' R_wc35 A_wc35 X_wc35
    obtain ⟨R_w5a, R_w5b, R_w5c, R_w5d, _, _, _, _⟩ := R_w5.out
    go_wp2_with fail
    refine (H6.out _).mono ?_
    rintro e w6 ⟨rfl, hb⟩
    clear R_w5a R_w5b R_w5c R_w5d
    have Bw6' : Hid (Below w.heap.size w w6) := Bw5'.out.trans (hb.mono Bw5'.out.size)
    have R_w6 : Hid (Has4 w6 w.heap.size (.int .i64 c) (.int .i64 r) (.bool cf) (.bool rf)) := R_w5.out.bel hb
    have A_w6 : Hid (Has4 w6 (w.heap.size + 1) (.int .i64 a1) (.int .i64 a2) (.int .i64 a3) (.int .i64 a4)) := A_w5.out.bel hb
    have X_w6 : Hid (Has4 w6 w2.heap.size (.int .i64 p) (.int .i64 q) (.bool pf) (.bool qf)) := X_w5.out.bel hb
    clear hb Bw5' R_w5 A_w5 X_w5
    have hV1 := hV.out
    clear hV
    go_upto_if 84 with fail
    generalize hW : w6 = W84 at *
    clear hW
    go_cut [10] (fun u wx => u = .bool false ∧ Below W84.heap.size W84 wx)
    case first =>
      as_aux_lemma =>
      by_cases h0 : F2 = 0
      · obtain ⟨e1, e2, e3, e4, e5⟩ := hF.out h0
        subst h0 e1 e2 e3 e4 e5
        have hv : true = V := hV1
        clear hV1
        subst hv
        clear hE hF hA hS H0 H1 H2 H3 H4 H5 H6 H8 H9 H10 H11
        have D0 : Hid (Below W84.heap.size W84 W84) := Below.refl _ _
        go_wp2_with fail
        refine (H7.out _).mono ?_
        rintro e v1 ⟨rfl, hb⟩
        have Bv1' : Hid (Below W84.heap.size W84 v1) := D0.out.trans (hb.mono D0.out.size)
        have R_v1 : Hid (Has4 v1 w.heap.size (.int .i64 c) (.int .i64 r) (.bool cf) (.bool rf)) := R_w6.out.bel hb
        clear hb D0 R_w6
        have CY : Hid (Below W84.heap.size W84 (v1.alloc (.cells #[.int .i64 c, .int .i64 r, .bool cf, .bool rf] 25))) := Bv1'.out.alloc Bv1'.out.size _
        have R_Y : Hid (Has4 (v1.alloc (.cells #[.int .i64 c, .int .i64 r, .bool cf, .bool rf] 25)) w.heap.size (.int .i64 c) (.int .i64 r) (.bool cf) (.bool rf)) := R_v1.out.bel ((Below.refl _ _).alloc (Nat.le_refl _) _)
        have Y_Y : Hid (Has4 (v1.alloc (.cells #[.int .i64 c, .int .i64 r, .bool cf, .bool rf] 25)) v1.heap.size (.int .i64 c) (.int .i64 r) (.bool cf) (.bool rf)) := has4_new _ _ _ _ _ _
        clear Bv1' R_v1
        obtain ⟨R_Ya, R_Yb, R_Yc, R_Yd, _, _, _, _⟩ := R_Y.out
        obtain ⟨Y_Ya, Y_Yb, Y_Yc, Y_Yd, _, _, _, _⟩ := Y_Y.out
        go_wp2_with fail
        go_meet
        case rel => exact ⟨rfl, CY.out⟩
      · have h0' : (F2 == 0) = false := by simpa using h0
        have hv : false = V := by rw [← hV1, h0']
        clear hV1
        subst hv
        clear h0 hE hF hA hS
        go_wp2_with fail
        go_meet
        case rel => exact ⟨rfl, Below.refl _ _⟩
    case rest =>
      as_aux_lemma =>
      obtain ⟨hs, hb⟩ := hcut
      have hs' := hs.symm
      subst hs'
      have hwc : ∃ z, z = wc := ⟨_, rfl⟩
      obtain ⟨wc84, hz⟩ := hwc
      rw [← hz] at hb ⊢
      clear hz hs
      have Bwc84' : Hid (Below w.heap.size w wc84) := Bw6'.out.trans (hb.mono Bw6'.out.size)
      have R_wc84 : Hid (Has4 wc84 w.heap.size (.int .i64 c) (.int .i64 r) (.bool cf) (.bool rf)) := R_w6.out.bel hb
      have A_wc84 : Hid (Has4 wc84 (w.heap.size + 1) (.int .i64 a1) (.int .i64 a2) (.int .i64 a3) (.int .i64 a4)) := A_w6.out.bel hb
      clear hb Bw6' R_w6 A_w6
      clear hV1
      obtain ⟨A_wc84a, A_wc84b, A_wc84c, A_wc84d, _, _, _, _⟩ := A_wc84.out
      go_wp2_with fail
      refine (H8.out _ Bwc84'.out).mono ?_
      rintro e w8 ⟨rfl, hb⟩
      clear A_wc84a A_wc84b A_wc84c A_wc84d
      have Bw8' : Hid (Below w.heap.size w w8) := Bwc84'.out.trans (hb.mono Bwc84'.out.size)
      have R_w8 : Hid (Has4 w8 w.heap.size (.int .i64 c) (.int .i64 r) (.bool cf) (.bool rf)) := R_wc84.out.bel hb
      have A_w8 : Hid (Has4 w8 (w.heap.size + 1) (.int .i64 a1) (.int .i64 a2) (.int .i64 a3) (.int .i64 a4)) := A_wc84.out.bel hb
      clear hb Bwc84' R_wc84 A_wc84
      go_upto_if 103 with fail
      generalize hW : w8 = W103 at *
      clear hW
      go_cut [10] (fun u wx => u = .bool false ∧ Below W103.heap.size W103 wx)
      case first =>
        as_aux_lemma =>
        by_cases h0 : F3 = 0
        · obtain ⟨e1, e2, e3, e4, e5⟩ := hA.out h0
          subst h0 e1 e2 e3 e4 e5
          clear hE hF hA hS H0 H1 H2 H3 H4 H5 H6 H7 H8 H10 H11
          have D0 : Hid (Below W103.heap.size W103 W103) := Below.refl _ _
          go_wp2_with fail
          refine (H9.out _).mono ?_
          rintro e v1 ⟨rfl, hb⟩
          have Bv1' : Hid (Below W103.heap.size W103 v1) := D0.out.trans (hb.mono D0.out.size)
          have A_v1 : Hid (Has4 v1 (w.heap.size + 1) (.int .i64 a1) (.int .i64 a2) (.int .i64 a3) (.int .i64 a4)) := A_w8.out.bel hb
          clear hb D0 A_w8
          have CY : Hid (Below W103.heap.size W103 (v1.alloc (.cells #[.int .i64 a1, .int .i64 a2, .int .i64 a3, .int .i64 a4] 38))) := Bv1'.out.alloc Bv1'.out.size _
          have A_Y : Hid (Has4 (v1.alloc (.cells #[.int .i64 a1, .int .i64 a2, .int .i64 a3, .int .i64 a4] 38)) (w.heap.size + 1) (.int .i64 a1) (.int .i64 a2) (.int .i64 a3) (.int .i64 a4)) := A_v1.out.bel ((Below.refl _ _).alloc (Nat.le_refl _) _)
          have Y_Y : Hid (Has4 (v1.alloc (.cells #[.int .i64 a1, .int .i64 a2, .int .i64 a3, .int .i64 a4] 38)) v1.heap.size (.int .i64 a1) (.int .i64 a2) (.int .i64 a3) (.int .i64 a4)) := has4_new _ _ _ _ _ _
          clear Bv1' A_v1
          obtain ⟨A_Ya, A_Yb, A_Yc, A_Yd, _, _, _, _⟩ := A_Y.out
          obtain ⟨Y_Ya, Y_Yb, Y_Yc, Y_Yd, _, _, _, _⟩ := Y_Y.out
          go_wp2_with fail
          go_meet
          case rel => exact ⟨rfl, CY.out⟩
        · have h0' : (F3 == 0) = false := by simpa using h0
          clear h0 hE hF hA hS
          go_wp2_with fail
          go_meet
          case rel => exact ⟨rfl, Below.refl _ _⟩
      case rest =>
        as_aux_lemma =>
        obtain ⟨hs, hb⟩ := hcut
        have hs' := hs.symm
        subst hs'
        have hwc : ∃ z, z = wc := ⟨_, rfl⟩
        obtain ⟨wc103, hz⟩ := hwc
        rw [← hz] at hb ⊢
        clear hz hs
        have Bwc103' : Hid (Below w.heap.size w wc103) := Bw8'.out.trans (hb.mono Bw8'.out.size)
        have R_wc103 : Hid (Has4 wc103 w.heap.size (.int .i64 c) (.int .i64 r) (.bool cf) (.bool rf)) := R_w8.out.bel hb
        have A_wc103 : Hid (Has4 wc103 (w.heap.size + 1) (.int .i64 a1) (.int .i64 a2) (.int .i64 a3) (.int .i64 a4)) := A_w8.out.bel hb
        clear hb Bw8' R_w8 A_w8
        obtain ⟨R_wc103a, R_wc103b, R_wc103c, R_wc103d, _, _, _, _⟩ := R_wc103.out
        go_wp2_with fail
        refine (H10.out _).mono ?_
        rintro e w10 ⟨rfl, hb⟩
        clear R_wc103a R_wc103b R_wc103c R_wc103d
        have Bw10' : Hid (Below w.heap.size w w10) := Bwc103'.out.trans (hb.mono Bwc103'.out.size)
        have R_w10 : Hid (Has4 w10 w.heap.size (.int .i64 c) (.int .i64 r) (.bool cf) (.bool rf)) := R_wc103.out.bel hb
        clear hb Bwc103' R_wc103
        have CZ : Hid (Below w.heap.size w (w10.alloc (.cells #[.int .i64 z1, .int .i64 z2, .bool zf, .bool zg] 25))) := Bw10'.out.alloc Bw10'.out.size _
        have R_Z : Hid (Has4 (w10.alloc (.cells #[.int .i64 z1, .int .i64 z2, .bool zf, .bool zg] 25)) w.heap.size (.int .i64 c) (.int .i64 r) (.bool cf) (.bool rf)) := R_w10.out.bel ((Below.refl _ _).alloc (Nat.le_refl _) _)
        have Z_Z : Hid (Has4 (w10.alloc (.cells #[.int .i64 z1, .int .i64 z2, .bool zf, .bool zg] 25)) w10.heap.size (.int .i64 z1) (.int .i64 z2) (.bool zf) (.bool zg)) := has4_new _ _ _ _ _ _
        clear Bw10' R_w10
        clear H0 H1 H2 H3 H4 H5 H6 H7 H8 H9 H10 hE hF hA
        by_cases h0 : S = true ∧ x ≠ -9223372036854775808 ∧ y ≠ -9223372036854775808
        · obtain ⟨h1, h2, h3⟩ := h0
          obtain ⟨e1, e2, e3, e4, e5⟩ := hS.out h1
          subst h1 e1 e2 e3 e4 e5
          have h2' : (x == -9223372036854775808) = false := by simpa using h2
          have h3' : (y == -9223372036854775808) = false := by simpa using h3
          have h4 : -9223372036854775808 < x := by omega
          have h5 : -9223372036854775808 < y := by omega
          clear h2 h3 hS
          obtain ⟨Z_Za, Z_Zb, Z_Zc, Z_Zd, _, _, _, _⟩ := Z_Z.out
          go_wp2_with fail
          refine (H11.out h4 h5 _).mono ?_
          rintro e w11 ⟨rfl, hb⟩
          clear Z_Za Z_Zb Z_Zc Z_Zd
          have Bw11' : Hid (Below w.heap.size w w11) := CZ.out.trans (hb.mono CZ.out.size)
          have R_w11 : Hid (Has4 w11 w.heap.size (.int .i64 c) (.int .i64 r) (.bool cf) (.bool rf)) := R_Z.out.bel hb
          have Z_w11 : Hid (Has4 w11 w10.heap.size (.int .i64 z1) (.int .i64 z2) (.bool zf) (.bool zg)) := Z_Z.out.bel hb
          clear hb CZ R_Z Z_Z
          have CY : Hid (Below w.heap.size w (w11.alloc (.cells #[.int .i64 c, .int .i64 r, .bool cf, .bool rf] 25))) := Bw11'.out.alloc Bw11'.out.size _
          have R_Y : Hid (Has4 (w11.alloc (.cells #[.int .i64 c, .int .i64 r, .bool cf, .bool rf] 25)) w.heap.size (.int .i64 c) (.int .i64 r) (.bool cf) (.bool rf)) := R_w11.out.bel ((Below.refl _ _).alloc (Nat.le_refl _) _)
          have Z_Y : Hid (Has4 (w11.alloc (.cells #[.int .i64 c, .int .i64 r, .bool cf, .bool rf] 25)) w10.heap.size (.int .i64 z1) (.int .i64 z2) (.bool zf) (.bool zg)) := Z_w11.out.bel ((Below.refl _ _).alloc (Nat.le_refl _) _)
          have Y_Y : Hid (Has4 (w11.alloc (.cells #[.int .i64 c, .int .i64 r, .bool cf, .bool rf] 25)) w11.heap.size (.int .i64 c) (.int .i64 r) (.bool cf) (.bool rf)) := has4_new _ _ _ _ _ _
          clear Bw11' R_w11 Z_w11
          obtain ⟨R_Ya, R_Yb, R_Yc, R_Yd, _, _, _, _⟩ := R_Y.out
          obtain ⟨Y_Ya, Y_Yb, Y_Yc, Y_Yd, _, _, _, _⟩ := Y_Y.out
          go_wp2_with fail
          go_ret
          exact ⟨rfl, CY.out⟩
        · have h0' : S = false ∨ (S = true ∧ x = -9223372036854775808) ∨ (S = true ∧ (x == -9223372036854775808) = false ∧ y = -9223372036854775808) := by
            cases S
            · exact .inl rfl
            · by_cases hx : x = -9223372036854775808
              · exact .inr (.inl ⟨rfl, hx⟩)
              · by_cases hy : y = -9223372036854775808
                · exact .inr (.inr ⟨rfl, by simpa using hx, hy⟩)
                · exact absurd ⟨rfl, hx, hy⟩ h0
          clear h0 hS
          rcases h0' with h1 | ⟨h1, h2⟩ | ⟨h1, h2, h3⟩
          all_goals
            subst_vars
            go_wp2_with fail
            go_ret
            exact ⟨rfl, CZ.out⟩
end Go.Proofs.YthehdloofamadaaDoor
