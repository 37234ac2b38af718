/- The document's form and Parse, at any text. -/
import Derived.Test.YthehdloofamadaaDoorAz
import Derived.Test.YthehdloofamadaaDoorAr
import Derived.Test.YthehdloofamadaaDoorAq
import Derived.Test.YthehdloofamadaaDoorGb
namespace Go.Proofs.YthehdloofamadaaDoor
open Go.RowKit

theorem suf_cut (l : List UInt8) : Suf l (cutD l) (if dol l then 1 else 0) := by
  unfold cutD
  cases h : dol l
  · exact suf_all l
  · cases l with
    | nil => simp [dol] at h
    | cons b t => exact (suf_all (b :: t)).next
theorem rform_any (l : List UInt8) (n : Int) (hn : (l.length : Int) = n) (hl : n < 140737488355328) (w : World) :
    Calls Tryd.prog 48 #[.string ⟨l.toArray⟩] w fun e w' => e = .returned (.tuple #[.string ⟨(fWord l).toArray⟩, .string ⟨(fDig l).toArray⟩, .bool (dol l), .bool (fRow l), .bool (fOk l)]) ∧ Gr w w' :=
  rform_core l n hn (by omega) hl (dol l) (fRow l) (fOk l) (cutD l) (fB l) (fC l) (fEnd l) (fWord l) (fDig l) w (if dol l then 1 else 0) rfl rfl rfl (by split <;> omega) (by split <;> omega) (suf_cut l) rfl rfl rfl rfl rfl rfl rfl

set_option maxHeartbeats 8000000 in
set_option maxRecDepth 20000 in
theorem rParse_core (l W D : List UInt8) (C R O V : Bool) (c r E : Int) (X : Value) (w : World)
    (H0 : Hid (∀ w, Calls Tryd.prog 48 #[.string ⟨l.toArray⟩] w fun e w' => e = .returned (.tuple #[.string ⟨W.toArray⟩, .string ⟨D.toArray⟩, .bool C, .bool R, .bool O]) ∧ Gr w w'))
    (H1 : Hid (∀ w, Calls Tryd.prog 10 #[.agg #[.int .i64 c, .int .i64 r]] w fun e w' => e = .returned (.bool V) ∧ Gr w w'))
    (hc : Hid (colN W = c)) (hr : Hid (rowN D = r)) (hWb : Hid (∀ b ∈ W, 65 ≤ (b.toNat : Int) ∧ (b.toNat : Int) ≤ 90)) (hDb : Hid (∀ b ∈ D, 48 ≤ (b.toNat : Int) ∧ (b.toNat : Int) ≤ 57))
    (nW nD : Int) (hnW : (W.length : Int) = nW) (hnD : (D.length : Int) = nD) (hW0 : 0 ≤ nW) (hD0 : 0 ≤ nD)
    (hE : Hid (E = if O then if nW ≤ 2 ∧ nD ≤ 4 ∧ V = true then 0 else 20 else 3)) (hX : Hid (X = if E = 0 then refV c r C R else refV 0 0 false false)) :
    Calls Tryd.prog 18 #[.string ⟨l.toArray⟩] w fun e w' => e = .returned (.tuple #[X, .int .i64 E]) ∧ Gr w w' := by
  have K0 : Hid (Has4 (w.alloc (.cells #[.int .i64 0, .int .i64 0, .bool false, .bool false] 25)) w.heap.size (.int .i64 0) (.int .i64 0) (.bool false) (.bool false)) := has4_new _ _ _ _ _ _
  cases O
  · have hE' : E = 3 := hE.out
    subst hE'
    have hX' : Hid (refV 0 0 false false = X) := hX.out.symm
    clear hE hX
    go_enter Tryd.func18, Tryd.ntmps18
    go_wp2_with fail
    refine (H0.out _).mono ?_
    rintro e w1 ⟨rfl, hg⟩
    obtain ⟨c0, c1, c2, c3, f0, f1, f2, f3⟩ := K0.out.gr hg
    have K2 := (K0.out.gr hg).put (.int .i64 0) (.int .i64 0) (.bool false) (.bool false)
    have G1 : Hid (Gr w w1) := ((Gr.refl w).alloc _ _).trans hg
    clear hg
    have K3 : Hid (Has4 _ _ _ _ _ _) := K2
    clear K2
    go_wp2_with fail
    obtain ⟨d0, d1, d2, d3, _, _, _, _⟩ := K3.out
    refine bodyPost_ret (v := .tuple #[.agg #[.int .i64 0, .int .i64 0, .bool false, .bool false], .int .i64 3]) (by simp [results, Tryd.results18, go_sem, d0, d1, d2, d3]) rfl ?_
    exact ⟨rTwo hX'.out rfl, G1.out.put4 (Nat.le_refl _) _ _ _ _⟩
  · by_cases g1 : nW ≤ 2 ∧ nD ≤ 4
    · obtain ⟨g1, g2⟩ := g1
      go_enter Tryd.func18, Tryd.ntmps18
      go_wp2_with fail
      refine (H0.out _).mono ?_
      rintro e w1 ⟨rfl, hg⟩
      have K1 : Hid (Has4 w1 w.heap.size (.int .i64 0) (.int .i64 0) (.bool false) (.bool false)) := K0.out.gr hg
      have G1 : Hid (Gr w w1) := ((Gr.refl w).alloc _ _).trans hg
      have hbk : Hid (w.heap.size < w1.heap.size) := cell_lt (K0.out.gr hg).c0
      clear hg K0 H0
      go_wp2_with fail
      go_loopw [10] (fun si wr => ∃ (i : Int) (pre s : List UInt8), W = pre ++ s ∧ Suf W s i ∧ si = .int .i64 i ∧ Has2 wr w1.heap.size (.int .i64 (colN pre)) (.int .i64 0) ∧ Gr w1 wr) (fun si _ => (nW - intOf si).toNat)
      case atStart => exact ⟨0, [], W, rfl, suf_all W, rfl, has2_new w1 _ _ _, (Gr.refl w1).alloc _ _⟩
      case round =>
        as_aux_lemma =>
        obtain ⟨i, pre, s, hsp, hsuf, rfl, hh, hg⟩ := hrel
        have GR : Hid (Gr w1 wr) := hg
        have HS : Hid (Suf W s i) := hsuf
        have HP : Hid (W = pre ++ s) := hsp
        have HH : Hid (Has2 wr w1.heap.size (.int .i64 (colN pre)) (.int .i64 0)) := hh
        obtain ⟨p0, p1⟩ := hsuf.place hnW
        have hpb : 0 ≤ colN pre ∧ colN pre ≤ 702 := colN_bd pre (by have := congrArg List.length hsp; rw [List.length_append] at this; omega) (fun b hb => hWb.out b (by rw [hsp]; simp [hb]))
        obtain ⟨k0, k1⟩ := hpb
        obtain ⟨⟨x0, x1⟩, y0, y1⟩ := hh
        clear hg hsuf hsp
        cases s with
        | nil =>
          have hin : i = nW := by simpa using p1
          have hcc : colN pre = c := by rw [← hc.out, HP.out, List.append_nil]
          subst hin
          clear hc hWb HP HS p1
          rw [hcc] at x0 k0 k1
          have HH : Hid (Has2 wr w1.heap.size (.int .i64 c) (.int .i64 0)) := by have := HH.out; rwa [hcc] at this
          clear hcc
          go_wp2_with fail
          go_loopw [11] (fun si wq => ∃ (j : Int) (pr s : List UInt8), D = pr ++ s ∧ Suf D s j ∧ si = .int .i64 j ∧ Has2 wq w1.heap.size (.int .i64 c) (.int .i64 (rowN pr)) ∧ Gr w1 wq) (fun si _ => (nD - intOf si).toNat)
          case atStart => exact ⟨0, [], D, rfl, suf_all D, rfl, HH.out, GR.out⟩
          case round =>
            as_aux_lemma =>
            obtain ⟨j, pr, s, hsp, hsuf, rfl, hh, hg⟩ := hrel
            clear HH GR x0 x1 y0 y1
            have GR : Hid (Gr w1 wr) := hg
            have HS : Hid (Suf D s j) := hsuf
            have HP : Hid (D = pr ++ s) := hsp
            have HH : Hid (Has2 wr w1.heap.size (.int .i64 c) (.int .i64 (rowN pr))) := hh
            obtain ⟨p0, p1⟩ := hsuf.place hnD
            have hpb : 0 ≤ rowN pr ∧ rowN pr ≤ 9999 := rowN_bd pr (by have := congrArg List.length hsp; rw [List.length_append] at this; omega) (fun b hb => hDb.out b (by rw [hsp]; simp [hb]))
            obtain ⟨l0, l1⟩ := hpb
            obtain ⟨⟨x0, x1⟩, y0, y1⟩ := hh
            clear hg hsuf hsp
            cases s with
            | nil =>
              have hin : j = nD := by simpa using p1
              have hrr : rowN pr = r := by rw [← hr.out, HP.out, List.append_nil]
              subst hin
              have HH : Hid (Has2 wr w1.heap.size (.int .i64 c) (.int .i64 r)) := by have := HH.out; rwa [hrr] at this
              clear hr hDb HP HS p1 x0 x1 y0 y1
              obtain ⟨⟨x0, x1⟩, y0, y1⟩ := HH.out
              go_wp2_with fail
              refine (H1.out _).mono ?_
              rintro e w3 ⟨rfl, hg3⟩
              have G3 : Hid (Gr w1 w3) := GR.out.trans hg3
              have K3 : Hid (Has4 w3 w.heap.size (.int .i64 0) (.int .i64 0) (.bool false) (.bool false)) := K1.out.gr G3.out
              obtain ⟨⟨z0, z1⟩, _, _⟩ := HH.out.gr hg3
              clear hg3 x0 x1 y0 y1
              obtain ⟨c0, c1, c2, c3, f0, f1, f2, f3⟩ := K3.out
              cases V
              · have hE' : E = 20 := by rw [hE.out, if_pos trivial, if_neg (fun h => Bool.false_ne_true h.2.2)]
                subst hE'
                have hX' : Hid (refV 0 0 false false = X) := hX.out.symm
                have K4 : Hid (Has4 _ _ _ _ _ _) := K3.out.put (.int .i64 0) (.int .i64 0) (.bool false) (.bool false)
                clear hE hX
                go_wp2_with fail
                obtain ⟨d0, d1, d2, d3, _, _, _, _⟩ := K4.out
                refine bodyPost_ret (v := .tuple #[.agg #[.int .i64 0, .int .i64 0, .bool false, .bool false], .int .i64 20]) (by simp [results, Tryd.results18, go_sem, d0, d1, d2, d3]) rfl ?_
                exact ⟨rTwo hX'.out rfl, (G1.out.trans G3.out).put4 (Nat.le_refl _) _ _ _ _⟩
              · have hE' : E = 0 := by rw [hE.out, if_pos trivial, if_pos ⟨by omega, by omega, rfl⟩]
                subst hE'
                have hX' : Hid (refV c r C R = X) := hX.out.symm
                have K4 : Hid (Has4 _ _ _ _ _ _) := K3.out.put (.int .i64 c) (.int .i64 r) (.bool C) (.bool R)
                clear hE hX
                go_wp2_with fail
                obtain ⟨d0, d1, d2, d3, _, _, _, _⟩ := K4.out
                refine bodyPost_ret (v := .tuple #[.agg #[.int .i64 c, .int .i64 r, .bool C, .bool R], .int .i64 0]) (by simp [results, Tryd.results18, go_sem, d0, d1, d2, d3]) rfl ?_
                exact ⟨rTwo hX'.out rfl, (G1.out.trans G3.out).put4 (Nat.le_refl _) _ _ _ _⟩
            | cons b t =>
              have hlt : j < nD := by rw [List.length_cons] at p1; omega
              have hb := HS.out.byte
              have hbb := hDb.out b (by rw [HP.out]; simp)
              obtain ⟨b0, b1⟩ := hbb
              have hst : Hid (rowN (pr ++ [b]) = 10 * rowN pr + ((b.toNat : Int) - 48)) := rowN_snoc pr b
              clear p1
              generalize (b.toNat : Int) = B at *
              generalize rowN pr = rp at *
              go_wp2_with fail
              go_region
              go_wp2_with fail
              refine ⟨⟨j + 1, pr ++ [b], t, by rw [HP.out]; simp, HS.out.next, rfl, ?_, ((GR.out.setCell _ _ (Nat.le_refl _)).drew)⟩, by simp only [intOf]; omega⟩
              rw [hst.out]
              exact HH.out.put1 _
        | cons b t =>
          have hlt : i < nW := by rw [List.length_cons] at p1; omega
          have hb := HS.out.byte
          have hbb := hWb.out b (by rw [HP.out]; simp)
          obtain ⟨b0, b1⟩ := hbb
          have hst : Hid (colN (pre ++ [b]) = 26 * colN pre + ((b.toNat : Int) - 65) + 1) := colN_snoc pre b
          clear p1
          generalize (b.toNat : Int) = B at *
          generalize colN pre = cp at *
          go_wp2_with fail
          go_region
          go_wp2_with fail
          refine ⟨⟨i + 1, pre ++ [b], t, by rw [HP.out]; simp, HS.out.next, rfl, ?_, ((GR.out.setCell _ _ (Nat.le_refl _)).drew)⟩, by simp only [intOf]; omega⟩
          rw [hst.out]
          exact HH.out.put0 _
    · have hE' : E = 20 := by rw [hE.out, if_pos rfl, if_neg (fun h => g1 ⟨h.1, h.2.1⟩)]
      subst hE'
      have hX' : Hid (refV 0 0 false false = X) := hX.out.symm
      have g2 : 2 < nW ∨ (nW ≤ 2 ∧ 4 < nD) := by omega
      clear hE hX g1
      rcases g2 with g2 | ⟨g2, g3⟩
      all_goals
        go_enter Tryd.func18, Tryd.ntmps18
        go_wp2_with fail
        refine (H0.out _).mono ?_
        rintro e w1 ⟨rfl, hg⟩
        obtain ⟨c0, c1, c2, c3, f0, f1, f2, f3⟩ := K0.out.gr hg
        have K2 := (K0.out.gr hg).put (.int .i64 0) (.int .i64 0) (.bool false) (.bool false)
        have G1 : Hid (Gr w w1) := ((Gr.refl w).alloc _ _).trans hg
        clear hg
        have K3 : Hid (Has4 _ _ _ _ _ _) := K2
        clear K2
        go_wp2_with fail
        obtain ⟨d0, d1, d2, d3, _, _, _, _⟩ := K3.out
        refine bodyPost_ret (v := .tuple #[.agg #[.int .i64 0, .int .i64 0, .bool false, .bool false], .int .i64 20]) (by simp [results, Tryd.results18, go_sem, d0, d1, d2, d3]) rfl ?_
        exact ⟨rTwo hX'.out rfl, G1.out.put4 (Nat.le_refl _) _ _ _ _⟩
end Go.Proofs.YthehdloofamadaaDoor
