/- The document's ParseArea. -/
import Derived.Test.YthehdloofamadaaDoorBb
import Derived.Test.YthehdloofamadaaDoorAt
import Derived.Test.YthehdloofamadaaDoorBr
namespace Go.Proofs.YthehdloofamadaaDoor
open Go.RowKit

set_option maxHeartbeats 8000000 in
set_option maxRecDepth 20000 in
theorem rParseArea_core (l la lb : List UInt8) (n at0 : Int) (hn : (l.length : Int) = n) (hl : n < 140737488355328) (w : World)
    (c r c1 r1 c2 r2 e0 e1 e2 E z : Int) (f g f1 g1 f2 g2 : Bool) (Y1 Y2 Y3 Y4 : Int)
    (hat : Hid (atF 0 l = at0)) (hrng : at0 = -1 ∨ (0 ≤ at0 ∧ at0 < n)) (hla : Hid (l.take at0.toNat = la)) (hlb : Hid (l.drop (at0.toNat + 1) = lb))
    (H0 : Hid (∀ w, Calls Tryd.prog 18 #[.string ⟨l.toArray⟩] w fun e w' => e = .returned (.tuple #[.agg #[.int .i64 c, .int .i64 r, .bool f, .bool g], .int .i64 e0]) ∧ Gr w w'))
    (H1 : Hid (∀ w, Calls Tryd.prog 18 #[.string ⟨la.toArray⟩] w fun e w' => e = .returned (.tuple #[.agg #[.int .i64 c1, .int .i64 r1, .bool f1, .bool g1], .int .i64 e1]) ∧ Gr w w'))
    (H2 : Hid (∀ w, Calls Tryd.prog 18 #[.string ⟨lb.toArray⟩] w fun e w' => e = .returned (.tuple #[.agg #[.int .i64 c2, .int .i64 r2, .bool f2, .bool g2], .int .i64 e2]) ∧ Gr w w'))
    (H3 : Hid (∀ w, Calls Tryd.prog 30 #[.agg #[.int .i64 c1, .int .i64 r1], .agg #[.int .i64 c2, .int .i64 r2]] w fun e w' => e = .returned (.tuple #[.agg #[.int .i64 Y1, .int .i64 Y2, .int .i64 Y3, .int .i64 Y4], .int .i64 z]) ∧ Gr w w'))
    (V : Value)
    (hE : Hid (E = if at0 < 0 then e0 else if e1 = 3 ∨ e2 = 3 then 3 else if e1 ≠ 0 then e1 else if e2 ≠ 0 then e2 else z))
    (hV : Hid (V = if at0 < 0 then if e0 = 0 then areaV c r c r else areaV 0 0 0 0 else if e1 = 0 ∧ e2 = 0 then areaV Y1 Y2 Y3 Y4 else areaV 0 0 0 0)) :
    Calls Tryd.prog 20 #[.string ⟨l.toArray⟩] w fun e w' => e = .returned (.tuple #[V, .int .i64 E]) ∧ Gr w w' := by
  have K0 : Hid (Has4 (w.alloc (.cells #[.int .i64 0, .int .i64 0, .int .i64 0, .int .i64 0] 38)) w.heap.size (.int .i64 0) (.int .i64 0) (.int .i64 0) (.int .i64 0)) := has4_new _ _ _ _ _ _
  go_enter Tryd.func20, Tryd.ntmps20
  go_wp2_with fail
  have G0 : Hid (Gr w (w.alloc (.cells #[.int .i64 0, .int .i64 0, .int .i64 0, .int .i64 0] 38))) := (Gr.refl w).alloc _ _
  generalize w.alloc (.cells #[.int .i64 0, .int .i64 0, .int .i64 0, .int .i64 0] 38) = w1 at *
  go_loopw [4, 5] (fun sa si wr => ∃ (i a : Int) (pre s : List UInt8), l = pre ++ s ∧ (pre.length : Int) = i + 1 ∧ a = atF (i + 1) s ∧ sa = .int .i64 a ∧ si = .int .i64 i ∧ wr = w1) (fun _ si _ => (intOf si + 1).toNat)
  case atStart => exact ⟨n - 1, -1, l, [], by simp, by omega, rfl, rfl, rfl, rfl⟩
  case round =>
    as_aux_lemma =>
    obtain ⟨i, a, pre, s, hsp, hi, ha, rfl, rfl, hw⟩ := hrel
    subst hw
    have HP : Hid (l = pre ++ s) := hsp
    have HI : Hid ((pre.length : Int) = i + 1) := hi
    have HA : Hid (a = atF (i + 1) s) := ha
    have hi0 : -1 ≤ i := by omega
    have hi1 : i < n := by have := congrArg List.length hsp; rw [List.length_append] at this; omega
    clear hsp hi ha
    by_cases hz : i = -1
    · have hp0 : pre = [] := by have := HI.out; rw [hz] at this; exact List.eq_nil_of_length_eq_zero (by omega)
      have haa : a = at0 := by
        rw [HA.out, ← hat.out, hz, HP.out, hp0]; rfl
      subst hz
      have haa' := haa.symm
      subst haa'
      clear haa
      clear HP HI HA hi0 hi1 hp0 hat
      have K1 : Hid (Has4 wr w.heap.size (.int .i64 0) (.int .i64 0) (.int .i64 0) (.int .i64 0)) := K0.out
      clear K0
      rcases hrng with hrng | ⟨hr0, hr1⟩
      · subst hrng
        by_cases h0 : e0 = 0
        · subst h0
          have hE' : E = 0 := hE.out
          have hV' : Hid (areaV c r c r = V) := hV.out.symm
          subst hE'
          clear hE hV H1 H2 H3
          go_wp2_with fail
          refine (H0.out _).mono ?_
          rintro e w3 ⟨rfl, hg⟩
          have G3 : Hid (Gr w w3) := G0.out.trans hg
          have K3 : Hid (Has4 (w3.alloc (.cells #[.int .i64 c, .int .i64 r, .bool f, .bool g] 25)) w.heap.size (.int .i64 0) (.int .i64 0) (.int .i64 0) (.int .i64 0)) := (K1.out.gr hg).gr ((Gr.refl _).alloc _ _)
          clear hg
          obtain ⟨k0, k1, k2, k3, m0, m1, m2, m3⟩ := K3.out
          have K4 : Hid (Has4 _ _ _ _ _ _) := K3.out.put (.int .i64 c) (.int .i64 r) (.int .i64 c) (.int .i64 r)
          go_wp2_with fail
          obtain ⟨d0, d1, d2, d3, _, _, _, _⟩ := K4.out
          refine bodyPost_ret (v := .tuple #[.agg #[.int .i64 c, .int .i64 r, .int .i64 c, .int .i64 r], .int .i64 0]) (by simp [results, Tryd.results20, go_sem, d0, d1, d2, d3]) rfl ?_
          exact ⟨rTwo hV'.out rfl, (G3.out.alloc _ _).put4 (Nat.le_refl _) _ _ _ _⟩
        · have hE' : E = e0 := hE.out
          have hV' : Hid (areaV 0 0 0 0 = V) := by show _ = _; rw [hV.out, if_pos (by decide), if_neg h0]
          have h0' : (e0 == 0) = false := by simpa using h0
          subst hE'
          clear hE hV H1 H2 H3 h0
          go_wp2_with fail
          refine (H0.out _).mono ?_
          rintro e w3 ⟨rfl, hg⟩
          have G3 : Hid (Gr w w3) := G0.out.trans hg
          have K3 : Hid (Has4 (w3.alloc (.cells #[.int .i64 c, .int .i64 r, .bool f, .bool g] 25)) w.heap.size (.int .i64 0) (.int .i64 0) (.int .i64 0) (.int .i64 0)) := (K1.out.gr hg).gr ((Gr.refl _).alloc _ _)
          clear hg
          obtain ⟨k0, k1, k2, k3, m0, m1, m2, m3⟩ := K3.out
          have K4 : Hid (Has4 _ _ _ _ _ _) := K3.out.put (.int .i64 0) (.int .i64 0) (.int .i64 0) (.int .i64 0)
          go_wp2_with fail
          obtain ⟨d0, d1, d2, d3, _, _, _, _⟩ := K4.out
          refine bodyPost_ret (v := .tuple #[.agg #[.int .i64 0, .int .i64 0, .int .i64 0, .int .i64 0], .int .i64 E]) (by simp [results, Tryd.results20, go_sem, d0, d1, d2, d3]) rfl ?_
          exact ⟨rTwo hV'.out rfl, (G3.out.alloc _ _).put4 (Nat.le_refl _) _ _ _ _⟩
      · have hneg : ¬ at0 < 0 := by omega
        have hx1 : (ByteArray.mk l.toArray).extract 0 at0.toNat = ⟨la.toArray⟩ := by
          rw [ByteArray.extract_mk, ← hla.out]; simp
        have hx2 : (ByteArray.mk l.toArray).extract (at0 + 1).toNat l.length = ⟨lb.toArray⟩ := by
          rw [ByteArray.extract_mk, ← hlb.out, show (at0 + 1).toNat = at0.toNat + 1 by omega, List.take_of_length_le (by rw [List.length_drop]; omega)]
        have hE2 : Hid (E = if e1 = 3 ∨ e2 = 3 then 3 else if e1 ≠ 0 then e1 else if e2 ≠ 0 then e2 else z) := by show _ = _; rw [hE.out, if_neg hneg]
        have hV2 : Hid (V = if e1 = 0 ∧ e2 = 0 then areaV Y1 Y2 Y3 Y4 else areaV 0 0 0 0) := by show _ = _; rw [hV.out, if_neg hneg]
        clear hE hV H0 hla hlb hneg
        go_wp2_with fail
        refine (H1.out _).mono ?_
        rintro e w3 ⟨rfl, hg⟩
        have G3 : Hid (Gr w w3) := G0.out.trans hg
        have K3 : Hid (Has4 w3 w.heap.size (.int .i64 0) (.int .i64 0) (.int .i64 0) (.int .i64 0)) := K1.out.gr hg
        clear hg K1 H1 hx1
        go_wp2_with fail
        refine (H2.out _).mono ?_
        rintro e w4 ⟨rfl, hg⟩
        have G4 : Hid (Gr w w4) := (G3.out.alloc _ _).trans hg
        have K5 : Hid (Has4 (w4.alloc (.cells #[.int .i64 c2, .int .i64 r2, .bool f2, .bool g2] 25)) w.heap.size (.int .i64 0) (.int .i64 0) (.int .i64 0) (.int .i64 0)) := ((K3.out.gr ((Gr.refl _).alloc _ _)).gr hg).gr ((Gr.refl _).alloc _ _)
        have A5 : Hid (Has4 (w4.alloc (.cells #[.int .i64 c2, .int .i64 r2, .bool f2, .bool g2] 25)) w3.heap.size (.int .i64 c1) (.int .i64 r1) (.bool f1) (.bool g1)) := ((has4_new w3 _ _ _ _ _).gr hg).gr ((Gr.refl _).alloc _ _)
        have B5 : Hid (Has4 (w4.alloc (.cells #[.int .i64 c2, .int .i64 r2, .bool f2, .bool g2] 25)) w4.heap.size (.int .i64 c2) (.int .i64 r2) (.bool f2) (.bool g2)) := has4_new w4 _ _ _ _ _
        clear hg K3 H2 hx2
        by_cases h1 : e1 = 3 ∨ e2 = 3
        · have hE' : E = 3 := by rw [hE2.out, if_pos h1]
          have hV' : Hid (areaV 0 0 0 0 = V) := by show _ = _; rw [hV2.out, if_neg (by omega)]
          have h1' : e1 = 3 ∨ ((e1 == 3) = false ∧ e2 = 3) := by
            rcases h1 with h | h
            · exact .inl h
            · by_cases h3 : e1 = 3
              · exact .inl h3
              · exact .inr ⟨by simpa using h3, h⟩
          subst hE'
          clear h1 hE2 hV2 H3 A5 B5
          rcases h1' with h1 | ⟨h1, h2⟩
          · subst h1
            have K6 : Hid (Has4 _ _ _ _ _ _) := K5.out.put (.int .i64 0) (.int .i64 0) (.int .i64 0) (.int .i64 0)
            obtain ⟨k0, k1, k2, k3, m0, m1, m2, m3⟩ := K5.out
            go_wp2_with fail
            obtain ⟨d0, d1, d2, d3, _, _, _, _⟩ := K6.out
            refine bodyPost_ret (v := .tuple #[.agg #[.int .i64 0, .int .i64 0, .int .i64 0, .int .i64 0], .int .i64 3]) (by simp [results, Tryd.results20, go_sem, d0, d1, d2, d3]) rfl ?_
            exact ⟨rTwo hV'.out rfl, (G4.out.alloc _ _).put4 (Nat.le_refl _) _ _ _ _⟩
          · subst h2
            have K6 : Hid (Has4 _ _ _ _ _ _) := K5.out.put (.int .i64 0) (.int .i64 0) (.int .i64 0) (.int .i64 0)
            obtain ⟨k0, k1, k2, k3, m0, m1, m2, m3⟩ := K5.out
            go_wp2_with fail
            obtain ⟨d0, d1, d2, d3, _, _, _, _⟩ := K6.out
            refine bodyPost_ret (v := .tuple #[.agg #[.int .i64 0, .int .i64 0, .int .i64 0, .int .i64 0], .int .i64 3]) (by simp [results, Tryd.results20, go_sem, d0, d1, d2, d3]) rfl ?_
            exact ⟨rTwo hV'.out rfl, (G4.out.alloc _ _).put4 (Nat.le_refl _) _ _ _ _⟩
        · have n1 : (e1 == 3) = false := by rw [beq_eq_false_iff_ne]; omega
          have n2 : (e2 == 3) = false := by rw [beq_eq_false_iff_ne]; omega
          by_cases h2 : e1 = 0
          · by_cases h3 : e2 = 0
            · have hE' : E = z := by rw [hE2.out, if_neg h1, if_neg (by omega), if_neg (by omega)]
              have hV' : Hid (areaV Y1 Y2 Y3 Y4 = V) := by show _ = _; rw [hV2.out, if_pos ⟨h2, h3⟩]
              subst hE' h2 h3
              clear hE2 hV2 h1 n1 n2
              obtain ⟨a0, a1, a2, a3, _, _, _, _⟩ := A5.out
              obtain ⟨b0, b1, b2, b3, _, _, _, _⟩ := B5.out
              go_wp2_with fail
              refine (H3.out _).mono ?_
              rintro e w6 ⟨rfl, hg⟩
              have G6 : Hid (Gr w w6) := (G4.out.alloc _ _).trans hg
              have K7 : Hid (Has4 w6 w.heap.size (.int .i64 0) (.int .i64 0) (.int .i64 0) (.int .i64 0)) := K5.out.gr hg
              clear hg K5 A5 B5 a0 a1 a2 a3 b0 b1 b2 b3
              have K6 : Hid (Has4 _ _ _ _ _ _) := K7.out.put (.int .i64 Y1) (.int .i64 Y2) (.int .i64 Y3) (.int .i64 Y4)
              obtain ⟨k0, k1, k2, k3, m0, m1, m2, m3⟩ := K7.out
              go_wp2_with fail
              obtain ⟨d0, d1, d2, d3, _, _, _, _⟩ := K6.out
              refine bodyPost_ret (v := .tuple #[.agg #[.int .i64 Y1, .int .i64 Y2, .int .i64 Y3, .int .i64 Y4], .int .i64 E]) (by simp [results, Tryd.results20, go_sem, d0, d1, d2, d3]) rfl ?_
              exact ⟨rTwo hV'.out rfl, G6.out.put4 (Nat.le_refl _) _ _ _ _⟩
            · have hE' : E = e2 := by rw [hE2.out, if_neg h1, if_neg (by omega), if_pos h3]
              have hV' : Hid (areaV 0 0 0 0 = V) := by show _ = _; rw [hV2.out, if_neg (by omega)]
              have n3 : (e2 == 0) = false := by rw [beq_eq_false_iff_ne]; omega
              subst hE' h2
              clear hE2 hV2 h1 h3 n1 H3 A5 B5
              have K6 : Hid (Has4 _ _ _ _ _ _) := K5.out.put (.int .i64 0) (.int .i64 0) (.int .i64 0) (.int .i64 0)
              obtain ⟨k0, k1, k2, k3, m0, m1, m2, m3⟩ := K5.out
              go_wp2_with fail
              obtain ⟨d0, d1, d2, d3, _, _, _, _⟩ := K6.out
              refine bodyPost_ret (v := .tuple #[.agg #[.int .i64 0, .int .i64 0, .int .i64 0, .int .i64 0], .int .i64 E]) (by simp [results, Tryd.results20, go_sem, d0, d1, d2, d3]) rfl ?_
              exact ⟨rTwo hV'.out rfl, (G4.out.alloc _ _).put4 (Nat.le_refl _) _ _ _ _⟩
          · have hE' : E = e1 := by rw [hE2.out, if_neg h1, if_pos h2]
            have hV' : Hid (areaV 0 0 0 0 = V) := by show _ = _; rw [hV2.out, if_neg (by omega)]
            have n3 : (e1 == 0) = false := by rw [beq_eq_false_iff_ne]; omega
            subst hE'
            clear hE2 hV2 h1 h2 H3 A5 B5
            have K6 : Hid (Has4 _ _ _ _ _ _) := K5.out.put (.int .i64 0) (.int .i64 0) (.int .i64 0) (.int .i64 0)
            obtain ⟨k0, k1, k2, k3, m0, m1, m2, m3⟩ := K5.out
            go_wp2_with fail
            obtain ⟨d0, d1, d2, d3, _, _, _, _⟩ := K6.out
            refine bodyPost_ret (v := .tuple #[.agg #[.int .i64 0, .int .i64 0, .int .i64 0, .int .i64 0], .int .i64 E]) (by simp [results, Tryd.results20, go_sem, d0, d1, d2, d3]) rfl ?_
            exact ⟨rTwo hV'.out rfl, (G4.out.alloc _ _).put4 (Nat.le_refl _) _ _ _ _⟩
    · have hi2 : 0 ≤ i := by omega
      obtain ⟨p', b, hpb⟩ : ∃ p' b, pre = p' ++ [b] := by
        have : pre ≠ [] := by intro h; have := HI.out; rw [h] at this; simp at this; omega
        exact ⟨pre.dropLast, pre.getLast this, (List.dropLast_concat_getLast this).symm⟩
      have hp1 : (p'.length : Int) = i := by have := HI.out; rw [hpb, List.length_append, List.length_singleton] at this; omega
      have hl' : l = p' ++ b :: s := by rw [HP.out, hpb]; simp
      have hsuf : Suf l (b :: s) i := ⟨p', hl', hp1⟩
      have hb := hsuf.byte
      have hst : Hid (atF i (b :: s) = if b = 58 then i else atF (i + 1) s) := rfl
      have HL : Hid (l = p' ++ b :: s) := hl'
      have HQ : Hid ((p'.length : Int) = i - 1 + 1) := by show _ = _; omega
      clear hz HP HI hpb hp1 hl' hsuf
      by_cases h58 : b = 58
      · have hb58 : bi l i.toNat = 58 := by rw [hb, h58]; rfl
        have hst' : Hid (atF i (b :: s) = i) := by show _ = _; rw [hst.out, if_pos h58]
        clear hb h58 hst
        go_wp2_with fail
        refine ⟨⟨i - 1, i, p', b :: s, HL.out, HQ.out, ?_, rfl, rfl, trivial⟩, by simp only [intOf]; omega⟩
        rw [show i - 1 + 1 = i by omega]; exact hst'.out.symm
      · have hb58 : ((b.toNat : Int) == 58) = false := by
          rw [beq_eq_false_iff_ne]; intro h
          exact h58 (UInt8.toNat_inj.1 (by show b.toNat = 58; omega))
        have hst' : Hid (atF i (b :: s) = atF (i + 1) s) := by show _ = _; rw [hst.out, if_neg h58]
        clear h58 hst
        go_wp2_with fail
        refine ⟨⟨i - 1, a, p', b :: s, HL.out, HQ.out, ?_, rfl, rfl, trivial⟩, by simp only [intOf]; omega⟩
        rw [show i - 1 + 1 = i by omega, hst'.out]; exact HA.out
end Go.Proofs.YthehdloofamadaaDoor
