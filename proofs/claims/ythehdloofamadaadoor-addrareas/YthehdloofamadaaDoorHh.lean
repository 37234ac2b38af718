/- strings.Cut at a colon; the program's ParseArea. -/
import Derived.Test.YthehdloofamadaaDoorHg
import Derived.Test.YthehdloofamadaaDoorDc
import Derived.Test.YthehdloofamadaaDoorSh
import Derived.Test.YthehdloofamadaaDoorTt
import Derived.Test.YthehdloofamadaaDoorLc
namespace Go.Proofs.YthehdloofamadaaDoor
open Go.RowKit

theorem atF_index (p : Int) (l : List UInt8) : atF p l = if Lib.indexByte l 58 = -1 then -1 else p + Lib.indexByte l 58 := by
  induction l generalizing p with
  | nil => rfl
  | cons b l ih =>
    rw [atF, Lib.indexByte]
    by_cases hb : b = 58
    · rw [if_pos hb]
      have : (b == 58) = true := by rw [hb]; rfl
      rw [if_pos this]; simp
    · rw [if_neg hb]
      have : ¬ (b == 58) = true := by simpa using hb
      rw [if_neg this, ih]
      have hg := Lib.indexByte_ge l 58
      by_cases hi : Lib.indexByte l 58 = -1
      · have h2 : (Lib.indexByte l 58 == -1) = true := by rw [hi]; rfl
        rw [if_pos hi, if_pos h2, if_pos rfl]
      · have h2 : ¬ (Lib.indexByte l 58 == -1) = true := by simpa using hi
        rw [if_neg hi, if_neg h2, if_neg (by omega)]; omega
theorem index_atF (l : List UInt8) : Lib.indexByte l 58 = atF 0 l := by
  rw [atF_index]
  split
  · assumption
  · simp

set_option maxHeartbeats 4000000 in
theorem pCutLite (l la lb : List UInt8) (N i : Int) (hN : (l.length : Int) = N) (hNb : N < 140737488355328) (hi : Hid (Lib.indexByte l 58 = i)) (hi0 : -1 ≤ i) (hi1 : i < N) (w : World)
    (ha : Hid (0 ≤ i → la = l.take i.toNat)) (hb : Hid (0 ≤ i → lb = l.drop (i.toNat + 1))) :
    Calls Tryd.prog 57 #[.string ⟨l.toArray⟩, .string ⟨#[58]⟩] w fun e w' => e = .returned (if 0 ≤ i then .tuple #[.string ⟨la.toArray⟩, .string ⟨lb.toArray⟩, .bool true] else .tuple #[.string ⟨l.toArray⟩, .string ⟨#[]⟩, .bool false]) ∧ Gr w w' := by
  have H1 : Hid (∀ w, Calls Tryd.prog 60 #[.string ⟨l.toArray⟩, .string ⟨#[58]⟩] w fun e w' => e = .returned (.int .i64 i) ∧ w' = w) := fun w => by
    have := Tryd.stringslite_Index_one ⟨l.toArray⟩ 58 w
    rw [show (ByteArray.mk l.toArray).data.toList = l from rfl, hi.out] at this
    exact this
  by_cases h0 : 0 ≤ i
  · rw [if_pos h0]
    have hx1 : (ByteArray.mk l.toArray).extract 0 i.toNat = ⟨la.toArray⟩ := by
      rw [ByteArray.extract_mk, ha.out h0]; simp
    have hx2 : (ByteArray.mk l.toArray).extract (i + 1).toNat l.length = ⟨lb.toArray⟩ := by
      rw [ByteArray.extract_mk, hb.out h0, show (i + 1).toNat = i.toNat + 1 by omega, List.take_of_length_le (by rw [List.length_drop]; omega)]
    have i1 : i ≤ N := by omega
    have i2 : i + 1 ≤ N := by omega
    have i3 : 0 ≤ i + 1 := by omega
    have i4 : IntKind.i64.wrap (i + 1) = i + 1 := by rw [IntKind.wrap_i64]; omega
    clear hi ha hb hi0
    go_enter Tryd.func57, Tryd.ntmps57
    go_wp2_with fail
    refine (H1.out _).mono ?_
    rintro e w' ⟨rfl, rfl⟩
    go_wp2_with fail
    go_region_held3 (fun _ => True) (trivial) (fail)
    all_goals
      go_wp2_with fail
      refine bodyPost_ret (v := .tuple #[.string ⟨la.toArray⟩, .string ⟨lb.toArray⟩, .bool true]) (by simp [results, Tryd.results57, go_sem, *]) rfl ?_
      exact ⟨rfl, (Gr.refl _).drew⟩
  · rw [if_neg h0]
    have h1 : i < 0 := by omega
    clear h0 hi ha hb
    go_enter Tryd.func57, Tryd.ntmps57
    go_wp2_with fail
    refine (H1.out _).mono ?_
    rintro e w' ⟨rfl, rfl⟩
    go_wp2_with fail
    refine bodyPost_ret (v := .tuple #[.string ⟨l.toArray⟩, .string ⟨#[]⟩, .bool false]) (by simp [results, Tryd.results57, go_sem, *]) rfl ?_
    exact ⟨rfl, Gr.refl _⟩

/-- What Cut answers. -/
def cutV (l : List UInt8) : Value := if 0 ≤ atF 0 l then .tuple #[.string ⟨(ahead l).toArray⟩, .string ⟨(behind l).toArray⟩, .bool true] else .tuple #[.string ⟨l.toArray⟩, .string ⟨#[]⟩, .bool false]
theorem atF_bd (l : List UInt8) : -1 ≤ atF 0 l ∧ atF 0 l < l.length := by
  rcases atF_spec 0 l (by decide) with ⟨h, _⟩ | ⟨a, t, h1, _, h3⟩
  · rw [h]; omega
  · rw [h3, h1, List.length_append, List.length_cons]; omega
theorem pCutLite_any (l : List UInt8) (hl : (l.length : Int) < 140737488355328) (w : World) :
    Calls Tryd.prog 57 #[.string ⟨l.toArray⟩, .string ⟨#[58]⟩] w fun e w' => e = .returned (cutV l) ∧ Gr w w' :=
  pCutLite l (ahead l) (behind l) l.length (atF 0 l) rfl hl (index_atF l) (atF_bd l).1 (atF_bd l).2 w (fun _ => rfl) (fun _ => rfl)
set_option maxHeartbeats 1000000 in
theorem pCut_any (l : List UInt8) (hl : (l.length : Int) < 140737488355328) (w : World) :
    Calls Tryd.prog 49 #[.string ⟨l.toArray⟩, .string ⟨#[58]⟩] w fun e w' => e = .returned (cutV l) ∧ Gr w w' := by
  have H1 : Hid (∀ w, Calls Tryd.prog 57 #[.string ⟨l.toArray⟩, .string ⟨#[58]⟩] w fun e w' => e = .returned (cutV l) ∧ Gr w w') := pCutLite_any l hl
  unfold cutV at *
  by_cases h0 : 0 ≤ atF 0 l
  · simp only [if_pos h0] at *
    generalize ahead l = A at *
    generalize behind l = B at *
    clear h0 hl
    go_enter Tryd.func49, Tryd.ntmps49
    go_wp2_with fail
    refine (H1.out _).mono ?_
    rintro e w1 ⟨rfl, hg⟩
    have G1 : Hid (Gr w w1) := hg
    clear hg
    go_wp2_with fail
    refine bodyPost_ret (v := .tuple #[.string ⟨A.toArray⟩, .string ⟨B.toArray⟩, .bool true]) (by simp [results, Tryd.results49, go_sem, *]) rfl ?_
    exact ⟨rfl, G1.out⟩
  · simp only [if_neg h0] at *
    clear h0 hl
    go_enter Tryd.func49, Tryd.ntmps49
    go_wp2_with fail
    refine (H1.out _).mono ?_
    rintro e w1 ⟨rfl, hg⟩
    have G1 : Hid (Gr w w1) := hg
    clear hg
    go_wp2_with fail
    refine bodyPost_ret (v := .tuple #[.string ⟨l.toArray⟩, .string ⟨#[]⟩, .bool false]) (by simp [results, Tryd.results49, go_sem, *]) rfl ?_
    exact ⟨rfl, G1.out⟩

set_option maxHeartbeats 8000000 in
theorem pParseArea_core (l F X L : List UInt8) (two : Bool) (w : World) (p q p2 q2 e1 e2 y1 y2 y3 y4 z E Y1 Y2 Y3 Y4 : Int) (pf qf pf2 qf2 : Bool)
    (H1 : Hid (∀ w, Calls Tryd.prog 49 #[.string ⟨l.toArray⟩, .string ⟨#[58]⟩] w fun e w' => e = .returned (.tuple #[.string ⟨F.toArray⟩, .string ⟨X.toArray⟩, .bool two]) ∧ Gr w w'))
    (hX : Hid (L = if two then X else F))
    (H2 : Hid (∀ w, Calls Tryd.prog 17 #[.string ⟨F.toArray⟩] w fun e w' => e = .returned (.tuple #[.agg #[.int .i64 p, .int .i64 q, .bool pf, .bool qf], .int .i64 e1]) ∧ Below w.heap.size w w'))
    (H3 : Hid (∀ w, Calls Tryd.prog 17 #[.string ⟨L.toArray⟩] w fun e w' => e = .returned (.tuple #[.agg #[.int .i64 p2, .int .i64 q2, .bool pf2, .bool qf2], .int .i64 e2]) ∧ Below w.heap.size w w'))
    (H4 : Hid (∀ w, Calls Tryd.prog 29 #[.agg #[.int .i64 p, .int .i64 q], .agg #[.int .i64 p2, .int .i64 q2]] w fun e w' => e = .returned (.tuple #[.agg #[.int .i64 y1, .int .i64 y2, .int .i64 y3, .int .i64 y4], .int .i64 z]) ∧ Gr w w'))
    (hE : Hid (((e1 = 3 ∨ e2 = 3) ∧ E = 3 ∧ Y1 = 0 ∧ Y2 = 0 ∧ Y3 = 0 ∧ Y4 = 0) ∨ (¬ e1 = 3 ∧ ¬ e2 = 3 ∧ E = z ∧ Y1 = y1 ∧ Y2 = y2 ∧ Y3 = y3 ∧ Y4 = y4))) :
    Calls Tryd.prog 19 #[.string ⟨l.toArray⟩] w fun e w' => e = .returned (.tuple #[.agg #[.int .i64 Y1, .int .i64 Y2, .int .i64 Y3, .int .i64 Y4], .int .i64 E]) ∧ Below w.heap.size w w' := by
  have hX' : (two = true ∧ L = X) ∨ (two = false ∧ L = F) := by
    cases two
    · right; exact ⟨rfl, hX.out⟩
    · left; exact ⟨rfl, hX.out⟩
  have B0 : Hid (Below w.heap.size w (w.alloc (.cells #[.int .i64 0, .int .i64 0, .int .i64 0, .int .i64 0] 38))) := (Below.refl _ _).alloc (Nat.le_refl _) _
  have K0 : Hid (Has4 (w.alloc (.cells #[.int .i64 0, .int .i64 0, .int .i64 0, .int .i64 0] 38)) w.heap.size (.int .i64 0) (.int .i64 0) (.int .i64 0) (.int .i64 0)) := has4_new w _ _ _ _ _
  clear hX
  rcases hX' with ⟨rfl, rfl⟩ | ⟨rfl, rfl⟩
  all_goals
    go_enter Tryd.func19, Tryd.ntmps19
    go_wp2_with fail
    refine (H1.out _).mono ?_
    rintro e w1 ⟨rfl, hg⟩
    have B1 : Hid (Below w.heap.size w w1) := B0.out.trans (hg.below.mono (by simp))
    have K1 : Hid (Has4 w1 w.heap.size (.int .i64 0) (.int .i64 0) (.int .i64 0) (.int .i64 0)) := K0.out.gr hg
    clear hg B0 K0 H1
    go_wp2_with fail
    refine (H2.out _).mono ?_
    rintro e w2 ⟨rfl, hb⟩
    have B2 : Hid (Below w.heap.size w (w2.alloc (.cells #[.int .i64 p, .int .i64 q, .bool pf, .bool qf] 25))) := (B1.out.trans (hb.mono B1.out.size)).alloc (B1.out.trans (hb.mono B1.out.size)).size _
    have K2 : Hid (Has4 (w2.alloc (.cells #[.int .i64 p, .int .i64 q, .bool pf, .bool qf] 25)) w.heap.size (.int .i64 0) (.int .i64 0) (.int .i64 0) (.int .i64 0)) := (K1.out.bel hb).gr ((Gr.refl _).alloc _ _)
    have A2 : Hid (Has4 (w2.alloc (.cells #[.int .i64 p, .int .i64 q, .bool pf, .bool qf] 25)) w2.heap.size (.int .i64 p) (.int .i64 q) (.bool pf) (.bool qf)) := has4_new _ _ _ _ _ _
    clear hb B1 K1 H2
    go_wp2_with fail
    refine (H3.out _).mono ?_
    rintro e w3 ⟨rfl, hb⟩
    have B3 : Hid (Below w.heap.size w (w3.alloc (.cells #[.int .i64 p2, .int .i64 q2, .bool pf2, .bool qf2] 25))) := (B2.out.trans (hb.mono B2.out.size)).alloc (B2.out.trans (hb.mono B2.out.size)).size _
    have K3 : Hid (Has4 (w3.alloc (.cells #[.int .i64 p2, .int .i64 q2, .bool pf2, .bool qf2] 25)) w.heap.size (.int .i64 0) (.int .i64 0) (.int .i64 0) (.int .i64 0)) := (K2.out.bel hb).gr ((Gr.refl _).alloc _ _)
    have A3 : Hid (Has4 (w3.alloc (.cells #[.int .i64 p2, .int .i64 q2, .bool pf2, .bool qf2] 25)) w2.heap.size (.int .i64 p) (.int .i64 q) (.bool pf) (.bool qf)) := (A2.out.bel hb).gr ((Gr.refl _).alloc _ _)
    have C3 : Hid (Has4 (w3.alloc (.cells #[.int .i64 p2, .int .i64 q2, .bool pf2, .bool qf2] 25)) w3.heap.size (.int .i64 p2) (.int .i64 q2) (.bool pf2) (.bool qf2)) := has4_new _ _ _ _ _ _
    clear hb B2 K2 A2 H3
    have hE' := hE.out
    clear hE
    rcases hE' with ⟨h, rfl, rfl, rfl, rfl, rfl⟩ | ⟨h1, h2, rfl, rfl, rfl, rfl, rfl⟩
    · have h' : e1 = 3 ∨ ((e1 == 3) = false ∧ e2 = 3) := by
        by_cases h1 : e1 = 3
        · exact .inl h1
        · exact .inr ⟨by rw [beq_eq_false_iff_ne]; exact h1, h.resolve_left h1⟩
      clear h
      have K4 : Hid (Has4 _ _ _ _ _ _) := K3.out.put (.int .i64 0) (.int .i64 0) (.int .i64 0) (.int .i64 0)
      have B4 : Hid (Below w.heap.size w _) := (((B3.out.setCell (p := ⟨w.heap.size, 0, none⟩) (Nat.le_refl _) (.int .i64 0)).setCell (p := ⟨w.heap.size, 1, none⟩) (Nat.le_refl _) (.int .i64 0)).setCell (p := ⟨w.heap.size, 2, none⟩) (Nat.le_refl _) (.int .i64 0)).setCell (p := ⟨w.heap.size, 3, none⟩) (Nat.le_refl _) (.int .i64 0)
      obtain ⟨k0, k1, k2, k3, m0, m1, m2, m3⟩ := K3.out
      rcases h' with rfl | ⟨h1, rfl⟩
      all_goals
        go_wp2_with fail
        obtain ⟨d0, d1, d2, d3, _, _, _, _⟩ := K4.out
        refine bodyPost_ret (v := .tuple #[.agg #[.int .i64 0, .int .i64 0, .int .i64 0, .int .i64 0], .int .i64 3]) (by simp [results, Tryd.results19, go_sem, d0, d1, d2, d3]) rfl ?_
        exact ⟨rfl, B4.out⟩
    · have h1' : (e1 == 3) = false := by rw [beq_eq_false_iff_ne]; exact h1
      have h2' : (e2 == 3) = false := by rw [beq_eq_false_iff_ne]; exact h2
      clear h1 h2
      obtain ⟨a0, a1, a2, a3, _, _, _, _⟩ := A3.out
      obtain ⟨c0, c1, c2, c3, _, _, _, _⟩ := C3.out
      go_wp2_with fail
      refine (H4.out _).mono ?_
      rintro e w4 ⟨rfl, hg⟩
      have K4 : Hid (Has4 w4 w.heap.size (.int .i64 0) (.int .i64 0) (.int .i64 0) (.int .i64 0)) := K3.out.gr hg
      have B4 : Hid (Below w.heap.size w w4) := B3.out.trans (hg.below.mono B3.out.size)
      clear hg a0 a1 a2 a3 c0 c1 c2 c3 A3 C3 K3 B3
      have K5 : Hid (Has4 _ _ _ _ _ _) := K4.out.put (.int .i64 Y1) (.int .i64 Y2) (.int .i64 Y3) (.int .i64 Y4)
      have B5 : Hid (Below w.heap.size w _) := (((B4.out.setCell (p := ⟨w.heap.size, 0, none⟩) (Nat.le_refl _) (.int .i64 Y1)).setCell (p := ⟨w.heap.size, 1, none⟩) (Nat.le_refl _) (.int .i64 Y2)).setCell (p := ⟨w.heap.size, 2, none⟩) (Nat.le_refl _) (.int .i64 Y3)).setCell (p := ⟨w.heap.size, 3, none⟩) (Nat.le_refl _) (.int .i64 Y4)
      obtain ⟨k0, k1, k2, k3, m0, m1, m2, m3⟩ := K4.out
      go_wp2_with fail
      obtain ⟨d0, d1, d2, d3, _, _, _, _⟩ := K5.out
      refine bodyPost_ret (v := .tuple #[.agg #[.int .i64 Y1, .int .i64 Y2, .int .i64 Y3, .int .i64 Y4], .int .i64 E]) (by simp [results, Tryd.results19, go_sem, d0, d1, d2, d3]) rfl ?_
      exact ⟨rfl, B5.out⟩
end Go.Proofs.YthehdloofamadaaDoor
