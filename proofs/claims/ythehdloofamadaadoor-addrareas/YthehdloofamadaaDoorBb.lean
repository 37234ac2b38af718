/- The document's Prefix. -/
import Derived.Test.YthehdloofamadaaDoorBa
import Derived.Laws.DeepStrings4
namespace Go.Proofs.YthehdloofamadaaDoor
open Go.RowKit

theorem rParse_any (l : List UInt8) (n : Int) (hn : (l.length : Int) = n) (hl : n < 140737488355328) (w : World) :
    Calls Tryd.prog 18 #[.string ⟨l.toArray⟩] w fun e w' => e = .returned (.tuple #[.agg #[.int .i64 (pc l), .int .i64 (pr l), .bool (pcf l), .bool (prf l)], .int .i64 (pE l)]) ∧ Gr w w' := by
  refine rParse_core l (fWord l) (fDig l) (dol l) (fRow l) (fOk l) (vC (colN (fWord l)) (rowN (fDig l))) _ _ _ _ w (fun w => rform_any l n hn hl w) (fun w => rValid_any _ _ w) rfl rfl (fWord_bd l) (fDig_bd l) _ _ rfl rfl (by omega) (by omega) ?_ ?_
  · show pE l = _
    unfold pE
    have h : ((fWord l).length ≤ 2 ∧ (fDig l).length ≤ 4 ∧ vC (colN (fWord l)) (rowN (fDig l)) = true) ↔ (((fWord l).length : Int) ≤ 2 ∧ ((fDig l).length : Int) ≤ 4 ∧ vC (colN (fWord l)) (rowN (fDig l)) = true) := by
      constructor
      · rintro ⟨h1, h2, h3⟩; exact ⟨by omega, by omega, h3⟩
      · rintro ⟨h1, h2, h3⟩; exact ⟨by omega, by omega, h3⟩
    simp only [h]
  · show _ = _
    unfold pc pr pcf prf refV
    split <;> rfl

set_option maxHeartbeats 4000000 in
theorem rPrefix_any (l : List UInt8) (n : Int) (hn : (l.length : Int) = n) (hl : n < 140737488355328) (w : World) :
    Calls Tryd.prog 22 #[.string ⟨l.toArray⟩] w fun e w' => e = .returned (.int .i64 (pfx l : Nat)) ∧ Gr w w' := by
  have H1 : Hid (∀ k w, Calls Tryd.prog 18 #[.string ⟨(l.take k).toArray⟩] w fun e w' => e = .returned (.tuple #[.agg #[.int .i64 (pc (l.take k)), .int .i64 (pr (l.take k)), .bool (pcf (l.take k)), .bool (prf (l.take k))], .int .i64 (pE (l.take k))]) ∧ Gr w w') :=
    fun k w => rParse_any (l.take k) _ rfl (by have := List.length_take_le k l; have := List.length_take_le' k l; omega) w
  have hn0 : 0 ≤ n := by omega
  obtain ⟨m, hm⟩ : ∃ m : Nat, m = min l.length 8 := ⟨_, rfl⟩
  have hmin : (if 8 < n then 8 else n) = (m : Int) := by split <;> omega
  have hm1 : (m : Int) ≤ n := by omega
  have hP : Hid (pfx l = pfxF m l) := by show _ = _; rw [hm]; rfl
  have hm8 : (m : Int) ≤ 8 := by omega
  have hex : Hid (∀ k : Nat, (ByteArray.mk l.toArray).extract 0 k = ⟨(l.take k).toArray⟩) := fun k => by
    rw [ByteArray.extract_mk]; simp
  generalize pfx l = P at *
  clear hm
  go_enter Tryd.func22, Tryd.ntmps22
  go_wp2_with fail
  go_loopw [3] (fun s wr => ∃ k : Nat, k ≤ m ∧ s = .int .i64 k ∧ pfxF m l = pfxF k l ∧ Gr w wr) (fun s _ => (intOf s).toNat)
  case atStart => exact ⟨m, Nat.le_refl _, rfl, rfl, Gr.refl w⟩
  case round =>
    as_aux_lemma =>
    obtain ⟨k, hk, rfl, hq, hg⟩ := hrel
    have GR : Hid (Gr w wr) := hg
    have HQ : Hid (pfxF m l = pfxF k l) := hq
    clear hg hq
    cases k with
    | zero =>
      clear hex
      go_wp2_with fail
      go_ret
      exact ⟨rInt (by rw [hP.out, HQ.out]; rfl), GR.out⟩
    | succ k =>
      have hk1 : ((k + 1 : Nat) : Int) ≤ n := by omega
      have hk2 : ((k + 1 : Nat) : Int) ≤ 8 := by omega
      have hk3 : 0 < ((k + 1 : Nat) : Int) := by omega
      have hx : (ByteArray.mk l.toArray).extract 0 (k + 1) = ⟨(l.take (k + 1)).toArray⟩ := hex.out (k + 1)
      have hst : Hid (pfxF (k + 1) l = if pE (l.take (k + 1)) = 0 then k + 1 else pfxF k l) := rfl
      have H2 := H1.out (k + 1)
      have H2' : Hid _ := H2
      clear H1 hex H2
      generalize pE (l.take (k + 1)) = E at *
      have hpos : ((k + 1 : Nat) : Int) - 1 = k := by omega
      by_cases hE : E = 0
      · subst hE
        go_wp2_with fail
        refine (H2'.out _).mono ?_
        rintro e w2 ⟨rfl, hg⟩
        have G2 : Hid (Gr w w2) := GR.out.trans hg
        clear hg
        go_wp2_with fail
        go_ret
        exact ⟨rInt (by rw [hP.out, HQ.out, hst.out]; simp), G2.out.alloc _ _⟩
      · have hE' : (E == 0) = false := by simpa using hE
        have hst' : Hid (pfxF (k + 1) l = pfxF k l) := by show _ = _; rw [hst.out, if_neg hE]
        clear hE hst
        go_wp2_with fail
        refine (H2'.out _).mono ?_
        rintro e w2 ⟨rfl, hg⟩
        have G2 : Hid (Gr w w2) := GR.out.trans hg
        clear hg
        go_wp2_with fail
        refine ⟨⟨k, by omega, by go_num, by rw [HQ.out, hst'.out], G2.out.alloc _ _⟩, by simp only [intOf]; omega⟩
end Go.Proofs.YthehdloofamadaaDoor
