/- A cell's text is read as that cell; what was read is told by a text as long. No function of the program here. -/
import Derived.Test.YthehdloofamadaaDoorFa
import Derived.Test.YthehdloofamadaaDoorAy
namespace Go.Proofs.YthehdloofamadaaDoor
open Go.RowKit

theorem map_upB {W : List UInt8} (h : W.all isU = true) : W.map upB = W := by
  induction W with
  | nil => rfl
  | cons a W ih =>
    simp only [List.all_cons, Bool.and_eq_true] at h
    rw [List.map_cons, (isU_L h.1).2.1, ih h.2]
theorem dol_iff (l : List UInt8) : dol l = true ↔ ∃ t, l = 36 :: t := by
  cases l with
  | nil => simp [dol]
  | cons a t => simp [dol]
/-- What form tells of a text that was put together. -/
theorem form_of (W D : List UInt8) (cf rf : Bool) (hW0 : W ≠ []) (hW : W.all isU = true) (hD : D.all isD = true) (hD0 : nz D = true) :
    dol ((if cf then [36] else []) ++ W ++ (if rf then [36] else []) ++ D) = cf ∧ fWord ((if cf then [36] else []) ++ W ++ (if rf then [36] else []) ++ D) = W ∧ fRow ((if cf then [36] else []) ++ W ++ (if rf then [36] else []) ++ D) = rf ∧ fDig ((if cf then [36] else []) ++ W ++ (if rf then [36] else []) ++ D) = D ∧ fOk ((if cf then [36] else []) ++ W ++ (if rf then [36] else []) ++ D) = true := by
  obtain ⟨a, W', rfl⟩ : ∃ a W', W = a :: W' := by
    cases W with
    | nil => exact absurd rfl hW0
    | cons a W' => exact ⟨a, W', rfl⟩
  have ha : isU a = true := by simp only [List.all_cons, Bool.and_eq_true] at hW; exact hW.1
  obtain ⟨b, D', rfl⟩ : ∃ b D', D = b :: D' := by
    cases D with
    | nil => simp [nz] at hD0
    | cons b D' => exact ⟨b, D', rfl⟩
  have hb : isD b = true := by simp only [List.all_cons, Bool.and_eq_true] at hD; exact hD.1
  have hdol : dol ((if cf then [36] else []) ++ (a :: W') ++ (if rf then [36] else []) ++ (b :: D')) = cf := by
    cases cf
    · show (a == 36) = false
      rw [beq_eq_false_iff_ne]; exact (isU_L ha).2.2.1
    · rfl
  have hcut : cutD ((if cf then [36] else []) ++ (a :: W') ++ (if rf then [36] else []) ++ (b :: D')) = (a :: W') ++ ((if rf then [36] else []) ++ (b :: D')) := by
    unfold cutD
    rw [hdol]
    cases cf
    · simp
    · simp
  have hsp := while_split isL (a :: W') ((if rf then [36] else []) ++ (b :: D')) (fun x hx => (isU_L (List.all_eq_true.1 hW x hx)).1) (by
    intro x t hx
    cases rf
    · simp at hx; rw [← hx.1]; exact (isD_not hb).1
    · simp at hx; rw [← hx.1]; rfl)
  have hword : fWord ((if cf then [36] else []) ++ (a :: W') ++ (if rf then [36] else []) ++ (b :: D')) = a :: W' := by
    unfold fWord; rw [hcut, hsp.1, map_upB hW]
  have hB : fB ((if cf then [36] else []) ++ (a :: W') ++ (if rf then [36] else []) ++ (b :: D')) = (if rf then [36] else []) ++ (b :: D') := by
    unfold fB; rw [hcut, hsp.2]
  have hrow : fRow ((if cf then [36] else []) ++ (a :: W') ++ (if rf then [36] else []) ++ (b :: D')) = rf := by
    unfold fRow; rw [hword, hB]
    cases rf
    · show (true && (b == 36)) = false
      rw [Bool.true_and, beq_eq_false_iff_ne]; exact (isD_not hb).2.1
    · rfl
  have hC : fC ((if cf then [36] else []) ++ (a :: W') ++ (if rf then [36] else []) ++ (b :: D')) = b :: D' := by
    unfold fC; rw [hrow, hB]
    cases rf <;> simp
  have hsd := while_split isD (b :: D') [] (fun x hx => List.all_eq_true.1 hD x hx) (by intro x t hx; cases hx)
  rw [List.append_nil] at hsd
  have hdig : fDig ((if cf then [36] else []) ++ (a :: W') ++ (if rf then [36] else []) ++ (b :: D')) = b :: D' := by
    unfold fDig; rw [hC, hsd.1]
  have hend : fEnd ((if cf then [36] else []) ++ (a :: W') ++ (if rf then [36] else []) ++ (b :: D')) = [] := by
    unfold fEnd; rw [hC, hsd.2]
  refine ⟨hdol, hword, hrow, hdig, ?_⟩
  unfold fOk; rw [hend, hword, hdig, hD0]; rfl

theorem lets_fine (c : Int) (h1 : 1 ≤ c) (h2 : c ≤ 256) : lets 9 c.toNat ≠ [] ∧ (lets 9 c.toNat).length ≤ 2 ∧ (lets 9 c.toNat).all isU = true ∧ colN (lets 9 c.toNat) = c := by
  rcases okL_all c.toNat (by omega) with h | h
  · omega
  · simp only [okL, Bool.and_eq_true, decide_eq_true_eq, beq_iff_eq, Bool.not_eq_true'] at h
    refine ⟨?_, h.1.1.1, h.1.2, by omega⟩
    intro h0
    rw [h0] at h
    simp at h
theorem digs_fine (r : Int) (h1 : 1 ≤ r) (h2 : r ≤ 4096) : (digs 13 r.toNat).length ≤ 4 ∧ (digs 13 r.toNat).all isD = true ∧ nz (digs 13 r.toNat) = true ∧ rowN (digs 13 r.toNat) = r := by
  have e : 65 * (r.toNat / 65) + r.toNat % 65 = r.toNat := Nat.div_add_mod _ _
  rcases okD_all (r.toNat / 65) (by omega) (r.toNat % 65) (by omega) with h | h
  · omega
  · rw [e] at h
    simp only [okD, Bool.and_eq_true, decide_eq_true_eq, beq_iff_eq] at h
    exact ⟨h.1.1.1, h.1.1.2, h.1.2, by omega⟩

/-- A cell's text is read as that cell. -/
theorem parse_text (c r : Int) (cf rf : Bool) (h : vC c r = true) : pE (txt c r cf rf) = 0 ∧ pc (txt c r cf rf) = c ∧ pr (txt c r cf rf) = r ∧ pcf (txt c r cf rf) = cf ∧ prf (txt c r cf rf) = rf := by
  obtain ⟨h1, h2, h3, h4⟩ := (vC_iff c r).1 h
  obtain ⟨l1, l2, l3, l4⟩ := lets_fine c h1 h2
  obtain ⟨d1, d2, d3, d4⟩ := digs_fine r h3 h4
  obtain ⟨f1, f2, f3, f4, f5⟩ := form_of (lets 9 c.toNat) (digs 13 r.toNat) cf rf l1 l3 d2 d3
  have hE : pE (txt c r cf rf) = 0 := by
    unfold pE txt
    rw [if_pos f5, f2, f4, l4, d4, if_pos ⟨l2, d1, h⟩]
  refine ⟨hE, ?_, ?_, ?_, ?_⟩
  · unfold pc; rw [if_pos hE]; unfold txt; rw [f2, l4]
  · unfold pr; rw [if_pos hE]; unfold txt; rw [f4, d4]
  · unfold pcf; rw [if_pos hE]; unfold txt; rw [f1]
  · unfold prf; rw [if_pos hE]; unfold txt; rw [f3]

theorem pE_zero {l : List UInt8} (h : pE l = 0) : fOk l = true ∧ (fWord l).length ≤ 2 ∧ (fDig l).length ≤ 4 ∧ vC (colN (fWord l)) (rowN (fDig l)) = true ∧ pc l = colN (fWord l) ∧ pr l = rowN (fDig l) ∧ pcf l = dol l ∧ prf l = fRow l := by
  have h' := h
  unfold pE at h'
  by_cases h1 : fOk l = true
  · rw [if_pos h1] at h'
    by_cases h2 : (fWord l).length ≤ 2 ∧ (fDig l).length ≤ 4 ∧ vC (colN (fWord l)) (rowN (fDig l)) = true
    · exact ⟨h1, h2.1, h2.2.1, h2.2.2, by unfold pc; rw [if_pos h], by unfold pr; rw [if_pos h], by unfold pcf; rw [if_pos h], by unfold prf; rw [if_pos h]⟩
    · rw [if_neg h2] at h'; omega
  · rw [if_neg h1] at h'; omega
/-- How long a text of a cell's form is. -/
theorem form_len (l : List UInt8) (h : fOk l = true) : l.length = (if dol l then 1 else 0) + (fWord l).length + (if fRow l then 1 else 0) + (fDig l).length := by
  have hend : fEnd l = [] := by
    unfold fOk at h
    simp only [Bool.and_eq_true] at h
    simpa using h.1.1
  have h1 : l.length = (if dol l then 1 else 0) + (cutD l).length := by
    unfold cutD
    cases hd : dol l
    · simp
    · obtain ⟨t, rfl⟩ := (dol_iff l).1 hd
      simp; omega
  have h2 : (cutD l).length = (fWord l).length + (fB l).length := by
    unfold fWord fB
    rw [List.length_map, ← List.length_append, List.takeWhile_append_dropWhile]
  have h3 : (fB l).length = (if fRow l then 1 else 0) + (fC l).length := by
    unfold fC
    cases hr : fRow l
    · simp
    · have : dol (fB l) = true := by unfold fRow at hr; simp only [Bool.and_eq_true] at hr; exact hr.2
      obtain ⟨t, ht⟩ := (dol_iff _).1 this
      rw [ht]
      simp; omega
  have h4 : (fC l).length = (fDig l).length + (fEnd l).length := by
    unfold fDig fEnd
    rw [← List.length_append, List.takeWhile_append_dropWhile]
  rw [hend] at h4
  simp only [List.length_nil] at h4
  omega
theorem fOk_parts {l : List UInt8} (h : fOk l = true) : fWord l ≠ [] ∧ nz (fDig l) = true := by
  unfold fOk at h
  simp only [Bool.and_eq_true] at h
  refine ⟨?_, h.2⟩
  intro h0
  rw [h0] at h
  simp at h
/-- What was read is told by a text as long. -/
theorem text_parse_len (l : List UInt8) (h : pE l = 0) : vC (pc l) (pr l) = true ∧ (txt (pc l) (pr l) (pcf l) (prf l)).length = l.length := by
  obtain ⟨h1, h2, h3, h4, e1, e2, e3, e4⟩ := pE_zero h
  obtain ⟨w0, d0⟩ := fOk_parts h1
  have hL := lets_back (fWord l) w0 h2 (fWord_bd l)
  have hD := digs_back (fDig l) d0 h3 (fDig_bd l)
  refine ⟨by rw [e1, e2]; exact h4, ?_⟩
  unfold txt
  rw [e1, e2, e3, e4, hL, hD, form_len l h1]
  simp only [List.length_append]
  cases dol l <;> cases fRow l <;> simp
theorem parse_short (l : List UInt8) (h : pE l = 0) : 0 < l.length ∧ l.length ≤ 8 := by
  obtain ⟨h1, h2, h3, _⟩ := pE_zero h
  obtain ⟨w0, _⟩ := fOk_parts h1
  have hl := form_len l h1
  have : 0 < (fWord l).length := by
    cases hw : fWord l with
    | nil => exact absurd hw w0
    | cons a t => simp
  split at hl <;> split at hl <;> omega
/-- What is read is its own longest beginning. -/
theorem prefix_parse (l : List UInt8) (h : pE l = 0) : pfx l = l.length := by
  obtain ⟨h1, h2⟩ := parse_short l h
  unfold pfx
  rw [Nat.min_eq_left h2]
  cases hl : l.length with
  | zero => omega
  | succ n =>
    rw [pfxF, List.take_of_length_le (by omega), if_pos h]
end Go.Proofs.YthehdloofamadaaDoor
