/- Rows of areas; areaOrder; slices.Clone and slices.SortFunc of areas (by wip/gen_areas.py). -/
import Derived.Test.YtkgolfmnlbmmeaaGreatDoorZe
namespace Go.Proofs.YtkgolfmnlbmmeaaGreatDoor
open Go.RowKit Go.Sort Go.Lib

/-- An area as two corners. -/
def tupA (a : Ar) : (Int × Int) × (Int × Int) := ((a.c1, a.r1), (a.c2, a.r2))
def arT (x : (Int × Int) × (Int × Int)) : Ar := ⟨x.1.1, x.1.2, x.2.1, x.2.2⟩
theorem arT_tup (a : Ar) : arT (tupA a) = a := rfl
theorem tup_arT (x : (Int × Int) × (Int × Int)) : tupA (arT x) = x := rfl
def encR (x : (Int × Int) × (Int × Int)) : List Value := [.int .i64 x.1.1, .int .i64 x.1.2, .int .i64 x.2.1, .int .i64 x.2.2]
theorem encR_len (x : (Int × Int) × (Int × Int)) : (encR x).length = 4 := rfl
theorem encR_one (x : (Int × Int) × (Int × Int)) : ∀ v ∈ encR x, v.oneCell' = true := by
  intro v hv
  simp only [encR, List.mem_cons, List.not_mem_nil, or_false] at hv
  rcases hv with rfl | rfl | rfl | rfl <;> rfl
theorem AreasAt.enc {w : World} {b o : Nat} {A : List Ar} (h : AreasAt w b o A) : EncAt encR 4 w b o (A.map tupA) := fun i x hx t v hv => by
  rw [List.getElem?_map] at hx
  cases ha : A[i]? with
  | none => rw [ha] at hx; cases hx
  | some a =>
    rw [ha] at hx
    cases hx
    obtain ⟨h1, h2, h3, h4⟩ := h i a ha
    match t, hv with
    | 0, hv => cases hv; exact h1
    | 1, hv => cases hv; exact h2
    | 2, hv => cases hv; exact h3
    | 3, hv => cases hv; exact h4
def cfR (x y : (Int × Int) × (Int × Int)) : Int := if ordC x.1.1 x.1.2 y.1.1 y.1.2 = 0 then ordC x.2.1 x.2.2 y.2.1 y.2.2 else ordC x.1.1 x.1.2 y.1.1 y.1.2
theorem cfR_lt (x y : (Int × Int) × (Int × Int)) : ltOf cfR x y = true ↔ x.1.2 < y.1.2 ∨ (x.1.2 = y.1.2 ∧ (x.1.1 < y.1.1 ∨ (x.1.1 = y.1.1 ∧ (x.2.2 < y.2.2 ∨ (x.2.2 = y.2.2 ∧ x.2.1 < y.2.1))))) := by
  unfold ltOf cfR ordC cmpI
  simp only [decide_eq_true_eq]
  repeat' split
  all_goals omega
theorem cfR_nlt (x y : (Int × Int) × (Int × Int)) : ltOf cfR x y = false ↔ y.1.2 < x.1.2 ∨ (x.1.2 = y.1.2 ∧ (y.1.1 < x.1.1 ∨ (x.1.1 = y.1.1 ∧ (y.2.2 < x.2.2 ∨ (x.2.2 = y.2.2 ∧ y.2.1 ≤ x.2.1))))) := by
  rw [← Bool.not_eq_true, cfR_lt]; omega
theorem swoR : SWO (ltOf cfR) := ⟨fun x => by rw [cfR_nlt]; omega, fun x y z h1 h2 => by rw [cfR_lt] at *; omega, fun x y z h1 h2 => by rw [cfR_nlt] at *; omega⟩
theorem cfR_same (x y : (Int × Int) × (Int × Int)) (h1 : ltOf cfR x y = false) (h2 : ltOf cfR y x = false) : x = y := by
  rw [cfR_nlt] at h1 h2
  exact Prod.ext (Prod.ext (by omega) (by omega)) (Prod.ext (by omega) (by omega))
theorem infoArea : ∃ i0, Tryz.prog.info? 52 = some i0 ∧ i0.zero = some (.agg #[.int .i64 0, .int .i64 0, .int .i64 0, .int .i64 0]) ∧ i0.size = 4 ∧ i0.bytes = 32 := by
  have h : (Tryz.prog.info? 52).map (fun i => (i.zero, i.size, i.bytes)) = some (some (.agg #[.int .i64 0, .int .i64 0, .int .i64 0, .int .i64 0]), 4, 32) := by kernel_rfl
  cases e : Tryz.prog.info? 52 with
  | none => rw [e] at h; cases h
  | some i =>
    rw [e] at h
    simp only [Option.map_some, Option.some.injEq, Prod.mk.injEq] at h
    exact ⟨i, rfl, h⟩
set_option maxHeartbeats 1000000 in
/-- Clone of a list without elements, wherever it stands. -/
theorem clone_emptyR (a : Addr) (c : Nat) (w : World) : Calls Tryz.prog 42 #[.slice (some a) 0 c] w fun e w' => ∃ v', e = .returned v' ∧ Own1 encR 4 w.heap.size w' v' [] ∧ Kp w w' Nul := by
  obtain ⟨i0, hi, hz0, hz1, hz2⟩ := infoArea
  have hq : ∀ (w : World) (a : Option Addr) (n c n' c' : Nat), (binOp .eql 31 (.slice a n c) (.slice none n' c')).run Tryz.prog w = .ok (.bool a.isNone) w := fun w a n c n' c' => Lib.run_eql_slice_nil w _ _ a n c n' c' Tryz.underlying31
  go_enter Tryz.func42, Tryz.ntmps42
  go_wp2_with (at_builtin; refine wpList_append_own _ rfl _ _ 31 rfl w.heap.size 52 i0 _ 4 32 Tryz.underlying31 hi hz0 hz1 hz2 rfl (by decide) _ _ _ rfl (World.ownsRow_made w #[] 0 (Nat.le_refl _) (Nat.zero_le _) (by simp)) a 0 c [] rfl ?qc1 ?qc2 ?qc3 ?qc4 ?qc5 ?qc6 ?_)
  case qc1 => rfl
  case qc2 => intro j u hj; simp at hj
  case qc3 => intro u hu; cases hu
  case qc4 => decide
  case qc5 => decide
  case qc6 => simp
  intro v' w1 hown hgrow hnil
  go_wp2
  go_ret
  refine ⟨v', rfl, ?_, ?_⟩
  · have hown' : w1.ownsRow w.heap.size 52 4 v' 0 (flatK encR 4 (#[] : Array ((Int × Int) × (Int × Int)))).toList := by
      have e : (flatK encR 4 (#[] : Array ((Int × Int) × (Int × Int)))).toList = [] := List.length_eq_zero_iff.1 (by simp)
      rw [e]
      simpa using hown
    rcases own_holds hown' with h | ⟨g, cap, h1, h2, h3, h4, h5, h6⟩
    · exact absurd h hnil
    · exact .inr ⟨g, cap, h1, h2, h3, h4, h5, h6⟩
  · exact Kp.of_below (((Below.refl _ w).alloc (Nat.le_refl _) _).grown hgrow (by simp) (by intro k hk; simp [Value.ownBlock] at hk; omega))
theorem clone_areas (A : List ((Int × Int) × (Int × Int))) (a : Option Addr) (c : Nat) (w : World) (hA : A.length ≤ 1048576) (ha : 0 < A.length → ∃ b o, a = some ⟨b, o, none⟩ ∧ EncAt encR 4 w b o A) :
    Calls Tryz.prog 42 #[.slice a A.length c] w fun e w' => ∃ v', e = .returned v' ∧ Own1 encR 4 w.heap.size w' v' A ∧ Kp w w' Nul := by
  rcases Nat.eq_zero_or_pos A.length with h0 | h0
  · have hn : A = [] := List.length_eq_zero_iff.1 h0
    subst hn
    cases a with
    | none =>
      refine (AnyE.slices_Clone_nil Tryz.layCloneArea _ c w).mono ?_
      rintro e w' ⟨rfl, rfl⟩
      exact ⟨_, rfl, .inl ⟨rfl, rfl⟩, Kp.refl _ _⟩
    | some ad => exact clone_emptyR ad c w
  · obtain ⟨b, o, rfl, hc⟩ := ha h0
    obtain ⟨i0, hi, hz0, hz1, hz2⟩ := infoArea
    refine (AnyE.slices_Clone Tryz.layCloneArea i0 _ 4 32 hi hz0 hz1 hz2 rfl (by decide) Tryz.sizeOf52 b o A.length c (flatK encR 4 A.toArray).toList w (by simp) (by unfold maxLen; omega) (by omega) (flat_cells encR_len hc) (flat_one encR_len encR_one _)).mono ?_
    rintro e w' ⟨v', rfl, hown, hne, hb⟩
    refine ⟨v', rfl, ?_, Kp.of_below hb⟩
    rcases own_holds hown with h | ⟨g, cap, h1, h2, h3, h4, h5, h6⟩
    · exact absurd h hne
    · exact .inr ⟨g, cap, h1, h2, h3, h4, h5, h6⟩
/-- areaOrder, the world behind it told exactly. -/
theorem areaOrder_v (V p q : Int) (h : V = if p = 0 then q else p) : (if p = 0 then q else p) = V := h.symm
set_option maxHeartbeats 4000000 in
theorem areaOrder_at (a b c d e f g h : Int) (w : World) :
    Calls Tryz.prog 68 #[.agg #[.int .i64 a, .int .i64 b, .int .i64 c, .int .i64 d], .agg #[.int .i64 e, .int .i64 f, .int .i64 g, .int .i64 h]] w fun x w' => x = .returned (.int .i64 (if ordC a b e f = 0 then ordC c d g h else ordC a b e f)) ∧ Grn w w' := by
  obtain ⟨W, hW⟩ : ∃ W, (w.alloc (.cells #[.int .i64 a, .int .i64 b, .int .i64 c, .int .i64 d] 52)).alloc (.cells #[.int .i64 e, .int .i64 f, .int .i64 g, .int .i64 h] 52) = W := ⟨_, rfl⟩
  have HW : Hid ((w.alloc (.cells #[.int .i64 a, .int .i64 b, .int .i64 c, .int .i64 d] 52)).alloc (.cells #[.int .i64 e, .int .i64 f, .int .i64 g, .int .i64 h] 52) = W) := hW
  have hg0 : Grn w W := by rw [← hW]; exact ((Grn.refl w).alloc _).alloc _
  have hA0 : Blk W w.heap.size [.int .i64 a, .int .i64 b, .int .i64 c, .int .i64 d] 52 := by rw [← hW]; exact (Blk.new w [.int .i64 a, .int .i64 b, .int .i64 c, .int .i64 d] _).alloc _
  have hB0 : Blk W (w.heap.size + 1) [.int .i64 e, .int .i64 f, .int .i64 g, .int .i64 h] 52 := by
    rw [← hW]
    have := Blk.new (w.alloc (.cells #[.int .i64 a, .int .i64 b, .int .i64 c, .int .i64 d] 52)) [.int .i64 e, .int .i64 f, .int .i64 g, .int .i64 h] 52
    rw [World.size_alloc] at this
    exact this
  have H1 : Hid (∀ wq, Grn W wq → Calls Tryz.prog 51 #[.agg #[.int .i64 a, .int .i64 b], .agg #[.int .i64 e, .int .i64 f]] wq fun x w' => x = .returned (.int .i64 (ordC a b e f)) ∧ Grn W w') := fun wq k => (pOrder_x a b e f wq).mono fun x w' ⟨h1, h2⟩ => ⟨h1, k.trans h2⟩
  have H2 : Hid (∀ wq, Grn W wq → Calls Tryz.prog 51 #[.agg #[.int .i64 c, .int .i64 d], .agg #[.int .i64 g, .int .i64 h]] wq fun x w' => x = .returned (.int .i64 (ordC c d g h)) ∧ Grn W w') := fun wq k => (pOrder_x c d g h wq).mono fun x w' ⟨h1, h2⟩ => ⟨h1, k.trans h2⟩
  have H3 : Hid (∀ wq b0 t, Grn W wq → b0 = wq.heap.size → Calls Tryz.prog 87 #[.slice (some ⟨b0, 0, none⟩) 2 2] (wq.alloc (.cells #[.int .i64 (ordC a b e f), .int .i64 (ordC c d g h)] t)) fun x w' => x = .returned (.int .i64 (if ordC a b e f = 0 then ordC c d g h else ordC a b e f)) ∧ Grn W w') := fun wq b0 t k eb => by
    subst eb
    have hb := Blk.new wq [.int .i64 (ordC a b e f), .int .i64 (ordC c d g h)] t
    refine (pOr_two wq.heap.size (ordC a b e f) (ordC c d g h) _ (hb.cell rfl) (hb.cell rfl)).mono ?_
    rintro x w' ⟨rfl, rfl⟩
    exact ⟨rfl, k.alloc _⟩
  have KS : Hid (∀ w', Grn W w' → ((w'.cell? ⟨w.heap.size, 0, none⟩ = some (.int .i64 a) ∧ w'.cell? ⟨w.heap.size, 1, none⟩ = some (.int .i64 b) ∧ w'.cell? ⟨w.heap.size, 2, none⟩ = some (.int .i64 c) ∧ w'.cell? ⟨w.heap.size, 3, none⟩ = some (.int .i64 d)) ∧
      w'.cell? ⟨w.heap.size + 1, 0, none⟩ = some (.int .i64 e) ∧ w'.cell? ⟨w.heap.size + 1, 1, none⟩ = some (.int .i64 f) ∧ w'.cell? ⟨w.heap.size + 1, 2, none⟩ = some (.int .i64 g) ∧ w'.cell? ⟨w.heap.size + 1, 3, none⟩ = some (.int .i64 h))) := fun w' k => by
    have q1 := hA0.kp (S := Nul) k.kp (fun x => x)
    have q2 := hB0.kp (S := Nul) k.kp (fun x => x)
    exact ⟨⟨q1.cell rfl, q1.cell rfl, q1.cell rfl, q1.cell rfl⟩, q2.cell rfl, q2.cell rfl, q2.cell rfl, q2.cell rfl⟩
  have HG0 : Hid (Grn w W) := hg0
  have HSZ : Hid (W.heap.size = w.heap.size + 1 + 1) := by show _ = _; rw [← hW, World.size_alloc, World.size_alloc]
  generalize (if ordC a b e f = 0 then ordC c d g h else ordC a b e f) = V at *
  generalize ordC a b e f = p at *
  generalize ordC c d g h = q at *
  clear hW hg0 hA0 hB0
  go_enter Tryz.func68, Tryz.ntmps68
  go_wp2_with fail
  rw [HW.out]
  go_region_held3 (fun w' => (w'.cell? ⟨w.heap.size, 0, none⟩ = some (.int .i64 a) ∧ w'.cell? ⟨w.heap.size, 1, none⟩ = some (.int .i64 b) ∧ w'.cell? ⟨w.heap.size, 2, none⟩ = some (.int .i64 c) ∧ w'.cell? ⟨w.heap.size, 3, none⟩ = some (.int .i64 d)) ∧
      w'.cell? ⟨w.heap.size + 1, 0, none⟩ = some (.int .i64 e) ∧ w'.cell? ⟨w.heap.size + 1, 1, none⟩ = some (.int .i64 f) ∧ w'.cell? ⟨w.heap.size + 1, 2, none⟩ = some (.int .i64 g) ∧ w'.cell? ⟨w.heap.size + 1, 3, none⟩ = some (.int .i64 h))
    (first | (refine KS.out _ ?_; assumption) | (exact KS.out _ ((Grn.refl _).drew)) | (refine KS.out _ (Grn.alloc ?_ _); assumption) | (exact KS.out _ (Grn.refl _)))
    (first
    | (go_at_call_of 51 (Value.agg #[.int .i64 a, .int .i64 b]); refine (H1.out _ (by first | assumption | exact (Grn.refl _).drew)).mono ?_; rintro x w1 ⟨rfl, hg1⟩)
    | (go_at_call_of 51 (Value.agg #[.int .i64 c, .int .i64 d]); refine (H2.out _ (by first | assumption | exact (Grn.refl _).drew)).mono ?_; rintro x w2 ⟨rfl, hg2⟩)
    | (go_at_call 87; refine (H3.out _ _ _ (by assumption) (by first | rfl | simp)).mono ?_; rintro x w3 ⟨rfl, hg3⟩))
  all_goals
    have HG3 : Hid (Grn w w3) := HG0.out.trans hg3
    clear hg3
    go_wp2_with fail
    go_ret
    exact ⟨rfl, HG3.out⟩
theorem areaOrder_x (x y : (Int × Int) × (Int × Int)) (w : World) :
    Calls Tryz.prog 68 #[.agg (encR x).toArray, .agg (encR y).toArray] w fun e w' => e = .returned (.int .i64 (cfR x y)) ∧ Grn w w' := areaOrder_at x.1.1 x.1.2 x.2.1 x.2.2 y.1.1 y.1.2 y.2.1 y.2.2 w
theorem sort_areas (A : List ((Int × Int) × (Int × Int))) (v : Value) (B : Nat) (w : World) (hA : A.length ≤ 1048576) (hv : Own1 encR 4 B w v A) :
    Calls Tryz.prog 101 #[v, .func (.func 68) #[] #[]] w fun e w' => e = .returned (.tuple #[]) ∧ Own1 encR 4 B w' v (A.mergeSort fun x y => !(ltOf cfR) y x) ∧ Kp w w' (fun i => B ≤ i) := by
  rcases hv with ⟨rfl, rfl⟩ | ⟨g, cap, rfl, h2, h3, h4, h5, h6⟩
  · refine (AnyF.slices_SortFunc_none Tryz.laySortFuncArea none 0 _ w).mono ?_
    rintro e w' ⟨rfl, rfl⟩
    exact ⟨rfl, .inl ⟨by simp, rfl⟩, Kp.refl _ _⟩
  · have hcmp : CmpLays Tryz.prog 68 #[] encR 4 cfR g 0 A.toArray.size w := fun m os dk _ x y => areaOrder_x x y _
    have hs := AnyQ.slices_SortFunc_total Tryz.laySortFuncArea 4 Tryz.isAgg52 Tryz.sizeOf52 encR encR_len encR_one cfR swoR 68 #[] g 0 cap A.toArray w (enters_of Tryz.func68 (by kernel_rfl) rfl) hcmp h4 h3 (by simp; omega) cfR_same
    refine hs.mono ?_
    rintro e w' ⟨rfl, n, os, rfl⟩
    have hk := sortWorldK_kp encR 4 w g 0 n (A.toArray.toList.mergeSort fun x y => !(ltOf cfR) y x).toArray os
    refine ⟨rfl, .inr ⟨g, cap, ?_, h2, ?_, ?_, ?_, h6⟩, hk.mono (fun i _ e => by subst e; exact h2)⟩
    · rw [List.length_mergeSort]
    · exact Nat.lt_of_lt_of_le h3 hk.size
    · exact holdsK_sortWorldK_c encR 4 w g 0 A.toArray _ n os h4 h3 (by simp [List.length_mergeSort])
    · rw [List.length_mergeSort]; exact h5
end Go.Proofs.YtkgolfmnlbmmeaaGreatDoor
