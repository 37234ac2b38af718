/- slices.Compact of cells. Rows of areas; areaOrder; slices.Clone and slices.SortFunc of areas (by wip/gen_areas.py). slices.Compact of cells, walked. ordered, at cells. slices.Compact of areas (by wip/gen_areas2.py); ordered, at areas. -/
import Derived.Test.YtdlieecpckpemaaGreatDoorLcZd
import Derived.BigQuiet
import Derived.Lib.SliceRun
import Derived.Test.YtdlieecpckpemaaGreatDoorLcGa
namespace Go.Proofs.YtdlieecpckpemaaGreatDoor
open Go.RowKit Go.Sort Go.Lib

/-- A row of cells that may be written. -/
def RowA (w : World) (b o : Nat) (d : Array (Int × Int)) : Prop := ∀ j, j < d.size → (w.cell? ⟨b, o + j * 2, none⟩ = some (.int .i64 d[j]!.1) ∧ w.cell? ⟨b, o + j * 2 + 1, none⟩ = some (.int .i64 d[j]!.2)) ∧ (w.frozen? ⟨b, o + j * 2, none⟩ = false ∧ w.frozen? ⟨b, o + j * 2 + 1, none⟩ = false)
theorem RowA.of {w : World} {b o : Nat} {d : Array (Int × Int)} (h : HoldsK encA 2 w b o d) : RowA w b o d := fun j hj => by
  have h0 := h.cell (i := j) (c := 0) hj (by decide)
  have h1 := h.cell (i := j) (c := 1) hj (by decide)
  exact ⟨⟨h0.1, h1.1⟩, h0.2, h1.2⟩
theorem RowA.set {w : World} {b o : Nat} {d : Array (Int × Int)} (h : RowA w b o d) (i : Nat) (hi : i < d.size) (x : Int × Int) :
    RowA ((w.setCell ⟨b, o + i * 2, none⟩ (.int .i64 x.1)).setCell ⟨b, o + i * 2 + 1, none⟩ (.int .i64 x.2)) b o (d.setIfInBounds i x) := fun j hj => by
  have hj' : j < d.size := by simpa using hj
  obtain ⟨⟨h1, h2⟩, h3, h4⟩ := h j hj'
  refine ⟨?_, by rw [World.frozen?_setCell, World.frozen?_setCell]; exact h3, by rw [World.frozen?_setCell, World.frozen?_setCell]; exact h4⟩
  by_cases e : j = i
  · subst e
    rw [getElem!_set_same d j x hj']
    refine ⟨?_, ?_⟩
    · rw [World.cell?_setCell_other _ _ _ _ (by simp), World.cell?_setCell_same _ _ _ h1]
    · have h2' : (w.setCell ⟨b, o + j * 2, none⟩ (.int .i64 x.1)).cell? ⟨b, o + j * 2 + 1, none⟩ = some (.int .i64 d[j]!.2) := by rw [World.cell?_setCell_other _ _ _ _ (by simp)]; exact h2
      exact World.cell?_setCell_same _ _ _ h2'
  · rw [getElem!_set_other d i j x e]
    have n1 : o + j * 2 ≠ o + i * 2 := by omega
    have n2 : o + j * 2 ≠ o + i * 2 + 1 := by omega
    have n3 : o + j * 2 + 1 ≠ o + i * 2 := by omega
    have n4 : o + j * 2 + 1 ≠ o + i * 2 + 1 := by omega
    have m1 : (⟨b, o + j * 2, none⟩ : Addr) ≠ ⟨b, o + i * 2, none⟩ := fun h => n1 (congrArg Addr.off h)
    have m2 : (⟨b, o + j * 2, none⟩ : Addr) ≠ ⟨b, o + i * 2 + 1, none⟩ := fun h => n2 (congrArg Addr.off h)
    have m3 : (⟨b, o + j * 2 + 1, none⟩ : Addr) ≠ ⟨b, o + i * 2, none⟩ := fun h => n3 (congrArg Addr.off h)
    have m4 : (⟨b, o + j * 2 + 1, none⟩ : Addr) ≠ ⟨b, o + i * 2 + 1, none⟩ := fun h => n4 (congrArg Addr.off h)
    exact ⟨by rw [World.cell?_setCell_other _ _ _ _ m2.symm, World.cell?_setCell_other _ _ _ _ m1.symm]; exact h1, by rw [World.cell?_setCell_other _ _ _ _ m4.symm, World.cell?_setCell_other _ _ _ _ m3.symm]; exact h2⟩
theorem setCells_kp (b : Nat) : ∀ (vs : List Value) (o : Nat) (w : World), Kp w (w.setCells b o vs) (fun i => i = b)
  | [], o, w => Kp.refl _ _
  | v :: r, o, w => by
    rw [World.setCells]
    exact ((Kp.refl w (fun i => i = b)).setCell ⟨b, o, none⟩ v (.inr rfl)).trans (setCells_kp b r (o + 1) _)
theorem setCells_low (b : Nat) : ∀ (vs : List Value) (o : Nat) (w : World) (j : Nat), j < o → (w.setCells b o vs).cell? ⟨b, j, none⟩ = w.cell? ⟨b, j, none⟩
  | [], o, w, j, _ => rfl
  | v :: r, o, w, j, h => by
    rw [World.setCells, setCells_low b r (o + 1) _ j (by omega), World.cell?_setCell_other _ _ _ _ (fun h => by have := congrArg Addr.off h; simp at this; omega)]
/-- clear of a slice of structs. -/
theorem clear_is (w : World) (t e ty : TypeId) (z : Value) (ht : Tryz.prog.underlying t = some (.slice e)) (hv : ∀ w, (zeroValue e).run Tryz.prog w = .ok z w) (b o n c : Nat) (hn : 0 < n)
    (hc : ∀ j, j < (Builtin.zeroCells z.cells n).toList.length → (w.cell? ⟨b, o + j, none⟩).isSome = true) (hf : ∀ j, j < (Builtin.zeroCells z.cells n).toList.length → w.frozen? ⟨b, o + j, none⟩ = false) (h1 : ∀ v ∈ (Builtin.zeroCells z.cells n).toList, v.oneCell' = true) :
    (Builtin.clear_ #[t] ty #[.slice (some ⟨b, o, none⟩) n c]).run Tryz.prog w = .ok (.tuple #[]) (w.setCells b o (Builtin.zeroCells z.cells n).toList) := by
  have hst := run_storeCells_cells (P := Tryz.prog) b o (Builtin.zeroCells z.cells n).toList 0 w (by simpa using hc) (by simpa using hf) h1
  simp only [Nat.add_zero] at hst
  obtain ⟨m, rfl⟩ : ∃ m, n = m + 1 := ⟨n - 1, by omega⟩
  simp [Builtin.clear_, run_underlying ht, hv, hst]
theorem RowA.low {w w' : World} {b o : Nat} {d : Array (Int × Int)} (h : RowA w b o d) (m : Nat) (hl : ∀ j, j < m * 2 → w'.cell? ⟨b, o + j, none⟩ = w.cell? ⟨b, o + j, none⟩) : CellsAt w' b o (d.toList.take m) := fun i x hx => by
  rw [List.getElem?_take] at hx
  split at hx
  · rename_i hi
    obtain ⟨hi2, hx⟩ := List.getElem?_eq_some_iff.1 hx
    have hi3 : i < d.size := by simpa using hi2
    have ex : d[i]! = x := by rw [getElem!_pos d _ hi3, ← hx]; simp
    obtain ⟨⟨h1, h2⟩, _⟩ := h i hi3
    rw [ex] at h1 h2
    rw [hl (i * 2) (by omega), Nat.add_assoc o, hl (i * 2 + 1) (by omega), ← Nat.add_assoc]
    exact ⟨h1, h2⟩
  · cases hx
theorem zeroAddr_cells (n : Nat) : (Builtin.zeroCells (Value.agg #[.int .i64 0, .int .i64 0]).cells n).toList = List.replicate (n * 2) (.int .i64 0) := by
  apply List.ext_getElem?
  intro i
  simp only [Builtin.zeroCells, Value.cells, Array.toList_map, List.getElem?_map, Array.toList_range, List.getElem?_replicate]
  by_cases h : i < n * 2
  · rw [if_pos h, List.getElem?_range (by simpa using h)]
    have : i % 2 = 0 ∨ i % 2 = 1 := by omega
    rcases this with e | e <;> simp [e]
  · rw [if_neg h, List.getElem?_eq_none (by simpa using h)]
    rfl
end Go.Proofs.YtdlieecpckpemaaGreatDoor
namespace Go.Proofs.YtdlieecpckpemaaGreatDoor
open Go.RowKit Go.Sort Go.Lib

/-- An area as two corners. -/
def tupA (a : Ar) : (Int × Int) × (Int × Int) := ((a.c1, a.r1), (a.c2, a.r2))
def arT (x : (Int × Int) × (Int × Int)) : Ar := ⟨x.1.1, x.1.2, x.2.1, x.2.2⟩
def encR (x : (Int × Int) × (Int × Int)) : List Value := [.int .i64 x.1.1, .int .i64 x.1.2, .int .i64 x.2.1, .int .i64 x.2.2]
theorem encR_len (x : (Int × Int) × (Int × Int)) : (encR x).length = 4 := rfl
theorem encR_one (x : (Int × Int) × (Int × Int)) : ∀ v ∈ encR x, v.oneCell' = true := by
  intro v hv
  simp only [encR, List.mem_cons, List.not_mem_nil, or_false] at hv
  rcases hv with rfl | rfl | rfl | rfl <;> rfl
theorem AreasAt.enc {w : World} {b o : Nat} {A : List Ar} (h : AreasAt w b o A) : EncAt encR 4 w b o (A.map tupA) := fun i x hx t v hv => by
  rw [List.getElem?_map] at hx
  cases ha : A[i]? with
  | none => rw [ha] at hx; cases hx
  | some a =>
    rw [ha] at hx
    cases hx
    obtain ⟨h1, h2, h3, h4⟩ := h i a ha
    match t, hv with
    | 0, hv => cases hv; exact h1
    | 1, hv => cases hv; exact h2
    | 2, hv => cases hv; exact h3
    | 3, hv => cases hv; exact h4
def cfR (x y : (Int × Int) × (Int × Int)) : Int := if ordC x.1.1 x.1.2 y.1.1 y.1.2 = 0 then ordC x.2.1 x.2.2 y.2.1 y.2.2 else ordC x.1.1 x.1.2 y.1.1 y.1.2
theorem cfR_lt (x y : (Int × Int) × (Int × Int)) : ltOf cfR x y = true ↔ x.1.2 < y.1.2 ∨ (x.1.2 = y.1.2 ∧ (x.1.1 < y.1.1 ∨ (x.1.1 = y.1.1 ∧ (x.2.2 < y.2.2 ∨ (x.2.2 = y.2.2 ∧ x.2.1 < y.2.1))))) := by
  unfold ltOf cfR ordC cmpI
  simp only [decide_eq_true_eq]
  repeat' split
  all_goals omega
theorem cfR_nlt (x y : (Int × Int) × (Int × Int)) : ltOf cfR x y = false ↔ y.1.2 < x.1.2 ∨ (x.1.2 = y.1.2 ∧ (y.1.1 < x.1.1 ∨ (x.1.1 = y.1.1 ∧ (y.2.2 < x.2.2 ∨ (x.2.2 = y.2.2 ∧ y.2.1 ≤ x.2.1))))) := by
  rw [← Bool.not_eq_true, cfR_lt]; omega
theorem swoR : SWO (ltOf cfR) := ⟨fun x => by rw [cfR_nlt]; omega, fun x y z h1 h2 => by rw [cfR_lt] at *; omega, fun x y z h1 h2 => by rw [cfR_nlt] at *; omega⟩
theorem cfR_same (x y : (Int × Int) × (Int × Int)) (h1 : ltOf cfR x y = false) (h2 : ltOf cfR y x = false) : x = y := by
  rw [cfR_nlt] at h1 h2
  exact Prod.ext (Prod.ext (by omega) (by omega)) (Prod.ext (by omega) (by omega))
theorem infoArea : ∃ i0, Tryz.prog.info? 52 = some i0 ∧ i0.zero = some (.agg #[.int .i64 0, .int .i64 0, .int .i64 0, .int .i64 0]) ∧ i0.size = 4 ∧ i0.bytes = 32 := by
  have h : (Tryz.prog.info? 52).map (fun i => (i.zero, i.size, i.bytes)) = some (some (.agg #[.int .i64 0, .int .i64 0, .int .i64 0, .int .i64 0]), 4, 32) := by kernel_rfl
  cases e : Tryz.prog.info? 52 with
  | none => rw [e] at h; cases h
  | some i =>
    rw [e] at h
    simp only [Option.map_some, Option.some.injEq, Prod.mk.injEq] at h
    exact ⟨i, rfl, h⟩
set_option maxHeartbeats 1000000 in
/-- Clone of a list without elements, wherever it stands. -/
theorem clone_emptyR (a : Addr) (c : Nat) (w : World) : Calls Tryz.prog 41 #[.slice (some a) 0 c] w fun e w' => ∃ v', e = .returned v' ∧ Own1 encR 4 w.heap.size w' v' [] ∧ Kp w w' Nul := by
  obtain ⟨i0, hi, hz0, hz1, hz2⟩ := infoArea
  have hq : ∀ (w : World) (a : Option Addr) (n c n' c' : Nat), (binOp .eql 31 (.slice a n c) (.slice none n' c')).run Tryz.prog w = .ok (.bool a.isNone) w := fun w a n c n' c' => Lib.run_eql_slice_nil w _ _ a n c n' c' Tryz.underlying31
  go_enter Tryz.func41, Tryz.ntmps41
  go_wp2_with (at_builtin; refine wpList_append_own _ rfl _ _ 31 rfl w.heap.size 52 i0 _ 4 32 Tryz.underlying31 hi hz0 hz1 hz2 rfl (by decide) _ _ _ rfl (World.ownsRow_made w #[] 0 (Nat.le_refl _) (Nat.zero_le _) (by simp)) a 0 c [] rfl ?qc1 ?qc2 ?qc3 ?qc4 ?qc5 ?qc6 ?_)
  case qc1 => rfl
  case qc2 => intro j u hj; simp at hj
  case qc3 => intro u hu; cases hu
  case qc4 => decide
  case qc5 => decide
  case qc6 => simp
  intro v' w1 hown hgrow hnil
  go_wp2
  go_ret
  refine ⟨v', rfl, ?_, ?_⟩
  · have hown' : w1.ownsRow w.heap.size 52 4 v' 0 (flatK encR 4 (#[] : Array ((Int × Int) × (Int × Int)))).toList := by
      have e : (flatK encR 4 (#[] : Array ((Int × Int) × (Int × Int)))).toList = [] := List.length_eq_zero_iff.1 (by simp)
      rw [e]
      simpa using hown
    rcases own_holds hown' with h | ⟨g, cap, h1, h2, h3, h4, h5, h6⟩
    · exact absurd h hnil
    · exact .inr ⟨g, cap, h1, h2, h3, h4, h5, h6⟩
  · exact Kp.of_below (((Below.refl _ w).alloc (Nat.le_refl _) _).grown hgrow (by simp) (by intro k hk; simp [Value.ownBlock] at hk; omega))
theorem clone_areas (A : List ((Int × Int) × (Int × Int))) (a : Option Addr) (c : Nat) (w : World) (hA : A.length ≤ 1048576) (ha : 0 < A.length → ∃ b o, a = some ⟨b, o, none⟩ ∧ EncAt encR 4 w b o A) :
    Calls Tryz.prog 41 #[.slice a A.length c] w fun e w' => ∃ v', e = .returned v' ∧ Own1 encR 4 w.heap.size w' v' A ∧ Kp w w' Nul := by
  rcases Nat.eq_zero_or_pos A.length with h0 | h0
  · have hn : A = [] := List.length_eq_zero_iff.1 h0
    subst hn
    cases a with
    | none =>
      refine (AnyE.slices_Clone_nil Tryz.layCloneArea _ c w).mono ?_
      rintro e w' ⟨rfl, rfl⟩
      exact ⟨_, rfl, .inl ⟨rfl, rfl⟩, Kp.refl _ _⟩
    | some ad => exact clone_emptyR ad c w
  · obtain ⟨b, o, rfl, hc⟩ := ha h0
    obtain ⟨i0, hi, hz0, hz1, hz2⟩ := infoArea
    refine (AnyE.slices_Clone Tryz.layCloneArea i0 _ 4 32 hi hz0 hz1 hz2 rfl (by decide) Tryz.sizeOf52 b o A.length c (flatK encR 4 A.toArray).toList w (by simp) (by unfold maxLen; omega) (by omega) (flat_cells encR_len hc) (flat_one encR_len encR_one _)).mono ?_
    rintro e w' ⟨v', rfl, hown, hne, hb⟩
    refine ⟨v', rfl, ?_, Kp.of_below hb⟩
    rcases own_holds hown with h | ⟨g, cap, h1, h2, h3, h4, h5, h6⟩
    · exact absurd h hne
    · exact .inr ⟨g, cap, h1, h2, h3, h4, h5, h6⟩
set_option maxHeartbeats 4000000 in
theorem areaOrder_at (a b c d e f g h : Int) (w : World) :
    Calls Tryz.prog 67 #[.agg #[.int .i64 a, .int .i64 b, .int .i64 c, .int .i64 d], .agg #[.int .i64 e, .int .i64 f, .int .i64 g, .int .i64 h]] w fun x w' => x = .returned (.int .i64 (if ordC a b e f = 0 then ordC c d g h else ordC a b e f)) ∧ Grn w w' := by
  obtain ⟨W, hW⟩ : ∃ W, (w.alloc (.cells #[.int .i64 a, .int .i64 b, .int .i64 c, .int .i64 d] 52)).alloc (.cells #[.int .i64 e, .int .i64 f, .int .i64 g, .int .i64 h] 52) = W := ⟨_, rfl⟩
  have HW : Hid ((w.alloc (.cells #[.int .i64 a, .int .i64 b, .int .i64 c, .int .i64 d] 52)).alloc (.cells #[.int .i64 e, .int .i64 f, .int .i64 g, .int .i64 h] 52) = W) := hW
  have hg0 : Grn w W := by rw [← hW]; exact ((Grn.refl w).alloc _).alloc _
  have hA0 : Blk W w.heap.size [.int .i64 a, .int .i64 b, .int .i64 c, .int .i64 d] 52 := by rw [← hW]; exact (Blk.new w [.int .i64 a, .int .i64 b, .int .i64 c, .int .i64 d] _).alloc _
  have hB0 : Blk W (w.heap.size + 1) [.int .i64 e, .int .i64 f, .int .i64 g, .int .i64 h] 52 := by
    rw [← hW]
    have := Blk.new (w.alloc (.cells #[.int .i64 a, .int .i64 b, .int .i64 c, .int .i64 d] 52)) [.int .i64 e, .int .i64 f, .int .i64 g, .int .i64 h] 52
    rw [World.size_alloc] at this
    exact this
  have H1 : Hid (∀ wq, Grn W wq → Calls Tryz.prog 50 #[.agg #[.int .i64 a, .int .i64 b], .agg #[.int .i64 e, .int .i64 f]] wq fun x w' => x = .returned (.int .i64 (ordC a b e f)) ∧ Grn W w') := fun wq k => (pOrder_x a b e f wq).mono fun x w' ⟨h1, h2⟩ => ⟨h1, k.trans h2⟩
  have H2 : Hid (∀ wq, Grn W wq → Calls Tryz.prog 50 #[.agg #[.int .i64 c, .int .i64 d], .agg #[.int .i64 g, .int .i64 h]] wq fun x w' => x = .returned (.int .i64 (ordC c d g h)) ∧ Grn W w') := fun wq k => (pOrder_x c d g h wq).mono fun x w' ⟨h1, h2⟩ => ⟨h1, k.trans h2⟩
  have H3 : Hid (∀ wq b0 t, Grn W wq → b0 = wq.heap.size → Calls Tryz.prog 86 #[.slice (some ⟨b0, 0, none⟩) 2 2] (wq.alloc (.cells #[.int .i64 (ordC a b e f), .int .i64 (ordC c d g h)] t)) fun x w' => x = .returned (.int .i64 (if ordC a b e f = 0 then ordC c d g h else ordC a b e f)) ∧ Grn W w') := fun wq b0 t k eb => by
    subst eb
    have hb := Blk.new wq [.int .i64 (ordC a b e f), .int .i64 (ordC c d g h)] t
    refine (pOr_two wq.heap.size (ordC a b e f) (ordC c d g h) _ (hb.cell rfl) (hb.cell rfl)).mono ?_
    rintro x w' ⟨rfl, rfl⟩
    exact ⟨rfl, k.alloc _⟩
  have KS : Hid (∀ w', Grn W w' → ((w'.cell? ⟨w.heap.size, 0, none⟩ = some (.int .i64 a) ∧ w'.cell? ⟨w.heap.size, 1, none⟩ = some (.int .i64 b) ∧ w'.cell? ⟨w.heap.size, 2, none⟩ = some (.int .i64 c) ∧ w'.cell? ⟨w.heap.size, 3, none⟩ = some (.int .i64 d)) ∧
      w'.cell? ⟨w.heap.size + 1, 0, none⟩ = some (.int .i64 e) ∧ w'.cell? ⟨w.heap.size + 1, 1, none⟩ = some (.int .i64 f) ∧ w'.cell? ⟨w.heap.size + 1, 2, none⟩ = some (.int .i64 g) ∧ w'.cell? ⟨w.heap.size + 1, 3, none⟩ = some (.int .i64 h))) := fun w' k => by
    have q1 := hA0.kp (S := Nul) k.kp (fun x => x)
    have q2 := hB0.kp (S := Nul) k.kp (fun x => x)
    exact ⟨⟨q1.cell rfl, q1.cell rfl, q1.cell rfl, q1.cell rfl⟩, q2.cell rfl, q2.cell rfl, q2.cell rfl, q2.cell rfl⟩
  have HG0 : Hid (Grn w W) := hg0
  have HSZ : Hid (W.heap.size = w.heap.size + 1 + 1) := by show _ = _; rw [← hW, World.size_alloc, World.size_alloc]
  generalize (if ordC a b e f = 0 then ordC c d g h else ordC a b e f) = V at *
  generalize ordC a b e f = p at *
  generalize ordC c d g h = q at *
  clear hW hg0 hA0 hB0
  go_enter Tryz.func67, Tryz.ntmps67
  go_wp2_with fail
  rw [HW.out]
  go_region_held3 (fun w' => (w'.cell? ⟨w.heap.size, 0, none⟩ = some (.int .i64 a) ∧ w'.cell? ⟨w.heap.size, 1, none⟩ = some (.int .i64 b) ∧ w'.cell? ⟨w.heap.size, 2, none⟩ = some (.int .i64 c) ∧ w'.cell? ⟨w.heap.size, 3, none⟩ = some (.int .i64 d)) ∧
      w'.cell? ⟨w.heap.size + 1, 0, none⟩ = some (.int .i64 e) ∧ w'.cell? ⟨w.heap.size + 1, 1, none⟩ = some (.int .i64 f) ∧ w'.cell? ⟨w.heap.size + 1, 2, none⟩ = some (.int .i64 g) ∧ w'.cell? ⟨w.heap.size + 1, 3, none⟩ = some (.int .i64 h))
    (first | (refine KS.out _ ?_; assumption) | (exact KS.out _ ((Grn.refl _).drew)) | (refine KS.out _ (Grn.alloc ?_ _); assumption) | (exact KS.out _ (Grn.refl _)))
    (first
    | (go_at_call_of 50 (Value.agg #[.int .i64 a, .int .i64 b]); refine (H1.out _ (by first | assumption | exact (Grn.refl _).drew)).mono ?_; rintro x w1 ⟨rfl, hg1⟩)
    | (go_at_call_of 50 (Value.agg #[.int .i64 c, .int .i64 d]); refine (H2.out _ (by first | assumption | exact (Grn.refl _).drew)).mono ?_; rintro x w2 ⟨rfl, hg2⟩)
    | (go_at_call 86; refine (H3.out _ _ _ (by assumption) (by first | rfl | simp)).mono ?_; rintro x w3 ⟨rfl, hg3⟩))
  all_goals
    have HG3 : Hid (Grn w w3) := HG0.out.trans hg3
    clear hg3
    go_wp2_with fail
    go_ret
    exact ⟨rfl, HG3.out⟩
theorem areaOrder_x (x y : (Int × Int) × (Int × Int)) (w : World) :
    Calls Tryz.prog 67 #[.agg (encR x).toArray, .agg (encR y).toArray] w fun e w' => e = .returned (.int .i64 (cfR x y)) ∧ Grn w w' := areaOrder_at x.1.1 x.1.2 x.2.1 x.2.2 y.1.1 y.1.2 y.2.1 y.2.2 w
theorem sort_areas (A : List ((Int × Int) × (Int × Int))) (v : Value) (B : Nat) (w : World) (hA : A.length ≤ 1048576) (hv : Own1 encR 4 B w v A) :
    Calls Tryz.prog 100 #[v, .func (.func 67) #[] #[]] w fun e w' => e = .returned (.tuple #[]) ∧ Own1 encR 4 B w' v (A.mergeSort fun x y => !(ltOf cfR) y x) ∧ Kp w w' (fun i => B ≤ i) := by
  rcases hv with ⟨rfl, rfl⟩ | ⟨g, cap, rfl, h2, h3, h4, h5, h6⟩
  · refine (AnyF.slices_SortFunc_none Tryz.laySortFuncArea none 0 _ w).mono ?_
    rintro e w' ⟨rfl, rfl⟩
    exact ⟨rfl, .inl ⟨by simp, rfl⟩, Kp.refl _ _⟩
  · have hcmp : CmpLays Tryz.prog 67 #[] encR 4 cfR g 0 A.toArray.size w := fun m os dk _ x y => areaOrder_x x y _
    have hs := AnyQ.slices_SortFunc_total Tryz.laySortFuncArea 4 Tryz.isAgg52 Tryz.sizeOf52 encR encR_len encR_one cfR swoR 67 #[] g 0 cap A.toArray w (enters_of Tryz.func67 (by kernel_rfl) rfl) hcmp h4 h3 (by simp; omega) cfR_same
    refine hs.mono ?_
    rintro e w' ⟨rfl, n, os, rfl⟩
    have hk := sortWorldK_kp encR 4 w g 0 n (A.toArray.toList.mergeSort fun x y => !(ltOf cfR) y x).toArray os
    refine ⟨rfl, .inr ⟨g, cap, ?_, h2, ?_, ?_, ?_, h6⟩, hk.mono (fun i _ e => by subst e; exact h2)⟩
    · rw [List.length_mergeSort]
    · exact Nat.lt_of_lt_of_le h3 hk.size
    · exact holdsK_sortWorldK_c encR 4 w g 0 A.toArray _ n os h4 h3 (by simp [List.length_mergeSort])
    · rw [List.length_mergeSort]; exact h5
end Go.Proofs.YtdlieecpckpemaaGreatDoor
namespace Go.Proofs.YtdlieecpckpemaaGreatDoor
open Go.RowKit Go.Sort Go.Lib

theorem comp_take {d dk : Array (Int × Int)} {k : Nat} (h : CompInv d d.size k dk) : dk.toList.take k = compactUpTo d d.size := by
  apply List.ext_getElem?
  intro j
  have hlt := h.lt
  rw [List.getElem?_take]
  by_cases hj : j < k
  · have hj2 : j < dk.size := by rw [h.size]; omega
    rw [if_pos hj, h.low j hj, getElem!_pos dk j hj2, List.getElem?_eq_getElem (by simpa using hj2)]
    simp
  · rw [if_neg hj, List.getElem?_eq_none (by rw [h.len]; omega)]
def CoR (d : Array (Int × Int)) (w : World) (s : Value) (wr : World) : Prop := ∃ k q : Nat, 1 ≤ k ∧ k ≤ d.size ∧ s = .int .i64 (k : Int) ∧ wr = w.drewN q ∧ ∀ j, j < k → keeps d j = true
def CiR (d : Array (Int × Int)) (w : World) (b o k : Nat) (s3 s5 : Value) (wr : World) : Prop := ∃ (kk k2 : Nat) (dk : Array (Int × Int)), s3 = .int .i64 (kk : Int) ∧ s5 = .int .i64 (k2 : Int) ∧ 1 ≤ k2 ∧ k + k2 ≤ d.size ∧ Kp w wr (fun i => i = b) ∧ RowA wr b o dk ∧ CompInv d (k + k2) kk dk
set_option maxRecDepth 20000 in
set_option maxHeartbeats 4000000 in
theorem compact_at (b o cap : Nat) (d : Array (Int × Int)) (w : World) (hH : RowA w b o d) (hn : d.size ≤ 1048576) (hcap : d.size ≤ cap) :
    Calls Tryz.prog 85 #[.slice (some ⟨b, o, none⟩) d.size cap] w fun e w' => e = .returned (.slice (some ⟨b, o, none⟩) (compactUpTo d d.size).length cap) ∧ CellsAt w' b o (compactUpTo d d.size) ∧ Kp w w' (fun i => i = b) := by
  have HS : Hid (∀ q, (∀ j, j < d.size → keeps d j = true) → (compactUpTo d d.size).length = d.size ∧ CellsAt (w.drewN q) b o (compactUpTo d d.size)) := fun q hall => by
    have e : compactUpTo d d.size = d.toList := by rw [compactUpTo_all d _ hall, range_map_get]
    rw [e]
    refine ⟨by simp, ?_⟩
    have := hH.low (w' := w.drewN q) d.size (fun j _ => rfl)
    rwa [List.take_of_length_le (by simp)] at this
  have HH : Hid (RowA w b o d) := hH
  clear hH
  by_cases h2 : d.size < 2
  · have HE := HS.out 0 (fun j hj => keeps_lt_one d j (by omega))
    rw [HE.1]
    have HE2 : Hid (CellsAt (w.drewN 0) b o (compactUpTo d d.size)) := HE.2
    clear HE HS HH
    go_enter Tryz.func85, Tryz.ntmps85
    go_wp2
    go_ret
    exact ⟨rfl, HE2.out, Kp.refl _ _⟩
  · obtain ⟨n, hnn⟩ : ∃ n, d.size = n := ⟨_, rfl⟩
    have HN : Hid (d.size = n) := hnn
    have h2' : 2 ≤ n := by omega
    have hn' : n ≤ 1048576 := by omega
    have hcap' : n ≤ cap := by omega
    obtain ⟨R, hR⟩ : ∃ R, compactUpTo d d.size = R := ⟨_, rfl⟩
    have HR : Hid (compactUpTo d d.size = R) := hR
    rw [hR]
    rw [hnn]
    clear hR hnn h2 hn hcap
    go_enter Tryz.func85, Tryz.ntmps85
    go_wp2
    go_loopw [3] (fun s wr => CoR d w s wr) (fun s _ => n - (intOf s).toNat)
    case atStart => exact ⟨1, 0, by omega, by rw [HN.out]; omega, rfl, rfl, keeps_lt_one d⟩
    case round =>
      obtain ⟨k, q, hk1, hk, rfl, rfl, hall⟩ := hrel
      rw [HN.out] at hk
      have HA : Hid (∀ j, j < k → keeps d j = true) := hall
      clear hall
      by_cases hlt : k < n
      · obtain ⟨⟨c1, c2⟩, _⟩ := HH.out k (by rw [HN.out]; exact hlt)
        obtain ⟨⟨c3, c4⟩, _⟩ := HH.out (k - 1) (by rw [HN.out]; omega)
        obtain ⟨⟨x1, x2⟩, hx⟩ : ∃ x, d[k]! = x := ⟨_, rfl⟩
        obtain ⟨⟨y1, y2⟩, hy⟩ : ∃ y, d[k - 1]! = y := ⟨_, rfl⟩
        rw [hx] at c1 c2
        rw [hy] at c3 c4
        simp only at c1 c2 c3 c4
        have HX : Hid (d[k]! = (x1, x2) ∧ d[k - 1]! = (y1, y2)) := ⟨hx, hy⟩
        clear hx hy
        have k1 : (1 : Int) ≤ (k : Int) := by omega
        have k2 : (k : Int) < (n : Int) := by omega
        have k3 : IntKind.i64.wrap ((k : Int) - 1) = ((k - 1 : Nat) : Int) := by rw [IntKind.wrap_i64]; omega
        have k4 : ((k - 1 : Nat) : Int) < (n : Int) := by omega
        by_cases hdup : x1 = y1 ∧ x2 = y2
        · obtain ⟨rfl, rfl⟩ := hdup
          have hq := eql_addr x1 x2 x1 x2 true (by simp)
          go_wp2_with fail
          go_quiet (fail)
          go_wp2_with fail
          clear hq c1 c2 c3 c4
          go_loopw [3, 5] (fun s3 s5 wr => CiR d w b o k s3 s5 wr) (fun _ s5 _ => n - k - (intOf s5).toNat)
          case atStart => exact ⟨k, 1, d, rfl, rfl, by omega, by rw [HN.out]; omega, (Kp.refl w _).drewN _, HH.out, CompInv.start HA.out (keeps_neg (by omega) (by rw [HX.out.1, HX.out.2]))⟩
          case round =>
            obtain ⟨kk, m, dk, rfl, rfl, h1, hle, hkp, hrow, hI⟩ := hrel
            rw [HN.out] at hle
            have hkk : kk < k + m := hI.lt
            have hds : dk.size = n := hI.size.trans HN.out
            have HKP : Hid (Kp w wr (fun i => i = b)) := hkp
            have HROW : Hid (RowA wr b o dk) := hrow
            have HI : Hid (CompInv d (k + m) kk dk) := hI
            clear hkp hrow hI
            by_cases hlt2 : k + m < n
            · obtain ⟨⟨c1, c2⟩, _⟩ := HROW.out (k + m) (by omega)
              obtain ⟨⟨c3, c4⟩, _⟩ := HROW.out (k + m - 1) (by omega)
              obtain ⟨⟨c5, c6⟩, f5, f6⟩ := HROW.out kk (by omega)
              rw [HI.out.high (k + m) (by omega)] at c1 c2
              rw [HI.out.high (k + m - 1) (by omega)] at c3 c4
              obtain ⟨⟨u1, u2⟩, hx⟩ : ∃ x, d[k + m]! = x := ⟨_, rfl⟩
              obtain ⟨⟨y1, y2⟩, hy⟩ : ∃ y, d[k + m - 1]! = y := ⟨_, rfl⟩
              rw [hx] at c1 c2
              rw [hy] at c3 c4
              simp only at c1 c2 c3 c4
              rw [show o + (k + m) * 2 = o + k * 2 + m * 2 by omega] at c1 c2
              rw [show o + (k + m - 1) * 2 = o + k * 2 + (m - 1) * 2 by omega] at c3 c4
              have HU : Hid (d[k + m]! = (u1, u2) ∧ d[k + m - 1]! = (y1, y2)) := ⟨hx, hy⟩
              clear hx hy
              have m1 : (1 : Int) ≤ (m : Int) := by omega
              have m2 : (m : Int) < ((n - k : Nat) : Int) := by omega
              have m3 : IntKind.i64.wrap ((m : Int) - 1) = ((m - 1 : Nat) : Int) := by rw [IntKind.wrap_i64]; omega
              have m4 : ((m - 1 : Nat) : Int) < ((n - k : Nat) : Int) := by omega
              have m5 : (kk : Int) < (n : Int) := by omega
              by_cases hdup2 : u1 = y1 ∧ u2 = y2
              · obtain ⟨rfl, rfl⟩ := hdup2
                have hq := neq_addr u1 u2 u1 u2 true (by simp)
                go_wp2_with fail
                go_quiet (fail)
                go_wp2_with fail
                go_roundw
                case rel => exact ⟨kk, m + 1, dk, rfl, by go_num, by omega, by rw [HN.out]; omega, HKP.out.drewN _, HROW.out, HI.out.skip (keeps_neg (by omega) (by rw [HU.out.1, HU.out.2]))⟩
                case measure => simp only [intOf]; omega
              · have hq := neq_addr u1 u2 y1 y2 false (by simpa using hdup2)
                go_wp2_with fail
                go_quiet (fail)
                go_wp2_with fail
                go_roundw
                case rel => exact ⟨kk + 1, m + 1, dk.setIfInBounds kk (u1, u2), by go_num, by go_num, by omega, by rw [HN.out]; omega, ((HKP.out.drewN _).setCell ⟨b, o + kk * 2, none⟩ _ (.inr rfl)).setCell ⟨b, o + kk * 2 + 1, none⟩ _ (.inr rfl), RowA.set (w := wr.drewN _) HROW.out kk (by omega) (u1, u2), by have := HI.out.keep (by rw [HN.out]; exact hlt2) (keeps_pos (by rw [HU.out.1, HU.out.2]; intro h; simp at h; exact hdup2 h)); rw [HU.out.1] at this; exact this⟩
                case measure => simp only [intOf]; omega
            · have hend : k + m = n := by omega
              have hz := zeroAddr_cells (n - kk)
              obtain ⟨W, hW⟩ : ∃ W, wr.setCells b (o + kk * 2) (Builtin.zeroCells (Value.agg #[.int .i64 0, .int .i64 0]).cells (n - kk)).toList = W := ⟨_, rfl⟩
              have hcl : ∀ ty, (Builtin.clear_ #[30] ty #[.slice (some ⟨b, o + kk * 2, none⟩) (n - kk) (cap - kk)]).run Tryz.prog wr = .ok (.tuple #[]) W := fun ty => by
                rw [← hW]
                refine clear_is wr _ _ ty _ Tryz.underlying30 Tryz.zeroValue29 b (o + kk * 2) (n - kk) (cap - kk) (by omega) (fun j hj => ?_) (fun j hj => ?_) (fun v hv => ?_)
                · rw [hz, List.length_replicate] at hj
                  obtain ⟨⟨e1, e2⟩, _⟩ := HROW.out (kk + j / 2) (by omega)
                  have : j % 2 = 0 ∨ j % 2 = 1 := by omega
                  rcases this with e | e
                  · rw [show o + kk * 2 + j = o + (kk + j / 2) * 2 by omega, e1]; rfl
                  · rw [show o + kk * 2 + j = o + (kk + j / 2) * 2 + 1 by omega, e2]; rfl
                · rw [hz, List.length_replicate] at hj
                  obtain ⟨_, e1, e2⟩ := HROW.out (kk + j / 2) (by omega)
                  have : j % 2 = 0 ∨ j % 2 = 1 := by omega
                  rcases this with e | e
                  · rw [show o + kk * 2 + j = o + (kk + j / 2) * 2 by omega, e1]
                  · rw [show o + kk * 2 + j = o + (kk + j / 2) * 2 + 1 by omega, e2]
                · rw [hz] at hv
                  rw [List.eq_of_mem_replicate hv]; rfl
              have HW : Hid (Kp w W (fun i => i = b) ∧ CellsAt W b o (dk.toList.take kk)) := by
                refine ⟨?_, ?_⟩
                · rw [← hW]; exact HKP.out.trans (setCells_kp b _ _ _)
                · refine HROW.out.low kk (fun j hj => ?_)
                  rw [← hW, setCells_low b _ _ _ _ (by omega)]
              have m5 : (kk : Int) < (n : Int) := by omega
              have m6 : (m : Int) = ((n - k : Nat) : Int) := by omega
              have m7 : (kk : Int) ≤ (n : Int) := by omega
              clear hW hz
              go_wp2_with fail
              go_ret
              have hI := HI.out
              rw [hend, ← HN.out] at hI
              have e1 := hI.len
              rw [HR.out] at e1
              obtain ⟨g1, g2⟩ := HW.out
              refine ⟨by rw [e1]; rfl, ?_, g1⟩
              rw [comp_take hI, HR.out] at g2
              exact g2
        · have hq := eql_addr x1 x2 y1 y2 false (by simpa using hdup)
          go_wp2_with fail
          go_quiet (fail)
          go_wp2_with fail
          go_roundw
          case rel =>
            refine ⟨k + 1, _, by omega, by rw [HN.out]; omega, by go_num, rfl, fun j hj => ?_⟩
            by_cases e : j = k
            · subst e
              exact keeps_pos (by rw [HX.out.1, HX.out.2]; intro h; simp at h; exact hdup h)
            · exact HA.out j (by omega)
          case measure => simp only [intOf]; omega
      · have : k = n := by omega
        subst this
        go_wp2
        go_ret
        obtain ⟨e1, e2⟩ := HS.out q (by rw [HN.out]; exact HA.out)
        rw [HR.out, HN.out] at e1
        rw [HR.out] at e2
        exact ⟨by rw [e1]; rfl, e2, Kp.of_drew ⟨_, rfl⟩⟩
end Go.Proofs.YtdlieecpckpemaaGreatDoor
namespace Go.Proofs.YtdlieecpckpemaaGreatDoor
open Go.RowKit Go.Sort Go.Lib

/-- In order, each once. -/
def Strict (L : List (Int × Int)) : Prop := L.Pairwise (fun x y => ltOf cfA x y = true)
theorem Strict.same {L L' : List (Int × Int)} (h : Strict L) (h' : Strict L') (hm : ∀ x, x ∈ L ↔ x ∈ L') : L = L' := sorted_same swoA.irrefl swoA.trans h h' hm
/-- A list in memory, from block B on, or none. -/
def CellsFrom (B : Nat) (w : World) (v : Value) (L : List (Int × Int)) : Prop := ∃ a c, v = .slice a L.length c ∧ ((a = none ∧ L = []) ∨ ∃ b, a = some ⟨b, 0, none⟩ ∧ B ≤ b ∧ CellsAt w b 0 L)
set_option maxHeartbeats 1000000 in
theorem compact_nil (w : World) : Calls Tryz.prog 85 #[.slice none 0 0] w fun e w' => e = .returned (.slice none 0 0) ∧ w' = w := by
  go_enter Tryz.func85, Tryz.ntmps85
  go_wp2
  go_ret
  exact ⟨rfl, rfl⟩
theorem compact_cells (A : List (Int × Int)) (v : Value) (B : Nat) (w : World) (hA : A.length ≤ 1048576) (hv : Own1 encA 2 B w v (A.mergeSort fun x y => !(ltOf cfA) y x)) :
    Calls Tryz.prog 85 #[v] w fun e w' => ∃ L v', e = .returned v' ∧ CellsFrom B w' v' L ∧ (Strict L ∧ L.length ≤ A.length) ∧ (∀ x, x ∈ L ↔ x ∈ A) ∧ Kp w w' (fun i => B ≤ i) := by
  have hmem : ∀ x, x ∈ (A.mergeSort fun x y => !(ltOf cfA) y x) ↔ x ∈ A := fun x => List.mem_mergeSort
  rcases hv with ⟨h0, rfl⟩ | ⟨g, cap, rfl, h2, h3, h4, h5, h6⟩
  · refine (compact_nil w).mono ?_
    rintro e w' ⟨rfl, rfl⟩
    refine ⟨[], _, rfl, ⟨none, 0, rfl, .inl ⟨rfl, rfl⟩⟩, ⟨List.Pairwise.nil, Nat.zero_le _⟩, fun x => ?_, Kp.refl _ _⟩
    rw [← hmem, h0]
  · have hl := List.length_mergeSort (le := fun x y => !(ltOf cfA) y x) A
    refine (compact_at g 0 cap (A.mergeSort fun x y => !(ltOf cfA) y x).toArray w (RowA.of h4) (by simp; omega) (by simp; omega)).mono ?_
    rintro e w' ⟨rfl, hc, hk⟩
    have hs := compact_sorted swoA cfA_same (A.mergeSort fun x y => !(ltOf cfA) y x).toArray (merge_sorted swoA A)
    refine ⟨_, _, rfl, ⟨_, _, rfl, .inr ⟨g, rfl, h2, hc⟩⟩, ⟨hs.1, ?_⟩, fun x => ?_, hk.mono (fun i _ e => by subst e; exact h2)⟩
    · have := List.length_filter_le (keeps (A.mergeSort fun x y => !(ltOf cfA) y x).toArray) (List.range (A.mergeSort fun x y => !(ltOf cfA) y x).toArray.size)
      simp only [compactUpTo, List.length_map]
      simp only [List.length_range, List.size_toArray, hl] at this ⊢
      exact this
    · rw [hs.2, ← hmem]
set_option maxHeartbeats 1000000 in
theorem ordered_at (A : List (Int × Int)) (a : Option Addr) (c : Nat) (w : World) (hA : A.length ≤ 1048576) (ha : 0 < A.length → ∃ b o, a = some ⟨b, o, none⟩ ∧ CellsAt w b o A) :
    Calls Tryz.prog 49 #[.slice a A.length c, .func (.func 50) #[] #[]] w fun e w' => ∃ L v', e = .returned v' ∧ CellsFrom w.heap.size w' v' L ∧ (Strict L ∧ L.length ≤ A.length) ∧ (∀ x, x ∈ L ↔ x ∈ A) ∧ Kp w w' Nul := by
  have H1 : Hid (Calls Tryz.prog 84 #[.slice a A.length c] w fun e w' => ∃ v', e = .returned v' ∧ Own1 encA 2 w.heap.size w' v' A ∧ Kp w w' Nul) := clone_cells A a c w hA ha
  have H2 : Hid (∀ v wq, Own1 encA 2 w.heap.size wq v A → Kp w wq Nul → Calls Tryz.prog 80 #[v, .func (.func 50) #[] #[]] wq fun e w' => e = .returned (.tuple #[]) ∧ Own1 encA 2 w.heap.size w' v (A.mergeSort fun x y => !(ltOf cfA) y x) ∧ Kp w w' Nul) := fun v wq ho hk =>
    (sort_cells A v w.heap.size wq hA ho).mono fun e w' ⟨h1, h2, h3⟩ => ⟨h1, h2, hk.trans' h3 (fun i hi e => absurd e (by omega))⟩
  have H3 : Hid (∀ v wq, Own1 encA 2 w.heap.size wq v (A.mergeSort fun x y => !(ltOf cfA) y x) → Kp w wq Nul → Calls Tryz.prog 85 #[v] wq fun e w' => ∃ L v', e = .returned v' ∧ CellsFrom w.heap.size w' v' L ∧ (Strict L ∧ L.length ≤ A.length) ∧ (∀ x, x ∈ L ↔ x ∈ A) ∧ Kp w w' Nul) := fun v wq ho hk =>
    (compact_cells A v w.heap.size wq hA ho).mono fun e w' ⟨L, v', h1, h2, h3, h4, h5⟩ => ⟨L, v', h1, h2, h3, h4, hk.trans' h5 (fun i hi e => absurd e (by omega))⟩
  generalize A.length = n at *
  clear hA ha
  go_enter Tryz.func49, Tryz.ntmps49
  go_wp2_with fail
  refine H1.out.mono ?_
  rintro e w1 ⟨v1, rfl, ho1, hk1⟩
  go_wp2_with fail
  refine (H2.out v1 w1 ho1 hk1).mono ?_
  rintro e w2 ⟨rfl, ho2, hk2⟩
  go_wp2_with fail
  refine (H3.out v1 w2 ho2 hk2).mono ?_
  rintro e w3 ⟨L, v3, rfl, hc, hs, hm, hk3⟩
  go_wp2_with fail
  go_ret
  exact ⟨L, v3, rfl, hc, hs, hm, hk3⟩
end Go.Proofs.YtdlieecpckpemaaGreatDoor
namespace Go.Proofs.YtdlieecpckpemaaGreatDoor
open Go.RowKit Go.Sort Go.Lib

/-- A row of areas that may be written. -/
def RowR (w : World) (b o : Nat) (d : Array ((Int × Int) × (Int × Int))) : Prop := ∀ j, j < d.size → (w.cell? ⟨b, o + j * 4, none⟩ = some (.int .i64 d[j]!.1.1) ∧ w.cell? ⟨b, o + j * 4 + 1, none⟩ = some (.int .i64 d[j]!.1.2) ∧ w.cell? ⟨b, o + j * 4 + 2, none⟩ = some (.int .i64 d[j]!.2.1) ∧ w.cell? ⟨b, o + j * 4 + 3, none⟩ = some (.int .i64 d[j]!.2.2)) ∧ (w.frozen? ⟨b, o + j * 4, none⟩ = false ∧ w.frozen? ⟨b, o + j * 4 + 1, none⟩ = false ∧ w.frozen? ⟨b, o + j * 4 + 2, none⟩ = false ∧ w.frozen? ⟨b, o + j * 4 + 3, none⟩ = false)
theorem RowR.of {w : World} {b o : Nat} {d : Array ((Int × Int) × (Int × Int))} (h : HoldsK encR 4 w b o d) : RowR w b o d := fun j hj => by
  have h0 := h.cell (i := j) (c := 0) hj (by decide)
  have h1 := h.cell (i := j) (c := 1) hj (by decide)
  have h2 := h.cell (i := j) (c := 2) hj (by decide)
  have h3 := h.cell (i := j) (c := 3) hj (by decide)
  exact ⟨⟨h0.1, h1.1, h2.1, h3.1⟩, h0.2, h1.2, h2.2, h3.2⟩
theorem set4_other (w : World) (b n : Nat) (v0 v1 v2 v3 : Value) (m : Nat) (h : m < n ∨ n + 4 ≤ m) : ((((w.setCell ⟨b, n, none⟩ v0).setCell ⟨b, n + 1, none⟩ v1).setCell ⟨b, n + 2, none⟩ v2).setCell ⟨b, n + 3, none⟩ v3).cell? ⟨b, m, none⟩ = w.cell? ⟨b, m, none⟩ := by
  have e : ∀ k, k ≠ m → (⟨b, k, none⟩ : Addr) ≠ ⟨b, m, none⟩ := fun k hk h => hk (congrArg Addr.off h)
  rw [World.cell?_setCell_other _ _ _ _ (e _ (by omega)), World.cell?_setCell_other _ _ _ _ (e _ (by omega)), World.cell?_setCell_other _ _ _ _ (e _ (by omega)), World.cell?_setCell_other _ _ _ _ (e _ (by omega))]
theorem set4_same (w : World) (b n : Nat) (v0 v1 v2 v3 u0 u1 u2 u3 : Value) (h0 : w.cell? ⟨b, n, none⟩ = some u0) (h1 : w.cell? ⟨b, n + 1, none⟩ = some u1) (h2 : w.cell? ⟨b, n + 2, none⟩ = some u2) (h3 : w.cell? ⟨b, n + 3, none⟩ = some u3) :
    ((((w.setCell ⟨b, n, none⟩ v0).setCell ⟨b, n + 1, none⟩ v1).setCell ⟨b, n + 2, none⟩ v2).setCell ⟨b, n + 3, none⟩ v3).cell? ⟨b, n, none⟩ = some v0 ∧ ((((w.setCell ⟨b, n, none⟩ v0).setCell ⟨b, n + 1, none⟩ v1).setCell ⟨b, n + 2, none⟩ v2).setCell ⟨b, n + 3, none⟩ v3).cell? ⟨b, n + 1, none⟩ = some v1 ∧
    ((((w.setCell ⟨b, n, none⟩ v0).setCell ⟨b, n + 1, none⟩ v1).setCell ⟨b, n + 2, none⟩ v2).setCell ⟨b, n + 3, none⟩ v3).cell? ⟨b, n + 2, none⟩ = some v2 ∧ ((((w.setCell ⟨b, n, none⟩ v0).setCell ⟨b, n + 1, none⟩ v1).setCell ⟨b, n + 2, none⟩ v2).setCell ⟨b, n + 3, none⟩ v3).cell? ⟨b, n + 3, none⟩ = some v3 := by
  have e : ∀ k m, k ≠ m → (⟨b, k, none⟩ : Addr) ≠ ⟨b, m, none⟩ := fun k m hk h => hk (congrArg Addr.off h)
  have a1 : (w.setCell ⟨b, n, none⟩ v0).cell? ⟨b, n + 1, none⟩ = some u1 := by rw [World.cell?_setCell_other _ _ _ _ (e _ _ (by omega)), h1]
  have a2 : ((w.setCell ⟨b, n, none⟩ v0).setCell ⟨b, n + 1, none⟩ v1).cell? ⟨b, n + 2, none⟩ = some u2 := by rw [World.cell?_setCell_other _ _ _ _ (e _ _ (by omega)), World.cell?_setCell_other _ _ _ _ (e _ _ (by omega)), h2]
  have a3 : (((w.setCell ⟨b, n, none⟩ v0).setCell ⟨b, n + 1, none⟩ v1).setCell ⟨b, n + 2, none⟩ v2).cell? ⟨b, n + 3, none⟩ = some u3 := by rw [World.cell?_setCell_other _ _ _ _ (e _ _ (by omega)), World.cell?_setCell_other _ _ _ _ (e _ _ (by omega)), World.cell?_setCell_other _ _ _ _ (e _ _ (by omega)), h3]
  refine ⟨?_, ?_, ?_, World.cell?_setCell_same _ _ _ a3⟩
  · rw [World.cell?_setCell_other _ _ _ _ (e _ _ (by omega)), World.cell?_setCell_other _ _ _ _ (e _ _ (by omega)), World.cell?_setCell_other _ _ _ _ (e _ _ (by omega)), World.cell?_setCell_same _ _ _ h0]
  · rw [World.cell?_setCell_other _ _ _ _ (e _ _ (by omega)), World.cell?_setCell_other _ _ _ _ (e _ _ (by omega)), World.cell?_setCell_same _ _ _ a1]
  · rw [World.cell?_setCell_other _ _ _ _ (e _ _ (by omega)), World.cell?_setCell_same _ _ _ a2]
theorem RowR.set {w : World} {b o : Nat} {d : Array ((Int × Int) × (Int × Int))} (h : RowR w b o d) (i : Nat) (hi : i < d.size) (x : (Int × Int) × (Int × Int)) :
    RowR ((((w.setCell ⟨b, o + i * 4, none⟩ (.int .i64 x.1.1)).setCell ⟨b, o + i * 4 + 1, none⟩ (.int .i64 x.1.2)).setCell ⟨b, o + i * 4 + 2, none⟩ (.int .i64 x.2.1)).setCell ⟨b, o + i * 4 + 3, none⟩ (.int .i64 x.2.2)) b o (d.setIfInBounds i x) := fun j hj => by
  have hj' : j < d.size := by simpa using hj
  obtain ⟨⟨h0, h1, h2, h3⟩, f0, f1, f2, f3⟩ := h j hj'
  refine ⟨?_, by simp only [World.frozen?_setCell]; exact ⟨f0, f1, f2, f3⟩⟩
  by_cases e : j = i
  · subst e
    rw [getElem!_set_same d j x hj']
    exact set4_same w b (o + j * 4) _ _ _ _ _ _ _ _ h0 h1 h2 h3
  · rw [getElem!_set_other d i j x e]
    exact ⟨by rw [set4_other w b (o + i * 4) _ _ _ _ _ (by omega)]; exact h0, by rw [set4_other w b (o + i * 4) _ _ _ _ _ (by omega)]; exact h1, by rw [set4_other w b (o + i * 4) _ _ _ _ _ (by omega)]; exact h2, by rw [set4_other w b (o + i * 4) _ _ _ _ _ (by omega)]; exact h3⟩
theorem RowR.low {w w' : World} {b o : Nat} {d : Array ((Int × Int) × (Int × Int))} (h : RowR w b o d) (m : Nat) (hl : ∀ j, j < m * 4 → w'.cell? ⟨b, o + j, none⟩ = w.cell? ⟨b, o + j, none⟩) : AreasAt w' b o ((d.toList.take m).map arT) := fun i x hx => by
  rw [List.getElem?_map, List.getElem?_take] at hx
  split at hx
  · rename_i hi
    cases hd : d.toList[i]? with
    | none => rw [hd] at hx; cases hx
    | some y =>
      rw [hd] at hx
      cases hx
      obtain ⟨hi2, hy⟩ := List.getElem?_eq_some_iff.1 hd
      have hi3 : i < d.size := by simpa using hi2
      have ex : d[i]! = y := by rw [getElem!_pos d _ hi3, ← hy]; simp
      obtain ⟨⟨h0, h1, h2, h3⟩, _⟩ := h i hi3
      rw [ex] at h0 h1 h2 h3
      rw [hl (i * 4) (by omega), Nat.add_assoc o, hl (i * 4 + 1) (by omega), Nat.add_assoc o, hl (i * 4 + 2) (by omega), Nat.add_assoc o, hl (i * 4 + 3) (by omega)]
      exact ⟨h0, h1, h2, h3⟩
  · cases hx
theorem zeroArea_cells (n : Nat) : (Builtin.zeroCells (Value.agg #[.int .i64 0, .int .i64 0, .int .i64 0, .int .i64 0]).cells n).toList = List.replicate (n * 4) (.int .i64 0) := by
  apply List.ext_getElem?
  intro i
  simp only [Builtin.zeroCells, Value.cells, Array.toList_map, List.getElem?_map, Array.toList_range, List.getElem?_replicate]
  by_cases h : i < n * 4
  · rw [if_pos h, List.getElem?_range (by simpa using h)]
    have : i % 4 = 0 ∨ i % 4 = 1 ∨ i % 4 = 2 ∨ i % 4 = 3 := by omega
    rcases this with e | e | e | e <;> simp [e]
  · rw [if_neg h, List.getElem?_eq_none (by simpa using h)]
    rfl
theorem comp_takeR {d dk : Array ((Int × Int) × (Int × Int))} {k : Nat} (h : CompInv d d.size k dk) : dk.toList.take k = compactUpTo d d.size := by
  apply List.ext_getElem?
  intro j
  have hlt := h.lt
  rw [List.getElem?_take]
  by_cases hj : j < k
  · have hj2 : j < dk.size := by rw [h.size]; omega
    rw [if_pos hj, h.low j hj, getElem!_pos dk j hj2, List.getElem?_eq_getElem (by simpa using hj2)]
    simp
  · rw [if_neg hj, List.getElem?_eq_none (by rw [h.len]; omega)]
def CoQ (d : Array ((Int × Int) × (Int × Int))) (w : World) (s : Value) (wr : World) : Prop := ∃ k q : Nat, 1 ≤ k ∧ k ≤ d.size ∧ s = .int .i64 (k : Int) ∧ wr = w.drewN q ∧ ∀ j, j < k → keeps d j = true
def CiQ (d : Array ((Int × Int) × (Int × Int))) (w : World) (b o k : Nat) (s3 s5 : Value) (wr : World) : Prop := ∃ (kk k2 : Nat) (dk : Array ((Int × Int) × (Int × Int))), s3 = .int .i64 (kk : Int) ∧ s5 = .int .i64 (k2 : Int) ∧ 1 ≤ k2 ∧ k + k2 ≤ d.size ∧ Kp w wr (fun i => i = b) ∧ RowR wr b o dk ∧ CompInv d (k + k2) kk dk
set_option maxRecDepth 20000 in
set_option maxHeartbeats 4000000 in
theorem compactR_at (b o cap : Nat) (d : Array ((Int × Int) × (Int × Int))) (w : World) (hH : RowR w b o d) (hn : d.size ≤ 1048576) (hcap : d.size ≤ cap) :
    Calls Tryz.prog 101 #[.slice (some ⟨b, o, none⟩) d.size cap] w fun e w' => e = .returned (.slice (some ⟨b, o, none⟩) (compactUpTo d d.size).length cap) ∧ AreasAt w' b o ((compactUpTo d d.size).map arT) ∧ Kp w w' (fun i => i = b) := by
  have HS : Hid (∀ q, (∀ j, j < d.size → keeps d j = true) → (compactUpTo d d.size).length = d.size ∧ AreasAt (w.drewN q) b o ((compactUpTo d d.size).map arT)) := fun q hall => by
    have e : compactUpTo d d.size = d.toList := by rw [compactUpTo_all d _ hall, range_map_get]
    rw [e]
    refine ⟨by simp, ?_⟩
    have := hH.low (w' := w.drewN q) d.size (fun j _ => rfl)
    rwa [List.take_of_length_le (by simp)] at this
  have HH : Hid (RowR w b o d) := hH
  clear hH
  by_cases h2 : d.size < 2
  · have HE := HS.out 0 (fun j hj => keeps_lt_one d j (by omega))
    rw [HE.1]
    have HE2 : Hid (AreasAt (w.drewN 0) b o ((compactUpTo d d.size).map arT)) := HE.2
    clear HE HS HH
    go_enter Tryz.func101, Tryz.ntmps101
    go_wp2
    go_ret
    exact ⟨rfl, HE2.out, Kp.refl _ _⟩
  · obtain ⟨n, hnn⟩ : ∃ n, d.size = n := ⟨_, rfl⟩
    have HN : Hid (d.size = n) := hnn
    have h2' : 2 ≤ n := by omega
    have hn' : n ≤ 1048576 := by omega
    have hcap' : n ≤ cap := by omega
    obtain ⟨R, hR⟩ : ∃ R, compactUpTo d d.size = R := ⟨_, rfl⟩
    have HR : Hid (compactUpTo d d.size = R) := hR
    rw [hR]
    rw [hnn]
    clear hR hnn h2 hn hcap
    go_enter Tryz.func101, Tryz.ntmps101
    go_wp2
    go_loopw [3] (fun s wr => CoQ d w s wr) (fun s _ => n - (intOf s).toNat)
    case atStart => exact ⟨1, 0, by omega, by rw [HN.out]; omega, rfl, rfl, keeps_lt_one d⟩
    case round =>
      obtain ⟨k, q, hk1, hk, rfl, rfl, hall⟩ := hrel
      rw [HN.out] at hk
      have HA : Hid (∀ j, j < k → keeps d j = true) := hall
      clear hall
      by_cases hlt : k < n
      · obtain ⟨⟨c1, c2, c1', c2'⟩, _⟩ := HH.out k (by rw [HN.out]; exact hlt)
        obtain ⟨⟨c3, c4, c3', c4'⟩, _⟩ := HH.out (k - 1) (by rw [HN.out]; omega)
        obtain ⟨⟨⟨x1, x2⟩, x3, x4⟩, hx⟩ : ∃ x, d[k]! = x := ⟨_, rfl⟩
        obtain ⟨⟨⟨y1, y2⟩, y3, y4⟩, hy⟩ : ∃ y, d[k - 1]! = y := ⟨_, rfl⟩
        rw [hx] at c1 c2 c1' c2'
        rw [hy] at c3 c4 c3' c4'
        simp only at c1 c2 c3 c4 c1' c2' c3' c4'
        have HX : Hid (d[k]! = ((x1, x2), x3, x4) ∧ d[k - 1]! = ((y1, y2), y3, y4)) := ⟨hx, hy⟩
        clear hx hy
        have k1 : (1 : Int) ≤ (k : Int) := by omega
        have k2 : (k : Int) < (n : Int) := by omega
        have k3 : IntKind.i64.wrap ((k : Int) - 1) = ((k - 1 : Nat) : Int) := by rw [IntKind.wrap_i64]; omega
        have k4 : ((k - 1 : Nat) : Int) < (n : Int) := by omega
        by_cases hdup : (x1 = y1 ∧ x2 = y2) ∧ x3 = y3 ∧ x4 = y4
        · obtain ⟨⟨rfl, rfl⟩, rfl, rfl⟩ := hdup
          have hq := eql_area x1 x2 x3 x4 x1 x2 x3 x4 true (by simp)
          go_wp2_with fail
          go_quiet (fail)
          go_wp2_with fail
          clear hq c1 c2 c3 c4 c1' c2' c3' c4'
          go_loopw [3, 5] (fun s3 s5 wr => CiQ d w b o k s3 s5 wr) (fun _ s5 _ => n - k - (intOf s5).toNat)
          case atStart => exact ⟨k, 1, d, rfl, rfl, by omega, by rw [HN.out]; omega, (Kp.refl w _).drewN _, HH.out, CompInv.start HA.out (keeps_neg (by omega) (by rw [HX.out.1, HX.out.2]))⟩
          case round =>
            obtain ⟨kk, m, dk, rfl, rfl, h1, hle, hkp, hrow, hI⟩ := hrel
            rw [HN.out] at hle
            have hkk : kk < k + m := hI.lt
            have hds : dk.size = n := hI.size.trans HN.out
            have HKP : Hid (Kp w wr (fun i => i = b)) := hkp
            have HROW : Hid (RowR wr b o dk) := hrow
            have HI : Hid (CompInv d (k + m) kk dk) := hI
            clear hkp hrow hI
            by_cases hlt2 : k + m < n
            · obtain ⟨⟨c1, c2, c1', c2'⟩, _⟩ := HROW.out (k + m) (by omega)
              obtain ⟨⟨c3, c4, c3', c4'⟩, _⟩ := HROW.out (k + m - 1) (by omega)
              obtain ⟨⟨c5, c6, c7, c8⟩, f5, f6, f7, f8⟩ := HROW.out kk (by omega)
              rw [HI.out.high (k + m) (by omega)] at c1 c2 c1' c2'
              rw [HI.out.high (k + m - 1) (by omega)] at c3 c4 c3' c4'
              obtain ⟨⟨⟨u1, u2⟩, u3, u4⟩, hx⟩ : ∃ x, d[k + m]! = x := ⟨_, rfl⟩
              obtain ⟨⟨⟨y1, y2⟩, y3, y4⟩, hy⟩ : ∃ y, d[k + m - 1]! = y := ⟨_, rfl⟩
              rw [hx] at c1 c2 c1' c2'
              rw [hy] at c3 c4 c3' c4'
              simp only at c1 c2 c3 c4 c1' c2' c3' c4'
              rw [show o + (k + m) * 4 = o + k * 4 + m * 4 by omega] at c1 c2 c1' c2'
              rw [show o + (k + m - 1) * 4 = o + k * 4 + (m - 1) * 4 by omega] at c3 c4 c3' c4'
              have HU : Hid (d[k + m]! = ((u1, u2), u3, u4) ∧ d[k + m - 1]! = ((y1, y2), y3, y4)) := ⟨hx, hy⟩
              clear hx hy
              have m1 : (1 : Int) ≤ (m : Int) := by omega
              have m2 : (m : Int) < ((n - k : Nat) : Int) := by omega
              have m3 : IntKind.i64.wrap ((m : Int) - 1) = ((m - 1 : Nat) : Int) := by rw [IntKind.wrap_i64]; omega
              have m4 : ((m - 1 : Nat) : Int) < ((n - k : Nat) : Int) := by omega
              have m5 : (kk : Int) < (n : Int) := by omega
              by_cases hdup2 : (u1 = y1 ∧ u2 = y2) ∧ u3 = y3 ∧ u4 = y4
              · obtain ⟨⟨rfl, rfl⟩, rfl, rfl⟩ := hdup2
                have hq := neq_area u1 u2 u3 u4 u1 u2 u3 u4 true (by simp)
                go_wp2_with fail
                go_quiet (fail)
                go_wp2_with fail
                go_roundw
                case rel => exact ⟨kk, m + 1, dk, rfl, by go_num, by omega, by rw [HN.out]; omega, HKP.out.drewN _, HROW.out, HI.out.skip (keeps_neg (by omega) (by rw [HU.out.1, HU.out.2]))⟩
                case measure => simp only [intOf]; omega
              · have hq := neq_area u1 u2 u3 u4 y1 y2 y3 y4 false (by simpa using hdup2)
                go_wp2_with fail
                go_quiet (fail)
                go_wp2_with fail
                go_roundw
                case rel => exact ⟨kk + 1, m + 1, dk.setIfInBounds kk ((u1, u2), u3, u4), by go_num, by go_num, by omega, by rw [HN.out]; omega, ((((HKP.out.drewN _).setCell ⟨b, o + kk * 4, none⟩ _ (.inr rfl)).setCell ⟨b, o + kk * 4 + 1, none⟩ _ (.inr rfl)).setCell ⟨b, o + kk * 4 + 2, none⟩ _ (.inr rfl)).setCell ⟨b, o + kk * 4 + 3, none⟩ _ (.inr rfl), RowR.set (w := wr.drewN _) HROW.out kk (by omega) ((u1, u2), u3, u4), by have := HI.out.keep (by rw [HN.out]; exact hlt2) (keeps_pos (by rw [HU.out.1, HU.out.2]; intro h; simp at h; exact hdup2 h)); rw [HU.out.1] at this; exact this⟩
                case measure => simp only [intOf]; omega
            · have hend : k + m = n := by omega
              have hz := zeroArea_cells (n - kk)
              obtain ⟨W, hW⟩ : ∃ W, wr.setCells b (o + kk * 4) (Builtin.zeroCells (Value.agg #[.int .i64 0, .int .i64 0, .int .i64 0, .int .i64 0]).cells (n - kk)).toList = W := ⟨_, rfl⟩
              have hcl : ∀ ty, (Builtin.clear_ #[31] ty #[.slice (some ⟨b, o + kk * 4, none⟩) (n - kk) (cap - kk)]).run Tryz.prog wr = .ok (.tuple #[]) W := fun ty => by
                rw [← hW]
                refine clear_is wr _ _ ty _ Tryz.underlying31 Tryz.zeroValue52 b (o + kk * 4) (n - kk) (cap - kk) (by omega) (fun j hj => ?_) (fun j hj => ?_) (fun v hv => ?_)
                · rw [hz, List.length_replicate] at hj
                  obtain ⟨⟨e1, e2, e3, e4⟩, _⟩ := HROW.out (kk + j / 4) (by omega)
                  have : j % 4 = 0 ∨ j % 4 = 1 ∨ j % 4 = 2 ∨ j % 4 = 3 := by omega
                  rcases this with e | e | e | e
                  · rw [show o + kk * 4 + j = o + (kk + j / 4) * 4 by omega, e1]; rfl
                  · rw [show o + kk * 4 + j = o + (kk + j / 4) * 4 + 1 by omega, e2]; rfl
                  · rw [show o + kk * 4 + j = o + (kk + j / 4) * 4 + 2 by omega, e3]; rfl
                  · rw [show o + kk * 4 + j = o + (kk + j / 4) * 4 + 3 by omega, e4]; rfl
                · rw [hz, List.length_replicate] at hj
                  obtain ⟨_, e1, e2, e3, e4⟩ := HROW.out (kk + j / 4) (by omega)
                  have : j % 4 = 0 ∨ j % 4 = 1 ∨ j % 4 = 2 ∨ j % 4 = 3 := by omega
                  rcases this with e | e | e | e
                  · rw [show o + kk * 4 + j = o + (kk + j / 4) * 4 by omega, e1]
                  · rw [show o + kk * 4 + j = o + (kk + j / 4) * 4 + 1 by omega, e2]
                  · rw [show o + kk * 4 + j = o + (kk + j / 4) * 4 + 2 by omega, e3]
                  · rw [show o + kk * 4 + j = o + (kk + j / 4) * 4 + 3 by omega, e4]
                · rw [hz] at hv
                  rw [List.eq_of_mem_replicate hv]; rfl
              have HW : Hid (Kp w W (fun i => i = b) ∧ AreasAt W b o ((dk.toList.take kk).map arT)) := by
                refine ⟨?_, ?_⟩
                · rw [← hW]; exact HKP.out.trans (setCells_kp b _ _ _)
                · refine HROW.out.low kk (fun j hj => ?_)
                  rw [← hW, setCells_low b _ _ _ _ (by omega)]
              have m5 : (kk : Int) < (n : Int) := by omega
              have m6 : (m : Int) = ((n - k : Nat) : Int) := by omega
              have m7 : (kk : Int) ≤ (n : Int) := by omega
              clear hW hz
              go_wp2_with fail
              go_ret
              have hI := HI.out
              rw [hend, ← HN.out] at hI
              have e1 := hI.len
              rw [HR.out] at e1
              obtain ⟨g1, g2⟩ := HW.out
              refine ⟨by rw [e1]; rfl, ?_, g1⟩
              rw [comp_takeR hI, HR.out] at g2
              exact g2
        · have hq := eql_area x1 x2 x3 x4 y1 y2 y3 y4 false (by simpa using hdup)
          go_wp2_with fail
          go_quiet (fail)
          go_wp2_with fail
          go_roundw
          case rel =>
            refine ⟨k + 1, _, by omega, by rw [HN.out]; omega, by go_num, rfl, fun j hj => ?_⟩
            by_cases e : j = k
            · subst e
              exact keeps_pos (by rw [HX.out.1, HX.out.2]; intro h; simp at h; exact hdup h)
            · exact HA.out j (by omega)
          case measure => simp only [intOf]; omega
      · have : k = n := by omega
        subst this
        go_wp2
        go_ret
        obtain ⟨e1, e2⟩ := HS.out q (by rw [HN.out]; exact HA.out)
        rw [HR.out, HN.out] at e1
        rw [HR.out] at e2
        exact ⟨by rw [e1]; rfl, e2, Kp.of_drew ⟨_, rfl⟩⟩
set_option maxHeartbeats 1000000 in
theorem compactR_nil (w : World) : Calls Tryz.prog 101 #[.slice none 0 0] w fun e w' => e = .returned (.slice none 0 0) ∧ w' = w := by
  go_enter Tryz.func101, Tryz.ntmps101
  go_wp2
  go_ret
  exact ⟨rfl, rfl⟩
/-- A list of areas in memory, from block B on, or none. -/
def AreasFrom (B : Nat) (w : World) (v : Value) (L : List Ar) : Prop := ∃ a c, v = .slice a L.length c ∧ L.length ≤ c ∧ c ≤ maxLen ∧ ((a = none ∧ L = []) ∨ ∃ b, a = some ⟨b, 0, none⟩ ∧ B ≤ b ∧ AreasAt w b 0 L)
theorem compact_areas (A : List ((Int × Int) × (Int × Int))) (v : Value) (B : Nat) (w : World) (hA : A.length ≤ 1048576) (hv : Own1 encR 4 B w v (A.mergeSort fun x y => !(ltOf cfR) y x)) :
    Calls Tryz.prog 101 #[v] w fun e w' => ∃ (L : List ((Int × Int) × (Int × Int))) (v' : Value), e = .returned v' ∧ AreasFrom B w' v' (L.map arT) ∧ L.length ≤ A.length ∧ (∀ x, x ∈ L ↔ x ∈ A) ∧ Kp w w' (fun i => B ≤ i) := by
  have hmem : ∀ x, x ∈ (A.mergeSort fun x y => !(ltOf cfR) y x) ↔ x ∈ A := fun x => List.mem_mergeSort
  rcases hv with ⟨h0, rfl⟩ | ⟨g, cap, rfl, h2, h3, h4, h5, h6⟩
  · refine (compactR_nil w).mono ?_
    rintro e w' ⟨rfl, rfl⟩
    refine ⟨[], _, rfl, ⟨none, 0, rfl, Nat.le_refl _, by decide, .inl ⟨rfl, rfl⟩⟩, Nat.zero_le _, fun x => ?_, Kp.refl _ _⟩
    rw [← hmem, h0]
  · have hl := List.length_mergeSort (le := fun x y => !(ltOf cfR) y x) A
    refine (compactR_at g 0 cap (A.mergeSort fun x y => !(ltOf cfR) y x).toArray w (RowR.of h4) (by simp; omega) (by simp; omega)).mono ?_
    rintro e w' ⟨rfl, hc, hk⟩
    have hs := compact_sorted swoR cfR_same (A.mergeSort fun x y => !(ltOf cfR) y x).toArray (merge_sorted swoR A)
    have hlen : (compactUpTo (A.mergeSort fun x y => !(ltOf cfR) y x).toArray (A.mergeSort fun x y => !(ltOf cfR) y x).toArray.size).length ≤ A.length := by
      have := List.length_filter_le (keeps (A.mergeSort fun x y => !(ltOf cfR) y x).toArray) (List.range (A.mergeSort fun x y => !(ltOf cfR) y x).toArray.size)
      simp only [compactUpTo, List.length_map]
      simp only [List.length_range, List.size_toArray, hl] at this ⊢
      exact this
    refine ⟨_, _, rfl, ⟨_, _, by rw [List.length_map], ?_, h6, .inr ⟨g, rfl, h2, hc⟩⟩, hlen, fun x => ?_, hk.mono (fun i _ e => by subst e; exact h2)⟩
    · rw [List.length_map]; omega
    · rw [hs.2, ← hmem]
set_option maxHeartbeats 1000000 in
theorem orderedR_at (A : List Ar) (a : Option Addr) (c : Nat) (w : World) (hA : A.length ≤ 1048576) (ha : 0 < A.length → ∃ b o, a = some ⟨b, o, none⟩ ∧ AreasAt w b o A) :
    Calls Tryz.prog 66 #[.slice a A.length c, .func (.func 67) #[] #[]] w fun e w' => ∃ (L : List Ar) (v' : Value), e = .returned v' ∧ AreasFrom w.heap.size w' v' L ∧ L.length ≤ A.length ∧ (∀ x, x ∈ L ↔ x ∈ A) ∧ Kp w w' Nul := by
  have el : (A.map tupA).length = A.length := List.length_map ..
  have H1 : Hid (Calls Tryz.prog 41 #[.slice a A.length c] w fun e w' => ∃ v', e = .returned v' ∧ Own1 encR 4 w.heap.size w' v' (A.map tupA) ∧ Kp w w' Nul) := by
    have := clone_areas (A.map tupA) a c w (by rw [el]; exact hA) (fun h0 => by
      obtain ⟨b, o, e, h⟩ := ha (by rw [el] at h0; exact h0)
      exact ⟨b, o, e, h.enc⟩)
    rw [el] at this
    exact this
  have H2 : Hid (∀ v wq, Own1 encR 4 w.heap.size wq v (A.map tupA) → Kp w wq Nul → Calls Tryz.prog 100 #[v, .func (.func 67) #[] #[]] wq fun e w' => e = .returned (.tuple #[]) ∧ Own1 encR 4 w.heap.size w' v ((A.map tupA).mergeSort fun x y => !(ltOf cfR) y x) ∧ Kp w w' Nul) := fun v wq ho hk =>
    (sort_areas (A.map tupA) v w.heap.size wq (by rw [el]; exact hA) ho).mono fun e w' ⟨h1, h2, h3⟩ => ⟨h1, h2, hk.trans' h3 (fun i hi e => absurd e (by omega))⟩
  have H3 : Hid (∀ v wq, Own1 encR 4 w.heap.size wq v ((A.map tupA).mergeSort fun x y => !(ltOf cfR) y x) → Kp w wq Nul → Calls Tryz.prog 101 #[v] wq fun e w' => ∃ (L : List Ar) (v' : Value), e = .returned v' ∧ AreasFrom w.heap.size w' v' L ∧ L.length ≤ A.length ∧ (∀ x, x ∈ L ↔ x ∈ A) ∧ Kp w w' Nul) := fun v wq ho hk =>
    (compact_areas (A.map tupA) v w.heap.size wq (by rw [el]; exact hA) ho).mono fun e w' ⟨L, v', h1, h2, h3, h4, h5⟩ => ⟨L.map arT, v', h1, h2, by rw [List.length_map, ← el]; exact h3, fun x => by
      rw [List.mem_map]
      constructor
      · rintro ⟨y, hy, rfl⟩
        obtain ⟨z, hz, rfl⟩ := List.mem_map.1 ((h4 y).1 hy)
        exact hz
      · intro hx
        exact ⟨tupA x, (h4 _).2 (List.mem_map.2 ⟨x, hx, rfl⟩), rfl⟩, hk.trans' h5 (fun i hi e => absurd e (by omega))⟩
  generalize A.length = n at *
  clear hA ha el
  go_enter Tryz.func66, Tryz.ntmps66
  go_wp2_with fail
  refine H1.out.mono ?_
  rintro e w1 ⟨v1, rfl, ho1, hk1⟩
  go_wp2_with fail
  refine (H2.out v1 w1 ho1 hk1).mono ?_
  rintro e w2 ⟨rfl, ho2, hk2⟩
  go_wp2_with fail
  refine (H3.out v1 w2 ho2 hk2).mono ?_
  rintro e w3 ⟨L, v3, rfl, hc, hs, hm, hk3⟩
  go_wp2_with fail
  go_ret
  exact ⟨L, v3, rfl, hc, hs, hm, hk3⟩
end Go.Proofs.YtdlieecpckpemaaGreatDoor
