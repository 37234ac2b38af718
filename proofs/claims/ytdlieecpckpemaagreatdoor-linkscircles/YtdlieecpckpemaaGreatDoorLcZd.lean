/- Rows of structs; slices.Clone and slices.SortFunc of cells and of areas. -/
import Derived.Test.YtdlieecpckpemaaGreatDoorLcSg
import Derived.Test.YtdlieecpckpemaaGreatDoorLcZb
import Derived.Test.YtdlieecpckpemaaGreatDoorLcZc
namespace Go.Proofs.YtdlieecpckpemaaGreatDoor
open Go.RowKit Go.Sort Go.Lib

section
variable {α : Type} [Inhabited α] {enc : α → List Value} {k : Nat}
theorem flat_some (hk : ∀ x, (enc x).length = k) (A : Array α) (j : Nat) (u : Value) (h : (flatK enc k A).toList[j]? = some u) : j / k < A.size ∧ (enc A[j / k]!)[j % k]? = some u := by
  obtain ⟨hj, hu⟩ := List.getElem?_eq_some_iff.1 h
  have hj2 : j < A.size * k := by simpa using hj
  have k0 : 0 < k := by
    rcases Nat.eq_zero_or_pos k with e | e
    · subst e; simp at hj2
    · exact e
  have hg := get_flatK enc k A j hj2
  rw [getElem!_pos (flatK enc k A) j (by simpa using hj2)] at hg
  have e1 : (flatK enc k A)[j]'(by simpa using hj2) = u := by rw [← hu]; simp
  refine ⟨Nat.div_lt_of_lt_mul (by rw [Nat.mul_comm]; exact hj2), ?_⟩
  have hm : j % k < (enc A[j / k]!).length := by rw [hk]; exact Nat.mod_lt _ k0
  rw [List.getElem?_eq_getElem hm, ← e1, hg, getElem!_pos (enc A[j / k]!) _ hm]
/-- Each element's cells, one behind the other. -/
def EncAt (enc : α → List Value) (k : Nat) (w : World) (b o : Nat) (A : List α) : Prop := ∀ (i : Nat) (x : α), A[i]? = some x → ∀ (t : Nat) (v : Value), (enc x)[t]? = some v → w.cell? ⟨b, o + i * k + t, none⟩ = some v
theorem flat_cells (hk : ∀ x, (enc x).length = k) {w : World} {b o : Nat} {A : List α} (h : EncAt enc k w b o A) (j : Nat) (u : Value) (hj : (flatK enc k A.toArray).toList[j]? = some u) : w.cell? ⟨b, o + j, none⟩ = some u := by
  obtain ⟨h1, h2⟩ := flat_some hk _ j u hj
  have h1' : j / k < A.length := by simpa using h1
  have := h (j / k) A[j / k] (List.getElem?_eq_getElem h1') (j % k) u (by rw [getElem!_pos A.toArray _ h1] at h2; simpa using h2)
  rw [Nat.add_assoc, Nat.div_add_mod'] at this
  exact this
theorem flat_one (hk : ∀ x, (enc x).length = k) (h1 : ∀ x, ∀ v ∈ enc x, v.oneCell' = true) (A : Array α) : ∀ u ∈ (flatK enc k A).toList, u.oneCell' = true := fun u hu => by
  obtain ⟨j, hj, rfl⟩ := List.mem_iff_getElem.1 hu
  obtain ⟨_, h2⟩ := flat_some hk A j _ (List.getElem?_eq_getElem hj)
  exact h1 _ _ (List.mem_of_getElem? h2)
theorem holds_enc {w : World} {b o : Nat} {d : Array α} (hk : ∀ x, (enc x).length = k) (h : HoldsK enc k w b o d) : EncAt enc k w b o d.toList := fun i x hx t v hv => by
  obtain ⟨hi, hx⟩ := List.getElem?_eq_some_iff.1 hx
  obtain ⟨ht, hv⟩ := List.getElem?_eq_some_iff.1 hv
  have hi' : i < d.size := by simpa using hi
  have := (h.cell (i := i) (c := t) hi' (by rw [← hk x]; exact ht)).1
  have ex : d[i]! = x := by rw [getElem!_pos d _ hi', ← hx]; simp
  rw [ex, getElem!_pos (enc x) _ ht, hv] at this
  exact this
theorem own_holds {w : World} {base : Nat} {T : TypeId} {v : Value} {n : Nat} {d : Array α} (h : w.ownsRow base T k v n (flatK enc k d).toList) : v = .slice none 0 0 ∨ ∃ g cap, v = .slice (some ⟨g, 0, none⟩) n cap ∧ base ≤ g ∧ g < w.heap.size ∧ HoldsK enc k w g 0 d ∧ n ≤ cap ∧ cap ≤ maxLen := by
  obtain ⟨hl, h⟩ := h
  rcases h with ⟨h1, _⟩ | ⟨g, cap, cur, hv, hb, hc, h1, h2, h3, h4⟩
  · exact .inl h1
  · refine .inr ⟨g, cap, hv, hb, ?_, fun j hj => ?_, h1, h2⟩
    · rcases Nat.lt_or_ge g w.heap.size with c | c
      · exact c
      · rw [Array.getElem?_eq_none c] at hc; cases hc
    · have e : (flatK enc k d).toList[j]? = cur.toList[j]? := by
        rw [← h4, List.getElem?_take]
        have : j < n * k := by rw [← hl]; simpa using hj
        rw [if_pos this]
      rw [Array.getElem?_toList, Array.getElem?_toList] at e
      constructor
      · simp only [World.cell?, hc, Nat.zero_add]
        rw [← e, getElem!_pos (flatK enc k d) j hj, Array.getElem?_eq_getElem hj]
        rfl
      · simp [World.frozen?, hc]
end
/-- A cell's two cells; an area's four. -/
def encA (x : Int × Int) : List Value := [.int .i64 x.1, .int .i64 x.2]
theorem encA_len (x : Int × Int) : (encA x).length = 2 := rfl
theorem encA_one (x : Int × Int) : ∀ v ∈ encA x, v.oneCell' = true := by
  intro v hv
  simp only [encA, List.mem_cons, List.not_mem_nil, or_false] at hv
  rcases hv with rfl | rfl <;> rfl
theorem CellsAt.enc {w : World} {b o : Nat} {A : List (Int × Int)} (h : CellsAt w b o A) : EncAt encA 2 w b o A := fun i x hx t v hv => by
  obtain ⟨h1, h2⟩ := h i x hx
  match t, hv with
  | 0, hv => cases hv; exact h1
  | 1, hv => cases hv; exact h2
theorem EncAt.cells {w : World} {b o : Nat} {A : List (Int × Int)} (h : EncAt encA 2 w b o A) : CellsAt w b o A := fun i x hx => ⟨h i x hx 0 _ rfl, h i x hx 1 _ rfl⟩
def cfA (x y : Int × Int) : Int := ordC x.1 x.2 y.1 y.2
theorem cfA_lt (x y : Int × Int) : ltOf cfA x y = true ↔ x.2 < y.2 ∨ (x.2 = y.2 ∧ x.1 < y.1) := by
  unfold ltOf cfA ordC cmpI
  simp only [decide_eq_true_eq]
  repeat' split
  all_goals omega
theorem cfA_nlt (x y : Int × Int) : ltOf cfA x y = false ↔ y.2 < x.2 ∨ (x.2 = y.2 ∧ y.1 ≤ x.1) := by
  rw [← Bool.not_eq_true, cfA_lt]; omega
theorem swoA : SWO (ltOf cfA) := ⟨fun x => by rw [cfA_nlt]; omega, fun x y z h1 h2 => by rw [cfA_lt] at *; omega, fun x y z h1 h2 => by rw [cfA_nlt] at *; omega⟩
theorem cfA_same (x y : Int × Int) (h1 : ltOf cfA x y = false) (h2 : ltOf cfA y x = false) : x = y := by
  rw [cfA_nlt] at h1 h2
  exact Prod.ext (by omega) (by omega)
theorem infoAddr : ∃ i0, Tryz.prog.info? 29 = some i0 ∧ i0.zero = some (.agg #[.int .i64 0, .int .i64 0]) ∧ i0.size = 2 ∧ i0.bytes = 16 := by
  have h : (Tryz.prog.info? 29).map (fun i => (i.zero, i.size, i.bytes)) = some (some (.agg #[.int .i64 0, .int .i64 0]), 2, 16) := by kernel_rfl
  cases e : Tryz.prog.info? 29 with
  | none => rw [e] at h; cases h
  | some i =>
    rw [e] at h
    simp only [Option.map_some, Option.some.injEq, Prod.mk.injEq] at h
    exact ⟨i, rfl, h⟩
/-- A list in memory of its own, from block B on, or none. -/
def Own1 {α : Type} [Inhabited α] (enc : α → List Value) (k : Nat) (B : Nat) (w : World) (v : Value) (A : List α) : Prop :=
  (A = [] ∧ v = .slice none 0 0) ∨ ∃ g cap, v = .slice (some ⟨g, 0, none⟩) A.length cap ∧ B ≤ g ∧ g < w.heap.size ∧ HoldsK enc k w g 0 A.toArray ∧ A.length ≤ cap ∧ cap ≤ maxLen
set_option maxHeartbeats 1000000 in
/-- Clone of a list without elements, wherever it stands. -/
theorem clone_empty (a : Addr) (c : Nat) (w : World) : Calls Tryz.prog 84 #[.slice (some a) 0 c] w fun e w' => ∃ v', e = .returned v' ∧ Own1 encA 2 w.heap.size w' v' [] ∧ Kp w w' Nul := by
  obtain ⟨i0, hi, hz0, hz1, hz2⟩ := infoAddr
  have hq : ∀ (w : World) (a : Option Addr) (n c n' c' : Nat), (binOp .eql 30 (.slice a n c) (.slice none n' c')).run Tryz.prog w = .ok (.bool a.isNone) w := fun w a n c n' c' => Lib.run_eql_slice_nil w _ _ a n c n' c' Tryz.underlying30
  go_enter Tryz.func84, Tryz.ntmps84
  go_wp2_with (at_builtin; refine wpList_append_own _ rfl _ _ 30 rfl w.heap.size 29 i0 _ 2 16 Tryz.underlying30 hi hz0 hz1 hz2 rfl (by decide) _ _ _ rfl (World.ownsRow_made w #[] 0 (Nat.le_refl _) (Nat.zero_le _) (by simp)) a 0 c [] rfl ?qc1 ?qc2 ?qc3 ?qc4 ?qc5 ?qc6 ?_)
  case qc1 => rfl
  case qc2 => intro j u hj; simp at hj
  case qc3 => intro u hu; cases hu
  case qc4 => decide
  case qc5 => decide
  case qc6 => simp
  intro v' w1 hown hgrow hnil
  go_wp2
  go_ret
  refine ⟨v', rfl, ?_, ?_⟩
  · have hown' : w1.ownsRow w.heap.size 29 2 v' 0 (flatK encA 2 (#[] : Array (Int × Int))).toList := by
      have e : (flatK encA 2 (#[] : Array (Int × Int))).toList = [] := List.length_eq_zero_iff.1 (by simp)
      rw [e]
      simpa using hown
    rcases own_holds hown' with h | ⟨g, cap, h1, h2, h3, h4, h5, h6⟩
    · exact absurd h hnil
    · exact .inr ⟨g, cap, h1, h2, h3, h4, h5, h6⟩
  · exact Kp.of_below (((Below.refl _ w).alloc (Nat.le_refl _) _).grown hgrow (by simp) (by intro k hk; simp [Value.ownBlock] at hk; omega))
theorem clone_cells (A : List (Int × Int)) (a : Option Addr) (c : Nat) (w : World) (hA : A.length ≤ 1048576) (ha : 0 < A.length → ∃ b o, a = some ⟨b, o, none⟩ ∧ CellsAt w b o A) :
    Calls Tryz.prog 84 #[.slice a A.length c] w fun e w' => ∃ v', e = .returned v' ∧ Own1 encA 2 w.heap.size w' v' A ∧ Kp w w' Nul := by
  rcases Nat.eq_zero_or_pos A.length with h0 | h0
  · have hn : A = [] := List.length_eq_zero_iff.1 h0
    subst hn
    cases a with
    | none =>
      refine (AnyE.slices_Clone_nil Tryz.layCloneAddr _ c w).mono ?_
      rintro e w' ⟨rfl, rfl⟩
      exact ⟨_, rfl, .inl ⟨rfl, rfl⟩, Kp.refl _ _⟩
    | some ad => exact clone_empty ad c w
  · obtain ⟨b, o, rfl, hc⟩ := ha h0
    obtain ⟨i0, hi, hz0, hz1, hz2⟩ := infoAddr
    refine (AnyE.slices_Clone Tryz.layCloneAddr i0 _ 2 16 hi hz0 hz1 hz2 rfl (by decide) Tryz.sizeOf29 b o A.length c (flatK encA 2 A.toArray).toList w (by simp) (by unfold maxLen; omega) (by omega) (flat_cells encA_len hc.enc) (flat_one encA_len encA_one _)).mono ?_
    rintro e w' ⟨v', rfl, hown, hne, hb⟩
    refine ⟨v', rfl, ?_, Kp.of_below hb⟩
    rcases own_holds hown with h | ⟨g, cap, h1, h2, h3, h4, h5, h6⟩
    · exact absurd h hne
    · exact .inr ⟨g, cap, h1, h2, h3, h4, h5, h6⟩
theorem sortWorldK_kp {α : Type} [Inhabited α] (enc : α → List Value) (k : Nat) (w : World) (blk off m : Nat) (d : Array α) (os : Array Obj) : Kp w (sortWorldK enc k w blk off m d os) (fun i => i = blk) := by
  unfold sortWorldK
  refine ⟨rfl, rfl, rfl, ?_, fun i hi hn => ?_⟩
  · rw [size_grow, size_putRowK]; exact Nat.le_add_right _ _
  · have h1 : i < (putRowK enc k (Sort.ahead w m) blk off d).heap.size := by rw [size_putRowK]; exact hi
    rw [heap_grow_old _ _ h1]
    show (mapBlock _ _ _).heap[i]? = _
    unfold mapBlock
    simp only [Array.getElem?_modify]
    rw [if_neg (fun e => hn e.symm)]
    rfl
theorem sort_cells (A : List (Int × Int)) (v : Value) (B : Nat) (w : World) (hA : A.length ≤ 1048576) (hv : Own1 encA 2 B w v A) :
    Calls Tryz.prog 80 #[v, .func (.func 50) #[] #[]] w fun e w' => e = .returned (.tuple #[]) ∧ Own1 encA 2 B w' v (A.mergeSort fun x y => !(ltOf cfA) y x) ∧ Kp w w' (fun i => B ≤ i) := by
  rcases hv with ⟨rfl, rfl⟩ | ⟨g, cap, rfl, h2, h3, h4, h5, h6⟩
  · refine (AnyF.slices_SortFunc_none Tryz.laySortFuncAddr none 0 _ w).mono ?_
    rintro e w' ⟨rfl, rfl⟩
    exact ⟨rfl, .inl ⟨by simp, rfl⟩, Kp.refl _ _⟩
  · have hcmp : CmpLays Tryz.prog 50 #[] encA 2 cfA g 0 A.toArray.size w := fun m os dk _ x y => pOrder_x x.1 x.2 y.1 y.2 _
    have hs := AnyQ.slices_SortFunc_total Tryz.laySortFuncAddr 2 Tryz.isAgg29 Tryz.sizeOf29 encA encA_len encA_one cfA swoA 50 #[] g 0 cap A.toArray w (enters_of Tryz.func50 (by kernel_rfl) rfl) hcmp h4 h3 (by simp; omega) cfA_same
    refine hs.mono ?_
    rintro e w' ⟨rfl, n, os, rfl⟩
    have hk := sortWorldK_kp encA 2 w g 0 n (A.toArray.toList.mergeSort fun x y => !(ltOf cfA) y x).toArray os
    refine ⟨rfl, .inr ⟨g, cap, ?_, h2, ?_, ?_, ?_, h6⟩, hk.mono (fun i _ e => by subst e; exact h2)⟩
    · rw [List.length_mergeSort]
    · exact Nat.lt_of_lt_of_le h3 hk.size
    · exact holdsK_sortWorldK_c encA 2 w g 0 A.toArray _ n os h4 h3 (by simp [List.length_mergeSort])
    · rw [List.length_mergeSort]; exact h5
end Go.Proofs.YtdlieecpckpemaaGreatDoor
