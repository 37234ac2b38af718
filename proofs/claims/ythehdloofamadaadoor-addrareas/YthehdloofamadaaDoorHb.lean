/- The beginnings of a text that have a cell's form: plain functions and facts. No function of the program here. -/
import Derived.Test.YthehdloofamadaaDoorHa
namespace Go.Proofs.YthehdloofamadaaDoor
open Go.RowKit

/-- Has the beginning of i + 1 bytes a cell's form: its length, and what it names. -/
def yl (l : List UInt8) (i : Nat) : Option (Int × Rs) :=
  match rn rs0 (l.take (i + 1)) with
  | some s => if 0 < s.r then some ((i : Int) + 1, s) else none
  | none => none
def ups (l : List UInt8) (k : Nat) : List (Int × Rs) := (List.range k).filterMap (yl l)
def lastN (xs : List (Int × Rs)) : Int := (xs.getLast?.map (·.1)).getD 0
def lastS (xs : List (Int × Rs)) : Rs := (xs.getLast?.map (·.2)).getD rs0
theorem ups_succ (l : List UInt8) (k : Nat) : ups l (k + 1) = ups l k ++ (yl l k).toList := by
  unfold ups
  rw [List.range_succ, List.filterMap_append]
  cases h : yl l k <;> simp [h]
theorem ups_zero (l : List UInt8) : ups l 0 = [] := rfl
theorem ups_len (l : List UInt8) (k : Nat) : (ups l k).length ≤ k := by
  have := List.length_filterMap_le (yl l) (List.range k)
  rw [List.length_range] at this
  exact this
theorem ups_pre (l : List UInt8) (k m : Nat) (h : k ≤ m) : ups l k <+: ups l m := by
  induction m with
  | zero => have : k = 0 := by omega
            subst this; exact List.prefix_refl _
  | succ m ih =>
    by_cases e : k = m + 1
    · subst e; exact List.prefix_refl _
    · exact (ih (by omega)).trans (by rw [ups_succ]; exact List.prefix_append _ _)
theorem yl_at (l : List UInt8) (i : Nat) (x : Int × Rs) (h : yl l i = some x) : x.1 = i + 1 ∧ rn rs0 (l.take (i + 1)) = some x.2 ∧ 0 < x.2.r := by
  unfold yl at h
  split at h
  · rename_i s hs
    split at h
    · rename_i hr
      have := Option.some.inj h
      subst this
      exact ⟨rfl, hs, hr⟩
    · exact absurd h (by simp)
  · exact absurd h (by simp)
theorem rn_step (l : List UInt8) (k : Nat) (b : UInt8) (h : l[k]? = some b) : rn rs0 (l.take (k + 1)) = (rn rs0 (l.take k)).bind fun s => bh s (b.toNat : Int) := by
  have e : l.take (k + 1) = l.take k ++ [b] := by rw [List.take_add_one, h]; rfl
  rw [e, rn_app]
  congr 1
  funext s
  show (bh s (b.toNat : Int)).bind (fun s' => rn s' []) = _
  cases bh s (b.toNat : Int) <;> rfl
theorem rn_gone (l : List UInt8) (k j : Nat) (h : rn rs0 (l.take k) = none) (hj : k ≤ j) : rn rs0 (l.take j) = none := by
  have e : l.take j = l.take k ++ (l.drop k).take (j - k) := by
    conv => lhs; rw [show j = k + (j - k) by omega]
    rw [List.take_add]
  rw [e, rn_app, h]
  rfl
theorem ups_gone (l : List UInt8) (k m : Nat) (h : rn rs0 (l.take (k + 1)) = none) (hm : k ≤ m) : ups l m = ups l k := by
  induction m with
  | zero => have : k = 0 := by omega
            subst this; rfl
  | succ m ih =>
    by_cases e : k = m + 1
    · subst e; rfl
    · rw [ups_succ, ih (by omega)]
      have : yl l m = none := by unfold yl; rw [rn_gone l (k + 1) (m + 1) h (by omega)]
      rw [this]; simp
theorem last_spec (l : List UInt8) (k : Nat) : (ups l k = [] ∧ ∀ j, j < k → yl l j = none) ∨ (∃ i s, i < k ∧ yl l i = some ((i : Int) + 1, s) ∧ lastN (ups l k) = i + 1 ∧ lastS (ups l k) = s ∧ ∀ j, i < j → j < k → yl l j = none) := by
  induction k with
  | zero => exact .inl ⟨rfl, fun j h => by omega⟩
  | succ k ih =>
    rw [ups_succ]
    cases hy : yl l k with
    | none =>
      rcases ih with ⟨h1, h2⟩ | ⟨i, s, h1, h2, h3, h4, h5⟩
      · refine .inl ⟨by rw [h1]; rfl, fun j hj => ?_⟩
        rcases Nat.lt_or_ge j k with h | h
        · exact h2 j h
        · have : j = k := by omega
          rw [this]; exact hy
      · refine .inr ⟨i, s, by omega, h2, by simpa using h3, by simpa using h4, fun j hj hk => ?_⟩
        rcases Nat.lt_or_ge j k with h | h
        · exact h5 j hj h
        · have : j = k := by omega
          rw [this]; exact hy
    | some x =>
      obtain ⟨e1, e2, e3⟩ := yl_at l k x hy
      refine .inr ⟨k, x.2, by omega, by rw [hy, ← e1], ?_, ?_, fun j h1 h2 => by omega⟩
      · simp [lastN, e1]
      · simp [lastS]

theorem yl_fOk (l : List UInt8) (i : Nat) (h : fOk (l.take (i + 1)) = true) : yl l i = some ((i : Int) + 1, ⟨cm 0 ((cutD (l.take (i + 1))).takeWhile isL), rm 0 (fDig (l.take (i + 1))), dol (l.take (i + 1)), fRow (l.take (i + 1))⟩) := by
  obtain ⟨h1, h2⟩ := (fOk_rn _).1 h
  unfold yl
  rw [h1]
  exact if_pos h2
theorem yl_some (l : List UInt8) (i : Nat) (x : Int × Rs) (h : yl l i = some x) : fOk (l.take (i + 1)) = true := by
  obtain ⟨_, e2, e3⟩ := yl_at l i x h
  cases hf : fOk (l.take (i + 1))
  · have := (fOk_rn _).2 hf _ e2; omega
  · rfl
/-- What is read of a whole text. -/
theorem parse_ups (l : List UInt8) : (fOk l = true → lastN (ups l l.length) = l.length ∧ 0 < l.length ∧ lastS (ups l l.length) = ⟨cm 0 ((cutD l).takeWhile isL), rm 0 (fDig l), dol l, fRow l⟩) ∧ (fOk l = false → lastN (ups l l.length) = 0 ∨ lastN (ups l l.length) < l.length) := by
  cases hl : l.length with
  | zero =>
    have : l = [] := List.length_eq_zero_iff.1 hl
    subst this
    exact ⟨fun h => absurd h (by decide), fun _ => .inl rfl⟩
  | succ m =>
    have ht : l.take (m + 1) = l := List.take_of_length_le (by omega)
    constructor
    · intro h
      have hy := yl_fOk l m (by rw [ht]; exact h)
      rw [ht] at hy
      rw [ups_succ, hy]
      refine ⟨?_, by omega, ?_⟩
      · simp [lastN]
      · simp [lastS]
    · intro h
      have hy : yl l m = none := by
        cases hy : yl l m with
        | none => rfl
        | some x => have := yl_some l m x hy; rw [ht, h] at this; exact absurd this (by decide)
      rw [ups_succ, hy]
      rcases last_spec l m with ⟨h1, _⟩ | ⟨i, s, h1, _, h3, _⟩
      · left; rw [h1]; rfl
      · right; simp only [Option.toList_none, List.append_nil]; rw [h3]; omega

theorem yl_valid (l : List UInt8) (i : Nat) (x : Int × Rs) (h : yl l i = some x) : vC x.2.c x.2.r = true ↔ pE (l.take (i + 1)) = 0 := by
  have hf := yl_some l i x h
  have := yl_fOk l i hf
  rw [h] at this
  have hx := Option.some.inj this
  subst hx
  exact (ok_valid _ hf).1
theorem pE_fOk (l : List UInt8) (h : pE l = 0) : fOk l = true := by
  unfold pE at h
  cases hf : fOk l
  · rw [hf] at h; simp at h
  · rfl
theorem bad_stays (t : List UInt8) (s s' : Rs) (hr : 0 < s.r) (h : rn s t = some s') (hv : vC s.c s.r = false) : vC s'.c s'.r = false := by
  induction t generalizing s with
  | nil => have := Option.some.inj h; subst this; exact hv
  | cons b t ih =>
    rw [rn] at h
    cases hb : bh s (b.toNat : Int) with
    | none => rw [hb] at h; exact absurd h (by simp)
    | some s1 =>
      rw [hb] at h
      have h' : rn s1 t = some s' := h
      unfold bh at hb
      rw [if_neg (fun e => by have := congrArg Rs.r e.2; simp only [rs0] at this; omega), if_neg (fun e => by omega), if_neg (fun e => by omega)] at hb
      split at hb
      · rename_i hc
        have e := Option.some.inj hb
        have e1 : s1.c = s.c := by rw [← e]
        have e2 : s1.r = min (s.r * 10 + ((b.toNat : Int) - 48)) 4097 := by rw [← e]
        refine ih s1 (by omega) h' ?_
        have nv : ¬ (1 ≤ s.c ∧ s.c ≤ 256 ∧ 1 ≤ s.r ∧ s.r ≤ 4096) := by rw [← vC_iff, hv]; decide
        cases hw : vC s1.c s1.r
        · rfl
        · have := (vC_iff _ _).1 hw; omega
      · exact absurd hb (by simp)
theorem pE_len (l : List UInt8) (h : pE l = 0) : l.length ≤ 8 := by
  have hf := pE_fOk l h
  unfold pE at h
  rw [if_pos hf] at h
  have hc : (fWord l).length ≤ 2 ∧ (fDig l).length ≤ 4 ∧ vC (colN (fWord l)) (rowN (fDig l)) = true := by
    by_cases hc : (fWord l).length ≤ 2 ∧ (fDig l).length ≤ 4 ∧ vC (colN (fWord l)) (rowN (fDig l)) = true
    · exact hc
    · rw [if_neg hc] at h; exact absurd h (by decide)
  have hen : fEnd l = [] := by
    unfold fOk at hf
    rw [Bool.and_eq_true, Bool.and_eq_true] at hf
    simpa using hf.1.1
  have a1 : l.length ≤ (cutD l).length + 1 := by
    unfold cutD; split
    · rw [List.length_drop]; omega
    · omega
  have a2 : (cutD l).length = (fWord l).length + (fB l).length := by
    have := congrArg List.length (List.takeWhile_append_dropWhile (p := isL) (l := cutD l))
    rw [List.length_append] at this
    unfold fWord fB
    rw [List.length_map]; omega
  have a3 : (fB l).length ≤ (fC l).length + 1 := by
    unfold fC; split
    · rw [List.length_drop]; omega
    · omega
  have a4 : (fC l).length = (fDig l).length + (fEnd l).length := by
    have := congrArg List.length (List.takeWhile_append_dropWhile (p := isD) (l := fC l))
    rw [List.length_append] at this
    unfold fDig fEnd; omega
  rw [hen] at a4
  simp only [List.length_nil] at a4
  omega
theorem pfx_eq (l : List UInt8) (n : Nat) (h0 : n = 0 ∨ (n ≤ l.length ∧ pE (l.take n) = 0)) (h1 : ∀ m, n < m → m ≤ l.length → pE (l.take m) ≠ 0) : pfx l = n := by
  have hk : ∀ k, n ≤ k → k ≤ l.length → pfxF k l = n := by
    intro k
    induction k with
    | zero => intro h _; have : n = 0 := by omega
              subst this; rfl
    | succ k ih =>
      intro h1' h2
      rw [pfxF]
      by_cases e : n = k + 1
      · subst e
        rcases h0 with h0 | h0
        · omega
        · rw [if_pos h0.2]
      · rw [if_neg (h1 (k + 1) (by omega) h2)]
        exact ih (by omega) (by omega)
  unfold pfx
  refine hk _ ?_ (by omega)
  rcases h0 with h0 | ⟨h0, h2⟩
  · omega
  · have := pE_len _ h2
    rw [List.length_take] at this
    omega
theorem pfx_upto (l : List UInt8) (k : Nat) (hk : k ≤ l.length) (hv : ∀ x ∈ ups l k, vC x.2.c x.2.r = true) (hb : ∀ m, k < m → m ≤ l.length → pE (l.take m) ≠ 0) : ((pfx l : Nat) : Int) = lastN (ups l k) := by
  rcases last_spec l k with ⟨h1, h2⟩ | ⟨i, s, h1, h2, h3, h4, h5⟩
  · rw [h1]
    have : pfx l = 0 := pfx_eq l 0 (.inl rfl) (fun m hm hl => by
      rcases Nat.lt_or_ge k m with h | h
      · exact hb m h hl
      · intro he
        have := yl_fOk l (m - 1) (by rw [show m - 1 + 1 = m by omega]; exact pE_fOk _ he)
        rw [h2 (m - 1) (by omega)] at this
        exact absurd this (by simp))
    rw [this]; rfl
  · rw [h3]
    have hmem : ((i : Int) + 1, s) ∈ ups l k := by
      unfold ups
      exact List.mem_filterMap.2 ⟨i, List.mem_range.2 h1, h2⟩
    have hp : pE (l.take (i + 1)) = 0 := (yl_valid l i _ h2).1 (hv _ hmem)
    have : pfx l = i + 1 := pfx_eq l (i + 1) (.inr ⟨by omega, hp⟩) (fun m hm hl => by
      rcases Nat.lt_or_ge k m with h | h
      · exact hb m h hl
      · intro he
        have := yl_fOk l (m - 1) (by rw [show m - 1 + 1 = m by omega]; exact pE_fOk _ he)
        rw [h5 (m - 1) (by omega) (by omega)] at this
        exact absurd this (by simp))
    rw [this]; omega
theorem pfx_done (l : List UInt8) (hv : ∀ x ∈ ups l l.length, vC x.2.c x.2.r = true) : ((pfx l : Nat) : Int) = lastN (ups l l.length) :=
  pfx_upto l l.length (Nat.le_refl _) hv (fun m h1 h2 => by omega)
theorem pre_at (l : List UInt8) (m : Nat) (p : List (Int × Rs)) (x : Int × Rs) (h : p ++ [x] <+: ups l m) : ∃ i, i < m ∧ yl l i = some x ∧ p = ups l i := by
  induction m with
  | zero =>
    have := h.length_le
    simp [ups] at this
  | succ m ih =>
    rw [ups_succ] at h
    cases hy : yl l m with
    | none =>
      rw [hy] at h
      obtain ⟨i, h1, h2⟩ := ih (by simpa using h)
      exact ⟨i, by omega, h2⟩
    | some y =>
      rw [hy] at h
      rcases List.prefix_concat_iff.1 (show p ++ [x] <+: ups l m ++ [y] from h) with e | e
      · obtain ⟨e1, e2⟩ := List.append_inj' e rfl
        have e3 : x = y := by simpa using e2
        exact ⟨m, by omega, by rw [e3, hy], e1⟩
      · obtain ⟨i, h1, h2⟩ := ih e
        exact ⟨i, by omega, h2⟩
theorem pfx_stop (l : List UInt8) (p : List (Int × Rs)) (x : Int × Rs) (h : p ++ [x] <+: ups l l.length) (hv : ∀ y ∈ p, vC y.2.c y.2.r = true) (hx : vC x.2.c x.2.r = false) : ((pfx l : Nat) : Int) = lastN p := by
  obtain ⟨i, h1, h2, rfl⟩ := pre_at l _ p x h
  refine pfx_upto l i (by omega) hv (fun m hm hl he => ?_)
  obtain ⟨_, e2, e3⟩ := yl_at l i x h2
  obtain ⟨y, hy⟩ : ∃ y, yl l (m - 1) = some y := ⟨_, yl_fOk l (m - 1) (by rw [show m - 1 + 1 = m by omega]; exact pE_fOk _ he)⟩
  obtain ⟨_, f2, f3⟩ := yl_at l _ _ hy
  have hvv := (yl_valid l (m - 1) _ hy).2 (by rw [show m - 1 + 1 = m by omega]; exact he)
  rw [show m - 1 + 1 = m by omega] at f2
  have e : l.take m = l.take (i + 1) ++ (l.drop (i + 1)).take (m - (i + 1)) := by
    conv => lhs; rw [show m = (i + 1) + (m - (i + 1)) by omega]
    rw [List.take_add]
  rw [e, rn_app, e2] at f2
  have := bad_stays _ x.2 _ e3 f2 hx
  rw [hvv] at this
  exact absurd this (by decide)
end Go.Proofs.YthehdloofamadaaDoor
