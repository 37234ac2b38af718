/- A cell's form read byte by byte: plain functions and facts. No function of the program here. -/
import Derived.Test.YthehdloofamadaaDoorFb
import Derived.Test.YthehdloofamadaaDoorDa
namespace Go.Proofs.YthehdloofamadaaDoor
open Go.RowKit

/-- What a beginning names. -/
structure Rs where
  c : Int
  r : Int
  cf : Bool
  rf : Bool
deriving DecidableEq
def rs0 : Rs := ⟨0, 0, false, false⟩
/-- One sign more. -/
def bh (s : Rs) (c : Int) : Option Rs :=
  if c = 36 ∧ s = rs0 then some ⟨s.c, s.r, true, s.rf⟩
  else if c = 36 ∧ (s.r = 0 ∧ s.rf = false) ∧ 0 < s.c then some ⟨s.c, s.r, s.cf, true⟩
  else if 0 < letN c ∧ (s.r = 0 ∧ s.rf = false) then some ⟨min (s.c * 26 + letN c) 257, s.r, s.cf, s.rf⟩
  else if 48 ≤ c ∧ c ≤ 57 ∧ 0 < s.c ∧ (48 < c ∨ 0 < s.r) then some ⟨s.c, min (s.r * 10 + (c - 48)) 4097, s.cf, s.rf⟩
  else none
def rn (s : Rs) : List UInt8 → Option Rs
  | [] => some s
  | b :: t => (bh s (b.toNat : Int)).bind fun s' => rn s' t
theorem rn_app (s : Rs) (a b : List UInt8) : rn s (a ++ b) = (rn s a).bind fun s' => rn s' b := by
  induction a generalizing s with
  | nil => rfl
  | cons x a ih =>
    rw [List.cons_append, rn, rn]
    cases bh s (x.toNat : Int) with
    | none => rfl
    | some s' => exact ih s'

theorem letN_L {b : UInt8} (h : isL b = true) : letN (b.toNat : Int) = ((upB b).toNat : Int) - 64 ∧ 0 < letN (b.toNat : Int) := by
  unfold isL at h
  simp only [Bool.or_eq_true, Bool.and_eq_true, decide_eq_true_eq] at h
  unfold letN upB
  rcases h with h | h
  · rw [if_pos (by omega), if_neg (by omega)]; omega
  · rw [if_neg (by omega), if_pos (by omega), if_pos (by omega), UInt8.toNat_ofNat']; omega
theorem letN_not {b : UInt8} (h : isL b = false) : letN (b.toNat : Int) = 0 := by
  unfold isL at h
  rw [Bool.or_eq_false_iff] at h
  simp only [Bool.and_eq_false_iff, decide_eq_false_iff_not] at h
  unfold letN
  rw [if_neg (by omega), if_neg (by omega)]
theorem b36 {b : UInt8} : (b.toNat : Int) = 36 ↔ b = 36 := by
  constructor
  · intro h; exact UInt8.toNat_inj.1 (by show b.toNat = 36; omega)
  · rintro rfl; rfl

/-- Clipped numbers. -/
def cm (c : Int) (W : List UInt8) : Int := W.foldl (fun c b => min (c * 26 + (((upB b).toNat : Int) - 64)) 257) c
def rm (r : Int) (D : List UInt8) : Int := D.foldl (fun r b => min (r * 10 + ((b.toNat : Int) - 48)) 4097) r

theorem rn_letters (W t : List UInt8) (h : ∀ b ∈ W, isL b = true) (c : Int) (cf : Bool) : rn ⟨c, 0, cf, false⟩ (W ++ t) = rn ⟨cm c W, 0, cf, false⟩ t := by
  induction W generalizing c with
  | nil => rfl
  | cons b W ih =>
    have hb := h b (by simp)
    obtain ⟨l1, l2⟩ := letN_L hb
    have hne : ¬ (b.toNat : Int) = 36 := by
      rw [b36]; rintro rfl; exact absurd hb (by decide)
    rw [List.cons_append, rn]
    have e : bh ⟨c, 0, cf, false⟩ (b.toNat : Int) = some ⟨min (c * 26 + (((upB b).toNat : Int) - 64)) 257, 0, cf, false⟩ := by
      unfold bh
      rw [if_neg (fun h => hne h.1), if_neg (fun h => hne h.1), if_pos ⟨l2, rfl, rfl⟩, l1]
    rw [e]
    exact ih (fun b hb => h b (by simp [hb])) _
theorem cm_bd (W : List UInt8) (h : ∀ b ∈ W, isL b = true) (c : Int) (hc : 0 ≤ c) (hc1 : c ≤ 257) : 0 ≤ cm c W ∧ cm c W ≤ 257 ∧ (0 < c ∨ W ≠ [] → 0 < cm c W) := by
  induction W generalizing c with
  | nil => exact ⟨hc, hc1, fun h => h.elim (fun h => h) (fun h => absurd rfl h)⟩
  | cons b W ih =>
    have := upB_bd (h b (by simp))
    obtain ⟨i1, i2, i3⟩ := ih (fun b hb => h b (by simp [hb])) (min (c * 26 + (((upB b).toNat : Int) - 64)) 257) (by omega) (by omega)
    exact ⟨i1, i2, fun _ => i3 (.inl (by omega))⟩
theorem rn_digits (D t : List UInt8) (h : ∀ b ∈ D, isD b = true) (c r : Int) (cf rf : Bool) (hc : 0 < c) (hr : 0 < r) : rn ⟨c, r, cf, rf⟩ (D ++ t) = rn ⟨c, rm r D, cf, rf⟩ t := by
  induction D generalizing r with
  | nil => rfl
  | cons b D ih =>
    have hb := h b (by simp)
    have hd := isD_not hb
    have hb2 := hb
    unfold isD at hb2
    simp only [Bool.and_eq_true, decide_eq_true_eq] at hb2
    have hne : ¬ (b.toNat : Int) = 36 := by rw [b36]; exact hd.2.1
    rw [List.cons_append, rn]
    have e : bh ⟨c, r, cf, rf⟩ (b.toNat : Int) = some ⟨c, min (r * 10 + ((b.toNat : Int) - 48)) 4097, cf, rf⟩ := by
      unfold bh
      rw [if_neg (fun h => hne h.1), if_neg (fun h => hne h.1), if_neg (fun h => by have := letN_not hd.1; omega), if_pos ⟨by omega, by omega, hc, .inr hr⟩]
    rw [e]
    exact ih (fun b hb => h b (by simp [hb])) _ (by omega)
theorem rm_bd (D : List UInt8) (h : ∀ b ∈ D, isD b = true) (r : Int) (hr : 0 < r) (hr1 : r ≤ 4097) : 0 < rm r D ∧ rm r D ≤ 4097 := by
  induction D generalizing r with
  | nil => exact ⟨hr, hr1⟩
  | cons b D ih =>
    have hb := h b (by simp)
    unfold isD at hb
    simp only [Bool.and_eq_true, decide_eq_true_eq] at hb
    exact ih (fun b hb => h b (by simp [hb])) (min (r * 10 + ((b.toNat : Int) - 48)) 4097) (by omega) (by omega)

/-- The whole of it: where a text is no beginning of a cell's form, and what it names else. -/
theorem rn_all (l : List UInt8) : rn rs0 l = if (fEnd l).isEmpty && ((fDig l).isEmpty || (!(fWord l).isEmpty && nz (fDig l))) then some ⟨cm 0 ((cutD l).takeWhile isL), rm 0 (fDig l), dol l, fRow l⟩ else none := by
  have h1 : rn rs0 l = rn ⟨0, 0, dol l, false⟩ (cutD l) := by
    unfold cutD
    cases l with
    | nil => rfl
    | cons b t =>
      cases hd : dol (b :: t)
      · rfl
      · have hb : b = 36 := by simpa [dol] using hd
        subst hb
        rfl
  have hL : ∀ b ∈ (cutD l).takeWhile isL, isL b = true := fun b hb => mem_takeWhile hb
  have h2 : cutD l = (cutD l).takeWhile isL ++ fB l := (List.takeWhile_append_dropWhile).symm
  rw [h1, h2, rn_letters _ _ hL]
  have h3 : (fWord l).isEmpty = ((cutD l).takeWhile isL).isEmpty := by unfold fWord; cases (cutD l).takeWhile isL <;> rfl
  have hfb : ∀ b t, fB l = b :: t → isL b = false := by
    intro b t h
    have := List.head?_dropWhile_not isL (cutD l)
    unfold fB at h
    rw [h] at this
    simpa using this
  rw [← h2]
  obtain ⟨cb0, cb1, cb2⟩ := cm_bd ((cutD l).takeWhile isL) hL 0 (by decide) (by decide)
  have hz : (cutD l).takeWhile isL = [] → cm 0 ((cutD l).takeWhile isL) = 0 := fun h => by rw [h]; rfl
  have hz2 : (cutD l).takeWhile isL = [] → dol l = false → dol (fB l) = false := by
    intro h hd
    have : fB l = l := by
      unfold fB
      have e : cutD l = l := by unfold cutD; rw [hd]; rfl
      rw [e] at h ⊢
      have := List.takeWhile_append_dropWhile (p := isL) (l := l)
      rw [h] at this
      exact this
    rw [this]; exact hd
  have hrow : fRow l = (!((cutD l).takeWhile isL).isEmpty && dol (fB l)) := by unfold fRow; rw [h3]
  rw [h3]
  generalize hLL : (cutD l).takeWhile isL = L at *
  generalize cm 0 L = C at *
  -- the digits and what is behind them
  have hD : ∀ b ∈ fDig l, isD b = true := fun b hb => mem_takeWhile hb
  have h4 : fC l = fDig l ++ fEnd l := (List.takeWhile_append_dropWhile).symm
  have hfe : ∀ b t, fEnd l = b :: t → isD b = false := by
    intro b t h
    have := List.head?_dropWhile_not isD (fC l)
    unfold fEnd at h
    rw [h] at this
    simpa using this
  have hmain : ∀ (rf : Bool), (rf = true → 0 < C) → (rf = false → ∀ b t, fEnd l = b :: t → fDig l = [] → isL b = false ∧ (b = 36 → dol l = true ∧ C = 0)) → rn ⟨C, 0, dol l, rf⟩ (fC l) = if (fEnd l).isEmpty && ((fDig l).isEmpty || (!L.isEmpty && nz (fDig l))) then some ⟨C, rm 0 (fDig l), dol l, rf⟩ else none := by
    intro rf hrf hno
    rw [h4]
    cases hdd : fDig l with
    | nil =>
      cases hee : fEnd l with
      | nil => rfl
      | cons b t =>
        have hnd := hfe b t hee
        have hbn : bh ⟨C, 0, dol l, rf⟩ (b.toNat : Int) = none := by
          have hd2 : ¬ (48 ≤ (b.toNat : Int) ∧ (b.toNat : Int) ≤ 57) := by
            unfold isD at hnd
            rw [Bool.and_eq_false_iff] at hnd
            simp only [decide_eq_false_iff_not] at hnd
            omega
          cases rf with
          | true =>
            have := hrf rfl
            unfold bh
            rw [if_neg (fun h => by have := congrArg Rs.c h.2; simp only [rs0] at this; omega), if_neg (fun h => by simp at h), if_neg (fun h => by simp at h), if_neg (fun h => hd2 ⟨h.1, h.2.1⟩)]
          | false =>
            obtain ⟨n1, n2⟩ := hno rfl b t hee hdd
            unfold bh
            rw [if_neg (fun h => by
              obtain ⟨q1, q2⟩ := n2 (b36.1 h.1)
              have := congrArg Rs.cf h.2
              simp only [rs0, q1] at this
              exact absurd this (by decide)), if_neg (fun h => by
              obtain ⟨q1, q2⟩ := n2 (b36.1 h.1)
              have := h.2.2
              simp only at this
              omega), if_neg (fun h => by have := letN_not n1; omega), if_neg (fun h => hd2 ⟨h.1, h.2.1⟩)]
        rw [List.nil_append, rn, hbn]
        rfl
    | cons a D =>
      have ha : isD a = true := hD a (by rw [hdd]; simp)
      have had := isD_not ha
      have ha2 := ha
      unfold isD at ha2
      simp only [Bool.and_eq_true, decide_eq_true_eq] at ha2
      have hne : ¬ (a.toNat : Int) = 36 := by rw [b36]; exact had.2.1
      have hna : nz (a :: D) = true ↔ 48 < (a.toNat : Int) := by
        simp only [nz, bne_iff_ne, ne_eq]
        constructor
        · intro h
          have h3 : a.toNat ≠ 48 := fun e => h (UInt8.toNat_inj.1 e)
          omega
        · rintro h rfl; exact absurd h (by decide)
      have hCL : L = [] ∨ 0 < C := by
        cases hl : L with
        | nil => exact .inl rfl
        | cons x y => exact .inr (cb2 (.inr (by rw [hl]; simp)))
      rw [List.cons_append, rn]
      by_cases hok : 0 < C ∧ 48 < (a.toNat : Int)
      · have e : bh ⟨C, 0, dol l, rf⟩ (a.toNat : Int) = some ⟨C, min (0 * 10 + ((a.toNat : Int) - 48)) 4097, dol l, rf⟩ := by
          unfold bh
          rw [if_neg (fun h => hne h.1), if_neg (fun h => hne h.1), if_neg (fun h => by have := letN_not had.1; omega), if_pos ⟨by omega, by omega, hok.1, .inl hok.2⟩]
        rw [e]
        show rn _ (D ++ fEnd l) = _
        rw [rn_digits D _ (fun b hb => hD b (by rw [hdd]; simp [hb])) _ _ _ _ hok.1 (by omega)]
        have hLn : L.isEmpty = false := by
          cases hl : L with
          | nil => have := hz hl; omega
          | cons x y => rfl
        have hnz : nz (a :: D) = true := hna.2 hok.2
        rw [hLn, hnz]
        cases hee : fEnd l with
        | nil => rfl
        | cons b t =>
          have hnd := hfe b t hee
          have hrb := rm_bd D (fun b hb => hD b (by rw [hdd]; simp [hb])) (min (0 * 10 + ((a.toNat : Int) - 48)) 4097) (by omega) (by omega)
          rw [rn]
          have hbn : bh ⟨C, rm (min (0 * 10 + ((a.toNat : Int) - 48)) 4097) D, dol l, rf⟩ (b.toNat : Int) = none := by
            have hd2 : ¬ (48 ≤ (b.toNat : Int) ∧ (b.toNat : Int) ≤ 57) := by
              unfold isD at hnd
              rw [Bool.and_eq_false_iff] at hnd
              simp only [decide_eq_false_iff_not] at hnd
              omega
            unfold bh
            rw [if_neg (fun h => by have := congrArg Rs.r h.2; simp only [rs0] at this; omega), if_neg (fun h => by have := h.2.1.1; simp only at this; omega), if_neg (fun h => by have := h.2.1; simp only at this; omega), if_neg (fun h => hd2 ⟨h.1, h.2.1⟩)]
          rw [hbn]
          rfl
      · have e : bh ⟨C, 0, dol l, rf⟩ (a.toNat : Int) = none := by
          unfold bh
          rw [if_neg (fun h => hne h.1), if_neg (fun h => hne h.1), if_neg (fun h => by have := letN_not had.1; omega), if_neg (fun h => by
            obtain ⟨_, _, q1, q2⟩ := h
            simp only at q1 q2
            omega)]
        rw [e]
        have hfalse : ((fEnd l).isEmpty && ((a :: D).isEmpty || (!L.isEmpty && nz (a :: D)))) = false := by
          rw [Bool.and_eq_false_iff]
          right
          rw [Bool.or_eq_false_iff]
          refine ⟨rfl, ?_⟩
          rw [Bool.and_eq_false_iff]
          rcases hCL with hl | hc
          · left; rw [hl]; rfl
          · right
            cases hn : nz (a :: D)
            · rfl
            · exact absurd ⟨hc, hna.1 hn⟩ hok
        rw [hfalse]
        rfl
  cases hr : fRow l
  · have hc : fC l = fB l := by unfold fC; rw [hr]; rfl
    rw [← hc]
    refine hmain false (fun h => by cases h) ?_
    intro _ b t he hdd
    have hB : fB l = b :: t := by rw [← hc, h4, hdd, he]; rfl
    refine ⟨hfb b t hB, ?_⟩
    rintro rfl
    have hdb : dol (fB l) = true := by rw [hB]; rfl
    rw [hrow, hdb, Bool.and_true] at hr
    have hl : L = [] := by cases hl : L with
      | nil => rfl
      | cons x y => rw [hl] at hr; simp at hr
    refine ⟨?_, hz hl⟩
    cases hd : dol l
    · have := hz2 hl hd; rw [hdb] at this; exact absurd this (by decide)
    · rfl
  · have hb := hr
    rw [hrow, Bool.and_eq_true] at hb
    obtain ⟨b1, b2⟩ := hb
    have hC : 0 < C := by
      apply cb2
      right
      rintro rfl
      exact absurd b1 (by decide)
    obtain ⟨t, ht⟩ : ∃ t, fB l = 36 :: t := by
      cases hB : fB l with
      | nil => rw [hB] at b2; exact absurd b2 (by decide)
      | cons b t =>
        rw [hB] at b2
        have : b = 36 := by simpa [dol] using b2
        exact ⟨t, by rw [this]⟩
    have hc : fC l = t := by unfold fC; rw [hr, ht]; rfl
    rw [ht, rn]
    have e : bh ⟨C, 0, dol l, false⟩ ((36 : UInt8).toNat : Int) = some ⟨C, 0, dol l, true⟩ := by
      unfold bh
      rw [if_neg (fun h => by have := congrArg Rs.c h.2; simp only [rs0] at this; omega), if_pos ⟨rfl, ⟨rfl, rfl⟩, hC⟩]
    rw [e]
    show rn ⟨C, 0, dol l, true⟩ t = _
    rw [← hc]
    exact hmain true (fun _ => hC) (fun h => by cases h)

theorem rm_zero (D : List UInt8) (h : ∀ b ∈ D, isD b = true) : (D = [] → rm 0 D = 0) ∧ (nz D = true → 0 < rm 0 D) := by
  refine ⟨fun h => by rw [h]; rfl, fun hn => ?_⟩
  cases D with
  | nil => exact absurd hn (by decide)
  | cons a D =>
    have ha := h a (by simp)
    unfold isD at ha
    simp only [Bool.and_eq_true, decide_eq_true_eq] at ha
    have hz : a.toNat ≠ 48 := fun e => by
      have : a = 48 := UInt8.toNat_inj.1 e
      subst this; simp [nz] at hn
    exact (rm_bd D (fun b hb => h b (by simp [hb])) (min (0 * 10 + ((a.toNat : Int) - 48)) 4097) (by omega) (by omega)).1
theorem fWord_empty (l : List UInt8) : (fWord l).isEmpty = ((cutD l).takeWhile isL).isEmpty := by unfold fWord; cases (cutD l).takeWhile isL <;> rfl
/-- A text has a cell's form just if it is read to its end and a row has come. -/
theorem fOk_rn (l : List UInt8) : (fOk l = true → rn rs0 l = some ⟨cm 0 ((cutD l).takeWhile isL), rm 0 (fDig l), dol l, fRow l⟩ ∧ 0 < rm 0 (fDig l)) ∧ (fOk l = false → ∀ s, rn rs0 l = some s → s.r ≤ 0) := by
  have hD : ∀ b ∈ fDig l, isD b = true := fun b hb => mem_takeWhile hb
  obtain ⟨z1, z2⟩ := rm_zero (fDig l) hD
  constructor
  · intro h
    unfold fOk at h
    rw [Bool.and_eq_true, Bool.and_eq_true] at h
    obtain ⟨⟨h1, h2⟩, h3⟩ := h
    rw [rn_all, h1, h2, h3]
    simp only [Bool.true_and, Bool.or_true, if_true]
    exact ⟨trivial, z2 h3⟩
  · intro h s hs
    rw [rn_all] at hs
    split at hs
    · rename_i hc
      rw [Bool.and_eq_true, Bool.or_eq_true] at hc
      obtain ⟨c1, c2⟩ := hc
      rcases c2 with c2 | c2
      · have : fDig l = [] := by simpa using c2
        have e := Option.some.inj hs
        rw [← e]
        show rm 0 (fDig l) ≤ 0
        rw [z1 this]; exact Int.le_refl 0
      · unfold fOk at h
        rw [Bool.and_eq_true] at c2
        rw [c1, c2.1, c2.2] at h
        exact absurd h (by decide)
    · exact absurd hs (by simp)

theorem cm_eq (W : List UInt8) (h : ∀ b ∈ W, isL b = true) : cm 0 W = min (colN (W.map upB)) 257 := by
  have key : ∀ (W : List UInt8), (∀ b ∈ W, isL b = true) → ∀ (c d : Int), 0 ≤ d → c = min d 257 → cm c W = min ((W.map upB).foldl (fun c b => 26 * c + ((b.toNat : Int) - 65) + 1) d) 257 ∧ 0 ≤ (W.map upB).foldl (fun c b => 26 * c + ((b.toNat : Int) - 65) + 1) d := by
    intro W
    induction W with
    | nil => intro _ c d h0 h; exact ⟨h, h0⟩
    | cons b W ih =>
      intro hW c d h0 hc
      have hb := upB_bd (hW b (by simp))
      exact ih (fun b hb => hW b (by simp [hb])) (min (c * 26 + (((upB b).toNat : Int) - 64)) 257) (26 * d + (((upB b).toNat : Int) - 65) + 1) (by omega) (by omega)
  exact (key W h 0 0 (by decide) (by decide)).1
theorem rm_eq (D : List UInt8) (h : ∀ b ∈ D, isD b = true) : rm 0 D = min (rowN D) 4097 := by
  have key : ∀ (W : List UInt8), (∀ b ∈ W, isD b = true) → ∀ (c d : Int), 0 ≤ d → c = min d 4097 → rm c W = min (W.foldl (fun r b => 10 * r + ((b.toNat : Int) - 48)) d) 4097 := by
    intro W
    induction W with
    | nil => intro _ c d h0 h; exact h
    | cons b W ih =>
      intro hW c d h0 hc
      have hb := hW b (by simp)
      unfold isD at hb
      simp only [Bool.and_eq_true, decide_eq_true_eq] at hb
      exact ih (fun b hb => hW b (by simp [hb])) (min (c * 10 + ((b.toNat : Int) - 48)) 4097) (10 * d + ((b.toNat : Int) - 48)) (by omega) (by omega)
  exact key D h 0 0 (by decide) (by decide)
theorem snoc_of {D : List UInt8} (h : D ≠ []) : ∃ p b, D = p ++ [b] := ⟨D.dropLast, D.getLast h, (List.dropLast_concat_getLast h).symm⟩
theorem colN_nn (W : List UInt8) (hb : ∀ b ∈ W, 65 ≤ (b.toNat : Int) ∧ (b.toNat : Int) ≤ 90) : 0 ≤ colN W ∧ (W ≠ [] → 1 ≤ colN W) := by
  generalize hn : W.length = n
  induction n generalizing W with
  | zero => have : W = [] := List.length_eq_zero_iff.1 hn; subst this; exact ⟨by decide, fun h => absurd rfl h⟩
  | succ n ih =>
    obtain ⟨p, b, rfl⟩ := snoc_of (D := W) (by rintro rfl; simp at hn)
    have := hb b (by simp)
    obtain ⟨i1, _⟩ := ih p (fun b hb' => hb b (by simp [hb'])) (by simpa using hn)
    rw [colN_snoc]
    exact ⟨by omega, fun _ => by omega⟩
theorem colN_long (W : List UInt8) (h : 3 ≤ W.length) (hb : ∀ b ∈ W, 65 ≤ (b.toNat : Int) ∧ (b.toNat : Int) ≤ 90) : 256 < colN W := by
  obtain ⟨p, b, rfl⟩ := snoc_of (D := W) (by rintro rfl; simp at h)
  obtain ⟨q, a, rfl⟩ := snoc_of (D := p) (by rintro rfl; simp at h)
  have h1 := hb b (by simp)
  have h2 := hb a (by simp)
  have h3 := (colN_nn q (fun b hb' => hb b (by simp [hb']))).2 (by rintro rfl; simp at h)
  rw [colN_snoc, colN_snoc]
  omega
theorem rowN_pos (D : List UInt8) (hz : nz D = true) (hb : ∀ b ∈ D, 48 ≤ (b.toNat : Int) ∧ (b.toNat : Int) ≤ 57) : 1 ≤ rowN D := by
  generalize hn : D.length = n
  induction n generalizing D with
  | zero => have : D = [] := List.length_eq_zero_iff.1 hn; subst this; exact absurd hz (by decide)
  | succ n ih =>
    obtain ⟨p, b, rfl⟩ := snoc_of (D := D) (by rintro rfl; simp at hn)
    have h1 := hb b (by simp)
    rw [rowN_snoc]
    cases p with
    | nil =>
      have h3 : b.toNat ≠ 48 := fun e => by
        have : b = 48 := UInt8.toNat_inj.1 e
        subst this; exact absurd hz (by decide)
      have : rowN [] = 0 := rfl
      omega
    | cons x p =>
      have := ih (x :: p) hz (fun b hb' => hb b (by
        rcases List.mem_cons.1 hb' with rfl | h'
        · simp
        · simp [h'])) (by simpa using hn)
      omega
theorem rowN_long (D : List UInt8) (h : 5 ≤ D.length) (hz : nz D = true) (hb : ∀ b ∈ D, 48 ≤ (b.toNat : Int) ∧ (b.toNat : Int) ≤ 57) : 4096 < rowN D := by
  obtain ⟨p, b, rfl⟩ := snoc_of (D := D) (by rintro rfl; simp at h)
  obtain ⟨q, a, rfl⟩ := snoc_of (D := p) (by rintro rfl; simp at h)
  obtain ⟨u, x, rfl⟩ := snoc_of (D := q) (by rintro rfl; simp at h)
  obtain ⟨v, y, rfl⟩ := snoc_of (D := u) (by rintro rfl; simp at h)
  have h1 := hb b (by simp)
  have h2 := hb a (by simp)
  have h3 := hb x (by simp)
  have h4 := hb y (by simp)
  have hv : v ≠ [] := by rintro rfl; simp at h
  have hz' : nz v = true := by
    cases v with
    | nil => exact absurd rfl hv
    | cons c v => exact hz
  have h5 := rowN_pos v hz' (fun b hb' => hb b (by simp [hb']))
  rw [rowN_snoc, rowN_snoc, rowN_snoc, rowN_snoc]
  omega
/-- What is named is a cell just if the text is one's. -/
theorem ok_valid (l : List UInt8) (h : fOk l = true) : (vC (cm 0 ((cutD l).takeWhile isL)) (rm 0 (fDig l)) = true ↔ pE l = 0) ∧ (pE l = 0 → cm 0 ((cutD l).takeWhile isL) = pc l ∧ rm 0 (fDig l) = pr l ∧ dol l = pcf l ∧ fRow l = prf l) ∧ (pE l ≠ 0 → pE l = 20) := by
  have hL : ∀ b ∈ (cutD l).takeWhile isL, isL b = true := fun b hb => mem_takeWhile hb
  have hD : ∀ b ∈ fDig l, isD b = true := fun b hb => mem_takeWhile hb
  have e1 : cm 0 ((cutD l).takeWhile isL) = min (colN (fWord l)) 257 := cm_eq _ hL
  have e2 := rm_eq _ hD
  have hz : nz (fDig l) = true := by
    unfold fOk at h
    rw [Bool.and_eq_true] at h
    exact h.2
  have l1 := colN_long (fWord l) (hb := fWord_bd l)
  have l2 := rowN_long (fDig l) (hz := hz) (hb := fDig_bd l)
  have hp : pE l = if (fWord l).length ≤ 2 ∧ (fDig l).length ≤ 4 ∧ vC (colN (fWord l)) (rowN (fDig l)) = true then 0 else 20 := by unfold pE; rw [if_pos h]
  have hk : vC (cm 0 ((cutD l).takeWhile isL)) (rm 0 (fDig l)) = true ↔ ((fWord l).length ≤ 2 ∧ (fDig l).length ≤ 4 ∧ vC (colN (fWord l)) (rowN (fDig l)) = true) := by
    rw [e1, e2, vC_iff, vC_iff]
    omega
  refine ⟨?_, ?_, ?_⟩
  · rw [hk, hp]
    split <;> simp_all
  · intro h0
    rw [hp] at h0
    have hc : (fWord l).length ≤ 2 ∧ (fDig l).length ≤ 4 ∧ vC (colN (fWord l)) (rowN (fDig l)) = true := by
      by_cases hc : (fWord l).length ≤ 2 ∧ (fDig l).length ≤ 4 ∧ vC (colN (fWord l)) (rowN (fDig l)) = true
      · exact hc
      · rw [if_neg hc] at h0; exact absurd h0 (by decide)
    have hp0 : pE l = 0 := by rw [hp, if_pos hc]
    have hv := (vC_iff _ _).1 hc.2.2
    unfold pc pr pcf prf
    rw [if_pos hp0, if_pos hp0, if_pos hp0, if_pos hp0, e1, e2]
    exact ⟨by omega, by omega, rfl, rfl⟩
  · rw [hp]; split
    · intro h; exact absurd rfl h
    · intro _; rfl
end Go.Proofs.YthehdloofamadaaDoor
