/- Move: lines' places by a table, as the document has them. No function of the program here. Move: the document's own way with a formula (quadrilleref22.along), plain: the fate of lines. No function of the program here. Move: lines put in and taken out, twice. No function of the program here. Move: formulas whose references went along twice; faults counted; areas that have one of the last lines. No function of the program here. -/
import Derived.Test.YtbkcebbddhaifaaGreatDoorC32
import Derived.Test.YtbkcebbddhaifaaGreatDoorC31
namespace Go.Proofs.YtbkcebbddhaifaaGreatDoor
open Go.RowKit

/-- Where line k is brought; 0: nowhere. -/
def pl (at' n most k : Int) : Int := if n < 0 ∧ at' ≤ k ∧ k < at' - n then 0 else if (if k < at' then k else k + n) ≤ most then (if k < at' then k else k + n) else 0
/-- The next place, ahead of line k. -/
def nx (at' n k : Int) : Int := if k ≤ at' then k else if n < 0 then (if k < at' - n then at' else k + n) else k + n
/-- The table behind the lines ahead of k. -/
def plL (at' n most : Int) (m k : Nat) : List Int := (List.range (m + 1)).map fun i => if 1 ≤ i ∧ i < k then pl at' n most i else 0
theorem plL_len (at' n most : Int) (m k : Nat) : (plL at' n most m k).length = m + 1 := by simp [plL]
theorem plL_get {at' n most : Int} {m k i : Nat} (h : i ≤ m) : (plL at' n most m k)[i]? = some (if 1 ≤ i ∧ i < k then pl at' n most i else 0) := by
  unfold plL
  rw [List.getElem?_map, List.getElem?_range (by omega)]
  rfl
theorem plL_one (at' n most : Int) (m : Nat) : plL at' n most m 1 = List.replicate (m + 1) 0 := by
  apply List.ext_getElem?
  intro i
  by_cases h : i ≤ m
  · rw [plL_get h, List.getElem?_replicate, if_neg (by omega : ¬ (1 ≤ i ∧ i < 1)), if_pos (by omega : i < m + 1)]
  · rw [List.getElem?_eq_none (by rw [plL_len]; omega), List.getElem?_eq_none (by simp; omega)]
theorem plL_set {at' n most : Int} {m k : Nat} (h1 : 1 ≤ k) (h2 : k ≤ m) : (plL at' n most m k).set k (pl at' n most k) = plL at' n most m (k + 1) := by
  apply List.ext_getElem?
  intro i
  by_cases h : i ≤ m
  · rw [plL_get h, List.getElem?_set]
    by_cases e : k = i
    · subst e
      rw [if_pos rfl, if_pos (by rw [plL_len]; omega), if_pos (by omega)]
    · rw [if_neg e, plL_get h]
      by_cases q : 1 ≤ i ∧ i < k
      · rw [if_pos q, if_pos (by omega)]
      · rw [if_neg q, if_neg (by omega)]
  · rw [List.getElem?_eq_none (by rw [List.length_set, plL_len]; omega), List.getElem?_eq_none (by rw [plL_len]; omega)]
theorem plL_skip {at' n most : Int} {m k : Nat} (h : pl at' n most k = 0) : plL at' n most m k = plL at' n most m (k + 1) := by
  unfold plL
  apply List.map_congr_left
  intro i _
  by_cases e : i = k
  · subst e
    rw [if_neg (by omega), h]
    split <;> rfl
  · by_cases q : 1 ≤ i ∧ i < k
    · rw [if_pos q, if_pos (by omega)]
    · rw [if_neg q, if_neg (by omega)]
theorem nx_one {at' n : Int} (h : 1 ≤ at') : nx at' n 1 = 1 := by unfold nx; rw [if_pos h]
theorem nx_in {at' n k : Int} (h : k = at') (hn : 0 < n) : nx at' n k = k ∧ nx at' n k + n + 1 = nx at' n (k + 1) := by unfold nx; repeat' split <;> omega
theorem nx_gone {at' n k : Int} (hn : n < 0) (h1 : at' ≤ k) (h2 : k < at' - n) : nx at' n (k + 1) = nx at' n k ∧ ∀ most, pl at' n most k = 0 := by
  constructor
  · unfold nx; repeat' split <;> omega
  · intro most; unfold pl; rw [if_pos ⟨hn, h1, h2⟩]
theorem nx_stay {at' n k : Int} (h : ¬ (k = at' ∧ 0 < n)) (hg : ¬ (n < 0 ∧ at' ≤ k ∧ k < at' - n)) : nx at' n (k + 1) = nx at' n k + 1 ∧ ∀ most, pl at' n most k = if nx at' n k ≤ most then nx at' n k else 0 := by
  have e : nx at' n k = if k < at' then k else k + n := by unfold nx; repeat' split <;> omega
  constructor
  · unfold nx; repeat' split <;> omega
  · intro most; unfold pl; rw [if_neg hg, e]
theorem pl_in {at' n k : Int} (h : k = at') (hn : 0 < n) (most : Int) : pl at' n most k = if nx at' n k + n ≤ most then nx at' n k + n else 0 := by
  rw [(nx_in h hn).1]
  unfold pl
  rw [if_neg (by omega)]
  simp only [if_neg (show ¬ k < at' by omega)]
theorem nx_bd {at' n most k : Int} (h : LnOk at' n most) (h1 : 1 ≤ k) (h2 : k ≤ most + 1) : 1 ≤ nx at' n k ∧ nx at' n k ≤ 2 * most + 1 := by
  obtain ⟨a, b, c, d⟩ := h
  unfold nx
  repeat' split <;> omega
theorem pl_bd {at' n most k : Int} (h : LnOk at' n most) (h1 : 1 ≤ k) (h2 : k ≤ most) : 0 ≤ pl at' n most k ∧ pl at' n most k ≤ most := by
  obtain ⟨a, b, c, d⟩ := h
  unfold pl
  repeat' split <;> omega
/-- What a row of lines comes to, behind those ahead of k. -/
def spA (at' n most a k : Int) : Int × Int := (thr at' n most a (k - 1)).getD (0, 0)
theorem thr_void {at' n most a b : Int} (h : b < a) : thr at' n most a b = none := by
  unfold thr
  rw [if_neg (by omega), if_neg (by omega)]
theorem spA_first {at' n most a : Int} : spA at' n most a a = (0, 0) := by unfold spA; rw [thr_void (by omega)]; rfl
theorem thr_zero {at' n most a k : Int} (h : LnOk at' n most) (h1 : 1 ≤ a) (h2 : a ≤ k) (h3 : k ≤ most) (hp : pl at' n most k = 0) : thr at' n most a k = thr at' n most a (k - 1) := by
  obtain ⟨q1, q2, q3, q4⟩ := h
  unfold pl at hp
  unfold thr
  by_cases hn : n < 0
  · simp only [if_pos hn]
    by_cases hk : k < at'
    · rw [if_neg (by omega)] at hp; simp only [if_pos hk] at hp; split at hp <;> omega
    · by_cases hg : k < at' - n
      · have e1 : (max a 1 ≤ min k (at' - 1)) = (max a 1 ≤ min (k - 1) (at' - 1)) := by apply propext; omega
        have e2 : ¬ max a (at' - n) ≤ min k most := by omega
        have e3 : ¬ max a (at' - n) ≤ min (k - 1) most := by omega
        rw [if_neg e2, if_neg e2, if_neg e3, if_neg e3]
        by_cases c : max a 1 ≤ min k (at' - 1)
        · rw [if_pos c, if_pos (e1 ▸ c)]; congr 2; omega
        · rw [if_neg c, if_neg (e1 ▸ c)]
      · rw [if_neg (by omega)] at hp; simp only [if_neg hk] at hp; split at hp <;> omega
  · simp only [if_neg hn]
    rw [if_neg (by omega)] at hp
    by_cases hk : k < at'
    · simp only [if_pos hk] at hp; split at hp <;> omega
    · simp only [if_neg hk] at hp
      have hg : most < k + n := by split at hp <;> omega
      by_cases c1 : max a 1 ≤ min k (at' - 1)
      · by_cases c2 : max a at' ≤ min k (most - n)
        · rw [if_pos c1, if_pos c2, if_pos (by omega)]
          split
          · congr 2; omega
          · omega
        · rw [if_pos c1, if_neg c2, if_pos (by omega)]
          split
          · omega
          · congr 2; omega
      · by_cases c2 : max a at' ≤ min k (most - n)
        · rw [if_neg c1, if_pos c2, if_neg (by omega)]
          split
          · congr 2; omega
          · omega
        · rw [if_neg c1, if_neg c2, if_neg (by omega), if_neg (by omega)]
theorem some_pair {a b c d : Int} (h1 : a = c) (h2 : b = d) : some (a, b) = some (c, d) := by rw [h1, h2]
theorem thr_more {at' n most a k : Int} (h : LnOk at' n most) (h1 : 1 ≤ a) (h2 : a ≤ k) (h3 : k ≤ most) (hp : 0 < pl at' n most k) : thr at' n most a k = some (if (spA at' n most a k).1 = 0 then pl at' n most k else (spA at' n most a k).1, pl at' n most k) := by
  obtain ⟨q1, q2, q3, q4⟩ := h
  have hg : ¬ (n < 0 ∧ at' ≤ k ∧ k < at' - n) := by
    intro q; unfold pl at hp; rw [if_pos q] at hp; omega
  obtain ⟨P, hP⟩ : ∃ P, pl at' n most k = P := ⟨_, rfl⟩
  have e : P = (if k < at' then k else k + n) ∧ P ≤ most := by
    unfold pl at hP hp
    rw [if_neg hg] at hP hp
    split at hP
    · omega
    · rename_i q; rw [if_neg q] at hp; omega
  rw [hP] at hp ⊢
  clear hP
  obtain ⟨e, e2⟩ := e
  unfold spA thr
  by_cases hk : k < at'
  · rw [if_pos hk] at e
    subst e
    by_cases ha : a = P
    · subst ha
      by_cases hn : n < 0
      · simp only [if_pos hn]
        simp only [if_pos (show max a 1 ≤ min a (at' - 1) by omega), if_neg (show ¬ max a (at' - n) ≤ min a most by omega), if_neg (show ¬ max a 1 ≤ min (a - 1) (at' - 1) by omega), if_neg (show ¬ max a (at' - n) ≤ min (a - 1) most by omega), Option.getD_none, if_true]
        exact some_pair (by omega) (by omega)
      · simp only [if_neg hn]
        simp only [if_pos (show max a 1 ≤ min a (at' - 1) by omega), if_neg (show ¬ max a at' ≤ min a (most - n) by omega), if_neg (show ¬ max a 1 ≤ min (a - 1) (at' - 1) by omega), if_neg (show ¬ max a at' ≤ min (a - 1) (most - n) by omega), Option.getD_none, if_true]
        exact some_pair (by omega) (by omega)
    · by_cases hn : n < 0
      · simp only [if_pos hn]
        simp only [if_pos (show max a 1 ≤ min P (at' - 1) by omega), if_neg (show ¬ max a (at' - n) ≤ min P most by omega), if_pos (show max a 1 ≤ min (P - 1) (at' - 1) by omega), if_neg (show ¬ max a (at' - n) ≤ min (P - 1) most by omega), Option.getD_some, if_neg (show ¬ max a 1 = 0 by omega)]
        exact some_pair (by omega) (by omega)
      · simp only [if_neg hn]
        simp only [if_pos (show max a 1 ≤ min P (at' - 1) by omega), if_neg (show ¬ max a at' ≤ min P (most - n) by omega), if_pos (show max a 1 ≤ min (P - 1) (at' - 1) by omega), if_neg (show ¬ max a at' ≤ min (P - 1) (most - n) by omega), Option.getD_some, if_neg (show ¬ max a 1 = 0 by omega)]
        exact some_pair (by omega) (by omega)
  · rw [if_neg hk] at e
    subst e
    obtain ⟨F, hF⟩ : ∃ F, (if n < 0 then at' - n else at') = F := ⟨_, rfl⟩
    obtain ⟨T, hT⟩ : ∃ T, (if n < 0 then most else most - n) = T := ⟨_, rfl⟩
    rw [hF, hT]
    have f1 : F ≤ k ∧ k ≤ T ∧ at' ≤ F ∧ 1 ≤ F + n := by rw [← hF, ← hT]; split <;> omega
    clear hF hT
    by_cases c1 : a ≤ at' - 1
    · by_cases c2 : F ≤ k - 1
      · simp only [if_pos (show max a 1 ≤ min k (at' - 1) by omega), if_pos (show max a F ≤ min k T by omega), if_pos (show max a 1 ≤ min (k - 1) (at' - 1) by omega), if_pos (show max a F ≤ min (k - 1) T by omega), Option.getD_some, if_neg (show ¬ max a 1 = 0 by omega)]
        exact some_pair (by omega) (by omega)
      · simp only [if_pos (show max a 1 ≤ min k (at' - 1) by omega), if_pos (show max a F ≤ min k T by omega), if_pos (show max a 1 ≤ min (k - 1) (at' - 1) by omega), if_neg (show ¬ max a F ≤ min (k - 1) T by omega), Option.getD_some, if_neg (show ¬ max a 1 = 0 by omega)]
        exact some_pair (by omega) (by omega)
    · by_cases c2 : max a F ≤ k - 1
      · simp only [if_neg (show ¬ max a 1 ≤ min k (at' - 1) by omega), if_pos (show max a F ≤ min k T by omega), if_neg (show ¬ max a 1 ≤ min (k - 1) (at' - 1) by omega), if_pos (show max a F ≤ min (k - 1) T by omega), Option.getD_some, if_neg (show ¬ max a F + n = 0 by omega)]
        exact some_pair (by omega) (by omega)
      · simp only [if_neg (show ¬ max a 1 ≤ min k (at' - 1) by omega), if_pos (show max a F ≤ min k T by omega), if_neg (show ¬ max a 1 ≤ min (k - 1) (at' - 1) by omega), if_neg (show ¬ max a F ≤ min (k - 1) T by omega), Option.getD_none, if_true]
        exact some_pair (by omega) (by omega)
/-- One line more. -/
theorem spA_step {at' n most a k : Int} (h : LnOk at' n most) (h1 : 1 ≤ a) (h2 : a ≤ k) (h3 : k ≤ most) : spA at' n most a (k + 1) = if 0 < pl at' n most k then (if (spA at' n most a k).1 = 0 then pl at' n most k else (spA at' n most a k).1, pl at' n most k) else spA at' n most a k := by
  by_cases hp : 0 < pl at' n most k
  · rw [if_pos hp]
    conv => lhs; unfold spA
    rw [show k + 1 - 1 = k by omega, thr_more h h1 h2 h3 hp]
    rfl
  · rw [if_neg hp]
    have hz : pl at' n most k = 0 := by have := (pl_bd h (by omega : 1 ≤ k) h3).1; omega
    unfold spA
    rw [show k + 1 - 1 = k by omega, thr_zero h h1 h2 h3 hz]
/-- At the end: the fate of the row of lines. -/
theorem spA_end {at' n most a b : Int} (h : LnOk at' n most) : (thr at' n most a b = none ∧ spA at' n most a (b + 1) = (0, 0)) ∨ (∃ r, thr at' n most a b = some r ∧ spA at' n most a (b + 1) = r ∧ 0 < r.1) := by
  unfold spA
  rw [show b + 1 - 1 = b by omega]
  cases e : thr at' n most a b with
  | none => exact .inl ⟨rfl, rfl⟩
  | some r =>
    refine .inr ⟨r, rfl, rfl, ?_⟩
    obtain ⟨q1, q2, q3, q4⟩ := h
    unfold thr at e
    by_cases hn : n < 0
    · simp only [if_pos hn] at e
      split at e
      · split at e <;> (injection e with e; subst e; simp only; omega)
      · split at e
        · injection e with e; subst e; simp only; omega
        · cases e
    · simp only [if_neg hn] at e
      split at e
      · split at e <;> (injection e with e; subst e; simp only; omega)
      · split at e
        · injection e with e; subst e; simp only; omega
        · cases e
/-- One cell's line. -/
theorem thr_pl {at' n most a : Int} (h : LnOk at' n most) (h1 : 1 ≤ a) (h3 : a ≤ most) : thr at' n most a a = if 0 < pl at' n most a then some (pl at' n most a, pl at' n most a) else none := by
  by_cases hp : 0 < pl at' n most a
  · rw [if_pos hp, thr_more h h1 (Int.le_refl _) h3 hp, spA_first]
    rfl
  · have hz : pl at' n most a = 0 := by have := (pl_bd h (by omega : 1 ≤ a) h3).1; omega
    rw [if_neg hp, thr_zero h h1 (Int.le_refl _) h3 hz, thr_void (by omega)]
/-- Lines that stay where they are. -/
theorem thr_same {most a b : Int} (h1 : 1 ≤ a) (h2 : a ≤ b) (h3 : b ≤ most) : thr 1 0 most a b = some (a, b) := by
  unfold thr
  simp only [Int.lt_irrefl, if_false]
  rw [if_neg (by omega), if_pos (by omega)]
  congr 2 <;> omega
end Go.Proofs.YtbkcebbddhaifaaGreatDoor
namespace Go.Proofs.YtbkcebbddhaifaaGreatDoor
open Go.RowKit

mutual
theorem alN_of_cpy (f : Fate) : ∀ t : Nd, alN f (cpy t) = cpy (alN f t)
  | .mk h ts => by
    rw [cpy, alN, alN]
    by_cases hk : h.k = 5 ∨ h.k = 6
    · rw [if_pos hk, if_pos hk]
      unfold nmN
      have e : nmA (Nd.mk { h with x := one h.x } (cpyL ts)).hd = nmA (Nd.mk h ts).hd := rfl
      rw [e]
      cases f (nmA (Nd.mk h ts).hd) with
      | none => exact ndF_cpy.symm
      | some a =>
        simp only
        rw [cpy]
        show Nd.mk (toH { h with x := one h.x } a) (cpyL ts) = Nd.mk { toH h a with x := one (toH h a).x } (cpyL ts)
        unfold toH
        split <;> rfl
    · rw [if_neg hk, if_neg hk, cpy, alL_of_cpy f ts]
theorem alL_of_cpy (f : Fate) : ∀ ts : List Nd, alL f (cpyL ts) = cpyL (alL f ts)
  | [] => by rw [cpyL, alL, cpyL]
  | t :: ts => by rw [cpyL, alL, alL, cpyL, alN_of_cpy f t, alL_of_cpy f ts]
end
/-- What the program answers is what the document does. -/
theorem al_same (f : Fate) (t : Nd) : tsame (alN f (cpy t)) (alN f t) = true := by rw [alN_of_cpy, tsame_cpy, tsame_refl]
theorem alL_take (f : Fate) (ts : List Nd) (k : Nat) (h : k < ts.length) : alL f (ts.take (k + 1)) = alL f (ts.take k) ++ [alN f ts[k]] := by
  rw [alL_map, alL_map, List.take_add_one, List.getElem?_eq_getElem h, List.map_append]
  rfl
/-- The head of a node whose references went along, and whether they are there still. -/
def goH (cols : Bool) (at' n : Int) (h : Hd) : Option Hd :=
  if h.k = 5 then
    (if cols then (if 0 < pl at' n 256 h.c1 then some { h with c1 := pl at' n 256 h.c1 } else none)
     else (if 0 < pl at' n 4096 h.r1 then some { h with r1 := pl at' n 4096 h.r1 } else none))
  else if h.k = 6 then
    (if cols then (if 0 < (spA at' n 256 h.c1 (h.c2 + 1)).1 then some { h with c1 := (spA at' n 256 h.c1 (h.c2 + 1)).1, c2 := (spA at' n 256 h.c1 (h.c2 + 1)).2 } else none)
     else (if 0 < (spA at' n 4096 h.r1 (h.r2 + 1)).1 then some { h with r1 := (spA at' n 4096 h.r1 (h.r2 + 1)).1, r2 := (spA at' n 4096 h.r1 (h.r2 + 1)).2 } else none))
  else some h
/-- The lines that a node names are lines. -/
def lnIn (h : Hd) : Prop := (h.k = 5 → 1 ≤ h.c1 ∧ h.c1 ≤ 256 ∧ 1 ≤ h.r1 ∧ h.r1 ≤ 4096) ∧ (h.k = 6 → 1 ≤ h.c1 ∧ h.c1 ≤ h.c2 ∧ h.c2 ≤ 256 ∧ 1 ≤ h.r1 ∧ h.r1 ≤ h.r2 ∧ h.r2 ≤ 4096)
theorem fe_own {h : Hd} {ts : List Nd} {c : Bool} (h0 : (Nd.mk h ts).fe c = 0) : ownE h ts.length c = 0 ∧ ∃ c', feL ts c' = 0 := by
  rw [Nd.fe] at h0
  by_cases ho : ownE h ts.length c = 0
  · rw [if_neg (by rw [ho]; decide)] at h0
    exact ⟨ho, _, h0⟩
  · rw [if_pos ho] at h0; exact absurd h0 ho
theorem feL_get {ts : List Nd} {c : Bool} (h0 : feL ts c = 0) : ∀ k, (h : k < ts.length) → (ts[k]).fe c = 0 := by
  induction ts with
  | nil => intro k h; simp at h
  | cons t ts ih =>
    rw [feL] at h0
    by_cases ht : t.fe c = 0
    · rw [if_neg (by rw [ht]; decide)] at h0
      intro k h
      cases k with
      | zero => exact ht
      | succ k => exact ih h0 k (by simpa using h)
    · rw [if_pos ht] at h0; exact absurd h0 ht
theorem fe_lnIn {h : Hd} {ts : List Nd} {c : Bool} (h0 : (Nd.mk h ts).fe c = 0) : lnIn h ∧ (h.k = 5 ∨ h.k = 6 → ts = []) := by
  have ho := (fe_own h0).1
  have hw : wm h ts.length = true := by
    cases q : wm h ts.length with
    | true => rfl
    | false => unfold ownE at ho; rw [if_pos q] at ho; omega
  refine ⟨⟨fun e => ?_, fun e => ?_⟩, fun hk => List.length_eq_zero_iff.1 (wm_len hk hw)⟩
  · unfold ownE at ho
    rw [if_neg (by rw [hw]; decide), if_pos e] at ho
    have hv : vA h.c1 h.r1 h.c1 h.r1 = true := by
      split at ho
      · assumption
      · omega
    have := (ar_ok ((h.c1, h.r1), (h.c1, h.r1))).1 hv
    simp only at this
    omega
  · unfold ownE at ho
    rw [if_neg (by rw [hw]; decide), if_neg (show ¬ h.k = 5 by omega), if_pos e] at ho
    have hv : vA h.c1 h.r1 h.c2 h.r2 = true := by
      split at ho
      · assumption
      · omega
    have := (ar_ok ((h.c1, h.r1), (h.c2, h.r2))).1 hv
    simp only at this
    omega
theorem goH_is {cols : Bool} {at' n : Int} (hl : lnOk cols at' n) {h : Hd} {ts : List Nd} (hi : lnIn h) (hts : h.k = 5 ∨ h.k = 6 → ts = []) : alN (lnF cols at' n) (.mk h ts) = (match goH cols at' n h with | some g => .mk g (alL (lnF cols at' n) ts) | none => ndF) := by
  rw [alN]
  by_cases hk : h.k = 5 ∨ h.k = 6
  rotate_left
  · rw [if_neg hk]
    unfold goH
    rw [if_neg (fun e => hk (.inl e)), if_neg (fun e => hk (.inr e))]
  rw [if_pos hk]
  obtain rfl := hts hk
  rw [alL]
  unfold nmN lnOk at *
  rcases hk with e | e
  · obtain ⟨i1, i2, i3, i4⟩ := hi.1 e
    have e6 : ¬ h.k = 6 := by omega
    have hA : nmA (Nd.mk h []).hd = ((h.c1, h.r1), (h.c1, h.r1)) := by
      show nmA h = _
      unfold nmA; rw [if_neg e6]
    rw [hA]
    unfold goH
    rw [if_pos e]
    unfold lnF
    cases cols
    · simp only [Bool.false_eq_true, if_false] at hl ⊢
      rw [thr_same i1 (Int.le_refl _) i2, thr_pl hl i3 i4]
      by_cases q : 0 < pl at' n 4096 h.r1
      · simp only [if_pos q]
        show Nd.mk (toH h _) [] = _
        unfold toH; rw [if_neg e6]
      · simp only [if_neg q]
    · simp only [if_true] at hl ⊢
      rw [thr_same i3 (Int.le_refl _) i4, thr_pl hl i1 i2]
      by_cases q : 0 < pl at' n 256 h.c1
      · simp only [if_pos q]
        show Nd.mk (toH h _) [] = _
        unfold toH; rw [if_neg e6]
      · simp only [if_neg q]
  · obtain ⟨i1, i2, i3, i4, i5, i6⟩ := hi.2 e
    have e5 : ¬ h.k = 5 := by omega
    have hA : nmA (Nd.mk h []).hd = ((h.c1, h.r1), (h.c2, h.r2)) := by
      show nmA h = _
      unfold nmA; rw [if_pos e]
    rw [hA]
    unfold goH
    rw [if_neg e5, if_pos e]
    unfold lnF
    cases cols
    · simp only [Bool.false_eq_true, if_false] at hl ⊢
      rw [thr_same i1 i2 i3]
      rcases spA_end (a := h.r1) (b := h.r2) hl with ⟨q1, q2⟩ | ⟨r, q1, q2, q3⟩
      · rw [q1, q2]; rfl
      · rw [q1, q2]
        simp only [if_pos q3]
        show Nd.mk (toH h _) [] = _
        unfold toH; rw [if_pos e]
    · simp only [if_true] at hl ⊢
      rw [thr_same i4 i5 i6]
      rcases spA_end (a := h.c1) (b := h.c2) hl with ⟨q1, q2⟩ | ⟨r, q1, q2, q3⟩
      · rw [q1, q2]; rfl
      · rw [q1, q2]
        simp only [if_pos q3]
        show Nd.mk (toH h _) [] = _
        unfold toH; rw [if_pos e]
end Go.Proofs.YtbkcebbddhaifaaGreatDoor
namespace Go.Proofs.YtbkcebbddhaifaaGreatDoor
open Go.RowKit

/-- Lines put in: where a row of lines goes that has none of the last ones. -/
theorem thr_in {k p m a b : Int} (hp : 0 < p) (h1 : 1 ≤ a) (hk : 1 ≤ k) (h2 : a ≤ b) (h3 : b ≤ m - p) : thr k p m a b = some (if a < k then a else a + p, if b < k then b else b + p) := by
  unfold thr
  have hn : ¬ p < 0 := by omega
  simp only [if_neg hn]
  by_cases c1 : a < k
  · by_cases c2 : b < k
    · rw [if_pos (by omega : max a 1 ≤ min b (k - 1)), if_neg (by omega : ¬ max a k ≤ min b (m - p)), if_pos c1, if_pos c2]
      congr 2 <;> omega
    · rw [if_pos (by omega : max a 1 ≤ min b (k - 1)), if_pos (by omega : max a k ≤ min b (m - p)), if_pos c1, if_neg c2]
      congr 2 <;> omega
  · rw [if_neg (by omega : ¬ max a 1 ≤ min b (k - 1)), if_pos (by omega : max a k ≤ min b (m - p)), if_neg c1, if_neg (by omega : ¬ b < k)]
    congr 2 <;> omega
/-- One line that is put elsewhere. -/
theorem thr_in1 {k p m a : Int} (hp : 0 < p) (h1 : 1 ≤ a) (hk : 1 ≤ k) : thr k p m a a = if a < k then some (a, a) else if a ≤ m - p then some (a + p, a + p) else none := by
  unfold thr
  have hn : ¬ p < 0 := by omega
  simp only [if_neg hn]
  by_cases c1 : a < k
  · rw [if_pos (by omega : max a 1 ≤ min a (k - 1)), if_neg (by omega : ¬ max a k ≤ min a (m - p)), if_pos c1]
    congr 2 <;> omega
  · rw [if_neg (by omega : ¬ max a 1 ≤ min a (k - 1)), if_neg c1]
    by_cases c2 : a ≤ m - p
    · rw [if_pos (by omega : max a k ≤ min a (m - p)), if_pos c2]
      congr 2 <;> omega
    · rw [if_neg (by omega : ¬ max a k ≤ min a (m - p)), if_neg c2]
/-- Lines taken out. -/
theorem thr_out {k p m a b : Int} (hp : 0 < p) (h1 : 1 ≤ a) (h3 : b ≤ m) : thr k (-p) m a b = if b < a ∨ (k ≤ a ∧ b < k + p) then none else some (if a < k then a else if a < k + p then k else a - p, if b < k then b else if b < k + p then k - 1 else b - p) := by
  unfold thr
  have hn : -p < 0 := by omega
  simp only [if_pos hn]
  by_cases c0 : b < a
  · rw [if_neg (by omega : ¬ max a 1 ≤ min b (k - 1)), if_neg (by omega : ¬ max a (k - -p) ≤ min b m), if_pos (.inl c0)]
  by_cases c1 : a < k
  · rw [if_pos (by omega : max a 1 ≤ min b (k - 1)), if_neg (by omega : ¬ (b < a ∨ (k ≤ a ∧ b < k + p))), if_pos c1]
    by_cases c2 : b < k + p
    · rw [if_neg (by omega : ¬ max a (k - -p) ≤ min b m)]
      by_cases c3 : b < k
      · rw [if_pos c3]; congr 2 <;> omega
      · rw [if_neg c3, if_pos c2]; congr 2 <;> omega
    · rw [if_pos (by omega : max a (k - -p) ≤ min b m), if_neg (by omega : ¬ b < k), if_neg c2]
      congr 2 <;> omega
  · rw [if_neg (by omega : ¬ max a 1 ≤ min b (k - 1))]
    by_cases c2 : b < k + p
    · rw [if_neg (by omega : ¬ max a (k - -p) ≤ min b m), if_pos (.inr ⟨by omega, c2⟩)]
    · rw [if_pos (by omega : max a (k - -p) ≤ min b m), if_neg (by omega : ¬ (b < a ∨ (k ≤ a ∧ b < k + p))), if_neg c1, if_neg (by omega : ¬ b < k), if_neg c2]
      by_cases c3 : a < k + p
      · rw [if_pos c3]; congr 2 <;> omega
      · rw [if_neg c3]; congr 2 <;> omega
/-- In and out again. -/
theorem thr_in_out {k p m a b : Int} (hp : 0 < p) (h1 : 1 ≤ a) (hk : 1 ≤ k) (h2 : a ≤ b) (h3 : b ≤ m - p) : (thr k p m a b).bind (fun r => thr k (-p) m r.1 r.2) = some (a, b) := by
  rw [thr_in hp h1 hk h2 h3, Option.bind_some]
  rw [thr_out hp (by split <;> omega) (by split <;> omega)]
  by_cases c1 : a < k
  · by_cases c2 : b < k
    · simp only [if_pos c1, if_pos c2]; rw [if_neg (by omega)]
    · simp only [if_pos c1, if_neg c2]; rw [if_neg (by omega), if_neg (by omega), if_neg (by omega)]; congr 2; omega
  · have c2 : ¬ b < k := by omega
    simp only [if_neg c1, if_neg c2]; rw [if_neg (by omega), if_neg (by omega), if_neg (by omega), if_neg (by omega), if_neg (by omega)]; congr 2 <;> omega
theorem thr_in_out1 {k p m a : Int} {r : Int × Int} (hp : 0 < p) (h1 : 1 ≤ a) (hk : 1 ≤ k) (h3 : a ≤ m) (e : thr k p m a a = some r) : thr k (-p) m r.1 r.2 = some (a, a) ∧ r.1 = r.2 := by
  rw [thr_in1 hp h1 hk] at e
  by_cases c1 : a < k
  · rw [if_pos c1] at e
    injection e with e; subst e
    rw [thr_out hp h1 h3]
    refine ⟨?_, rfl⟩
    simp only [if_pos c1]; rw [if_neg (by omega)]
  · rw [if_neg c1] at e
    by_cases c2 : a ≤ m - p
    · rw [if_pos c2] at e
      injection e with e; subst e
      rw [thr_out hp (by omega) (by omega)]
      refine ⟨?_, rfl⟩
      simp only []
      rw [if_neg (by omega), if_neg (by omega), if_neg (by omega), if_neg (by omega), if_neg (by omega)]; congr 2 <;> omega
    · rw [if_neg c2] at e; cases e
/-- In twice. -/
theorem thr_in_in {k p q m a b : Int} (hp : 0 < p) (hq : 0 < q) (h1 : 1 ≤ a) (hk : 1 ≤ k) (h2 : a ≤ b) (h3 : b ≤ m - (p + q)) : (thr k p m a b).bind (fun r => thr k q m r.1 r.2) = thr k (p + q) m a b := by
  rw [thr_in hp h1 hk h2 (by omega), Option.bind_some, thr_in (by omega : 0 < p + q) h1 hk h2 h3]
  rw [thr_in hq (by split <;> omega) hk (by split <;> split <;> omega) (by split <;> omega)]
  by_cases c1 : a < k
  · by_cases c2 : b < k
    · simp only [if_pos c1, if_pos c2]
    · simp only [if_pos c1, if_neg c2]; rw [if_neg (by omega)]; congr 2; omega
  · have c2 : ¬ b < k := by omega
    simp only [if_neg c1, if_neg c2]; rw [if_neg (by omega), if_neg (by omega)]; congr 2 <;> omega
theorem thr_in_in1 {k p q m a : Int} (hp : 0 < p) (hq : 0 < q) (h1 : 1 ≤ a) (hk : 1 ≤ k) : (thr k p m a a).bind (fun r => thr k q m r.1 r.2) = thr k (p + q) m a a := by
  rw [thr_in1 hp h1 hk, thr_in1 (by omega : 0 < p + q) h1 hk]
  by_cases c1 : a < k
  · rw [if_pos c1, if_pos c1, Option.bind_some, thr_in1 hq h1 hk, if_pos c1]
  · rw [if_neg c1, if_neg c1]
    by_cases c2 : a ≤ m - p
    · rw [if_pos c2, Option.bind_some, thr_in1 hq (by omega) hk, if_neg (by omega)]
      by_cases c3 : a ≤ m - (p + q)
      · rw [if_pos c3, if_pos (by omega)]; congr 2 <;> omega
      · rw [if_neg c3, if_neg (by omega)]
    · rw [if_neg c2, if_neg (by omega)]; rfl
/-- Out twice. -/
theorem thr_out_out {k p q m a b : Int} (hp : 0 < p) (hq : 0 < q) (h1 : 1 ≤ a) (hk : 1 ≤ k) (h2 : a ≤ b) (h3 : b ≤ m) : (thr k (-p) m a b).bind (fun r => thr k (-q) m r.1 r.2) = thr k (-p - q) m a b := by
  rw [show -p - q = -(p + q) by omega, thr_out (by omega : 0 < p + q) h1 h3, thr_out hp h1 h3]
  by_cases c0 : k ≤ a ∧ b < k + p
  · rw [if_pos (.inr c0), if_pos (.inr ⟨c0.1, by omega⟩)]; rfl
  · rw [if_neg (by omega), Option.bind_some]
    rw [thr_out hq (by split <;> (try split) <;> omega) (by split <;> (try split) <;> omega)]
    by_cases a1 : a < k
    · by_cases b1 : b < k
      · simp only [if_pos a1, if_pos b1]
        rw [if_neg (by omega), if_neg (by omega)]
      · by_cases b2 : b < k + p
        · simp only [if_pos a1, if_neg b1, if_pos b2]
          rw [if_neg (by omega), if_pos (by omega), if_neg (by omega), if_pos (by omega)]
        · by_cases b3 : b < k + p + q
          · simp only [if_pos a1, if_neg b1, if_neg b2]
            rw [if_neg (by omega), if_neg (by omega), if_pos (by omega), if_neg (by omega), if_pos (by omega)]
          · simp only [if_pos a1, if_neg b1, if_neg b2]
            rw [if_neg (by omega), if_neg (by omega), if_neg (by omega), if_neg (by omega), if_neg (by omega)]; congr 2; omega
    · have b1 : ¬ b < k := by omega
      have b2 : ¬ b < k + p := by omega
      simp only [if_neg a1, if_neg b1, if_neg b2]
      repeat' split
      all_goals first
        | rfl
        | (exfalso; omega)
        | (congr 2 <;> omega)
end Go.Proofs.YtbkcebbddhaifaaGreatDoor
namespace Go.Proofs.YtbkcebbddhaifaaGreatDoor
open Go.RowKit

mutual
/-- How many nodes are faults. -/
def fl : Nd → Nat
  | .mk h ts => (if h.k = 4 then 1 else 0) + flL ts
def flL : List Nd → Nat
  | [] => 0
  | t :: ts => fl t + flL ts
end
mutual
/-- No reference is lost. -/
def keepsN (f : Fate) : Nd → Prop
  | .mk h ts => (h.k = 5 ∨ h.k = 6 → f (nmA h) ≠ none) ∧ keepsL f ts
def keepsL (f : Fate) : List Nd → Prop
  | [] => True
  | t :: ts => keepsN f t ∧ keepsL f ts
end
mutual
/-- An area has one of the last n lines. -/
def lowN (cols : Bool) (n : Int) : Nd → Bool
  | .mk h ts => (h.k == 6 && (if cols then decide (256 - n < h.c2) else decide (4096 - n < h.r2))) || lowL cols n ts
def lowL (cols : Bool) (n : Int) : List Nd → Bool
  | [] => false
  | t :: ts => lowN cols n t || lowL cols n ts
end
mutual
theorem fl_al (f : Fate) : ∀ (t : Nd) (c : Bool), t.fe c = 0 → fl t ≤ fl (alN f t) ∧ (fl (alN f t) = fl t → keepsN f t)
  | .mk h ts, c, h0 => by
    obtain ⟨_, hts⟩ := fe_lnIn h0
    obtain ⟨_, c', hl⟩ := fe_own h0
    rw [alN]
    by_cases hk : h.k = 5 ∨ h.k = 6
    · rw [if_pos hk]
      obtain rfl := hts hk
      have e4 : ¬ h.k = 4 := by omega
      have e0 : fl (.mk h []) = 0 := by rw [fl, flL, if_neg e4]
      have eF : fl ndF = 1 := by unfold ndF; rw [fl, flL]; rfl
      rw [e0, keepsN]
      unfold nmN
      have hh : (Nd.mk h []).hd = h := rfl
      rw [hh]
      cases e : f (nmA h) with
      | none =>
        simp only [eF]
        exact ⟨by omega, fun q => by omega⟩
      | some a =>
        have e1 : fl (.mk (toH h a) (Nd.mk h []).ts) = 0 := by
          show fl (.mk (toH h a) []) = 0
          rw [fl, flL, toH_k, if_neg e4]
        have q : (h.k = 5 ∨ h.k = 6 → (some a : Option Ar4) ≠ none) ∧ keepsL f [] := ⟨fun _ z => (by cases z), by rw [keepsL]; trivial⟩
        show 0 ≤ fl (.mk (toH h a) (Nd.mk h []).ts) ∧ (fl (.mk (toH h a) (Nd.mk h []).ts) = 0 → _)
        rw [e1]
        exact ⟨Nat.le_refl _, fun _ => q⟩
    · rw [if_neg hk, fl, fl, keepsN]
      have := flL_al f ts c' hl
      exact ⟨by omega, fun q => ⟨fun q' => absurd q' hk, this.2 (by omega)⟩⟩
theorem flL_al (f : Fate) : ∀ (ts : List Nd) (c : Bool), feL ts c = 0 → flL ts ≤ flL (alL f ts) ∧ (flL (alL f ts) = flL ts → keepsL f ts)
  | [], c, _ => by rw [alL, keepsL]; exact ⟨Nat.le_refl _, fun _ => trivial⟩
  | t :: ts, c, h0 => by
    rw [feL] at h0
    by_cases ht : t.fe c = 0
    · rw [if_neg (by rw [ht]; decide)] at h0
      have h1 := fl_al f t c ht
      have h2 := flL_al f ts c h0
      rw [alL, flL, flL, keepsL]
      exact ⟨by omega, fun q => ⟨h1.2 (by omega), h2.2 (by omega)⟩⟩
    · rw [if_pos ht] at h0; exact absurd h0 ht
end
/-- What f and then g do to an area is what h does. -/
def Then (f g h : Fate) (a : Ar4) : Prop := (f a).bind g = h a
theorem nmA_to {h : Hd} (hk : h.k = 5 ∨ h.k = 6) {a : Ar4} (hc : h.k = 5 → a.1 = a.2) : nmA (toH h a) = a := by
  unfold nmA
  rw [toH_k]
  unfold toH
  rcases hk with e | e
  · have e6 : ¬ h.k = 6 := by omega
    simp only [if_neg e6]
    exact Prod.ext rfl (hc e)
  · simp only [if_pos e]
theorem toH_to (h : Hd) (a b : Ar4) : toH (toH h a) b = toH h b := by
  unfold toH
  by_cases e : h.k = 6
  · simp only [if_pos e]
  · simp only [if_neg e]
theorem toH_self {h : Hd} : toH h (nmA h) = h := by
  unfold toH nmA
  by_cases e : h.k = 6
  · simp only [if_pos e]
  · simp only [if_neg e]
mutual
/-- The areas that a formula names. -/
def nmAll (Q : Hd → Prop) : Nd → Prop
  | .mk h ts => (h.k = 5 ∨ h.k = 6 → Q h) ∧ nmAllL Q ts
def nmAllL (Q : Hd → Prop) : List Nd → Prop
  | [] => True
  | t :: ts => nmAll Q t ∧ nmAllL Q ts
end
theorem alN_F (f : Fate) : alN f ndF = ndF := by
  unfold ndF
  rw [alN, if_neg (by decide), alL]
mutual
theorem al_then {f g h : Fate} (hf : FateOk f) : ∀ (t : Nd) (c : Bool), t.fe c = 0 → nmAll (fun d => Then f g h (nmA d)) t → alN g (alN f t) = alN h t
  | .mk d ts, c, h0, hq => by
    obtain ⟨_, hts⟩ := fe_lnIn h0
    obtain ⟨_, c', hl⟩ := fe_own h0
    rw [nmAll] at hq
    rw [alN, alN]
    by_cases hk : d.k = 5 ∨ d.k = 6
    · rw [if_pos hk, if_pos hk]
      obtain rfl := hts hk
      have hT := hq.1 hk
      unfold Then at hT
      unfold nmN
      show alN g (match f (nmA d) with | none => ndF | some a => Nd.mk (toH d a) []) = (match h (nmA d) with | none => ndF | some a => Nd.mk (toH d a) [])
      cases e : f (nmA d) with
      | none =>
        rw [e, Option.bind_none] at hT
        rw [← hT]
        exact alN_F g
      | some a =>
        rw [e, Option.bind_some] at hT
        have hc : d.k = 5 → a.1 = a.2 := fun e5 => by
          have hA : nmA d = ((d.c1, d.r1), (d.c1, d.r1)) := by unfold nmA; rw [if_neg (show ¬ d.k = 6 by omega)]
          rw [hA] at e
          exact hf.cell _ _ e
        simp only []
        rw [alN, toH_k, if_pos hk]
        unfold nmN
        show (match g (nmA (toH d a)) with | none => ndF | some b => Nd.mk (toH (toH d a) b) []) = _
        rw [nmA_to hk hc, hT]
        cases h (nmA d) with
        | none => rfl
        | some b => simp only []; rw [toH_to]
    · rw [if_neg hk, if_neg hk, alN, if_neg hk, al_thenL hf ts c' hl hq.2]
theorem al_thenL {f g h : Fate} (hf : FateOk f) : ∀ (ts : List Nd) (c : Bool), feL ts c = 0 → nmAllL (fun d => Then f g h (nmA d)) ts → alL g (alL f ts) = alL h ts
  | [], c, _, _ => by rw [alL, alL, alL]
  | t :: ts, c, h0, hq => by
    rw [feL] at h0
    rw [nmAllL] at hq
    by_cases ht : t.fe c = 0
    · rw [if_neg (by rw [ht]; decide)] at h0
      rw [alL, alL, alL, al_then hf t c ht hq.1, al_thenL hf ts c h0 hq.2]
    · rw [if_pos ht] at h0; exact absurd h0 ht
end
/-- The fate that leaves all where it is. -/
def stayF : Fate := some
mutual
theorem al_stay : ∀ (t : Nd), alN stayF t = t
  | .mk d ts => by
    rw [alN]
    by_cases hk : d.k = 5 ∨ d.k = 6
    · rw [if_pos hk]
      unfold nmN stayF
      show Nd.mk (toH d (nmA d)) ts = _
      rw [toH_self]
    · rw [if_neg hk, al_stayL ts]
theorem al_stayL : ∀ (ts : List Nd), alL stayF ts = ts
  | [] => by rw [alL]
  | t :: ts => by rw [alL, al_stay t, al_stayL ts]
end
mutual
/-- Facts about every node, out of what is so of a formula that may be. -/
theorem nmAll_of {Q : Hd → Prop} {f : Fate} {cols : Bool} {n : Int} (hQ : ∀ h : Hd, (h.k = 5 ∨ h.k = 6) → lnIn h → f (nmA h) ≠ none → ¬ (h.k = 6 ∧ (if cols then decide (256 - n < h.c2) else decide (4096 - n < h.r2)) = true) → Q h) : ∀ (t : Nd) (c : Bool), t.fe c = 0 → keepsN f t → lowN cols n t = false → nmAll Q t
  | .mk h ts, c, h0, hk, hl => by
    obtain ⟨hin, _⟩ := fe_lnIn h0
    obtain ⟨_, c', hfl⟩ := fe_own h0
    rw [keepsN] at hk
    rw [lowN, Bool.or_eq_false_iff] at hl
    rw [nmAll]
    refine ⟨fun q => hQ h q hin (hk.1 q) (fun z => ?_), nmAllL_of hQ ts c' hfl hk.2 hl.2⟩
    have := hl.1
    rw [z.2, z.1] at this
    simp at this
theorem nmAllL_of {Q : Hd → Prop} {f : Fate} {cols : Bool} {n : Int} (hQ : ∀ h : Hd, (h.k = 5 ∨ h.k = 6) → lnIn h → f (nmA h) ≠ none → ¬ (h.k = 6 ∧ (if cols then decide (256 - n < h.c2) else decide (4096 - n < h.r2)) = true) → Q h) : ∀ (ts : List Nd) (c : Bool), feL ts c = 0 → keepsL f ts → lowL cols n ts = false → nmAllL Q ts
  | [], _, _, _, _ => by rw [nmAllL]; trivial
  | t :: ts, c, h0, hk, hl => by
    rw [feL] at h0
    rw [keepsL] at hk
    rw [lowL, Bool.or_eq_false_iff] at hl
    rw [nmAllL]
    by_cases ht : t.fe c = 0
    · rw [if_neg (by rw [ht]; decide)] at h0
      exact ⟨nmAll_of hQ t c ht hk.1 hl.1, nmAllL_of hQ ts c h0 hk.2 hl.2⟩
    · rw [if_pos ht] at h0; exact absurd h0 ht
end
mutual
theorem nmAll_any {Q : Hd → Prop} (hQ : ∀ h : Hd, (h.k = 5 ∨ h.k = 6) → lnIn h → Q h) : ∀ (t : Nd) (c : Bool), t.fe c = 0 → nmAll Q t
  | .mk h ts, c, h0 => by
    obtain ⟨hin, _⟩ := fe_lnIn h0
    obtain ⟨_, c', hfl⟩ := fe_own h0
    rw [nmAll]
    exact ⟨fun q => hQ h q hin, nmAllL_any hQ ts c' hfl⟩
theorem nmAllL_any {Q : Hd → Prop} (hQ : ∀ h : Hd, (h.k = 5 ∨ h.k = 6) → lnIn h → Q h) : ∀ (ts : List Nd) (c : Bool), feL ts c = 0 → nmAllL Q ts
  | [], _, _ => by rw [nmAllL]; trivial
  | t :: ts, c, h0 => by
    rw [feL] at h0
    rw [nmAllL]
    by_cases ht : t.fe c = 0
    · rw [if_neg (by rw [ht]; decide)] at h0
      exact ⟨nmAll_any hQ t c ht, nmAllL_any hQ ts c h0⟩
    · rw [if_pos ht] at h0; exact absurd h0 ht
end
end Go.Proofs.YtbkcebbddhaifaaGreatDoor
