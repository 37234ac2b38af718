/- What copying leaves: validity, sameness. No function of the program here. Move: what becomes of references, of formulas, of cells. No function of the program here. Move: a formula in memory of its own, whose references go along: how far the loop has come. No function of the program here. Move: the fates of lines and of an area that is moved. No function of the program here. Move: the document's own way with a formula (quadrilleref22.along), plain: the fate of lines. No function of the program here. Move: formulas whose references went along twice; .. .. -/
import Derived.Test.YtdaoingmiabbcaaGreatDoorVQl
import Derived.Test.YtdaoingmiabbcaaGreatDoorVEe
import Derived.Test.YtdaoingmiabbcaaGreatDoorVQa
import Derived.Test.YtdaoingmiabbcaaGreatDoorVXs
import Derived.Test.YtdaoingmiabbcaaGreatDoorVXk
import Derived.Test.YtdaoingmiabbcaaGreatDoorVQr
namespace Go.Proofs.YtdaoingmiabbcaaGreatDoor
open Go.RowKit

theorem plainX_one (x : Nat) : plainX (one x) = plainX x := by
  by_cases h : 9218868437227405312 < mag x
  · have h1 : one x = 9221120237041090560 := by unfold one; rw [if_pos h]
    have hc : cls x = 1 := by unfold cls; rw [if_pos h]
    have e1 : plainX x = false := by unfold plainX; rw [hc]; rfl
    have e2 : plainX 9221120237041090560 = false := by decide +kernel
    rw [h1, e1, e2]
  · have h1 : one x = x := by unfold one; rw [if_neg h]
    rw [h1]
theorem fsame_one1 (x y : Nat) : fsame (one x) y = fsame x y := by unfold fsame; rw [one_self]
theorem one_zero (x : Nat) : (((one x : Nat) : Int) == 0) = ((x : Int) == 0) := by
  unfold one
  split
  · rename_i h
    have hx : x ≠ 0 := fun e => by subst e; revert h; decide +kernel
    have h1 : ((x : Int) == 0) = false := by simpa using hx
    rw [h1]; rfl
  · rfl
theorem hsame_one (h g : Hd) : hsame { h with x := one h.x } g = hsame h g := by
  unfold hsame
  simp only [fsame_one1]
theorem wmJ_one (h : Hd) : hsame { h with x := one h.x } (wmJ { h with x := one h.x }) = hsame h (wmJ h) := by
  rw [hsame_one]
  unfold wmJ
  simp only
  by_cases k1 : h.k = 1
  · simp only [k1, if_true]
    unfold hsame
    simp only [fsame, one_self]
  · simp only [k1, if_false]
theorem wm_one (h : Hd) (n : Nat) : wm { h with x := one h.x } n = wm h n := by
  unfold wm
  simp only [wmJ_one, plainX_one]
theorem ownE_one (h : Hd) (n : Nat) (c : Bool) : ownE { h with x := one h.x } n c = ownE h n c := by
  unfold ownE
  simp only [wm_one]
mutual
theorem fe_cpy : ∀ (t : Nd) (c : Bool), (cpy t).fe c = t.fe c
  | .mk h ts, c => by
    rw [cpy, Nd.fe, Nd.fe, cpyL_len, ownE_one, feL_cpy ts]
theorem feL_cpy : ∀ (ts : List Nd) (c : Bool), feL (cpyL ts) c = feL ts c
  | [], c => by rw [cpyL]
  | t :: ts, c => by rw [cpyL, feL, feL, fe_cpy t c, feL_cpy ts c]
end
mutual
theorem dep_cpy : ∀ t : Nd, (cpy t).dep = t.dep
  | .mk h ts => by rw [cpy, Nd.dep, Nd.dep, depL_cpy ts]
theorem depL_cpy : ∀ ts : List Nd, depL (cpyL ts) = depL ts
  | [] => by rw [cpyL]
  | t :: ts => by rw [cpyL, depL, depL, dep_cpy t, depL_cpy ts]
end
theorem chk_cpy (t : Nd) : chk (cpy t) = chk t := by unfold chk; rw [cpy_size, dep_cpy, fe_cpy]
mutual
theorem tsame_cpy : ∀ (t u : Nd), tsame (cpy t) u = tsame t u
  | .mk h ts, .mk g us => by rw [cpy, tsame, tsame, hsame_one, lsame_cpy ts us]
theorem lsame_cpy : ∀ (ts us : List Nd), lsame (cpyL ts) us = lsame ts us
  | [], us => by rw [cpyL]
  | t :: ts, [] => by rw [cpyL, lsame, lsame]
  | t :: ts, u :: us => by rw [cpyL, lsame, lsame, tsame_cpy t u, lsame_cpy ts us]
end
theorem bareV_one (v : Vl) : bareV { v with x := one v.x } = bareV v := by
  unfold bareV
  simp only [one_zero]
theorem zeroV_one (v : Vl) : zeroV { v with x := one v.x } = zeroV v := by
  unfold zeroV
  rw [bareV_one]
theorem validV_one (v : Vl) (u : Bool) : validV { v with x := one v.x } u = validV v u := by
  unfold validV
  rw [bareV_one]
/-- A copy is as valid as what was copied. -/
theorem gv_cp (c : Ct) : gv (cpC c) = gv c := by
  unfold gv validC cpC
  simp only [zeroV_one, validV_one, chk_cpy, zeroN, tsame_cpy]
mutual
theorem cpy_self : ∀ t : Nd, cpy (cpy t) = cpy t
  | .mk h ts => by
    rw [cpy, cpy, cpyL_self ts]
    simp only [one_self]
theorem cpyL_self : ∀ ts : List Nd, cpyL (cpyL ts) = cpyL ts
  | [] => by rw [cpyL, cpyL]
  | t :: ts => by rw [cpyL, cpyL, cpy_self t, cpyL_self ts]
end
theorem cpC_self (c : Ct) : cpC (cpC c) = cpC c := by
  unfold cpC
  simp only [one_self, cpy_self]
theorem hsame_refl (h : Hd) : hsame h h = true := by
  unfold hsame
  simp [fsame_self]
mutual
theorem tsame_refl : ∀ t : Nd, tsame t t = true
  | .mk h ts => by rw [tsame, hsame_refl, lsame_refl ts]; rfl
theorem lsame_refl : ∀ ts : List Nd, lsame ts ts = true
  | [] => by rw [lsame]
  | t :: ts => by rw [lsame, tsame_refl t, lsame_refl ts]; rfl
end
theorem csame_refl (a : Ct) : csame a a = true := by
  unfold csame vsame
  simp only [beq_self_eq_true, Bool.true_and, fsame_self, tsame_refl, decide_true]
  repeat' split
  all_goals rfl
/-- What stands in a grid. -/
structure Gd (c : Ct) : Prop where
  val : gv c = true
  k : c.k ≠ 0
  ok : c.t.ok
  x : c.v.x < 18446744073709551616
  size : c.t.size ≤ 1048576
  cp : cpC c = c
theorem Gd.of {c : Ct} (hv : gv c = true) (hk : c.k ≠ 0) (ho : c.t.ok) (hx : c.v.x < 18446744073709551616) (hs : c.t.size ≤ 1048576) : Gd (cpC c) :=
  ⟨by rw [gv_cp]; exact hv, hk, cpy_ok _ ho, one_lt _ hx, by show (cpy c.t).size ≤ _; rw [cpy_size]; exact hs, cpC_self c⟩
end Go.Proofs.YtdaoingmiabbcaaGreatDoor
namespace Go.Proofs.YtdaoingmiabbcaaGreatDoor
open Go.RowKit

/-- Two corners. -/
abbrev Ar4 := (Int × Int) × (Int × Int)
/-- What becomes of an area. -/
abbrev Fate := Ar4 → Option Ar4
def Ar4.ok (a : Ar4) : Bool := vA a.1.1 a.1.2 a.2.1 a.2.2
/-- The area that a node names. -/
def nmA (h : Hd) : Ar4 := ((h.c1, h.r1), if h.k = 6 then (h.c2, h.r2) else (h.c1, h.r1))
/-- What stands for one that is lost. -/
def ndF : Nd := .mk { zHd with k := 4, f := 4 } []
/-- A node with its references at other places. -/
def toH (h : Hd) (a : Ar4) : Hd := if h.k = 6 then { h with c1 := a.1.1, r1 := a.1.2, c2 := a.2.1, r2 := a.2.2 } else { h with c1 := a.1.1, r1 := a.1.2 }
def nmN (f : Fate) (t : Nd) : Nd := match f (nmA t.hd) with
  | none => ndF
  | some a => .mk (toH t.hd a) t.ts
mutual
/-- A formula whose references have gone along. -/
def alN (f : Fate) : Nd → Nd
  | .mk h ts => if h.k = 5 ∨ h.k = 6 then nmN f (.mk h ts) else .mk h (alL f ts)
def alL (f : Fate) : List Nd → List Nd
  | [] => []
  | t :: ts => alN f t :: alL f ts
end
theorem alL_map (f : Fate) : ∀ ts : List Nd, alL f ts = ts.map (alN f)
  | [] => by rw [alL]; rfl
  | t :: ts => by rw [alL, alL_map f ts]; rfl
theorem alL_len (f : Fate) (ts : List Nd) : (alL f ts).length = ts.length := by rw [alL_map, List.length_map]
/-- What a fate must be: areas stay areas, cells stay cells. -/
structure FateOk (f : Fate) : Prop where
  ok : ∀ a b, Ar4.ok a = true → f a = some b → Ar4.ok b = true
  cell : ∀ p b, f (p, p) = some b → b.1 = b.2
theorem wm_len {h : Hd} {n : Nat} (hk : h.k = 5 ∨ h.k = 6) (hw : wm h n = true) : n = 0 := by
  unfold wm at hw
  rcases hk with e | e <;> simp [e] at hw
  · exact hw.1
  · exact hw.1
theorem wm_to {h : Hd} (hk : h.k = 5 ∨ h.k = 6) (a : Ar4) (hw : wm h 0 = true) : wm (toH h a) 0 = true := by
  unfold toH
  rcases hk with e | e
  · rw [if_neg (by omega)]
    unfold wm at hw ⊢
    simp only [e] at hw ⊢
    simp [wmJ, e, hsame] at hw ⊢
    simp [hw]
  · rw [if_pos e]
    unfold wm at hw ⊢
    simp only [e] at hw ⊢
    simp [wmJ, e, hsame] at hw ⊢
    simp [hw]
theorem toH_k (h : Hd) (a : Ar4) : (toH h a).k = h.k := by unfold toH; split <;> rfl
theorem toH_x (h : Hd) (a : Ar4) : (toH h a).x = h.x := by unfold toH; split <;> rfl
theorem ndF_fe (c : Bool) : ndF.fe c = 0 := by
  unfold ndF
  rw [Nd.fe, feL]
  have : ownE { zHd with k := 4, f := 4 } 0 c = 0 := by
    unfold ownE
    have hw : wm { zHd with k := 4, f := 4 } 0 = true := by
      unfold wm
      simp [wmJ, hsame, zHd, fsame_self]
    simp [hw]
  simp [this]
theorem nmN_fe {f : Fate} (hf : FateOk f) {h : Hd} {ts : List Nd} (hk : h.k = 5 ∨ h.k = 6) {c : Bool} (h0 : (Nd.mk h ts).fe c = 0) : (nmN f (.mk h ts)).fe c = 0 := by
  rw [Nd.fe] at h0
  by_cases ho : ownE h ts.length c = 0
  rotate_left
  · rw [if_pos ho] at h0; exact absurd h0 ho
  have hw : wm h ts.length = true := by
    cases q : wm h ts.length with
    | true => rfl
    | false => unfold ownE at ho; rw [if_pos q] at ho; omega
  have hl := wm_len hk hw
  have hts : ts = [] := List.length_eq_zero_iff.1 hl
  subst hts
  have hv : Ar4.ok (nmA h) = true := by
    unfold ownE at ho
    rw [if_neg (by rw [hw]; decide)] at ho
    unfold Ar4.ok nmA
    rcases hk with e | e
    · rw [if_pos e] at ho
      simp only [if_neg (show ¬ h.k = 6 by omega)]
      split at ho
      · assumption
      · omega
    · rw [if_neg (show ¬ h.k = 5 by omega), if_pos e] at ho
      simp only [if_pos e]
      split at ho
      · assumption
      · omega
  unfold nmN
  cases q : f (nmA (Nd.mk h []).hd) with
  | none => exact ndF_fe c
  | some b =>
    have hb := hf.ok _ b hv q
    show (Nd.mk (toH h b) []).fe c = 0
    rw [Nd.fe, feL]
    have ho' : ownE (toH h b) 0 c = 0 := by
      unfold ownE
      rw [if_neg (by rw [wm_to hk b hw]; decide), toH_k]
      unfold ownE at ho
      rw [if_neg (by rw [hw]; decide)] at ho
      rcases hk with e | e
      · rw [if_pos e]
        have hc : b.1 = b.2 := by
          have q' : f ((h.c1, h.r1), (h.c1, h.r1)) = some b := by
            have : nmA h = ((h.c1, h.r1), (h.c1, h.r1)) := by unfold nmA; rw [if_neg (show ¬ h.k = 6 by omega)]
            rw [← this]; exact q
          exact hf.cell _ _ q'
        unfold Ar4.ok at hb
        rw [← hc] at hb
        have e1 : (toH h b).c1 = b.1.1 := by unfold toH; rw [if_neg (show ¬ h.k = 6 by omega)]
        have e2 : (toH h b).r1 = b.1.2 := by unfold toH; rw [if_neg (show ¬ h.k = 6 by omega)]
        rw [e1, e2, if_pos hb]
      · rw [if_neg (show ¬ h.k = 5 by omega), if_pos e]
        rw [if_neg (show ¬ h.k = 5 by omega), if_pos e] at ho
        unfold Ar4.ok at hb
        have e1 : (toH h b).c1 = b.1.1 := by unfold toH; rw [if_pos e]
        have e2 : (toH h b).r1 = b.1.2 := by unfold toH; rw [if_pos e]
        have e3 : (toH h b).c2 = b.2.1 := by unfold toH; rw [if_pos e]
        have e4 : (toH h b).r2 = b.2.2 := by unfold toH; rw [if_pos e]
        rw [e1, e2, e3, e4, if_pos hb]
        split at ho
        · exact ho
        · omega
    rw [List.length_nil, if_neg (by rw [ho']; decide)]
mutual
theorem alN_fe {f : Fate} (hf : FateOk f) : ∀ (t : Nd) (c : Bool), t.fe c = 0 → (alN f t).fe c = 0
  | .mk h ts, c, h0 => by
    rw [alN]
    by_cases hk : h.k = 5 ∨ h.k = 6
    · rw [if_pos hk]; exact nmN_fe hf hk h0
    · rw [if_neg hk]
      rw [Nd.fe] at h0 ⊢
      rw [alL_len]
      by_cases ho : ownE h ts.length c = 0
      · rw [if_neg (by rw [ho]; decide)] at h0 ⊢
        exact alL_fe hf ts _ h0
      · rw [if_pos ho] at h0; exact absurd h0 ho
theorem alL_fe {f : Fate} (hf : FateOk f) : ∀ (ts : List Nd) (c : Bool), feL ts c = 0 → feL (alL f ts) c = 0
  | [], c, _ => by rw [alL, feL]
  | t :: ts, c, h0 => by
    rw [feL] at h0
    rw [alL, feL]
    by_cases ht : t.fe c = 0
    · rw [if_neg (by rw [ht]; decide)] at h0
      rw [if_neg (by rw [alN_fe hf t c ht]; decide)]
      exact alL_fe hf ts c h0
    · rw [if_pos ht] at h0; exact absurd h0 ht
end
theorem nmN_size (f : Fate) (t : Nd) : (nmN f t).size ≤ t.size := by
  unfold nmN
  split
  · have := size_pos t
    show ndF.size ≤ _
    unfold ndF
    rw [Nd.size, sizeL]; omega
  · rw [Nd.size]
    conv => rhs; rw [Nd.eta t, Nd.size]
    exact Nat.le_refl _
mutual
theorem alN_size (f : Fate) : ∀ t : Nd, (alN f t).size ≤ t.size
  | .mk h ts => by
    rw [alN]
    split
    · exact nmN_size f _
    · rw [Nd.size, Nd.size]; have := alL_size f ts; omega
theorem alL_size (f : Fate) : ∀ ts : List Nd, sizeL (alL f ts) ≤ sizeL ts
  | [] => by rw [alL]; exact Nat.le_refl _
  | t :: ts => by rw [alL, sizeL, sizeL]; have := alN_size f t; have := alL_size f ts; omega
end
theorem nmN_dep (f : Fate) (t : Nd) : (nmN f t).dep ≤ t.dep := by
  unfold nmN
  split
  · show ndF.dep ≤ _
    unfold ndF
    rw [Nd.dep, depL]
    cases t with
    | mk h ts => rw [Nd.dep]; omega
  · rw [Nd.dep]
    conv => rhs; rw [Nd.eta t, Nd.dep]
    exact Nat.le_refl _
mutual
theorem alN_dep (f : Fate) : ∀ t : Nd, (alN f t).dep ≤ t.dep
  | .mk h ts => by
    rw [alN]
    split
    · exact nmN_dep f _
    · rw [Nd.dep, Nd.dep]; have := alL_dep f ts; omega
theorem alL_dep (f : Fate) : ∀ ts : List Nd, depL (alL f ts) ≤ depL ts
  | [] => by rw [alL]; exact Nat.le_refl _
  | t :: ts => by rw [alL, depL, depL]; have := alN_dep f t; have := alL_dep f ts; omega
end
/-- What may be still may. -/
theorem alN_chk {f : Fate} (hf : FateOk f) {t : Nd} (h : chk t = 0) : chk (alN f t) = 0 := by
  unfold chk at h ⊢
  have h1 := alN_size f t
  have h2 := alN_dep f t
  by_cases a1 : 256 < t.size
  · rw [if_pos a1] at h; omega
  · rw [if_neg a1] at h
    by_cases a2 : 32 < t.dep
    · rw [if_pos a2] at h; omega
    · rw [if_neg a2] at h
      rw [if_neg (by omega), if_neg (by omega)]
      exact alN_fe hf t false h
theorem nmN_ok (f : Fate) {t : Nd} (h : t.ok) : (nmN f t).ok := by
  unfold nmN
  split
  · unfold ndF; rw [Nd.ok, okL]; exact ⟨by show (0 : Nat) < _; decide, trivial⟩
  · rw [Nd.ok, toH_x]
    rw [Nd.eta t, Nd.ok] at h
    exact h
mutual
theorem alN_ok (f : Fate) : ∀ t : Nd, t.ok → (alN f t).ok
  | .mk h ts, hk => by
    rw [alN]
    split
    · exact nmN_ok f hk
    · rw [Nd.ok] at hk ⊢; exact ⟨hk.1, alL_ok f ts hk.2⟩
theorem alL_ok (f : Fate) : ∀ ts : List Nd, okL ts → okL (alL f ts)
  | [], _ => by rw [alL, okL]; trivial
  | t :: ts, h => by rw [okL] at h; rw [alL, okL]; exact ⟨alN_ok f t h.1, alL_ok f ts h.2⟩
end
theorem ndF_cpy : cpy ndF = ndF := by
  unfold ndF
  rw [cpy, cpyL]
  have : one 0 = 0 := by decide
  simp [zHd, this]
theorem toH_one (h : Hd) (a : Ar4) (e : one h.x = h.x) : { toH h a with x := one (toH h a).x } = toH h a := by
  rw [toH_x, e]
  unfold toH
  split <;> rfl
mutual
theorem alN_cpy (f : Fate) : ∀ t : Nd, cpy t = t → cpy (alN f t) = alN f t
  | .mk h ts, e => by
    rw [cpy] at e
    have e1 : { h with x := one h.x } = h := (Nd.mk.injEq .. ▸ e).1
    have e2 : cpyL ts = ts := (Nd.mk.injEq .. ▸ e).2
    have e3 : one h.x = h.x := congrArg Hd.x e1
    rw [alN]
    split
    · unfold nmN
      split
      · exact ndF_cpy
      · rw [cpy]
        show Nd.mk { toH h _ with x := one (toH h _).x } (cpyL ts) = _
        rw [toH_one h _ e3, e2]
        rfl
    · rw [cpy, e1, alL_cpy f ts e2]
theorem alL_cpy (f : Fate) : ∀ ts : List Nd, cpyL ts = ts → cpyL (alL f ts) = alL f ts
  | [], _ => by rw [alL, cpyL]
  | t :: ts, e => by
    rw [cpyL] at e
    rw [alL, cpyL, alN_cpy f t (List.cons.inj e).1, alL_cpy f ts (List.cons.inj e).2]
end
/-- A content whose formula has gone along. -/
def alC (f : Fate) (c : Ct) : Ct := ⟨c.k, c.v, alN f c.t⟩
theorem zeroN_k {t : Nd} (h : zeroN t = true) : t.hd.k = 0 ∧ t.ts = [] := by
  cases t with
  | mk h' ts =>
    unfold zeroN zNd at h
    rw [tsame] at h
    simp only [Bool.and_eq_true] at h
    constructor
    · have := h.1
      unfold hsame at this
      simp [zHd] at this
      exact this.1.1.1.1.1.1.1
    · cases ts with
      | nil => rfl
      | cons _ _ => simp [lsame] at h
theorem alN_zero (f : Fate) {t : Nd} (h : zeroN t = true) : alN f t = t := by
  obtain ⟨h1, h2⟩ := zeroN_k h
  cases t with
  | mk h' ts =>
    have e1 : h'.k = 0 := h1
    have e2 : ts = [] := h2
    subst e2
    rw [alN, if_neg (by omega), alL]
theorem alC_plain (f : Fate) {c : Ct} (h : gv c = true) (hk : c.k ≠ 2) : alC f c = c := by
  have hz : zeroN c.t = true := by
    unfold gv validC at h
    simp [hk] at h
    rcases h with h | h
    · exact h.2.2
    · exact h.2.2
  unfold alC
  rw [alN_zero f hz]
theorem alC_gv {f : Fate} (hf : FateOk f) {c : Ct} (h : gv c = true) : gv (alC f c) = true := by
  by_cases hk : c.k = 2
  · unfold gv validC at h ⊢
    simp [alC, hk] at h ⊢
    exact ⟨h.1, alN_chk hf h.2⟩
  · rw [alC_plain f h hk]; exact h
theorem alC_gd {f : Fate} (hf : FateOk f) {c : Ct} (h : Gd c) : Gd (alC f c) := by
  refine ⟨alC_gv hf h.val, h.k, alN_ok f _ h.ok, h.x, Nat.le_trans (alN_size f _) h.size, ?_⟩
  have hc := h.cp
  unfold cpC at hc
  have e1 := congrArg Ct.v hc
  have e2 := congrArg Ct.t hc
  unfold cpC
  show (⟨c.k, { c.v with x := one c.v.x }, cpy (alN f c.t)⟩ : Ct) = ⟨c.k, c.v, alN f c.t⟩
  rw [alN_cpy f _ e2]
  exact congrArg (fun v => (⟨c.k, v, alN f c.t⟩ : Ct)) e1
/-- A grid's contents that have gone along. -/
def brL (f : Fate) (L : List Cc) : List Cc := L.filterMap fun x => (f (x.1, x.1)).map fun b => (b.1, alC f x.2)
end Go.Proofs.YtdaoingmiabbcaaGreatDoor
namespace Go.Proofs.YtdaoingmiabbcaaGreatDoor
open Go.RowKit

mutual
theorem NdOwn.node {w : World} {sl : Value} : ∀ {t : Nd} {fp : List Nat}, NdOwn w sl t fp → ∀ b ∈ fp, ∃ cs : Array Value, w.heap[b]? = some (.cells cs 49 (0, 0))
  | .mk _ ts, fp, h, b, hb => by
    rw [NdOwn] at h
    rcases h with ⟨_, _, rfl⟩ | ⟨b', c, fps, cs, _, _, _, _, h5, _, rfl, h8⟩
    · simp at hb
    · rcases List.mem_cons.1 hb with rfl | hb
      · exact ⟨cs, h5⟩
      · exact NdsOwn.node h8 b hb
theorem NdsOwn.node {w : World} {b' : Nat} : ∀ {ts : List Nd} {o : Nat} {fp : List Nat}, NdsOwn w b' o ts fp → ∀ b ∈ fp, ∃ cs : Array Value, w.heap[b]? = some (.cells cs 49 (0, 0))
  | [], _, fp, h, b, hb => by rw [NdsOwn] at h; subst h; simp at hb
  | t :: ts, o, fp, h, b, hb => by
    rw [NdsOwn] at h
    obtain ⟨sl, f1, f2, _, h2, rfl, h4⟩ := h
    rcases List.mem_append.1 hb with hb | hb
    · exact NdOwn.node h2 b hb
    · exact NdsOwn.node h4 b hb
end
theorem node_lt {w : World} {b : Nat} (h : ∃ cs : Array Value, w.heap[b]? = some (.cells cs 49 (0, 0))) : b < w.heap.size := by
  obtain ⟨cs, h⟩ := h
  exact (Array.getElem?_eq_some_iff.1 h).1
/-- Behind k rounds: the first k nodes have gone along. -/
structure AlAt (f : Fate) (w wr : World) (b c k : Nat) (ts : List Nd) (fps fa fb : List Nat) : Prop where
  kp : Kp w wr (fun i => i ∈ b :: fps)
  row : ∃ cs : Array Value, wr.heap[b]? = some (.cells cs 49 (0, 0)) ∧ cs.size = c * 15
  done : NdsOwn wr b 0 (alL f (ts.take k)) fa
  rest : NdsOwn wr b (k * 15) (ts.drop k) fb
  sub : ∃ fA, fps = fA ++ fb ∧ fa.Sublist fA
theorem AlAt.start {f : Fate} {w : World} {b c : Nat} {ts : List Nd} {fps : List Nat} {cs : Array Value} (h1 : w.heap[b]? = some (.cells cs 49 (0, 0))) (h2 : cs.size = c * 15) (h : NdsOwn w b 0 ts fps) : AlAt f w w b c 0 ts fps [] fps :=
  ⟨Kp.refl _ _, ⟨cs, h1, h2⟩, by rw [List.take_zero, alL, NdsOwn], by simpa using h, [], rfl, List.Sublist.refl _⟩
theorem AlAt.nul {f : Fate} {w wr w' : World} {b c k : Nat} {ts : List Nd} {fps fa fb : List Nat} (h : AlAt f w wr b c k ts fps fa fb) (g : Kp wr w' Nul) : AlAt f w w' b c k ts fps fa fb := by
  have hb : w'.heap[b]? = wr.heap[b]? := by
    obtain ⟨cs, h1, _⟩ := h.row
    exact g.block b (Array.getElem?_eq_some_iff.1 h1).1 (fun x => x)
  refine ⟨h.kp.trans (g.mono (fun _ _ x => x.elim)), ?_, ?_, ?_, h.sub⟩
  · obtain ⟨cs, h1, h2⟩ := h.row
    exact ⟨cs, hb.trans h1, h2⟩
  · exact h.done.mono (fun o' cs' _ _ hr => rangeAt_block hr hb) (fun i hi => g.block i (node_lt (h.done.node i hi)) (fun x => x))
  · exact h.rest.mono (fun o' cs' _ _ hr => rangeAt_block hr hb) (fun i hi => g.block i (node_lt (h.rest.node i hi)) (fun x => x))
/-- The next node. -/
theorem AlAt.next {f : Fate} {w wr : World} {b c k : Nat} {ts : List Nd} {fps fa fb : List Nat} (h : AlAt f w wr b c k ts fps fa fb) (hk : k < ts.length) : ∃ sl f1 f2, wr.rangeAt b (k * 15) ((ts[k]).hd.cells sl) ∧ NdOwn wr sl ts[k] f1 ∧ fb = f1 ++ f2 ∧ NdsOwn wr b ((k + 1) * 15) (ts.drop (k + 1)) f2 := by
  have h1 := h.rest
  rw [List.drop_eq_getElem_cons hk, NdsOwn] at h1
  obtain ⟨sl, f1, f2, h2, h3, h4, h5⟩ := h1
  exact ⟨sl, f1, f2, h2, h3, h4, by rw [show (k + 1) * 15 = k * 15 + 15 by omega]; exact h5⟩
theorem AlAt.step {f : Fate} {w wr w1 : World} {b c k : Nat} {ts : List Nd} {fps fa fb f1 f2 f1' : List Nat} (h : AlAt f w wr b c k ts fps fa fb) (hk : k < ts.length) (hc : ts.length ≤ c) (hn : (b :: fps).Nodup) (hfb : fb = f1 ++ f2) (hrest : NdsOwn wr b ((k + 1) * 15) (ts.drop (k + 1)) f2)
    {sl' : Value} (g : Kp wr w1 (fun i => i ∈ f1)) (hu : NdOwn w1 sl' (alN f ts[k]) f1') (hs : f1'.Sublist f1) :
    AlAt f w (w1.setCells b (k * 15) ((alN f ts[k]).hd.cells sl')) b c (k + 1) ts fps (fa ++ f1') f2 := by
  obtain ⟨fA, e1, e2⟩ := h.sub
  obtain ⟨cs, r1, r2⟩ := h.row
  have hblt := (Array.getElem?_eq_some_iff.1 r1).1
  rw [List.nodup_cons] at hn
  obtain ⟨hb0, hn⟩ := hn
  rw [e1, hfb] at hn hb0
  have hbA : b ∉ fA := fun q => hb0 (List.mem_append_left _ q)
  have hb1 : b ∉ f1 := fun q => hb0 (List.mem_append_right _ (List.mem_append_left _ q))
  have hb2 : b ∉ f2 := fun q => hb0 (List.mem_append_right _ (List.mem_append_right _ q))
  rw [List.nodup_append] at hn
  obtain ⟨_, hn2, hn3⟩ := hn
  rw [List.nodup_append] at hn2
  have d1 : ∀ i ∈ fa, i ∉ f1 := fun i hi q => hn3 i (e2.subset hi) i (List.mem_append_left _ q) rfl
  have d2 : ∀ i ∈ f2, i ∉ f1 := fun i hi q => hn2.2.2 i q i hi rfl
  have hA : w1.heap[b]? = some (.cells cs 49 (0, 0)) := (g.block b hblt hb1).trans r1
  have hth : w1.there b (k * 15) 15 := there_of_block hA _ _ (by omega)
  have hne : ∀ i, i ≠ b → (w1.setCells b (k * 15) ((alN f ts[k]).hd.cells sl')).heap[i]? = w1.heap[i]? := fun i hi => heap_setCells_ne hi _ _ _
  refine ⟨?_, ?_, ?_, ?_, ?_⟩
  · refine (h.kp.trans (g.mono (fun i _ q => ?_))).trans (setCells_kp _ (by show b ∈ b :: fps; exact List.mem_cons_self) _ _ _)
    show i ∈ b :: fps
    rw [e1, hfb]
    exact List.mem_cons_of_mem _ (List.mem_append_right _ (List.mem_append_left _ q))
  · exact ⟨_, heap_setCells_at _ _ _ _ hA, by rw [setAll_size, r2]⟩
  · have o1 : NdsOwn w1 b 0 (alL f (ts.take k)) fa := h.done.mono (fun o' cs' _ _ hr => rangeAt_block hr (hA.trans r1.symm)) (fun i hi => g.block i (node_lt (h.done.node i hi)) (d1 i hi))
    have hl : (alL f (ts.take k)).length = k := by rw [alL_len, List.length_take]; omega
    have o2 : NdsOwn (w1.setCells b (k * 15) ((alN f ts[k]).hd.cells sl')) b 0 (alL f (ts.take k)) fa := by
      refine o1.mono (fun o' cs' _ q hr => ?_) (fun i hi => hne i (fun e => hbA (e ▸ e2.subset hi)))
      exact World.rangeAt_setCells_apart hr _ _ _ (.inr (.inl (by rw [hl] at q; omega)))
    have e : alL f (ts.take (k + 1)) = alL f (ts.take k) ++ [alN f ts[k]] := by
      rw [alL_map, alL_map, List.take_add_one, List.getElem?_eq_getElem hk, List.map_append]; rfl
    rw [e]
    refine NdsOwn.snoc (sl := sl') (hu.mono (fun i hi => hne i (fun e => hb1 (e ▸ hs.subset hi)))) o2 ?_
    rw [hl, Nat.zero_add]
    exact World.rangeAt_setCells_same _ _ _ _ (by simpa using hth)
  · have o1 : NdsOwn w1 b ((k + 1) * 15) (ts.drop (k + 1)) f2 := hrest.mono (fun o' cs' _ _ hr => rangeAt_block hr (hA.trans r1.symm)) (fun i hi => g.block i (node_lt (hrest.node i hi)) (d2 i hi))
    refine o1.mono (fun o' cs' q _ hr => ?_) (fun i hi => hne i (fun e => hb2 (e ▸ hi)))
    exact World.rangeAt_setCells_apart hr _ _ _ (.inr (.inr (by simp; omega)))
  · exact ⟨fA ++ f1, by rw [e1, hfb, List.append_assoc], e2.append hs⟩
theorem AlAt.fin {f : Fate} {w wr : World} {b c : Nat} {ts : List Nd} {fps fa fb : List Nat} (h : AlAt f w wr b c ts.length ts fps fa fb) (hne : ts ≠ []) (hc : ts.length ≤ c) (hm : c ≤ maxLen) (hd : Hd) : NdOwn wr (.slice (some ⟨b, 0, none⟩) ts.length c) (.mk hd (alL f ts)) (b :: fa) ∧ (b :: fa).Sublist (b :: fps) := by
  obtain ⟨cs, h1, h2⟩ := h.row
  have hd' := h.done
  rw [List.take_length] at hd'
  obtain ⟨fA, e1, e2⟩ := h.sub
  constructor
  · rw [NdOwn]
    refine .inr ⟨b, c, fa, cs, by rw [alL_len], ?_, by rw [alL_len]; exact hc, hm, h1, h2, rfl, hd'⟩
    intro e
    have := alL_len f ts
    rw [e] at this
    exact hne (List.length_eq_zero_iff.1 this.symm)
  · rw [e1]
    exact (e2.trans (List.sublist_append_left _ _)).cons_cons _
end Go.Proofs.YtdaoingmiabbcaaGreatDoor
namespace Go.Proofs.YtdaoingmiabbcaaGreatDoor
open Go.RowKit

/-- What becomes of an area when lines are put in or taken out. -/
def lnF (cols : Bool) (at' n : Int) : Fate := fun a =>
  match thr (if cols then at' else 1) (if cols then n else 0) 256 a.1.1 a.2.1, thr (if cols then 1 else at') (if cols then 0 else n) 4096 a.1.2 a.2.2 with
  | some x, some y => some ((x.1, y.1), (x.2, y.2))
  | _, _ => none
theorem lnF_some {cols : Bool} {at' n : Int} {a b : Ar4} (e : lnF cols at' n a = some b) : ∃ x y, thr (if cols then at' else 1) (if cols then n else 0) 256 a.1.1 a.2.1 = some x ∧ thr (if cols then 1 else at') (if cols then 0 else n) 4096 a.1.2 a.2.2 = some y ∧ b = ((x.1, y.1), (x.2, y.2)) := by
  unfold lnF at e
  split at e
  · rename_i x y h1 h2
    injection e with e
    exact ⟨x, y, h1, h2, e.symm⟩
  · cases e
/-- Which lines may be asked for. -/
def lnOk (cols : Bool) (at' n : Int) : Prop := LnOk at' n (if cols then 256 else 4096)
theorem lnOk_two {cols : Bool} {at' n : Int} (h : lnOk cols at' n) : LnOk (if cols then at' else 1) (if cols then n else 0) 256 ∧ LnOk (if cols then 1 else at') (if cols then 0 else n) 4096 := by
  unfold lnOk at h
  cases cols
  · exact ⟨⟨by simp, by simp, by simp, by simp⟩, h⟩
  · exact ⟨h, ⟨by simp, by simp, by simp, by simp⟩⟩
theorem ar_ok (a : Ar4) : Ar4.ok a = true ↔ 1 ≤ a.1.1 ∧ a.1.1 ≤ a.2.1 ∧ a.2.1 ≤ 256 ∧ 1 ≤ a.1.2 ∧ a.1.2 ≤ a.2.2 ∧ a.2.2 ≤ 4096 := by
  unfold Ar4.ok vA vC
  simp only [Bool.and_eq_true, decide_eq_true_eq]
  omega
theorem lnF_ok {cols : Bool} {at' n : Int} (h : lnOk cols at' n) : FateOk (lnF cols at' n) := by
  obtain ⟨h1, h2⟩ := lnOk_two h
  refine ⟨fun a b ha e => ?_, fun p b e => ?_⟩
  · obtain ⟨x, y, e1, e2, rfl⟩ := lnF_some e
    rw [ar_ok] at ha ⊢
    have q1 := thr_ok h1 ha.1 ha.2.1 ha.2.2.1 e1
    have q2 := thr_ok h2 ha.2.2.2.1 ha.2.2.2.2.1 ha.2.2.2.2.2 e2
    exact ⟨q1.1, q1.2.1, q1.2.2, q2.1, q2.2.1, q2.2.2⟩
  · obtain ⟨x, y, e1, e2, rfl⟩ := lnF_some e
    have q1 := (thr_cell e1).1
    have q2 := (thr_cell e2).1
    simp only [q1, q2]
/-- No two cells come to one place. -/
def FateInj (f : Fate) : Prop := ∀ p q b b', vC p.1 p.2 = true → vC q.1 q.2 = true → p ≠ q → f (p, p) = some b → f (q, q) = some b' → b.1 ≠ b'.1
theorem lnF_inj (cols : Bool) (at' n : Int) : FateInj (lnF cols at' n) := by
  intro p q b b' hp hq hne e e' heq
  rw [vC_iff] at hp hq
  obtain ⟨x, y, e1, e2, rfl⟩ := lnF_some e
  obtain ⟨x', y', e1', e2', rfl⟩ := lnF_some e'
  have q1 : x.1 = x'.1 := (Prod.mk.inj heq).1
  have q2 : y.1 = y'.1 := (Prod.mk.inj heq).2
  by_cases hc : p.1 = q.1
  · have hr : p.2 ≠ q.2 := fun e => hne (Prod.ext hc e)
    exact thr_inj hp.2.2.1 hq.2.2.1 hr e2 e2' q2
  · exact thr_inj hp.1 hq.1 hc e1 e1' q1
/-- A cell that has a place has one that is a cell. -/
theorem fate_vC {f : Fate} (hf : FateOk f) {p : Int × Int} {b : Ar4} (hp : vC p.1 p.2 = true) (e : f (p, p) = some b) : vC b.1.1 b.1.2 = true := by
  have hb := hf.ok (p, p) b (by
    rw [ar_ok]; rw [vC_iff] at hp
    exact ⟨hp.1, Int.le_refl _, hp.2.1, hp.2.2.1, Int.le_refl _, hp.2.2.2⟩) e
  rw [ar_ok] at hb
  rw [vC_iff]
  omega
theorem brL_mem {f : Fate} {L : List Cc} {y : Cc} : y ∈ brL f L ↔ ∃ x ∈ L, ∃ b, f (x.1, x.1) = some b ∧ y = (b.1, alC f x.2) := by
  unfold brL
  rw [List.mem_filterMap]
  constructor
  · rintro ⟨x, hx, h⟩
    rw [Option.map_eq_some_iff] at h
    obtain ⟨b, h1, h2⟩ := h
    exact ⟨x, hx, b, h1, h2.symm⟩
  · rintro ⟨x, hx, b, h1, rfl⟩
    exact ⟨x, hx, by rw [h1]; rfl⟩
end Go.Proofs.YtdaoingmiabbcaaGreatDoor
namespace Go.Proofs.YtdaoingmiabbcaaGreatDoor
open Go.RowKit

/-- The lines that a node names are lines. -/
def lnIn (h : Hd) : Prop := (h.k = 5 → 1 ≤ h.c1 ∧ h.c1 ≤ 256 ∧ 1 ≤ h.r1 ∧ h.r1 ≤ 4096) ∧ (h.k = 6 → 1 ≤ h.c1 ∧ h.c1 ≤ h.c2 ∧ h.c2 ≤ 256 ∧ 1 ≤ h.r1 ∧ h.r1 ≤ h.r2 ∧ h.r2 ≤ 4096)
theorem fe_own {h : Hd} {ts : List Nd} {c : Bool} (h0 : (Nd.mk h ts).fe c = 0) : ownE h ts.length c = 0 ∧ ∃ c', feL ts c' = 0 := by
  rw [Nd.fe] at h0
  by_cases ho : ownE h ts.length c = 0
  · rw [if_neg (by rw [ho]; decide)] at h0
    exact ⟨ho, _, h0⟩
  · rw [if_pos ho] at h0; exact absurd h0 ho
theorem fe_lnIn {h : Hd} {ts : List Nd} {c : Bool} (h0 : (Nd.mk h ts).fe c = 0) : lnIn h ∧ (h.k = 5 ∨ h.k = 6 → ts = []) := by
  have ho := (fe_own h0).1
  have hw : wm h ts.length = true := by
    cases q : wm h ts.length with
    | true => rfl
    | false => unfold ownE at ho; rw [if_pos q] at ho; omega
  refine ⟨⟨fun e => ?_, fun e => ?_⟩, fun hk => List.length_eq_zero_iff.1 (wm_len hk hw)⟩
  · unfold ownE at ho
    rw [if_neg (by rw [hw]; decide), if_pos e] at ho
    have hv : vA h.c1 h.r1 h.c1 h.r1 = true := by
      split at ho
      · assumption
      · omega
    have := (ar_ok ((h.c1, h.r1), (h.c1, h.r1))).1 hv
    simp only at this
    omega
  · unfold ownE at ho
    rw [if_neg (by rw [hw]; decide), if_neg (show ¬ h.k = 5 by omega), if_pos e] at ho
    have hv : vA h.c1 h.r1 h.c2 h.r2 = true := by
      split at ho
      · assumption
      · omega
    have := (ar_ok ((h.c1, h.r1), (h.c2, h.r2))).1 hv
    simp only at this
    omega
end Go.Proofs.YtdaoingmiabbcaaGreatDoor
namespace Go.Proofs.YtdaoingmiabbcaaGreatDoor
open Go.RowKit

mutual
/-- How many nodes are faults. -/
def fl : Nd → Nat
  | .mk h ts => (if h.k = 4 then 1 else 0) + flL ts
def flL : List Nd → Nat
  | [] => 0
  | t :: ts => fl t + flL ts
end
mutual
/-- No reference is lost. -/
def keepsN (f : Fate) : Nd → Prop
  | .mk h ts => (h.k = 5 ∨ h.k = 6 → f (nmA h) ≠ none) ∧ keepsL f ts
def keepsL (f : Fate) : List Nd → Prop
  | [] => True
  | t :: ts => keepsN f t ∧ keepsL f ts
end
mutual
theorem fl_al (f : Fate) : ∀ (t : Nd) (c : Bool), t.fe c = 0 → fl t ≤ fl (alN f t) ∧ (fl (alN f t) = fl t → keepsN f t)
  | .mk h ts, c, h0 => by
    obtain ⟨_, hts⟩ := fe_lnIn h0
    obtain ⟨_, c', hl⟩ := fe_own h0
    rw [alN]
    by_cases hk : h.k = 5 ∨ h.k = 6
    · rw [if_pos hk]
      obtain rfl := hts hk
      have e4 : ¬ h.k = 4 := by omega
      have e0 : fl (.mk h []) = 0 := by rw [fl, flL, if_neg e4]
      have eF : fl ndF = 1 := by unfold ndF; rw [fl, flL]; rfl
      rw [e0, keepsN]
      unfold nmN
      have hh : (Nd.mk h []).hd = h := rfl
      rw [hh]
      cases e : f (nmA h) with
      | none =>
        simp only [eF]
        exact ⟨by omega, fun q => by omega⟩
      | some a =>
        have e1 : fl (.mk (toH h a) (Nd.mk h []).ts) = 0 := by
          show fl (.mk (toH h a) []) = 0
          rw [fl, flL, toH_k, if_neg e4]
        have q : (h.k = 5 ∨ h.k = 6 → (some a : Option Ar4) ≠ none) ∧ keepsL f [] := ⟨fun _ z => (by cases z), by rw [keepsL]; trivial⟩
        show 0 ≤ fl (.mk (toH h a) (Nd.mk h []).ts) ∧ (fl (.mk (toH h a) (Nd.mk h []).ts) = 0 → _)
        rw [e1]
        exact ⟨Nat.le_refl _, fun _ => q⟩
    · rw [if_neg hk, fl, fl, keepsN]
      have := flL_al f ts c' hl
      exact ⟨by omega, fun q => ⟨fun q' => absurd q' hk, this.2 (by omega)⟩⟩
theorem flL_al (f : Fate) : ∀ (ts : List Nd) (c : Bool), feL ts c = 0 → flL ts ≤ flL (alL f ts) ∧ (flL (alL f ts) = flL ts → keepsL f ts)
  | [], c, _ => by rw [alL, keepsL]; exact ⟨Nat.le_refl _, fun _ => trivial⟩
  | t :: ts, c, h0 => by
    rw [feL] at h0
    by_cases ht : t.fe c = 0
    · rw [if_neg (by rw [ht]; decide)] at h0
      have h1 := fl_al f t c ht
      have h2 := flL_al f ts c h0
      rw [alL, flL, flL, keepsL]
      exact ⟨by omega, fun q => ⟨h1.2 (by omega), h2.2 (by omega)⟩⟩
    · rw [if_pos ht] at h0; exact absurd h0 ht
end
/-- What f and then g do to an area is what h does. -/
def Then (f g h : Fate) (a : Ar4) : Prop := (f a).bind g = h a
theorem nmA_to {h : Hd} (hk : h.k = 5 ∨ h.k = 6) {a : Ar4} (hc : h.k = 5 → a.1 = a.2) : nmA (toH h a) = a := by
  unfold nmA
  rw [toH_k]
  unfold toH
  rcases hk with e | e
  · have e6 : ¬ h.k = 6 := by omega
    simp only [if_neg e6]
    exact Prod.ext rfl (hc e)
  · simp only [if_pos e]
theorem toH_to (h : Hd) (a b : Ar4) : toH (toH h a) b = toH h b := by
  unfold toH
  by_cases e : h.k = 6
  · simp only [if_pos e]
  · simp only [if_neg e]
theorem toH_self {h : Hd} : toH h (nmA h) = h := by
  unfold toH nmA
  by_cases e : h.k = 6
  · simp only [if_pos e]
  · simp only [if_neg e]
mutual
/-- The areas that a formula names. -/
def nmAll (Q : Hd → Prop) : Nd → Prop
  | .mk h ts => (h.k = 5 ∨ h.k = 6 → Q h) ∧ nmAllL Q ts
def nmAllL (Q : Hd → Prop) : List Nd → Prop
  | [] => True
  | t :: ts => nmAll Q t ∧ nmAllL Q ts
end
theorem alN_F (f : Fate) : alN f ndF = ndF := by
  unfold ndF
  rw [alN, if_neg (by decide), alL]
mutual
theorem al_then {f g h : Fate} (hf : FateOk f) : ∀ (t : Nd) (c : Bool), t.fe c = 0 → nmAll (fun d => Then f g h (nmA d)) t → alN g (alN f t) = alN h t
  | .mk d ts, c, h0, hq => by
    obtain ⟨_, hts⟩ := fe_lnIn h0
    obtain ⟨_, c', hl⟩ := fe_own h0
    rw [nmAll] at hq
    rw [alN, alN]
    by_cases hk : d.k = 5 ∨ d.k = 6
    · rw [if_pos hk, if_pos hk]
      obtain rfl := hts hk
      have hT := hq.1 hk
      unfold Then at hT
      unfold nmN
      show alN g (match f (nmA d) with | none => ndF | some a => Nd.mk (toH d a) []) = (match h (nmA d) with | none => ndF | some a => Nd.mk (toH d a) [])
      cases e : f (nmA d) with
      | none =>
        rw [e, Option.bind_none] at hT
        rw [← hT]
        exact alN_F g
      | some a =>
        rw [e, Option.bind_some] at hT
        have hc : d.k = 5 → a.1 = a.2 := fun e5 => by
          have hA : nmA d = ((d.c1, d.r1), (d.c1, d.r1)) := by unfold nmA; rw [if_neg (show ¬ d.k = 6 by omega)]
          rw [hA] at e
          exact hf.cell _ _ e
        simp only []
        rw [alN, toH_k, if_pos hk]
        unfold nmN
        show (match g (nmA (toH d a)) with | none => ndF | some b => Nd.mk (toH (toH d a) b) []) = _
        rw [nmA_to hk hc, hT]
        cases h (nmA d) with
        | none => rfl
        | some b => simp only []; rw [toH_to]
    · rw [if_neg hk, if_neg hk, alN, if_neg hk, al_thenL hf ts c' hl hq.2]
theorem al_thenL {f g h : Fate} (hf : FateOk f) : ∀ (ts : List Nd) (c : Bool), feL ts c = 0 → nmAllL (fun d => Then f g h (nmA d)) ts → alL g (alL f ts) = alL h ts
  | [], c, _, _ => by rw [alL, alL, alL]
  | t :: ts, c, h0, hq => by
    rw [feL] at h0
    rw [nmAllL] at hq
    by_cases ht : t.fe c = 0
    · rw [if_neg (by rw [ht]; decide)] at h0
      rw [alL, alL, alL, al_then hf t c ht hq.1, al_thenL hf ts c h0 hq.2]
    · rw [if_pos ht] at h0; exact absurd h0 ht
end
/-- The fate that leaves all where it is. -/
def stayF : Fate := some
mutual
theorem al_stay : ∀ (t : Nd), alN stayF t = t
  | .mk d ts => by
    rw [alN]
    by_cases hk : d.k = 5 ∨ d.k = 6
    · rw [if_pos hk]
      unfold nmN stayF
      show Nd.mk (toH d (nmA d)) ts = _
      rw [toH_self]
    · rw [if_neg hk, al_stayL ts]
theorem al_stayL : ∀ (ts : List Nd), alL stayF ts = ts
  | [] => by rw [alL]
  | t :: ts => by rw [alL, al_stay t, al_stayL ts]
end
end Go.Proofs.YtdaoingmiabbcaaGreatDoor
namespace Go.Proofs.YtdaoingmiabbcaaGreatDoor
open Go.RowKit Go.Shelf
attribute [local go_sem] Oper.semAt_some

mutual
/-- The nodes of a tree, each ahead of those below it. -/
def preN : Nd → List Hd
  | .mk h ts => h :: preL ts
def preL : List Nd → List Hd
  | [] => []
  | t :: ts => preN t ++ preL ts
end
mutual
theorem preN_len : ∀ t : Nd, (preN t).length = t.size
  | .mk h ts => by rw [preN, Nd.size, List.length_cons, preL_len ts]; omega
theorem preL_len : ∀ ts : List Nd, (preL ts).length = sizeL ts
  | [] => by rw [preL, sizeL]; rfl
  | t :: ts => by rw [preL, sizeL, List.length_append, preN_len t, preL_len ts]
end
theorem preL_get : ∀ (ts : List Nd) (q i : Nat), (hq : q < ts.length) → i < (ts[q]).size → (preL ts)[sizeL (ts.take q) + i]? = (preN ts[q])[i]?
  | [], q, i, hq, _ => by simp at hq
  | t :: ts, 0, i, _, hi => by
    rw [preL, List.take_zero, sizeL, Nat.zero_add, List.getElem?_append_left (by rw [preN_len]; exact hi)]
    rfl
  | t :: ts, q + 1, i, hq, hi => by
    rw [preL, List.take_succ_cons, sizeL, List.getElem?_append_right (by rw [preN_len]; omega), preN_len]
    rw [show t.size + sizeL (ts.take q) + i - t.size = sizeL (ts.take q) + i by omega]
    exact preL_get ts q i (by simpa using hq) hi
/-- The tree's nodes stand in the list from place k on. -/
def PreAt (PL : List Hd) (k : Nat) (t : Nd) : Prop := ∀ i, i < t.size → PL[k + i]? = (preN t)[i]?
theorem PreAt.head {PL : List Hd} {k : Nat} {h : Hd} {ts : List Nd} (q : PreAt PL k (.mk h ts)) : PL[k]? = some h := by
  have := q 0 (size_pos _)
  rw [preN] at this
  simpa using this
theorem PreAt.get {PL : List Hd} {k : Nat} {h : Hd} {ts : List Nd} (p : PreAt PL k (.mk h ts)) (q : Nat) (hq : q < ts.length) : PreAt PL (k + 1 + sizeL (ts.take q)) ts[q] := by
  intro i hi
  have hs : 1 + sizeL (ts.take q) + i < (Nd.mk h ts).size := by
    rw [Nd.size]
    have h1 := sizeL_take ts q hq
    have h2 := sizeL_take_le ts (q + 1)
    omega
  have := p _ hs
  rw [preN, show 1 + sizeL (ts.take q) + i = (sizeL (ts.take q) + i) + 1 by omega, List.getElem?_cons_succ, preL_get ts q i hq hi] at this
  rw [← this]
  congr 1
  omega
theorem PreAt.self (t : Nd) : PreAt (preN t) 0 t := fun i _ => by rw [Nat.zero_add]
section
variable {n : Nat} {P : Program} {α : Type} {g : Operand} {ps : Array Tmp} {assign body : Code} {Q : Exit → Act → World → Prop} {a : Act} {w : World}
/-- One round. -/
theorem round_told {encs : α → Array Value} {fn : FuncId} {N : Nat} (hfn : Fence.wide.fn fn) (hps : ∀ x, (encs x).size = ps.size) (T : Nat → α → Prop) (S : Nat → Prop) (hS : ∀ i, S i → i < w.heap.size)
    (I : Nat → World → Prop) (Ix : World → Prop) (hI : ∀ k W W', I k W → Kp W W' (fun i => w.heap.size ≤ i) → I k W') (hIx : ∀ W W', Ix W → Kp W W' (fun i => w.heap.size ≤ i) → Ix W')
    (hround : ∀ (l : Nat) (k : Nat) (x : α) (W : World) (K : Act → World → Prop), w.heap.size ≤ l → w.heap.size + 2 ≤ W.heap.size → k < N → T k x → I k W → (∀ a' W', Kp W W' Nul → (∀ V, Kp W' V (fun i => i = w.heap.size + 1) → body.wpIn (Fence.wide.inRound l) (n - 1 - 1) P (fun e _ X => (e = .normal ∧ Kp V X (fun i => S i ∨ W.heap.size ≤ i) ∧ I (k + 1) X) ∨ (e = .ret ∧ Kp V X (fun i => S i ∨ W.heap.size ≤ i) ∧ Ix X)) a' V) → K a' W') →
      assign.wpIn (Fence.wide.inRound l) (n - 1 - 1) P (Exit.then K (fun _ _ _ => False)) { tmps := (ps.zip (encs x)).foldl (fun t (p, v) => t.setIfInBounds p v) a.tmps, defers := [] } W)
    (k : Nat) (x : α) (W : World) (hkN : k < N) (htx : T k x) (hi : I k W) (hl : W.heap[w.heap.size + 1]? = some (.loop (lrec fn a ps assign body w.heap.size .ready none))) (hk : W.heap[w.heap.size]? = some (.deferred (some []))) :
    YieldAt Fence.wide (n - 1 - 1) P (w.heap.size + 1) (encs x) W fun e W' =>
      (e = .returned (.bool true) ∧ (I (k + 1) W' ∧ W'.heap[w.heap.size + 1]? = some (.loop (lrec fn a ps assign body w.heap.size .ready none)) ∧ W'.heap[w.heap.size]? = some (.deferred (some []))) ∧ Kp W W' (fun i => S i ∨ i = w.heap.size + 1)) ∨
      (e = .returned (.bool false) ∧ (Ix W' ∧ W'.heap[w.heap.size + 1]? = some (.loop (lrec fn a ps assign body w.heap.size .done (some .ret))) ∧ W'.heap[w.heap.size]? = some (.deferred (some []))) ∧ Kp W W' (fun i => S i ∨ i = w.heap.size + 1)) := by
  have hy := run_yield (P := P) (args := encs x) hl (hps x)
  refine ⟨fn, _, assign, body, hy, roundIn_of_wpIn hfn (hround _ k x W _ (Nat.le_succ _) (Array.getElem?_eq_some_iff.1 hl).1 hkN htx hi ?_)⟩
  clear hy
  intro a' V hkp hbody
  have hWl : w.heap.size + 1 < W.heap.size := (Array.getElem?_eq_some_iff.1 hl).1
  have vl := (hkp.block _ hWl (fun x => x)).trans hl
  have vk := (hkp.block _ (by omega) (fun x => x)).trans hk
  have hlt : w.heap.size + 1 < V.heap.size := (Array.getElem?_eq_some_iff.1 vl).1
  refine ⟨_, run_beginRound vl rfl, ?_⟩
  obtain ⟨bz, hbz⟩ : ∃ bz : Loop, { lrec fn a ps assign body w.heap.size .ready none with state := .busy } = bz := ⟨_, rfl⟩
  obtain ⟨U, hU⟩ : ∃ U, V.putObj (w.heap.size + 1) (.loop bz) = U := ⟨_, rfl⟩
  rw [hbz, hU]
  have ul : U.heap[w.heap.size + 1]? = some (.loop bz) := by rw [← hU]; exact World.putObj_heap_same hlt
  have uk : U.heap[w.heap.size]? = some (.deferred (some [])) := by rw [← hU]; exact (World.putObj_heap_other (by omega)).trans vk
  have hVU : Kp V U (fun i => i = w.heap.size + 1) := by rw [← hU]; exact putObj_self
  refine wpIn_mono (hbody U hVU) ?_
  have leave : ∀ (jump : Option Code) (X : World), Kp U X (fun i => S i ∨ W.heap.size ≤ i) →
      (Instr.endRound (w.heap.size + 1) jump).run P X = .ok (.bool jump.isNone) (X.putObj (w.heap.size + 1) (.loop (lrec fn a ps assign body w.heap.size (if jump.isNone then .ready else .done) jump))) ∧
      (X.putObj (w.heap.size + 1) (.loop (lrec fn a ps assign body w.heap.size (if jump.isNone then .ready else .done) jump))).heap[w.heap.size + 1]? = some (.loop (lrec fn a ps assign body w.heap.size (if jump.isNone then .ready else .done) jump)) ∧
      (X.putObj (w.heap.size + 1) (.loop (lrec fn a ps assign body w.heap.size (if jump.isNone then .ready else .done) jump))).heap[w.heap.size]? = some (.deferred (some [])) ∧ Kp X (X.putObj (w.heap.size + 1) (.loop (lrec fn a ps assign body w.heap.size (if jump.isNone then .ready else .done) jump))) (fun i => i = w.heap.size + 1) := by
    intro jump X hX
    have hUl : w.heap.size + 1 < U.heap.size := (Array.getElem?_eq_some_iff.1 ul).1
    have xl := (hX.block _ hUl (fun h => by rcases h with h | h; have := hS _ h; omega; omega)).trans ul
    have xk := (hX.block _ (by omega) (fun h => by rcases h with h | h; have := hS _ h; omega; omega)).trans uk
    refine ⟨?_, World.putObj_heap_same (Array.getElem?_eq_some_iff.1 xl).1, (World.putObj_heap_other (by omega)).trans xk, putObj_self⟩
    have := run_endRound (P := P) jump xl
    rw [← hbz] at this
    exact this
  rintro e a3 X hp
  rcases hp with ⟨rfl, q1, q2⟩ | ⟨rfl, q1, q2⟩
  · obtain ⟨r1, r2, r3, r4⟩ := leave none X q1
    refine ⟨_, _, r1, .inl ⟨rfl, ⟨hI _ _ _ q2 (r4.mono (fun i _ e => by show w.heap.size ≤ i; omega)), r2, r3⟩, ?_⟩⟩
    exact ((hkp.of_nul.trans (hVU.mono (fun i _ e => .inr e))).trans' q1 (fun i hi e => by rcases e with e | e; exact .inl e; omega)).trans (r4.mono (fun i _ e => .inr e))
  · obtain ⟨r1, r2, r3, r4⟩ := leave (some .ret) X q1
    refine ⟨_, _, r1, .inr ⟨rfl, ⟨hIx _ _ q2 (r4.mono (fun i _ e => by show w.heap.size ≤ i; omega)), r2, r3⟩, ?_⟩⟩
    exact ((hkp.of_nul.trans (hVU.mono (fun i _ e => .inr e))).trans' q1 (fun i hi e => by rcases e with e | e; exact .inl e; omega)).trans (r4.mono (fun i _ e => .inr e))
/-- The caller's law. -/
theorem wpIn_range_told (h1 : 1 ≤ n) {gf : Nat} {lb : Array Value} (hg : a.eval g = .func (.func gf) #[] lb) (eg : ∀ args w, (callFunc gf args).run P w = .ok (.enter gf args) w)
    {encs : α → Array Value} (hps : ∀ x, (encs x).size = ps.size) (T : Nat → α → Prop) (S : Nat → Prop) (hS : ∀ i, S i → i < w.heap.size) {N : Nat}
    (hseq : ∀ (J : Nat → World → Prop) (Jx : World → Prop) (W : World), Kp w W Nul → w.heap.size + 2 ≤ W.heap.size → (∀ k W W', J k W → Kp W W' (fun i => w.heap.size + 2 ≤ i) → J k W') → (∀ W W', Jx W → Kp W W' (fun i => w.heap.size + 2 ≤ i) → Jx W') →
      (∀ m k x W1, k < N → T k x → J k W1 → YieldAt Fence.wide m P (w.heap.size + 1) (encs x) W1 fun e W' => (e = .returned (.bool true) ∧ J (k + 1) W' ∧ Kp W1 W' (fun i => S i ∨ i = w.heap.size + 1)) ∨ (e = .returned (.bool false) ∧ Jx W' ∧ Kp W1 W' (fun i => S i ∨ i = w.heap.size + 1))) → J 0 W →
      Calls P gf (#[.func (.yield (w.heap.size + 1)) #[] #[]] ++ lb) W fun e W' => (∃ v, e = .returned v) ∧ (J N W' ∨ Jx W'))
    (I : Nat → World → Prop) (Ix : World → Prop) (hI : ∀ k W W', I k W → Kp W W' (fun i => w.heap.size ≤ i) → I k W') (hIx : ∀ W W', Ix W → Kp W W' (fun i => w.heap.size ≤ i) → Ix W') (h0 : I 0 w)
    (hround : ∀ (l : Nat) (k : Nat) (x : α) (W : World) (K : Act → World → Prop), w.heap.size ≤ l → w.heap.size + 2 ≤ W.heap.size → k < N → T k x → I k W → (∀ a' W', Kp W W' Nul → (∀ V, Kp W' V (fun i => i = w.heap.size + 1) → body.wpIn (Fence.wide.inRound l) (n - 1 - 1) P (fun e _ X => (e = .normal ∧ Kp V X (fun i => S i ∨ W.heap.size ≤ i) ∧ I (k + 1) X) ∨ (e = .ret ∧ Kp V X (fun i => S i ∨ W.heap.size ≤ i) ∧ Ix X)) a' V) → K a' W') →
      assign.wpIn (Fence.wide.inRound l) (n - 1 - 1) P (Exit.then K (fun _ _ _ => False)) { tmps := (ps.zip (encs x)).foldl (fun t (p, v) => t.setIfInBounds p v) a.tmps, defers := [] } W)
    (hdone : ∀ (D : Nat) (W : World), w.heap.size ≤ D → I N W → W.heap[D]? = some (.deferred (some [])) → Q .normal { a with defers := { target := .collected D, args := #[] } :: a.defers } W)
    (hstop : ∀ (D : Nat) (W : World), w.heap.size ≤ D → Ix W → W.heap[D]? = some (.deferred (some [])) → Code.ret.wpIn Fence.wide n P Q { a with defers := { target := .collected D, args := #[] } :: a.defers } W) :
    (Code.rangeFunc g ps assign body).wpIn Fence.wide n P Q a w := by
  refine wpIn_rangeFunc fun fn hfn => ?_
  obtain ⟨W1, hW1⟩ : ∃ W1, (w.alloc (.deferred (some []))).alloc (.loop (lrec fn a ps assign body w.heap.size .ready none)) = W1 := ⟨_, rfl⟩
  have l1 : W1.heap[w.heap.size + 1]? = some (.loop (lrec fn a ps assign body w.heap.size .ready none)) := by
    have := World.alloc_heap_new (w.alloc (.deferred (some []))) (.loop (lrec fn a ps assign body w.heap.size .ready none))
    rw [World.size_alloc, hW1] at this
    exact this
  have k1 : W1.heap[w.heap.size]? = some (.deferred (some [])) := by rw [← hW1]; exact (Below.heap_alloc _ _ _ (by simp)).trans (World.alloc_heap_new w _)
  have s1 : W1.heap.size = w.heap.size + 2 := by rw [← hW1]; simp
  have kW : Kp w W1 Nul := by rw [← hW1]; exact ((Kp.refl w Nul).alloc _).alloc _
  refine ⟨w.heap.size + 1, [{ target := .collected w.heap.size, args := #[] }], W1, { target := .fn (.func gf) lb, args := #[.func (.yield (w.heap.size + 1)) #[] #[]] }, W1, gf, #[.func (.yield (w.heap.size + 1)) #[] #[]] ++ lb, W1, ?_, ?_, fun f' _ => trivial, ?_, fun _ => h1, ?_⟩
  · rw [← hW1]; exact run_enterLoop_outer _ _ _ _ _
  · simp only [resolve, hg]
    simp [go_sem]
  · simp [invoke, go_sem, eg]
  · have hkeep : ∀ {A B : World} {o : Obj} {i : Nat}, Kp A B (fun i => w.heap.size + 2 ≤ i) → i < w.heap.size + 2 → A.heap[i]? = some o → B.heap[i]? = some o := fun h hi e => (h.block _ (Array.getElem?_eq_some_iff.1 e).1 (by omega)).trans e
    refine callsIn_wide.2 ((hseq
      (fun k W => I k W ∧ W.heap[w.heap.size + 1]? = some (.loop (lrec fn a ps assign body w.heap.size .ready none)) ∧ W.heap[w.heap.size]? = some (.deferred (some [])))
      (fun W => Ix W ∧ W.heap[w.heap.size + 1]? = some (.loop (lrec fn a ps assign body w.heap.size .done (some .ret))) ∧ W.heap[w.heap.size]? = some (.deferred (some [])))
      W1 kW (by omega)
      (fun k A B h hk => ⟨hI k A B h.1 (hk.mono (fun i _ e => by show w.heap.size ≤ i; have e' : w.heap.size + 2 ≤ i := e; omega)), hkeep hk (by omega) h.2.1, hkeep hk (by omega) h.2.2⟩)
      (fun A B h hk => ⟨hIx A B h.1 (hk.mono (fun i _ e => by show w.heap.size ≤ i; have e' : w.heap.size + 2 ≤ i := e; omega)), hkeep hk (by omega) h.2.1, hkeep hk (by omega) h.2.2⟩)
      (fun m k x W hkN htx h => by
        obtain ⟨fn', tms, asg, bo, y1, y2⟩ := round_told (n := n) (P := P) hfn hps T S hS I Ix hI hIx hround k x W hkN htx h.1 h.2.1 h.2.2
        exact ⟨fn', tms, asg, bo, y1, roundIn_any y2⟩)
      ⟨hI 0 w W1 h0 kW.of_nul, l1, k1⟩).mono ?_)
    rintro e W2 ⟨⟨v, rfl⟩, (⟨hi, hl, hk⟩ | ⟨hi, hl, hk⟩)⟩
    · exact ⟨none, _, run_endLoop (P := P) hl (by simp [lrec]), hdone _ _ (Nat.le_refl _) (hI _ _ _ hi (putObj_self.mono (fun i _ e => by show w.heap.size ≤ i; omega))) ((World.putObj_heap_other (by omega)).trans hk)⟩
    · exact ⟨some .ret, _, run_endLoop (P := P) hl (by simp [lrec]), hstop _ _ (Nat.le_refl _) (hIx _ _ hi (putObj_self.mono (fun i _ e => by show w.heap.size ≤ i; omega))) ((World.putObj_heap_other (by omega)).trans hk)⟩
end
set_option maxRecDepth 100000 in
set_option maxHeartbeats 8000000 in
theorem goOver_pre (l NN : Nat) (S : Nat → Prop) (PL : List Hd) (J : Nat → World → Prop) (Jx : World → Prop) (n₀ : Nat) (hS : ∀ i, S i → i < n₀) (hJ : ∀ k W W', J k W → Kp W W' Nul → J k W') (hJx : ∀ W W', Jx W → Kp W W' Nul → Jx W')
    (hY : ∀ m k (x : Hd) sl W1, k < NN → PL[k]? = some x → sl.oneCell' = true → J k W1 → YieldAt Fence.wide m Tryz.prog l #[x.val sl] W1 fun e W' => (e = .returned (.bool true) ∧ J (k + 1) W' ∧ Kp W1 W' S) ∨ (e = .returned (.bool false) ∧ Jx W'))
    (F : Nat → Prop) (hF : ∀ b, F b → ¬ S b) (N : Nat) : ∀ (t : Nd) (sl : Value) (k : Nat) (W : World), t.size ≤ N → k + t.size ≤ NN → PreAt PL k t → n₀ ≤ W.heap.size → NdIn W F sl t → J k W →
    Calls Tryz.prog 82 #[t.hd.val sl, .func (.yield l) #[] #[]] W fun e W' => (e = .returned (.bool true) ∧ J (k + t.size) W' ∧ Kp W W' S) ∨ (e = .returned (.bool false) ∧ Jx W') := by
  induction N with
  | zero => intro t sl k W h; have := size_pos t; omega
  | succ N ih =>
    intro t sl k W hN hNN hpre hW hin hj
    obtain ⟨hd, ts⟩ := t
    have hp0 : PL[k]? = some hd := hpre.head
    have HPR : Hid (PreAt PL k (.mk hd ts)) := hpre
    clear hpre
    rw [NdIn] at hin
    obtain ⟨a, c, rfl, h2, h3, h4⟩ := hin
    have hsz : Hid ((Nd.mk hd ts).size = 1 + sizeL ts) := by show _ = _; rw [Nd.size]
    have HN : Hid ((Nd.mk hd ts).size ≤ N + 1) := hN
    have HNN : Hid (k + (Nd.mk hd ts).size ≤ NN) := hNN
    have hkNN : k < NN := by have := size_pos (Nd.mk hd ts); omega
    have IH : Hid (∀ (t : Nd) (sl : Value) (k : Nat) (W : World), t.size ≤ N → k + t.size ≤ NN → PreAt PL k t → n₀ ≤ W.heap.size → NdIn W F sl t → J k W →
      Calls Tryz.prog 82 #[t.hd.val sl, .func (.yield l) #[] #[]] W fun e W' => (e = .returned (.bool true) ∧ J (k + t.size) W' ∧ Kp W W' S) ∨ (e = .returned (.bool false) ∧ Jx W')) := ih
    have HS : Hid (∀ i, S i → i < n₀) := hS
    have HJ : Hid (∀ k W W', J k W → Kp W W' Nul → J k W') := hJ
    have HJx : Hid (∀ W W', Jx W → Kp W W' Nul → Jx W') := hJx
    have HF : Hid (∀ b, F b → ¬ S b) := hF
    have HW : Hid (n₀ ≤ W.heap.size) := hW
    have hlen : ts.length ≤ 9223372036854775807 := by unfold maxLen at h3; omega
    have H4 : Hid ((ts = [] ∧ (c = 0 ∨ a ≠ none)) ∨ ∃ b o, a = some ⟨b, o, none⟩ ∧ F b ∧ NdsIn W F b o ts) := h4
    clear ih hN hNN hS hJ hJx hF hW h4 h2 h3
    generalize hn : ts.length = n at *
    have HL : Hid (ts.length = n) := hn
    have HLEN : Hid (n ≤ 9223372036854775807) := hlen
    clear hn hlen
    generalize hSS : (Nd.mk hd ts).size = SZ at *
    simp only [Nd.hd]
    obtain ⟨W0, hW0⟩ : ∃ W0, W.alloc (.cells #[.int .i64 hd.k, .int .i64 hd.o, .float .f64 hd.x, .string hd.s, .bool hd.b, .int .i64 hd.f, .int .i64 hd.c1, .int .i64 hd.r1, .bool hd.p1, .bool hd.q1, .int .i64 hd.c2, .int .i64 hd.r2, .bool hd.p2, .bool hd.q2, .slice a n c] 49) = W0 := ⟨_, rfl⟩
    have K0 : Kp W W0 Nul := by rw [← hW0]; exact (Kp.refl W Nul).alloc _
    have B0 : Blk W0 W.heap.size (hd.cells (.slice a n c)) 49 := by rw [← hW0]; exact Blk.new W (hd.cells (.slice a n c)) _
    obtain ⟨fn, tms, asg, bod, hy, hR⟩ := hY 7 k hd (.slice a n c) W0 hkNN hp0 rfl (HJ.out k W W0 hj K0)
    have HY : Hid (RoundIn Fence.wide 7 Tryz.prog l fn tms asg bod W0 _) := hR
    have HB0 : Hid (Blk W0 W.heap.size (hd.cells (.slice a n c)) 49) := B0
    have HK0 : Hid (Kp W W0 Nul) := K0
    have HW0 : Hid (W.alloc (.cells #[.int .i64 hd.k, .int .i64 hd.o, .float .f64 hd.x, .string hd.s, .bool hd.b, .int .i64 hd.f, .int .i64 hd.c1, .int .i64 hd.r1, .bool hd.p1, .bool hd.q1, .int .i64 hd.c2, .int .i64 hd.r2, .bool hd.p2, .bool hd.q2, .slice a n c] 49) = W0) := hW0
    have HR0 : Hid ((W.alloc (.cells #[.int .i64 hd.k, .int .i64 hd.o, .float .f64 hd.x, .string hd.s, .bool hd.b, .int .i64 hd.f, .int .i64 hd.c1, .int .i64 hd.r1, .bool hd.p1, .bool hd.q1, .int .i64 hd.c2, .int .i64 hd.r2, .bool hd.p2, .bool hd.q2, .slice a n c] 49)).rangeAt W.heap.size 0 (hd.cells (.slice a n c))) := by
      show World.rangeAt _ _ _ _
      rw [hW0]
      intro j v hj
      rw [cell_of_row W0 _ _ _ _ _ B0, Nat.zero_add]
      simpa using hj
    clear hR hW0 K0 B0 hj hY hkNN hp0
    refine (callsIn_wide (n := 8)).1 ?_
    refine callsIn_of_wp Tryz.func82 rfl trivial ?_ rfl
    simp only [Tryz.ntmps82, List.size_toArray, List.length_cons, List.length_nil, Nat.reduceAdd, Nat.reduceSub, Array.replicate_succ, Array.replicate_zero, List.push_toArray, List.append_toArray, List.nil_append, List.cons_append]
    gi_wp2_with (first | (refine loadIn_node rfl (.tmp 2) rfl W.heap.size 0 rfl (hd.cells (.slice a n c)) HR0.out rfl ?_) | fail)
    rw [HW0.out]
    have hy' : Sem.run Tryz.prog (Instr.yield l #[Value.agg (hd.cells (.slice a n c)).toArray]) W0 = _ := hy
    rw [hy', Oper.uponIn_round]
    clear hy hy' HR0
    refine ⟨fun _ => by decide, HY.out.mono ?_⟩
    clear HY
    rintro e w1 (⟨rfl, hj1, hk1⟩ | ⟨rfl, hx1⟩)
    case inr =>
      have HX1 : Hid (Jx w1) := hx1
      clear hx1
      gi_wp2_with (fail)
      refine bodyPost_ret (results_tmp rfl _ _ _) rfl ?_
      exact .inr ⟨rfl, HX1.out⟩
    have HJ1 : Hid (J (k + 1) w1) := hj1
    have HK1 : Hid (Kp W0 w1 S) := hk1
    have HWlt : Hid (n₀ ≤ w1.heap.size) := Nat.le_trans HW.out (Nat.le_trans HK0.out.size hk1.size)
    have HB1 : Hid (Blk w1 W.heap.size (hd.cells (.slice a n c)) 49) := HB0.out.kp hk1 (fun h => by have := HS.out _ h; have := HW.out; omega)
    have HKW : Hid (Kp W w1 S) := HK0.out.of_nul.trans hk1
    have c14 : w1.cell? ⟨W.heap.size, 14, none⟩ = some (.slice a n c) := HB1.out.cell rfl
    clear hj1 hk1
    gi_wp2_with (fail)
    clear c14
    gi_loopw [14] (fun i wr => ∃ q : Nat, q ≤ n ∧ i = .int .i64 q ∧ J (k + 1 + sizeL (ts.take q)) wr ∧ Kp w1 wr S) (fun i _ => n - (intOf i).toNat)
    case atStart => exact ⟨0, Nat.zero_le _, rfl, by simpa [sizeL] using HJ1.out, Kp.refl _ _⟩
    case round =>
      obtain ⟨q, hq, rfl, hjq, hkq⟩ := hrel
      have JQ : Hid (J (k + 1 + sizeL (ts.take q)) wr) := hjq
      have KQ : Hid (Kp w1 wr S) := hkq
      clear hjq hkq
      by_cases hlt : q < n
      · have hqt : q < ts.length := by rw [HL.out]; exact hlt
        obtain ⟨b, o, rfl, hFb, hns⟩ : ∃ b o, a = some ⟨b, o, none⟩ ∧ F b ∧ NdsIn W F b o ts := by
          rcases H4.out with h | h
          · rw [h.1] at hqt; simp at hqt
          · exact h
        obtain ⟨s1, hr, hni⟩ := hns.get q hqt
        have hkw : Kp W wr S := HKW.out.trans KQ.out
        have HR : Hid (wr.rangeAt b (o + q * 15) ((ts[q]).hd.cells s1)) := rangeAt_block hr (hkw.block b (rangeAt_lt hr) (HF.out b hFb))
        have hni' := hni.kp hkw HF.out
        have O1 : Hid (s1.oneCell' = true) := hni.one
        have hs1 := size_get ts q hqt
        have hs2 := sizeL_take ts q hqt
        have hs3 := sizeL_take_le ts (q + 1)
        have HC : Hid (∀ wq, Kp wr wq Nul → Calls Tryz.prog 82 #[(ts[q]).hd.val s1, .func (.yield l) #[] #[]] wq fun e W' => (e = .returned (.bool true) ∧ J (k + 1 + sizeL (ts.take q) + (ts[q]).size) W' ∧ Kp wq W' S) ∨ (e = .returned (.bool false) ∧ Jx W')) := fun wq hq => IH.out ts[q] s1 _ wq (by have := HN.out; have := hsz.out; omega) (by have := HNN.out; have := hsz.out; omega) (HPR.out.get q hqt) (Nat.le_trans HWlt.out (Nat.le_trans KQ.out.size hq.size)) (hni'.kp hq (fun _ _ x => x)) (HJ.out _ _ _ JQ.out hq)
        have hA : Hid (sizeL (ts.take (q + 1)) = sizeL (ts.take q) + (ts[q]).size) := sizeL_take ts q hqt
        clear hs1 hs2 hs3 hni hni' hr hns hkw
        generalize (ts[q]).size = z at *
        generalize (ts[q]).hd = hh at *
        have hkb : (q : Int) + 1 ≤ 9223372036854775807 := by have := HLEN.out; omega
        have hq0 : (0 : Int) ≤ (q : Int) := by omega
        have hqn : (q : Int) < (n : Int) := by omega
        have HRn : Hid ((wr.alloc (.cells (hh.cells s1).toArray 49)).rangeAt wr.heap.size 0 (hh.cells s1)) := by
          show World.rangeAt _ _ _ _
          intro j v hj
          rw [cell_of_row _ _ _ _ _ _ (heap_alloc_new _ _), Nat.zero_add]
          simpa using hj
        gi_wp2_with (first | (refine loadIn_node rfl (.tmp 16) rfl b (o + q * 15) rfl (hh.cells s1) HR.out rfl ?_) | (refine storeIn_new rfl (.tmp 6) (.tmp 17) rfl _ _ _ _ (by first | rfl | simp) rfl rfl rfl rfl (hh.one O1.out) ?_) | (refine loadIn_node rfl (.tmp 6) rfl wr.heap.size 0 rfl (hh.cells s1) HRn.out rfl ?_) | fail)
        refine ⟨trivial, (callsIn_wide.2 (HC.out _ ((Kp.refl _ _).alloc _))).mono ?_⟩
        rintro e w2 (⟨rfl, hj2, hk2⟩ | ⟨rfl, hx2⟩)
        · have HJ2 : Hid (J (k + 1 + sizeL (ts.take (q + 1))) w2) := by show J _ _; rw [hA.out, ← Nat.add_assoc]; exact hj2
          have HK2 : Hid (Kp w1 w2 S) := (KQ.out.alloc _).trans hk2
          clear hj2 hk2 HC HR HRn
          gi_wp2_with (fail)
          exact ⟨⟨q + 1, by omega, by go_num, HJ2.out, HK2.out⟩, by simp only [intOf]; omega⟩
        · have HX2 : Hid (Jx w2) := hx2
          clear hx2 HC HR HRn
          gi_wp2_with (fail)
          refine bodyPost_ret (results_tmp rfl _ _ _) rfl ?_
          exact .inr ⟨rfl, HX2.out⟩
      · have hqe : q = n := by omega
        subst hqe
        have hqn : ¬ ((q : Int) < (q : Int)) := by omega
        have JE : Hid (J (k + SZ) wr) := by
          have := JQ.out
          rw [← HL.out, List.take_length] at this
          show J _ _
          rw [hsz.out, ← Nat.add_assoc]; exact this
        gi_wp2_with (fail)
        refine bodyPost_ret (results_tmp rfl _ _ _) rfl ?_
        exact .inl ⟨rfl, JE.out, HKW.out.trans KQ.out⟩
set_option maxRecDepth 100000 in
set_option maxHeartbeats 8000000 in
theorem each1_pre (l NN : Nat) (S : Nat → Prop) (PL : List Hd) (J : Nat → World → Prop) (Jx : World → Prop) (n₀ : Nat) (hS : ∀ i, S i → i < n₀) (hJ : ∀ k W W', J k W → Kp W W' Nul → J k W') (hJx : ∀ W W', Jx W → Kp W W' Nul → Jx W')
    (hY : ∀ m k (x : Hd) sl W1, k < NN → PL[k]? = some x → sl.oneCell' = true → J k W1 → YieldAt Fence.wide m Tryz.prog l #[x.val sl] W1 fun e W' => (e = .returned (.bool true) ∧ J (k + 1) W' ∧ Kp W1 W' S) ∨ (e = .returned (.bool false) ∧ Jx W'))
    (F : Nat → Prop) (hF : ∀ b, F b → ¬ S b) (t : Nd) (sl : Value) (k nb : Nat) (W : World) (hNN : k + t.size ≤ NN) (hpre : PreAt PL k t) (hW : n₀ ≤ W.heap.size) (hin : NdIn W F sl t) (hj : J k W) (hb : Blk W nb (t.hd.cells sl) 49) :
    Calls Tryz.prog 81 #[.func (.yield l) #[] #[], .pointer (some ⟨nb, 0, none⟩)] W fun e W' => (∃ v, e = .returned v) ∧ (J (k + t.size) W' ∨ Jx W') := by
  have HC : Hid (Calls Tryz.prog 82 #[t.hd.val sl, .func (.yield l) #[] #[]] W fun e W' => (e = .returned (.bool true) ∧ J (k + t.size) W' ∧ Kp W W' S) ∨ (e = .returned (.bool false) ∧ Jx W')) := goOver_pre l NN S PL J Jx n₀ hS hJ hJx hY F hF t.size t sl k W (Nat.le_refl _) hNN hpre hW hin hj
  have HB : Hid (W.heap[nb]? = some (.cells (t.hd.cells sl).toArray 49 (0, 0))) := hb
  clear hS hJ hJx hY hF hW hin hj hb hNN hpre
  generalize t.size = z at *
  generalize t.hd = h at *
  go_enter Tryz.func81, Tryz.ntmps81
  go_wp2_with (first | (refine load_node_law rfl (.tmp 1) rfl nb rfl (h.cells sl).toArray HB.out rfl ?_) | fail)
  refine HC.out.mono ?_
  rintro e w1 (⟨rfl, hj1, _⟩ | ⟨rfl, hx1⟩)
  · have HJ1 : Hid (J (k + z) w1) := hj1
    clear hj1
    go_wp2_with fail
    go_end0
    exact ⟨⟨_, rfl⟩, .inl HJ1.out⟩
  · have HJ1 : Hid (Jx w1) := hx1
    clear hx1
    go_wp2_with fail
    go_end0
    exact ⟨⟨_, rfl⟩, .inr HJ1.out⟩
end Go.Proofs.YtdaoingmiabbcaaGreatDoor
namespace Go.Proofs.YtdaoingmiabbcaaGreatDoor
open Go.RowKit Go.Shelf
attribute [local go_sem] Oper.semAt_some

section
variable {n : Nat} {P : Program} {α : Type} {g : Operand} {ps : Array Tmp} {assign body : Code} {Q : Exit → Act → World → Prop} {a : Act} {w : World}
/-- One round. -/
theorem round_in {encs : α → Array Value} {fn : FuncId} {N d : Nat} (hfn : Fence.wide.fn fn) (hps : ∀ x, (encs x).size = ps.size) (T : Nat → α → Prop) (S : Nat → Prop) (hS : ∀ i, S i → i < w.heap.size)
    (I : Nat → World → Prop) (Ix : World → Prop) (hI : ∀ k W W', I k W → Kp W W' (fun i => w.heap.size ≤ i) → I k W') (hIx : ∀ W W', Ix W → Kp W W' (fun i => w.heap.size ≤ i) → Ix W')
    (hround : ∀ (k : Nat) (x : α) (W : World) (K : Act → World → Prop), w.heap.size + 1 ≤ W.heap.size → k < N → T k x → I k W → (∀ a' W', Kp W W' Nul → (∀ V, Kp W' V (fun i => i = w.heap.size) → body.wpIn (Fence.wide.inRound w.heap.size) (n - 1 - 1) P (fun e _ X => (e = .normal ∧ Kp V X (fun i => S i ∨ W.heap.size ≤ i) ∧ I (k + 1) X) ∨ (e = .ret ∧ Kp V X (fun i => S i ∨ W.heap.size ≤ i) ∧ Ix X)) a' V) → K a' W') →
      assign.wpIn (Fence.wide.inRound w.heap.size) (n - 1 - 1) P (Exit.then K (fun _ _ _ => False)) { tmps := (ps.zip (encs x)).foldl (fun t (p, v) => t.setIfInBounds p v) a.tmps, defers := [] } W)
    (k : Nat) (x : α) (W : World) (hkN : k < N) (htx : T k x) (hi : I k W) (hl : W.heap[w.heap.size]? = some (.loop (lrec fn a ps assign body d .ready none))) :
    YieldAt Fence.wide (n - 1 - 1) P w.heap.size (encs x) W fun e W' =>
      (e = .returned (.bool true) ∧ (I (k + 1) W' ∧ W'.heap[w.heap.size]? = some (.loop (lrec fn a ps assign body d .ready none))) ∧ Kp W W' (fun i => S i ∨ i = w.heap.size)) ∨
      (e = .returned (.bool false) ∧ (Ix W' ∧ W'.heap[w.heap.size]? = some (.loop (lrec fn a ps assign body d .done (some .ret)))) ∧ Kp W W' (fun i => S i ∨ i = w.heap.size)) := by
  have hy := run_yield (P := P) (args := encs x) hl (hps x)
  refine ⟨fn, _, assign, body, hy, roundIn_of_wpIn hfn (hround k x W _ (Array.getElem?_eq_some_iff.1 hl).1 hkN htx hi ?_)⟩
  clear hy
  intro a' V hkp hbody
  have hWl : w.heap.size < W.heap.size := (Array.getElem?_eq_some_iff.1 hl).1
  have vl := (hkp.block _ hWl (fun x => x)).trans hl
  have hlt : w.heap.size < V.heap.size := (Array.getElem?_eq_some_iff.1 vl).1
  refine ⟨_, run_beginRound vl rfl, ?_⟩
  obtain ⟨bz, hbz⟩ : ∃ bz : Loop, { lrec fn a ps assign body d .ready none with state := .busy } = bz := ⟨_, rfl⟩
  obtain ⟨U, hU⟩ : ∃ U, V.putObj w.heap.size (.loop bz) = U := ⟨_, rfl⟩
  rw [hbz, hU]
  have ul : U.heap[w.heap.size]? = some (.loop bz) := by rw [← hU]; exact World.putObj_heap_same hlt
  have hVU : Kp V U (fun i => i = w.heap.size) := by rw [← hU]; exact putObj_self
  refine wpIn_mono (hbody U hVU) ?_
  have leave : ∀ (jump : Option Code) (X : World), Kp U X (fun i => S i ∨ W.heap.size ≤ i) →
      (Instr.endRound w.heap.size jump).run P X = .ok (.bool jump.isNone) (X.putObj w.heap.size (.loop (lrec fn a ps assign body d (if jump.isNone then .ready else .done) jump))) ∧
      (X.putObj w.heap.size (.loop (lrec fn a ps assign body d (if jump.isNone then .ready else .done) jump))).heap[w.heap.size]? = some (.loop (lrec fn a ps assign body d (if jump.isNone then .ready else .done) jump)) ∧
      Kp X (X.putObj w.heap.size (.loop (lrec fn a ps assign body d (if jump.isNone then .ready else .done) jump))) (fun i => i = w.heap.size) := by
    intro jump X hX
    have hUl : w.heap.size < U.heap.size := (Array.getElem?_eq_some_iff.1 ul).1
    have xl := (hX.block _ hUl (fun h => by rcases h with h | h; have := hS _ h; omega; omega)).trans ul
    refine ⟨?_, World.putObj_heap_same (Array.getElem?_eq_some_iff.1 xl).1, putObj_self⟩
    have := run_endRound (P := P) jump xl
    rw [← hbz] at this
    exact this
  rintro e a3 X hp
  rcases hp with ⟨rfl, q1, q2⟩ | ⟨rfl, q1, q2⟩
  · obtain ⟨r1, r2, r4⟩ := leave none X q1
    refine ⟨_, _, r1, .inl ⟨rfl, ⟨hI _ _ _ q2 (r4.mono (fun i _ e => by show w.heap.size ≤ i; omega)), r2⟩, ?_⟩⟩
    exact ((hkp.of_nul.trans (hVU.mono (fun i _ e => .inr e))).trans' q1 (fun i hi e => by rcases e with e | e; exact .inl e; omega)).trans (r4.mono (fun i _ e => .inr e))
  · obtain ⟨r1, r2, r4⟩ := leave (some .ret) X q1
    refine ⟨_, _, r1, .inr ⟨rfl, ⟨hIx _ _ q2 (r4.mono (fun i _ e => by show w.heap.size ≤ i; omega)), r2⟩, ?_⟩⟩
    exact ((hkp.of_nul.trans (hVU.mono (fun i _ e => .inr e))).trans' q1 (fun i hi e => by rcases e with e | e; exact .inl e; omega)).trans (r4.mono (fun i _ e => .inr e))
/-- The caller's law. -/
theorem wpIn_range_in {l₀ : Nat} {r₀ : Loop} (hl0 : w.heap[l₀]? = some (.loop r₀)) (h1 : 1 ≤ n) {gf : Nat} {lb : Array Value} (hg : a.eval g = .func (.func gf) #[] lb) (eg : ∀ args w, (callFunc gf args).run P w = .ok (.enter gf args) w)
    {encs : α → Array Value} (hps : ∀ x, (encs x).size = ps.size) (T : Nat → α → Prop) (S : Nat → Prop) (hS : ∀ i, S i → i < w.heap.size) {N : Nat}
    (hseq : ∀ (J : Nat → World → Prop) (Jx : World → Prop) (W : World), Kp w W Nul → w.heap.size + 1 ≤ W.heap.size → (∀ k W W', J k W → Kp W W' (fun i => w.heap.size + 1 ≤ i) → J k W') → (∀ W W', Jx W → Kp W W' (fun i => w.heap.size + 1 ≤ i) → Jx W') →
      (∀ m k x W1, k < N → T k x → J k W1 → YieldAt Fence.wide m P w.heap.size (encs x) W1 fun e W' => (e = .returned (.bool true) ∧ J (k + 1) W' ∧ Kp W1 W' (fun i => S i ∨ i = w.heap.size)) ∨ (e = .returned (.bool false) ∧ Jx W' ∧ Kp W1 W' (fun i => S i ∨ i = w.heap.size))) → J 0 W →
      Calls P gf (#[.func (.yield w.heap.size) #[] #[]] ++ lb) W fun e W' => (∃ v, e = .returned v) ∧ (J N W' ∨ Jx W'))
    (I : Nat → World → Prop) (Ix : World → Prop) (hI : ∀ k W W', I k W → Kp W W' (fun i => w.heap.size ≤ i) → I k W') (hIx : ∀ W W', Ix W → Kp W W' (fun i => w.heap.size ≤ i) → Ix W') (h0 : I 0 w)
    (hround : ∀ (k : Nat) (x : α) (W : World) (K : Act → World → Prop), w.heap.size + 1 ≤ W.heap.size → k < N → T k x → I k W → (∀ a' W', Kp W W' Nul → (∀ V, Kp W' V (fun i => i = w.heap.size) → body.wpIn (Fence.wide.inRound w.heap.size) (n - 1 - 1) P (fun e _ X => (e = .normal ∧ Kp V X (fun i => S i ∨ W.heap.size ≤ i) ∧ I (k + 1) X) ∨ (e = .ret ∧ Kp V X (fun i => S i ∨ W.heap.size ≤ i) ∧ Ix X)) a' V) → K a' W') →
      assign.wpIn (Fence.wide.inRound w.heap.size) (n - 1 - 1) P (Exit.then K (fun _ _ _ => False)) { tmps := (ps.zip (encs x)).foldl (fun t (p, v) => t.setIfInBounds p v) a.tmps, defers := [] } W)
    (hdone : ∀ W, I N W → Q .normal a W) (hstop : ∀ W, Ix W → Code.ret.wpIn (Fence.wide.inRound l₀) n P Q a W) :
    (Code.rangeFunc g ps assign body).wpIn (Fence.wide.inRound l₀) n P Q a w := by
  refine wpIn_rangeFunc fun fn hfn => ?_
  obtain ⟨W1, hW1⟩ : ∃ W1, w.alloc (.loop (lrec fn a ps assign body r₀.defers .ready none)) = W1 := ⟨_, rfl⟩
  have l1 : W1.heap[w.heap.size]? = some (.loop (lrec fn a ps assign body r₀.defers .ready none)) := by rw [← hW1]; exact World.alloc_heap_new w _
  have s1 : W1.heap.size = w.heap.size + 1 := by rw [← hW1]; simp
  have kW : Kp w W1 Nul := by rw [← hW1]; exact (Kp.refl w Nul).alloc _
  refine ⟨w.heap.size, [], W1, { target := .fn (.func gf) lb, args := #[.func (.yield w.heap.size) #[] #[]] }, W1, gf, #[.func (.yield w.heap.size) #[] #[]] ++ lb, W1, ?_, ?_, fun f' _ => trivial, ?_, fun _ => h1, ?_⟩
  · rw [← hW1]; exact run_enterLoop_inner hl0 _ _ _ _ _
  · simp only [resolve, hg]
    simp [go_sem]
  · simp [invoke, go_sem, eg]
  · have hkeep : ∀ {A B : World} {o : Obj} {i : Nat}, Kp A B (fun i => w.heap.size + 1 ≤ i) → i < w.heap.size + 1 → A.heap[i]? = some o → B.heap[i]? = some o := fun h hi e => (h.block _ (Array.getElem?_eq_some_iff.1 e).1 (by omega)).trans e
    refine CallsIn.inRound l₀ (callsIn_wide.2 ((hseq
      (fun k W => I k W ∧ W.heap[w.heap.size]? = some (.loop (lrec fn a ps assign body r₀.defers .ready none)))
      (fun W => Ix W ∧ W.heap[w.heap.size]? = some (.loop (lrec fn a ps assign body r₀.defers .done (some .ret))))
      W1 kW (by omega)
      (fun k A B h hk => ⟨hI k A B h.1 (hk.mono (fun i _ e => by show w.heap.size ≤ i; have e' : w.heap.size + 1 ≤ i := e; omega)), hkeep hk (by omega) h.2⟩)
      (fun A B h hk => ⟨hIx A B h.1 (hk.mono (fun i _ e => by show w.heap.size ≤ i; have e' : w.heap.size + 1 ≤ i := e; omega)), hkeep hk (by omega) h.2⟩)
      (fun m k x W hkN htx h => by
        obtain ⟨fn', tms, asg, bo, y1, y2⟩ := round_in (n := n) (P := P) (d := r₀.defers) hfn hps T S hS I Ix hI hIx hround k x W hkN htx h.1 h.2
        exact ⟨fn', tms, asg, bo, y1, roundIn_any y2⟩)
      ⟨hI 0 w W1 h0 kW.of_nul, l1⟩).mono ?_))
    rintro e W2 ⟨⟨v, rfl⟩, (⟨hi, hl⟩ | ⟨hi, hl⟩)⟩
    · exact ⟨none, _, run_endLoop (P := P) hl (by simp [lrec]), hdone _ (hI _ _ _ hi (putObj_self.mono (fun i _ e => by show w.heap.size ≤ i; omega)))⟩
    · exact ⟨some .ret, _, run_endLoop (P := P) hl (by simp [lrec]), hstop _ (hIx _ _ hi (putObj_self.mono (fun i _ e => by show w.heap.size ≤ i; omega)))⟩
end
end Go.Proofs.YtdaoingmiabbcaaGreatDoor
