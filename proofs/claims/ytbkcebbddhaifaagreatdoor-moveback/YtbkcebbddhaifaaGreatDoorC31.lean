/- What copying leaves: validity, sameness. No function of the program here. Move: what becomes of references, of formulas, of cells. No function of the program here. Move: the fates of lines and of an area that is moved. No function of the program here. Move: ofLines. -/
import Derived.Test.YtbkcebbddhaifaaGreatDoorC23
import Derived.Test.YtbkcebbddhaifaaGreatDoorC29
import Derived.Test.YtbkcebbddhaifaaGreatDoorC24
import Derived.Test.YtbkcebbddhaifaaGreatDoorC32
namespace Go.Proofs.YtbkcebbddhaifaaGreatDoor
open Go.RowKit

theorem plainX_one (x : Nat) : plainX (one x) = plainX x := by
  by_cases h : 9218868437227405312 < mag x
  · have h1 : one x = 9221120237041090560 := by unfold one; rw [if_pos h]
    have hc : cls x = 1 := by unfold cls; rw [if_pos h]
    have e1 : plainX x = false := by unfold plainX; rw [hc]; rfl
    have e2 : plainX 9221120237041090560 = false := by decide +kernel
    rw [h1, e1, e2]
  · have h1 : one x = x := by unfold one; rw [if_neg h]
    rw [h1]
theorem fsame_one (x y : Nat) : fsame (one x) (one y) = fsame x y := by unfold fsame; rw [one_self, one_self]
theorem fsame_one1 (x y : Nat) : fsame (one x) y = fsame x y := by unfold fsame; rw [one_self]
theorem one_zero (x : Nat) : (((one x : Nat) : Int) == 0) = ((x : Int) == 0) := by
  unfold one
  split
  · rename_i h
    have hx : x ≠ 0 := fun e => by subst e; revert h; decide +kernel
    have h1 : ((x : Int) == 0) = false := by simpa using hx
    rw [h1]; rfl
  · rfl
theorem hsame_one (h g : Hd) : hsame { h with x := one h.x } g = hsame h g := by
  unfold hsame
  simp only [fsame_one1]
theorem wmJ_one (h : Hd) : hsame { h with x := one h.x } (wmJ { h with x := one h.x }) = hsame h (wmJ h) := by
  rw [hsame_one]
  unfold wmJ
  simp only
  by_cases k1 : h.k = 1
  · simp only [k1, if_true]
    unfold hsame
    simp only [fsame, one_self]
  · simp only [k1, if_false]
theorem wm_one (h : Hd) (n : Nat) : wm { h with x := one h.x } n = wm h n := by
  unfold wm
  simp only [wmJ_one, plainX_one]
theorem ownE_one (h : Hd) (n : Nat) (c : Bool) : ownE { h with x := one h.x } n c = ownE h n c := by
  unfold ownE
  simp only [wm_one]
mutual
theorem fe_cpy : ∀ (t : Nd) (c : Bool), (cpy t).fe c = t.fe c
  | .mk h ts, c => by
    rw [cpy, Nd.fe, Nd.fe, cpyL_len, ownE_one, feL_cpy ts]
theorem feL_cpy : ∀ (ts : List Nd) (c : Bool), feL (cpyL ts) c = feL ts c
  | [], c => by rw [cpyL]
  | t :: ts, c => by rw [cpyL, feL, feL, fe_cpy t c, feL_cpy ts c]
end
mutual
theorem dep_cpy : ∀ t : Nd, (cpy t).dep = t.dep
  | .mk h ts => by rw [cpy, Nd.dep, Nd.dep, depL_cpy ts]
theorem depL_cpy : ∀ ts : List Nd, depL (cpyL ts) = depL ts
  | [] => by rw [cpyL]
  | t :: ts => by rw [cpyL, depL, depL, dep_cpy t, depL_cpy ts]
end
theorem chk_cpy (t : Nd) : chk (cpy t) = chk t := by unfold chk; rw [cpy_size, dep_cpy, fe_cpy]
mutual
theorem tsame_cpy : ∀ (t u : Nd), tsame (cpy t) u = tsame t u
  | .mk h ts, .mk g us => by rw [cpy, tsame, tsame, hsame_one, lsame_cpy ts us]
theorem lsame_cpy : ∀ (ts us : List Nd), lsame (cpyL ts) us = lsame ts us
  | [], us => by rw [cpyL]
  | t :: ts, [] => by rw [cpyL, lsame, lsame]
  | t :: ts, u :: us => by rw [cpyL, lsame, lsame, tsame_cpy t u, lsame_cpy ts us]
end
theorem bareV_one (v : Vl) : bareV { v with x := one v.x } = bareV v := by
  unfold bareV
  simp only [one_zero]
theorem zeroV_one (v : Vl) : zeroV { v with x := one v.x } = zeroV v := by
  unfold zeroV
  rw [bareV_one]
theorem validV_one (v : Vl) (u : Bool) : validV { v with x := one v.x } u = validV v u := by
  unfold validV
  rw [bareV_one]
/-- A copy is as valid as what was copied. -/
theorem gv_cp (c : Ct) : gv (cpC c) = gv c := by
  unfold gv validC cpC
  simp only [zeroV_one, validV_one, chk_cpy, zeroN, tsame_cpy]
mutual
theorem cpy_self : ∀ t : Nd, cpy (cpy t) = cpy t
  | .mk h ts => by
    rw [cpy, cpy, cpyL_self ts]
    simp only [one_self]
theorem cpyL_self : ∀ ts : List Nd, cpyL (cpyL ts) = cpyL ts
  | [] => by rw [cpyL, cpyL]
  | t :: ts => by rw [cpyL, cpyL, cpy_self t, cpyL_self ts]
end
theorem cpC_self (c : Ct) : cpC (cpC c) = cpC c := by
  unfold cpC
  simp only [one_self, cpy_self]
theorem hsame_refl (h : Hd) : hsame h h = true := by
  unfold hsame
  simp [fsame_self]
mutual
theorem tsame_refl : ∀ t : Nd, tsame t t = true
  | .mk h ts => by rw [tsame, hsame_refl, lsame_refl ts]; rfl
theorem lsame_refl : ∀ ts : List Nd, lsame ts ts = true
  | [] => by rw [lsame]
  | t :: ts => by rw [lsame, tsame_refl t, lsame_refl ts]; rfl
end
theorem csame_refl (a : Ct) : csame a a = true := by
  unfold csame vsame
  simp only [beq_self_eq_true, Bool.true_and, fsame_self, tsame_refl, decide_true]
  repeat' split
  all_goals rfl
/-- What stands in a grid. -/
structure Gd (c : Ct) : Prop where
  val : gv c = true
  k : c.k ≠ 0
  ok : c.t.ok
  x : c.v.x < 18446744073709551616
  size : c.t.size ≤ 1048576
  cp : cpC c = c
theorem Gd.of {c : Ct} (hv : gv c = true) (hk : c.k ≠ 0) (ho : c.t.ok) (hx : c.v.x < 18446744073709551616) (hs : c.t.size ≤ 1048576) : Gd (cpC c) :=
  ⟨by rw [gv_cp]; exact hv, hk, cpy_ok _ ho, one_lt _ hx, by show (cpy c.t).size ≤ _; rw [cpy_size]; exact hs, cpC_self c⟩
end Go.Proofs.YtbkcebbddhaifaaGreatDoor
namespace Go.Proofs.YtbkcebbddhaifaaGreatDoor
open Go.RowKit

/-- Two corners. -/
abbrev Ar4 := (Int × Int) × (Int × Int)
/-- What becomes of an area. -/
abbrev Fate := Ar4 → Option Ar4
def Ar4.ok (a : Ar4) : Bool := vA a.1.1 a.1.2 a.2.1 a.2.2
/-- The area that a node names. -/
def nmA (h : Hd) : Ar4 := ((h.c1, h.r1), if h.k = 6 then (h.c2, h.r2) else (h.c1, h.r1))
/-- What stands for one that is lost. -/
def ndF : Nd := .mk { zHd with k := 4, f := 4 } []
/-- A node with its references at other places. -/
def toH (h : Hd) (a : Ar4) : Hd := if h.k = 6 then { h with c1 := a.1.1, r1 := a.1.2, c2 := a.2.1, r2 := a.2.2 } else { h with c1 := a.1.1, r1 := a.1.2 }
def nmN (f : Fate) (t : Nd) : Nd := match f (nmA t.hd) with
  | none => ndF
  | some a => .mk (toH t.hd a) t.ts
mutual
/-- A formula whose references have gone along. -/
def alN (f : Fate) : Nd → Nd
  | .mk h ts => if h.k = 5 ∨ h.k = 6 then nmN f (.mk h ts) else .mk h (alL f ts)
def alL (f : Fate) : List Nd → List Nd
  | [] => []
  | t :: ts => alN f t :: alL f ts
end
theorem alL_map (f : Fate) : ∀ ts : List Nd, alL f ts = ts.map (alN f)
  | [] => by rw [alL]; rfl
  | t :: ts => by rw [alL, alL_map f ts]; rfl
theorem alL_len (f : Fate) (ts : List Nd) : (alL f ts).length = ts.length := by rw [alL_map, List.length_map]
/-- What a fate must be: areas stay areas, cells stay cells. -/
structure FateOk (f : Fate) : Prop where
  ok : ∀ a b, Ar4.ok a = true → f a = some b → Ar4.ok b = true
  cell : ∀ p b, f (p, p) = some b → b.1 = b.2
theorem wm_len {h : Hd} {n : Nat} (hk : h.k = 5 ∨ h.k = 6) (hw : wm h n = true) : n = 0 := by
  unfold wm at hw
  rcases hk with e | e <;> simp [e] at hw
  · exact hw.1
  · exact hw.1
theorem wm_to {h : Hd} (hk : h.k = 5 ∨ h.k = 6) (a : Ar4) (hw : wm h 0 = true) : wm (toH h a) 0 = true := by
  unfold toH
  rcases hk with e | e
  · rw [if_neg (by omega)]
    unfold wm at hw ⊢
    simp only [e] at hw ⊢
    simp [wmJ, e, hsame] at hw ⊢
    simp [hw]
  · rw [if_pos e]
    unfold wm at hw ⊢
    simp only [e] at hw ⊢
    simp [wmJ, e, hsame] at hw ⊢
    simp [hw]
theorem toH_k (h : Hd) (a : Ar4) : (toH h a).k = h.k := by unfold toH; split <;> rfl
theorem toH_x (h : Hd) (a : Ar4) : (toH h a).x = h.x := by unfold toH; split <;> rfl
theorem ndF_fe (c : Bool) : ndF.fe c = 0 := by
  unfold ndF
  rw [Nd.fe, feL]
  have : ownE { zHd with k := 4, f := 4 } 0 c = 0 := by
    unfold ownE
    have hw : wm { zHd with k := 4, f := 4 } 0 = true := by
      unfold wm
      simp [wmJ, hsame, zHd, fsame_self]
    simp [hw]
  simp [this]
theorem nmN_fe {f : Fate} (hf : FateOk f) {h : Hd} {ts : List Nd} (hk : h.k = 5 ∨ h.k = 6) {c : Bool} (h0 : (Nd.mk h ts).fe c = 0) : (nmN f (.mk h ts)).fe c = 0 := by
  rw [Nd.fe] at h0
  by_cases ho : ownE h ts.length c = 0
  rotate_left
  · rw [if_pos ho] at h0; exact absurd h0 ho
  have hw : wm h ts.length = true := by
    cases q : wm h ts.length with
    | true => rfl
    | false => unfold ownE at ho; rw [if_pos q] at ho; omega
  have hl := wm_len hk hw
  have hts : ts = [] := List.length_eq_zero_iff.1 hl
  subst hts
  have hv : Ar4.ok (nmA h) = true := by
    unfold ownE at ho
    rw [if_neg (by rw [hw]; decide)] at ho
    unfold Ar4.ok nmA
    rcases hk with e | e
    · rw [if_pos e] at ho
      simp only [if_neg (show ¬ h.k = 6 by omega)]
      split at ho
      · assumption
      · omega
    · rw [if_neg (show ¬ h.k = 5 by omega), if_pos e] at ho
      simp only [if_pos e]
      split at ho
      · assumption
      · omega
  unfold nmN
  cases q : f (nmA (Nd.mk h []).hd) with
  | none => exact ndF_fe c
  | some b =>
    have hb := hf.ok _ b hv q
    show (Nd.mk (toH h b) []).fe c = 0
    rw [Nd.fe, feL]
    have ho' : ownE (toH h b) 0 c = 0 := by
      unfold ownE
      rw [if_neg (by rw [wm_to hk b hw]; decide), toH_k]
      unfold ownE at ho
      rw [if_neg (by rw [hw]; decide)] at ho
      rcases hk with e | e
      · rw [if_pos e]
        have hc : b.1 = b.2 := by
          have q' : f ((h.c1, h.r1), (h.c1, h.r1)) = some b := by
            have : nmA h = ((h.c1, h.r1), (h.c1, h.r1)) := by unfold nmA; rw [if_neg (show ¬ h.k = 6 by omega)]
            rw [← this]; exact q
          exact hf.cell _ _ q'
        unfold Ar4.ok at hb
        rw [← hc] at hb
        have e1 : (toH h b).c1 = b.1.1 := by unfold toH; rw [if_neg (show ¬ h.k = 6 by omega)]
        have e2 : (toH h b).r1 = b.1.2 := by unfold toH; rw [if_neg (show ¬ h.k = 6 by omega)]
        rw [e1, e2, if_pos hb]
      · rw [if_neg (show ¬ h.k = 5 by omega), if_pos e]
        rw [if_neg (show ¬ h.k = 5 by omega), if_pos e] at ho
        unfold Ar4.ok at hb
        have e1 : (toH h b).c1 = b.1.1 := by unfold toH; rw [if_pos e]
        have e2 : (toH h b).r1 = b.1.2 := by unfold toH; rw [if_pos e]
        have e3 : (toH h b).c2 = b.2.1 := by unfold toH; rw [if_pos e]
        have e4 : (toH h b).r2 = b.2.2 := by unfold toH; rw [if_pos e]
        rw [e1, e2, e3, e4, if_pos hb]
        split at ho
        · exact ho
        · omega
    rw [List.length_nil, if_neg (by rw [ho']; decide)]
mutual
theorem alN_fe {f : Fate} (hf : FateOk f) : ∀ (t : Nd) (c : Bool), t.fe c = 0 → (alN f t).fe c = 0
  | .mk h ts, c, h0 => by
    rw [alN]
    by_cases hk : h.k = 5 ∨ h.k = 6
    · rw [if_pos hk]; exact nmN_fe hf hk h0
    · rw [if_neg hk]
      rw [Nd.fe] at h0 ⊢
      rw [alL_len]
      by_cases ho : ownE h ts.length c = 0
      · rw [if_neg (by rw [ho]; decide)] at h0 ⊢
        exact alL_fe hf ts _ h0
      · rw [if_pos ho] at h0; exact absurd h0 ho
theorem alL_fe {f : Fate} (hf : FateOk f) : ∀ (ts : List Nd) (c : Bool), feL ts c = 0 → feL (alL f ts) c = 0
  | [], c, _ => by rw [alL, feL]
  | t :: ts, c, h0 => by
    rw [feL] at h0
    rw [alL, feL]
    by_cases ht : t.fe c = 0
    · rw [if_neg (by rw [ht]; decide)] at h0
      rw [if_neg (by rw [alN_fe hf t c ht]; decide)]
      exact alL_fe hf ts c h0
    · rw [if_pos ht] at h0; exact absurd h0 ht
end
theorem nmN_size (f : Fate) (t : Nd) : (nmN f t).size ≤ t.size := by
  unfold nmN
  split
  · have := size_pos t
    show ndF.size ≤ _
    unfold ndF
    rw [Nd.size, sizeL]; omega
  · rw [Nd.size]
    conv => rhs; rw [Nd.eta t, Nd.size]
    exact Nat.le_refl _
mutual
theorem alN_size (f : Fate) : ∀ t : Nd, (alN f t).size ≤ t.size
  | .mk h ts => by
    rw [alN]
    split
    · exact nmN_size f _
    · rw [Nd.size, Nd.size]; have := alL_size f ts; omega
theorem alL_size (f : Fate) : ∀ ts : List Nd, sizeL (alL f ts) ≤ sizeL ts
  | [] => by rw [alL]; exact Nat.le_refl _
  | t :: ts => by rw [alL, sizeL, sizeL]; have := alN_size f t; have := alL_size f ts; omega
end
theorem nmN_dep (f : Fate) (t : Nd) : (nmN f t).dep ≤ t.dep := by
  unfold nmN
  split
  · show ndF.dep ≤ _
    unfold ndF
    rw [Nd.dep, depL]
    cases t with
    | mk h ts => rw [Nd.dep]; omega
  · rw [Nd.dep]
    conv => rhs; rw [Nd.eta t, Nd.dep]
    exact Nat.le_refl _
mutual
theorem alN_dep (f : Fate) : ∀ t : Nd, (alN f t).dep ≤ t.dep
  | .mk h ts => by
    rw [alN]
    split
    · exact nmN_dep f _
    · rw [Nd.dep, Nd.dep]; have := alL_dep f ts; omega
theorem alL_dep (f : Fate) : ∀ ts : List Nd, depL (alL f ts) ≤ depL ts
  | [] => by rw [alL]; exact Nat.le_refl _
  | t :: ts => by rw [alL, depL, depL]; have := alN_dep f t; have := alL_dep f ts; omega
end
/-- What may be still may. -/
theorem alN_chk {f : Fate} (hf : FateOk f) {t : Nd} (h : chk t = 0) : chk (alN f t) = 0 := by
  unfold chk at h ⊢
  have h1 := alN_size f t
  have h2 := alN_dep f t
  by_cases a1 : 256 < t.size
  · rw [if_pos a1] at h; omega
  · rw [if_neg a1] at h
    by_cases a2 : 32 < t.dep
    · rw [if_pos a2] at h; omega
    · rw [if_neg a2] at h
      rw [if_neg (by omega), if_neg (by omega)]
      exact alN_fe hf t false h
theorem nmN_ok (f : Fate) {t : Nd} (h : t.ok) : (nmN f t).ok := by
  unfold nmN
  split
  · unfold ndF; rw [Nd.ok, okL]; exact ⟨by show (0 : Nat) < _; decide, trivial⟩
  · rw [Nd.ok, toH_x]
    rw [Nd.eta t, Nd.ok] at h
    exact h
mutual
theorem alN_ok (f : Fate) : ∀ t : Nd, t.ok → (alN f t).ok
  | .mk h ts, hk => by
    rw [alN]
    split
    · exact nmN_ok f hk
    · rw [Nd.ok] at hk ⊢; exact ⟨hk.1, alL_ok f ts hk.2⟩
theorem alL_ok (f : Fate) : ∀ ts : List Nd, okL ts → okL (alL f ts)
  | [], _ => by rw [alL, okL]; trivial
  | t :: ts, h => by rw [okL] at h; rw [alL, okL]; exact ⟨alN_ok f t h.1, alL_ok f ts h.2⟩
end
theorem ndF_cpy : cpy ndF = ndF := by
  unfold ndF
  rw [cpy, cpyL]
  have : one 0 = 0 := by decide
  simp [zHd, this]
theorem toH_one (h : Hd) (a : Ar4) (e : one h.x = h.x) : { toH h a with x := one (toH h a).x } = toH h a := by
  rw [toH_x, e]
  unfold toH
  split <;> rfl
mutual
theorem alN_cpy (f : Fate) : ∀ t : Nd, cpy t = t → cpy (alN f t) = alN f t
  | .mk h ts, e => by
    rw [cpy] at e
    have e1 : { h with x := one h.x } = h := (Nd.mk.injEq .. ▸ e).1
    have e2 : cpyL ts = ts := (Nd.mk.injEq .. ▸ e).2
    have e3 : one h.x = h.x := congrArg Hd.x e1
    rw [alN]
    split
    · unfold nmN
      split
      · exact ndF_cpy
      · rw [cpy]
        show Nd.mk { toH h _ with x := one (toH h _).x } (cpyL ts) = _
        rw [toH_one h _ e3, e2]
        rfl
    · rw [cpy, e1, alL_cpy f ts e2]
theorem alL_cpy (f : Fate) : ∀ ts : List Nd, cpyL ts = ts → cpyL (alL f ts) = alL f ts
  | [], _ => by rw [alL, cpyL]
  | t :: ts, e => by
    rw [cpyL] at e
    rw [alL, cpyL, alN_cpy f t (List.cons.inj e).1, alL_cpy f ts (List.cons.inj e).2]
end
/-- A content whose formula has gone along. -/
def alC (f : Fate) (c : Ct) : Ct := ⟨c.k, c.v, alN f c.t⟩
theorem zeroN_k {t : Nd} (h : zeroN t = true) : t.hd.k = 0 ∧ t.ts = [] := by
  cases t with
  | mk h' ts =>
    unfold zeroN zNd at h
    rw [tsame] at h
    simp only [Bool.and_eq_true] at h
    constructor
    · have := h.1
      unfold hsame at this
      simp [zHd] at this
      exact this.1.1.1.1.1.1.1
    · cases ts with
      | nil => rfl
      | cons _ _ => simp [lsame] at h
theorem alN_zero (f : Fate) {t : Nd} (h : zeroN t = true) : alN f t = t := by
  obtain ⟨h1, h2⟩ := zeroN_k h
  cases t with
  | mk h' ts =>
    have e1 : h'.k = 0 := h1
    have e2 : ts = [] := h2
    subst e2
    rw [alN, if_neg (by omega), alL]
theorem alC_plain (f : Fate) {c : Ct} (h : gv c = true) (hk : c.k ≠ 2) : alC f c = c := by
  have hz : zeroN c.t = true := by
    unfold gv validC at h
    simp [hk] at h
    rcases h with h | h
    · exact h.2.2
    · exact h.2.2
  unfold alC
  rw [alN_zero f hz]
theorem alC_gv {f : Fate} (hf : FateOk f) {c : Ct} (h : gv c = true) : gv (alC f c) = true := by
  by_cases hk : c.k = 2
  · unfold gv validC at h ⊢
    simp [alC, hk] at h ⊢
    exact ⟨h.1, alN_chk hf h.2⟩
  · rw [alC_plain f h hk]; exact h
theorem alC_gd {f : Fate} (hf : FateOk f) {c : Ct} (h : Gd c) : Gd (alC f c) := by
  refine ⟨alC_gv hf h.val, h.k, alN_ok f _ h.ok, h.x, Nat.le_trans (alN_size f _) h.size, ?_⟩
  have hc := h.cp
  unfold cpC at hc
  have e1 := congrArg Ct.v hc
  have e2 := congrArg Ct.t hc
  unfold cpC
  show (⟨c.k, { c.v with x := one c.v.x }, cpy (alN f c.t)⟩ : Ct) = ⟨c.k, c.v, alN f c.t⟩
  rw [alN_cpy f _ e2]
  exact congrArg (fun v => (⟨c.k, v, alN f c.t⟩ : Ct)) e1
/-- A grid's contents that have gone along. -/
def brL (f : Fate) (L : List Cc) : List Cc := L.filterMap fun x => (f (x.1, x.1)).map fun b => (b.1, alC f x.2)
end Go.Proofs.YtbkcebbddhaifaaGreatDoor
namespace Go.Proofs.YtbkcebbddhaifaaGreatDoor
open Go.RowKit

/-- What becomes of an area when lines are put in or taken out. -/
def lnF (cols : Bool) (at' n : Int) : Fate := fun a =>
  match thr (if cols then at' else 1) (if cols then n else 0) 256 a.1.1 a.2.1, thr (if cols then 1 else at') (if cols then 0 else n) 4096 a.1.2 a.2.2 with
  | some x, some y => some ((x.1, y.1), (x.2, y.2))
  | _, _ => none
theorem lnF_some {cols : Bool} {at' n : Int} {a b : Ar4} (e : lnF cols at' n a = some b) : ∃ x y, thr (if cols then at' else 1) (if cols then n else 0) 256 a.1.1 a.2.1 = some x ∧ thr (if cols then 1 else at') (if cols then 0 else n) 4096 a.1.2 a.2.2 = some y ∧ b = ((x.1, y.1), (x.2, y.2)) := by
  unfold lnF at e
  split at e
  · rename_i x y h1 h2
    injection e with e
    exact ⟨x, y, h1, h2, e.symm⟩
  · cases e
/-- Which lines may be asked for. -/
def lnOk (cols : Bool) (at' n : Int) : Prop := LnOk at' n (if cols then 256 else 4096)
theorem lnOk_two {cols : Bool} {at' n : Int} (h : lnOk cols at' n) : LnOk (if cols then at' else 1) (if cols then n else 0) 256 ∧ LnOk (if cols then 1 else at') (if cols then 0 else n) 4096 := by
  unfold lnOk at h
  cases cols
  · exact ⟨⟨by simp, by simp, by simp, by simp⟩, h⟩
  · exact ⟨h, ⟨by simp, by simp, by simp, by simp⟩⟩
theorem ar_ok (a : Ar4) : Ar4.ok a = true ↔ 1 ≤ a.1.1 ∧ a.1.1 ≤ a.2.1 ∧ a.2.1 ≤ 256 ∧ 1 ≤ a.1.2 ∧ a.1.2 ≤ a.2.2 ∧ a.2.2 ≤ 4096 := by
  unfold Ar4.ok vA vC
  simp only [Bool.and_eq_true, decide_eq_true_eq]
  omega
theorem lnF_ok {cols : Bool} {at' n : Int} (h : lnOk cols at' n) : FateOk (lnF cols at' n) := by
  obtain ⟨h1, h2⟩ := lnOk_two h
  refine ⟨fun a b ha e => ?_, fun p b e => ?_⟩
  · obtain ⟨x, y, e1, e2, rfl⟩ := lnF_some e
    rw [ar_ok] at ha ⊢
    have q1 := thr_ok h1 ha.1 ha.2.1 ha.2.2.1 e1
    have q2 := thr_ok h2 ha.2.2.2.1 ha.2.2.2.2.1 ha.2.2.2.2.2 e2
    exact ⟨q1.1, q1.2.1, q1.2.2, q2.1, q2.2.1, q2.2.2⟩
  · obtain ⟨x, y, e1, e2, rfl⟩ := lnF_some e
    have q1 := (thr_cell e1).1
    have q2 := (thr_cell e2).1
    simp only [q1, q2]
/-- No two cells come to one place. -/
def FateInj (f : Fate) : Prop := ∀ p q b b', vC p.1 p.2 = true → vC q.1 q.2 = true → p ≠ q → f (p, p) = some b → f (q, q) = some b' → b.1 ≠ b'.1
theorem lnF_inj (cols : Bool) (at' n : Int) : FateInj (lnF cols at' n) := by
  intro p q b b' hp hq hne e e' heq
  rw [vC_iff] at hp hq
  obtain ⟨x, y, e1, e2, rfl⟩ := lnF_some e
  obtain ⟨x', y', e1', e2', rfl⟩ := lnF_some e'
  have q1 : x.1 = x'.1 := (Prod.mk.inj heq).1
  have q2 : y.1 = y'.1 := (Prod.mk.inj heq).2
  by_cases hc : p.1 = q.1
  · have hr : p.2 ≠ q.2 := fun e => hne (Prod.ext hc e)
    exact thr_inj hp.2.2.1 hq.2.2.1 hr e2 e2' q2
  · exact thr_inj hp.1 hq.1 hc e1 e1' q1
/-- A cell that has a place has one that is a cell. -/
theorem fate_vC {f : Fate} (hf : FateOk f) {p : Int × Int} {b : Ar4} (hp : vC p.1 p.2 = true) (e : f (p, p) = some b) : vC b.1.1 b.1.2 = true := by
  have hb := hf.ok (p, p) b (by
    rw [ar_ok]; rw [vC_iff] at hp
    exact ⟨hp.1, Int.le_refl _, hp.2.1, hp.2.2.1, Int.le_refl _, hp.2.2.2⟩) e
  rw [ar_ok] at hb
  rw [vC_iff]
  omega
theorem brL_mem {f : Fate} {L : List Cc} {y : Cc} : y ∈ brL f L ↔ ∃ x ∈ L, ∃ b, f (x.1, x.1) = some b ∧ y = (b.1, alC f x.2) := by
  unfold brL
  rw [List.mem_filterMap]
  constructor
  · rintro ⟨x, hx, h⟩
    rw [Option.map_eq_some_iff] at h
    obtain ⟨b, h1, h2⟩ := h
    exact ⟨x, hx, b, h1, h2.symm⟩
  · rintro ⟨x, hx, b, h1, rfl⟩
    exact ⟨x, hx, by rw [h1]; rfl⟩
end Go.Proofs.YtbkcebbddhaifaaGreatDoor
namespace Go.Proofs.YtbkcebbddhaifaaGreatDoor
open Go.RowKit

/-- What a fate tells. -/
def fateA (r : Option Ar4) : Value := match r with
  | none => .agg #[.int .i64 0, .int .i64 0, .int .i64 0, .int .i64 0]
  | some b => .agg #[.int .i64 b.1.1, .int .i64 b.1.2, .int .i64 b.2.1, .int .i64 b.2.2]
def fateV (r : Option Ar4) : Value := .tuple #[fateA r, .bool r.isSome]
/-- Where the kept lines stand. -/
structure KeptIn (w : World) (xc xr : Nat) (cols : Bool) (at' n : Int) : Prop where
  c : Blk w xc (spC (if cols then at' else 1) (if cols then n else 0) 256) 165
  r : Blk w xr (spC (if cols then 1 else at') (if cols then 0 else n) 4096) 165
theorem KeptIn.kp {w w' : World} {xc xr : Nat} {cols : Bool} {at' n : Int} (h : KeptIn w xc xr cols at' n) (k : Kp w w' Nul) : KeptIn w' xc xr cols at' n := ⟨h.c.kp k (fun x => x), h.r.kp k (fun x => x)⟩
theorem fateV_ln (cols : Bool) (at' n : Int) (a : Ar4) (X Y : Int × Int × Bool) (hX : X = thrV (thr (if cols then at' else 1) (if cols then n else 0) 256 a.1.1 a.2.1)) (hY : Y = thrV (thr (if cols then 1 else at') (if cols then 0 else n) 4096 a.1.2 a.2.2)) :
    fateV (lnF cols at' n a) = .tuple #[if X.2.2 && Y.2.2 then .agg #[.int .i64 X.1, .int .i64 Y.1, .int .i64 X.2.1, .int .i64 Y.2.1] else .agg #[.int .i64 0, .int .i64 0, .int .i64 0, .int .i64 0], .bool (X.2.2 && Y.2.2)] := by
  subst hX hY
  unfold lnF
  cases h1 : thr (if cols then at' else 1) (if cols then n else 0) 256 a.1.1 a.2.1 with
  | none => rfl
  | some x =>
    cases h2 : thr (if cols then 1 else at') (if cols then 0 else n) 4096 a.1.2 a.2.2 with
    | none => rfl
    | some y => rfl
theorem area_at (xc xr : Nat) (cols : Bool) (at' n : Int) (h : lnOk cols at' n) (a : Ar4) (w : World) (hk : KeptIn w xc xr cols at' n) :
    Calls Tryz.prog 99 #[.agg #[.slice (some ⟨xc, 0, none⟩) 2 2, .slice (some ⟨xr, 0, none⟩) 2 2], .agg #[.int .i64 a.1.1, .int .i64 a.1.2, .int .i64 a.2.1, .int .i64 a.2.2]] w fun e w' => e = .returned (fateV (lnF cols at' n a)) ∧ Kp w w' Nul := by
  obtain ⟨h1, h2⟩ := lnOk_two h
  rw [fateV_ln cols at' n a _ _ rfl rfl]
  exact area_core xc xr _ _ _ _ _ _ w (fun wq k => through_at _ _ _ _ _ xc wq h1 (by decide) (hk.kp k).c) (fun wq k => through_at _ _ _ _ _ xr wq h2 (by decide) (hk.kp k).r)
/-- The lines' fate as a function. -/
abbrev fateF (xc xr : Nat) : Value := .func (.func 99) #[.agg #[.slice (some ⟨xc, 0, none⟩) 2 2, .slice (some ⟨xr, 0, none⟩) 2 2]] #[]
theorem fate_one (xc xr : Nat) : ([fateF xc xr] : List Value).toArray.all (·.oneCell') = true := by simp [Value.oneCell']
theorem infoFate : (Tryz.prog.info? 101).map (·.size) = some 1 := by kernel_rfl
set_option maxRecDepth 20000 in
set_option maxHeartbeats 8000000 in
theorem ofLines_ok (cols : Bool) (at' n : Int) (h : lnOk cols at' n) (w : World) : Calls Tryz.prog 50 #[.bool cols, .int .i64 at', .int .i64 n] w fun e w' => ∃ xc xr, e = .returned (.tuple #[.agg #[fateF xc xr], .int .i64 0]) ∧ KeptIn w' xc xr cols at' n ∧ Kp w w' Nul := by
  have HS : Hid (∀ (a b c : Int), LnOk a b c → c ≤ 4096 → ∀ w, Calls Tryz.prog 98 #[.int .i64 a, .int .i64 b, .int .i64 c] w fun e w' => ∃ x, e = .returned (.slice (some ⟨x, 0, none⟩) 2 2) ∧ Blk w' x (spC a b c) 165 ∧ w.heap.size ≤ x ∧ Kp w w' Nul) := fun a b c h1 h2 w => spans_at a b c h1 h2 w
  obtain ⟨h1, h2, h3, h4⟩ := h
  cases cols
  · simp only [Bool.false_eq_true, if_false] at *
    have n1 : ¬ at' < 1 := by omega
    have HL : Hid (LnOk at' n 4096) := ⟨h1, h2, h3, h4⟩
    go_enter Tryz.func50, Tryz.ntmps50
    go_wp2_with fail
    refine (HS.out 1 0 256 ⟨by decide, by decide, by decide, by decide⟩ (by decide) _).mono ?_
    rintro e w1 ⟨x1, rfl, hb1, hx1, hk1⟩
    have HB1 : Hid (Blk w1 x1 (spC 1 0 256) 165) := hb1
    have HK1 : Hid (Kp w w1 Nul) := ((Kp.refl _ _).alloc _).trans hk1
    have R1 : Hid (Blk w1 w.heap.size [.nilFunc] 101) := (Blk.new w _ _).kp hk1 (fun x => x)
    clear hb1 hk1 hx1
    go_wp2_with fail
    refine (HS.out 1 0 4096 ⟨by decide, by decide, by decide, by decide⟩ (by decide) _).mono ?_
    rintro e w2 ⟨x2, rfl, hb2, hx2, hk2⟩
    have HB2 : Hid (Blk w2 x1 (spC 1 0 256) 165) := HB1.out.kp hk2 (fun x => x)
    have HC2 : Hid (Blk w2 x2 (spC 1 0 4096) 165) := hb2
    have R2 : Hid (Blk w2 w.heap.size [.nilFunc] 101) := R1.out.kp hk2 (fun x => x)
    have HK2 : Hid (Kp w w2 Nul) := HK1.out.trans hk2
    clear hb2 hk2 hx2 HB1 HK1 R1
    go_wp2_with fail
    refine (HS.out at' n 4096 HL.out (by decide) _).mono ?_
    rintro e w3 ⟨x3, rfl, hb3, hx3, hk3⟩
    have ka : Kp w2 w3 Nul := ((Kp.refl _ _).alloc _).trans hk3
    have HB3 : Hid (Blk w3 x1 (spC 1 0 256) 165) := HB2.out.kp ka (fun x => x)
    have HC3 : Hid (Blk w3 x2 (spC 1 0 4096) 165) := HC2.out.kp ka (fun x => x)
    have HD3 : Hid (Blk w3 x3 (spC at' n 4096) 165) := hb3
    have R3 : Hid (Blk w3 w.heap.size [.nilFunc] 101) := R2.out.kp ka (fun x => x)
    have HK3 : Hid (Kp w w3 Nul) := HK2.out.trans ka
    have HLe : Hid (w.heap.size ≤ w2.heap.size) := HK2.out.size
    have bk : Blk w3 w2.heap.size [.slice (some ⟨x1, 0, none⟩) 2 2, .slice (some ⟨x2, 0, none⟩) 2 2] 145 := (Blk.new w2 _ _).kp hk3 (fun x => x)
    have k1 : w3.cell? ⟨w2.heap.size, 1, none⟩ = some (.slice (some ⟨x2, 0, none⟩) 2 2) := bk.cell rfl
    have k0 : w3.cell? ⟨w2.heap.size, 0, none⟩ = some (.slice (some ⟨x1, 0, none⟩) 2 2) := bk.cell rfl
    have z1 := bk.froz 1
    have hWn : Hid (∀ X, w3.setCell ⟨w2.heap.size, 1, none⟩ (.slice (some ⟨x3, 0, none⟩) 2 2) = X → Kp w3 X (fun i => i = w2.heap.size) ∧ Blk X w2.heap.size [.slice (some ⟨x1, 0, none⟩) 2 2, .slice (some ⟨x3, 0, none⟩) 2 2] 145) := fun X e => by
      subst e
      exact ⟨(Kp.refl w3 _).setCell _ _ (.inr rfl), bk.set 1 _⟩
    clear hb3 hx3 hk3 ka HB2 HC2 R2 HK2
    obtain ⟨X, hX⟩ : ∃ X, w3.setCell ⟨w2.heap.size, 1, none⟩ (.slice (some ⟨x3, 0, none⟩) 2 2) = X := ⟨_, rfl⟩
    obtain ⟨hkX, hbX⟩ := hWn.out X hX
    have ne1 : ∀ {b : Nat} {cs : List Value}, Blk w3 b cs 165 → Blk X b cs 165 := fun h => h.kp hkX (Blk.ne h bk (by decide))
    have RX : Hid (Blk X w.heap.size [.nilFunc] 101) := R3.out.kp hkX (Blk.ne R3.out bk (by decide))
    have BX : Hid (KeptIn X x1 x3 false at' n) := ⟨ne1 HB3.out, ne1 HD3.out⟩
    have KX : Hid (Kp w X Nul) := HK3.out.trans' hkX (fun i hi e => by have : i = w2.heap.size := e; have := HLe.out; omega)
    have q0 : X.cell? ⟨w2.heap.size, 0, none⟩ = some ([.slice (some ⟨x1, 0, none⟩) 2 2, .slice (some ⟨x3, 0, none⟩) 2 2][0]) := hbX.cell rfl
    have q1 : X.cell? ⟨w2.heap.size, 1, none⟩ = some ([.slice (some ⟨x1, 0, none⟩) 2 2, .slice (some ⟨x3, 0, none⟩) 2 2][1]) := hbX.cell rfl
    simp only [List.getElem_cons_zero, List.getElem_cons_succ] at q0 q1
    clear ne1 hkX hbX bk HB3 HC3 HD3 R3 HK3 hWn
    go_wp2_with (first | (refine wpList_store_blk rfl 101 (.tmp 6) (.tmp 46) rfl w.heap.size _ [fateF x1 x3] _ RX.out rfl rfl rfl infoFate (fate_one _ _) ?_; intro w4 hb4 hk4) | fail)
    have y0 : w4.cell? ⟨w.heap.size, 0, none⟩ = some (fateF x1 x3) := hb4.cell rfl
    have hKw : Kp w w4 Nul := KX.out.trans' hk4 (fun i hi e => by have : i = w.heap.size := e; omega)
    have hBw : KeptIn w4 x1 x3 false at' n := ⟨BX.out.c.kp hk4 (Blk.ne BX.out.c RX.out (by decide)), BX.out.r.kp hk4 (Blk.ne BX.out.r RX.out (by decide))⟩
    refine bodyPost_ret (v := .tuple #[.agg #[fateF x1 x3], .int .i64 0]) (by simp [results, Tryz.results50, go_sem, y0]) rfl ?_
    exact ⟨_, _, rfl, hBw, hKw⟩
  · simp only [if_true] at *
    have n1 : ¬ at' < 1 := by omega
    have HL : Hid (LnOk at' n 256) := ⟨h1, h2, h3, h4⟩
    go_enter Tryz.func50, Tryz.ntmps50
    go_wp2_with fail
    refine (HS.out 1 0 256 ⟨by decide, by decide, by decide, by decide⟩ (by decide) _).mono ?_
    rintro e w1 ⟨x1, rfl, hb1, hx1, hk1⟩
    have HB1 : Hid (Blk w1 x1 (spC 1 0 256) 165) := hb1
    have HK1 : Hid (Kp w w1 Nul) := ((Kp.refl _ _).alloc _).trans hk1
    have R1 : Hid (Blk w1 w.heap.size [.nilFunc] 101) := (Blk.new w _ _).kp hk1 (fun x => x)
    clear hb1 hk1 hx1
    go_wp2_with fail
    refine (HS.out 1 0 4096 ⟨by decide, by decide, by decide, by decide⟩ (by decide) _).mono ?_
    rintro e w2 ⟨x2, rfl, hb2, hx2, hk2⟩
    have HB2 : Hid (Blk w2 x1 (spC 1 0 256) 165) := HB1.out.kp hk2 (fun x => x)
    have HC2 : Hid (Blk w2 x2 (spC 1 0 4096) 165) := hb2
    have R2 : Hid (Blk w2 w.heap.size [.nilFunc] 101) := R1.out.kp hk2 (fun x => x)
    have HK2 : Hid (Kp w w2 Nul) := HK1.out.trans hk2
    clear hb2 hk2 hx2 HB1 HK1 R1
    go_wp2_with fail
    refine (HS.out at' n 256 HL.out (by decide) _).mono ?_
    rintro e w3 ⟨x3, rfl, hb3, hx3, hk3⟩
    have ka : Kp w2 w3 Nul := ((Kp.refl _ _).alloc _).trans hk3
    have HB3 : Hid (Blk w3 x1 (spC 1 0 256) 165) := HB2.out.kp ka (fun x => x)
    have HC3 : Hid (Blk w3 x2 (spC 1 0 4096) 165) := HC2.out.kp ka (fun x => x)
    have HD3 : Hid (Blk w3 x3 (spC at' n 256) 165) := hb3
    have R3 : Hid (Blk w3 w.heap.size [.nilFunc] 101) := R2.out.kp ka (fun x => x)
    have HK3 : Hid (Kp w w3 Nul) := HK2.out.trans ka
    have HLe : Hid (w.heap.size ≤ w2.heap.size) := HK2.out.size
    have bk : Blk w3 w2.heap.size [.slice (some ⟨x1, 0, none⟩) 2 2, .slice (some ⟨x2, 0, none⟩) 2 2] 145 := (Blk.new w2 _ _).kp hk3 (fun x => x)
    have k1 : w3.cell? ⟨w2.heap.size, 1, none⟩ = some (.slice (some ⟨x2, 0, none⟩) 2 2) := bk.cell rfl
    have k0 : w3.cell? ⟨w2.heap.size, 0, none⟩ = some (.slice (some ⟨x1, 0, none⟩) 2 2) := bk.cell rfl
    have z1 := bk.froz 0
    have hWn : Hid (∀ X, w3.setCell ⟨w2.heap.size, 0, none⟩ (.slice (some ⟨x3, 0, none⟩) 2 2) = X → Kp w3 X (fun i => i = w2.heap.size) ∧ Blk X w2.heap.size [.slice (some ⟨x3, 0, none⟩) 2 2, .slice (some ⟨x2, 0, none⟩) 2 2] 145) := fun X e => by
      subst e
      exact ⟨(Kp.refl w3 _).setCell _ _ (.inr rfl), bk.set 0 _⟩
    clear hb3 hx3 hk3 ka HB2 HC2 R2 HK2
    obtain ⟨X, hX⟩ : ∃ X, w3.setCell ⟨w2.heap.size, 0, none⟩ (.slice (some ⟨x3, 0, none⟩) 2 2) = X := ⟨_, rfl⟩
    obtain ⟨hkX, hbX⟩ := hWn.out X hX
    have ne1 : ∀ {b : Nat} {cs : List Value}, Blk w3 b cs 165 → Blk X b cs 165 := fun h => h.kp hkX (Blk.ne h bk (by decide))
    have RX : Hid (Blk X w.heap.size [.nilFunc] 101) := R3.out.kp hkX (Blk.ne R3.out bk (by decide))
    have BX : Hid (KeptIn X x3 x2 true at' n) := ⟨ne1 HD3.out, ne1 HC3.out⟩
    have KX : Hid (Kp w X Nul) := HK3.out.trans' hkX (fun i hi e => by have : i = w2.heap.size := e; have := HLe.out; omega)
    have q0 : X.cell? ⟨w2.heap.size, 0, none⟩ = some ([.slice (some ⟨x3, 0, none⟩) 2 2, .slice (some ⟨x2, 0, none⟩) 2 2][0]) := hbX.cell rfl
    have q1 : X.cell? ⟨w2.heap.size, 1, none⟩ = some ([.slice (some ⟨x3, 0, none⟩) 2 2, .slice (some ⟨x2, 0, none⟩) 2 2][1]) := hbX.cell rfl
    simp only [List.getElem_cons_zero, List.getElem_cons_succ] at q0 q1
    clear ne1 hkX hbX bk HB3 HC3 HD3 R3 HK3 hWn
    go_wp2_with (first | (refine wpList_store_blk rfl 101 (.tmp 6) (.tmp 46) rfl w.heap.size _ [fateF x3 x2] _ RX.out rfl rfl rfl infoFate (fate_one _ _) ?_; intro w4 hb4 hk4) | fail)
    have y0 : w4.cell? ⟨w.heap.size, 0, none⟩ = some (fateF x3 x2) := hb4.cell rfl
    have hKw : Kp w w4 Nul := KX.out.trans' hk4 (fun i hi e => by have : i = w.heap.size := e; omega)
    have hBw : KeptIn w4 x3 x2 true at' n := ⟨BX.out.c.kp hk4 (Blk.ne BX.out.c RX.out (by decide)), BX.out.r.kp hk4 (Blk.ne BX.out.r RX.out (by decide))⟩
    refine bodyPost_ret (v := .tuple #[.agg #[fateF x3 x2], .int .i64 0]) (by simp [results, Tryz.results50, go_sem, y0]) rfl ?_
    exact ⟨_, _, rfl, hBw, hKw⟩
set_option maxRecDepth 20000 in
set_option maxHeartbeats 8000000 in
theorem ofLines_no (cols : Bool) (at' n : Int) (h : ¬ lnOk cols at' n) (w : World) : Calls Tryz.prog 50 #[.bool cols, .int .i64 at', .int .i64 n] w fun e w' => e = .returned (.tuple #[.agg #[.nilFunc], .int .i64 1]) ∧ Kp w w' Nul := by
  have hb : at' < 1 ∨ (if cols then 256 else 4096) < at' ∨ n < -(if cols then 256 else 4096) ∨ (if cols then 256 else 4096) < n := by
    refine Classical.byContradiction fun q => h ?_
    cases cols
    · simp only [Bool.false_eq_true, if_false] at q
      exact ⟨by omega, by simp; omega, by simp; omega, by simp; omega⟩
    · simp only [if_true] at q
      exact ⟨by omega, by simp; omega, by simp; omega, by simp; omega⟩
  clear h
  cases cols
  · simp only [Bool.false_eq_true, if_false] at hb
    go_enter Tryz.func50, Tryz.ntmps50
    go_wp2_with fail
    all_goals first
      | (exfalso; omega)
      | (refine bodyPost_ret (v := .tuple #[.agg #[.nilFunc], .int .i64 1]) (by simp [results, Tryz.results50, go_sem]) rfl ?_
         exact ⟨rfl, (Kp.refl _ _).alloc _⟩)
  · simp only [if_true] at hb
    go_enter Tryz.func50, Tryz.ntmps50
    go_wp2_with fail
    all_goals first
      | (exfalso; omega)
      | (refine bodyPost_ret (v := .tuple #[.agg #[.nilFunc], .int .i64 1]) (by simp [results, Tryz.results50, go_sem]) rfl ?_
         exact ⟨rfl, (Kp.refl _ _).alloc _⟩)
end Go.Proofs.YtbkcebbddhaifaaGreatDoor
