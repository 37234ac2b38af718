/- Move: MoveBack, plain: grids whose lines were put in and taken out. No function of the program here. Move: MoveBack, the walk. -/
import Derived.Test.YtbkcebbddhaifaaGreatDoorD4
import Derived.Test.YtbkcebbddhaifaaGreatDoorD3
namespace Go.Proofs.YtbkcebbddhaifaaGreatDoor
open Go.RowKit

/-- The fate of an area that may be, by the one row of lines that moves. -/
theorem lnF_by {cols : Bool} {k n : Int} {a : Ar4} (ha : Ar4.ok a = true) : lnF cols k n a = if cols then (thr k n 256 a.1.1 a.2.1).map (fun y => ((y.1, a.1.2), (y.2, a.2.2))) else (thr k n 4096 a.1.2 a.2.2).map (fun y => ((a.1.1, y.1), (a.2.1, y.2))) := by
  rw [ar_ok] at ha
  unfold lnF
  cases cols
  · simp only [Bool.false_eq_true, if_false]
    rw [thr_same ha.1 ha.2.1 ha.2.2.1]
    cases thr k n 4096 a.1.2 a.2.2 <;> rfl
  · simp only [if_true]
    rw [thr_same ha.2.2.2.1 ha.2.2.2.2.1 ha.2.2.2.2.2]
    cases thr k n 256 a.1.1 a.2.1 <;> rfl
theorem lnF_bind {cols : Bool} {k n m : Int} {a : Ar4} (hl : lnOk cols k n) (ha : Ar4.ok a = true) : (lnF cols k n a).bind (lnF cols k m) = if cols then ((thr k n 256 a.1.1 a.2.1).bind (fun y => thr k m 256 y.1 y.2)).map (fun y => ((y.1, a.1.2), (y.2, a.2.2))) else ((thr k n 4096 a.1.2 a.2.2).bind (fun y => thr k m 4096 y.1 y.2)).map (fun y => ((a.1.1, y.1), (a.2.1, y.2))) := by
  have hok := (lnF_ok hl).ok a
  rw [lnF_by ha] at hok ⊢
  cases cols
  · simp only [Bool.false_eq_true, if_false] at hok ⊢
    cases e : thr k n 4096 a.1.2 a.2.2 with
    | none => rfl
    | some y =>
      rw [e] at hok
      have hb := hok _ ha rfl
      simp only [Option.map_some, Option.bind_some]
      rw [lnF_by hb]
      rfl
  · simp only [if_true] at hok ⊢
    cases e : thr k n 256 a.1.1 a.2.1 with
    | none => rfl
    | some y =>
      rw [e] at hok
      have hb := hok _ ha rfl
      simp only [Option.map_some, Option.bind_some]
      rw [lnF_by hb]
      rfl
/-- The last line of an area is none of the last n. -/
def notLow (cols : Bool) (n : Int) (a : Ar4) : Prop := if cols then a.2.1 ≤ 256 - n else a.2.2 ≤ 4096 - n
theorem then_in_out {cols : Bool} {k p : Int} {a : Ar4} (hl : lnOk cols k p) (hp : 0 < p) (ha : Ar4.ok a = true) (hn : notLow cols p a) : Then (lnF cols k p) (lnF cols k (-p)) stayF a := by
  unfold Then stayF
  rw [lnF_bind hl ha]
  have hk := hl.lo
  have h := (ar_ok a).1 ha
  unfold notLow at hn
  cases cols
  · simp only [Bool.false_eq_true, if_false] at hn ⊢
    rw [thr_in_out hp h.2.2.2.1 hk h.2.2.2.2.1 hn]; rfl
  · simp only [if_true] at hn ⊢
    rw [thr_in_out hp h.1 hk h.2.1 hn]; rfl
theorem then_in_in {cols : Bool} {k p q : Int} {a : Ar4} (hl : lnOk cols k p) (hp : 0 < p) (hq : 0 < q) (ha : Ar4.ok a = true) (hn : notLow cols (p + q) a) : Then (lnF cols k p) (lnF cols k q) (lnF cols k (p + q)) a := by
  unfold Then
  rw [lnF_bind hl ha, lnF_by ha]
  have hk := hl.lo
  have h := (ar_ok a).1 ha
  unfold notLow at hn
  cases cols
  · simp only [Bool.false_eq_true, if_false] at hn ⊢
    rw [thr_in_in hp hq h.2.2.2.1 hk h.2.2.2.2.1 hn]
  · simp only [if_true] at hn ⊢
    rw [thr_in_in hp hq h.1 hk h.2.1 hn]
theorem then_out_out {cols : Bool} {k p q : Int} {a : Ar4} (hl : lnOk cols k (-p)) (hp : 0 < p) (hq : 0 < q) (ha : Ar4.ok a = true) : Then (lnF cols k (-p)) (lnF cols k (-q)) (lnF cols k (-p - q)) a := by
  unfold Then
  rw [lnF_bind hl ha, lnF_by ha]
  have hk := hl.lo
  have h := (ar_ok a).1 ha
  cases cols
  · simp only [Bool.false_eq_true, if_false]
    rw [thr_out_out hp hq h.2.2.2.1 hk h.2.2.2.2.1 h.2.2.2.2.2]
  · simp only [if_true]
    rw [thr_out_out hp hq h.1 hk h.2.1 h.2.2.1]
theorem cell_ok {c : Int × Int} (h : vC c.1 c.2 = true) : Ar4.ok (c, c) = true := by
  rw [ar_ok]
  rw [vC_iff] at h
  exact ⟨h.1, Int.le_refl _, h.2.1, h.2.2.1, Int.le_refl _, h.2.2.2⟩
/-- A cell that was put elsewhere comes back. -/
theorem cell_back {cols : Bool} {k p : Int} {c : Int × Int} {b : Ar4} (hl : lnOk cols k p) (hp : 0 < p) (hc : vC c.1 c.2 = true) (e : lnF cols k p (c, c) = some b) : lnF cols k (-p) (b.1, b.1) = some (c, c) := by
  have hcell := (lnF_ok hl).cell c b e
  have hb := (lnF_ok hl).ok _ b (cell_ok hc) e
  have eb : (b.1, b.1) = b := Prod.ext rfl hcell
  rw [eb]
  rw [lnF_by (cell_ok hc)] at e
  rw [lnF_by hb]
  have hk := hl.lo
  rw [vC_iff] at hc
  cases cols
  · simp only [Bool.false_eq_true, if_false] at e ⊢
    cases e1 : thr k p 4096 c.2 c.2 with
    | none => rw [e1] at e; cases e
    | some y =>
      rw [e1] at e
      injection e with e
      have q := (thr_in_out1 hp hc.2.2.1 hk hc.2.2.2 e1).1
      rw [← e]
      simp only
      rw [q]
      rfl
  · simp only [if_true] at e ⊢
    cases e1 : thr k p 256 c.1 c.1 with
    | none => rw [e1] at e; cases e
    | some y =>
      rw [e1] at e
      injection e with e
      have q := (thr_in_out1 hp hc.1 hk hc.2.1 e1).1
      rw [← e]
      simp only
      rw [q]
      rfl
theorem cell_in_in {cols : Bool} {k p q : Int} {c : Int × Int} (hl : lnOk cols k p) (hp : 0 < p) (hq : 0 < q) (hc : vC c.1 c.2 = true) : (lnF cols k p (c, c)).bind (lnF cols k q) = lnF cols k (p + q) (c, c) := by
  rw [lnF_bind hl (cell_ok hc), lnF_by (cell_ok hc)]
  have hk := hl.lo
  rw [vC_iff] at hc
  cases cols
  · simp only [Bool.false_eq_true, if_false]
    rw [thr_in_in1 hp hq hc.2.2.1 hk]
  · simp only [if_true]
    rw [thr_in_in1 hp hq hc.1 hk]
/-- A content's formula: what may be, or nothing that names a cell. -/
theorem gd_fe {a : Ct} (h : Gd a) : a.t.fe false = 0 ∨ zeroN a.t = true := by
  have hv := h.val
  unfold gv validC at hv
  simp only [Bool.or_eq_true, Bool.and_eq_true, beq_iff_eq] at hv
  rcases hv with (q | q) | q
  · exact absurd q.1 h.k
  · exact .inr q.2.2
  · refine .inl ?_
    have := q.2.2
    unfold chk at this
    split at this
    · omega
    · split at this
      · omega
      · exact this
theorem lnIn_ok {h : Hd} (hk : h.k = 5 ∨ h.k = 6) (hi : lnIn h) : Ar4.ok (nmA h) = true := by
  rw [ar_ok]
  unfold nmA
  rcases hk with e | e
  · rw [if_neg (show ¬ h.k = 6 by omega)]
    obtain ⟨i1, i2, i3, i4⟩ := hi.1 e
    exact ⟨i1, Int.le_refl _, i2, i3, Int.le_refl _, i4⟩
  · rw [if_pos e]
    obtain ⟨i1, i2, i3, i4, i5, i6⟩ := hi.2 e
    exact ⟨i1, i2, i3, i4, i5, i6⟩
theorem alC_then {f g h : Fate} (hf : FateOk f) {a : Ct} (ha : Gd a) (hq : a.t.fe false = 0 → nmAll (fun d => Then f g h (nmA d)) a.t) : alC g (alC f a) = alC h a := by
  unfold alC
  simp only [Ct.mk.injEq, true_and]
  rcases gd_fe ha with q | q
  · exact al_then hf a.t false q (hq q)
  · rw [alN_zero f q, alN_zero g q, alN_zero h q]
theorem alC_stay (a : Ct) : alC stayF a = a := by unfold alC; rw [al_stay]
/-- Of a formula of which nothing is lost, what f does to it. -/
def keepsC (f : Fate) (a : Ct) : Prop := a.t.fe false = 0 → keepsN f a.t
theorem flC_le (f : Fate) {a : Ct} (ha : Gd a) : fl a.t ≤ fl (alC f a).t ∧ (fl (alC f a).t = fl a.t → keepsC f a) := by
  rcases gd_fe ha with q | q
  · have := fl_al f a.t false q
    exact ⟨this.1, fun e _ => this.2 e⟩
  · have e : (alC f a).t = a.t := alN_zero f q
    rw [e]
    refine ⟨Nat.le_refl _, fun _ h => ?_⟩
    obtain ⟨h1, h2⟩ := zeroN_k q
    rw [Nd.eta a.t, keepsN, h2, keepsL]
    exact ⟨fun z => by omega, trivial⟩
theorem flS_br {f : Fate} : ∀ {L : List Cc}, (∀ x ∈ L, Gd x.2) → (∀ x ∈ L, f (x.1, x.1) ≠ none) → flS L ≤ flS (brL f L) ∧ (flS (brL f L) = flS L → ∀ x ∈ L, keepsC f x.2)
  | [], _, _ => by
    refine ⟨by unfold brL; exact Nat.le_refl _, fun _ x hx => ?_⟩
    simp at hx
  | x :: L, hg, hn => by
    have ih := flS_br (f := f) (L := L) (fun y hy => hg y (List.mem_cons_of_mem _ hy)) (fun y hy => hn y (List.mem_cons_of_mem _ hy))
    have h1 := flC_le f (hg x List.mem_cons_self)
    have hx := hn x List.mem_cons_self
    cases e : f (x.1, x.1) with
    | none => exact absurd e hx
    | some b =>
      have eb : brL f (x :: L) = (b.1, alC f x.2) :: brL f L := by
        unfold brL
        rw [List.filterMap_cons, e]
        rfl
      rw [eb, flS, flS]
      refine ⟨by have := ih.1; have := h1.1; show _ ≤ fl (alC f x.2).t + _; omega, fun q y hy => ?_⟩
      have q' : fl (alC f x.2).t + flS (brL f L) = fl x.2.t + flS L := q
      rcases List.mem_cons.1 hy with rfl | hy
      · exact h1.2 (by have := ih.1; have := h1.1; omega)
      · exact ih.2 (by have := ih.1; have := h1.1; omega) y hy
theorem brL_full {f : Fate} : ∀ {L : List Cc}, (∀ x ∈ L, f (x.1, x.1) ≠ none) → (brL f L).length = L.length
  | [], _ => rfl
  | x :: L, hn => by
    have ih := brL_full (f := f) (L := L) (fun y hy => hn y (List.mem_cons_of_mem _ hy))
    cases e : f (x.1, x.1) with
    | none => exact absurd e (hn x List.mem_cons_self)
    | some b =>
      have eb : brL f (x :: L) = (b.1, alC f x.2) :: brL f L := by
        unfold brL
        rw [List.filterMap_cons, e]
        rfl
      rw [eb, List.length_cons, List.length_cons, ih]
theorem lostB_none {f : Fate} {L : List Cc} (h : lostB f L = false) : ∀ x ∈ L, f (x.1, x.1) ≠ none := by
  intro x hx e
  unfold lostB at h
  rw [List.any_eq_false] at h
  exact h x hx (by rw [e]; rfl)
theorem lostB_some {f : Fate} {L : List Cc} (h : lostB f L = true) : ∃ x ∈ L, f (x.1, x.1) = none := by
  unfold lostB at h
  rw [List.any_eq_true] at h
  obtain ⟨x, hx, q⟩ := h
  exact ⟨x, hx, by simpa using q⟩
/-- Lists of the same cells. -/
theorem eqC_mem {A B : List Cc} (ha : A.Nodup) (hb : B.Nodup) (h : ∀ y, y ∈ A ↔ y ∈ B) : EqC A B := by
  haveI : DecidableEq Cc := fun a b => Classical.propDecidable _
  refine ⟨Nat.le_antisymm (nodup_le _ _ ha (fun y q => (h y).1 q)) (nodup_le _ _ hb (fun y q => (h y).2 q)), fun k a q => ⟨a, (h _).1 q, csame_refl a⟩⟩
theorem once_nodup {A : List Cc} (h : A.Pairwise (fun x y => x.1 ≠ y.1)) : A.Nodup := h.imp (fun {x y} q e => q (by rw [e]))
/-- Not lost, not low: every named area keeps to the lines that are left. -/
theorem keep_all {cols : Bool} {n : Int} {f : Fate} {a : Ct} {Q : Ar4 → Prop} (hk : keepsC f a) (hl : lowN cols n a.t = false) (hQ : ∀ A, Ar4.ok A = true → f A ≠ none → (A.1 = A.2 ∨ notLow cols n A) → Q A) (h0 : a.t.fe false = 0) : nmAll (fun d => Q (nmA d)) a.t := by
  refine nmAll_of (f := f) (cols := cols) (n := n) (fun h q hi hf hlow => hQ _ (lnIn_ok q hi) hf ?_) a.t false h0 (hk h0) hl
  rcases q with e | e
  · left
    unfold nmA
    rw [if_neg (show ¬ h.k = 6 by omega)]
  · right
    unfold notLow nmA
    rw [if_pos e]
    cases cols
    · simp only [Bool.false_eq_true, if_false] at hlow ⊢
      have : ¬ (4096 - n < h.r2) := fun z => hlow ⟨e, by simpa using z⟩
      omega
    · simp only [if_true] at hlow ⊢
      have : ¬ (256 - n < h.c2) := fun z => hlow ⟨e, by simpa using z⟩
      omega
/-- A cell that stays among the lines is no low one. -/
theorem cell_in {cols : Bool} {k p : Int} {A : Ar4} (hl : lnOk cols k p) (hp : 0 < p) (ha : Ar4.ok A = true) (hc : A.1 = A.2) (hf : lnF cols k p A ≠ none) : (lnF cols k p A).bind (lnF cols k (-p)) = some A := by
  have hA : A = (A.1, A.1) := Prod.ext rfl hc.symm
  have hv : vC A.1.1 A.1.2 = true := by
    have := (ar_ok A).1 ha
    rw [← hc] at this
    rw [vC_iff]; exact ⟨this.1, this.2.2.1, this.2.2.2.1, this.2.2.2.2.2⟩
  cases e : lnF cols k p A with
  | none => exact absurd e hf
  | some b =>
    rw [Option.bind_some]
    have e' : lnF cols k p (A.1, A.1) = some b := by rw [← hA]; exact e
    have hcell := (lnF_ok hl).cell A.1 b e'
    have := cell_back hl hp hv e'
    rw [show b = (b.1, b.1) from Prod.ext rfl hcell.symm, this, ← hA]
/-- What comes back of a content. -/
theorem back_ct {cols : Bool} {k p : Int} {a : Ct} (hl : lnOk cols k p) (hp : 0 < p) (ha : Gd a) (hk : keepsC (lnF cols k p) a) (hlow : lowN cols p a.t = false) : alC (lnF cols k (-p)) (alC (lnF cols k p) a) = a := by
  rw [alC_then (lnF_ok hl) (h := stayF) ha (fun h0 => keep_all hk hlow (fun A hA hf hc => ?_) h0), alC_stay]
  rcases hc with hc | hc
  · exact cell_in hl hp hA hc hf
  · exact then_in_out hl hp hA hc
theorem twice_ct {cols : Bool} {k p q : Int} {a : Ct} (hl : lnOk cols k p) (hp : 0 < p) (hq : 0 < q) (ha : Gd a) (hk : keepsC (lnF cols k (p + q)) a) (hlow : lowN cols (p + q) a.t = false) : alC (lnF cols k q) (alC (lnF cols k p) a) = alC (lnF cols k (p + q)) a := by
  refine alC_then (lnF_ok hl) ha (fun h0 => keep_all hk hlow (fun A hA hf hc => ?_) h0)
  rcases hc with hc | hc
  · have hA' : A = (A.1, A.1) := Prod.ext rfl hc.symm
    have hv : vC A.1.1 A.1.2 = true := by
      have := (ar_ok A).1 hA
      rw [← hc] at this
      rw [vC_iff]; exact ⟨this.1, this.2.2.1, this.2.2.2.1, this.2.2.2.2.2⟩
    unfold Then
    rw [hA']
    exact cell_in_in hl hp hq hv
  · exact then_in_in hl hp hq hA hc
theorem out_ct {cols : Bool} {k p q : Int} {a : Ct} (hl : lnOk cols k (-p)) (hp : 0 < p) (hq : 0 < q) (ha : Gd a) : alC (lnF cols k (-q)) (alC (lnF cols k (-p)) a) = alC (lnF cols k (-p - q)) a :=
  alC_then (lnF_ok hl) ha (fun h0 => nmAll_any (fun _ e hi => then_out_out hl hp hq (lnIn_ok e hi)) a.t false h0)
/-- What is known of a grid that was brought. -/
structure Br (f : Fate) (L M : List Cc) : Prop where
  ok : Ok17 M
  once : M.Pairwise (fun x y => x.1 ≠ y.1)
  mem : ∀ y, y ∈ M ↔ y ∈ brL f L
section
variable {cols : Bool} {k p q : Int} {L M1 M2 M3 M4 M5 M6 M7 : List Cc}
theorem Br.len {f : Fate} {L M : List Cc} (h : Br f L M) (hi : FateInj f) (hL : Ok17 L) (ho : L.Pairwise (fun x y => x.1 ≠ y.1)) (hn : ∀ x ∈ L, f (x.1, x.1) ≠ none) : M.length = L.length := by
  rw [← brL_len hi hL.at' ho (fun x => Iff.rfl) h.once h.mem, brL_full hn]
theorem Br.flS {f : Fate} {L M : List Cc} (h : Br f L M) (hi : FateInj f) (hL : Ok17 L) (ho : L.Pairwise (fun x y => x.1 ≠ y.1)) (hn : ∀ x ∈ L, f (x.1, x.1) ≠ none) (e : flS M = flS L) : ∀ x ∈ L, keepsC f x.2 := by
  refine (flS_br hL.gd hn).2 ?_
  rw [← e]
  refine flS_eq ?_ (once_nodup h.once) (fun y => (h.mem y).symm)
  unfold brL List.Nodup
  rw [List.pairwise_filterMap]
  refine (List.Pairwise.and_mem.1 ho).imp ?_
  rintro x y ⟨hx, hy, hne⟩ b hb b' hb' e'
  rw [Option.map_eq_some_iff] at hb hb'
  obtain ⟨u, hu, rfl⟩ := hb
  obtain ⟨u', hu', rfl⟩ := hb'
  exact hi x.1 y.1 u u' (hL.at' x hx) (hL.at' y hy) hne hu hu' (Prod.mk.inj e').1
/-- Put in and taken out: no cell is lost. -/
theorem back_none (hl : lnOk cols k p) (hp : 0 < p) (hL : Ok17 L) (h1 : Br (lnF cols k p) L M1) : ∀ y ∈ M1, lnF cols k (-p) (y.1, y.1) ≠ none := by
  intro y hy e
  obtain ⟨x, hx, b, hb, rfl⟩ := brL_mem.1 ((h1.mem y).1 hy)
  rw [cell_back hl hp (hL.at' x hx) hb] at e
  cases e
theorem back_mem (hl : lnOk cols k p) (hp : 0 < p) (hL : Ok17 L) (hn : ∀ x ∈ L, lnF cols k p (x.1, x.1) ≠ none) (h1 : Br (lnF cols k p) L M1) (h2 : Br (lnF cols k (-p)) M1 M2) : ∀ y, y ∈ M2 ↔ ∃ x ∈ L, y = (x.1, alC (lnF cols k (-p)) (alC (lnF cols k p) x.2)) := by
  intro y
  rw [h2.mem, brL_mem]
  constructor
  · rintro ⟨z, hz, b, hb, rfl⟩
    obtain ⟨x, hx, b1, hb1, rfl⟩ := brL_mem.1 ((h1.mem z).1 hz)
    have hc := cell_back hl hp (hL.at' x hx) hb1
    have : some b = some (x.1, x.1) := hb.symm.trans hc
    injection this with this
    exact ⟨x, hx, by rw [this]⟩
  · rintro ⟨x, hx, rfl⟩
    cases e : lnF cols k p (x.1, x.1) with
    | none => exact absurd e (hn x hx)
    | some b1 => exact ⟨(b1.1, alC (lnF cols k p) x.2), (h1.mem _).2 (brL_mem.2 ⟨x, hx, b1, e, rfl⟩), (x.1, x.1), cell_back hl hp (hL.at' x hx) e, rfl⟩
theorem back_eq (hl : lnOk cols k p) (hp : 0 < p) (hL : Ok17 L) (ho : L.Pairwise (fun x y => x.1 ≠ y.1)) (hn : ∀ x ∈ L, lnF cols k p (x.1, x.1) ≠ none) (h1 : Br (lnF cols k p) L M1) (h2 : Br (lnF cols k (-p)) M1 M2) (he : flS M1 = flS L) (hlow : lowS cols p L = false) : EqC M2 L := by
  have hk := h1.flS (lnF_inj cols k p) hL ho hn he
  have hq : ∀ x ∈ L, alC (lnF cols k (-p)) (alC (lnF cols k p) x.2) = x.2 := fun x hx => back_ct hl hp (hL.gd x hx) (hk x hx) (by
    unfold lowS at hlow
    rw [List.any_eq_false] at hlow
    simpa using hlow x hx)
  refine eqC_mem (once_nodup h2.once) (once_nodup ho) (fun y => ?_)
  rw [back_mem hl hp hL hn h1 h2]
  constructor
  · rintro ⟨x, hx, rfl⟩; rw [hq x hx]; exact hx
  · intro hy; exact ⟨y, hy, by rw [hq y hy]⟩
/-- Put in twice: what is lost is what is lost at once. -/
theorem twice_lost (hl : lnOk cols k p) (hp : 0 < p) (hq : 0 < q) (hL : Ok17 L) (hn : ∀ x ∈ L, lnF cols k p (x.1, x.1) ≠ none) (h1 : Br (lnF cols k p) L M1) : lostB (lnF cols k q) M1 = lostB (lnF cols k (p + q)) L := by
  rw [Bool.eq_iff_iff]
  have key : ∀ x ∈ L, ∀ b, lnF cols k p (x.1, x.1) = some b → lnF cols k q (b.1, b.1) = lnF cols k (p + q) (x.1, x.1) := fun x hx b hb => by
    have := cell_in_in (k := k) hl hp hq (hL.at' x hx)
    rw [hb, Option.bind_some] at this
    rw [show (b.1, b.1) = b from Prod.ext rfl ((lnF_ok hl).cell _ b hb)]
    exact this
  constructor
  · intro h
    obtain ⟨y, hy, e⟩ := lostB_some h
    obtain ⟨x, hx, b, hb, rfl⟩ := brL_mem.1 ((h1.mem y).1 hy)
    unfold lostB
    rw [List.any_eq_true]
    exact ⟨x, hx, by rw [← key x hx b hb]; simpa using e⟩
  · intro h
    obtain ⟨x, hx, e⟩ := lostB_some h
    cases eb : lnF cols k p (x.1, x.1) with
    | none => exact absurd eb (hn x hx)
    | some b =>
      unfold lostB
      rw [List.any_eq_true]
      exact ⟨_, (h1.mem _).2 (brL_mem.2 ⟨x, hx, b, eb, rfl⟩), by simp only; rw [key x hx b eb, e]; rfl⟩
theorem twice_eq (hl : lnOk cols k p) (hp : 0 < p) (hq : 0 < q) (hL : Ok17 L) (ho : L.Pairwise (fun x y => x.1 ≠ y.1)) (hn : ∀ x ∈ L, lnF cols k (p + q) (x.1, x.1) ≠ none) (h1 : Br (lnF cols k p) L M1) (h3 : Br (lnF cols k q) M1 M3) (h4 : Br (lnF cols k (p + q)) L M4) (he : flS M4 = flS L) (hlow : lowS cols (p + q) L = false) : EqC M3 M4 := by
  have hk := h4.flS (lnF_inj cols k (p + q)) hL ho hn he
  have hc : ∀ x ∈ L, alC (lnF cols k q) (alC (lnF cols k p) x.2) = alC (lnF cols k (p + q)) x.2 := fun x hx => twice_ct hl hp hq (hL.gd x hx) (hk x hx) (by
    unfold lowS at hlow
    rw [List.any_eq_false] at hlow
    simpa using hlow x hx)
  have key : ∀ x ∈ L, (lnF cols k p (x.1, x.1)).bind (lnF cols k q) = lnF cols k (p + q) (x.1, x.1) := fun x hx => cell_in_in hl hp hq (hL.at' x hx)
  refine eqC_mem (once_nodup h3.once) (once_nodup h4.once) (fun y => ?_)
  rw [h3.mem, h4.mem, brL_mem, brL_mem]
  constructor
  · rintro ⟨z, hz, b', hb', rfl⟩
    obtain ⟨x, hx, b, hb, rfl⟩ := brL_mem.1 ((h1.mem z).1 hz)
    have hk2 := key x hx
    rw [hb, Option.bind_some, ← show (b.1, b.1) = b from Prod.ext rfl ((lnF_ok hl).cell _ b hb)] at hk2
    exact ⟨x, hx, b', by rw [← hk2]; exact hb', by rw [← hc x hx]⟩
  · rintro ⟨x, hx, b', hb', rfl⟩
    have hk2 := key x hx
    rw [hb'] at hk2
    cases eb : lnF cols k p (x.1, x.1) with
    | none => rw [eb] at hk2; cases hk2
    | some b =>
      rw [eb, Option.bind_some, ← show (b.1, b.1) = b from Prod.ext rfl ((lnF_ok hl).cell _ b eb)] at hk2
      exact ⟨(b.1, alC (lnF cols k p) x.2), (h1.mem _).2 (brL_mem.2 ⟨x, hx, b, eb, rfl⟩), b', hk2, by rw [hc x hx]⟩
theorem out_eq (hl : lnOk cols k (-p)) (hp : 0 < p) (hq : 0 < q) (hL : Ok17 L) (h5 : Br (lnF cols k (-p)) L M5) (h6 : Br (lnF cols k (-q)) M5 M6) (h7 : Br (lnF cols k (-p - q)) L M7) : EqC M6 M7 := by
  have hc : ∀ x ∈ L, alC (lnF cols k (-q)) (alC (lnF cols k (-p)) x.2) = alC (lnF cols k (-p - q)) x.2 := fun x hx => out_ct hl hp hq (hL.gd x hx)
  have key : ∀ x ∈ L, (lnF cols k (-p) (x.1, x.1)).bind (lnF cols k (-q)) = lnF cols k (-p - q) (x.1, x.1) := fun x hx => then_out_out hl hp hq (cell_ok (hL.at' x hx))
  refine eqC_mem (once_nodup h6.once) (once_nodup h7.once) (fun y => ?_)
  rw [h6.mem, h7.mem, brL_mem, brL_mem]
  constructor
  · rintro ⟨z, hz, b', hb', rfl⟩
    obtain ⟨x, hx, b, hb, rfl⟩ := brL_mem.1 ((h5.mem z).1 hz)
    have hk2 := key x hx
    rw [hb, Option.bind_some, ← show (b.1, b.1) = b from Prod.ext rfl ((lnF_ok hl).cell _ b hb)] at hk2
    exact ⟨x, hx, b', by rw [← hk2]; exact hb', by rw [← hc x hx]⟩
  · rintro ⟨x, hx, b', hb', rfl⟩
    have hk2 := key x hx
    rw [hb'] at hk2
    cases eb : lnF cols k (-p) (x.1, x.1) with
    | none => rw [eb] at hk2; cases hk2
    | some b =>
      rw [eb, Option.bind_some, ← show (b.1, b.1) = b from Prod.ext rfl ((lnF_ok hl).cell _ b eb)] at hk2
      exact ⟨(b.1, alC (lnF cols k (-p)) x.2), (h5.mem _).2 (brL_mem.2 ⟨x, hx, b, eb, rfl⟩), b', hk2, by rw [hc x hx]⟩
end
end Go.Proofs.YtbkcebbddhaifaaGreatDoor
namespace Go.Proofs.YtbkcebbddhaifaaGreatDoor
open Go.RowKit Go.Maps Go.Sort Go.Lib Go.Shelf
attribute [local go_sem] Oper.semAt_some

theorem br_of {f : Fate} {L M : List Cc} {w w' : World} {g : Nat} (h : BrR f L w w' g M) : Br f L M := ⟨h.ok, h.gi.once', h.mem⟩
theorem nil_ptr (g : Nat) (w : World) : (binOp .eql 24 (.pointer (some ⟨g, 0, none⟩)) (.pointer none)).run Tryz.prog w = .ok (.bool false) w := by
  simp [go_sem]
theorem gd_kind6 {a : Ct} (h : Gd a) : a.k = 1 ∨ a.k = 2 := by
  have hv := h.val
  have hk := h.k
  unfold gv validC at hv
  simp only [Bool.or_eq_true, Bool.and_eq_true, beq_iff_eq] at hv
  rcases hv with (q | q) | q
  · exact absurd q.1 hk
  · exact .inl q.1
  · exact .inr q.1
theorem neq_ptr (g : Nat) (w : World) : (binOp .neq 24 (.pointer (some ⟨g, 0, none⟩)) (.pointer none)).run Tryz.prog w = .ok (.bool true) w := by
  simp [go_sem]
set_option maxRecDepth 40000 in
set_option maxHeartbeats 80000000 in
theorem back_law22 (vl : Value) (xl : List (Cc × Value)) (cols : Bool) (line n m : Int) (w : World) (hl : PutsIn w vl xl) (hline : I64 line) (hn : I64 n) (hm : I64 m) (hv : VS w) :
    Calls Tryz.prog 6 #[vl, .bool cols, .int .i64 line, .int .i64 n, .int .i64 m] w fun e w' => e = .returned (.bool true) ∧ Kp w w' Nul := by
  have HMade : Hid (∀ wq, Kp w wq Nul → Calls Tryz.prog 18 #[vl] wq fun e w' => ∃ g L, e = .returned (.pointer (some ⟨g, 0, none⟩)) ∧ GI wq.heap.size w' g L ∧ Ok17 L ∧ Kp wq w' Nul) := fun wq k => made22 vl xl wq (hl.kp k) (hv.kp k)
  have HKn : Hid (∀ wq, Kp w wq Nul → Calls Tryz.prog 9 #[] wq fun e w' => e = .returned (.bool true) ∧ Kp wq w' Nul) := fun wq k => known22 wq (hv.kp k)
  have HPl : Hid (∀ wq, Calls Tryz.prog 19 #[.bool cols, .int .i64 line] wq fun e w' => (∃ k : Int, e = .returned (.int .i64 k) ∧ 1 ≤ k ∧ k ≤ (if cols then 256 else 4096)) ∧ w' = wq) := fun wq => place22 cols line hline wq
  have HPn : Hid (∀ wq, Calls Tryz.prog 20 #[.int .i64 n, .int .i64 40] wq fun e w' => (∃ r : Int, e = .returned (.int .i64 r) ∧ 0 ≤ r ∧ r < 40) ∧ w' = wq) := fun wq => (pick22 n 40 hn (by decide) wq).mono fun e w' ⟨q1, q2⟩ => ⟨⟨_, q1, by omega, (pkf_val n 40 (by decide)).2⟩, q2⟩
  have HPm : Hid (∀ wq, Calls Tryz.prog 20 #[.int .i64 m, .int .i64 40] wq fun e w' => (∃ r : Int, e = .returned (.int .i64 r) ∧ 0 ≤ r ∧ r < 40) ∧ w' = wq) := fun wq => (pick22 m 40 hm (by decide) wq).mono fun e w' ⟨q1, q2⟩ => ⟨⟨_, q1, by omega, (pkf_val m 40 (by decide)).2⟩, q2⟩
  have HLn : Hid (∀ g L (k p : Int) wq, GI 0 wq g L → Ok17 L → Kp w wq Nul → Calls Tryz.prog 21 #[.pointer (some ⟨g, 0, none⟩), .bool cols, .int .i64 k, .int .i64 p] wq fun e w' => ∃ v u, e = .returned (.tuple #[v, u]) ∧ LnR cols k p L wq w' (.tuple #[v, u])) := fun g L k p wq h1 h2 h3 => lines22 cols k p g L wq h1 h2 (hv.kp h3)
  clear hl hline hn hm hv
  refine (callsIn_wide (n := 12)).1 ?_
  refine callsIn_of_wp_marks Tryz.func6 rfl trivial ?_ rfl
  simp only [Tryz.ntmps6, List.size_toArray, List.length_cons, List.length_nil, Nat.reduceAdd, Nat.reduceSub, Array.replicate_succ, Array.replicate_zero, List.push_toArray, List.append_toArray, List.nil_append, List.cons_append]
  refine wpIn_wide.2 ?_
  go_wp2_with fail
  obtain ⟨W0, hW0⟩ : ∃ W0, w.alloc (.cells #[.bool false] 4) = W0 := ⟨_, rfl⟩
  rw [hW0]
  have s0 : W0.heap.size = w.heap.size + 1 := by rw [← hW0, World.size_alloc]
  have k0 : Kp w W0 Nul := by rw [← hW0]; exact (Kp.refl w Nul).alloc _
  have b0 : Blk W0 w.heap.size [.bool false] 4 := by rw [← hW0]; exact Blk.new w _ _
  clear hW0
  refine (HMade.out W0 k0).mono ?_
  rintro e w1 ⟨g, L, rfl, hg1, hL, hk1⟩
  have HG : Hid (∀ wq, Kp w1 wq Nul → GI 0 wq g L) := fun wq k => (GridIn.mono hg1 (fun _ _ => Nat.zero_le _)).kp k
  have HOn : Hid (L.Pairwise (fun x y => x.1 ≠ y.1)) := hg1.once
  have HLw : Hid (∀ wq, Kp w1 wq Nul → GridIn wq (fun b => b < w1.heap.size) g L) := fun wq k => (show GI 0 w1 g L from GridIn.mono hg1 (fun _ _ => Nat.zero_le _)).low.kp k
  have HOk : Hid (Ok17 L) := hL
  have HK1 : Hid (Kp w w1 Nul) := k0.trans hk1
  have HR : Hid (∀ wq, Kp w1 wq Nul → Blk wq w.heap.size [.bool false] 4) := fun wq k => (b0.kp hk1 (fun x => x)).kp k (fun x => x)
  have HS1 : Hid (w.heap.size < w1.heap.size) := (HR.out w1 (Kp.refl _ _)).lt
  clear s0 k0 b0 hg1 hL hk1 HMade
  go_wp2_with fail
  refine (HKn.out w1 HK1.out).mono ?_
  rintro e w2 ⟨rfl, hk2⟩
  have K2 : Hid (Kp w1 w2 Nul) := hk2
  clear hk2 HKn
  go_wp2_with fail
  refine (HPl.out w2).mono ?_
  rintro e w2' ⟨⟨k, rfl, hka, hkb⟩, hw⟩
  subst hw
  clear HPl
  go_wp2_with fail
  refine (HPn.out _).mono ?_
  rintro e w3 ⟨⟨r, rfl, hr0, hr1⟩, hw⟩
  subst hw
  obtain ⟨p, hp⟩ : ∃ p, 1 + r = p := ⟨_, rfl⟩
  have hpa : 1 ≤ p := by omega
  have hpb : p ≤ 40 := by omega
  clear HPn
  go_wp2_with fail
  refine (HPm.out _).mono ?_
  rintro e w3 ⟨⟨r2, rfl, hr20, hr21⟩, hw⟩
  subst hw
  obtain ⟨q, hq⟩ : ∃ q, 1 + r2 = q := ⟨_, rfl⟩
  have hqa : 1 ≤ q := by omega
  have hqb : q ≤ 40 := by omega
  have HB : Hid (1 ≤ p ∧ p ≤ 40 ∧ 1 ≤ q ∧ q ≤ 40) := ⟨hpa, hpb, hqa, hqb⟩
  have HOL : Hid (∀ z : Int, -80 ≤ z → z ≤ 80 → lnOk cols k z) := fun z h1 h2 => by
    unfold lnOk
    cases cols
    · exact ⟨hka, hkb, by simp; omega, by simp; omega⟩
    · exact ⟨hka, hkb, by simp; omega, by simp; omega⟩
  clear HPm hka hkb
  go_wp2_with fail
  refine (HLn.out g L k p _ (HG.out _ K2.out) HOk.out (HK1.out.trans K2.out)).mono ?_
  rintro e w4 ⟨v, u, rfl, hR⟩
  cases hR with
  | bad h _ => exact absurd (HOL.out p (by omega) (by omega)) h
  | off _ _ _ k4 =>
    have K4 : Hid (Kp w1 w4 Nul) := K2.out.trans k4
    clear k4
    go_wp2_with (first | (refine wpList_store_var rfl 4 (.tmp 10) (.tmp 63) rfl w.heap.size rfl (.bool true) rfl rfl 4 (.bool false) (HR.out _ K4.out) (by kernel_rfl) ?_; intro w5 hb5 hk5) | fail)
    refine ⟨_, results_bool rfl rfl hb5, rfl, ?_⟩
    exact (HK1.out.trans K4.out).trans' hk5 (fun i hi e => by have e' : i = w.heap.size := e; omega)
  | ok _ hlo g1 M1 hb1 =>
    have K4 : Hid (Kp w1 w4 Nul) := K2.out.trans hb1.kp
    have HBr1 : Hid (Br (lnF cols k p) L M1) := br_of hb1
    have HG1 : Hid (∀ wq, Kp w4 wq Nul → GI 0 wq g1 M1) := fun wq k => GridIn.mono (hb1.gi.kp k) (fun _ _ => Nat.zero_le _)
    have HN1 : Hid (∀ x ∈ L, lnF cols k p (x.1, x.1) ≠ none) := lostB_none (by
      cases hlb : lostB (lnF cols k p) L with
      | false => rfl
      | true => exact absurd ⟨by omega, hlb⟩ hlo)
    have HO1 : Hid (Ok17 M1) := hb1.ok
    clear hb1 hlo K2
    have hng : ∀ (b : Nat) (wq : World), (binOp .eql 24 (.pointer (some ⟨b, 0, none⟩)) (.pointer none)).run Tryz.prog wq = .ok (.bool false) wq := nil_ptr
    go_wp2_with fail
    refine (HLn.out g1 M1 k (-p) _ (HG1.out _ (Kp.refl _ _)) HO1.out (HK1.out.trans K4.out)).mono ?_
    rintro e w5 ⟨v, u, rfl, hR⟩
    cases hR with
    | bad h _ => exact absurd (HOL.out (-p) (by omega) (by omega)) h
    | off _ h _ _ => exact absurd h (by omega)
    | ok _ _ g2 M2 hb2 =>
      have K5 : Hid (Kp w1 w5 Nul) := K4.out.trans hb2.kp
      have K45 : Hid (Kp w4 w5 Nul) := hb2.kp
      have HBr2 : Hid (Br (lnF cols k (-p)) M1 M2) := br_of hb2
      have HG2 : Hid (∀ wq, Kp w5 wq Nul → GI 0 wq g2 M2) := fun wq k => GridIn.mono (hb2.gi.kp k) (fun _ _ => Nat.zero_le _)
      have HO2 : Hid (Ok17 M2) := hb2.ok
      have HLen1 : Hid (M1.length = L.length) := HBr1.out.len (lnF_inj cols k p) HOk.out HOn.out HN1.out
      have HLen2 : Hid (M2.length = L.length) := (HBr2.out.len (lnF_inj cols k (-p)) HO1.out HBr1.out.once (back_none (HOL.out p (by omega) (by omega)) (by omega) HOk.out HBr1.out)).trans HLen1.out
      clear hb2
      obtain ⟨W5, hW5⟩ : ∃ W5, w5.alloc (.cells #[.pointer (some ⟨g2, 0, none⟩)] 24) = W5 := ⟨_, rfl⟩
      have K55 : Hid (Kp w5 W5 Nul) := by show Kp _ _ _; rw [← hW5]; exact (Kp.refl _ _).alloc _
      have HB5 : Hid (∀ wq, Kp W5 wq Nul → Blk wq w5.heap.size [.pointer (some ⟨g2, 0, none⟩)] 24) := fun wq k => by
        have : Blk W5 w5.heap.size [.pointer (some ⟨g2, 0, none⟩)] 24 := by rw [← hW5]; exact Blk.new w5 _ _
        exact this.kp k (fun x => x)
      have HW5 : Hid (w5.alloc (.cells #[.pointer (some ⟨g2, 0, none⟩)] 24) = W5) := hW5
      have K1W : Hid (Kp w1 W5 Nul) := K5.out.trans K55.out
      have K4W : Hid (Kp w4 W5 Nul) := K45.out.trans K55.out
      have HLeg : Hid (∀ wq, Kp W5 wq Nul → Calls Tryz.prog 22 #[.pointer (some ⟨g, 0, none⟩)] wq fun e w' => e = .returned (.int .i64 L.length) ∧ w' = wq) := fun wq k => len_at wq _ g L (HG.out wq (K1W.out.trans k))
      have HLe1 : Hid (∀ wq, Kp W5 wq Nul → Calls Tryz.prog 22 #[.pointer (some ⟨g1, 0, none⟩)] wq fun e w' => e = .returned (.int .i64 L.length) ∧ w' = wq) := fun wq k => by have := len_at wq _ g1 M1 (HG1.out wq (K4W.out.trans k)); rw [HLen1.out] at this; exact this
      have HLe2 : Hid (∀ wq, Kp W5 wq Nul → Calls Tryz.prog 22 #[.pointer (some ⟨g2, 0, none⟩)] wq fun e w' => e = .returned (.int .i64 L.length) ∧ w' = wq) := fun wq k => by have := len_at wq _ g2 M2 (HG2.out wq (K55.out.trans k)); rw [HLen2.out] at this; exact this
      have l17 : W5.cell? ⟨w5.heap.size, 0, none⟩ = some (.pointer (some ⟨g2, 0, none⟩)) := (HB5.out W5 (Kp.refl _ _)).cell rfl
      have l17' : (w5.alloc (.cells #[.pointer (some ⟨g2, 0, none⟩)] 24)).cell? ⟨w5.heap.size, 0, none⟩ = some (.pointer (some ⟨g2, 0, none⟩)) := by rw [hW5]; exact l17
      clear hW5
      go_wp2_with fail
      rw [HW5.out]
      refine (HLe2.out _ (Kp.refl _ _)).mono ?_
      rintro e wz ⟨rfl, hz⟩; replace hz := hz.symm; subst hz
      go_wp2_with fail
      refine (HLeg.out _ (Kp.refl _ _)).mono ?_
      rintro e wz ⟨rfl, hz⟩; replace hz := hz.symm; subst hz
      go_wp2_with fail
      refine (HLe1.out _ (Kp.refl _ _)).mono ?_
      rintro e wz ⟨rfl, hz⟩; replace hz := hz.symm; subst hz
      go_wp2_with fail
      refine (HLeg.out _ (Kp.refl _ _)).mono ?_
      rintro e wz ⟨rfl, hz⟩; replace hz := hz.symm; subst hz
      have HBk : Hid (flS M1 = flS L → lowS cols p L = false → EqC M2 L) := fun h1 h2 => back_eq (HOL.out p (by omega) (by omega)) (by omega) HOk.out HOn.out HN1.out HBr1.out HBr2.out h1 h2
      have HLo1 : Hid (∀ wq, Kp W5 wq Nul → Calls Tryz.prog 23 #[.pointer (some ⟨g1, 0, none⟩)] wq fun e w' => e = .returned (.int .i64 (flS M1 : Nat)) ∧ Kp wq w' Nul) := fun wq k => lost22_at g1 M1 wq (HG1.out wq (K4W.out.trans k)) HO1.out
      have HLog : Hid (∀ wq, Kp W5 wq Nul → Calls Tryz.prog 23 #[.pointer (some ⟨g, 0, none⟩)] wq fun e w' => e = .returned (.int .i64 (flS L : Nat)) ∧ Kp wq w' Nul) := fun wq k => lost22_at g L wq (HG.out wq (K1W.out.trans k)) HOk.out
      have HLow : Hid (∀ z wq, 0 ≤ z → z ≤ 80 → Kp W5 wq Nul → Calls Tryz.prog 24 #[.pointer (some ⟨g, 0, none⟩), .bool cols, .int .i64 z] wq fun e w' => e = .returned (.bool (lowS cols z L)) ∧ Kp wq w' Nul) := fun z wq h1 h2 k => low22_at g L cols z wq (HG.out wq (K1W.out.trans k)) HOk.out h1 (by omega)
      have HEq2 : Hid (∀ wq, Kp W5 wq Nul → EqC M2 L → Calls Tryz.prog 25 #[.pointer (some ⟨g2, 0, none⟩), .pointer (some ⟨g, 0, none⟩)] wq fun e w' => e = .returned (.bool true) ∧ Kp wq w' Nul) := fun wq k he => by
        have := equal_at g2 g M2 L wq (HG2.out wq (K55.out.trans k)) (HG.out wq (K1W.out.trans k)) HO2.out.okC HOk.out.okC
        rw [eqC_true he] at this
        exact this
      obtain ⟨A0, hA0⟩ : ∃ A0, flS L = A0 := ⟨_, rfl⟩
      have HA0 : Hid (flS L = A0) := hA0
      rw [hA0] at HBk HLog
      clear hA0
      obtain ⟨A1, hA1⟩ : ∃ A1, flS M1 = A1 := ⟨_, rfl⟩
      rw [hA1] at HBk HLo1
      clear hA1 HLe1 HLe2 HLeg HW5 l17 l17'
      go_upto_region 15 with fail
      go_cut [19] from 95 to 106 (fun s wx => ∃ B : Bool, s = .bool B ∧ (B = true → EqC M2 L) ∧ Kp W5 wx Nul)
      case first =>
        go_wp2_with fail
        refine (HLo1.out _ (Kp.refl _ _)).mono ?_
        rintro e wa ⟨rfl, hka⟩
        have Ka : Hid (Kp W5 wa Nul) := hka
        clear hka
        go_wp2_with fail
        refine (HLog.out _ Ka.out).mono ?_
        rintro e wb ⟨rfl, hkb⟩
        have Kb : Hid (Kp W5 wb Nul) := Ka.out.trans hkb
        clear hkb
        by_cases he : A1 = A0
        · subst he
          go_wp2_with fail
          refine (HLow.out p _ (by omega) (by omega) Kb.out).mono ?_
          rintro e wc ⟨rfl, hkc⟩
          have Kc : Hid (Kp W5 wc Nul) := Kb.out.trans hkc
          clear hkc
          cases hlw : lowS cols p L
          · go_wp2_with fail
            go_meet
            case rel => exact ⟨true, rfl, fun _ => HBk.out (by trivial) hlw, Kc.out⟩
          · go_wp2_with fail
            go_meet
            case rel => exact ⟨false, rfl, fun h => (by cases h), Kc.out⟩
        · have he' : ¬ (A1 : Int) = (A0 : Int) := by omega
          go_wp2_with fail
          go_meet
          case rel => exact ⟨false, rfl, fun h => (by cases h), Kb.out⟩
      case rest =>
        obtain ⟨B, rfl, hBe, hkx⟩ := hcut
        have HBe : Hid (B = true → EqC M2 L) := hBe
        have KX : Hid (Kp W5 wc Nul) := hkx
        clear hBe hkx HLo1 HBk
        rename World => wx
        go_upto_region 16 with fail
        go_cut [113] from 107 to 112 (fun s wz => s = .bool false ∧ Kp W5 wz Nul)
        case first =>
          cases B
          · go_wp2_with fail
            go_meet
            case rel => exact ⟨rfl, KX.out⟩
          · have HEq : Hid (EqC M2 L) := HBe.out rfl
            clear HBe
            have l17 : wx.cell? ⟨w5.heap.size, 0, none⟩ = some (.pointer (some ⟨g2, 0, none⟩)) := (HB5.out _ KX.out).cell rfl
            go_wp2_with fail
            refine (HEq2.out _ KX.out HEq.out).mono ?_
            rintro e wy ⟨rfl, hky⟩
            have Ky : Hid (Kp W5 wy Nul) := KX.out.trans hky
            clear hky l17
            go_wp2_with fail
            go_meet
            case rel => exact ⟨rfl, Ky.out⟩
        case rest =>
          obtain ⟨rfl, hky⟩ := hcut
          have KY : Hid (Kp W5 wc Nul) := hky
          clear hky HEq2 HBe KX
          rename World => wy
          have HAll : Hid (Calls Tryz.prog 26 #[.pointer (some ⟨g, 0, none⟩)] wy fun e w' => ∃ x0 x1, e = .returned (.func (.func 121) #[] #[.pointer (some ⟨x0, 0, none⟩), .pointer (some ⟨x1, 0, none⟩)]) ∧ Blk w' x0 [.pointer (some ⟨g, 0, none⟩)] 24 ∧ Blk w' x1 [.int .i64 1, .int .i64 1, .int .i64 256, .int .i64 4096] 34 ∧ Kp wy w' Nul) := all22 g wy
          go_wp2_with fail
          refine HAll.out.mono ?_
          rintro e w6 ⟨x0, x1, rfl, hb0, hb1, hk6⟩
          have K56 : Hid (Kp W5 w6 Nul) := KY.out.trans hk6
          have HX0 : Hid (Blk w6 x0 [.pointer (some ⟨g, 0, none⟩)] 24) := hb0
          have HX1 : Hid (Blk w6 x1 [.int .i64 1, .int .i64 1, .int .i64 256, .int .i64 4096] 34) := hb1
          clear hb0 hb1 hk6 HAll KY
          go_wp2_with fail
          obtain ⟨K, hKs, hKm⟩ := in_order HOn.out
          have HKs : Hid (Strict (K.map (·.1))) := hKs
          have HKm : Hid (∀ x, x ∈ K ↔ x ∈ L) := hKm
          have K16 : Hid (Kp w1 w6 Nul) := K1W.out.trans K56.out
          have HS16 : Hid (w1.heap.size ≤ w6.heap.size) := K16.out.size
          clear hKs hKm
          generalize hact : Act.mk _ _ = a0
          refine wp_range_ow2 (α := (Cc × Value) × List Nat) (N := K.length) (gf := 121) (lb := #[.pointer (some ⟨x0, 0, none⟩), .pointer (some ⟨x1, 0, none⟩)]) (by rw [← hact]; rfl) (enters_of Tryz.func121 (by kernel_rfl) rfl) (encs := encQ) wtQ (fun _ => rfl) (TellQ w6 K) ?hT (fun _ => False) ?hseq (fun _ Z W => (∀ i, ¬ Z i) ∧ Kp w6 W Nul) ?hZ ?hZl ?hI (fun _ => False) ?h0 ?hround ?hdone
          case hT => rintro k x Z W ⟨_, _, _, h⟩; exact ⟨fun q => by have := (h _ q).1; omega, fun q => by have := (h _ q).1; omega⟩
          case hseq => exact in1_seq2 g x0 x1 w1.heap.size L K w6 _ (HG.out _ K16.out) (HLw.out _ K16.out) HOk.out.gd HOk.out.at' HOk.out.len HKs.out HKm.out HS16.out (fun i e => e.elim) HX0.out HX1.out
          case hZ => intro j Z W h; exact ⟨h.1 _, h.1 _⟩
          case hZl => intro j Z W h; exact ⟨fun i hi => absurd hi (h.1 i), fun i _ hi => absurd hi (h.1 i)⟩
          case hI =>
            intro j Z W W' h q
            exact ⟨h.1, h.2.trans' q (fun i hi e => by rcases e with e | e <;> omega)⟩
          case h0 => exact ⟨fun _ h => h, Kp.refl _ _⟩
          case hround =>
            subst hact
            rintro j ⟨⟨⟨⟨c, s⟩, a⟩, sl⟩, fp⟩ Z W KK hkN hsW hI ⟨hKk, hown, hnd, hfz⟩ hcont
            have HZ : Hid (∀ i, ¬ Z i) := hI.1
            have HKW : Hid (Kp w6 W Nul) := hI.2
            have HOwn : Hid (NdOwn W sl a.t fp) := hown
            have HFz : Hid (∀ i ∈ fp, w6.heap.size + 2 ≤ i ∧ ¬ Z i) := hfz
            have HSW : Hid (w6.heap.size + 2 ≤ W.heap.size) := hsW
            have O1 : Hid (sl.oneCell' = true) := hown.one
            have hmem : ((c, s), a) ∈ L := (HKm.out _).1 (List.mem_of_getElem? hKk)
            have HGd : Hid (Gd a) := HOk.out.gd _ hmem
            have hvc : vC c s = true := HOk.out.at' _ hmem
            obtain ⟨D, hD⟩ : ∃ D, alC (lnF cols k (-p)) (alC (lnF cols k p) a) = D := ⟨_, rfl⟩
            have hMy : ((c, s), D) ∈ M2 := (back_mem (HOL.out p (by omega) (by omega)) (by omega) HOk.out HN1.out HBr1.out HBr2.out _).2 ⟨_, hmem, by rw [hD]⟩
            have HGdD : Hid (Gd D) := HO2.out.gd _ hMy
            have HDk : Hid (D.k = a.k) := by show D.k = a.k; rw [← hD]; rfl
            have HDS : Hid (a.k = 1 → csame a D = true) := fun q => by
              have e1 : alC (lnF cols k p) a = a := alC_plain _ HGd.out.val (by omega)
              rw [← hD, e1, alC_plain _ HGd.out.val (by omega)]; exact csame_refl a
            have HGet : Hid (∀ wq, Kp W5 wq Nul → Calls Tryz.prog 27 #[.pointer (some ⟨g2, 0, none⟩), .agg #[.int .i64 c, .int .i64 s]] wq fun e w' => ∃ slD fpD, e = .returned (D.val slD) ∧ Own w' wq.heap.size slD D.t fpD ∧ Kp wq w' Nul) := fun wq q => get_in g2 M2 wq (HG2.out _ (K55.out.trans q)) HO2.out c s (by rw [vC_iff] at hvc; unfold I64; omega) (by rw [vC_iff] at hvc; unfold I64; omega) D hMy
            clear hI hKk hown hnd hfz hsW hmem HX0 HX1 hD hMy hvc
            simp only [List.zip_toArray, List.zip_cons_cons, List.zip_nil_right, List.foldl_toArray', List.foldl_cons, List.foldl_nil]
            gi_wp2_with (first
              | (refine storeIn_new' rfl 55 (.tmp 21) (.tmp 117) rfl _ _ _ _ (by first | rfl | simp) rfl rfl rfl infoContent (a.one O1.out) ?_)
              | fail)
            refine hcont _ _ (((Kp.refl W Nul).alloc _).alloc _) (fun V hV => ?_)
            have hW2 : Kp W ((W.alloc (.cells #[.int .i64 c, .int .i64 s] 32)).alloc (.cells (a.cells sl).toArray 55)) Nul := ((Kp.refl W Nul).alloc _).alloc _
            have hWV : Kp W V (fun i => i = w6.heap.size + 1) := (hW2.mono (fun _ _ q => q.elim)).trans hV
            have HKV : Hid (Kp w6 V Nul) := HKW.out.trans' hWV (fun i hi e => by have e' : i = w6.heap.size + 1 := e; omega)
            have HbA : Hid (Blk V W.heap.size [.int .i64 c, .int .i64 s] 32) := ((Blk.new W [.int .i64 c, .int .i64 s] 32).alloc _).kp hV (fun e => by have e' : W.heap.size = w6.heap.size + 1 := e; have := HSW.out; omega)
            have HbC : Hid (Blk V (W.heap.size + 1) (a.cells sl) 55) := by
              have h1 := Blk.new (W.alloc (.cells #[.int .i64 c, .int .i64 s] 32)) (a.cells sl) 55
              rw [World.size_alloc] at h1
              exact h1.kp hV (fun e => by have e' : W.heap.size + 1 = w6.heap.size + 1 := e; have := HSW.out; omega)
            have HOwnV : Hid (NdOwn V sl a.t fp) := HOwn.out.mono (fun i hi => hWV.block i (node_lt (HOwn.out.node i hi)) (fun e => by have e' : i = w6.heap.size + 1 := e; have := (HFz.out i hi).1; omega))
            clear hcont hV hW2 hWV
            have l17 : V.cell? ⟨w5.heap.size, 0, none⟩ = some (.pointer (some ⟨g2, 0, none⟩)) := (HB5.out _ (K56.out.trans HKV.out)).cell rfl
            have lA0 : V.cell? ⟨W.heap.size, 0, none⟩ = some (.int .i64 c) := HbA.out.cell rfl
            have lA1 : V.cell? ⟨W.heap.size, 1, none⟩ = some (.int .i64 s) := HbA.out.cell rfl
            gi_wp2_with fail
            refine ⟨trivial, CallsIn.inRound _ ((callsIn_wide.2 (HGet.out _ (K56.out.trans HKV.out))).mono ?_)⟩
            rintro e w8 ⟨slD, fpD, rfl, hownD, hk8⟩
            have K8 : Hid (Kp V w8 Nul) := hk8
            have HOwD : Hid (NdOwn w8 slD D.t fpD) := hownD.own
            have OND : Hid (slD.oneCell' = true) := hownD.own.one
            clear hk8 hownD HGet l17 lA0 lA1
            have HCell : Hid (∀ wq (z : Int), a.k = z → Kp w8 wq Nul → wq.cell? ⟨W.heap.size + 1, 0, none⟩ = some (.int .i64 z)) := fun wq z e q => by rw [← e]; exact (HbC.out.kp (K8.out.trans q) (fun x => x)).cell rfl
            have HEND : Hid (∀ Y, Kp V Y Nul → Kp V Y (fun i => (Z i ∨ i ∈ fp) ∨ W.heap.size ≤ i) ∧ ∃ Z', ((∀ i, ¬ Z' i) ∧ Kp w6 Y Nul) ∧ More Z Z' W) := fun Y q => ⟨q.mono (fun _ _ x => x.elim), Z, ⟨HZ.out, HKV.out.trans q⟩, fun i hi => .inl hi⟩
            rcases gd_kind6 HGd.out with hak | hak
            · have HAk : Hid (a.k = 1) := hak
              clear hak
              gi_wp2_with (first
                | (refine storeIn_new' rfl 55 (.tmp 22) (.tmp 120) rfl _ _ _ _ (by first | rfl | simp) rfl rfl rfl infoContent (D.one OND.out) ?_; generalize hW9 : w8.alloc (Obj.cells _ 55) = W9; have K9 : Hid (Kp w8 W9 Nul) := (by show Kp _ _ _; rw [← hW9]; exact (Kp.refl _ _).alloc _); have HB9 : Hid (Blk W9 w8.heap.size (D.cells slD) 55) := (by show Blk _ _ _ _; rw [← hW9]; exact Blk.new w8 _ _); have lD0 : W9.cell? ⟨w8.heap.size, 0, none⟩ = some (.int .i64 1) := (by have h := HB9.out.cell (i := 0) rfl; rw [HDk.out, HAk.out] at h; exact h); have lC0 := HCell.out W9 1 HAk.out K9.out; clear hW9)
                | (refine loadIn_content rfl (.tmp 21) rfl (W.heap.size + 1) rfl (a.cells sl).toArray (HbC.out.kp (K8.out.trans K9.out) (fun x => x)) rfl ?_)
                | (refine loadIn_content rfl (.tmp 22) rfl w8.heap.size rfl (D.cells slD).toArray HB9.out rfl ?_)
                | fail)
              have HSm : Hid (Calls Tryz.prog 28 #[.agg (a.cells sl).toArray, .agg (D.cells slD).toArray] W9 fun e w' => e = .returned (.bool true) ∧ Kp W9 w' Nul) := by
                have h := gSame_at a D sl slD (fun _ => True) (fun _ => True) W9 HGd.out.x HGdD.out.x HGd.out.ok HGdD.out.ok ((HOwnV.out.mono (fun i hi => (K8.out.trans K9.out).block i (node_lt (HOwnV.out.node i hi)) (fun x => x))).isIn (fun _ _ => trivial)) ((HOwD.out.mono (fun i hi => K9.out.block i (node_lt (HOwD.out.node i hi)) (fun x => x))).isIn (fun _ _ => trivial))
                rw [HDS.out HAk.out] at h
                exact h
              refine ⟨trivial, CallsIn.inRound _ ((callsIn_wide.2 HSm.out).mono ?_)⟩
              rintro e w10 ⟨rfl, hk10⟩
              have K10 : Hid (Kp V w10 Nul) := (K8.out.trans K9.out).trans hk10
              clear hk10 HSm lD0 lC0
              gi_wp2_with fail
              first
              | exact ⟨rfl, HEND.out _ K10.out⟩
              | exact HEND.out _ K10.out
            · have HAk : Hid (a.k = 2) := hak
              clear hak
              gi_wp2_with (first
                | (refine storeIn_new' rfl 55 (.tmp 22) (.tmp 120) rfl _ _ _ _ (by first | rfl | simp) rfl rfl rfl infoContent (D.one OND.out) ?_; generalize hW9 : w8.alloc (Obj.cells _ 55) = W9; have K9 : Hid (Kp w8 W9 Nul) := (by show Kp _ _ _; rw [← hW9]; exact (Kp.refl _ _).alloc _); have HB9 : Hid (Blk W9 w8.heap.size (D.cells slD) 55) := (by show Blk _ _ _ _; rw [← hW9]; exact Blk.new w8 _ _); have lD0 : W9.cell? ⟨w8.heap.size, 0, none⟩ = some (.int .i64 2) := (by have h := HB9.out.cell (i := 0) rfl; rw [HDk.out, HAk.out] at h; exact h); have lC0 := HCell.out W9 2 HAk.out K9.out; clear hW9)
                | fail)
              refine ⟨trivial, ?_⟩
              gi_wp2_with fail
              first
              | exact ⟨rfl, HEND.out _ (K8.out.trans K9.out)⟩
              | exact HEND.out _ (K8.out.trans K9.out)
          case hdone =>
            subst hact
            intro D Z W hD hI hdef
            have HDf : Hid (W.heap[D]? = some (.deferred (some []))) := hdef
            have HDD : Hid (w6.heap.size ≤ D) := by show _ ≤ _; omega
            have KW : Hid (Kp w1 W Nul) := K16.out.trans hI.2
            have K5X : Hid (Kp W5 W Nul) := K56.out.trans hI.2
            have HW : Hid (∀ wq, Kp W wq Nul → Kp w wq Nul) := fun wq q => HK1.out.trans (KW.out.trans q)
            clear hI hdef hD HX0 HX1 HKs HKm
            have HTw : Hid (lostB (lnF cols k q) M1 = lostB (lnF cols k (p + q)) L) := twice_lost (HOL.out p (by omega) (by omega)) (by omega) (by omega) HOk.out HN1.out HBr1.out
            have hng' : ∀ (b : Nat) (wq : World), (binOp .neq 24 (.pointer (some ⟨b, 0, none⟩)) (.pointer none)).run Tryz.prog wq = .ok (.bool true) wq := neq_ptr
            go_wp2_with fail
            refine (HLn.out g1 M1 k q _ (HG1.out _ (K4W.out.trans K5X.out)) HO1.out (HW.out _ (Kp.refl _ _))).mono ?_
            rintro e t3 ⟨v, u, rfl, hR⟩
            cases hR with
            | bad h _ => exact absurd (HOL.out q (by omega) (by omega)) h
            | off _ _ hl3 k3 =>
              have T3 : Hid (Kp W t3 Nul) := k3
              have HL3 : Hid (lostB (lnF cols k q) M1 = true) := hl3
              clear k3 hl3
              go_wp2_with fail
              refine (HLn.out g L k (p + q) _ (HG.out _ (KW.out.trans T3.out)) HOk.out (HW.out _ T3.out)).mono ?_
              rintro e t4 ⟨v, u, rfl, hR⟩
              cases hR with
              | bad h _ => exact absurd (HOL.out (p + q) (by omega) (by omega)) h
              | ok _ hlo _ _ _ => exact absurd ⟨by omega, HTw.out.symm.trans HL3.out⟩ hlo
              | off _ _ _ k4 =>
                have T4 : Hid (Kp W t4 Nul) := T3.out.trans k4
                clear k4 HL3 T3
                have HG' : Hid (∀ wq, Kp W wq Nul → GI 0 wq g L) := fun wq q => HG.out wq (KW.out.trans q)
                go_wp2_with fail
                refine (HLn.out g L k (-p) _ (HG'.out _ T4.out) HOk.out (HW.out _ T4.out)).mono ?_
                rintro e t5 ⟨v, u, rfl, hR⟩
                cases hR with
                | bad h _ => exact absurd (HOL.out (-p) (by omega) (by omega)) h
                | off _ h _ _ => exact absurd h (by omega)
                | ok _ _ g5 M5 hb5 =>
                  have T5 : Hid (Kp W t5 Nul) := T4.out.trans hb5.kp
                  have HBr5 : Hid (Br (lnF cols k (-p)) L M5) := br_of hb5
                  have HG5 : Hid (GI 0 t5 g5 M5) := GridIn.mono hb5.gi (fun _ _ => Nat.zero_le _)
                  clear hb5
                  go_wp2_with fail
                  refine (HLn.out g5 M5 k (-q) _ HG5.out HBr5.out.ok (HW.out _ T5.out)).mono ?_
                  rintro e t6 ⟨v, u, rfl, hR⟩
                  cases hR with
                  | bad h _ => exact absurd (HOL.out (-q) (by omega) (by omega)) h
                  | off _ h _ _ => exact absurd h (by omega)
                  | ok _ _ g6 M6 hb6 =>
                    have T6 : Hid (Kp W t6 Nul) := T5.out.trans hb6.kp
                    have HBr6 : Hid (Br (lnF cols k (-q)) M5 M6) := br_of hb6
                    have HG6 : Hid (∀ wq, Kp t6 wq Nul → GI 0 wq g6 M6) := fun wq q => GridIn.mono (hb6.gi.kp q) (fun _ _ => Nat.zero_le _)
                    clear hb6 HG5 T5
                    go_wp2_with fail
                    refine (HLn.out g L k (-p - q) _ (HG'.out _ T6.out) HOk.out (HW.out _ T6.out)).mono ?_
                    rintro e t7 ⟨v, u, rfl, hR⟩
                    cases hR with
                    | bad h _ => exact absurd (HOL.out (-p - q) (by omega) (by omega)) h
                    | off _ h _ _ => exact absurd h (by omega)
                    | ok _ _ g7 M7 hb7 =>
                      have T7 : Hid (Kp W t7 Nul) := T6.out.trans hb7.kp
                      have HEq : Hid (Calls Tryz.prog 25 #[.pointer (some ⟨g6, 0, none⟩), .pointer (some ⟨g7, 0, none⟩)] t7 fun e w' => e = .returned (.bool true) ∧ Kp t7 w' Nul) := by
                        have h := equal_at g6 g7 M6 M7 t7 (HG6.out _ hb7.kp) (GridIn.mono hb7.gi (fun _ _ => Nat.zero_le _)) HBr6.out.ok.okC hb7.ok.okC
                        rw [eqC_true (out_eq (HOL.out (-p) (by omega) (by omega)) (by omega) (by omega) HOk.out HBr5.out HBr6.out (br_of hb7))] at h
                        exact h
                      clear hb7 HG6 T6
                      go_wp2_with fail
                      refine HEq.out.mono ?_
                      rintro e t8 ⟨rfl, hk8⟩
                      have T8 : Hid (Kp W t8 Nul) := T7.out.trans hk8
                      have HR8 : Hid (Blk t8 w.heap.size [.bool false] 4) := HR.out _ (KW.out.trans T8.out)
                      clear hk8 HEq T7
                      go_wp2_with (first | (refine wpList_store_var rfl 4 (.tmp 10) (.tmp 245) rfl w.heap.size rfl (.bool true) rfl rfl 4 (.bool false) HR8.out (by kernel_rfl) ?_; intro X hbX hkX) | fail)
                      have hne : ¬ w.heap.size = D := by have := HDD.out; have := HS1.out; have := HS16.out; omega
                      have hD1 : t8.heap[D]? = some (.deferred (some [])) := (T8.out.block D (Array.getElem?_eq_some_iff.1 HDf.out).1 (fun x => x)).trans HDf.out
                      have hD2 : X.heap[D]? = some (.deferred (some [])) := (hkX.block D (Array.getElem?_eq_some_iff.1 hD1).1 (fun e => hne (Eq.symm e))).trans hD1
                      refine ⟨by simp, .inl ⟨_, _, rfl, run_takeDeferred hD2, ?_⟩⟩
                      have q1 : Blk (X.putObj D (.deferred none)) w.heap.size [.bool true] 4 := hbX.kp putObj_self (fun e => hne e)
                      refine ⟨_, results_bool rfl rfl q1, rfl, ?_⟩
                      exact putObj_kp ((HW.out _ T8.out).trans' hkX (fun i hi e => by have e' : i = w.heap.size := e; omega)) (by have := HDD.out; have := HS1.out; have := HS16.out; omega)
            | ok _ hlo3 g3 M3 hb3 =>
              have T3 : Hid (Kp W t3 Nul) := hb3.kp
              have HBr3 : Hid (Br (lnF cols k q) M1 M3) := br_of hb3
              have HG3 : Hid (∀ wq, Kp t3 wq Nul → GI 0 wq g3 M3) := fun wq q => GridIn.mono (hb3.gi.kp q) (fun _ _ => Nat.zero_le _)
              have HL3 : Hid (¬ (0 < q ∧ lostB (lnF cols k q) M1 = true)) := hlo3
              clear hb3 hlo3
              go_wp2_with fail
              refine (HLn.out g L k (p + q) _ (HG.out _ (KW.out.trans T3.out)) HOk.out (HW.out _ T3.out)).mono ?_
              rintro e t4 ⟨v, u, rfl, hR⟩
              cases hR with
              | bad h _ => exact absurd (HOL.out (p + q) (by omega) (by omega)) h
              | off _ _ hl4 _ => exact absurd ⟨by omega, HTw.out.trans hl4⟩ HL3.out
              | ok _ hlo4 g4 M4 hb4 =>
                have T4 : Hid (Kp W t4 Nul) := T3.out.trans hb4.kp
                have HBr4 : Hid (Br (lnF cols k (p + q)) L M4) := br_of hb4
                have HG4 : Hid (∀ wq, Kp t4 wq Nul → GI 0 wq g4 M4) := fun wq q => GridIn.mono (hb4.gi.kp q) (fun _ _ => Nat.zero_le _)
                have HK34 : Hid (Kp t3 t4 Nul) := hb4.kp
                have HN4 : Hid (∀ x ∈ L, lnF cols k (p + q) (x.1, x.1) ≠ none) := lostB_none (by
                  cases hlb : lostB (lnF cols k (p + q)) L with
                  | false => rfl
                  | true => exact absurd ⟨by omega, hlb⟩ hlo4)
                have HEq34 : Hid (∀ wq, Kp t4 wq Nul → flS M4 = A0 → lowS cols (p + q) L = false → Calls Tryz.prog 25 #[.pointer (some ⟨g3, 0, none⟩), .pointer (some ⟨g4, 0, none⟩)] wq fun e w' => e = .returned (.bool true) ∧ Kp wq w' Nul) := fun wq kk e1 e2 => by
                  have h := equal_at g3 g4 M3 M4 wq (HG3.out _ (HK34.out.trans kk)) (HG4.out _ kk) HBr3.out.ok.okC HBr4.out.ok.okC
                  rw [eqC_true (twice_eq (HOL.out p (by omega) (by omega)) (by omega) (by omega) HOk.out HOn.out HN4.out HBr1.out HBr3.out HBr4.out (e1.trans HA0.out.symm) e2)] at h
                  exact h
                have HLo4 : Hid (∀ wq, Kp t4 wq Nul → Calls Tryz.prog 23 #[.pointer (some ⟨g4, 0, none⟩)] wq fun e w' => e = .returned (.int .i64 (flS M4 : Nat)) ∧ Kp wq w' Nul) := fun wq k => lost22_at g4 M4 wq (HG4.out wq k) HBr4.out.ok
                clear hb4 hlo4 HL3 HTw HN4
                obtain ⟨A4, hA4⟩ : ∃ A4, flS M4 = A4 := ⟨_, rfl⟩
                rw [hA4] at HEq34 HLo4
                clear hA4
                have hpq0 : 0 ≤ p + q := by omega
                go_upto_region 30 with fail
                go_cut [191] from 168 to 190 (fun s wz => s = .bool false ∧ Kp t4 wz Nul)
                case first =>
                  go_wp2_with fail
                  refine (HLo4.out _ (Kp.refl _ _)).mono ?_
                  rintro e wa ⟨rfl, hka⟩
                  have Ka : Hid (Kp t4 wa Nul) := hka
                  clear hka
                  go_wp2_with fail
                  refine (HLog.out _ ((K5X.out.trans T4.out).trans Ka.out)).mono ?_
                  rintro e wb ⟨rfl, hkb⟩
                  have Kb : Hid (Kp t4 wb Nul) := Ka.out.trans hkb
                  clear hkb
                  by_cases he : A4 = A0
                  · have HEq : Hid (∀ wq, Kp t4 wq Nul → lowS cols (p + q) L = false → Calls Tryz.prog 25 #[.pointer (some ⟨g3, 0, none⟩), .pointer (some ⟨g4, 0, none⟩)] wq fun e w' => e = .returned (.bool true) ∧ Kp wq w' Nul) := fun wq kk e2 => HEq34.out wq kk he e2
                    clear HEq34
                    subst he
                    go_wp2_with fail
                    refine (HLow.out (p + q) _ (by omega) (by omega) ((K5X.out.trans T4.out).trans Kb.out)).mono ?_
                    rintro e wd ⟨rfl, hkc⟩
                    have Kc : Hid (Kp t4 wd Nul) := Kb.out.trans hkc
                    clear hkc
                    cases hlw : lowS cols (p + q) L
                    · have HEq' : Hid (Calls Tryz.prog 25 #[.pointer (some ⟨g3, 0, none⟩), .pointer (some ⟨g4, 0, none⟩)] wd fun e w' => e = .returned (.bool true) ∧ Kp wd w' Nul) := HEq.out _ Kc.out hlw
                      clear hlw HEq
                      go_wp2_with fail
                      refine HEq'.out.mono ?_
                      rintro e we ⟨rfl, hke⟩
                      have Ke : Hid (Kp t4 we Nul) := Kc.out.trans hke
                      clear hke HEq'
                      go_wp2_with fail
                      go_meet
                      case rel => exact ⟨rfl, Ke.out⟩
                    · clear hlw HEq
                      go_wp2_with fail
                      go_meet
                      case rel => exact ⟨rfl, Kc.out⟩
                  · have he' : ¬ (A4 : Int) = (A0 : Int) := by omega
                    clear HEq34
                    go_wp2_with fail
                    go_meet
                    case rel => exact ⟨rfl, Kb.out⟩
                case rest =>
                  obtain ⟨rfl, hkz⟩ := hcut
                  have TZ : Hid (Kp W wc Nul) := T4.out.trans hkz
                  clear hkz HEq34 HLo4 HG3 HG4
                  have HG' : Hid (∀ wq, Kp W wq Nul → GI 0 wq g L) := fun wq q => HG.out wq (KW.out.trans q)
                  go_wp2_with fail
                  refine (HLn.out g L k (-p) _ (HG'.out _ TZ.out) HOk.out (HW.out _ TZ.out)).mono ?_
                  rintro e t5 ⟨v, u, rfl, hR⟩
                  cases hR with
                  | bad h _ => exact absurd (HOL.out (-p) (by omega) (by omega)) h
                  | off _ h _ _ => exact absurd h (by omega)
                  | ok _ _ g5 M5 hb5 =>
                    have T5 : Hid (Kp W t5 Nul) := TZ.out.trans hb5.kp
                    have HBr5 : Hid (Br (lnF cols k (-p)) L M5) := br_of hb5
                    have HG5 : Hid (GI 0 t5 g5 M5) := GridIn.mono hb5.gi (fun _ _ => Nat.zero_le _)
                    clear hb5
                    go_wp2_with fail
                    refine (HLn.out g5 M5 k (-q) _ HG5.out HBr5.out.ok (HW.out _ T5.out)).mono ?_
                    rintro e t6 ⟨v, u, rfl, hR⟩
                    cases hR with
                    | bad h _ => exact absurd (HOL.out (-q) (by omega) (by omega)) h
                    | off _ h _ _ => exact absurd h (by omega)
                    | ok _ _ g6 M6 hb6 =>
                      have T6 : Hid (Kp W t6 Nul) := T5.out.trans hb6.kp
                      have HBr6 : Hid (Br (lnF cols k (-q)) M5 M6) := br_of hb6
                      have HG6 : Hid (∀ wq, Kp t6 wq Nul → GI 0 wq g6 M6) := fun wq q => GridIn.mono (hb6.gi.kp q) (fun _ _ => Nat.zero_le _)
                      clear hb6 HG5 T5
                      go_wp2_with fail
                      refine (HLn.out g L k (-p - q) _ (HG'.out _ T6.out) HOk.out (HW.out _ T6.out)).mono ?_
                      rintro e t7 ⟨v, u, rfl, hR⟩
                      cases hR with
                      | bad h _ => exact absurd (HOL.out (-p - q) (by omega) (by omega)) h
                      | off _ h _ _ => exact absurd h (by omega)
                      | ok _ _ g7 M7 hb7 =>
                        have T7 : Hid (Kp W t7 Nul) := T6.out.trans hb7.kp
                        have HEq : Hid (Calls Tryz.prog 25 #[.pointer (some ⟨g6, 0, none⟩), .pointer (some ⟨g7, 0, none⟩)] t7 fun e w' => e = .returned (.bool true) ∧ Kp t7 w' Nul) := by
                          have h := equal_at g6 g7 M6 M7 t7 (HG6.out _ hb7.kp) (GridIn.mono hb7.gi (fun _ _ => Nat.zero_le _)) HBr6.out.ok.okC hb7.ok.okC
                          rw [eqC_true (out_eq (HOL.out (-p) (by omega) (by omega)) (by omega) (by omega) HOk.out HBr5.out HBr6.out (br_of hb7))] at h
                          exact h
                        clear hb7 HG6 T6
                        go_wp2_with fail
                        refine HEq.out.mono ?_
                        rintro e t8 ⟨rfl, hk8⟩
                        have T8 : Hid (Kp W t8 Nul) := T7.out.trans hk8
                        have HR8 : Hid (Blk t8 w.heap.size [.bool false] 4) := HR.out _ (KW.out.trans T8.out)
                        clear hk8 HEq T7
                        go_wp2_with (first | (refine wpList_store_var rfl 4 (.tmp 10) (.tmp 245) rfl w.heap.size rfl (.bool true) rfl rfl 4 (.bool false) HR8.out (by kernel_rfl) ?_; intro X hbX hkX) | fail)
                        have hne : ¬ w.heap.size = D := by have := HDD.out; have := HS1.out; have := HS16.out; omega
                        have hD1 : t8.heap[D]? = some (.deferred (some [])) := (T8.out.block D (Array.getElem?_eq_some_iff.1 HDf.out).1 (fun x => x)).trans HDf.out
                        have hD2 : X.heap[D]? = some (.deferred (some [])) := (hkX.block D (Array.getElem?_eq_some_iff.1 hD1).1 (fun e => hne (Eq.symm e))).trans hD1
                        refine ⟨by simp, .inl ⟨_, _, rfl, run_takeDeferred hD2, ?_⟩⟩
                        have q1 : Blk (X.putObj D (.deferred none)) w.heap.size [.bool true] 4 := hbX.kp putObj_self (fun e => hne e)
                        refine ⟨_, results_bool rfl rfl q1, rfl, ?_⟩
                        exact putObj_kp ((HW.out _ T8.out).trans' hkX (fun i hi e => by have e' : i = w.heap.size := e; omega)) (by have := HDD.out; have := HS1.out; have := HS16.out; omega)
end Go.Proofs.YtbkcebbddhaifaaGreatDoor
