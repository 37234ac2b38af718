/- settle, walked. -/
import Derived.Test.YtdlieecpckpemaaGreatDoorLcYi
import Derived.Test.YtdlieecpckpemaaGreatDoorLcYo
namespace Go.Proofs.YtdlieecpckpemaaGreatDoor
open Go.RowKit

/-- What settle does: the wait stands in the list of a place that is not told yet and that it uses; or its own place is ready. -/
def Settled (w w' : World) (F : Nat → Prop) (E : Tb) (L : List (Int × Int)) (M : Nat → Bool) (b p : Nat) (U : Nat → Bool) (ptr : Nat → Option Addr) (s : Nat → Int) (z : Int) : Prop :=
  Kp w w' (Wr E b) ∧
  ((∃ (l : Nat) (C : Nat → Bool) (al : List Ar), l < L.length ∧ M l = true ∧ U l = true ∧ WtIn w' F L E.mb b p (.pointer (ptr l)) C al U ∧ Covers L (fun q => if q = l then false else M q) C al U ∧
      Blk w' E.wb (vals (fun j => .pointer (if j = l then some ⟨b, 0, none⟩ else ptr j)) L.length) 140 ∧ QIn w' E L.length s z) ∨
   ((∀ q, M q = true → U q = false) ∧ Blk w' E.wb (vals (fun j => .pointer (ptr j)) L.length) 140 ∧
      Blk w' E.qb [.int .i64 (z + 1), .slice (some ⟨E.sb, 0, none⟩) (L.length + 1) (L.length + 1)] 115 ∧ Blk w' E.sb (nums (addTo s p 1 (L.length + 1)) (L.length + 1)) 3))

/-- The wait put into the list of place l. -/
theorem settled_wait {w w1 : World} {F : Nat → Prop} {E : Tb} {L : List (Int × Int)} {M : Nat → Bool} {b p : Nat} {nx : Option Addr} {C : Nat → Bool} {al : List Ar} {U : Nat → Bool} {ptr : Nat → Option Addr} {s : Nat → Int} {z : Int} {v1 v2 v3 v4 av : Value} {l : Nat}
    (hk : Kp w w1 (fun i => i = b)) (hb : Blk w1 b [.int .i64 (p : Int), v1, v2, v3, v4, av, .pointer nx] 142) (hwb : Blk w1 E.wb (vals (fun j => .pointer (ptr j)) L.length) 140) (hq : QIn w1 E L.length s z)
    (hpc : PcIs L E.mb v1 v2 v3 v4 C) (har : ArSl w1 F av al) (hok : ∀ a ∈ al, a.ok) (hcu : ∀ q, C q = true → U q = true) (hau : ∀ a ∈ al, ∀ q, inPl L a q = true → U q = true) (hcv : Covers L M C al U)
    (hF : ∀ i, F i → ¬ Wr E b i) (hl : l < L.length) (hC : C l = true) (hM : M l = true) (hmax : ∀ q', l < q' → (C q' && M q') = false) (nqb : E.qb ≠ b) (nsb : E.sb ≠ b) (nqw : E.qb ≠ E.wb) (nsw : E.sb ≠ E.wb) (nwb : E.wb ≠ b) :
    Settled w ((((w1.setCell ⟨b, 2, none⟩ (.int .i64 (l : Int))).setCell ⟨b, 6, none⟩ (.pointer (ptr l))).setCell ⟨E.wb, l, none⟩ (.pointer (some ⟨b, 0, none⟩))).drew) F E L M b p U ptr s z := by
  have g1 : Kp w1 ((((w1.setCell ⟨b, 2, none⟩ (.int .i64 (l : Int))).setCell ⟨b, 6, none⟩ (.pointer (ptr l))).setCell ⟨E.wb, l, none⟩ (.pointer (some ⟨b, 0, none⟩))).drew) (fun i => i = b ∨ i = E.wb) :=
    ((((Kp.refl w1 _).setCell ⟨b, 2, none⟩ _ (.inr (.inl rfl))).setCell ⟨b, 6, none⟩ _ (.inr (.inl rfl))).setCell ⟨E.wb, l, none⟩ _ (.inr (.inr rfl))).drew
  refine ⟨(hk.mono fun i _ e => .inl e).trans' g1 (fun i _ e => by rcases e with e | e; exact .inl e; exact .inr (.inr (.inr e))), .inl ?_⟩
  have hb2 : Blk ((((w1.setCell ⟨b, 2, none⟩ (.int .i64 (l : Int))).setCell ⟨b, 6, none⟩ (.pointer (ptr l))).setCell ⟨E.wb, l, none⟩ (.pointer (some ⟨b, 0, none⟩))).drew) b [.int .i64 (p : Int), v1, .int .i64 (l : Int), v3, v4, av, .pointer (ptr l)] 142 :=
    (((hb.set 2 _).set 6 _).other ⟨E.wb, l, none⟩ _ (Ne.symm nwb)).drew
  have hw2 := (((hwb.other ⟨b, 2, none⟩ (.int .i64 (l : Int)) nwb).other ⟨b, 6, none⟩ (.pointer (ptr l)) nwb).set l (.pointer (some ⟨b, 0, none⟩))).drew
  rw [vals_set] at hw2
  have e2 : (fun j => if j = l then Value.pointer (some ⟨b, 0, none⟩) else .pointer (ptr j)) = fun j => .pointer (if j = l then some ⟨b, 0, none⟩ else ptr j) := by
    funext j; by_cases h : j = l <;> simp [h]
  rw [e2] at hw2
  have hq2 : QIn ((((w1.setCell ⟨b, 2, none⟩ (.int .i64 (l : Int))).setCell ⟨b, 6, none⟩ (.pointer (ptr l))).setCell ⟨E.wb, l, none⟩ (.pointer (some ⟨b, 0, none⟩))).drew) E L.length s z := hq.kp g1 (fun e => by rcases e with e | e; exact nqb e; exact nqw e) (fun e => by rcases e with e | e; exact nsb e; exact nsw e)
  have ha2 := har.kp g1 (fun i hi e => hF i hi (by rcases e with e | e; exact .inl e; exact .inr (.inr (.inr e))))
  rcases hpc with ⟨_, _, _, _, rfl⟩ | ⟨fr, to, lc, rc, rfl, rfl, rfl, rfl, h1, h2, h3, h4, rfl⟩
  · cases hC
  · have hin : colTo L rc l = true ∧ colTo L lc l = false ∧ l < to ∧ fr ≤ l := by
      have := hC
      simp [pcSet] at this
      exact ⟨this.1.1.1, this.1.1.2, this.1.2, this.2⟩
    have hlow : ∀ q, pcSet fr l (colTo L lc) (colTo L rc) q = true → pcSet fr to (colTo L lc) (colTo L rc) q = true := fun q hq => by
      simp only [pcSet, Bool.and_eq_true, Bool.not_eq_true', decide_eq_true_eq, decide_eq_false_iff_not] at hq ⊢
      exact ⟨⟨hq.1.1, by omega⟩, hq.2⟩
    refine ⟨l, pcSet fr l (colTo L lc) (colTo L rc), al, hl, hM, hcu l hC, ⟨⟨_, _, _, _, _, hb2, .inr ⟨fr, l, lc, rc, rfl, rfl, rfl, rfl, h1, h2, hin.2.2.2, by omega, rfl⟩, ha2⟩, hok, fun q hq => hcu q (hlow q hq), hau⟩, ?_, hw2, hq2⟩
    intro q hMq hUq
    have hne : q ≠ l := fun e => by subst e; simp at hMq
    replace hMq : M q = true := by simpa [hne] using hMq
    rcases hcv q hMq hUq with h | h
    · left
      rcases Nat.lt_or_ge l q with hlt | hge
      · have := hmax q hlt
        rw [h, hMq] at this; cases this
      · simp only [pcSet, Bool.and_eq_true, Bool.not_eq_true', decide_eq_true_eq, decide_eq_false_iff_not] at h ⊢
        exact ⟨⟨h.1.1, by omega⟩, h.2⟩
    · exact .inr h
theorem ahead_le {L : List (Int × Int)} {r r' : Int} {i j : Nat} (h1 : AheadIs L r i) (h2 : AheadIs L r' j) (h : r ≤ r') : i ≤ j := by
  rcases Nat.lt_or_ge j i with hlt | hge
  · obtain ⟨x, hx⟩ : ∃ x, L[j]? = some x := ⟨_, List.getElem?_eq_getElem (by have := h1.1; omega)⟩
    have e1 := h1.2.1 j x hx hlt
    have e2 := h2.2.2 j x hx (Nat.le_refl _)
    omega
  · exact hge
/-- The next area is looked into. -/
theorem settle_next {w w2 : World} {F : Nat → Prop} {E : Tb} {L : List (Int × Int)} {M : Nat → Bool} {b p : Nat} {nx : Option Addr} {C : Nat → Bool} {rest : List Ar} {U : Nat → Bool} {v1 v2 v3 v4 : Value} {l m fr to ab ao ac : Nat} {r1 r2 : Int} {A : Option Addr}
    (hk : Kp w w2 (fun i => i = b)) (hb : Blk w2 b [.int .i64 (p : Int), v1, v2, v3, v4, .slice (some ⟨ab, ao, none⟩) (rest.length + 1) ac, .pointer nx] 142) (hF : F ab) (hFb : ∀ i, F i → ¬ (fun i => i = b) i)
    (hat : AreasAt w2 ab ao (⟨(l : Int) + 1, r1, (m : Int), r2⟩ :: rest)) (hac : rest.length + 1 ≤ ac) (hac2 : ac ≤ maxLen) (hA : (if ac = 1 then (some ⟨ab, ao, none⟩ : Option Addr) else some ⟨ab, ao + 4, none⟩) = A)
    (hok : ∀ a ∈ (⟨(l : Int) + 1, r1, (m : Int), r2⟩ :: rest : List Ar), a.ok) (hau : ∀ a ∈ (⟨(l : Int) + 1, r1, (m : Int), r2⟩ :: rest : List Ar), ∀ q, inPl L a q = true → U q = true) (hcv : Covers L M C (⟨(l : Int) + 1, r1, (m : Int), r2⟩ :: rest) U)
    (hnone : ∀ q, (C q && M q) = false) (h1 : AheadIs L r1 fr) (h2 : AheadIs L (r2 + 1) to) (hl : l < 257) (hm : m < 257) (hr : r1 ≤ r2) :
    SetR F E L M b p (.pointer nx) U w (((((w2.setCell ⟨b, 1, none⟩ (.int .i64 (fr : Int))).setCell ⟨b, 2, none⟩ (.int .i64 (to : Int))).setCell ⟨b, 3, none⟩ (.slice (some ⟨E.mb, l * ((L.length + 63) / 64), none⟩) ((L.length + 63) / 64) ((257 - l) * ((L.length + 63) / 64)))).setCell ⟨b, 4, none⟩ (.slice (some ⟨E.mb, m * ((L.length + 63) / 64), none⟩) ((L.length + 63) / 64) ((257 - m) * ((L.length + 63) / 64)))).setCell ⟨b, 5, none⟩ (.slice A rest.length (ac - 1))) := by
  have hS := fun q => pc_area (L := L) (a := ⟨(l : Int) + 1, r1, (m : Int), r2⟩) (l := l) (c2 := m) rfl rfl h1 h2 q
  have g : Kp w2 (((((w2.setCell ⟨b, 1, none⟩ (.int .i64 (fr : Int))).setCell ⟨b, 2, none⟩ (.int .i64 (to : Int))).setCell ⟨b, 3, none⟩ (.slice (some ⟨E.mb, l * ((L.length + 63) / 64), none⟩) ((L.length + 63) / 64) ((257 - l) * ((L.length + 63) / 64)))).setCell ⟨b, 4, none⟩ (.slice (some ⟨E.mb, m * ((L.length + 63) / 64), none⟩) ((L.length + 63) / 64) ((257 - m) * ((L.length + 63) / 64)))).setCell ⟨b, 5, none⟩ (.slice A rest.length (ac - 1))) (fun i => i = b) :=
    (((((Kp.refl w2 (fun i => i = b)).setCell ⟨b, 1, none⟩ _ (.inr rfl)).setCell ⟨b, 2, none⟩ _ (.inr rfl)).setCell ⟨b, 3, none⟩ _ (.inr rfl)).setCell ⟨b, 4, none⟩ _ (.inr rfl)).setCell ⟨b, 5, none⟩ _ (.inr rfl)
  have hb2 := ((((hb.set 1 (.int .i64 (fr : Int))).set 2 (.int .i64 (to : Int))).set 3 (.slice (some ⟨E.mb, l * ((L.length + 63) / 64), none⟩) ((L.length + 63) / 64) ((257 - l) * ((L.length + 63) / 64)))).set 4 (.slice (some ⟨E.mb, m * ((L.length + 63) / 64), none⟩) ((L.length + 63) / 64) ((257 - m) * ((L.length + 63) / 64)))).set 5 (.slice A rest.length (ac - 1))
  refine ⟨pcSet fr to (colTo L l) (colTo L m), rest, ⟨⟨_, _, _, _, _, hb2, .inr ⟨fr, to, l, m, rfl, rfl, rfl, rfl, hl, hm, ahead_le h1 h2 (by omega), h2.1, rfl⟩, A, ac - 1, rfl, by omega, by omega, fun hlen => ?_⟩, fun a ha => hok a (List.mem_cons_of_mem _ ha), fun q hq => hau _ (List.mem_cons_self ..) q (by rw [← hS]; exact hq), fun a ha => hau a (List.mem_cons_of_mem _ ha)⟩, fun q hM hU => ?_, hk.trans g⟩
  · refine ⟨ab, ao + 4, by rw [← hA, if_neg (by omega)], hF, fun i x hx => ?_⟩
    have := (hat.kp g (hFb ab hF)) (i + 1) x (by simpa using hx)
    rw [show ao + (i + 1) * 4 = ao + 4 + i * 4 by omega] at this
    exact this
  · rcases hcv q hM hU with h | ⟨a, ha, h⟩
    · have := hnone q
      simp only [h, hM] at this; cases this
    · rcases List.mem_cons.1 ha with rfl | ha
      · left; rw [hS]; exact h
      · exact .inr ⟨a, ha, h⟩
theorem leftOf_blk {w : World} {b n c : Nat} {a : Option Addr} {t : TypeId} {x0 x1 x2 x3 x4 x6 : Value} (h : Blk w b [x0, x1, x2, x3, x4, .slice a n c, x6] t) : leftOf w b = n := by
  unfold leftOf; rw [h.at']; rfl
set_option maxRecDepth 20000 in
set_option maxHeartbeats 2000000 in
theorem settle_at (F : Nat → Prop) (E : Tb) (L : List (Int × Int)) (M : Nat → Bool) (b p : Nat) (nx : Option Addr) (C : Nat → Bool) (al : List Ar) (U : Nat → Bool) (ptr : Nat → Option Addr) (s : Nat → Int) (z : Int) (w : World)
    (hst : TStay w F E L M) (hq : QIn w E L.length s z) (hwb : Blk w E.wb (vals (fun j => .pointer (ptr j)) L.length) 140) (hwt : WtIn w F L E.mb b p (.pointer nx) C al U) (hcov : Covers L M C al U) (hM : ∀ q, M q = true → q < L.length) (hp : p < L.length) (hF : ∀ i, F i → ¬ Wr E b i) :
    Calls Tryz.prog 103 #[.pointer (some ⟨E.t, 0, none⟩), .pointer (some ⟨b, 0, none⟩)] w fun e w' => e = .returned (.tuple #[]) ∧ Settled w w' F E L M b p U ptr s z := by
  have hbT : ∃ cs, Blk w b cs 142 := by obtain ⟨⟨v1, v2, v3, v4, av, e1, _, _⟩, _⟩ := hwt; exact ⟨_, e1⟩
  obtain ⟨cs0, hb0⟩ := hbT
  have nT : E.t ≠ b := hst.t.ne hb0 (by decide)
  have nwT : E.t ≠ E.wb := hst.t.ne hwb (by decide)
  have nwb : E.wb ≠ b := hwb.ne hb0 (by decide)
  have nqb : E.qb ≠ b := hq.qq.ne hb0 (by decide)
  have nsb : E.sb ≠ b := hq.ss.ne hb0 (by decide)
  have nqw : E.qb ≠ E.wb := hq.qq.ne hwb (by decide)
  have nsw : E.sb ≠ E.wb := hq.ss.ne hwb (by decide)
  have nun : E.un ≠ b := hst.u.ne hb0 (by decide)
  have nB : ¬ (fun i => i = b) E.B ∧ ¬ (fun i => i = b) E.ub ∧ ¬ (fun i => i = b) E.mb := by
    obtain ⟨⟨a, cc, h1, _⟩, _⟩ := hst.board
    exact ⟨h1.b.ne hb0 (by decide), h1.u.ne hb0 (by decide), h1.m.ne hb0 (by decide)⟩
  have hFb : ∀ i, F i → ¬ (fun i => i = b) i := fun i hi e => hF i hi (.inl e)
  have HST : Hid (∀ wr, Kp w wr (fun i => i = b) → TStay wr F E L M) := fun wr g => hst.kp g nT nB.1 nB.2.1 nB.2.2 nun hFb
  have HQ : Hid (∀ wr, Kp w wr (fun i => i = b) → QIn wr E L.length s z) := fun wr g => hq.kp g nqb nsb
  have HWB : Hid (∀ wr, Kp w wr (fun i => i = b) → Blk wr E.wb (vals (fun j => .pointer (ptr j)) L.length) 140) := fun wr g => hwb.kp g nwb
  have HM : Hid (∀ q, M q = true → q < L.length) := hM
  have HFb : Hid (∀ i, F i → ¬ (fun i => i = b) i) := hFb
  have HF : Hid (∀ i, F i → ¬ Wr E b i) := hF
  have hlen : L.length ≤ 4294967295 := hst.board.len
  have HWT : Hid (WtIn w F L E.mb b p (.pointer nx) C al U) := hwt
  have HCV : Hid (Covers L M C al U) := hcov
  obtain ⟨N, hN⟩ : ∃ N, L.length = N := ⟨_, rfl⟩
  obtain ⟨W, hW⟩ : ∃ W, (L.length + 63) / 64 = W := ⟨_, rfl⟩
  have HN : Hid (L.length = N) := hN
  have HW : Hid ((L.length + 63) / 64 = W) := hW
  rw [hN] at hlen hp
  clear hst hq hwb hwt hcov hM hF hFb nB hb0 hN hW
  go_enter Tryz.func103, Tryz.ntmps103
  go_wp2_with fail
  go_loopw [4] (fun _ wr => SetR F E L M b p (.pointer nx) U w wr) (fun _ wr => leftOf wr b)
  case atStart => exact ⟨C, al, HWT.out, HCV.out, Kp.refl _ _⟩
  case round =>
    clear HWT HCV
    obtain ⟨C, al, hwt, hcv, hkp⟩ := hrel
    obtain ⟨⟨v1, v2, v3, v4, av, hb, hpc, har⟩, hok, hcu, hau⟩ := hwt
    have HB : Hid (Blk wr b [.int .i64 (p : Int), v1, v2, v3, v4, av, .pointer nx] 142) := hb
    have HPC : Hid (PcIs L E.mb v1 v2 v3 v4 C) := hpc
    have HAR : Hid (ArSl wr F av al) := har
    have HOK : Hid (∀ a ∈ al, a.ok) := hok
    have HCU : Hid (∀ q, C q = true → U q = true) := hcu
    have HAU : Hid (∀ a ∈ al, ∀ q, inPl L a q = true → U q = true) := hau
    have HCV : Hid (Covers L M C al U) := hcv
    have HKP : Hid (Kp w wr (fun i => i = b)) := hkp
    have HTS := HST.out wr hkp
    have HLast : Hid (∀ wq, Gr wr wq → Calls Tryz.prog 114 #[.agg #[v1, v2, v3, v4], .slice (some ⟨E.un, 0, none⟩) W W] wq fun e w' => ∃ r : Int, e = .returned (.int .i64 r) ∧ LastIs (fun q => C q && M q) r ∧ Gr wr w') := fun wq g => by
      have := pc_last (w := wq) (HTS.board.gr g) hpc (MarksAt.of_blk (HTS.u.gr g) (Nat.le_refl _)) ((L.length + 63) / 64)
      rw [HW.out] at this
      exact this.mono fun e w' ⟨r, h1, h2, h3⟩ => ⟨r, h1, h2, g.trans h3⟩
    have KS : Hid (∀ w', Gr wr w' → (w'.cell? ⟨b, 1, none⟩ = some v1 ∧ w'.cell? ⟨b, 2, none⟩ = some v2 ∧ w'.cell? ⟨b, 3, none⟩ = some v3 ∧ w'.cell? ⟨b, 4, none⟩ = some v4 ∧ w'.cell? ⟨E.t, 1, none⟩ = some (.slice (some ⟨E.un, 0, none⟩) W W))) := fun w' g => by
      have q1 := hb.gr g
      have q2 := HTS.t.gr g
      rw [HW.out] at q2
      exact ⟨q1.cell rfl, q1.cell rfl, q1.cell rfl, q1.cell rfl, q2.cell rfl⟩
    have hv1 : v1.oneCell' = true ∧ v2.oneCell' = true ∧ v3.oneCell' = true ∧ v4.oneCell' = true := by
      rcases hpc with ⟨rfl, rfl, rfl, rfl, _⟩ | ⟨fr, to, l, r, rfl, rfl, rfl, rfl, _⟩ <;> exact ⟨rfl, rfl, rfl, rfl⟩
    clear hb hpc har hok hcu hau hcv hkp HTS
    go_wp2_with fail
    go_region_held3 (fun w' => w'.cell? ⟨b, 1, none⟩ = some v1 ∧ w'.cell? ⟨b, 2, none⟩ = some v2 ∧ w'.cell? ⟨b, 3, none⟩ = some v3 ∧ w'.cell? ⟨b, 4, none⟩ = some v4 ∧ w'.cell? ⟨E.t, 1, none⟩ = some (.slice (some ⟨E.un, 0, none⟩) W W))
      (first | (refine KS.out _ ?_; assumption) | (exact KS.out _ ((Gr.refl _).drew)) | (exact KS.out _ (Gr.refl _)))
      ((go_at_call 114; refine (HLast.out _ (by repeat (first | exact Gr.refl _ | refine Gr.drew ?_))).mono ?_; rintro e w1 ⟨r, rfl, hr, hg⟩))
    all_goals
      have HG : Hid (Gr wr w1) := hg
      have hb1 := HB.out.gr hg
      have ht1 := (HST.out wr HKP.out).t.gr hg
      have hwb1 := (HWB.out wr HKP.out).gr hg
      rw [HW.out, HN.out] at ht1
      rw [HN.out] at hwb1
      have HB1 : Hid (Blk w1 b [.int .i64 (p : Int), v1, v2, v3, v4, av, .pointer nx] 142) := hb1
      have HWB1 : Hid (Blk w1 E.wb (vals (fun j => .pointer (ptr j)) N) 140) := hwb1
      have HK1 : Hid (Kp w w1 (fun i => i = b)) := HKP.out.trans' (Kp.of_gr (S := Nul) hg) (fun _ _ x => x.elim)
      clear KS HLast hg
      rcases hr with ⟨rfl, hnone⟩ | ⟨q, rfl, hCM, hmax⟩
      · obtain ⟨aa, ac, rfl, hac1, hac2, haa⟩ := HAR.out
        have a5 : w1.cell? ⟨b, 5, none⟩ = some (.slice aa al.length ac) := hb1.cell rfl
        cases al with
        | nil =>
          have HNO : Hid (∀ q, M q = true → U q = false) := fun q hq => by
            cases hu : U q
            · rfl
            · rcases HCV.out q hq hu with h | ⟨a, ha, _⟩
              · have := hnone q
                simp only [h, hq] at this; cases this
              · cases ha
          have hq1 := HQ.out w1 HK1.out
          have HAdd : Hid (∀ wq, Gr w1 wq → Calls Tryz.prog 105 #[.pointer (some ⟨E.qb, 0, none⟩), .int .i64 (p : Int), .int .i64 1] wq fun e w' => e = .returned (.tuple #[]) ∧ Settled w w' F E L M b p U ptr s z ∧ Kp w1 w' (fun i => i = E.qb ∨ i = E.sb)) := fun wq g => by
            refine (add_at E.qb E.sb (L.length + 1) _ p s z 1 wq (hq1.qq.gr g) (hq1.ss.gr g) (by rw [HN.out]; omega) (by rw [HN.out]; omega) hq1.zlo hq1.zhi (by omega) (by omega) hq1.lo hq1.hi).mono ?_
            rintro e w' ⟨rfl, e1, e2, e3⟩
            have e4 : Kp w1 w' (fun i => i = E.qb ∨ i = E.sb) := (Kp.of_gr g).trans e3
            refine ⟨rfl, ⟨(HK1.out.mono fun i _ e => .inl e).trans' e4 (fun i _ e => by rcases e with e | e; exact .inr (.inl e); exact .inr (.inr (.inl e))), .inr ⟨HNO.out, ?_, e1, e2⟩⟩, e4⟩
            rw [HN.out]
            exact hwb1.kp e4 (fun e => by rcases e with e | e; exact nqw e.symm; exact nsw e.symm)
          have nqT : E.t ≠ E.qb := ht1.ne hq1.qq (by decide)
          have nsT : E.t ≠ E.sb := ht1.ne hq1.ss (by decide)
          have KS : Hid (∀ w', Kp w1 w' (fun i => i = E.qb ∨ i = E.sb) → (w'.cell? ⟨E.t, 2, none⟩ = some (.pointer (some ⟨E.qb, 0, none⟩)) ∧ w'.cell? ⟨b, 0, none⟩ = some (.int .i64 (p : Int)))) := fun w' g =>
            ⟨(ht1.kp g (fun e => by rcases e with e | e; exact nqT e; exact nsT e)).cell rfl, (hb1.kp g (fun e => by rcases e with e | e; exact nqb e.symm; exact nsb e.symm)).cell rfl⟩
          clear hb1 ht1 hwb1 hq1 hnone haa
          simp only [List.length_nil] at a5
          go_wp2_with fail
          go_region_held3 (fun w' => w'.cell? ⟨E.t, 2, none⟩ = some (.pointer (some ⟨E.qb, 0, none⟩)) ∧ w'.cell? ⟨b, 0, none⟩ = some (.int .i64 (p : Int)))
            (first | (refine KS.out _ ?_; assumption) | (exact KS.out _ ((Kp.refl _ _).drew)) | (exact KS.out _ (Kp.refl _ _)))
            ((go_at_call 105; refine (HAdd.out _ (by repeat (first | exact Gr.refl _ | refine Gr.drew ?_))).mono ?_; rintro e w2 ⟨rfl, hfin, hkf⟩))
          all_goals
            have HFIN : Hid (Settled w w2 F E L M b p U ptr s z) := hfin
            clear hfin hkf
            go_wp2_with fail
            exact bodyPost_ret (v := .tuple #[]) (by simp [results, Tryz.results103]) rfl ⟨rfl, HFIN.out⟩
        | cons a0 rest =>
          obtain ⟨ab, ao, rfl, hFab, hat⟩ := haa (by simp)
          have hok0 := HOK.out a0 (by simp)
          obtain ⟨c1, r1, c2, r2⟩ := a0
          obtain ⟨k1, k2, k3, k4, k5, k6⟩ := hok0
          simp only at k1 k2 k3 k4 k5 k6
          obtain ⟨l, hl⟩ : ∃ l : Nat, c1 = (l : Int) + 1 := ⟨(c1 - 1).toNat, by omega⟩
          obtain ⟨m, hm⟩ : ∃ m : Nat, c2 = (m : Int) := ⟨c2.toNat, by omega⟩
          subst hl hm
          have hts := HST.out w1 HK1.out
          have hat1 := (hat.kp (S := Nul) (Kp.of_gr HG.out) (fun x => x)) 0 _ rfl
          simp only [Nat.zero_mul, Nat.add_zero] at hat1
          have HPiece : Hid (∀ wq, Gr w1 wq → Calls Tryz.prog 89 #[.pointer (some ⟨E.B, 0, none⟩), .agg #[.int .i64 ((l : Int) + 1), .int .i64 r1, .int .i64 (m : Int), .int .i64 r2]] wq fun e w' => ∃ fr to : Nat, e = .returned (pcV fr to E.mb W l m) ∧ AheadIs L r1 fr ∧ AheadIs L (r2 + 1) to ∧ Gr w1 w') := fun wq g => by
            have := piece_at F E.B E.ub E.mb L l m r1 r2 wq (hts.board.gr g) (by omega) (by omega) (by omega) (by omega) k6
            rw [HW.out] at this
            exact this.mono fun e w' ⟨fr, to, h1, h2, h3, h4⟩ => ⟨fr, to, h1, h2, h3, g.trans h4⟩
          have KS : Hid (∀ w', Gr w1 w' → (w'.cell? ⟨E.t, 0, none⟩ = some (.pointer (some ⟨E.B, 0, none⟩)) ∧ w'.cell? ⟨b, 5, none⟩ = some (.slice (some ⟨ab, ao, none⟩) (rest.length + 1) ac) ∧ (w'.cell? ⟨ab, ao, none⟩ = some (.int .i64 ((l : Int) + 1)) ∧ w'.cell? ⟨ab, ao + 1, none⟩ = some (.int .i64 r1) ∧ w'.cell? ⟨ab, ao + 2, none⟩ = some (.int .i64 (m : Int)) ∧ w'.cell? ⟨ab, ao + 3, none⟩ = some (.int .i64 r2)) ∧
              (w'.cell? ⟨b, 1, none⟩ = some v1 ∧ w'.cell? ⟨b, 2, none⟩ = some v2 ∧ w'.cell? ⟨b, 3, none⟩ = some v3 ∧ w'.cell? ⟨b, 4, none⟩ = some v4) ∧ ∀ i, w'.frozen? ⟨b, i, none⟩ = false)) := fun w' g => by
            have q := hb1.gr g
            have ec : ∀ j v, w1.cell? ⟨ab, j, none⟩ = some v → w'.cell? ⟨ab, j, none⟩ = some v := fun j v h => g.cell (cell_lt h) h
            exact ⟨(ht1.gr g).cell rfl, q.cell rfl, ⟨ec _ _ hat1.1, ec _ _ hat1.2.1, ec _ _ hat1.2.2.1, ec _ _ hat1.2.2.2⟩, ⟨q.cell rfl, q.cell rfl, q.cell rfl, q.cell rfl⟩, fun i => q.froz i⟩
          obtain ⟨b0, b5, ⟨p0, p1, p2, p3⟩, ⟨e1, e2, e3, e4⟩, ef⟩ := KS.out w1 (Gr.refl _)
          have hn1 : rest.length + 1 ≤ ac := by simpa using hac1
          have hn2 : ac ≤ 9223372036854775807 := by unfold maxLen at hac2; omega
          have HNONE : Hid (∀ q, (C q && M q) = false) := hnone
          have hac3 := hac2
          have HAC2 : Hid (ac ≤ maxLen) := hac3
          have HLR : Hid (leftOf wr b = rest.length + 1) := leftOf_blk (by simpa using HB.out)
          have HAT : Hid (AreasAt wr ab ao (⟨(l : Int) + 1, r1, (m : Int), r2⟩ :: rest)) := hat
          have HFab : Hid (F ab) := hFab
          have nbT := Ne.symm nT
          obtain ⟨f1, f2, f3, f4, f5⟩ : w1.frozen? ⟨b, 1, none⟩ = false ∧ w1.frozen? ⟨b, 2, none⟩ = false ∧ w1.frozen? ⟨b, 3, none⟩ = false ∧ w1.frozen? ⟨b, 4, none⟩ = false ∧ w1.frozen? ⟨b, 5, none⟩ = false := ⟨ef 1, ef 2, ef 3, ef 4, ef 5⟩
          clear hb1 ht1 hwb1 hnone haa hat hat1 hts ef a5 hac1 hac2 hac3 hFab
          obtain ⟨rn, hrn⟩ : ∃ rn, rest.length = rn := ⟨_, rfl⟩
          have HRN : Hid (rest.length = rn) := hrn
          rw [hrn] at hn1 b5
          simp only [hrn] at KS
          clear hrn
          obtain ⟨A, hA⟩ : ∃ A : Option Addr, (if ac = 1 then (some ⟨ab, ao, none⟩ : Option Addr) else some ⟨ab, ao + 4, none⟩) = A := ⟨_, rfl⟩
          have HA : Hid ((if ac = 1 then (some ⟨ab, ao, none⟩ : Option Addr) else some ⟨ab, ao + 4, none⟩) = A) := hA
          have KS2 : Hid (∀ w', Kp w1 w' (fun i => i = b) → (w'.cell? ⟨E.t, 0, none⟩ = some (.pointer (some ⟨E.B, 0, none⟩)) ∧ (w'.cell? ⟨ab, ao, none⟩ = some (.int .i64 ((l : Int) + 1)) ∧ w'.cell? ⟨ab, ao + 1, none⟩ = some (.int .i64 r1) ∧ w'.cell? ⟨ab, ao + 2, none⟩ = some (.int .i64 (m : Int)) ∧ w'.cell? ⟨ab, ao + 3, none⟩ = some (.int .i64 r2)))) := fun w' g => by
            have ec : ∀ i j v, i ≠ b → w1.cell? ⟨i, j, none⟩ = some v → w'.cell? ⟨i, j, none⟩ = some v := fun i j v hi h => by
              have e := g.block i (cell_lt h) hi
              simp only [World.cell?] at h ⊢
              rw [e]; exact h
            have nab : ab ≠ b := HFb.out ab HFab.out
            exact ⟨ec _ _ _ nT b0, ec _ _ _ nab p0, ec _ _ _ nab p1, ec _ _ _ nab p2, ec _ _ _ nab p3⟩
          go_wp2_with fail
          refine wp_region_noPanic ?_
          refine wp_region_but (fun w' : World => w'.cell? ⟨E.t, 0, none⟩ = some (.pointer (some ⟨E.B, 0, none⟩)) ∧ w'.cell? ⟨b, 5, none⟩ = some (.slice (some ⟨ab, ao, none⟩) (rn + 1) ac) ∧ (w'.cell? ⟨ab, ao, none⟩ = some (.int .i64 ((l : Int) + 1)) ∧ w'.cell? ⟨ab, ao + 1, none⟩ = some (.int .i64 r1) ∧ w'.cell? ⟨ab, ao + 2, none⟩ = some (.int .i64 (m : Int)) ∧ w'.cell? ⟨ab, ao + 3, none⟩ = some (.int .i64 r2))) 23 (by kernel_rfl) ⟨b0, b5, p0, p1, p2, p3⟩ (fun hHeld => ?_)
          have hsl1 : (1 : Int) ≤ (rn : Int) + 1 := by omega
          have tok0 : True := trivial
          have tok1 : True := trivial
          have tok2 : True := trivial
          have tok3 : True := trivial
          have tok4 : True := trivial
          have tok5 : True := trivial
          have tok6 : True := trivial
          have tok7 : True := trivial
          have tok8 : True := trivial
          have tok9 : True := trivial
          have tok10 : True := trivial
          have tok11 : True := trivial
          have tok13 : True := trivial
          have tok14 : True := trivial
          have tok15 : True := trivial
          have tok16 : True := trivial
          have tok17 : True := trivial
          iterate 17 ((first | (clear tok0; refine wpBut_takes (i := 0) (v := ?_) (some 53) rfl rfl (by kernel_rfl) (by kernel_rfl) (by kernel_rfl) (by kernel_rfl) (fun _ _ _ h => h) (Or.inl ⟨by rfl, ?_⟩) hHeld ?_) | (clear tok1; refine wpBut_takes (i := 1) (v := ?_) (some 54) rfl rfl (by kernel_rfl) (by kernel_rfl) (by kernel_rfl) (by kernel_rfl) (fun _ _ _ h => h) (Or.inl ⟨by rfl, ?_⟩) hHeld ?_) | (clear tok2; refine wpBut_takes (i := 2) (v := ?_) (some 55) rfl rfl (by kernel_rfl) (by kernel_rfl) (by kernel_rfl) (by kernel_rfl) (fun _ _ _ h => h) (Or.inl ⟨by rfl, ?_⟩) hHeld ?_) | (clear tok3; refine wpBut_takes (i := 3) (v := ?_) (some 56) rfl rfl (by kernel_rfl) (by kernel_rfl) (by kernel_rfl) (by kernel_rfl) (fun _ _ _ h => h) (Or.inl ⟨by rfl, ?_⟩) hHeld ?_) | (clear tok4; refine wpBut_takes (i := 4) (v := ?_) (some 57) rfl rfl (by kernel_rfl) (by kernel_rfl) (by kernel_rfl) (by kernel_rfl) (fun _ _ _ h => h) (Or.inl ⟨by rfl, ?_⟩) hHeld ?_) | (clear tok5; refine wpBut_takes (i := 5) (v := ?_) (some 58) rfl rfl (by kernel_rfl) (by kernel_rfl) (by kernel_rfl) (by kernel_rfl) (fun _ _ _ h => h) (Or.inl ⟨by rfl, ?_⟩) hHeld ?_) | (clear tok6; refine wpBut_takes (i := 6) (v := ?_) (some 59) rfl rfl (by kernel_rfl) (by kernel_rfl) (by kernel_rfl) (by kernel_rfl) (fun _ _ _ h => h) (Or.inl ⟨by rfl, ?_⟩) hHeld ?_) | (clear tok7; refine wpBut_takes (i := 7) (v := ?_) (some 60) rfl rfl (by kernel_rfl) (by kernel_rfl) (by kernel_rfl) (by kernel_rfl) (fun _ _ _ h => h) (Or.inl ⟨by rfl, ?_⟩) hHeld ?_) | (clear tok8; refine wpBut_takes (i := 8) (v := ?_) (some 61) rfl rfl (by kernel_rfl) (by kernel_rfl) (by kernel_rfl) (by kernel_rfl) (fun _ _ _ h => h) (Or.inl ⟨by rfl, ?_⟩) hHeld ?_) | (clear tok9; refine wpBut_takes (i := 9) (v := ?_) (some 62) rfl rfl (by kernel_rfl) (by kernel_rfl) (by kernel_rfl) (by kernel_rfl) (fun _ _ _ h => h) (Or.inl ⟨by rfl, ?_⟩) hHeld ?_) | (clear tok10; refine wpBut_takes (i := 10) (v := ?_) (some 63) rfl rfl (by kernel_rfl) (by kernel_rfl) (by kernel_rfl) (by kernel_rfl) (fun _ _ _ h => h) (Or.inl ⟨by rfl, ?_⟩) hHeld ?_) | (clear tok11; refine wpBut_takes (i := 11) (v := ?_) (some 64) rfl rfl (by kernel_rfl) (by kernel_rfl) (by kernel_rfl) (by kernel_rfl) (fun _ _ _ h => h) (Or.inl ⟨by rfl, ?_⟩) hHeld ?_) | (clear tok13; refine wpBut_takes (i := 13) (v := ?_) (some 66) rfl rfl (by kernel_rfl) (by kernel_rfl) (by kernel_rfl) (by kernel_rfl) (fun _ _ _ h => h) (Or.inl ⟨by rfl, ?_⟩) hHeld ?_) | (clear tok14; refine wpBut_takes (i := 14) (v := ?_) (some 67) rfl rfl (by kernel_rfl) (by kernel_rfl) (by kernel_rfl) (by kernel_rfl) (fun _ _ _ h => h) (Or.inl ⟨by rfl, ?_⟩) hHeld ?_) | (clear tok15; refine wpBut_takes (i := 15) (v := ?_) (some 68) rfl rfl (by kernel_rfl) (by kernel_rfl) (by kernel_rfl) (by kernel_rfl) (fun _ _ _ h => h) (Or.inl ⟨by rfl, ?_⟩) hHeld ?_) | (clear tok16; refine wpBut_takes (i := 16) (v := ?_) (some 69) rfl rfl (by kernel_rfl) (by kernel_rfl) (by kernel_rfl) (by kernel_rfl) (fun _ _ _ h => h) (Or.inl ⟨by rfl, ?_⟩) hHeld ?_) | (clear tok17; refine wpBut_takes (i := 17) (v := ?_) (some 70) rfl rfl (by kernel_rfl) (by kernel_rfl) (by kernel_rfl) (by kernel_rfl) (fun _ _ _ h => h) (Or.inl ⟨by rfl, ?_⟩) hHeld ?_)); rotate_left; (· intro w hSw; obtain ⟨s0, s1, s2, s3, s4, s5⟩ := hSw; go_simp; try with_reducible rfl); simp only [Act.put, List.setIfInBounds_toArray, List.set_cons_zero, List.set_cons_succ])
          refine wpBut_step (i := 12) (by kernel_rfl) rfl rfl (fun K hK => ?_)
          go_simp
          refine (HPiece.out _ ((Gr.refl _).drew)).mono ?_
          rintro e w2 ⟨fr, to, rfl, hfr, hto, hg2⟩
          obtain ⟨b0', b5', ⟨p0', p1', p2', p3'⟩, ⟨e1', e2', e3', e4'⟩, ef'⟩ := KS.out _ hg2
          obtain ⟨f1', f2', f3', f4', f5'⟩ : w2.frozen? ⟨b, 1, none⟩ = false ∧ w2.frozen? ⟨b, 2, none⟩ = false ∧ w2.frozen? ⟨b, 3, none⟩ = false ∧ w2.frozen? ⟨b, 4, none⟩ = false ∧ w2.frozen? ⟨b, 5, none⟩ = false := ⟨ef' 1, ef' 2, ef' 3, ef' 4, ef' 5⟩
          have HFR : Hid (AheadIs L r1 fr) := hfr
          have HTO : Hid (AheadIs L (r2 + 1) to) := hto
          have HG2 : Hid (Gr w1 w2) := hg2
          clear hHeld hfr hto hg2 ef' HPiece
          refine hK.out _ _ (fun _ => ⟨b0', b5', p0', p1', p2', p3'⟩) (fun hh => ?_)
          have hHeld := hh (by decide)
          clear hh hK K
          have tok18 : True := trivial
          have tok19 : True := trivial
          iterate 2 ((first | (clear tok18; refine wpBut_takes (i := 18) (v := ?_) (some 71) rfl rfl (by kernel_rfl) (by kernel_rfl) (by kernel_rfl) (by kernel_rfl) (fun _ _ _ h => h) (Or.inl ⟨by rfl, ?_⟩) hHeld ?_) | (clear tok19; refine wpBut_takes (i := 19) (v := ?_) (some 72) rfl rfl (by kernel_rfl) (by kernel_rfl) (by kernel_rfl) (by kernel_rfl) (fun _ _ _ h => h) (Or.inl ⟨by rfl, ?_⟩) hHeld ?_)); rotate_left; (· intro w hSw; obtain ⟨s0, s1, s2, s3, s4, s5⟩ := hSw; go_simp; try with_reducible rfl); simp only [Act.put, List.setIfInBounds_toArray, List.set_cons_zero, List.set_cons_succ])
          refine wpBut_step (i := 20) (by kernel_rfl) rfl rfl (fun K hK => ?_)
          go_simp
          have hb2 := HB1.out.gr HG2.out
          simp only [List.length_cons, HRN.out] at hb2
          have HKS3 : Hid (Kp w2 ((((w2.setCell ⟨b, 1, none⟩ (.int .i64 (fr : Int))).setCell ⟨b, 2, none⟩ (.int .i64 (to : Int))).setCell ⟨b, 3, none⟩ (.slice (some ⟨E.mb, l * W, none⟩) W ((257 - l) * W))).setCell ⟨b, 4, none⟩ (.slice (some ⟨E.mb, m * W, none⟩) W ((257 - m) * W))) (fun i => i = b)) := ((((Kp.refl w2 (fun i => i = b)).setCell ⟨b, 1, none⟩ _ (.inr rfl)).setCell ⟨b, 2, none⟩ _ (.inr rfl)).setCell ⟨b, 3, none⟩ _ (.inr rfl)).setCell ⟨b, 4, none⟩ _ (.inr rfl)
          have hb3 := (((hb2.set 1 (.int .i64 (fr : Int))).set 2 (.int .i64 (to : Int))).set 3 (.slice (some ⟨E.mb, l * W, none⟩) W ((257 - l) * W))).set 4 (.slice (some ⟨E.mb, m * W, none⟩) W ((257 - m) * W))
          have nab : ab ≠ b := HFb.out ab HFab.out
          have ec3 : ∀ i j v, i ≠ b → w2.cell? ⟨i, j, none⟩ = some v → ((((w2.setCell ⟨b, 1, none⟩ (.int .i64 (fr : Int))).setCell ⟨b, 2, none⟩ (.int .i64 (to : Int))).setCell ⟨b, 3, none⟩ (.slice (some ⟨E.mb, l * W, none⟩) W ((257 - l) * W))).setCell ⟨b, 4, none⟩ (.slice (some ⟨E.mb, m * W, none⟩) W ((257 - m) * W))).cell? ⟨i, j, none⟩ = some v := fun i j v hi h => by
            have e := HKS3.out.block i (cell_lt h) hi
            simp only [World.cell?] at h ⊢
            rw [e]; exact h
          refine hK.out _ _ (fun _ => ⟨ec3 _ _ _ nT b0', hb3.cell rfl, ec3 _ _ _ nab p0', ec3 _ _ _ nab p1', ec3 _ _ _ nab p2', ec3 _ _ _ nab p3'⟩) (fun hh => ?_)
          have hHeld2 := hh (by decide)
          have g5 : ((((w2.setCell ⟨b, 1, none⟩ (.int .i64 (fr : Int))).setCell ⟨b, 2, none⟩ (.int .i64 (to : Int))).setCell ⟨b, 3, none⟩ (.slice (some ⟨E.mb, l * W, none⟩) W ((257 - l) * W))).setCell ⟨b, 4, none⟩ (.slice (some ⟨E.mb, m * W, none⟩) W ((257 - m) * W))).cell? ⟨b, 5, none⟩ = some (.slice (some ⟨ab, ao, none⟩) (rn + 1) ac) := hHeld2.2.1
          have gf : ((((w2.setCell ⟨b, 1, none⟩ (.int .i64 (fr : Int))).setCell ⟨b, 2, none⟩ (.int .i64 (to : Int))).setCell ⟨b, 3, none⟩ (.slice (some ⟨E.mb, l * W, none⟩) W ((257 - l) * W))).setCell ⟨b, 4, none⟩ (.slice (some ⟨E.mb, m * W, none⟩) W ((257 - m) * W))).frozen? ⟨b, 5, none⟩ = false := hb3.froz _
          clear hh hK K hHeld ec3
          have HEND : Hid (SetR F E L M b p (.pointer nx) U w (((((w2.setCell ⟨b, 1, none⟩ (.int .i64 (fr : Int))).setCell ⟨b, 2, none⟩ (.int .i64 (to : Int))).setCell ⟨b, 3, none⟩ (.slice (some ⟨E.mb, l * W, none⟩) W ((257 - l) * W))).setCell ⟨b, 4, none⟩ (.slice (some ⟨E.mb, m * W, none⟩) W ((257 - m) * W))).setCell ⟨b, 5, none⟩ (.slice A rn (ac - 1)))) := by
            have hk2 : Kp w w2 (fun i => i = b) := HK1.out.trans' (Kp.of_gr (S := Nul) HG2.out) (fun _ _ x => x.elim)
            have hat2 : AreasAt w2 ab ao (⟨(l : Int) + 1, r1, (m : Int), r2⟩ :: rest) := (HAT.out.kp (S := Nul) (Kp.of_gr HG.out) (fun x => x)).kp (S := Nul) (Kp.of_gr HG2.out) (fun x => x)
            have hbx := hb2
            rw [← HRN.out] at hbx
            have := settle_next (E := E) hk2 hbx HFab.out HFb.out hat2 (by rw [HRN.out]; exact hn1) HAC2.out HA.out HOK.out HAU.out HCV.out HNONE.out HFR.out HTO.out (by omega) (by omega) (by omega)
            rw [HRN.out, HW.out] at this
            exact this
          have HLT : Hid (leftOf (((((w2.setCell ⟨b, 1, none⟩ (.int .i64 (fr : Int))).setCell ⟨b, 2, none⟩ (.int .i64 (to : Int))).setCell ⟨b, 3, none⟩ (.slice (some ⟨E.mb, l * W, none⟩) W ((257 - l) * W))).setCell ⟨b, 4, none⟩ (.slice (some ⟨E.mb, m * W, none⟩) W ((257 - m) * W))).setCell ⟨b, 5, none⟩ (.slice A rn (ac - 1))) b < leftOf wr b) := by
            show _ < _
            rw [HLR.out, leftOf_blk (hb3.set 5 (.slice A rn (ac - 1))), HRN.out]; omega
          clear hb2 hb3 HKS3 b0' b5' p0' p1' p2' p3' e1' e2' e3' e4' f1' f2' f3' f4' f5' b0 b5 p0 p1 p2 p3 e1 e2 e3 e4 f1 f2 f3 f4 f5 KS KS2
          generalize hW3 : ((((w2.setCell ⟨b, 1, none⟩ (.int .i64 (fr : Int))).setCell ⟨b, 2, none⟩ (.int .i64 (to : Int))).setCell ⟨b, 3, none⟩ (.slice (some ⟨E.mb, l * W, none⟩) W ((257 - l) * W))).setCell ⟨b, 4, none⟩ (.slice (some ⟨E.mb, m * W, none⟩) W ((257 - m) * W))) = W3 at *
          have HW3 : Hid (((((w2.setCell ⟨b, 1, none⟩ (.int .i64 (fr : Int))).setCell ⟨b, 2, none⟩ (.int .i64 (to : Int))).setCell ⟨b, 3, none⟩ (.slice (some ⟨E.mb, l * W, none⟩) W ((257 - l) * W))).setCell ⟨b, 4, none⟩ (.slice (some ⟨E.mb, m * W, none⟩) W ((257 - m) * W))) = W3) := hW3
          clear hW3
          refine wpBut_step (i := 21) (by kernel_rfl) rfl rfl (fun K hK => ?_)
          go_simp
          refine hK.out _ _ (fun _ => hHeld2) (fun _ => ?_)
          clear hK K
          refine wpBut_step (i := 22) (by kernel_rfl) rfl rfl (fun K hK => ?_)
          go_simp
          refine hK.out _ _ (fun _ => hHeld2) (fun _ => ?_)
          clear hK K
          refine wpBut_step (i := 23) (by kernel_rfl) rfl rfl (fun K hK => ?_)
          go_simp
          refine hK.out _ _ (fun h => absurd rfl h) (fun _ => ?_)
          clear hK K hHeld2 g5 gf
          refine wpBut_done (by kernel_rfl) ?_
          refine NoPanic.normal ?_
          go_wp2_with fail
          exact ⟨HEND.out, HLT.out⟩
      · have hCq : C q = true ∧ M q = true := by simpa using hCM
        have hqN := HM.out q hCq.2
        rw [HN.out] at hqN
        have a1 : w1.cell? ⟨b, 2, none⟩ = some v2 := hb1.cell rfl
        have a2 : w1.frozen? ⟨b, 2, none⟩ = false := hb1.froz _
        have a3 : w1.cell? ⟨b, 6, none⟩ = some (.pointer nx) := hb1.cell rfl
        have a4 : w1.frozen? ⟨b, 6, none⟩ = false := hb1.froz _
        have a5 : w1.cell? ⟨E.t, 3, none⟩ = some (.slice (some ⟨E.wb, 0, none⟩) N N) := ht1.cell rfl
        have a6 : w1.cell? ⟨E.wb, q, none⟩ = some (.pointer (ptr q)) := hwb1.cell (vals_get hqN)
        have a7 : w1.frozen? ⟨E.wb, q, none⟩ = false := hwb1.froz _
        have q0 : (0 : Int) ≤ (q : Int) := by omega
        have q1 : (q : Int) < (N : Int) := by omega
        have nbT := Ne.symm nT
        have nbw := Ne.symm nwb
        have nwT2 := Ne.symm nwT
        have HFIN : Hid (Settled w ((((w1.setCell ⟨b, 2, none⟩ (.int .i64 (q : Int))).setCell ⟨b, 6, none⟩ (.pointer (ptr q))).setCell ⟨E.wb, q, none⟩ (.pointer (some ⟨b, 0, none⟩))).drew) F E L M b p U ptr s z) :=
          settled_wait HK1.out hb1 (by rw [HN.out]; exact hwb1) (HQ.out w1 HK1.out) HPC.out (HAR.out.kp (S := Nul) (Kp.of_gr HG.out) (fun _ _ x => x)) HOK.out HCU.out HAU.out HCV.out HF.out (by rw [HN.out]; exact hqN) hCq.1 hCq.2 hmax nqb nsb nqw nsw nwb
        clear hb1 ht1 hwb1 hCq hCM hmax
        go_wp2_with fail
        go_region
        all_goals
          go_wp2_with fail
          exact bodyPost_ret (v := .tuple #[]) (by simp [results, Tryz.results103]) rfl ⟨rfl, HFIN.out⟩
end Go.Proofs.YtdlieecpckpemaaGreatDoor
