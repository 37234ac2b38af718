/- Ready. -/
import Derived.Test.YtdlieecpckpemaaGreatDoorLcZi
import Derived.Test.YtdlieecpckpemaaGreatDoorLcYu
namespace Go.Proofs.YtdlieecpckpemaaGreatDoor
open Go.RowKit Go.Sort Go.Lib

/-- All blocks of turns lie below B. -/
structure EB (w : World) (E : Tb) (L : List (Int × Int)) (blk : Nat → Nat) (B : Nat) : Prop where
  e : E.t < B ∧ E.B < B ∧ E.ub < B ∧ E.mb < B ∧ E.un < B ∧ E.qb < B ∧ E.sb < B ∧ E.wb < B
  f : w.heap.size ≤ B
  b : ∀ p, p < L.length → blk p < B
  lo : ∀ p, p < L.length → w.heap.size ≤ blk p
theorem TI.kpx {w0 w w' : World} {E : Tb} {L : List (Int × Int)} {U : Nat → Nat → Bool} {blk : Nat → Nat} {M Q : Nat → Bool} {ptr : Nat → Option Addr} {ch : Nat → List Nat} {B : Nat} {S : Nat → Prop}
    (h : TI w (under w0) E L U blk M Q ptr ch none [] Nul) (hb : EB w0 E L blk B) (g : Kp w w' S) (hS : ∀ i, S i → B ≤ i) : TI w' (under w0) E L U blk M Q ptr ch none [] Nul := by
  obtain ⟨⟨e1, e2, e3, e4, e5, e6, e7, e8⟩, f, b, _⟩ := hb
  have n : ∀ i, i < B → ¬ S i := fun i hi hs => by have := hS i hs; omega
  have hF : ∀ i, under w0 i → ¬ S i := fun i hi => n i (by have : i < w0.heap.size := hi; omega)
  exact ⟨h.stay.kp g (n _ e1) (n _ e2) (n _ e3) (n _ e4) (n _ e5) hF, h.queue.kp g (n _ e6) (n _ e7), h.wb.kp g (n _ e8), h.mN, fun l hl => (h.lists l hl).kp g hF (fun p hp => n _ (b p (h.mN p (h.inCh l p hl hp).1))), h.hand, h.qM, h.all, h.inCh, h.inRem, h.one, h.apart, h.nod, h.nodR, h.inj, h.far, h.dd⟩
theorem TI.lts {w0 w : World} {E : Tb} {L : List (Int × Int)} {U : Nat → Nat → Bool} {blk : Nat → Nat} {M Q : Nat → Bool} {ptr : Nat → Option Addr} {ch : Nat → List Nat}
    (h : TI w (under w0) E L U blk M Q ptr ch none [] Nul) (hs : w0.heap.size ≤ w.heap.size) (hb : ∀ p, p < L.length → w0.heap.size ≤ blk p ∧ blk p < w.heap.size) : EB w0 E L blk w.heap.size := by
  obtain ⟨⟨a, cc, hB, _⟩, _⟩ := h.stay.board
  exact ⟨⟨h.stay.t.lt, hB.b.lt, hB.u.lt, hB.m.lt, h.stay.u.lt, h.queue.qq.lt, h.queue.ss.lt, h.wb.lt⟩, hs, fun p hp => (hb p hp).2, fun p hp => (hb p hp).1⟩
def LoopR (w1 : World) (E : Tb) (L : List (Int × Int)) (U : Nat → Nat → Bool) (blk : Nat → Nat) (P : List Int) (LB : Nat) (s : Value) (wr : World) : Prop :=
  ∃ (k : Nat) (T : Nat → Bool) (o : List Nat) (dk : Array (Int × Int)) (Q : Nat → Bool) (ptr : Nat → Option Addr) (ch : Nat → List Nat), k ≤ L.length ∧ s = .int .i64 (k : Int) ∧ TI wr (under w1) E L U blk T Q ptr ch none [] Nul ∧ Kp w1 wr Nul ∧ RowA wr LB 0 dk ∧ dk.size = L.length ∧ o.length = k ∧
    (∀ (i p : Nat), o[i]? = some p → L[p]? = some dk[i]!) ∧ Od.go L.length U P L.length 0 (allM L) = (Od.go L.length U P (L.length - k) k T).map (o ++ ·)
/-- What Ready comes to, of a list of cells that all may be. -/
def ReadyIs (us : Int × Int → Option (List Ar)) (A : List (Int × Int)) (P : List Int) (B : Nat) (w' : World) (v : Value) (er : Int) : Prop :=
  ∃ L, Strict L ∧ (∀ x, x ∈ L ↔ x ∈ A) ∧
    ((Od.go L.length (useP L us) P L.length 0 (allM L) = none ∧ v = .slice none 0 0 ∧ er = 40) ∨
     ∃ (o : List Nat) (R : List (Int × Int)) (b : Nat), Od.go L.length (useP L us) P L.length 0 (allM L) = some o ∧ R.length = L.length ∧ o.length = L.length ∧ (∀ (i p : Nat), o[i]? = some p → L[p]? = R[i]?) ∧ v = .slice (some ⟨b, 0, none⟩) R.length R.length ∧ B ≤ b ∧ CellsAt w' b 0 R ∧ er = 0)
/-- A place told. -/
theorem loop_tell {w1 wr : World} {E : Tb} {L : List (Int × Int)} {U : Nat → Nat → Bool} {blk : Nat → Nat} {P : List Int} {LB k p nq : Nat} {T Q : Nat → Bool} {o : List Nat} {dk : Array (Int × Int)} {ptr : Nat → Option Addr} {ch : Nat → List Nat} {x1 x2 : Int}
    (hk : k < L.length) (ht : TI wr (under w1) E L U blk T Q ptr ch none [] Nul) (hkp : Kp w1 wr Nul) (hrow : RowA wr LB 0 dk) (hds : dk.size = L.length) (hol : o.length = k) (ho : ∀ (i p : Nat), o[i]? = some p → L[p]? = some dk[i]!)
    (hgo : Od.go L.length U P L.length 0 (allM L) = (Od.go L.length U P (L.length - k) k T).map (o ++ ·)) (hp : (Od.rdyL L.length U T)[Od.pk P k (Od.rdyL L.length U T).length]? = some p) (hx : L[p]? = some (x1, x2))
    (hb : EB w1 E L blk LB) (hn : ENew w1 E) :
    Calls Tryz.prog 77 #[.pointer (some ⟨E.t, 0, none⟩), .int .i64 (p : Int)] (((wr.drewN nq).setCell ⟨LB, k * 2, none⟩ (.int .i64 x1)).setCell ⟨LB, k * 2 + 1, none⟩ (.int .i64 x2)) fun e w' => e = .returned (.tuple #[]) ∧ LoopR w1 E L U blk P LB (.int .i64 ((k + 1 : Nat) : Int)) w' := by
  have g : Kp wr (((wr.drewN nq).setCell ⟨LB, k * 2, none⟩ (.int .i64 x1)).setCell ⟨LB, k * 2 + 1, none⟩ (.int .i64 x2)) (fun i => i = LB) := (((Kp.refl wr (fun i => i = LB)).drewN nq).setCell ⟨LB, k * 2, none⟩ _ (.inr rfl)).setCell ⟨LB, k * 2 + 1, none⟩ _ (.inr rfl)
  have hr2 : RowA (((wr.drewN nq).setCell ⟨LB, k * 2, none⟩ (.int .i64 x1)).setCell ⟨LB, k * 2 + 1, none⟩ (.int .i64 x2)) LB 0 (dk.setIfInBounds k (x1, x2)) := by
    have := RowA.set (w := wr.drewN nq) hrow k (by omega) (x1, x2)
    simp only [Nat.zero_add] at this
    exact this
  generalize (((wr.drewN nq).setCell ⟨LB, k * 2, none⟩ (.int .i64 x1)).setCell ⟨LB, k * 2 + 1, none⟩ (.int .i64 x2)) = w2 at *
  have ht2 := ht.kpx hb g (fun i e => by subst e; exact Nat.le_refl _)
  have hrd := ht.rdy
  rw [hrd] at hp
  have hq := (filter_at Q L.length _ p hp).2.1
  have e1 := hb.e
  have hnew := hn.new
  refine (tell_at (under w1) E L U blk T Q ptr ch p w2 ht2 hq (fun i hi e => by have : i < w1.heap.size := hi; omega) hn.ne).mono ?_
  rintro e w' ⟨rfl, Q', ptr', ch', ht3, hk3⟩
  refine ⟨rfl, k + 1, less T p, o ++ [p], dk.setIfInBounds k (x1, x2), Q', ptr', ch', by omega, rfl, ht3, ?_, hr2.kp hk3 ?_, by simpa using hds, by simp [hol], fun i q hi => ?_, ?_⟩
  · refine (hkp.trans' g (fun i hi e => ?_)).trans' hk3 (fun i hi e => ?_)
    · have := hb.f; omega
    · rcases e with e | e | e | e | ⟨q, hq, e⟩
      · omega
      · omega
      · omega
      · omega
      · have := hb.lo q hq; omega
  · rintro (e | e | e | e | ⟨q, hq, e⟩)
    · omega
    · omega
    · omega
    · omega
    · have := hb.b q hq; omega
  · by_cases h1 : i < k
    · rw [List.getElem?_append_left (by omega)] at hi
      rw [getElem!_set_other dk k i (x1, x2) (by omega)]
      exact ho i q hi
    · rw [List.getElem?_append_right (by omega)] at hi
      have hik : i = k := by
        have := (List.getElem?_eq_some_iff.1 hi).1
        simp at this
        omega
      subst hik
      rw [show i - o.length = 0 by omega] at hi
      have : p = q := by simpa using hi
      subst this
      rw [getElem!_set_same dk i (x1, x2) (by omega)]
      exact hx
  · rw [hgo, show L.length - k = (L.length - (k + 1)) + 1 by omega, Od.go, hrd, hp]
    simp only
    rw [Option.map_map]
    have : Od.del T p = less T p := rfl
    rw [this]
    congr 1
    funext z
    simp
theorem loop_start {w1 wt : World} {E : Tb} {L : List (Int × Int)} {U : Nat → Nat → Bool} {blk : Nat → Nat} {P : List Int} {Q : Nat → Bool} {ptr : Nat → Option Addr} {ch : Nat → List Nat} {cs : Array Value}
    (ht : TI wt (under w1) E L U blk (allM L) Q ptr ch none [] Nul) (hb : ∀ p, p < L.length → w1.heap.size ≤ blk p ∧ blk p < wt.heap.size) (hk : Kp w1 wt Nul) (hrow : RowA (wt.alloc (.cells cs 29)) wt.heap.size 0 (Array.replicate L.length (0, 0))) :
    LoopR w1 E L U blk P wt.heap.size (.int .i64 0) (wt.alloc (.cells cs 29)) ∧ EB w1 E L blk wt.heap.size := by
  have hB := ht.lts hk.size hb
  refine ⟨⟨0, allM L, [], Array.replicate L.length (0, 0), Q, ptr, ch, Nat.zero_le _, rfl, ht.kpx hB ((Kp.refl wt Nul).alloc _) (fun i e => e.elim), hk.alloc _, hrow, by simp, rfl, fun i p hi => (by cases hi), ?_⟩, hB⟩
  rw [Nat.sub_zero]
  cases Od.go L.length U P L.length 0 (allM L) <;> simp
theorem rise_of {L : List (Int × Int)} (h : Strict L) : RowsRise L := fun p q x y hx hy hpq => by
  obtain ⟨hp, rfl⟩ := List.getElem?_eq_some_iff.1 hx
  obtain ⟨hq, rfl⟩ := List.getElem?_eq_some_iff.1 hy
  rcases Nat.lt_or_ge p q with hlt | hge
  · have := List.pairwise_iff_getElem.1 h p q hp hq hlt
    rw [cfA_lt] at this
    omega
  · have : p = q := by omega
    subst this
    exact Int.le_refl _
theorem vc_iff (x : Int × Int) : vC x.1 x.2 = true ↔ VC x := by rw [vC_iff]; unfold VC; exact Iff.rfl
set_option maxRecDepth 20000 in
set_option maxHeartbeats 8000000 in
theorem ready_at (l n : Nat) (us : Int × Int → Option (List Ar)) (A : List (Int × Int)) (a : Option Addr) (ca : Nat) (P : List Int) (ap : Option Addr) (cp : Nat) (w : World) (hl : LinksIn w (under w) l us n) (hA : A.length ≤ 1048576) (ha : 0 < A.length → ∃ b o, a = some ⟨b, o, none⟩ ∧ CellsAt w b o A) (hP : P.length ≤ maxLen) (hap : 0 < P.length → ∃ b o, ap = some ⟨b, o, none⟩ ∧ IntsAt w b o P) :
    Calls Tryz.prog 38 #[.pointer (some ⟨l, 0, none⟩), .slice a A.length ca, .slice ap P.length cp] w fun e w' => ∃ v er, e = .returned (.tuple #[v, .int .i64 er]) ∧ Kp w w' Nul ∧ ((A.any (fun x => !vC x.1 x.2) = true ∧ v = .slice none 0 0 ∧ er = 20) ∨ (A.any (fun x => !vC x.1 x.2) = false ∧ ReadyIs us A P w.heap.size w' v er)) := by
  have HC : Hid (Calls Tryz.prog 73 #[.slice a A.length ca, .func (.func 51) #[] #[]] w fun e w' => e = .returned (.bool (A.any (fun x => !vC x.1 x.2))) ∧ Kp w w' Nul) := noCell_any A a ca w hA ha
  have HO : Hid (∀ wq, Kp w wq Nul → Calls Tryz.prog 49 #[.slice a A.length ca, .func (.func 50) #[] #[]] wq fun e w' => ∃ L v', e = .returned v' ∧ CellsFrom wq.heap.size w' v' L ∧ (Strict L ∧ L.length ≤ A.length) ∧ (∀ x, x ∈ L ↔ x ∈ A) ∧ Kp wq w' Nul) := fun wq k =>
    ordered_at A a ca wq hA (fun h0 => by obtain ⟨b, o, e, h⟩ := ha h0; exact ⟨b, o, e, h.kp k (fun x => x)⟩)
  have HL : Hid (∀ wq, Kp w wq Nul → LinksIn wq (under wq) l us n) := fun wq k => (hl.kp k (fun _ _ x => x)).mono (fun b _ hb => by have h1 : b < w.heap.size := hb; have := k.size; show b < wq.heap.size; omega)
  have HP : Hid (∀ wq, Kp w wq Nul → 0 < P.length → ∃ b o, ap = some ⟨b, o, none⟩ ∧ IntsAt wq b o P) := fun wq k h => by obtain ⟨b, o, e, hc⟩ := hap h; exact ⟨b, o, e, hc.kp k (fun x => x)⟩
  have HPL : Hid (P.length ≤ maxLen) := hP
  obtain ⟨N, hN⟩ : ∃ N, A.length = N := ⟨_, rfl⟩
  have HAL : Hid (N ≤ 1048576) := by show _ ≤ _; rw [← hN]; exact hA
  obtain ⟨V, hV⟩ : ∃ V, A.any (fun x => !vC x.1 x.2) = V := ⟨_, rfl⟩
  have HV : Hid (A.any (fun x => !vC x.1 x.2) = V) := hV
  rw [hV] at HC ⊢
  rw [hN] at HC HO ⊢
  obtain ⟨PN, hPN⟩ : ∃ PN, P.length = PN := ⟨_, rfl⟩
  have HPN : Hid (P.length = PN) := hPN
  rw [hPN]
  clear hl hA ha hP hap hN hV hPN
  go_enter Tryz.func38, Tryz.ntmps38
  go_wp2_with fail
  refine HC.out.mono ?_
  rintro e w1 ⟨rfl, hk1⟩
  have HK1 : Hid (Kp w w1 Nul) := hk1
  clear hk1 HC
  cases V with
  | true =>
    go_wp2_with fail
    go_ret2
    exact ⟨_, _, rfl, HK1.out, rfl, rfl⟩
  | false =>
    go_wp2_with fail
    refine (HO.out w1 HK1.out).mono ?_
    rintro e w2 ⟨L, v2, rfl, ⟨aL, cL, rfl, haL⟩, ⟨hst, hlA⟩, hmem, hk2⟩
    have HST : Hid (Strict L) := hst
    have HMEM : Hid (∀ x, x ∈ L ↔ x ∈ A) := hmem
    have HK2 : Hid (Kp w w2 Nul) := HK1.out.trans hk2
    have HAL2 : Hid (0 < L.length → ∃ b o, aL = some ⟨b, o, none⟩ ∧ CellsAt w2 b o L) := fun h => by
      rcases haL with ⟨_, e⟩ | ⟨b, e1, _, e3⟩
      · rw [e] at h; exact absurd h (Nat.lt_irrefl _)
      · exact ⟨b, 0, e1, e3⟩
    have hLV : ∀ (i : Nat) (x : Int × Int), L[i]? = some x → VC x := fun i x hx => by
      have hm := (hmem x).1 (List.mem_of_getElem? hx)
      have := HV.out
      rw [List.any_eq_false] at this
      have h2 := this x hm
      rw [← vc_iff]
      simpa using h2
    have hLN : L.length ≤ 1048576 := Nat.le_trans hlA HAL.out
    clear hlA
    have HTu : Hid (Calls Tryz.prog 74 #[.pointer (some ⟨l, 0, none⟩), .slice aL L.length cL] w2 fun e w' => ∃ E, e = .returned (.pointer (some ⟨E.t, 0, none⟩)) ∧ TurnsR w2 E L (useP L us) L.length w' ∧ ENew w2 E) := turns_at L aL cL l n us w2 (by omega) hLV (rise_of hst) HAL2.out (HL.out w2 HK2.out)
    obtain ⟨cs, hmk, hrow⟩ := make_cells L.length hLN
    have HROW : Hid (∀ w : World, RowA (w.alloc (.cells cs 29)) w.heap.size 0 (Array.replicate L.length (0, 0))) := hrow
    obtain ⟨M, hM⟩ : ∃ M, L.length = M := ⟨_, rfl⟩
    have HM : Hid (L.length = M) := hM
    rw [hM] at HTu hmk hLN
    rw [hM]
    clear haL hst hmem hk2 hLV hM hrow HO
    go_wp2_with fail
    refine HTu.out.mono ?_
    rintro e w3 ⟨E, rfl, htr, hen⟩
    obtain ⟨blk, Q, ptr, ch, hti, hbk, hk3⟩ := htr
    rw [← HM.out] at hti hbk
    have htd := hti.done
    have HSt : Hid (LoopR w2 E L (useP L us) blk P w3.heap.size (.int .i64 0) (w3.alloc (.cells cs 29)) ∧ EB w2 E L blk w3.heap.size) := loop_start htd hbk hk3 (HROW.out w3)
    have HEN : Hid (ENew w2 E) := hen
    obtain ⟨⟨aB, cB, hBM, _⟩, _⟩ := htd.stay.board
    have q1 : w3.cell? ⟨E.t, 0, none⟩ = some (.pointer (some ⟨E.B, 0, none⟩)) := htd.stay.t.cell rfl
    have q2 : w3.cell? ⟨E.B, 0, none⟩ = some (.slice aB M cB) := by rw [← HM.out]; exact hBM.b.cell rfl
    have hs3 : w2.heap.size ≤ w3.heap.size := hk3.size
    have hs2 : w.heap.size ≤ w2.heap.size := HK2.out.size
    clear hti hbk hk3 htd hen hBM HTu HROW HAL2
    go_wp2_with fail
    go_loopw [33] (fun s wr => LoopR w2 E L (useP L us) blk P w3.heap.size s wr) (fun s _ => M - (intOf s).toNat)
    case atStart => exact HSt.out.1
    case round =>
      have HB : Hid (EB w2 E L blk w3.heap.size) := HSt.out.2
      clear HSt q1 q2
      obtain ⟨k, T, o, dk, Q1, ptr1, ch1, hk, rfl, hti, hkp, hrow, hds, hol, ho, hgo⟩ := hrel
      rw [HM.out] at hk
      have HTI : Hid (TI wr (under w2) E L (useP L us) blk T Q1 ptr1 ch1 none [] Nul) := hti
      have HKP : Hid (Kp w2 wr Nul) := hkp
      have HROW : Hid (RowA wr w3.heap.size 0 dk) := hrow
      have HDS : Hid (dk.size = L.length) := hds
      have HOL : Hid (o.length = k) := hol
      have HOO : Hid (∀ (i p : Nat), o[i]? = some p → L[p]? = some dk[i]!) := ho
      have HGO : Hid (Od.go L.length (useP L us) P L.length 0 (allM L) = (Od.go L.length (useP L us) P (L.length - k) k T).map (o ++ ·)) := hgo
      clear hti hkp hrow hds hol ho hgo
      by_cases hlt : k < M
      · have hlt2 : (k : Int) < (M : Int) := by omega
        have hrd := HTI.out.rdy
        have hlen : (Od.rdyL L.length (useP L us) T).length = Fw.cnt Q1 0 L.length := by rw [hrd, filter_len]
        obtain ⟨z, hz⟩ : ∃ z, Fw.cnt Q1 0 L.length = z := ⟨_, rfl⟩
        have hzl : z ≤ 1048576 := by have := cnt_le Q1 0 L.length; have := HM.out; omega
        have t0 : wr.cell? ⟨E.t, 0, none⟩ = some (.pointer (some ⟨E.B, 0, none⟩)) := HTI.out.stay.t.cell rfl
        have t2 : wr.cell? ⟨E.t, 2, none⟩ = some (.pointer (some ⟨E.qb, 0, none⟩)) := HTI.out.stay.t.cell rfl
        have t3 : wr.cell? ⟨E.qb, 0, none⟩ = some (.int .i64 (z : Int)) := by rw [← hz]; exact HTI.out.queue.qq.cell rfl
        have HZ : Hid (Fw.cnt Q1 0 L.length = z) := hz
        have HLEN : Hid ((Od.rdyL L.length (useP L us) T).length = z) := hlen.trans hz
        clear hz hlen
        by_cases hz0 : z = 0
        · subst hz0
          have HNO : Hid (Od.go L.length (useP L us) P L.length 0 (allM L) = none) := by
            show _ = _
            rw [HGO.out, show L.length - k = (L.length - (k + 1)) + 1 by have := HM.out; omega, Od.go, List.getElem?_eq_none (by rw [HLEN.out]; exact Nat.zero_le _)]
            rfl
          go_wp2_with fail
          go_ret2
          exact ⟨_, _, rfl, HK2.out.trans HKP.out, L, HST.out, HMEM.out, .inl ⟨HNO.out, rfl, rfl⟩⟩
        · have hzp : 0 < z := by omega
          have hz1 : ((z : Int) == 0) = false := by simp; omega
          have hpk := Od.pk_lt P k z hzp
          obtain ⟨p, hp⟩ : ∃ p, (Od.rdyL L.length (useP L us) T)[Od.pk P k z]? = some p := ⟨_, List.getElem?_eq_getElem (by rw [HLEN.out]; exact hpk)⟩
          have hp2 := hp
          rw [hrd] at hp2
          obtain ⟨hpN, hpQ, _⟩ := filter_at Q1 L.length _ p hp2
          obtain ⟨⟨x1, x2⟩, hx⟩ : ∃ x, L[p]? = some x := ⟨_, List.getElem?_eq_getElem hpN⟩
          obtain ⟨⟨aB2, cB2, hBM, hcells⟩, _⟩ := HTI.out.stay.board
          obtain ⟨bb, bo, rfl, hcl, _⟩ := hcells (by omega)
          obtain ⟨y1, y2⟩ := hcl p _ hx
          simp only at y1 y2
          have t4 : wr.cell? ⟨E.B, 0, none⟩ = some (.slice (some ⟨bb, bo, none⟩) M cB2) := by rw [← HM.out]; exact hBM.b.cell rfl
          obtain ⟨⟨z1, z2⟩, z3, z4⟩ := HROW.out k (by rw [HDS.out, HM.out]; exact hlt)
          rw [Nat.zero_add] at z1 z2 z3 z4
          have hpM : (p : Int) < (M : Int) := by have := HM.out; omega
          have HPick : Hid (∀ m, Calls Tryz.prog 76 #[.slice ap PN cp, .int .i64 (k : Int), .int .i64 (z : Int)] (wr.drewN m) fun e w' => e = .returned (.int .i64 ((Od.pk P k z : Nat) : Int)) ∧ w' = wr.drewN m) := fun m => by
            rw [← HPN.out]
            exact pick_at P ap cp k z (wr.drewN m) (by omega) hzp (by omega) HPL.out (HP.out _ ((HK2.out.trans HKP.out).drewN m))
          have HNth : Hid (∀ m, Calls Tryz.prog 75 #[.pointer (some ⟨E.qb, 0, none⟩), .int .i64 ((Od.pk P k z : Nat) : Int)] (wr.drewN m) fun e w' => e = .returned (.int .i64 (p : Int)) ∧ ∃ d, w' = (wr.drewN m).drewN d) := fun m =>
            nth_is (HTI.out.kpx HB.out ((Kp.refl wr Nul).drewN m) (fun i e => e.elim)) (Od.pk P k z) p hp2
          have HTell : Hid (∀ nq, Calls Tryz.prog 77 #[.pointer (some ⟨E.t, 0, none⟩), .int .i64 (p : Int)] (((wr.drewN nq).setCell ⟨w3.heap.size, k * 2, none⟩ (.int .i64 x1)).setCell ⟨w3.heap.size, k * 2 + 1, none⟩ (.int .i64 x2)) fun e w' => e = .returned (.tuple #[]) ∧ LoopR w2 E L (useP L us) blk P w3.heap.size (.int .i64 ((k + 1 : Nat) : Int)) w') := fun nq =>
            loop_tell (by rw [HM.out]; exact hlt) HTI.out HKP.out HROW.out HDS.out HOL.out HOO.out HGO.out (by rw [HLEN.out]; exact hp) hx HB.out HEN.out
          generalize Od.pk P k z = n0 at *
          have nBt : w3.heap.size ≠ E.t := by have := HB.out.e; omega
          have nBB : w3.heap.size ≠ E.B := by have := HB.out.e; omega
          clear hrd hp hp2 hpN hpQ hx hBM hcells hcl hpk
          go_wp2_with fail
          go_quiet (first | (go_at_call 76; exact Calls.quiet_of_same (HPick.out _)) | (go_at_call 75; exact Calls.quiet_of (HNth.out _)))
          go_wp2_with fail
          refine (HTell.out _).mono ?_
          rintro e w4 ⟨rfl, hlr⟩
          have HLR : Hid (LoopR w2 E L (useP L us) blk P w3.heap.size (.int .i64 ((k + 1 : Nat) : Int)) w4) := hlr
          clear hlr
          go_wp2_with fail
          go_roundw
          case rel => exact HLR.out
          case measure => simp only [intOf]; omega
      · have : k = M := by omega
        subst this
        have HSO : Hid (Od.go L.length (useP L us) P L.length 0 (allM L) = some o) := by
          show _ = _
          rw [HGO.out, HM.out, Nat.sub_self]
          simp [Od.go]
        go_wp2_with fail
        go_ret2
        refine ⟨_, _, rfl, HK2.out.trans HKP.out, L, HST.out, HMEM.out, .inr ⟨o, dk.toList, w3.heap.size, HSO.out, by simp [HDS.out], by rw [HOL.out, HM.out], fun i p hi => ?_, ?_, by omega, ?_, rfl⟩⟩
        · rw [HOO.out i p hi]
          have hid : i < dk.size := by have := (List.getElem?_eq_some_iff.1 hi).1; have h1 := HOL.out; have h2 := HDS.out; have h3 := HM.out; omega
          rw [getElem!_pos dk i hid, Array.getElem?_toList, Array.getElem?_eq_getElem hid]
        · have : dk.toList.length = k := by simp [HDS.out, HM.out]
          rw [this]
          rfl
        · have := HROW.out.low (w' := wr) dk.size (fun j _ => rfl)
          rwa [List.take_of_length_le (by simp)] at this
end Go.Proofs.YtdlieecpckpemaaGreatDoor
