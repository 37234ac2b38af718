/- Turns: which are told, which are ready, who waits for whom. tell. -/
import Derived.Test.YtdlieecpckpemaaGreatDoorLcYn
import Derived.Test.YtdlieecpckpemaaGreatDoorLcYc
namespace Go.Proofs.YtdlieecpckpemaaGreatDoor
open Go.RowKit

/-- A list of waits in memory: the places that wait; M is what they may wait for. -/
def Chain (w : World) (F : Nat → Prop) (L : List (Int × Int)) (mb : Nat) (U : Nat → Nat → Bool) (blk : Nat → Nat) (M : Nat → Bool) : Option Addr → List Nat → Prop
  | v, [] => v = none
  | v, p :: ps => v = some ⟨blk p, 0, none⟩ ∧ ∃ nx C al, WtIn w F L mb (blk p) p (.pointer nx) C al (U p) ∧ Covers L M C al (U p) ∧ Chain w F L mb U blk M nx ps
theorem Chain.kp {w w' : World} {F S : Nat → Prop} {L : List (Int × Int)} {mb : Nat} {U : Nat → Nat → Bool} {blk : Nat → Nat} {M : Nat → Bool} (g : Kp w w' S) (hF : ∀ b, F b → ¬ S b) : ∀ {ps : List Nat} {v : Option Addr}, Chain w F L mb U blk M v ps → (∀ p ∈ ps, ¬ S (blk p)) → Chain w' F L mb U blk M v ps
  | [], _, h, _ => h
  | p :: ps, v, h, hp => by
    obtain ⟨h1, nx, C, al, h2, h3, h4⟩ := h
    exact ⟨h1, nx, C, al, h2.kp g (hp p (List.mem_cons_self ..)) hF, h3, Chain.kp g hF h4 (fun q hq => hp q (List.mem_cons_of_mem _ hq))⟩
theorem Covers.mono {L : List (Int × Int)} {M M' C : Nat → Bool} {al : List Ar} {U : Nat → Bool} (h : Covers L M C al U) (hM : ∀ q, M' q = true → M q = true) : Covers L M' C al U := fun q h1 h2 => h q (hM q h1) h2
theorem Chain.mono {w : World} {F : Nat → Prop} {L : List (Int × Int)} {mb : Nat} {U : Nat → Nat → Bool} {blk : Nat → Nat} {M M' : Nat → Bool} (hM : ∀ q, M' q = true → M q = true) : ∀ {ps : List Nat} {v : Option Addr}, Chain w F L mb U blk M v ps → Chain w F L mb U blk M' v ps
  | [], _, h => h
  | p :: ps, v, h => by
    obtain ⟨h1, nx, C, al, h2, h3, h4⟩ := h
    exact ⟨h1, nx, C, al, h2, h3.mono hM, h4.mono hM⟩
/-- All but one. -/
def less (M : Nat → Bool) (l : Nat) : Nat → Bool := fun q => if q = l then false else M q
theorem less_of {M : Nat → Bool} {l q : Nat} (h : less M l q = true) : q ≠ l ∧ M q = true := by
  unfold less at h
  split at h
  · cases h
  · exact ⟨by assumption, h⟩
theorem less_mk {M : Nat → Bool} {l q : Nat} (h1 : q ≠ l) (h2 : M q = true) : less M l q = true := by
  unfold less; rw [if_neg h1]; exact h2
/-- The counts of the places Q, one by one. -/
def sc (Q : Nat → Bool) (N : Nat) : Nat → Int := fun i => if 1 ≤ i ∧ i ≤ N then (Fw.cnt Q (i - Fw.lb i) i : Nat) else 0
theorem sc_cnt (Q : Nat → Bool) (N : Nat) : Cnt Q (sc Q N) N := fun i h1 h2 => by unfold sc; rw [if_pos ⟨h1, h2⟩]
theorem sc_lo (Q : Nat → Bool) (N j : Nat) : -4294967296 ≤ sc Q N j := by unfold sc; split <;> omega
theorem sc_hi (Q : Nat → Bool) (N j : Nat) (hN : N ≤ 4294967295) : sc Q N j ≤ 4294967296 := by
  unfold sc
  split
  · have := cnt_le Q (j - Fw.lb j) j
    omega
  · omega
theorem sc_add (Q : Nat → Bool) (N p : Nat) (v : Bool) (hv : Q p = !v) : nums (addTo (sc Q N) p (if v then 1 else -1) (N + 1)) (N + 1) = nums (sc (Fw.upd Q p v) N) (N + 1) := by
  unfold nums
  apply List.map_congr_left
  intro i hi
  have hi' : i < N + 1 := by simpa using hi
  by_cases h1 : 1 ≤ i
  · have := (sc_cnt Q N).add v hv i h1 (by omega)
    rw [this]
    unfold sc; rw [if_pos ⟨h1, by omega⟩]
  · have h0 : i = 0 := by omega
    subst h0
    unfold addTo sc
    simp
theorem cnt_all (Q : Nat → Bool) (N p : Nat) (v : Bool) (hv : Q p = !v) (hp : p < N) : (Fw.cnt (Fw.upd Q p v) 0 N : Int) = (Fw.cnt Q 0 N : Nat) + (if v then 1 else -1) := by
  rw [Fw.cnt_upd Q p v hv 0 N (by omega)]
  have : 0 ≤ p ∧ p < N := ⟨by omega, hp⟩
  rw [if_pos this]
/-- Turns as they stand: M are not told, Q are ready, ch l wait for l, rem are in hand; D are yet to come. -/
structure TI (w : World) (F : Nat → Prop) (E : Tb) (L : List (Int × Int)) (U : Nat → Nat → Bool) (blk : Nat → Nat) (M Q : Nat → Bool) (ptr : Nat → Option Addr) (ch : Nat → List Nat) (v : Option Addr) (rem : List Nat) (D : Nat → Prop) : Prop where
  stay : TStay w F E L M
  queue : QIn w E L.length (sc Q L.length) (Fw.cnt Q 0 L.length : Nat)
  wb : Blk w E.wb (vals (fun j => .pointer (ptr j)) L.length) 140
  mN : ∀ p, M p = true → p < L.length
  lists : ∀ l, M l = true → Chain w F L E.mb U blk (less M l) (ptr l) (ch l)
  hand : Chain w F L E.mb U blk M v rem
  qM : ∀ p, Q p = true → M p = true ∧ ∀ q, M q = true → U p q = false
  all : ∀ p, M p = true → Q p = false → ¬ D p → (∃ l, M l = true ∧ U p l = true ∧ p ∈ ch l) ∨ p ∈ rem
  inCh : ∀ l p, M l = true → p ∈ ch l → M p = true ∧ Q p = false
  inRem : ∀ p ∈ rem, M p = true ∧ Q p = false
  one : ∀ l l' p, M l = true → M l' = true → p ∈ ch l → p ∈ ch l' → l = l'
  apart : ∀ l p, M l = true → p ∈ ch l → p ∉ rem
  nod : ∀ l, M l = true → (ch l).Nodup
  nodR : rem.Nodup
  inj : ∀ p q, p < L.length → q < L.length → ¬ D p → ¬ D q → blk p = blk q → p = q
  far : ∀ i p, F i → p < L.length → ¬ D p → ¬ Wr E (blk p) i
  dd : ∀ p, D p → Q p = false ∧ p ∉ rem ∧ ∀ l, M l = true → p ∉ ch l
theorem Chain.blk_type {w : World} {F : Nat → Prop} {L : List (Int × Int)} {mb : Nat} {U : Nat → Nat → Bool} {blk : Nat → Nat} {M : Nat → Bool} : ∀ {ps : List Nat} {v : Option Addr}, Chain w F L mb U blk M v ps → ∀ p ∈ ps, ∃ cs, Blk w (blk p) cs 142
  | q :: ps, v, h, p, hp => by
    obtain ⟨h1, nx, C, al, ⟨⟨v1, v2, v3, v4, av, e, _⟩, _⟩, h3, h4⟩ := h
    rcases List.mem_cons.1 hp with rfl | hp
    · exact ⟨_, e⟩
    · exact h4.blk_type p hp
/-- settle of the first one in hand. -/
theorem TI.settled {w w' : World} {F : Nat → Prop} {E : Tb} {L : List (Int × Int)} {U : Nat → Nat → Bool} {blk : Nat → Nat} {M Q : Nat → Bool} {ptr : Nat → Option Addr} {ch : Nat → List Nat} {nx v : Option Addr} {p : Nat} {rem : List Nat} {D : Nat → Prop}
    (h : TI w F E L U blk M Q ptr ch v (p :: rem) D) (hnx : Chain w F L E.mb U blk M nx rem)
    (hset : Settled w w' F E L M (blk p) p (U p) ptr (sc Q L.length) (Fw.cnt Q 0 L.length : Nat)) : ∃ Q' ptr' ch', TI w' F E L U blk M Q' ptr' ch' nx rem D := by
  obtain ⟨hk, hset⟩ := hset
  have hp := h.inRem p (List.mem_cons_self ..)
  have hpN := h.mN p hp.1
  have hpD : ¬ D p := fun hd => (h.dd p hd).2.1 (List.mem_cons_self ..)
  have hF : ∀ b, F b → ¬ Wr E (blk p) b := fun b hb => h.far b p hb hpN hpD
  have hnd := List.nodup_cons.1 h.nodR
  obtain ⟨cs0, hb0⟩ := h.hand.blk_type p (List.mem_cons_self ..)
  have hlen := h.stay.board.len
  -- blocks that are not written
  have nwr : ∀ q cs, q < L.length → ¬ D q → q ≠ p → Blk w (blk q) cs 142 → ¬ Wr E (blk p) (blk q) := fun q cs hq hqD hqp hb e => by
    rcases e with e | e | e | e
    · exact hqp (h.inj q p hq hpN hqD hpD e)
    · exact (h.queue.qq.ne hb (by decide)) e.symm
    · exact (h.queue.ss.ne hb (by decide)) e.symm
    · exact (h.wb.ne hb (by decide)) e.symm
  have ht : TStay w' F E L M := by
    have nn : ∀ i cs t, Blk w i cs t → t ≠ 142 → t ≠ 115 → t ≠ 3 → t ≠ 140 → ¬ Wr E (blk p) i := fun i cs t hb h1 h2 h3 h4 e => by
      rcases e with e | e | e | e
      · exact (hb.ne hb0 h1) e
      · exact (hb.ne h.queue.qq h2) e
      · exact (hb.ne h.queue.ss h3) e
      · exact (hb.ne h.wb h4) e
    obtain ⟨⟨a, cc, h1, _⟩, _⟩ := h.stay.board
    exact h.stay.kp hk (nn _ _ _ h.stay.t (by decide) (by decide) (by decide) (by decide)) (nn _ _ _ h1.b (by decide) (by decide) (by decide) (by decide)) (nn _ _ _ h1.u (by decide) (by decide) (by decide) (by decide)) (nn _ _ _ h1.m (by decide) (by decide) (by decide) (by decide)) (nn _ _ _ h.stay.u (by decide) (by decide) (by decide) (by decide)) hF
  have hlists : ∀ l, M l = true → Chain w' F L E.mb U blk (less M l) (ptr l) (ch l) := fun l hl =>
    (h.lists l hl).kp hk hF (fun q hq => by
      obtain ⟨cs, hb⟩ := (h.lists l hl).blk_type q hq
      refine nwr q cs (h.mN q (h.inCh l q hl hq).1) (fun hd => (h.dd q hd).2.2 l hl hq) (fun e => ?_) hb
      subst e
      exact h.apart l q hl hq (List.mem_cons_self ..))
  have hhand : Chain w' F L E.mb U blk M nx rem := hnx.kp hk hF (fun q hq => by
    obtain ⟨cs, hb⟩ := hnx.blk_type q hq
    refine nwr q cs (h.mN q (h.inRem q (List.mem_cons_of_mem _ hq)).1) (fun hd => (h.dd q hd).2.1 (List.mem_cons_of_mem _ hq)) (fun e => ?_) hb
    subst e
    exact hnd.1 hq)
  rcases hset with ⟨l, C, al, hlN, hMl, hUl, hwt, hcov, hwb', hq'⟩ | ⟨hno, hwb', hqq, hss⟩
  · refine ⟨Q, fun j => if j = l then some ⟨blk p, 0, none⟩ else ptr j, fun j => if j = l then p :: ch l else ch j, ht, hq', hwb', h.mN, fun j hj => ?_, hhand, h.qM, fun q hMq hQq hqD => ?_, fun j q hj hq => ?_, fun q hq => h.inRem q (List.mem_cons_of_mem _ hq), fun j j' q hj hj' hq hq' => ?_, fun j q hj hq => ?_, fun j hj => ?_, hnd.2, h.inj, h.far, fun q hd => ⟨(h.dd q hd).1, fun hc => (h.dd q hd).2.1 (List.mem_cons_of_mem _ hc), fun j hj hq => ?_⟩⟩
    · by_cases e : j = l
      · subst e
        simp only [if_true]
        exact ⟨rfl, ptr j, C, al, hwt, hcov, hlists j hj⟩
      · simp only [if_neg e]; exact hlists j hj
    · rcases h.all q hMq hQq hqD with ⟨j, hj, hu, hq⟩ | hq
      · refine .inl ⟨j, hj, hu, ?_⟩
        by_cases e : j = l
        · subst e; simp [hq]
        · simp only [if_neg e]; exact hq
      · rcases List.mem_cons.1 hq with rfl | hq
        · exact .inl ⟨l, hMl, hUl, by simp⟩
        · exact .inr hq
    · by_cases e : j = l
      · subst e
        simp only [if_true] at hq
        rcases List.mem_cons.1 hq with rfl | hq
        · exact hp
        · exact h.inCh j q hj hq
      · simp only [if_neg e] at hq; exact h.inCh j q hj hq
    · have hpch : ∀ i, M i = true → p ∉ ch i := fun i hi hc => h.apart i p hi hc (List.mem_cons_self ..)
      by_cases e : j = l <;> by_cases e' : j' = l
      · rw [e, e']
      · subst e
        simp only [if_true] at hq
        simp only [if_neg e'] at hq'
        rcases List.mem_cons.1 hq with rfl | hq
        · exact absurd hq' (hpch j' hj')
        · exact h.one j j' q hj hj' hq hq'
      · subst e'
        simp only [if_true] at hq'
        simp only [if_neg e] at hq
        rcases List.mem_cons.1 hq' with rfl | hq'
        · exact absurd hq (hpch j hj)
        · exact h.one j j' q hj hj' hq hq'
      · simp only [if_neg e] at hq
        simp only [if_neg e'] at hq'
        exact h.one j j' q hj hj' hq hq'
    · by_cases e : j = l
      · subst e
        simp only [if_true] at hq
        rcases List.mem_cons.1 hq with rfl | hq
        · exact hnd.1
        · exact fun hc => h.apart j q hj hq (List.mem_cons_of_mem _ hc)
      · simp only [if_neg e] at hq
        exact fun hc => h.apart j q hj hq (List.mem_cons_of_mem _ hc)
    · by_cases e : j = l
      · subst e
        simp only [if_true]
        exact List.nodup_cons.2 ⟨fun hc => h.apart j p hj hc (List.mem_cons_self ..), h.nod j hj⟩
      · simp only [if_neg e]; exact h.nod j hj
    · by_cases e : j = l
      · subst e
        simp only [if_true] at hq
        rcases List.mem_cons.1 hq with rfl | hq
        · exact hpD hd
        · exact (h.dd q hd).2.2 j hj hq
      · simp only [if_neg e] at hq
        exact (h.dd q hd).2.2 j hj hq
  · have hQp : Q p = !true := by simpa using hp.2
    have eQ : ∀ q, Fw.upd Q p true q = true → q = p ∨ Q q = true := fun q hq => by
      unfold Fw.upd at hq
      split at hq
      · exact .inl (by assumption)
      · exact .inr hq
    have eN : ∀ q, q ≠ p → Fw.upd Q p true q = Q q := fun q hq => by unfold Fw.upd; rw [if_neg hq]
    have hz := cnt_all Q L.length p true hQp hpN
    simp only [if_true] at hz
    have hs := sc_add Q L.length p true hQp
    simp only [if_true] at hs
    rw [hs] at hss
    rw [← hz] at hqq
    have hcl := cnt_le (Fw.upd Q p true) 0 L.length
    refine ⟨Fw.upd Q p true, ptr, ch, ht, ⟨hqq, hss, fun j => sc_lo _ _ j, fun j => sc_hi _ _ j hlen, by omega, by omega⟩, hwb', h.mN, hlists, hhand, fun q hq => ?_, fun q hMq hQq hqD => ?_, fun j q hj hq => ?_, fun q hq => ?_, h.one, fun j q hj hq hc => h.apart j q hj hq (List.mem_cons_of_mem _ hc), h.nod, hnd.2, h.inj, h.far, fun q hd => ⟨by rw [eN q (fun e => hpD (e ▸ hd))]; exact (h.dd q hd).1, fun hc => (h.dd q hd).2.1 (List.mem_cons_of_mem _ hc), (h.dd q hd).2.2⟩⟩
    · rcases eQ q hq with rfl | hq
      · exact ⟨hp.1, hno⟩
      · exact h.qM q hq
    · have hqp : q ≠ p := fun e => by subst e; simp [Fw.upd] at hQq
      rw [eN q hqp] at hQq
      rcases h.all q hMq hQq hqD with hq | hq
      · exact .inl hq
      · rcases List.mem_cons.1 hq with e | hq
        · exact absurd e hqp
        · exact .inr hq
    · have hqp : q ≠ p := fun e => by subst e; exact h.apart j q hj hq (List.mem_cons_self ..)
      have := h.inCh j q hj hq
      exact ⟨this.1, by rw [eN q hqp]; exact this.2⟩
    · have hqp : q ≠ p := fun e => by subst e; exact hnd.1 hq
      have := h.inRem q (List.mem_cons_of_mem _ hq)
      exact ⟨this.1, by rw [eN q hqp]; exact this.2⟩
end Go.Proofs.YtdlieecpckpemaaGreatDoor
namespace Go.Proofs.YtdlieecpckpemaaGreatDoor
open Go.RowKit

/-- Blocks that turns write. -/
def TW (E : Tb) (blk : Nat → Nat) (N : Nat) : Nat → Prop := fun i => i = E.un ∨ i = E.qb ∨ i = E.sb ∨ i = E.wb ∨ ∃ p, p < N ∧ i = blk p
theorem TI.told {w w2 : World} {F : Nat → Prop} {E : Tb} {L : List (Int × Int)} {U : Nat → Nat → Bool} {blk : Nat → Nat} {M Q : Nat → Bool} {ptr : Nat → Option Addr} {ch : Nat → List Nat} {p : Nat}
    (h : TI w F E L U blk M Q ptr ch none [] Nul) (hQ : Q p = true) (hk : Kp w w2 (fun i => i = E.un ∨ i = E.qb ∨ i = E.sb)) (hu : Blk w2 E.un (wds (less M p) ((L.length + 63) / 64)) 122)
    (hqu : QIn w2 E L.length (sc (Fw.upd Q p false) L.length) (Fw.cnt (Fw.upd Q p false) 0 L.length : Nat)) (hfu : ∀ i, F i → i ≠ E.un) (nmu : E.mb ≠ E.un) : TI w2 F E L U blk (less M p) (Fw.upd Q p false) ptr ch (ptr p) (ch p) Nul := by
  have hMp := (h.qM p hQ).1
  have hpN := h.mN p hMp
  have hF : ∀ b, F b → ¬ (fun i => i = E.un ∨ i = E.qb ∨ i = E.sb) b := fun b hb e => by
    rcases e with e | e | e
    · exact hfu b hb e
    · exact h.far b p hb hpN (fun x => x) (.inr (.inl e))
    · exact h.far b p hb hpN (fun x => x) (.inr (.inr (.inl e)))
  have nn : ∀ i cs t, Blk w i cs t → t ≠ 122 → t ≠ 115 → t ≠ 3 → ¬ (fun i => i = E.un ∨ i = E.qb ∨ i = E.sb) i := fun i cs t hb h1 h2 h3 e => by
    rcases e with e | e | e
    · exact (hb.ne h.stay.u h1) e
    · exact (hb.ne h.queue.qq h2) e
    · exact (hb.ne h.queue.ss h3) e
  have ht : TStay w2 F E L (less M p) := by
    obtain ⟨⟨a, cc, h1, _⟩, _⟩ := h.stay.board
    have hm : ¬ (fun i => i = E.un ∨ i = E.qb ∨ i = E.sb) E.mb := fun e => by
      rcases e with e | e | e
      · exact nmu e
      · exact (h1.m.ne h.queue.qq (by decide)) e
      · exact (h1.m.ne h.queue.ss (by decide)) e
    exact ⟨h.stay.t.kp hk (nn _ _ _ h.stay.t (by decide) (by decide) (by decide)), h.stay.board.kp hk (nn _ _ _ h1.b (by decide) (by decide) (by decide)) (nn _ _ _ h1.u (by decide) (by decide) (by decide)) hm hF, hu⟩
  have hch : ∀ l, M l = true → Chain w2 F L E.mb U blk (less M l) (ptr l) (ch l) := fun l hl => (h.lists l hl).kp hk hF (fun q hq => by
    obtain ⟨cs, hb⟩ := (h.lists l hl).blk_type q hq
    exact nn _ _ _ hb (by decide) (by decide) (by decide))
  have eN : ∀ q, q ≠ p → Fw.upd Q p false q = Q q := fun q hq => by unfold Fw.upd; rw [if_neg hq]
  have nep : ∀ l q, M l = true → q ∈ ch l → q ≠ p := fun l q hl hq e => by
    subst e
    have := (h.inCh l q hl hq).2
    rw [hQ] at this; cases this
  have inC : ∀ l q, M l = true → q ∈ ch l → less M p q = true ∧ Fw.upd Q p false q = false := fun l q hl hq => by
    have hne := nep l q hl hq
    have := h.inCh l q hl hq
    exact ⟨less_mk hne this.1, by rw [eN q hne]; exact this.2⟩
  refine ⟨ht, hqu, h.wb.kp hk (nn _ _ _ h.wb (by decide) (by decide) (by decide)), fun q hq => h.mN q (less_of hq).2, fun l hl => ?_, hch p hMp, fun q hq => ?_, fun q hMq hQq _ => ?_, fun l q hl hq => inC l q (less_of hl).2 hq, fun q hq => inC p q hMp hq, fun l l' q hl hl' hq hq' => h.one l l' q (less_of hl).2 (less_of hl').2 hq hq', fun l q hl hq hc => ?_, fun l hl => h.nod l (less_of hl).2, h.nod p hMp, h.inj, h.far, fun _ hd => hd.elim⟩
  · exact (hch l (less_of hl).2).mono (fun q hq => less_mk (less_of hq).1 (less_of (less_of hq).2).2)
  · have hne : q ≠ p := fun e => by subst e; simp [Fw.upd] at hq
    rw [eN q hne] at hq
    have := h.qM q hq
    exact ⟨less_mk hne this.1, fun r hr => this.2 r (less_of hr).2⟩
  · have hne := (less_of hMq).1
    rw [eN q hne] at hQq
    rcases h.all q (less_of hMq).2 hQq (fun x => x) with ⟨l, hl, hu, hq⟩ | hq
    · by_cases e : l = p
      · subst e; exact .inr hq
      · exact .inl ⟨l, less_mk e hl, hu, hq⟩
    · cases hq
  · exact (less_of hl).1 (h.one l p q (less_of hl).2 hMp hq hc)
def TellR (F : Nat → Prop) (E : Tb) (L : List (Int × Int)) (U : Nat → Nat → Bool) (blk : Nat → Nat) (M : Nat → Bool) (w : World) (v : Value) (wr : World) : Prop :=
  ∃ Q ptr ch a rem, v = .pointer a ∧ TI wr F E L U blk M Q ptr ch a rem Nul ∧ Kp w wr (TW E blk L.length)
/-- How many are in hand. -/
noncomputable def handOf (F : Nat → Prop) (E : Tb) (L : List (Int × Int)) (U : Nat → Nat → Bool) (blk : Nat → Nat) (M : Nat → Bool) (v : Value) (wr : World) : Nat :=
  open Classical in if h : ∃ n Q ptr ch a rem, v = .pointer a ∧ TI wr F E L U blk M Q ptr ch a rem Nul ∧ rem.length = n then h.choose else 0
theorem Chain.same {w : World} {F : Nat → Prop} {L : List (Int × Int)} {mb : Nat} {U : Nat → Nat → Bool} {blk : Nat → Nat} {M : Nat → Bool} (hinj : ∀ p q, p < L.length → q < L.length → blk p = blk q → p = q) : ∀ {ps qs : List Nat} {v : Option Addr}, (∀ p ∈ ps, p < L.length) → (∀ p ∈ qs, p < L.length) → Chain w F L mb U blk M v ps → Chain w F L mb U blk M v qs → ps = qs
  | [], [], _, _, _, _, _ => rfl
  | [], q :: qs, v, _, _, h, h' => by obtain ⟨e, _⟩ := h'; rw [h] at e; cases e
  | p :: ps, [], v, _, _, h, h' => by obtain ⟨e, _⟩ := h; rw [h'] at e; cases e
  | p :: ps, q :: qs, v, hp, hq, h, h' => by
    obtain ⟨e1, nx, C, al, ⟨⟨v1, v2, v3, v4, av, hb, _⟩, _⟩, _, h2⟩ := h
    obtain ⟨e1', nx', C', al', ⟨⟨v1', v2', v3', v4', av', hb', _⟩, _⟩, _, h2'⟩ := h'
    rw [e1] at e1'
    have eb : blk p = blk q := by simpa using e1'
    have epq := hinj p q (hp p (List.mem_cons_self ..)) (hq q (List.mem_cons_self ..)) eb
    subst epq
    have : nx = nx' := by
      have a1 := hb.at' (i := 6)
      have a2 := hb'.at' (i := 6)
      rw [a1] at a2
      simpa using a2
    subst this
    rw [Chain.same hinj (fun r hr => hp r (List.mem_cons_of_mem _ hr)) (fun r hr => hq r (List.mem_cons_of_mem _ hr)) h2 h2']
theorem handOf_is {F : Nat → Prop} {E : Tb} {L : List (Int × Int)} {U : Nat → Nat → Bool} {blk : Nat → Nat} {M Q : Nat → Bool} {ptr : Nat → Option Addr} {ch : Nat → List Nat} {a : Option Addr} {rem : List Nat} {wr : World} (h : TI wr F E L U blk M Q ptr ch a rem Nul) : handOf F E L U blk M (.pointer a) wr = rem.length := by
  have hex : ∃ n Q ptr ch a' rem, Value.pointer a = .pointer a' ∧ TI wr F E L U blk M Q ptr ch a' rem Nul ∧ rem.length = n := ⟨_, Q, ptr, ch, a, rem, rfl, h, rfl⟩
  unfold handOf
  rw [dif_pos hex]
  obtain ⟨Q', ptr', ch', a', rem', e, h', hl⟩ := hex.choose_spec
  have ea : a = a' := by simpa using e
  subst ea
  rw [← hl, Chain.same (fun p q h1 h2 => h.inj p q h1 h2 (fun x => x) (fun x => x)) (fun p hp => h.mN p (h.inRem p hp).1) (fun p hp => h'.mN p (h'.inRem p hp).1) h.hand h'.hand]

set_option maxRecDepth 20000 in
set_option maxHeartbeats 2000000 in
theorem tell_at (F : Nat → Prop) (E : Tb) (L : List (Int × Int)) (U : Nat → Nat → Bool) (blk : Nat → Nat) (M Q : Nat → Bool) (ptr : Nat → Option Addr) (ch : Nat → List Nat) (p : Nat) (w : World)
    (h : TI w F E L U blk M Q ptr ch none [] Nul) (hQ : Q p = true) (hfu : ∀ i, F i → i ≠ E.un) (nmu : E.mb ≠ E.un) :
    Calls Tryz.prog 77 #[.pointer (some ⟨E.t, 0, none⟩), .int .i64 (p : Int)] w fun e w' => e = .returned (.tuple #[]) ∧ ∃ Q' ptr' ch', TI w' F E L U blk (less M p) Q' ptr' ch' none [] Nul ∧ Kp w w' (TW E blk L.length) := by
  have hMp := (h.qM p hQ).1
  have hpN := h.mN p hMp
  have hlen := h.stay.board.len
  have hQp : Q p = !false := by simpa using hQ
  have hz := cnt_all Q L.length p false hQp hpN
  have hcl := cnt_le (Fw.upd Q p false) 0 L.length
  have hcl2 := cnt_le Q 0 L.length
  have hsc := sc_add Q L.length p false hQp
  simp only [Bool.false_eq_true, if_false] at hz hsc
  have nut : E.t ≠ E.un := h.stay.t.ne h.stay.u (by decide)
  have nqu : E.qb ≠ E.un := h.queue.qq.ne h.stay.u (by decide)
  have nsu : E.sb ≠ E.un := h.queue.ss.ne h.stay.u (by decide)
  have nqt : E.t ≠ E.qb := h.stay.t.ne h.queue.qq (by decide)
  have nst : E.t ≠ E.sb := h.stay.t.ne h.queue.ss (by decide)
  have nuq : ¬ (fun i => i = E.qb ∨ i = E.sb) E.un := fun e => by rcases e with e | e; exact nqu e.symm; exact nsu e.symm
  have HAdd : Hid (Calls Tryz.prog 105 #[.pointer (some ⟨E.qb, 0, none⟩), .int .i64 (p : Int), .int .i64 (-1)] w fun e w1 => e = .returned (.tuple #[]) ∧ QIn w1 E L.length (sc (Fw.upd Q p false) L.length) (Fw.cnt (Fw.upd Q p false) 0 L.length : Nat) ∧ Kp w w1 (fun i => i = E.qb ∨ i = E.sb)) := by
    refine (add_at E.qb E.sb (L.length + 1) _ p (sc Q L.length) _ (-1) w h.queue.qq h.queue.ss (by omega) (by omega) h.queue.zlo h.queue.zhi (by omega) (by omega) h.queue.lo h.queue.hi).mono ?_
    rintro e w1 ⟨rfl, e1, e2, e3⟩
    rw [hsc] at e2
    rw [← hz] at e1
    exact ⟨rfl, ⟨e1, e2, fun j => sc_lo _ _ j, fun j => sc_hi _ _ j hlen, by omega, by omega⟩, e3⟩
  have HTold : Hid (∀ w1, QIn w1 E L.length (sc (Fw.upd Q p false) L.length) (Fw.cnt (Fw.upd Q p false) 0 L.length : Nat) → Kp w w1 (fun i => i = E.qb ∨ i = E.sb) → Calls Tryz.prog 106 #[.slice (some ⟨E.un, 0, none⟩) ((L.length + 63) / 64) ((L.length + 63) / 64), .int .i64 (p : Int)] w1 fun e w2 => e = .returned (.tuple #[]) ∧ TI w2 F E L U blk (less M p) (Fw.upd Q p false) ptr ch (ptr p) (ch p) Nul ∧ Kp w w2 (TW E blk L.length)) := fun w1 hq1 k1 => by
    have hu1 : Blk w1 E.un (wds M ((L.length + 63) / 64)) 122 := h.stay.u.kp k1 nuq
    refine (drop_at E.un 0 ((L.length + 63) / 64) _ p (Wd.wd M (p / 64) : Nat) (Wd.wd (less M p) (p / 64) : Nat) w1 (by omega) (by omega) (andNot_drop M p) (by rw [Nat.zero_add]; exact hu1.cell (wds_get (by omega))) (hu1.froz _)).mono ?_
    rintro e w2 ⟨rfl, rfl⟩
    have k2 : Kp w1 ((w1.setCell ⟨E.un, 0 + p / 64, none⟩ (.int .u64 ((Wd.wd (less M p) (p / 64) : Nat) : Int))).drew) (fun i => i = E.un) := ((Kp.refl w1 (fun i => i = E.un)).setCell ⟨E.un, 0 + p / 64, none⟩ _ (.inr rfl)).drew
    have kk : Kp w ((w1.setCell ⟨E.un, 0 + p / 64, none⟩ (.int .u64 ((Wd.wd (less M p) (p / 64) : Nat) : Int))).drew) (fun i => i = E.un ∨ i = E.qb ∨ i = E.sb) := (k1.mono (T := fun i => i = E.un ∨ i = E.qb ∨ i = E.sb) fun _ _ e => .inr e).trans' k2 (fun _ _ e => .inl e)
    refine ⟨rfl, h.told hQ kk ?_ (hq1.kp k2 nqu nsu) hfu nmu, kk.mono fun i _ e => by rcases e with e | e | e; exact .inl e; exact .inr (.inl e); exact .inr (.inr (.inl e))⟩
    have := (hu1.set (p / 64) (.int .u64 ((Wd.wd (less M p) (p / 64) : Nat) : Int))).drew
    rw [wds_set (N := less M p) (fun j _ hj => wd_far false hj)] at this
    rw [Nat.zero_add]
    exact this
  have HT : Hid (∀ wq, Kp w wq (fun i => i = E.qb ∨ i = E.sb) → wq.cell? ⟨E.t, 1, none⟩ = some (.slice (some ⟨E.un, 0, none⟩) ((L.length + 63) / 64) ((L.length + 63) / 64))) := fun wq k => (h.stay.t.kp k (fun e => by rcases e with e | e; exact nqt e; exact nst e)).cell rfl
  have c2 : w.cell? ⟨E.t, 2, none⟩ = some (.pointer (some ⟨E.qb, 0, none⟩)) := h.stay.t.cell rfl
  clear hz hcl hcl2 hsc nut nqu nsu nqt nst nuq
  obtain ⟨N, hN⟩ : ∃ N, L.length = N := ⟨_, rfl⟩
  have HN : Hid (L.length = N) := hN
  obtain ⟨W, hW⟩ : ∃ W, (L.length + 63) / 64 = W := ⟨_, rfl⟩
  have hpN2 : (p : Int) < (N : Int) := by omega
  have hp0 : (0 : Int) ≤ (p : Int) := by omega
  rw [hW] at HTold HT
  have HH : Hid (TI w F E L U blk M Q ptr ch none [] Nul) := h
  clear h hN
  have HW : Hid ((L.length + 63) / 64 = W) := hW
  clear hW
  go_enter Tryz.func77, Tryz.ntmps77
  go_wp2_with fail
  refine HAdd.out.mono ?_
  rintro e w1 ⟨rfl, hq1, hk1⟩
  have t1 := HT.out w1 hk1
  have HQ1 : Hid (QIn w1 E L.length (sc (Fw.upd Q p false) L.length) (Fw.cnt (Fw.upd Q p false) 0 L.length : Nat)) := hq1
  have HK1 : Hid (Kp w w1 (fun i => i = E.qb ∨ i = E.sb)) := hk1
  clear hq1 hk1
  go_wp2_with fail
  refine (HTold.out w1 HQ1.out HK1.out).mono ?_
  rintro e w2 ⟨rfl, ht2, hk2⟩
  have c3 : w2.cell? ⟨E.t, 3, none⟩ = some (.slice (some ⟨E.wb, 0, none⟩) N N) := by rw [← HN.out]; exact ht2.stay.t.cell rfl
  have c4 : w2.cell? ⟨E.wb, p, none⟩ = some (.pointer (ptr p)) := ht2.wb.cell (vals_get hpN)
  have HT2 : Hid (TI w2 F E L U blk (less M p) (Fw.upd Q p false) ptr ch (ptr p) (ch p) Nul) := ht2
  have HK2 : Hid (Kp w w2 (TW E blk L.length)) := hk2
  clear ht2 hk2 t1 c2
  go_wp2_with fail
  clear c3 c4 HAdd HTold HT HQ1 HK1 HH
  go_loopw [4] (fun v wr => TellR F E L U blk (less M p) w v wr) (fun v wr => handOf F E L U blk (less M p) v wr)
  case atStart => exact ⟨_, ptr, ch, ptr p, ch p, rfl, HT2.out, HK2.out⟩
  case round =>
    clear HT2 HK2
    obtain ⟨Q1, ptr1, ch1, a, rem, rfl, hti, hkp⟩ := hrel
    have HTI : Hid (TI wr F E L U blk (less M p) Q1 ptr1 ch1 a rem Nul) := hti
    have HKP : Hid (Kp w wr (TW E blk L.length)) := hkp
    have HHO : Hid (handOf F E L U blk (less M p) (.pointer a) wr = rem.length) := handOf_is hti
    cases rem with
    | nil =>
      obtain rfl : a = none := hti.hand
      clear hti hkp
      go_wp2_with fail
      go_end0
      exact ⟨rfl, Q1, ptr1, ch1, HTI.out, HKP.out⟩
    | cons q rem =>
      obtain ⟨rfl, nx, C, al, hwt, hcov, hnx⟩ := hti.hand
      have hqN := hti.mN q (hti.inRem q (List.mem_cons_self ..)).1
      have HSet : Hid (Calls Tryz.prog 103 #[.pointer (some ⟨E.t, 0, none⟩), .pointer (some ⟨blk q, 0, none⟩)] wr fun e w' => e = .returned (.tuple #[]) ∧ (∃ Q' ptr' ch', TI w' F E L U blk (less M p) Q' ptr' ch' nx rem Nul) ∧ Kp w w' (TW E blk L.length)) := by
        refine (settle_at F E L (less M p) (blk q) q nx C al (U q) ptr1 (sc Q1 L.length) _ wr hti.stay hti.queue hti.wb hwt hcov hti.mN hqN (fun i hi => hti.far i q hi hqN (fun x => x))).mono ?_
        rintro e w' ⟨rfl, hset⟩
        refine ⟨rfl, hti.settled hnx hset, hkp.trans' hset.1 (fun i _ e => ?_)⟩
        rcases e with e | e | e | e
        · exact .inr (.inr (.inr (.inr ⟨q, hqN, e⟩)))
        · exact .inr (.inl e)
        · exact .inr (.inr (.inl e))
        · exact .inr (.inr (.inr (.inl e)))
      obtain ⟨v1, v2, v3, v4, av, hb, _⟩ := hwt.form
      have c6 : wr.cell? ⟨blk q, 6, none⟩ = some (.pointer nx) := hb.cell rfl
      clear hti hkp hwt hcov hnx hb
      go_wp2_with fail
      refine HSet.out.mono ?_
      rintro e w3 ⟨rfl, ⟨Q3, ptr3, ch3, ht3⟩, hk3⟩
      have HT3 : Hid (TI w3 F E L U blk (less M p) Q3 ptr3 ch3 nx rem Nul) := ht3
      have HK3 : Hid (Kp w w3 (TW E blk L.length)) := hk3
      clear ht3 hk3 HSet
      go_wp2_with fail
      refine ⟨⟨Q3, ptr3, ch3, nx, rem, rfl, HT3.out, HK3.out⟩, ?_⟩
      rw [handOf_is HT3.out, HHO.out]
      simp
end Go.Proofs.YtdlieecpckpemaaGreatDoor
