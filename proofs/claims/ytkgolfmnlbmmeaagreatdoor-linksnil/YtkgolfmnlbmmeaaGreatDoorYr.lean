/- Turns: which are told, which are ready, who waits for whom. -/
import Derived.Test.YtkgolfmnlbmmeaaGreatDoorYn
import Derived.Test.YtkgolfmnlbmmeaaGreatDoorYc
namespace Go.Proofs.YtkgolfmnlbmmeaaGreatDoor
open Go.RowKit

/-- A list of waits in memory: the places that wait; M is what they may wait for. -/
def Chain (w : World) (F : Nat → Prop) (L : List (Int × Int)) (mb : Nat) (U : Nat → Nat → Bool) (blk : Nat → Nat) (M : Nat → Bool) : Option Addr → List Nat → Prop
  | v, [] => v = none
  | v, p :: ps => v = some ⟨blk p, 0, none⟩ ∧ ∃ nx C al, WtIn w F L mb (blk p) p (.pointer nx) C al (U p) ∧ Covers L M C al (U p) ∧ Chain w F L mb U blk M nx ps
theorem Chain.kp {w w' : World} {F S : Nat → Prop} {L : List (Int × Int)} {mb : Nat} {U : Nat → Nat → Bool} {blk : Nat → Nat} {M : Nat → Bool} (g : Kp w w' S) (hF : ∀ b, F b → ¬ S b) : ∀ {ps : List Nat} {v : Option Addr}, Chain w F L mb U blk M v ps → (∀ p ∈ ps, ¬ S (blk p)) → Chain w' F L mb U blk M v ps
  | [], _, h, _ => h
  | p :: ps, v, h, hp => by
    obtain ⟨h1, nx, C, al, h2, h3, h4⟩ := h
    exact ⟨h1, nx, C, al, h2.kp g (hp p (List.mem_cons_self ..)) hF, h3, Chain.kp g hF h4 (fun q hq => hp q (List.mem_cons_of_mem _ hq))⟩
theorem Covers.mono {L : List (Int × Int)} {M M' C : Nat → Bool} {al : List Ar} {U : Nat → Bool} (h : Covers L M C al U) (hM : ∀ q, M' q = true → M q = true) : Covers L M' C al U := fun q h1 h2 => h q (hM q h1) h2
theorem Chain.mono {w : World} {F : Nat → Prop} {L : List (Int × Int)} {mb : Nat} {U : Nat → Nat → Bool} {blk : Nat → Nat} {M M' : Nat → Bool} (hM : ∀ q, M' q = true → M q = true) : ∀ {ps : List Nat} {v : Option Addr}, Chain w F L mb U blk M v ps → Chain w F L mb U blk M' v ps
  | [], _, h => h
  | p :: ps, v, h => by
    obtain ⟨h1, nx, C, al, h2, h3, h4⟩ := h
    exact ⟨h1, nx, C, al, h2, h3.mono hM, h4.mono hM⟩
/-- All but one. -/
def less (M : Nat → Bool) (l : Nat) : Nat → Bool := fun q => if q = l then false else M q
theorem less_of {M : Nat → Bool} {l q : Nat} (h : less M l q = true) : q ≠ l ∧ M q = true := by
  unfold less at h
  split at h
  · cases h
  · exact ⟨by assumption, h⟩
theorem less_mk {M : Nat → Bool} {l q : Nat} (h1 : q ≠ l) (h2 : M q = true) : less M l q = true := by
  unfold less; rw [if_neg h1]; exact h2
/-- The counts of the places Q, one by one. -/
def sc (Q : Nat → Bool) (N : Nat) : Nat → Int := fun i => if 1 ≤ i ∧ i ≤ N then (Fw.cnt Q (i - Fw.lb i) i : Nat) else 0
theorem sc_cnt (Q : Nat → Bool) (N : Nat) : Cnt Q (sc Q N) N := fun i h1 h2 => by unfold sc; rw [if_pos ⟨h1, h2⟩]
theorem sc_lo (Q : Nat → Bool) (N j : Nat) : -4294967296 ≤ sc Q N j := by unfold sc; split <;> omega
theorem sc_hi (Q : Nat → Bool) (N j : Nat) (hN : N ≤ 4294967295) : sc Q N j ≤ 4294967296 := by
  unfold sc
  split
  · have := cnt_le Q (j - Fw.lb j) j
    omega
  · omega
theorem sc_add (Q : Nat → Bool) (N p : Nat) (v : Bool) (hv : Q p = !v) : nums (addTo (sc Q N) p (if v then 1 else -1) (N + 1)) (N + 1) = nums (sc (Fw.upd Q p v) N) (N + 1) := by
  unfold nums
  apply List.map_congr_left
  intro i hi
  have hi' : i < N + 1 := by simpa using hi
  by_cases h1 : 1 ≤ i
  · have := (sc_cnt Q N).add v hv i h1 (by omega)
    rw [this]
    unfold sc; rw [if_pos ⟨h1, by omega⟩]
  · have h0 : i = 0 := by omega
    subst h0
    unfold addTo sc
    simp
theorem cnt_all (Q : Nat → Bool) (N p : Nat) (v : Bool) (hv : Q p = !v) (hp : p < N) : (Fw.cnt (Fw.upd Q p v) 0 N : Int) = (Fw.cnt Q 0 N : Nat) + (if v then 1 else -1) := by
  rw [Fw.cnt_upd Q p v hv 0 N (by omega)]
  have : 0 ≤ p ∧ p < N := ⟨by omega, hp⟩
  rw [if_pos this]
/-- Turns as they stand: M are not told, Q are ready, ch l wait for l, rem are in hand; D are yet to come. -/
structure TI (w : World) (F : Nat → Prop) (E : Tb) (L : List (Int × Int)) (U : Nat → Nat → Bool) (blk : Nat → Nat) (M Q : Nat → Bool) (ptr : Nat → Option Addr) (ch : Nat → List Nat) (v : Option Addr) (rem : List Nat) (D : Nat → Prop) : Prop where
  stay : TStay w F E L M
  queue : QIn w E L.length (sc Q L.length) (Fw.cnt Q 0 L.length : Nat)
  wb : Blk w E.wb (vals (fun j => .pointer (ptr j)) L.length) 141
  mN : ∀ p, M p = true → p < L.length
  lists : ∀ l, M l = true → Chain w F L E.mb U blk (less M l) (ptr l) (ch l)
  hand : Chain w F L E.mb U blk M v rem
  qM : ∀ p, Q p = true → M p = true ∧ ∀ q, M q = true → U p q = false
  all : ∀ p, M p = true → Q p = false → ¬ D p → (∃ l, M l = true ∧ U p l = true ∧ p ∈ ch l) ∨ p ∈ rem
  inCh : ∀ l p, M l = true → p ∈ ch l → M p = true ∧ Q p = false
  inRem : ∀ p ∈ rem, M p = true ∧ Q p = false
  one : ∀ l l' p, M l = true → M l' = true → p ∈ ch l → p ∈ ch l' → l = l'
  apart : ∀ l p, M l = true → p ∈ ch l → p ∉ rem
  nod : ∀ l, M l = true → (ch l).Nodup
  nodR : rem.Nodup
  inj : ∀ p q, p < L.length → q < L.length → ¬ D p → ¬ D q → blk p = blk q → p = q
  far : ∀ i p, F i → p < L.length → ¬ D p → ¬ Wr E (blk p) i
  dd : ∀ p, D p → Q p = false ∧ p ∉ rem ∧ ∀ l, M l = true → p ∉ ch l
theorem Chain.blk_type {w : World} {F : Nat → Prop} {L : List (Int × Int)} {mb : Nat} {U : Nat → Nat → Bool} {blk : Nat → Nat} {M : Nat → Bool} : ∀ {ps : List Nat} {v : Option Addr}, Chain w F L mb U blk M v ps → ∀ p ∈ ps, ∃ cs, Blk w (blk p) cs 143
  | q :: ps, v, h, p, hp => by
    obtain ⟨h1, nx, C, al, ⟨⟨v1, v2, v3, v4, av, e, _⟩, _⟩, h3, h4⟩ := h
    rcases List.mem_cons.1 hp with rfl | hp
    · exact ⟨_, e⟩
    · exact h4.blk_type p hp
/-- settle of the first one in hand. -/
theorem TI.settled {w w' : World} {F : Nat → Prop} {E : Tb} {L : List (Int × Int)} {U : Nat → Nat → Bool} {blk : Nat → Nat} {M Q : Nat → Bool} {ptr : Nat → Option Addr} {ch : Nat → List Nat} {nx v : Option Addr} {p : Nat} {rem : List Nat} {D : Nat → Prop}
    (h : TI w F E L U blk M Q ptr ch v (p :: rem) D) (hnx : Chain w F L E.mb U blk M nx rem)
    (hset : Settled w w' F E L M (blk p) p (U p) ptr (sc Q L.length) (Fw.cnt Q 0 L.length : Nat)) : ∃ Q' ptr' ch', TI w' F E L U blk M Q' ptr' ch' nx rem D := by
  obtain ⟨hk, hset⟩ := hset
  have hp := h.inRem p (List.mem_cons_self ..)
  have hpN := h.mN p hp.1
  have hpD : ¬ D p := fun hd => (h.dd p hd).2.1 (List.mem_cons_self ..)
  have hF : ∀ b, F b → ¬ Wr E (blk p) b := fun b hb => h.far b p hb hpN hpD
  have hnd := List.nodup_cons.1 h.nodR
  obtain ⟨cs0, hb0⟩ := h.hand.blk_type p (List.mem_cons_self ..)
  have hlen := h.stay.board.len
  -- blocks that are not written
  have nwr : ∀ q cs, q < L.length → ¬ D q → q ≠ p → Blk w (blk q) cs 143 → ¬ Wr E (blk p) (blk q) := fun q cs hq hqD hqp hb e => by
    rcases e with e | e | e | e
    · exact hqp (h.inj q p hq hpN hqD hpD e)
    · exact (h.queue.qq.ne hb (by decide)) e.symm
    · exact (h.queue.ss.ne hb (by decide)) e.symm
    · exact (h.wb.ne hb (by decide)) e.symm
  have ht : TStay w' F E L M := by
    have nn : ∀ i cs t, Blk w i cs t → t ≠ 143 → t ≠ 115 → t ≠ 3 → t ≠ 141 → ¬ Wr E (blk p) i := fun i cs t hb h1 h2 h3 h4 e => by
      rcases e with e | e | e | e
      · exact (hb.ne hb0 h1) e
      · exact (hb.ne h.queue.qq h2) e
      · exact (hb.ne h.queue.ss h3) e
      · exact (hb.ne h.wb h4) e
    obtain ⟨⟨a, cc, h1, _⟩, _⟩ := h.stay.board
    exact h.stay.kp hk (nn _ _ _ h.stay.t (by decide) (by decide) (by decide) (by decide)) (nn _ _ _ h1.b (by decide) (by decide) (by decide) (by decide)) (nn _ _ _ h1.u (by decide) (by decide) (by decide) (by decide)) (nn _ _ _ h1.m (by decide) (by decide) (by decide) (by decide)) (nn _ _ _ h.stay.u (by decide) (by decide) (by decide) (by decide)) hF
  have hlists : ∀ l, M l = true → Chain w' F L E.mb U blk (less M l) (ptr l) (ch l) := fun l hl =>
    (h.lists l hl).kp hk hF (fun q hq => by
      obtain ⟨cs, hb⟩ := (h.lists l hl).blk_type q hq
      refine nwr q cs (h.mN q (h.inCh l q hl hq).1) (fun hd => (h.dd q hd).2.2 l hl hq) (fun e => ?_) hb
      subst e
      exact h.apart l q hl hq (List.mem_cons_self ..))
  have hhand : Chain w' F L E.mb U blk M nx rem := hnx.kp hk hF (fun q hq => by
    obtain ⟨cs, hb⟩ := hnx.blk_type q hq
    refine nwr q cs (h.mN q (h.inRem q (List.mem_cons_of_mem _ hq)).1) (fun hd => (h.dd q hd).2.1 (List.mem_cons_of_mem _ hq)) (fun e => ?_) hb
    subst e
    exact hnd.1 hq)
  rcases hset with ⟨l, C, al, hlN, hMl, hUl, hwt, hcov, hwb', hq'⟩ | ⟨hno, hwb', hqq, hss⟩
  · refine ⟨Q, fun j => if j = l then some ⟨blk p, 0, none⟩ else ptr j, fun j => if j = l then p :: ch l else ch j, ht, hq', hwb', h.mN, fun j hj => ?_, hhand, h.qM, fun q hMq hQq hqD => ?_, fun j q hj hq => ?_, fun q hq => h.inRem q (List.mem_cons_of_mem _ hq), fun j j' q hj hj' hq hq' => ?_, fun j q hj hq => ?_, fun j hj => ?_, hnd.2, h.inj, h.far, fun q hd => ⟨(h.dd q hd).1, fun hc => (h.dd q hd).2.1 (List.mem_cons_of_mem _ hc), fun j hj hq => ?_⟩⟩
    · by_cases e : j = l
      · subst e
        simp only [if_true]
        exact ⟨rfl, ptr j, C, al, hwt, hcov, hlists j hj⟩
      · simp only [if_neg e]; exact hlists j hj
    · rcases h.all q hMq hQq hqD with ⟨j, hj, hu, hq⟩ | hq
      · refine .inl ⟨j, hj, hu, ?_⟩
        by_cases e : j = l
        · subst e; simp [hq]
        · simp only [if_neg e]; exact hq
      · rcases List.mem_cons.1 hq with rfl | hq
        · exact .inl ⟨l, hMl, hUl, by simp⟩
        · exact .inr hq
    · by_cases e : j = l
      · subst e
        simp only [if_true] at hq
        rcases List.mem_cons.1 hq with rfl | hq
        · exact hp
        · exact h.inCh j q hj hq
      · simp only [if_neg e] at hq; exact h.inCh j q hj hq
    · have hpch : ∀ i, M i = true → p ∉ ch i := fun i hi hc => h.apart i p hi hc (List.mem_cons_self ..)
      by_cases e : j = l <;> by_cases e' : j' = l
      · rw [e, e']
      · subst e
        simp only [if_true] at hq
        simp only [if_neg e'] at hq'
        rcases List.mem_cons.1 hq with rfl | hq
        · exact absurd hq' (hpch j' hj')
        · exact h.one j j' q hj hj' hq hq'
      · subst e'
        simp only [if_true] at hq'
        simp only [if_neg e] at hq
        rcases List.mem_cons.1 hq' with rfl | hq'
        · exact absurd hq (hpch j hj)
        · exact h.one j j' q hj hj' hq hq'
      · simp only [if_neg e] at hq
        simp only [if_neg e'] at hq'
        exact h.one j j' q hj hj' hq hq'
    · by_cases e : j = l
      · subst e
        simp only [if_true] at hq
        rcases List.mem_cons.1 hq with rfl | hq
        · exact hnd.1
        · exact fun hc => h.apart j q hj hq (List.mem_cons_of_mem _ hc)
      · simp only [if_neg e] at hq
        exact fun hc => h.apart j q hj hq (List.mem_cons_of_mem _ hc)
    · by_cases e : j = l
      · subst e
        simp only [if_true]
        exact List.nodup_cons.2 ⟨fun hc => h.apart j p hj hc (List.mem_cons_self ..), h.nod j hj⟩
      · simp only [if_neg e]; exact h.nod j hj
    · by_cases e : j = l
      · subst e
        simp only [if_true] at hq
        rcases List.mem_cons.1 hq with rfl | hq
        · exact hpD hd
        · exact (h.dd q hd).2.2 j hj hq
      · simp only [if_neg e] at hq
        exact (h.dd q hd).2.2 j hj hq
  · have hQp : Q p = !true := by simpa using hp.2
    have eQ : ∀ q, Fw.upd Q p true q = true → q = p ∨ Q q = true := fun q hq => by
      unfold Fw.upd at hq
      split at hq
      · exact .inl (by assumption)
      · exact .inr hq
    have eN : ∀ q, q ≠ p → Fw.upd Q p true q = Q q := fun q hq => by unfold Fw.upd; rw [if_neg hq]
    have hz := cnt_all Q L.length p true hQp hpN
    simp only [if_true] at hz
    have hs := sc_add Q L.length p true hQp
    simp only [if_true] at hs
    rw [hs] at hss
    rw [← hz] at hqq
    have hcl := cnt_le (Fw.upd Q p true) 0 L.length
    refine ⟨Fw.upd Q p true, ptr, ch, ht, ⟨hqq, hss, fun j => sc_lo _ _ j, fun j => sc_hi _ _ j hlen, by omega, by omega⟩, hwb', h.mN, hlists, hhand, fun q hq => ?_, fun q hMq hQq hqD => ?_, fun j q hj hq => ?_, fun q hq => ?_, h.one, fun j q hj hq hc => h.apart j q hj hq (List.mem_cons_of_mem _ hc), h.nod, hnd.2, h.inj, h.far, fun q hd => ⟨by rw [eN q (fun e => hpD (e ▸ hd))]; exact (h.dd q hd).1, fun hc => (h.dd q hd).2.1 (List.mem_cons_of_mem _ hc), (h.dd q hd).2.2⟩⟩
    · rcases eQ q hq with rfl | hq
      · exact ⟨hp.1, hno⟩
      · exact h.qM q hq
    · have hqp : q ≠ p := fun e => by subst e; simp [Fw.upd] at hQq
      rw [eN q hqp] at hQq
      rcases h.all q hMq hQq hqD with hq | hq
      · exact .inl hq
      · rcases List.mem_cons.1 hq with e | hq
        · exact absurd e hqp
        · exact .inr hq
    · have hqp : q ≠ p := fun e => by subst e; exact h.apart j q hj hq (List.mem_cons_self ..)
      have := h.inCh j q hj hq
      exact ⟨this.1, by rw [eN q hqp]; exact this.2⟩
    · have hqp : q ≠ p := fun e => by subst e; exact hnd.1 hq
      have := h.inRem q (List.mem_cons_of_mem _ hq)
      exact ⟨this.1, by rw [eN q hqp]; exact this.2⟩
end Go.Proofs.YtkgolfmnlbmmeaaGreatDoor
