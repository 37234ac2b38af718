/- turns: how they begin; a place more. -/
import Derived.Test.YtdlieecpckpemaaGreatDoorLcYt
import Derived.Test.YtdlieecpckpemaaGreatDoorLcZa
namespace Go.Proofs.YtdlieecpckpemaaGreatDoor
open Go.RowKit

def under (w : World) : Nat → Prop := fun i => i < w.heap.size
def allM (L : List (Int × Int)) : Nat → Bool := fun q => decide (q < L.length)
def Fr (k : Nat) : Nat → Prop := fun p => k ≤ p
def updB (blk : Nat → Nat) (k b : Nat) : Nat → Nat := fun p => if p = k then b else blk p
theorem ins_lt (k : Nat) : (fun q => if q = k then true else decide (q < k)) = fun q => decide (q < k + 1) := by
  funext q
  by_cases h : q = k
  · rw [if_pos h]; symm; simp; omega
  · rw [if_neg h]
    by_cases h2 : q < k
    · simp [h2]; omega
    · simp [h2]; omega
theorem sc_nil (N : Nat) : sc (fun _ => false) N = fun _ => 0 := by
  funext i
  unfold sc
  split
  · have : ∀ a b, Fw.cnt (fun _ => false) a b = 0 := fun a b => by
      have h := cnt_le (fun _ => false) a b
      unfold Fw.cnt
      simp
    rw [this]; rfl
  · rfl
theorem cnt_nil (a b : Nat) : Fw.cnt (fun _ => false) a b = 0 := by unfold Fw.cnt; simp
theorem TI.start {w w1 w2 : World} {E : Tb} {L : List (Int × Int)} {a : Option Addr} {cc : Nat} (U : Nat → Nat → Bool) (blk : Nat → Nat)
    (ht : Blk w1 E.t [.pointer (some ⟨E.B, 0, none⟩), .slice (some ⟨E.un, 0, none⟩) ((L.length + 63) / 64) ((L.length + 63) / 64), .pointer (some ⟨E.qb, 0, none⟩), .slice (some ⟨E.wb, 0, none⟩) L.length L.length] 113)
    (hm : Made w w1 E L (.slice a L.length cc)) (hu : Blk w2 E.un (wds (allM L) ((L.length + 63) / 64)) 122) (hk : Kp w1 w2 (fun i => i = E.un)) (ha : 0 < L.length → ∃ b o, a = some ⟨b, o, none⟩ ∧ CellsAt w b o L) (hL : L.length ≤ 4294967295)
    (hv : ∀ (i : Nat) (x : Int × Int), L[i]? = some x → 1 ≤ x.1) (hr : RowsRise L) : TI w2 (under w) E L U blk (allM L) (fun _ => false) (fun _ => none) (fun _ => []) none [] (Fr 0) := by
  have hn := hm.new
  have kk : Kp w w2 Nul := hm.kp.trans' hk (fun i hi e => absurd hn.2.2.2.1 (by subst e; omega))
  have nu : ∀ i cs t, Blk w1 i cs t → t ≠ 122 → i ≠ E.un := fun i cs t h1 h2 => h1.ne hm.u h2
  refine ⟨⟨ht.kp hk (nu _ _ _ ht (by decide)), ⟨⟨a, cc, hm.board.kp hk (nu _ _ _ hm.board.b (by decide)) (nu _ _ _ hm.board.u (by decide)) hm.ne, fun hl => ?_⟩, hL, hv, hr⟩, hu⟩, ⟨?_, ?_, fun j => sc_lo _ _ j, fun j => sc_hi _ _ j hL, ?_, ?_⟩, hm.wb.kp hk (nu _ _ _ hm.wb (by decide)), fun p hp => by simpa [allM] using hp, fun l _ => rfl, rfl, fun p hp => (by cases hp), fun p _ _ hd => absurd (Nat.zero_le p) hd, fun l p _ hp => (by cases hp), fun p hp => (by cases hp), fun l l' p _ _ hp => (by cases hp), fun l p _ hp => (by cases hp), fun l _ => List.nodup_nil, List.nodup_nil, fun p _ _ _ hd => absurd (Nat.zero_le p) hd, fun i p _ _ hd => absurd (Nat.zero_le p) hd, fun p _ => ⟨rfl, (fun h => by cases h), fun l _ h => (by cases h)⟩⟩
  · obtain ⟨b, o, e, hc⟩ := ha hl
    obtain ⟨x, hx⟩ : ∃ x, L[0]? = some x := ⟨_, List.getElem?_eq_getElem hl⟩
    exact ⟨b, o, e, hc.kp kk (fun x => x), cell_lt (hc 0 x hx).1⟩
  · rw [cnt_nil]; exact hm.q.kp hk (nu _ _ _ hm.q (by decide))
  · rw [sc_nil]; exact hm.s.kp hk (nu _ _ _ hm.s (by decide))
  · rw [cnt_nil]; omega
  · rw [cnt_nil]; omega
theorem Chain.congr {w : World} {F : Nat → Prop} {L : List (Int × Int)} {mb : Nat} {U : Nat → Nat → Bool} {blk blk' : Nat → Nat} {M : Nat → Bool} : ∀ {ps : List Nat} {v : Option Addr}, Chain w F L mb U blk M v ps → (∀ p ∈ ps, blk' p = blk p) → Chain w F L mb U blk' M v ps
  | [], _, h, _ => h
  | p :: ps, v, h, hp => by
    obtain ⟨h1, nx, C, al, h2, h3, h4⟩ := h
    have e := hp p (List.mem_cons_self ..)
    exact ⟨by rw [e]; exact h1, nx, C, al, by rw [e]; exact h2, h3, Chain.congr h4 (fun q hq => hp q (List.mem_cons_of_mem _ hq))⟩
theorem TI.next {w wr w1 : World} {E : Tb} {L : List (Int × Int)} {U : Nat → Nat → Bool} {blk : Nat → Nat} {Q : Nat → Bool} {ptr : Nat → Option Addr} {ch : Nat → List Nat} {k b : Nat} {al : List Ar} {av : Value}
    (h : TI wr (under w) E L U blk (allM L) Q ptr ch none [] (Fr k)) (hk : k < L.length) (hb : ∀ p, p < k → w.heap.size ≤ blk p ∧ blk p < wr.heap.size) (hE : w.heap.size ≤ E.qb ∧ w.heap.size ≤ E.sb ∧ w.heap.size ≤ E.wb) (hs : w.heap.size ≤ wr.heap.size)
    (g : Kp wr w1 Nul) (hbk : Blk w1 b [.int .i64 (k : Int), .int .i64 0, .int .i64 0, .slice none 0 0, .slice none 0 0, av, .pointer none] 142) (hnew : wr.heap.size ≤ b)
    (har : ArSl w1 (under w) av al) (hok : ∀ a ∈ al, a.ok) (hU : ∀ q, U k q = al.any (fun a => inPl L a q)) :
    TI w1 (under w) E L U (updB blk k b) (allM L) Q ptr ch (some ⟨b, 0, none⟩) [k] (Fr (k + 1)) := by
  have nk : ∀ l, allM L l = true → ∀ p ∈ ch l, p ≠ k := fun l hl p hp e => (h.dd p (by show k ≤ p; omega)).2.2 l hl hp
  have eb : ∀ p, p ≠ k → updB blk k b p = blk p := fun p hp => by unfold updB; rw [if_neg hp]
  have ek : updB blk k b k = b := by unfold updB; rw [if_pos rfl]
  have nN : ∀ i, ¬ Nul i := fun _ x => x
  refine ⟨h.stay.kp g (nN _) (nN _) (nN _) (nN _) (nN _) (fun _ _ x => x), h.queue.kp g (nN _) (nN _), h.wb.kp g (nN _), h.mN, fun l hl => ?_, ?_, h.qM, fun p hM hQ hd => ?_, h.inCh, fun p hp => ?_, h.one, fun l p hl hp hc => ?_, h.nod, by simp, fun p q hp hq hdp hdq e => ?_, fun i p hi hp hd e => ?_, fun p hd => ?_⟩
  · exact ((h.lists l hl).kp g (fun _ _ x => x) (fun _ _ x => x)).congr (fun p hp => eb p (nk l hl p hp))
  · refine ⟨by rw [ek], none, fun _ => false, al, ?_, fun q _ hu => ?_, rfl⟩
    · rw [ek]
      refine ⟨⟨_, _, _, _, _, hbk, .inl ⟨rfl, rfl, rfl, rfl, rfl⟩, har⟩, hok, fun q hq => (by cases hq), fun a ha q hq => ?_⟩
      rw [hU q, List.any_eq_true]
      exact ⟨a, ha, hq⟩
    · rw [hU q, List.any_eq_true] at hu
      exact .inr hu
  · by_cases e : p = k
    · exact .inr (by simp [e])
    · rcases h.all p hM hQ (fun hk' => hd (by show k + 1 ≤ p; have : k ≤ p := hk'; omega)) with hh | hh
      · exact .inl hh
      · cases hh
  · have : p = k := by simpa using hp
    subst this
    exact ⟨by simpa [allM] using hk, (h.dd p (Nat.le_refl _)).1⟩
  · have : p = k := by simpa using hc
    exact nk l hl p hp this
  · have hpk : p ≤ k := by have : ¬ (k + 1 ≤ p) := hdp; omega
    have hqk : q ≤ k := by have : ¬ (k + 1 ≤ q) := hdq; omega
    by_cases e1 : p = k <;> by_cases e2 : q = k
    · omega
    · exfalso
      subst e1
      rw [ek, eb q e2] at e
      have := (hb q (by omega)).2
      omega
    · exfalso
      subst e2
      rw [ek, eb p e1] at e
      have := (hb p (by omega)).2
      omega
    · rw [eb p e1, eb q e2] at e
      exact h.inj p q hp hq (fun x => by have : k ≤ p := x; omega) (fun x => by have : k ≤ q := x; omega) e
  · have hi' : i < w.heap.size := hi
    have hpk : p ≤ k := by have : ¬ (k + 1 ≤ p) := hd; omega
    rcases e with e | e | e | e
    · by_cases e1 : p = k
      · subst e1; rw [ek] at e; omega
      · rw [eb p e1] at e
        have := (hb p (by omega)).1
        omega
    · omega
    · omega
    · omega
  · have hd' : k ≤ p := by have : k + 1 ≤ p := hd; omega
    have hne : p ≠ k := by have : k + 1 ≤ p := hd; omega
    exact ⟨(h.dd p hd').1, by simp [hne], (h.dd p hd').2.2⟩
theorem TI.done {w : World} {F : Nat → Prop} {E : Tb} {L : List (Int × Int)} {U : Nat → Nat → Bool} {blk : Nat → Nat} {Q : Nat → Bool} {ptr : Nat → Option Addr} {ch : Nat → List Nat}
    (h : TI w F E L U blk (allM L) Q ptr ch none [] (Fr L.length)) : TI w F E L U blk (allM L) Q ptr ch none [] Nul := by
  have nf : ∀ p, p < L.length → ¬ Fr L.length p := fun p hp hd => by have : L.length ≤ p := hd; omega
  exact ⟨h.stay, h.queue, h.wb, h.mN, h.lists, h.hand, h.qM, fun p hM hQ _ => h.all p hM hQ (nf p (h.mN p hM)), h.inCh, h.inRem, h.one, h.apart, h.nod, h.nodR, fun p q hp hq _ _ => h.inj p q hp hq (nf p hp) (nf q hq), fun i p hi hp _ => h.far i p hi hp (nf p hp), fun _ hd => hd.elim⟩
/-- turns as it stands ahead of place k. -/
def TurnsR (w : World) (E : Tb) (L : List (Int × Int)) (U : Nat → Nat → Bool) (k : Nat) (wr : World) : Prop :=
  ∃ blk Q ptr ch, TI wr (under w) E L U blk (allM L) Q ptr ch none [] (Fr k) ∧ (∀ p, p < k → w.heap.size ≤ blk p ∧ blk p < wr.heap.size) ∧ Kp w wr Nul
theorem settle_place {w wr w1 : World} {E : Tb} {L : List (Int × Int)} {U : Nat → Nat → Bool} {k b : Nat} {al : List Ar} {av : Value}
    (h : TurnsR w E L U k wr) (hk : k < L.length) (hE : w.heap.size ≤ E.qb ∧ w.heap.size ≤ E.sb ∧ w.heap.size ≤ E.wb)
    (g : Kp wr w1 Nul) (hbk : Blk w1 b [.int .i64 (k : Int), .int .i64 0, .int .i64 0, .slice none 0 0, .slice none 0 0, av, .pointer none] 142) (hnew : wr.heap.size ≤ b)
    (har : ArSl w1 (under w) av al) (hok : ∀ a ∈ al, a.ok) (hU : ∀ q, U k q = al.any (fun a => inPl L a q)) :
    Calls Tryz.prog 103 #[.pointer (some ⟨E.t, 0, none⟩), .pointer (some ⟨b, 0, none⟩)] w1 fun e w' => e = .returned (.tuple #[]) ∧ TurnsR w E L U (k + 1) w' ∧ Kp w1 w' (Wr E b) := by
  obtain ⟨blk, Q, ptr, ch, hti, hb, hkp⟩ := h
  have hs := hkp.size
  have hN := hti.next hk hb hE hs g hbk hnew har hok hU
  obtain ⟨_, nx, C, al', hwt, hcov, hnx⟩ := hN.hand
  have hnx' : nx = none := hnx
  subst hnx'
  have ek : updB blk k b k = b := by unfold updB; rw [if_pos rfl]
  have hMk : allM L k = true := by simpa [allM] using hk
  have ndk : ¬ Fr (k + 1) k := fun x => by have : k + 1 ≤ k := x; omega
  have hset := settle_at (under w) E L (allM L) (updB blk k b k) k none C al' (U k) ptr (sc Q L.length) _ w1 hN.stay hN.queue hN.wb hwt hcov hN.mN hk (fun i hi => hN.far i k hi hk ndk)
  rw [ek] at hset
  refine hset.mono ?_
  rintro e w' ⟨rfl, hst⟩
  refine ⟨rfl, ?_⟩
  have hst2 : Settled w1 w' (under w) E L (allM L) (updB blk k b k) k (U k) ptr (sc Q L.length) (Fw.cnt Q 0 L.length : Nat) := by rw [ek]; exact hst
  obtain ⟨Q', ptr', ch', hT⟩ := hN.settled hnx hst2
  refine ⟨⟨updB blk k b, Q', ptr', ch', hT, fun p hp => ?_, (hkp.trans g).trans' hst.1 (fun i hi e => ?_)⟩, hst.1⟩
  · have s1 := g.size
    have s2 := hst.1.size
    by_cases e : p = k
    · subst e
      rw [ek]
      have := hbk.lt
      omega
    · unfold updB
      rw [if_neg e]
      have := hb p (by omega)
      omega
  · rcases e with e | e | e | e <;> omega
end Go.Proofs.YtdlieecpckpemaaGreatDoor
