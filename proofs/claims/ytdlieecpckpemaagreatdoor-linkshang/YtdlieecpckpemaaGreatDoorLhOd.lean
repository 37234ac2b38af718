/- Orders in which each stands behind what it uses. No program here. -/

namespace Go.Proofs.YtdlieecpckpemaaGreatDoor.Od
variable (N : Nat) (use : Nat → Nat → Bool)
/-- Of those that are not told yet (T): may p be the next one? -/
def rdy (T : Nat → Bool) (p : Nat) : Bool := T p && (List.range N).all fun q => !(T q && use p q)
def rdyL (T : Nat → Bool) : List Nat := (List.range N).filter (rdy N use T)
/-- The number that the pick of place k comes to among n. -/
def pk (picks : List Int) (k n : Nat) : Nat := match picks[k]? with | some x => ((x.tmod n + n).tmod n).toNat | none => 0
def del (T : Nat → Bool) (p : Nat) : Nat → Bool := fun q => if q = p then false else T q
/-- The next f of them, one behind the other; none, if there is none at some place. -/
def go (picks : List Int) : Nat → Nat → (Nat → Bool) → Option (List Nat)
  | 0, _, _ => some []
  | f + 1, k, T => match (rdyL N use T)[pk picks k (rdyL N use T).length]? with
    | none => none
    | some p => (go picks f (k + 1) (del T p)).map (p :: ·)
theorem pk_lt (picks : List Int) (k n : Nat) (h : 0 < n) : pk picks k n < n := by
  unfold pk
  split
  · rename_i x _
    have h1 : -(n : Int) < x.tmod n := by
      have := Int.lt_tmod_of_pos x (b := n) (by omega); omega
    have h2 : 0 ≤ x.tmod n + n := by omega
    have h3 := Int.tmod_lt_of_pos (x.tmod n + n) (b := n) (by omega)
    have h4 := Int.tmod_nonneg (n : Int) h2
    omega
  · exact h
theorem mem_rdyL {T : Nat → Bool} {p : Nat} : p ∈ rdyL N use T ↔ p < N ∧ T p = true ∧ ∀ q, q < N → T q = true → use p q = false := by
  unfold rdyL rdy
  simp only [List.mem_filter, List.mem_range, Bool.and_eq_true, List.all_eq_true, Bool.not_eq_true', Bool.and_eq_false_iff]
  constructor
  · rintro ⟨h1, h2, h3⟩
    refine ⟨h1, h2, fun q hq hT => ?_⟩
    rcases h3 q hq with h | h
    · rw [h] at hT; cases hT
    · exact h
  · rintro ⟨h1, h2, h3⟩
    refine ⟨h1, h2, fun q hq => ?_⟩
    cases hT : T q
    · exact .inl rfl
    · exact .inr (h3 q hq hT)
/-- How many of T there are below n. -/
def size (T : Nat → Bool) (n : Nat) : Nat := ((List.range n).filter T).length
theorem size_del (T : Nat → Bool) (p n : Nat) (hp : p < n) (hT : T p = true) : size (del T p) n + 1 = size T n := by
  induction n with
  | zero => omega
  | succ n ih =>
    unfold size at *
    rw [List.range_succ, List.filter_append, List.filter_append, List.length_append, List.length_append]
    by_cases h : p = n
    · subst h
      have e : (List.range p).filter (del T p) = (List.range p).filter T := by
        apply List.filter_congr
        intro q hq
        have : q < p := by simpa using hq
        unfold del; rw [if_neg (by omega)]
      rw [e]
      simp [del, hT]
    · have e : [n].filter (del T p) = [n].filter T := by
        apply List.filter_congr
        intro q hq
        have : q = n := by simpa using hq
        subst this
        unfold del; rw [if_neg (Ne.symm h)]
      rw [e]
      have := ih (by omega)
      omega
theorem size_pos {T : Nat → Bool} {n : Nat} (h : 0 < size T n) : ∃ p, p < n ∧ T p = true := by
  unfold size at h
  obtain ⟨p, hp⟩ := List.exists_mem_of_length_pos h
  simp only [List.mem_filter, List.mem_range] at hp
  exact ⟨p, hp⟩
theorem size_zero {T : Nat → Bool} {n : Nat} (h : size T n = 0) (p : Nat) (hp : p < n) : T p = false := by
  unfold size at h
  rw [List.length_eq_zero_iff, List.filter_eq_nil_iff] at h
  simpa using h p (by simpa using hp)
theorem size_all (n : Nat) : size (fun q => decide (q < n)) n = n := by
  unfold size
  rw [List.filter_eq_self.2 (by intro a ha; simpa using ha), List.length_range]
/-- Refused: some of them each use one of these. -/
theorem go_none {picks : List Int} : ∀ {f k : Nat} {T : Nat → Bool}, go N use picks f k T = none → size T N = f →
    ∃ S : Nat → Bool, (∃ p, p < N ∧ S p = true) ∧ (∀ p, S p = true → T p = true) ∧ ∀ p, p < N → S p = true → ∃ q, q < N ∧ S q = true ∧ use p q = true := by
  intro f
  induction f with
  | zero => intro k T h; simp [go] at h
  | succ f ih =>
    intro k T h hs
    rw [go] at h
    split at h
    · rename_i hnone
      have hl : rdyL N use T = [] := by
        rcases Nat.eq_zero_or_pos (rdyL N use T).length with h0 | h0
        · exact List.length_eq_zero_iff.1 h0
        · have := pk_lt picks k _ h0
          rw [List.getElem?_eq_getElem this] at hnone; cases hnone
      refine ⟨T, size_pos (by omega), fun _ h => h, fun p hp hT => ?_⟩
      apply Classical.byContradiction
      intro hn
      have : p ∈ rdyL N use T := (mem_rdyL N use).2 ⟨hp, hT, fun q hq hTq => by
        cases hu : use p q
        · rfl
        · exact absurd ⟨q, hq, hTq, hu⟩ hn⟩
      rw [hl] at this; cases this
    · rename_i p hp
      obtain ⟨hpN, hpT, _⟩ := (mem_rdyL N use).1 (List.mem_of_getElem? hp)
      have hsd := size_del T p N hpN hpT
      cases hg : go N use picks f (k + 1) (del T p) with
      | some r => rw [hg] at h; cases h
      | none =>
        obtain ⟨S, h1, h2, h3⟩ := ih hg (by omega)
        refine ⟨S, h1, fun q hq => ?_, h3⟩
        have := h2 q hq
        unfold del at this
        split at this
        · cases this
        · exact this
/-- Where an order can be told by some picks, none of them each use one of these. -/
theorem no_circle {picks : List Int} {f k : Nat} {T : Nat → Bool} {o : List Nat} (h : go N use picks f k T = some o) (hs : size T N = f)
    {S : Nat → Bool} (h1 : ∃ p, p < N ∧ S p = true) (h2 : ∀ p, S p = true → T p = true) (h3 : ∀ p, p < N → S p = true → ∃ q, q < N ∧ S q = true ∧ use p q = true) : False := by
  induction f generalizing k T o with
  | zero =>
    obtain ⟨p, hp, hS⟩ := h1
    have := h2 p hS
    rw [size_zero hs p hp] at this; cases this
  | succ f ih =>
    rw [go] at h
    split at h
    · cases h
    · rename_i p hp
      obtain ⟨hpN, hpT, hpu⟩ := (mem_rdyL N use).1 (List.mem_of_getElem? hp)
      have hsd := size_del T p N hpN hpT
      cases hg : go N use picks f (k + 1) (del T p) with
      | none => rw [hg] at h; cases h
      | some r =>
        refine ih hg (by omega) (fun q hq => ?_)
        unfold del
        by_cases hqp : q = p
        · subst hqp
          obtain ⟨q', hq', hS', hu⟩ := h3 q hpN hq
          rw [hpu q' hq' (h2 q' hS')] at hu; cases hu
        · rw [if_neg hqp]; exact h2 q hq
end Go.Proofs.YtdlieecpckpemaaGreatDoor.Od
