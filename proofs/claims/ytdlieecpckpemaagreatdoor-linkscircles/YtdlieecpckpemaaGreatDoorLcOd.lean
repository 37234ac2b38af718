/- Orders in which each stands behind what it uses. No program here. -/

namespace Go.Proofs.YtdlieecpckpemaaGreatDoor.Od
variable (N : Nat) (use : Nat → Nat → Bool)
/-- Of those that are not told yet (T): may p be the next one? -/
def rdy (T : Nat → Bool) (p : Nat) : Bool := T p && (List.range N).all fun q => !(T q && use p q)
def rdyL (T : Nat → Bool) : List Nat := (List.range N).filter (rdy N use T)
/-- The number that the pick of place k comes to among n. -/
def pk (picks : List Int) (k n : Nat) : Nat := match picks[k]? with | some x => ((x.tmod n + n).tmod n).toNat | none => 0
def del (T : Nat → Bool) (p : Nat) : Nat → Bool := fun q => if q = p then false else T q
/-- The next f of them, one behind the other; none, if there is none at some place. -/
def go (picks : List Int) : Nat → Nat → (Nat → Bool) → Option (List Nat)
  | 0, _, _ => some []
  | f + 1, k, T => match (rdyL N use T)[pk picks k (rdyL N use T).length]? with
    | none => none
    | some p => (go picks f (k + 1) (del T p)).map (p :: ·)
theorem pk_lt (picks : List Int) (k n : Nat) (h : 0 < n) : pk picks k n < n := by
  unfold pk
  split
  · rename_i x _
    have h1 : -(n : Int) < x.tmod n := by
      have := Int.lt_tmod_of_pos x (b := n) (by omega); omega
    have h2 : 0 ≤ x.tmod n + n := by omega
    have h3 := Int.tmod_lt_of_pos (x.tmod n + n) (b := n) (by omega)
    have h4 := Int.tmod_nonneg (n : Int) h2
    omega
  · exact h
theorem mem_rdyL {T : Nat → Bool} {p : Nat} : p ∈ rdyL N use T ↔ p < N ∧ T p = true ∧ ∀ q, q < N → T q = true → use p q = false := by
  unfold rdyL rdy
  simp only [List.mem_filter, List.mem_range, Bool.and_eq_true, List.all_eq_true, Bool.not_eq_true', Bool.and_eq_false_iff]
  constructor
  · rintro ⟨h1, h2, h3⟩
    refine ⟨h1, h2, fun q hq hT => ?_⟩
    rcases h3 q hq with h | h
    · rw [h] at hT; cases hT
    · exact h
  · rintro ⟨h1, h2, h3⟩
    refine ⟨h1, h2, fun q hq => ?_⟩
    cases hT : T q
    · exact .inl rfl
    · exact .inr (h3 q hq hT)
/-- How many of T there are below n. -/
def size (T : Nat → Bool) (n : Nat) : Nat := ((List.range n).filter T).length
theorem size_del (T : Nat → Bool) (p n : Nat) (hp : p < n) (hT : T p = true) : size (del T p) n + 1 = size T n := by
  induction n with
  | zero => omega
  | succ n ih =>
    unfold size at *
    rw [List.range_succ, List.filter_append, List.filter_append, List.length_append, List.length_append]
    by_cases h : p = n
    · subst h
      have e : (List.range p).filter (del T p) = (List.range p).filter T := by
        apply List.filter_congr
        intro q hq
        have : q < p := by simpa using hq
        unfold del; rw [if_neg (by omega)]
      rw [e]
      simp [del, hT]
    · have e : [n].filter (del T p) = [n].filter T := by
        apply List.filter_congr
        intro q hq
        have : q = n := by simpa using hq
        subst this
        unfold del; rw [if_neg (Ne.symm h)]
      rw [e]
      have := ih (by omega)
      omega
end Go.Proofs.YtdlieecpckpemaaGreatDoor.Od
