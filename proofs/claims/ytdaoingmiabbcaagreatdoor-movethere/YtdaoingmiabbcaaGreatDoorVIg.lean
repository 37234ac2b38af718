/- unlike: the cells in which two grids have not the same. -/
import Derived.Test.YtdaoingmiabbcaaGreatDoorVId
import Derived.Test.YtdaoingmiabbcaaGreatDoorVIf
import Derived.Test.YtdaoingmiabbcaaGreatDoorVQl
namespace Go.Proofs.YtdaoingmiabbcaaGreatDoor
open Go.RowKit Go.Maps Go.Sort Go.Lib

/-- The range's block. -/
theorem GRg.lt {w : World} {A : Nat} {mv : Option Nat} {r : Nat} {rem : List Cc} (h : GRg w A mv r rem) : r < w.heap.size := by
  obtain ⟨_, _, ⟨_, _, q⟩ | ⟨m, D, left, cnt, _, _, q, _⟩⟩ := h
  · exact (Array.getElem?_eq_some_iff.1 q).1
  · exact q.lt
theorem GRg.no_cells {w : World} {A : Nat} {mv : Option Nat} {r : Nat} {rem : List Cc} (h : GRg w A mv r rem) : ∀ cs t f, w.heap[r]? ≠ some (.cells cs t f) := fun cs t f q => by
  obtain ⟨_, _, ⟨_, _, e⟩ | ⟨m, D, left, cnt, _, _, e, _⟩⟩ := h
  · rw [e] at q; cases q
  · obtain ⟨es, clock, since, seen, c0, h1, h2, h3, h4, h5, h6⟩ := e
    rw [h5] at q; cases q
/-- Has the one grid not the content b at x? -/
def UnP (L : List Cc) (x : Int × Int) (b : Ct) : Prop := ¬ ∃ a, (x, a) ∈ L ∧ csame a b = true
/-- In which cells they differ. -/
def Un (L M : List Cc) (x : Int × Int) : Prop := (∃ b, (x, b) ∈ M ∧ UnP L x b) ∨ ((∃ a, (x, a) ∈ L) ∧ ∀ b, (x, b) ∉ M)
structure UnR (w : World) (A : Nat) (mv : Option Nat) (r n : Nat) (P : Cc → Prop) (base : (Int × Int) → Prop) (all : List Cc) (v : Value) (wr : World) (rem : List Cc) (acc : List (Int × Int)) : Prop where
  rg : GRg wr A mv r rem
  row : wr.ownsRow A 24 2 v acc.length (flatK encA 2 acc.toArray).toList
  len : acc.length + rem.length ≤ n
  nodup : acc.Nodup
  mem : ∀ x, x ∈ acc ↔ base x ∨ ∃ b, (x, b) ∈ all ∧ (x, b) ∉ rem ∧ P (x, b)
  sub : ∀ x, x ∈ rem → x ∈ all
  kp : Kp w wr Nul
theorem filt_len {rem : List Cc} {c s : Int} {ct : Ct} (ho : rem.Pairwise (fun x y => x.1 ≠ y.1)) (h : ((c, s), ct) ∈ rem) : (rem.filter (fun x => decide (x.1 ≠ (c, s)))).length + 1 = rem.length := filt_one ho h
theorem UnR.take {w : World} {A : Nat} {mv : Option Nat} {r n : Nat} {P : Cc → Prop} {base : (Int × Int) → Prop} {all : List Cc} {v v2 : Value} {wr w2 : World} {rem : List Cc} {acc : List (Int × Int)} (h : UnR w A mv r n P base all v wr rem acc) {c s : Int} {ct : Ct} (hm : ((c, s), ct) ∈ rem)
    (hp : P ((c, s), ct)) (hone : all.Pairwise (fun x y => x.1 ≠ y.1)) (hb : ¬ base (c, s)) (hrg : GRg w2 A mv r (rem.filter (fun x => decide (x.1 ≠ (c, s))))) (hrow : w2.ownsRow A 24 2 v2 (acc.length + 1) ((flatK encA 2 acc.toArray).toList ++ encA (c, s))) (hk : Kp w w2 Nul) :
    UnR w A mv r n P base all v2 w2 (rem.filter (fun x => decide (x.1 ≠ (c, s)))) (acc ++ [(c, s)]) := by
  have hx : (c, s) ∉ acc := fun q => by
    rcases (h.mem _).1 q with q | ⟨b, q1, q2, _⟩
    · exact hb q
    · rw [once_eq hone q1 (h.sub _ hm)] at q2
      exact q2 hm
  refine ⟨hrg, by rw [flat_snoc, List.length_append]; exact hrow, by have := h.len; have := filt_len h.rg.1 hm; simp only [List.length_append, List.length_singleton]; omega, nodup_snoc h.nodup hx, fun x => ?_, fun x hx => h.sub x (List.mem_filter.1 hx).1, hk⟩
  rw [List.mem_append, List.mem_singleton, h.mem]
  constructor
  · rintro ((q | ⟨b, q1, q2, q3⟩) | rfl)
    · exact .inl q
    · exact .inr ⟨b, q1, fun q => q2 (List.mem_filter.1 q).1, q3⟩
    · exact .inr ⟨ct, h.sub _ hm, fun q => by have := of_decide_eq_true (List.mem_filter.1 q).2; exact this rfl, hp⟩
  · rintro (q | ⟨b, q1, q2, q3⟩)
    · exact .inl (.inl q)
    · by_cases e : x = (c, s)
      · exact .inr e
      · exact .inl (.inr ⟨b, q1, fun q => q2 (List.mem_filter.2 ⟨q, decide_eq_true e⟩), q3⟩)
theorem row_ne {w : World} {A : Nat} {mv : Option Nat} {r : Nat} {rem : List Cc} {e : TypeId} {k n : Nat} {v : Value} {xs : List Value} (h : GRg w A mv r rem) (q : w.ownsRow A e k v n xs) : v.ownBlock ≠ some r := fun eq => by
  obtain ⟨_, ⟨rfl, _⟩ | ⟨g, c, cur, rfl, _, h3, _⟩⟩ := q
  · cases eq
  · have : g = r := by simpa [Value.ownBlock] using eq
    subst this
    exact h.no_cells _ _ _ h3
end Go.Proofs.YtdaoingmiabbcaaGreatDoor
