/- Lists of cells, of areas, of rules and of ints that came in, opened. -/
import Derived.Test.YtdlieecpckpemaaGreatDoorLcZs
import Derived.SizedLaws
import Derived.OpenShut
import Derived.Deep.Slices
import Derived.ChangeSame
import Derived.Carry
namespace Go.Proofs.YtdlieecpckpemaaGreatDoor
open Go.ChangeShapes Go.WideShapes Go.RowKit Go.Deep

theorem cellsInt : Tryz.prog.cellsOf 3 = 1 := by kernel_rfl
theorem cellsAddr : Tryz.prog.cellsOf 29 = 2 := by kernel_rfl
theorem cellsArea : Tryz.prog.cellsOf 52 = 4 := by kernel_rfl
theorem cellsAreas : Tryz.prog.cellsOf 31 = 1 := by kernel_rfl
theorem cellsRule : Tryz.prog.cellsOf 43 = 3 := by kernel_rfl
section
variable {H : Type} {enc : TypeId × Value → H} {w : World} {base : Nat}

theorem trod_addr {fuel : Nat} {v0 v1 : Value} {x : DataW H × List MemPlace} (h : DataW.trod enc Tryz.prog w base (fun _ => true) true fuel 29 [v0, v1] = some x) :
    ∃ c r : Int, v0 = .int .i64 c ∧ v1 = .int .i64 r ∧ I64 c ∧ I64 r := by
  obtain ⟨y0, y1, n, _, _, h0, h1⟩ := trod_struct2 Tryz.underlying29 h
  simp only [cellsInt, List.drop_zero, List.take_succ_cons, List.take_zero, List.drop_succ_cons] at h0 h1
  obtain ⟨c, e0, _, w0⟩ := DataW.trod_int Tryz.underlying3 h0
  obtain ⟨r, e1, _, w1⟩ := DataW.trod_int Tryz.underlying3 h1
  simp at e0 e1
  exact ⟨c, r, e0, e1, bounds_i64 w0, bounds_i64 w1⟩
/-- What holds of each element's cells, told of a list. -/
theorem by_each {α : Type} [Inhabited α] {len : Nat} {p : Nat → α → Prop} (h : ∀ i, i < len → ∃ x, p i x) : ∃ A : List α, A.length = len ∧ ∀ (i : Nat) (x : α), A[i]? = some x → p i x := by
  obtain ⟨f, hf⟩ := choose_lt h
  refine ⟨(List.range len).map f, by simp, fun i x hx => ?_⟩
  rw [List.getElem?_map] at hx
  rcases Nat.lt_or_ge i len with hi | hi
  · rw [List.getElem?_range hi] at hx
    simp only [Option.map_some, Option.some.injEq] at hx
    rw [← hx]; exact hf i hi
  · rw [List.getElem?_eq_none (by simpa using hi)] at hx; cases hx
/-- A slice of elements of k cells: where they lie. -/
theorem open_rows {t e : TypeId} {k fuel : Nat} {a : Option Addr} {len cap : Nat} {x : DataW H × List MemPlace} (ht : Tryz.prog.underlying t = some (.slice e)) (hk : Tryz.prog.cellsOf e = k) (k0 : 0 < k) (h : DataW.trod enc Tryz.prog w base (fun _ => true) true fuel t [.slice a len cap] = some x) :
    len ≤ cap ∧ cap ≤ maxLen ∧ (0 < len → ∃ b o n, a = some ⟨b, o, none⟩ ∧ ∀ i, i < len → ∃ (cs : List Value) (y : DataW H × List MemPlace), cs.length = k ∧ (∀ j, j < k → w.cell? ⟨b, o + i * k + j, none⟩ = cs[j]?) ∧ DataW.trod enc Tryz.prog w base (fun _ => true) true n e cs = some y) := by
  rcases open_slice ht h with ⟨hcs, _⟩ | ⟨ad, len', cap', m, n, D, Pl, hcs, _, hl, hm, hmm, _, hx⟩
  · simp only [List.cons.injEq, Value.slice.injEq, and_true] at hcs
    obtain ⟨rfl, rfl, rfl⟩ := hcs
    exact ⟨Nat.le_refl _, by decide, fun h => absurd h (Nat.lt_irrefl _)⟩
  · simp only [List.cons.injEq, Value.slice.injEq, and_true] at hcs
    obtain ⟨rfl, rfl, rfl⟩ := hcs
    simp only [if_true] at hmm
    subst hmm
    rw [hk] at hx
    refine ⟨hl, hm, fun h0 => ?_⟩
    have hsp : ad.spot = none := by
      obtain ⟨cs', h1, _⟩ := hx 0 (by omega)
      obtain ⟨_, hlen, hcell⟩ := World.cells?_some h1
      have := hcell 0 k0
      rw [List.getElem?_eq_getElem (by omega)] at this
      simpa [Addr.add] using World.cell?_spot this
    obtain ⟨b, o, sp⟩ := ad
    simp only at hsp
    subst hsp
    refine ⟨b, o, n, rfl, fun i hi => ?_⟩
    obtain ⟨cs', h1, h2⟩ := hx i (by omega)
    obtain ⟨_, hlen, hcell⟩ := World.cells?_some h1
    refine ⟨cs', _, hlen, fun j hj => ?_, h2⟩
    have := hcell j hj
    rw [add_plain, add_plain] at this
    exact this
instance : Inhabited Ar := ⟨⟨0, 0, 0, 0⟩⟩
theorem open_areas {fuel : Nat} {a : Option Addr} {len cap : Nat} {x : DataW H × List MemPlace} (h : DataW.trod enc Tryz.prog w base (fun _ => true) true fuel 31 [.slice a len cap] = some x) :
    ∃ A : List Ar, A.length = len ∧ len ≤ maxLen ∧ (0 < A.length → ∃ b o, a = some ⟨b, o, none⟩ ∧ AreasAt w b o A) := by
  obtain ⟨h1, h2, h3⟩ := open_rows Tryz.underlying31 cellsArea (by decide) h
  rcases Nat.eq_zero_or_pos len with h0 | h0
  · exact ⟨[], h0.symm, by omega, fun h => absurd h (Nat.lt_irrefl _)⟩
  · obtain ⟨b, o, n, rfl, hx⟩ := h3 h0
    obtain ⟨A, hA, hAt⟩ := by_each (α := Ar) (len := len) (p := fun i x => w.cell? ⟨b, o + i * 4, none⟩ = some (.int .i64 x.c1) ∧ w.cell? ⟨b, o + i * 4 + 1, none⟩ = some (.int .i64 x.r1) ∧ w.cell? ⟨b, o + i * 4 + 2, none⟩ = some (.int .i64 x.c2) ∧ w.cell? ⟨b, o + i * 4 + 3, none⟩ = some (.int .i64 x.r2)) (fun i hi => by
      obtain ⟨cs, y, e1, e2, e3⟩ := hx i hi
      match cs, e1 with
      | [v0, v1, v2, v3], _ =>
        obtain ⟨y0, y1, n', _, _, g0, g1⟩ := trod_struct2 Tryz.underlying52 e3
        simp only [cellsAddr] at g0 g1
        obtain ⟨c, r, rfl, rfl, _, _⟩ := trod_addr (by simpa using g0)
        obtain ⟨d, s, rfl, rfl, _, _⟩ := trod_addr (by simpa using g1)
        exact ⟨⟨c, r, d, s⟩, e2 0 (by omega), e2 1 (by omega), e2 2 (by omega), e2 3 (by omega)⟩)
    exact ⟨A, hA, by omega, fun _ => ⟨b, o, rfl, hAt⟩⟩
instance : Inhabited Rl := ⟨⟨(0, 0), [], none, 0⟩⟩
theorem open_rules {fuel : Nat} {a : Option Addr} {len cap : Nat} {x : DataW H × List MemPlace} (h : DataW.trod enc Tryz.prog w base (fun _ => true) true fuel 37 [.slice a len cap] = some x) :
    ∃ R : List Rl, R.length = len ∧ len ≤ maxLen ∧ (0 < R.length → ∃ b o, a = some ⟨b, o, none⟩ ∧ RulesAt w b o R) := by
  obtain ⟨h1, h2, h3⟩ := open_rows Tryz.underlying37 cellsRule (by decide) h
  have hmx : maxLen ≤ 9223372036854775807 := by decide
  rcases Nat.eq_zero_or_pos len with h0 | h0
  · exact ⟨[], h0.symm, by omega, fun h => absurd h (Nat.lt_irrefl _)⟩
  · obtain ⟨b, o, n, rfl, hx⟩ := h3 h0
    obtain ⟨A, hA, hAt⟩ := by_each (α := Rl) (len := len) (p := fun i ρ => (w.cell? ⟨b, o + i * 3, none⟩ = some (.int .i64 ρ.x.1) ∧ w.cell? ⟨b, o + i * 3 + 1, none⟩ = some (.int .i64 ρ.x.2) ∧ w.cell? ⟨b, o + i * 3 + 2, none⟩ = some (.slice ρ.av ρ.al.length ρ.cv)) ∧ (I64 ρ.x.1 ∧ I64 ρ.x.2) ∧ ρ.al.length ≤ 9223372036854775807 ∧ (0 < ρ.al.length → ∃ b o, ρ.av = some ⟨b, o, none⟩ ∧ AreasAt w b o ρ.al)) (fun i hi => by
      obtain ⟨cs, y, e1, e2, e3⟩ := hx i hi
      match cs, e1 with
      | [v0, v1, v2], _ =>
        obtain ⟨y0, y1, n', _, _, g0, g1⟩ := trod_struct2 Tryz.underlying43 e3
        simp only [cellsAddr, cellsAreas] at g0 g1
        obtain ⟨c, r, rfl, rfl, i1, i2⟩ := trod_addr (by simpa using g0)
        have g2 : DataW.trod enc Tryz.prog w base (fun _ => true) true n' 31 [v2] = some y1 := by simpa using g1
        obtain ⟨av, l, cv, rfl⟩ : ∃ av l cv, v2 = .slice av l cv := by
          rcases open_slice Tryz.underlying31 g2 with ⟨hcs, _⟩ | ⟨ad, l', cap', m', n2, D, Pl, hcs, _⟩
          · exact ⟨_, _, _, by simpa using hcs⟩
          · exact ⟨_, _, _, by simpa using hcs⟩
        obtain ⟨al, f1, f2, f3⟩ := open_areas g2
        exact ⟨⟨(c, r), al, av, cv⟩, ⟨e2 0 (by omega), e2 1 (by omega), by rw [f1]; exact e2 2 (by omega)⟩, ⟨i1, i2⟩, by simp only; omega, f3⟩)
    exact ⟨A, hA, by omega, fun _ => ⟨b, o, rfl, hAt⟩⟩
end
end Go.Proofs.YtdlieecpckpemaaGreatDoor
