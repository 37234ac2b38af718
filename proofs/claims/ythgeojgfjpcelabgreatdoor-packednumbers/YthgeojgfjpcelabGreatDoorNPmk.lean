/- PackedNumbers: for every list of words, every mode and every cut: doubles are read back as the numbers, singles as those to which each is narrowed, of which as many were inexact; singles of what are singles are these; what was handed in reads as it did; no condition (a tied card: four tables stand as the program lays them). -/
import Derived.Test.YthgeojgfjpcelabGreatDoorNPlo
import Derived.Test.YthgeojgfjpcelabGreatDoorNPmj
import Derived.Test.YthgeojgfjpcelabGreatDoorNJu
namespace Go.Proofs.YthgeojgfjpcelabGreatDoor
open Go.ChangeShapes Go.WideShapes Go.ChangeAt Go.RowKit

section
variable {H : Type} {enc : TypeId × Value → H} {w : World} {base : Nat}
theorem cellsU64 : Tryz.prog.cellsOf 39 = 1 := by kernel_rfl
theorem open_words {fuel : Nat} {a : Option Addr} {len cap : Nat} {x : DataW H × List MemPlace} (h : DataW.trod enc Tryz.prog w base (fun _ => true) true fuel 34 [.slice a len cap] = some x) :
    ∃ zs : List Nat, zs.length = len ∧ WordsIn w (.slice a len cap) zs := by
  obtain ⟨h1, h2, h3⟩ := open_rows Tryz.underlying34 cellsU64 (by decide) h
  rcases Nat.eq_zero_or_pos len with h0 | h0
  · subst h0
    exact ⟨[], rfl, ⟨a, cap, rfl, Nat.zero_le _, fun h => absurd h (Nat.lt_irrefl _)⟩, Nat.zero_le _, fun z hz => by simp at hz⟩
  · obtain ⟨b, o, n, rfl, hx⟩ := h3 h0
    obtain ⟨A, hA, hAt⟩ := by_each (α := Nat) (len := len) (p := fun i x => w.cell? ⟨b, o + i, none⟩ = some (.int .u64 (x : Nat)) ∧ x < 18446744073709551616) (fun i hi => by
      obtain ⟨cs, y, e1, e2, e3⟩ := hx i hi
      match cs, e1 with
      | [v0], _ =>
        obtain ⟨c, e0, _, wf⟩ := DataW.trod_int Tryz.underlying39 e3
        have e0' : v0 = .int .u64 c := by simpa using e0
        subst e0'
        have := e2 0 (by omega)
        rw [Nat.mul_one] at this
        have hb := bounds_u64 wf
        refine ⟨c.toNat, ?_, by omega⟩
        rw [show ((c.toNat : Nat) : Int) = c by omega]
        exact this)
    subst hA
    refine ⟨A, rfl, ⟨_, cap, rfl, h1, fun _ => ⟨b, o, rfl, fun i y hy => (hAt i y hy).1⟩⟩, by omega, fun z hz => ?_⟩
    obtain ⟨i, hi⟩ := List.mem_iff_getElem?.1 hz
    exact (hAt i z hi).2
end
set_option maxRecDepth 100000 in
theorem numbers_lifted (os : Os) (started : os.Started) (H : Type) (enc : TypeId × Value → H) :
    ReturnsInHanded {} Tryz.checked os 4 .any (fun w args => (Rows.packedNumbersSpec.pre enc Tryz.prog Tryz.f4 [] false w args ∧ laidMetH Tryz.prog laidFour w) ∧ sizedMet enc Tryz.prog Tryz.f4 (OpenSpec.ofChange Rows.packedNumbersSpec) false w args)
      (Rows.packedNumbersSpec.post enc Tryz.prog Tryz.f4 false true false false) := by
  refine returnsInHanded_of_change_and (C := Tryz.checked) (X := fun w _ => laidMetH Tryz.prog laidFour w) (fun _ _ _ hh h => h.of_heap hh) ownK started (by kernel_rfl) Tryz.func4
    (ChangeSpec.witness_shaped (enc := enc) (C := Tryz.checked) (os := os) (X := fun w _ => laidMetH Tryz.prog laidFour w) false (World.laidAll Tryz.prog os laidFour) #[.slice none 0 0, .int .i64 0, .int .i64 0] 8 (World.laidAll_os _ _ _) (World.shaped_of_ZipB (by kernel_rfl) (by kernel_rfl)) (by kernel_rfl) (by kernel_rfl) (by kernel_rfl) (by rw [MakeChecks.laidMetH_plain _ _ _ (by kernel_rfl)]; exact laidMet_laidAll _ (by kernel_rfl) (by kernel_rfl))) ?_
  intro W base args ds gs before hval0 hW _ _ hL _
  have hval : ∀ (j : Nat) t v, Tryz.f4.params[j]? = some t → args[j]? = some v → Value.okWide Tryz.prog W .any base t v := hval0
  have hW' := hW
  obtain ⟨p, q, hA0, hV, rfl, hfz, hnd⟩ := hW
  have hA : DataW.TrodAll enc Tryz.prog W 0 (fun _ => true) true Tryz.f4.params.toList args.toList ds p := hA0
  rw [Tryz.params4] at hA hval
  obtain ⟨v0, v1, v2, d0, d1, d2, p0, p1, p2, rfl, rfl, rfl, h0, h1, h2⟩ := trodAll_three hA
  obtain ⟨rfl, rfl⟩ := trodVars_none hV
  obtain ⟨a0, l0, c0, rfl⟩ := okWide_slice Tryz.underlying34 (hval 0 _ v0 rfl rfl)
  obtain ⟨z1, e1, _, _, wr1⟩ := open_int Tryz.underlying3 (hval 1 3 v1 rfl rfl) h1
  obtain ⟨z2, e2, _, _, wr2⟩ := open_int Tryz.underlying3 (hval 2 3 v2 rfl rfl) h2
  subst e1 e2
  have h0k := h0
  have h1k := h1
  have h2k := h2
  obtain ⟨g0, f0⟩ := h0
  obtain ⟨xl, _, hX⟩ := open_words (by simpa [Value.cells] using f0)
  clear hA0 hval0
  simp only [List.append_nil] at hW'
  have hlt : ∀ x ∈ p0 ++ (p1 ++ p2), x.block < W.heap.size := fun x hx => by
    have := hW'.lt x (by simpa using hx)
    simpa using this
  have k0 : ∀ (W' : World), Below W.heap.size W W' → DataW.Trod enc Tryz.prog W' 0 (fun b => decide (b < W.heap.size)) true 34 (.slice a0 l0 c0) d0 p0 := fun W' hn => Below.trod laidK (by kernel_rfl) (of_decide_eq_true (by kernel_rfl)) h0k hn (fun x hx => hlt x (by simp [hx]))
  have k1 : ∀ (W' : World), Below W.heap.size W W' → DataW.Trod enc Tryz.prog W' 0 (fun b => decide (b < W.heap.size)) true 3 (.int .i64 z1) d1 p1 := fun W' hn => Below.trod laidK (by kernel_rfl) (of_decide_eq_true (by kernel_rfl)) h1k hn (fun x hx => hlt x (by simp [hx]))
  have k2 : ∀ (W' : World), Below W.heap.size W W' → DataW.Trod enc Tryz.prog W' 0 (fun b => decide (b < W.heap.size)) true 3 (.int .i64 z2) d2 p2 := fun W' hn => Below.trod laidK (by kernel_rfl) (of_decide_eq_true (by kernel_rfl)) h2k hn (fun x hx => hlt x (by simp [hx]))
  have hz1 : I64 z1 := by have := bounds_i64 wr1; unfold I64; omega
  have hz2 : I64 z2 := by have := bounds_i64 wr2; unfold I64; omega
  refine (numbers24 _ xl z1 z2 hz1 hz2 W hX (tabs_of hL).1 (tabs_of hL).2.2 (tabs_of hL).2.1).mono ?_
  rintro e W' ⟨rfl, hk⟩
  have hnx := hk.below
  exact ⟨_, rfl, _, _, _, [], _, [], hW', trodAll_mk1 (shut_bool Tryz.underlying4 _), trodAll_mk3 (k0 _ hnx) (k1 _ hnx) (k2 _ hnx), rfl, hnx.frame _, fun h => by cases h⟩

theorem numbers_said : Rows.PackedNumbersSaid :=
  OpenClaim.holds_of_wide 4 Tryz.f4 rfl rfl rfl rfl rfl rfl rfl ⟨rfl, rfl, rfl, rfl, rfl⟩ rfl rfl rfl rfl rfl (by kernel_rfl) Tryz.func4 (by kernel_rfl)
    (of_decide_eq_true (by kernel_rfl)) (by unfold Func.isWrapper; first | (rw [if_pos (by decide +kernel)]; kernel_rfl) | (rw [if_neg (by decide +kernel)]; exact ⟨rfl, rfl⟩))
    (fun os started H enc _ => numbers_lifted os started H enc)

theorem numbers_plain (f : FuncId) (fn : Func) (hf : Tryz.pinned.checked.prog.funcNamed Tryz.f4.name = some f) (hfn : Tryz.pinned.checked.prog.funcs[f]? = some fn) :
    true = Tryz.pinned.checked.prog.looks [] ∧ ∀ (j : Nat) t, fn.params[j]? = some t → Tryz.pinned.checked.prog.wantsStandIn t = false := by
  obtain rfl : f = 4 := Option.some.inj ((show Tryz.prog.funcNamed Tryz.f4.name = some 4 by kernel_rfl).symm.trans hf) |>.symm
  obtain rfl : fn = Tryz.f4 := (Option.some.inj (Tryz.func4.symm.trans hfn)).symm
  refine ⟨by kernel_rfl, fun j t ht => ?_⟩
  rw [Tryz.params4] at ht
  have hm : t ∈ [34, 3, 3] := by simpa using Array.mem_of_getElem? ht
  have hall : ([34, 3, 3].all fun u => !Tryz.prog.wantsStandIn u) = true := by kernel_rfl
  exact (show Tryz.prog.wantsStandIn t = false by simpa using List.all_eq_true.1 hall t hm)

theorem numbers_card : Rows.PackedNumbersCardSaid :=
  Claim7.holds_tied_plain_at .later [] _ _ _ _ numbers_said (fun _ h => by cases h) (by kernel_rfl) (fun _ h => by cases h) packedNumbers_row_tie rfl ⟨rfl, rfl⟩ (by kernel_rfl) rfl numbers_plain (by kernel_rfl)
#print axioms numbers_card
end Go.Proofs.YthgeojgfjpcelabGreatDoor
