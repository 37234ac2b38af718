/- MoveFormula: for every node (with all that stands below it), every bool and every two ints, where what is read is of bulk at most 1048576, the call returns true, and what was handed in reads as it did (a tied card: two tables of unicode/utf8 stand as the program lays them). -/
import Derived.Test.YtbkcebbddhaifaaGreatDoorC63
import Derived.Test.YtbkcebbddhaifaaGreatDoorC64
import Derived.Test.YtbkcebbddhaifaaGreatDoorCards
import Derived.Test.YtbkcebbddhaifaaGreatDoorTie
import Derived.ProofKit
import Derived.SizedLaws
import Derived.ChangeSame
import Derived.LaidMore
import Derived.Lay
import Derived.LaidOnce
import Derived.OpenShut
import Derived.Carry
import Derived.Stop.Joined
import Derived.Lib.LaidU8T
namespace Go.Proofs.YtbkcebbddhaifaaGreatDoor
open Go.ChangeShapes Go.WideShapes Go.ChangeAt Go.RowKit

theorem ownK : ownKnob Tryz.prog.godebug = none := by kernel_rfl
theorem laidK : laidOutB Tryz.prog = true := by kernel_rfl
def laidTwo : List (String × DataW Unit) := [("unicode/utf8.acceptRanges", Rows.laid_unicode_utf8_acceptRanges), ("unicode/utf8.first", Rows.laid_unicode_utf8_first)]
theorem first_is : Rows.laid_unicode_utf8_first = Lib.firstData := by kernel_rfl
theorem accept_is : (Rows.laid_unicode_utf8_acceptRanges : DataW Unit) = Lib.acceptData := by kernel_rfl
theorem u8x : U8Extra Tryz.prog Tryz.laysValid_ren := ⟨by kernel_rfl, by kernel_rfl, by kernel_rfl, by kernel_rfl, by kernel_rfl, by kernel_rfl, by kernel_rfl⟩
theorem tabs_of {W : World} (h : laidMetH Tryz.prog laidTwo W) : Lib.Utf8Tabs (Tryz.laysValid_ren.g 3) (Tryz.laysValid_ren.g 4) W := by
  have h' : laidMet Tryz.prog laidTwo W := by rw [MakeChecks.laidMetH_plain _ _ _ (by kernel_rfl)] at h; exact h
  obtain ⟨ps, hl, _, _⟩ := h'
  refine utf8Tabs_of_readsT (U8Types.of196 Tryz.laysValid) u8x ?_ ?_
  · rw [← first_is]; exact Lib.LaidVars_reads hl _ _ (by simp [laidTwo])
  · rw [← accept_is]; exact Lib.LaidVars_reads hl _ _ (by simp [laidTwo])
def zNv : Value := zHd.val (.slice none 0 0)
set_option maxRecDepth 100000 in
theorem mvf_lifted (os : Os) (started : os.Started) (H : Type) (enc : TypeId × Value → H) (FI : Stop.Interp) :
    ReturnsInHanded {} Tryz.checked os 4 .any (fun w args => ((Rows.OpenSpec.upto Rows.moveFormulaSpec).pre enc Tryz.prog Tryz.f4 [] false w args ∧ laidMetH Tryz.prog laidTwo w) ∧ sizedMet enc Tryz.prog Tryz.f4 (Rows.OpenSpec.upto Rows.moveFormulaSpec) false w args)
      (((Rows.OpenSpec.upto Rows.moveFormulaSpec).at FI).post enc Tryz.prog Tryz.f4 false true false false) := by
  refine returnsInHanded_of_cond_and (C := Tryz.checked) (s := Rows.OpenSpec.upto Rows.moveFormulaSpec) (k := Rows.uptoSmall) rfl (X := fun w _ => laidMetH Tryz.prog laidTwo w) (fun _ _ _ hh h => h.of_heap hh) ownK started (by kernel_rfl) Tryz.func4
    (OpenSpec.witness_laid (enc := enc) (C := Tryz.checked) (os := os) (s := Rows.OpenSpec.upto Rows.moveFormulaSpec) (k := Rows.uptoSmall) rfl (X := fun w _ => laidMetH Tryz.prog laidTwo w) false (World.laidAll Tryz.prog os laidTwo) #[zNv, .bool false, .int .i64 0, .int .i64 0] 8 (World.laidAll_os _ _ _) (World.shaped_of_ZipB (by kernel_rfl) (by kernel_rfl)) (by kernel_rfl) (by kernel_rfl) (by kernel_rfl) (by rw [MakeChecks.laidMetH_plain _ _ _ (by kernel_rfl)]; exact laidMet_laidAll _ (by kernel_rfl) (by kernel_rfl))) ?_
  intro W base args ds gs before hval0 hW _ hbulk hsized hL _
  have hval : ∀ (j : Nat) t v, Tryz.f4.params[j]? = some t → args[j]? = some v → Value.okWide Tryz.prog W .any base t v := hval0
  have hW' := hW
  obtain ⟨p, q, hA0, hV, rfl, hfz, hnd⟩ := hW
  have hA : DataW.TrodAll enc Tryz.prog W 0 (fun _ => true) true Tryz.f4.params.toList args.toList ds p := hA0
  rw [Tryz.params4] at hA hval
  obtain ⟨v0, v1, v2, v3, d0, d1, d2, d3, p0, p1, p2, p3, rfl, rfl, rfl, h0, h1, h2, h3⟩ := trodAll_four hA
  obtain ⟨rfl, rfl⟩ := trodVars_none hV
  have h0k := h0
  have h1k := h1
  have h2k := h2
  have h3k := h3
  have hw : ∀ (j : Nat) (t : TypeId) (d : DataW H), (Tryz.f4.params.toList ++ (Rows.OpenSpec.upto Rows.moveFormulaSpec).bare.plain.varTypes Tryz.prog)[j]? = some t → ([d0, d1, d2, d3] ++ ([] : List (DataW H)))[j]? = some d → ∀ n ∈ d.weights Tryz.prog t, n ≤ reachBytes := fun j t d ht hd n hn => by
    have := List.all_eq_true.1 hsized _ (DataW.weights_mem_each ht hd n hn)
    simpa using this
  obtain ⟨⟨l⟩, rfl, hlz⟩ := okWide_struct Tryz.underlying44 (hval 0 _ v0 rfl rfl)
  obtain ⟨fuel, hf⟩ := h0
  obtain ⟨t, sl, hcs, hin, hok, htx, hbk⟩ := open_node4 fuel l (d0, p0) (by simpa [Value.cells] using hf) (hw 0 _ d0 rfl rfl)
  subst hcs
  have hsz : t.size ≤ 1048576 := by
    have hb : Rows.uptoBulkAll ([d0, d1, d2, d3] ++ ([] : List (DataW H))) ≤ 1048576 := of_decide_eq_true hbulk
    have hb2 : Rows.uptoBulk d0 ≤ Rows.uptoBulkAll ([d0, d1, d2, d3] ++ ([] : List (DataW H))) := bulk_part (by simp)
    have hbk' : t.size ≤ Rows.uptoBulk d0 := hbk
    omega
  obtain ⟨bb, rfl⟩ := okWide_bool Tryz.underlying4 (hval 1 _ v1 rfl rfl)
  obtain ⟨z2, e2, _, _, wr2⟩ := open_int Tryz.underlying3 (hval 2 3 v2 rfl rfl) h2
  obtain ⟨z3, e3, _, _, wr3⟩ := open_int Tryz.underlying3 (hval 3 3 v3 rfl rfl) h3
  subst e2 e3
  clear hA0 hval0
  simp only [List.append_nil] at hW'
  have hlt : ∀ x ∈ p0 ++ (p1 ++ (p2 ++ p3)), x.block < W.heap.size := fun x hx => by
    have := hW'.lt x (by simpa using hx)
    simpa using this
  have k0 : ∀ (W' : World), Below W.heap.size W W' → DataW.Trod enc Tryz.prog W' 0 (fun b => decide (b < W.heap.size)) true 44 (t.hd.val sl) d0 p0 := fun W' hn => Below.trod laidK (by kernel_rfl) (of_decide_eq_true (by kernel_rfl)) h0k hn (fun x hx => hlt x (by simp [hx]))
  have k1 : ∀ (W' : World), Below W.heap.size W W' → DataW.Trod enc Tryz.prog W' 0 (fun b => decide (b < W.heap.size)) true 4 (.bool bb) d1 p1 := fun W' hn => Below.trod laidK (by kernel_rfl) (of_decide_eq_true (by kernel_rfl)) h1k hn (fun x hx => hlt x (by simp [hx]))
  have k2 : ∀ (W' : World), Below W.heap.size W W' → DataW.Trod enc Tryz.prog W' 0 (fun b => decide (b < W.heap.size)) true 3 (.int .i64 z2) d2 p2 := fun W' hn => Below.trod laidK (by kernel_rfl) (of_decide_eq_true (by kernel_rfl)) h2k hn (fun x hx => hlt x (by simp [hx]))
  have k3 : ∀ (W' : World), Below W.heap.size W W' → DataW.Trod enc Tryz.prog W' 0 (fun b => decide (b < W.heap.size)) true 3 (.int .i64 z3) d3 p3 := fun W' hn => Below.trod laidK (by kernel_rfl) (of_decide_eq_true (by kernel_rfl)) h3k hn (fun x hx => hlt x (by simp [hx]))
  refine (formula_law22 t sl bb z2 z3 W hsz hok htx hin (vs_of (tabs_of hL))).mono ?_
  rintro e W' ⟨rfl, hk⟩
  have hnx := hk.below
  exact ⟨_, rfl, _, _, _, [], _, [], hW', trodAll_mk1 (shut_bool Tryz.underlying4 _), trodAll_mk4 (k0 _ hnx) (k1 _ hnx) (k2 _ hnx) (k3 _ hnx), rfl, hnx.frame _, fun h => by cases h⟩

theorem mvf_said : Rows.MoveFormulaUptoSaid :=
  OpenClaim.holds_of_cond 4 Tryz.f4 rfl rfl rfl rfl rfl rfl rfl ⟨rfl, rfl, rfl, rfl, rfl⟩ rfl rfl rfl rfl rfl (by kernel_rfl) Tryz.func4 (by kernel_rfl)
    (of_decide_eq_true (by kernel_rfl)) (by unfold Func.isWrapper; first | (rw [if_pos (by decide +kernel)]; kernel_rfl) | (rw [if_neg (by decide +kernel)]; exact ⟨rfl, rfl⟩))
    (fun os started H enc _ FI => mvf_lifted os started H enc FI)

theorem mvf_plain (f : FuncId) (fn : Func) (hf : Tryz.pinned.checked.prog.funcNamed Tryz.f4.name = some f) (hfn : Tryz.pinned.checked.prog.funcs[f]? = some fn) :
    false = Tryz.pinned.checked.prog.looks [] ∧ ∀ (j : Nat) t, fn.params[j]? = some t → Tryz.pinned.checked.prog.wantsStandIn t = false := by
  obtain rfl : f = 4 := Option.some.inj ((show Tryz.prog.funcNamed Tryz.f4.name = some 4 by kernel_rfl).symm.trans hf) |>.symm
  obtain rfl : fn = Tryz.f4 := (Option.some.inj (Tryz.func4.symm.trans hfn)).symm
  refine ⟨by kernel_rfl, fun j t ht => ?_⟩
  rw [Tryz.params4] at ht
  have hm : t ∈ [44, 4, 3, 3] := by simpa using Array.mem_of_getElem? ht
  have hall : ([44, 4, 3, 3].all fun u => !Tryz.prog.wantsStandIn u) = true := by kernel_rfl
  exact (show Tryz.prog.wantsStandIn t = false by simpa using List.all_eq_true.1 hall t hm)

theorem mvf_card : Rows.MoveFormulaUptoCardSaid :=
  Claim7.holds_tied_plain_at .later [] _ _ _ _ mvf_said (fun _ h => by cases h) (by kernel_rfl) (fun _ h => by cases h) moveFormulaUpto_row_tie rfl ⟨rfl, rfl⟩ (by kernel_rfl) rfl mvf_plain (by kernel_rfl)
#print axioms mvf_card
end Go.Proofs.YtbkcebbddhaifaaGreatDoor
