/- PackedLists: for every list of numbers' bits, every mode and every text: Singles and Doubles of the numbers, FromSingles and FromDoubles of the text and of these bytes answer as the document does, again too where what was answered was written over; what was handed in stays; no condition (a tied card: four tables stand as the program lays them). -/
import Derived.Test.YtnceajanlnnfoaaGreatDoorQmPlo
import Derived.Test.YtnceajanlnnfoaaGreatDoorQmPoe
import Derived.Test.YtnceajanlnnfoaaGreatDoorQmNk
import Derived.ChangeMaps5
namespace Go.Proofs.YtnceajanlnnfoaaGreatDoor
open Go.ChangeShapes Go.WideShapes Go.ChangeAt Go.RowKit Go.ChangeMaps
theorem narrow24 (mode : Int) (hm : okMode mode = true) (x : Nat) (w : World) (hx : x < 18446744073709551616) : Calls Tryz.prog 46 #[.int .u64 (x : Nat), .int .i64 mode] w fun e w' => (∃ o u z, e = .returned (.tuple #[.int .u32 (sW mode x : Nat), .agg #[.bool (sI mode x), .bool o, .bool u], .int .i64 z])) ∧ Kp w w' Nul := by
 have h := rnarrow_all (x : Int) (by omega) (by omega) mode w
 rw [Int.toNat_natCast] at h
 have e1 : nzW mode x = sW mode x := by unfold nzW sW; rw [hm, if_neg (by decide)]
 have e2 : nzI mode x = sI mode x := by unfold nzI sI; rw [hm, Bool.true_and]
 rw [e1, e2] at h
 exact h.mono fun e w' hh => ⟨⟨_, _, _, hh.1⟩, Kp.of_gr hh.2⟩
theorem cellsW64 : Tryz.prog.cellsOf 80 = 1 := by kernel_rfl
theorem bytesW64 : Tryz.prog.bytesOf 80 = 8 := by kernel_rfl
set_option maxRecDepth 100000 in
theorem lists_lifted (os : Os) (started : os.Started) (H : Type) (enc : TypeId × Value → H) :
  ReturnsInHanded {} Tryz.checked os 5 .any (fun w args => (Rows.packedListsSpec.pre enc Tryz.prog Tryz.f5 [] false w args ∧ laidMetH Tryz.prog laidFour w) ∧ sizedMet enc Tryz.prog Tryz.f5 (OpenSpec.ofChange Rows.packedListsSpec) false w args)
   (Rows.packedListsSpec.post enc Tryz.prog Tryz.f5 false true false false) := by
 refine returnsInHanded_of_change_and (C := Tryz.checked) (X := fun w _ => laidMetH Tryz.prog laidFour w) (fun _ _ _ hh h => h.of_heap hh) ownK started (by kernel_rfl) Tryz.func5
  (ChangeSpec.witness_shaped (enc := enc) (C := Tryz.checked) (os := os) (X := fun w _ => laidMetH Tryz.prog laidFour w) false (World.laidAll Tryz.prog os laidFour) #[.slice none 0 0, .int .i64 0, .string ⟨#[]⟩] 8 (World.laidAll_os _ _ _) (World.shaped_of_ZipB (by kernel_rfl) (by kernel_rfl)) (by kernel_rfl) (by kernel_rfl) (by kernel_rfl) (by rw [MakeChecks.laidMetH_plain _ _ _ (by kernel_rfl)]; exact laidMet_laidAll _ (by kernel_rfl) (by kernel_rfl))) ?_
 intro W base args ds gs before hval0 hW _ hsz0 hL _
 have hsz : (DataW.weightsEach Tryz.prog (Tryz.f5.params.toList ++ Rows.packedListsSpec.plain.varTypes Tryz.prog) (ds ++ gs)).all (· ≤ reachBytes) = true := hsz0
 clear hsz0
 have hval : ∀ (j : Nat) t v, Tryz.f5.params[j]? = some t → args[j]? = some v → Value.okWide Tryz.prog W .any base t v := hval0
 have hW' := hW
 obtain ⟨p, q, hA0, hV, rfl, hfz, hnd⟩ := hW
 have hA : DataW.TrodAll enc Tryz.prog W 0 (fun _ => true) true Tryz.f5.params.toList args.toList ds p := hA0
 rw [Tryz.params5] at hA hval hsz
 obtain ⟨v0, v1, v2, d0, d1, d2, p0, p1, p2, rfl, rfl, rfl, h0, h1, h2⟩ := trodAll_three hA
 obtain ⟨rfl, rfl⟩ := trodVars_none hV
 obtain ⟨a0, l0, c0, rfl⟩ := okWide_slice Tryz.underlying36 (hval 0 _ v0 rfl rfl)
 obtain ⟨z1, e1, _, _, wr1⟩ := open_int Tryz.underlying3 (hval 1 3 v1 rfl rfl) h1
 subst e1
 obtain ⟨s2, e2, e3, e4, hm2⟩ := open_string Tryz.underlying9 (hval 2 9 v2 rfl rfl) h2
 subst e2
 subst e3
 obtain ⟨⟨bt⟩⟩ := s2
 have hbl : bt.length ≤ reachBytes := sized_string hsz (j := 2) (t := 9) rfl rfl
 have h0k := h0
 have h1k := h1
 have h2k := h2
 obtain ⟨g0, f0⟩ := h0
 clear hA0 hval0
 simp only [List.append_nil] at hW'
 have hlt : ∀ x ∈ p0 ++ (p1 ++ p2), x.block < W.heap.size := fun x hx => by
  have := hW'.lt x (by simpa using hx)
  simpa using this
 have k0 : ∀ (W' : World), Below W.heap.size W W' → DataW.Trod enc Tryz.prog W' 0 (fun b => decide (b < W.heap.size)) true 36 (.slice a0 l0 c0) d0 p0 := fun W' hn => Below.trod laidK (by kernel_rfl) (of_decide_eq_true (by kernel_rfl)) h0k hn (fun x hx => hlt x (by simp [hx]))
 have k1 : ∀ (W' : World), Below W.heap.size W W' → DataW.Trod enc Tryz.prog W' 0 (fun b => decide (b < W.heap.size)) true 3 (.int .i64 z1) d1 p1 := fun W' hn => Below.trod laidK (by kernel_rfl) (of_decide_eq_true (by kernel_rfl)) h1k hn (fun x hx => hlt x (by simp [hx]))
 have k2 : ∀ (W' : World), Below W.heap.size W W' → DataW.Trod enc Tryz.prog W' 0 (fun b => decide (b < W.heap.size)) true 9 (.string ⟨⟨bt⟩⟩) _ p2 := fun W' hn => Below.trod laidK (by kernel_rfl) (of_decide_eq_true (by kernel_rfl)) h2k hn (fun x hx => hlt x (by simp [hx]))
 have fin : ∀ e W', (e = .returned (.bool true) ∧ Kp W W' Nul) → ∃ v, e = Ending.returned v ∧ Rows.packedListsSpec.post enc Tryz.checked.prog Tryz.f5 false true false false W #[.slice a0 l0 c0, .int .i64 z1, .string ⟨⟨bt⟩⟩] v W' := by
  rintro e W' ⟨rfl, hk⟩
  have hnx := hk.below
  exact ⟨_, rfl, _, _, _, [], _, [], hW', trodAll_mk1 (shut_bool Tryz.underlying4 _), trodAll_mk3 (k0 _ hnx) (k1 _ hnx) (k2 _ hnx), rfl, hnx.frame _, fun h => by cases h⟩
 have hbl' : bt.length ≤ 9223372036854775807 := by unfold reachBytes at hbl; omega
 have go : ∀ zs : List Nat, UsAt W (.slice a0 l0 c0) zs → (zs.length + 2) * 8 ≤ 140737488355328 → Calls Tryz.prog 5 #[.slice a0 l0 c0, .int .i64 z1, .string ⟨⟨bt⟩⟩] W fun e W' => ∃ v, e = Ending.returned v ∧ Rows.packedListsSpec.post enc Tryz.checked.prog Tryz.f5 false true false false W #[.slice a0 l0 c0, .int .i64 z1, .string ⟨⟨bt⟩⟩] v W' := fun zs hu h8 =>
  (lists24 _ zs z1 bt W hu h8 hbl' (tabs_of hL).1 (tabs_of hL).2.2 (tabs_of hL).2.1 (fun hm x w hx => narrow24 z1 hm x w hx)).mono fin
 rcases open_ints Tryz.underlying36 Tryz.underlying80 cellsW64 f0 with ⟨hcs, hx⟩ | ⟨a, len', cap', zs, hcs, _, hl, hm, hz, hx, hcell, hwz⟩
 ·simp [Value.cells] at hcs
  obtain ⟨rfl, rfl, rfl⟩ := hcs
  exact go [] ⟨none, 0, rfl, Nat.le_refl _, fun i x hx => by simp at hx⟩ (by decide)
 ·simp [Value.cells] at hcs
  obtain ⟨rfl, rfl, rfl⟩ := hcs
  simp only [Prod.mk.injEq] at hx
  obtain ⟨rfl, rfl⟩ := hx
  simp only [if_true] at hz
  by_cases hl0 : l0 = 0
  ·subst hl0
   exact go [] ⟨_, _, rfl, Nat.zero_le _, fun i x hx => by simp at hx⟩ (by decide)
  ·have hreach : l0 * 8 ≤ 140737488351232 := by
    have := sized_slice hsz (j := 0) (t := 36) (e := 80) rfl rfl Tryz.underlying36
    rw [bytesW64] at this
    simp only [lits, List.length_map, List.length_take, List.length_drop, reachBytes] at this
    omega
   obtain ⟨b, off, spot⟩ := a
   have hspot : spot = none := by simpa [Addr.add] using World.cell?_spot (hcell 0 (by omega))
   subst hspot
   have hbW : b < W.heap.size := hlt (.cell b off) (List.mem_append_left _ (MemPlace.mem_row.2 ⟨0, by omega, by simp⟩))
   have hln : ((List.range l0).map fun j => (zs.getD j 0).toNat).length = l0 := by simp
   have hu : UsAt W (.slice (some ⟨b, off, none⟩) l0 c0) ((List.range l0).map fun j => (zs.getD j 0).toNat) := by
    refine ⟨_, _, by rw [hln], by rw [hln]; omega, fun j x hx => ?_⟩
    have hj : j < l0 := by have := (List.getElem?_eq_some_iff.1 hx).1; omega
    rw [List.getElem?_map, List.getElem?_range hj] at hx
    injection hx with hx
    replace hx : (zs.getD j 0).toNat = x := hx
    have hc := hcell j (by omega)
    have hw := bounds_u64 (hwz (zs.getD j 0) (by
     have hj' : j < zs.length := by omega
     rw [List.getD_eq_getElem?_getD, List.getElem?_eq_getElem hj']
     exact List.getElem_mem hj'))
    have hadd : (⟨b, off, none⟩ : Addr).add j = ⟨b, off + j, none⟩ := by unfold Addr.add; split <;> simp_all
    rw [hadd] at hc
    refine ⟨by rw [← hx]; have q1 := hw.1; have q2 := hw.2; omega, b, off, rfl, hbW, ?_⟩
    rw [hc, ← hx, Int.toNat_of_nonneg hw.1]
   exact go _ hu (by rw [hln]; omega)
theorem lists_said : Rows.PackedListsSaid :=
 OpenClaim.holds_of_wide 5 Tryz.f5 rfl rfl rfl rfl rfl rfl rfl ⟨rfl, rfl, rfl, rfl, rfl⟩ rfl rfl rfl rfl rfl (by kernel_rfl) Tryz.func5 (by kernel_rfl)
  (of_decide_eq_true (by kernel_rfl)) (by unfold Func.isWrapper; first | (rw [if_pos (by decide +kernel)]; kernel_rfl) | (rw [if_neg (by decide +kernel)]; exact ⟨rfl, rfl⟩))
  (fun os started H enc _ => lists_lifted os started H enc)
theorem lists_plain (f : FuncId) (fn : Func) (hf : Tryz.pinned.checked.prog.funcNamed Tryz.f5.name = some f) (hfn : Tryz.pinned.checked.prog.funcs[f]? = some fn) :
  true = Tryz.pinned.checked.prog.looks [] ∧ ∀ (j : Nat) t, fn.params[j]? = some t → Tryz.pinned.checked.prog.wantsStandIn t = false := by
 obtain rfl : f = 5 := Option.some.inj ((show Tryz.prog.funcNamed Tryz.f5.name = some 5 by kernel_rfl).symm.trans hf) |>.symm
 obtain rfl : fn = Tryz.f5 := (Option.some.inj (Tryz.func5.symm.trans hfn)).symm
 refine ⟨by kernel_rfl, fun j t ht => ?_⟩
 rw [Tryz.params5] at ht
 have hm : t ∈ [36, 3, 9] := by simpa using Array.mem_of_getElem? ht
 have hall : ([36, 3, 9].all fun u => !Tryz.prog.wantsStandIn u) = true := by kernel_rfl
 exact (show Tryz.prog.wantsStandIn t = false by simpa using List.all_eq_true.1 hall t hm)
theorem lists_card : Rows.PackedListsCardSaid :=
 Claim7.holds_tied_plain_at .later [] _ _ _ _ lists_said (fun _ h => by cases h) (by kernel_rfl) (fun _ h => by cases h) packedLists_row_tie rfl ⟨rfl, rfl⟩ (by kernel_rfl) rfl lists_plain (by kernel_rfl)
#print axioms lists_card
end Go.Proofs.YtnceajanlnnfoaaGreatDoor
