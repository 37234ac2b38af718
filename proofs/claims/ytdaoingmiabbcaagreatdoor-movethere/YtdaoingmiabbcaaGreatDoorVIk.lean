/- Rows of puts. No function of the program here. Get: what it tells lies in memory of its own. -/
import Derived.Test.YtdaoingmiabbcaaGreatDoorVIh
import Derived.Test.YtdaoingmiabbcaaGreatDoorVXk
import Derived.ArgAppend
import Derived.Test.YtdaoingmiabbcaaGreatDoorVXs
import Derived.Test.YtdaoingmiabbcaaGreatDoorVXy
import Derived.Test.YtdaoingmiabbcaaGreatDoorVQu
import Derived.Test.YtdaoingmiabbcaaGreatDoorVJh
namespace Go.Proofs.YtdaoingmiabbcaaGreatDoor
open Go.RowKit

/-- A put's twenty-three cells. -/
abbrev ptCells (x : Cc) (sl : Value) : List Value := .int .i64 x.1.1 :: .int .i64 x.1.2 :: x.2.cells sl
theorem pt_len (x : Cc) (sl : Value) : (ptCells x sl).length = 23 := rfl
theorem infoPut : (Tryz.prog.info? 72).map (·.size) = some 23 := by kernel_rfl
theorem infoPutI : ∃ i, Tryz.prog.info? 72 = some i ∧ i.zero = some (.agg (.int .i64 0 :: .int .i64 0 :: zC21).toArray) ∧ i.size = 23 ∧ i.bytes = 200 := by
  have h : (Tryz.prog.info? 72).map (fun i => (i.zero, i.size, i.bytes)) = some (some (.agg (.int .i64 0 :: .int .i64 0 :: zC21).toArray), 23, 200) := by kernel_rfl
  cases e : Tryz.prog.info? 72 with
  | none => rw [e] at h; cases h
  | some i =>
    rw [e] at h
    simp only [Option.map_some, Option.some.injEq, Prod.mk.injEq] at h
    exact ⟨i, rfl, h⟩
theorem pt_one (x : Cc) {sl : Value} (hs : sl.oneCell' = true) : ∀ u ∈ ptCells x sl, u.oneCell' = true := by
  intro u hu
  have := x.2.one hs
  rw [Array.all_eq_true'] at this
  rcases List.mem_cons.1 hu with rfl | hu
  · rfl
  · rcases List.mem_cons.1 hu with rfl | hu
    · rfl
    · exact this u (by simpa using hu)
end Go.Proofs.YtdaoingmiabbcaaGreatDoor
namespace Go.Proofs.YtdaoingmiabbcaaGreatDoor
open Go.RowKit Go.Maps

set_option maxRecDepth 20000 in
set_option maxHeartbeats 8000000 in
theorem get_own (g : Nat) (c r : Int) (mv : Option Nat) (V : Value) (bb : Bool) (u : Ct) (w : World) (hlk : Lk w g c r mv V bb)
    (hcp : ∀ wq, Kp w wq Nul → Calls Tryz.prog 40 #[V] wq fun e w' => ∃ sl' fp, e = .returned (u.val sl') ∧ Own w' wq.heap.size sl' u.t fp ∧ Kp wq w' Nul) :
    Calls Tryz.prog 13 #[.pointer (some ⟨g, 0, none⟩), .agg #[.int .i64 c, .int .i64 r]] w fun e w' => ∃ sl' fp, e = .returned (u.val sl') ∧ Own w' w.heap.size sl' u.t fp ∧ Kp w w' Nul := by
  obtain ⟨W1, hW1⟩ : ∃ W1, (w.alloc (.cells #[.int .i64 c, .int .i64 r] 24)).alloc (.cells #[.int .i64 0, .int .i64 0, .float .f64 0, .string ⟨#[]⟩, .bool false, .int .i64 0, .int .i64 0, .int .i64 0, .float .f64 0, .string ⟨#[]⟩, .bool false, .int .i64 0, .int .i64 0, .int .i64 0, .bool false, .bool false, .int .i64 0, .int .i64 0, .bool false, .bool false, .slice none 0 0] 51) = W1 := ⟨_, rfl⟩
  have k1 : Kp w W1 Nul := by rw [← hW1]; exact ((Kp.refl w Nul).alloc _).alloc _
  have hA1 : Blk W1 w.heap.size [.int .i64 c, .int .i64 r] 24 := by rw [← hW1]; exact (Blk.new w [.int .i64 c, .int .i64 r] _).alloc _
  have hZ1 : Blk W1 (w.heap.size + 1) [.int .i64 0, .int .i64 0, .float .f64 0, .string ⟨#[]⟩, .bool false, .int .i64 0, .int .i64 0, .int .i64 0, .float .f64 0, .string ⟨#[]⟩, .bool false, .int .i64 0, .int .i64 0, .int .i64 0, .bool false, .bool false, .int .i64 0, .int .i64 0, .bool false, .bool false, .slice none 0 0] 51 := by
    have := Blk.new (w.alloc (.cells #[.int .i64 c, .int .i64 r] 24)) [.int .i64 0, .int .i64 0, .float .f64 0, .string ⟨#[]⟩, .bool false, .int .i64 0, .int .i64 0, .int .i64 0, .float .f64 0, .string ⟨#[]⟩, .bool false, .int .i64 0, .int .i64 0, .int .i64 0, .bool false, .bool false, .int .i64 0, .int .i64 0, .bool false, .bool false, .slice none 0 0] 51
    rw [World.size_alloc] at this
    rw [← hW1]; exact this
  have hglt : g < w.heap.size := (Array.getElem?_eq_some_iff.1 hlk.cell).1
  have hg1 : Blk W1 g [.map mv] 88 := (k1.block g hglt (fun x => x)).trans hlk.cell
  have HS : Hid (∀ wq, Kp W1 wq (fun i => i = w.heap.size + 1) → (wq.cell? ⟨w.heap.size, 0, none⟩ = some (.int .i64 c) ∧ wq.cell? ⟨w.heap.size, 1, none⟩ = some (.int .i64 r) ∧ wq.cell? ⟨g, 0, none⟩ = some (.map mv) ∧ (Instr.lookup 86 (.map mv) (.agg #[.int .i64 c, .int .i64 r]) false).run Tryz.prog wq = .ok V wq)) := fun wq k => ⟨(hA1.kp k (by show ¬ w.heap.size = w.heap.size + 1; omega)).cell rfl, (hA1.kp k (by show ¬ w.heap.size = w.heap.size + 1; omega)).cell rfl, (hg1.kp k (by show ¬ g = w.heap.size + 1; omega)).cell rfl, hlk.one wq (fun m hm => by
    have h2 := (hlk.ne m hm).2
    have h3 := k1.size
    exact (k.block m (by omega) (by show ¬ m = w.heap.size + 1; omega)).trans (k1.block m h2 (fun x => x)))⟩
  have HCp : Hid (∀ wq, Kp W1 wq Nul → Calls Tryz.prog 40 #[V] wq fun e w' => ∃ sl' fp, e = .returned (u.val sl') ∧ Own w' wq.heap.size sl' u.t fp ∧ Kp wq w' Nul) := fun wq k => hcp wq (k1.trans k)
  have HZ : Hid (Blk W1 (w.heap.size + 1) [.int .i64 0, .int .i64 0, .float .f64 0, .string ⟨#[]⟩, .bool false, .int .i64 0, .int .i64 0, .int .i64 0, .float .f64 0, .string ⟨#[]⟩, .bool false, .int .i64 0, .int .i64 0, .int .i64 0, .bool false, .bool false, .int .i64 0, .int .i64 0, .bool false, .bool false, .slice none 0 0] 51) := hZ1
  have HW1 : Hid ((w.alloc (.cells #[.int .i64 c, .int .i64 r] 24)).alloc (.cells #[.int .i64 0, .int .i64 0, .float .f64 0, .string ⟨#[]⟩, .bool false, .int .i64 0, .int .i64 0, .int .i64 0, .float .f64 0, .string ⟨#[]⟩, .bool false, .int .i64 0, .int .i64 0, .int .i64 0, .bool false, .bool false, .int .i64 0, .int .i64 0, .bool false, .bool false, .slice none 0 0] 51) = W1) := hW1
  have HK1 : Hid (Kp w W1 Nul) := k1
  clear hW1 k1 hA1 hZ1 hg1 hlk hcp hglt
  go_enter Tryz.func13, Tryz.ntmps13
  go_wp2_with fail
  rw [HW1.out]
  clear HW1
  refine wp_region_noPanic ?_
  refine wp_region_hel (fun w' : World => Kp W1 w' (fun i => i = w.heap.size + 1)) (by kernel_rfl) ((Kp.refl W1 _).drew) (fun hHeld => ?_)
  have tok0 : True := trivial
  have tok1 : True := trivial
  have tok2 : True := trivial
  have tok3 : True := trivial
  have tok4 : True := trivial
  have tok5 : True := trivial
  iterate 6 ((first | (clear tok0; refine wpH_takes (i := 0) (v := ?_) (some 8) rfl rfl (by kernel_rfl) (by kernel_rfl) (by kernel_rfl) (fun _ _ _ h => h) (Or.inl ⟨by rfl, ?_⟩) hHeld ?_) | (clear tok1; refine wpH_takes (i := 1) (v := ?_) (some 9) rfl rfl (by kernel_rfl) (by kernel_rfl) (by kernel_rfl) (fun _ _ _ h => h) (Or.inl ⟨by rfl, ?_⟩) hHeld ?_) | (clear tok2; refine wpH_takes (i := 2) (v := ?_) (some 10) rfl rfl (by kernel_rfl) (by kernel_rfl) (by kernel_rfl) (fun _ _ _ h => h) (Or.inl ⟨by rfl, ?_⟩) hHeld ?_) | (clear tok3; refine wpH_takes (i := 3) (v := ?_) (some 11) rfl rfl (by kernel_rfl) (by kernel_rfl) (by kernel_rfl) (fun _ _ _ h => h) (Or.inl ⟨by rfl, ?_⟩) hHeld ?_) | (clear tok4; refine wpH_takes (i := 4) (v := ?_) (some 12) rfl rfl (by kernel_rfl) (by kernel_rfl) (by kernel_rfl) (fun _ _ _ h => h) (Or.inl ⟨by rfl, ?_⟩) hHeld ?_) | (clear tok5; refine wpH_takes (i := 5) (v := ?_) (some 13) rfl rfl (by kernel_rfl) (by kernel_rfl) (by kernel_rfl) (fun _ _ _ h => h) (Or.inl ⟨by rfl, ?_⟩) hHeld ?_)); rotate_left; (· intro w hSw; obtain ⟨s0, s1, s2, s3⟩ := HS.out _ hSw; clear hSw; go_simp; try with_reducible rfl); simp only [Act.put, List.setIfInBounds_toArray, List.set_cons_zero, List.set_cons_succ])
  refine wpH_step (i := 6) (by kernel_rfl) rfl rfl (fun K hK => ?_)
  go_simp
  refine (HCp.out _ (Kp.refl W1 Nul).drew).mono ?_
  rintro e w4 ⟨sl', fp, rfl, hown, hk4⟩
  have hk14 : Kp W1 w4 Nul := (Kp.refl W1 Nul).drew.trans hk4
  have hone := hown.own.one
  refine hK.out _ _ hk14.of_nul (fun hHeld2 => ?_)
  clear hK K hk4
  have hZ4 := HZ.out.kp hk14 (fun x => x)
  refine wpH_step (i := 7) (by kernel_rfl) rfl rfl (fun K hK => ?_)
  refine wp_store_mid 51 (.tmp 4) (.tmp 14) rfl (w.heap.size + 1) 0 (u.cells sl').toArray rfl rfl (there_of_block hZ4 _ _ (by simp)) infoContent (u.one hone) ?_
  obtain ⟨W5, hW5⟩ : ∃ W5, w4.setCells (w.heap.size + 1) 0 (u.cells sl') = W5 := ⟨_, rfl⟩
  have k45 : Kp w4 W5 (fun i => i = w.heap.size + 1) := by rw [← hW5]; exact setCells_kp (fun i => i = w.heap.size + 1) rfl _ _ _
  have hB5 : W5.heap[w.heap.size + 1]? = some (.cells (u.cells sl').toArray 51 (0, 0)) := by
    rw [← hW5]
    exact heap_setCells_whole (cs := (u.cells sl').toArray) hZ4 rfl
  show K _ (w4.setCells (w.heap.size + 1) 0 (u.cells sl'))
  rw [hW5]
  refine hK.out _ _ (hk14.of_nul.trans k45) (fun _ => ?_)
  have HOW : Hid (Own W5 w.heap.size sl' u.t fp) := by
    have hz : w.heap.size + 1 < W1.heap.size := HZ.out.lt
    have hnew : ∀ b ∈ fp, w.heap.size + 1 < b ∧ b < w4.heap.size := fun b hb => by
      have h1 := (hown.new b hb).1
      have h2 : W1.drew.heap.size = W1.heap.size := rfl
      exact ⟨by omega, (hown.new b hb).2⟩
    refine ⟨hown.own.mono (fun b hb => ?_), hown.nodup, fun b hb => ?_⟩
    · rw [← hW5, heap_setCells_ne (by have := (hnew b hb).1; omega)]
    · rw [← hW5, size_setCells]
      exact ⟨by have := (hnew b hb).1; omega, (hnew b hb).2⟩
  have HEND : Hid (Kp w W5 Nul) := (HK1.out.trans hk14).trans' k45 (fun i hi e => by have : i = w.heap.size + 1 := e; omega)
  clear hK K hHeld hHeld2 hk14 k45 hone hZ4 hW5 hown
  refine wpAnyH_done (by kernel_rfl) ?_ _
  refine NoPanic.normal ?_
  go_wp2_with fail
  refine bodyPost_ret (results_cell_row rfl _ _ (w.heap.size + 1) 51 _ (0, 0) _ rfl hB5 Tryz.underlying51 rfl infoContent) rfl ?_
  exact ⟨_, _, rfl, HOW.out, HEND.out⟩
end Go.Proofs.YtdaoingmiabbcaaGreatDoor
