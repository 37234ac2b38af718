/- wordsOf, below, newMarks, newQueue; a piece's word. -/
import Derived.Test.YtdlieecpckpemaaGreatDoorLcYa
import Derived.Test.YtdlieecpckpemaaGreatDoorLcYb
import Derived.Deep.OwnRows
import Derived.Deep.RegionHeld3
import Derived.Deep.QuietTactic
import Derived.BigQuiet
namespace Go.Proofs.YtdlieecpckpemaaGreatDoor
open Go.RowKit

theorem infoU64 : (Tryz.prog.info? 122).map (fun i => (i.zero, i.size, i.bytes)) = some (some (.int .u64 0), 1, 8) := by kernel_rfl
theorem infoInt : (Tryz.prog.info? 3).map (fun i => (i.zero, i.size, i.bytes)) = some (some (.int .i64 0), 1, 8) := by kernel_rfl
theorem made_one (z : Value) (n : Nat) : (madeCells #[z] n).toList = List.replicate n z := by
  apply List.ext_getElem?
  intro i
  simp only [madeCells, Array.toList_map, Array.toList_range, List.getElem?_map]
  by_cases h : i < n
  · rw [List.getElem?_range h, List.getElem?_replicate, if_pos h]; simp [Nat.mod_one]
  · rw [List.getElem?_eq_none (by simp; omega), List.getElem?_replicate, if_neg h]; rfl
/-- make of so many zeros. -/
theorem make_is (t e : TypeId) (z : Value) (bytes : Nat) (ht : Tryz.prog.underlying t = some (.slice e)) (hinfo : (Tryz.prog.info? e).map (fun i => (i.zero, i.size, i.bytes)) = some (some z, 1, bytes)) (hz1 : z.cells = #[z]) (n : Nat) (hb : bytes * n ≤ 281474976710656) (h63 : n ≤ 9223372036854775807) :
    ∃ cs : Array Value, cs.toList = List.replicate n z ∧ ∀ w : World, (Instr.makeSlice t (.int .i64 (n : Int)) (.int .i64 (n : Int))).run Tryz.prog w = .ok (.slice (some ⟨w.heap.size, 0, none⟩) n n) (w.alloc (.cells cs e)) :=
  ⟨_, made_one z n, fun w => run_make_row' t e z bytes ht hinfo hz1 .i64 .i64 n hb h63 w⟩
theorem zeros_wds (n : Nat) : List.replicate n (Value.int .u64 0) = wds (fun _ => false) n := by
  apply List.ext_getElem?
  intro i
  by_cases h : i < n
  · rw [wds_get h, List.getElem?_replicate, if_pos h, Wd.wd_zero]; rfl
  · rw [List.getElem?_replicate, if_neg h, List.getElem?_eq_none (by simp [wds]; omega)]
theorem zeros_nums (n : Nat) : List.replicate n (Value.int .i64 0) = nums (fun _ => 0) n := by
  apply List.ext_getElem?
  intro i
  by_cases h : i < n
  · rw [nums_get h, List.getElem?_replicate, if_pos h]
  · rw [List.getElem?_replicate, if_neg h, List.getElem?_eq_none (by simp [nums]; omega)]

set_option maxHeartbeats 1000000 in
theorem wordsOf_at (n : Int) (h0 : 0 ≤ n) (h1 : n ≤ 4294967296) (w : World) : Calls Tryz.prog 94 #[.int .i64 n] w fun e w' => e = .returned (.int .i64 ((n + 63) / 64)) ∧ w' = w := by
  go_enter Tryz.func94, Tryz.ntmps94
  go_wp2
  go_ret
  exact ⟨rInt (by omega), rfl⟩
set_option maxHeartbeats 1000000 in
theorem newMarks_at (n : Nat) (h1 : n ≤ 4294967296) (w : World) : Calls Tryz.prog 54 #[.int .i64 (n : Int)] w fun e w' => ∃ cs : Array Value, e = .returned (.slice (some ⟨w.heap.size, 0, none⟩) ((n + 63) / 64) ((n + 63) / 64)) ∧ cs.toList = wds (fun _ => false) ((n + 63) / 64) ∧ w' = w.alloc (.cells cs 122) := by
  obtain ⟨cs, hcs, hmk⟩ := make_is 84 122 (.int .u64 0) 8 Tryz.underlying84 infoU64 rfl ((n + 63) / 64) (by omega) (by omega)
  have HCS : Hid (cs.toList = wds (fun _ => false) ((n + 63) / 64)) := hcs.trans (zeros_wds _)
  have e1 : (((n + 63) / 64 : Nat) : Int) = ((n : Int) + 63) / 64 := by omega
  rw [e1] at hmk
  clear hcs
  go_enter Tryz.func54, Tryz.ntmps54
  go_wp2_with (go_at_call 94; refine (wordsOf_at _ (by omega) (by omega) _).mono ?_; rintro e w' ⟨rfl, rfl⟩)
  go_ret
  exact ⟨cs, rfl, HCS.out, rfl⟩
set_option maxHeartbeats 1000000 in
theorem newQueue_at (n : Nat) (h1 : n ≤ 4294967295) (w : World) : Calls Tryz.prog 102 #[.int .i64 (n : Int)] w fun e w' => ∃ cs : Array Value, e = .returned (.pointer (some ⟨w.heap.size + 1, 0, none⟩)) ∧ cs.toList = nums (fun _ => 0) (n + 1) ∧
    w' = (w.alloc (.cells cs 3)).alloc (.cells #[.int .i64 0, .slice (some ⟨w.heap.size, 0, none⟩) (n + 1) (n + 1)] 115) := by
  obtain ⟨cs, hcs, hmk⟩ := make_is 32 3 (.int .i64 0) 8 Tryz.underlying32 infoInt rfl (n + 1) (by omega) (by omega)
  have HCS : Hid (cs.toList = nums (fun _ => 0) (n + 1)) := hcs.trans (zeros_nums _)
  have e1 : ((n + 1 : Nat) : Int) = (n : Int) + 1 := by omega
  rw [e1] at hmk
  clear hcs
  go_enter Tryz.func102, Tryz.ntmps102
  go_wp2
  go_ret
  exact ⟨cs, rfl, HCS.out, rfl⟩
/-- What below tells. -/
def belowN (p : Int) : Nat := if p ≤ 0 then 0 else if p < 64 then 2 ^ p.toNat - 1 else 18446744073709551615
theorem belowN_is (k : Nat) (i : Nat) : belowN ((k : Int) - (i : Int) * 64) = Wd.wd (fun p => decide (p < k)) i := by
  unfold belowN
  by_cases h0 : (k : Int) - (i : Int) * 64 ≤ 0
  · rw [if_pos h0, ← Wd.wd_zero i]
    apply Wd.wd_congr
    intro j hj
    symm; rw [decide_eq_false_iff_not]; omega
  · rw [if_neg h0]
    by_cases h1 : (k : Int) - (i : Int) * 64 < 64
    · rw [if_pos h1, Wd.wd_below _ i (by omega)]
      apply Wd.wd_congr
      intro j hj
      rw [decide_eq_decide]; omega
    · rw [if_neg h1, Wd.wd_all i]
      apply Wd.wd_congr
      intro j hj
      symm; rw [decide_eq_true_eq]; omega
theorem belowN_shl (p : Int) (h : 0 ≤ p) : IntKind.u64.wrap (IntKind.u64.wrap (2 ^ min p.toNat 64) - 1) = ((belowN p : Nat) : Int) := by
  unfold belowN
  by_cases h0 : p ≤ 0
  · rw [if_pos h0]
    have : p.toNat = 0 := by omega
    rw [this]; rfl
  · rw [if_neg h0]
    by_cases h1 : p < 64
    · rw [if_pos h1, Nat.min_eq_left (by omega), wrap_pow _ (by omega), IntKind.wrap_u64]
      have h2 : 2 ^ p.toNat ≤ 2 ^ 63 := Nat.pow_le_pow_right (by omega) (by omega)
      have h3 := Nat.two_pow_pos p.toNat
      generalize 2 ^ p.toNat = y at *
      omega
    · rw [if_neg h1, Nat.min_eq_right (by omega)]; rfl
set_option maxHeartbeats 1000000 in
theorem below_at (p : Int) (h0 : -4294967296 ≤ p) (h1 : p ≤ 4294967296) (w : World) : Calls Tryz.prog 125 #[.int .i64 p] w fun e w' => e = .returned (.int .u64 (belowN p : Nat)) ∧ w' = w := by
  go_enter Tryz.func125, Tryz.ntmps125
  go_wp2
  · go_ret
    refine ⟨?_, rfl⟩
    have : belowN p = 0 := by unfold belowN; rw [if_pos (by omega)]
    rw [this]; rfl
  · go_ret
    refine ⟨?_, rfl⟩
    rw [belowN_shl p (by assumption)]; rfl
/-- A piece: places from one on up to another one that right has and left hasn't. -/
def pcSet (fr to : Nat) (L R : Nat → Bool) : Nat → Bool := fun p => R p && !L p && decide (p < to) && !decide (p < fr)
theorem pc_word (fr to i : Nat) (L R : Nat → Bool) : bits .andNot .u64 (bits .and .u64 (bits .andNot .u64 (Wd.wd R i : Nat) (Wd.wd L i : Nat)) (belowN ((to : Int) - (i : Int) * 64) : Nat)) (belowN ((fr : Int) - (i : Int) * 64) : Nat) = (Wd.wd (pcSet fr to L R) i : Nat) := by
  rw [belowN_is, belowN_is, u64_andNot_nat _ _ (Wd.wd_lt _ _) (Wd.wd_lt _ _), Wd.wd_andNot, u64_and_nat _ _ (Wd.wd_lt _ _) (Wd.wd_lt _ _), Wd.wd_and, u64_andNot_nat _ _ (Wd.wd_lt _ _) (Wd.wd_lt _ _), Wd.wd_andNot]
  rfl
set_option maxHeartbeats 2000000 in
theorem word_at (fr to lb lo lc rb ro rc i n : Nat) (L R : Int) (w : World) (hi : i < n) (hfr : fr ≤ 4294967296) (hto : to ≤ 4294967296) (hn : n ≤ 67108864)
    (hl : w.cell? ⟨lb, lo + i, none⟩ = some (.int .u64 L)) (hr : w.cell? ⟨rb, ro + i, none⟩ = some (.int .u64 R)) :
    Calls Tryz.prog 110 #[.agg #[.int .i64 (fr : Int), .int .i64 (to : Int), .slice (some ⟨lb, lo, none⟩) n lc, .slice (some ⟨rb, ro, none⟩) n rc], .int .i64 (i : Int)] w fun e w' =>
      e = .returned (.int .u64 (bits .andNot .u64 (bits .and .u64 (bits .andNot .u64 R L) (belowN ((to : Int) - (i : Int) * 64) : Nat)) (belowN ((fr : Int) - (i : Int) * 64) : Nat))) ∧ ∃ d, w' = (w.alloc (.cells #[.int .i64 (fr : Int), .int .i64 (to : Int), .slice (some ⟨lb, lo, none⟩) n lc, .slice (some ⟨rb, ro, none⟩) n rc] 126)).drewN d := by
  have hll := cell_lt hl
  have hrl := cell_lt hr
  go_enter Tryz.func110, Tryz.ntmps110
  go_wp2_with fail
  go_quiet ((go_at_call 125; exact Calls.quiet_of_same (below_at _ (by omega) (by omega) _)))
  go_wp2_with fail
  go_ret
  exact ⟨rfl, _, rfl⟩
end Go.Proofs.YtdlieecpckpemaaGreatDoor
