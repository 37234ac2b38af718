/- The queue: add. -/
import Derived.Test.YtdlieecpckpemaaGreatDoorLcYk
import Derived.Test.YtdlieecpckpemaaGreatDoorLcFw
import Derived.Laws.BitsAllLaws
import Derived.LoopTactic
namespace Go.Proofs.YtdlieecpckpemaaGreatDoor
open Go.RowKit

theorem nat_low (j k : Nat) (h : (2 * k + 1) * 2 ^ j < 2 ^ 63) : ((2 * k + 1) * 2 ^ j) &&& (2 ^ 64 - (2 * k + 1) * 2 ^ j) = 2 ^ j := by
  have hj : 0 < 2 ^ j := Nat.two_pow_pos j
  have e1 : (2 * k + 1) * 2 ^ j = 2 ^ j * (2 * k + 1) + 0 := by rw [Nat.mul_comm]; rfl
  have e2 : (2 * k + 1) * 2 ^ j - 1 = 2 ^ j * (2 * k) + (2 ^ j - 1) := by
    have : (2 * k + 1) * 2 ^ j = 2 ^ j * (2 * k) + 2 ^ j := by rw [Nat.add_mul, Nat.one_mul, Nat.mul_comm]
    omega
  have h0 : 0 < (2 * k + 1) * 2 ^ j := Nat.mul_pos (by omega) hj
  apply Nat.eq_of_testBit_eq
  intro t
  rw [Nat.testBit_and, Nat.testBit_two_pow]
  have e3 : 2 ^ 64 - (2 * k + 1) * 2 ^ j = 2 ^ 64 - (((2 * k + 1) * 2 ^ j - 1) + 1) := by omega
  rw [e3, Nat.testBit_two_pow_sub_succ (by omega), e2, Nat.testBit_two_pow_mul_add _ (by omega), e1, Nat.testBit_two_pow_mul_add _ (by omega)]
  have hj64 : j < 64 := by
    rcases Nat.lt_or_ge j 64 with h' | h'
    · exact h'
    · have h1 : 2 ^ 64 ≤ 2 ^ j := Nat.pow_le_pow_right (by omega) h'
      have h2 : 2 ^ j ≤ (2 * k + 1) * 2 ^ j := Nat.le_mul_of_pos_left _ (by omega)
      omega
  rcases Nat.lt_trichotomy t j with h1 | h1 | h1
  · rw [if_pos h1, if_pos h1]
    simp; omega
  · subst h1
    rw [if_neg (by omega), if_neg (by omega), Nat.sub_self]
    simp [hj64]
  · rw [if_neg (by omega), if_neg (by omega)]
    obtain ⟨u, hu⟩ : ∃ u, t - j = u + 1 := ⟨t - j - 1, by omega⟩
    rw [hu, Nat.testBit_succ, Nat.testBit_succ]
    have a1 : (2 * k + 1) / 2 = k := by omega
    have a2 : 2 * k / 2 = k := by omega
    rw [a1, a2]
    have : decide (j = t) = false := by simp; omega
    rw [this]
    cases k.testBit u <;> simp
theorem and_neg (i : Nat) (h0 : 0 < i) (h : i < 9223372036854775808) : bits .and .i64 (i : Int) (-(i : Int)) = (Fw.lb i : Nat) := by
  obtain ⟨j, k, e1, e2⟩ := Fw.lb_form i h0
  have h1 : i &&& (2 ^ 64 - i) = Fw.lb i := by
    rw [e2]
    have := nat_low j k (by rw [← e1]; exact h)
    rw [← e1] at this
    exact this
  have h2 := Fw.lb_le i
  show IntKind.i64.wrap ((BitVec.ofInt 64 (i : Int) &&& BitVec.ofInt 64 (-(i : Int))).toNat : Int) = _
  have e3 : (BitVec.ofInt 64 (-(i : Int))).toNat = 2 ^ 64 - i := by
    rw [BitVec.toNat_ofInt]
    have : (-(i : Int)) % ((2 ^ 64 : Nat) : Int) = ((2 ^ 64 - i : Nat) : Int) := by omega
    rw [this]; exact Int.toNat_natCast _
  rw [BitVec.toNat_and, ofInt_u64 i (by omega), e3, h1]
  simp only [IntKind.wrap, IntKind.bits, IntKind.signed]
  simp
  omega
/-- Numbers, as cells. -/
def nums (s : Nat → Int) (n : Nat) : List Value := (List.range n).map fun i => .int .i64 (s i)
theorem nums_get {s : Nat → Int} {n i : Nat} (h : i < n) : (nums s n)[i]? = some (.int .i64 (s i)) := by
  unfold nums; rw [List.getElem?_map, List.getElem?_range h]; rfl
theorem nums_length (s : Nat → Int) (n : Nat) : (nums s n).length = n := by simp [nums]
theorem nums_set {s t : Nat → Int} {n i : Nat} (v : Int) (hv : i < n → v = t i) (h : ∀ j, j < n → j ≠ i → s j = t j) : (nums s n).set i (.int .i64 v) = nums t n := by
  apply List.ext_getElem?
  intro j
  by_cases hj : j < n
  · rw [nums_get hj]
    by_cases e : i = j
    · subst e; rw [List.getElem?_set_self (by rw [nums_length]; exact hj), hv hj]
    · rw [List.getElem?_set_ne e, nums_get hj, h j hj (Ne.symm e)]
  · rw [List.getElem?_eq_none (by simp [nums]; omega), List.getElem?_eq_none (by simp [nums]; omega)]
/-- The counts that have the place and stand ahead of i, by d more. -/
def addTo (s : Nat → Int) (p : Nat) (d : Int) (i : Nat) : Nat → Int := fun j => if j < i ∧ (j - Fw.lb j ≤ p ∧ p < j) then s j + d else s j
theorem addTo_first (s : Nat → Int) (p : Nat) (d : Int) : addTo s p d (p + 1) = s := by
  funext j; unfold addTo; rw [if_neg (by omega)]
theorem addTo_next (s : Nat → Int) (p : Nat) (d : Int) (i n : Nat) (h : Fw.cov p i) : (nums (addTo s p d i) n).set i (.int .i64 (s i + d)) = nums (addTo s p d (i + Fw.lb i)) n := by
  have hl := Fw.lb_pos (i := i) (by unfold Fw.cov at h; omega)
  apply nums_set
  · intro _
    unfold addTo
    unfold Fw.cov at h
    rw [if_pos (by omega)]
  · intro j _ hj
    unfold addTo
    by_cases hc : Fw.cov p j
    · have hb : j < i ∨ i + Fw.lb i ≤ j := by
        rcases Nat.lt_or_ge j i with h1 | h1
        · exact .inl h1
        · rcases Nat.lt_or_ge j (i + Fw.lb i) with h2 | h2
          · exact absurd hc (Fw.cov_gap h (by omega) h2)
          · exact .inr h2
      unfold Fw.cov at hc
      rcases hb with hb | hb
      · rw [if_pos (by omega), if_pos (by omega)]
      · rw [if_neg (by omega), if_neg (by omega)]
    · unfold Fw.cov at hc
      rw [if_neg (by omega), if_neg (by omega)]

set_option maxHeartbeats 1000000 in
theorem add_at (q sb n c p : Nat) (s : Nat → Int) (z d : Int) (w : World) (hq : Blk w q [.int .i64 z, .slice (some ⟨sb, 0, none⟩) n c] 115) (hs : Blk w sb (nums s n) 3)
    (hn : n ≤ 4294967296) (hp : p + 1 < n) (hz0 : -4294967296 ≤ z) (hz1 : z ≤ 4294967296) (hd0 : -1 ≤ d) (hd1 : d ≤ 1) (hs0 : ∀ j, -4294967296 ≤ s j) (hs1 : ∀ j, s j ≤ 4294967296) :
    Calls Tryz.prog 105 #[.pointer (some ⟨q, 0, none⟩), .int .i64 (p : Int), .int .i64 d] w fun e w' => e = .returned (.tuple #[]) ∧
      Blk w' q [.int .i64 (z + d), .slice (some ⟨sb, 0, none⟩) n c] 115 ∧ Blk w' sb (nums (addTo s p d n) n) 3 ∧ Kp w w' (fun i => i = q ∨ i = sb) := by
  have hne : q ≠ sb := hq.ne hs (by decide)
  have c0 : w.cell? ⟨q, 0, none⟩ = some (.int .i64 z) := hq.cell rfl
  have f0 : w.frozen? ⟨q, 0, none⟩ = false := hq.froz 0
  have c1 : w.cell? ⟨q, 1, none⟩ = some (.slice (some ⟨sb, 0, none⟩) n c) := hq.cell rfl
  have HQ : Hid (Blk (w.setCell ⟨q, 0, none⟩ (.int .i64 (z + d))) q [.int .i64 (z + d), .slice (some ⟨sb, 0, none⟩) n c] 115) := hq.set 0 _
  have HS : Hid (Blk (w.setCell ⟨q, 0, none⟩ (.int .i64 (z + d))) sb (nums (addTo s p d (p + 1)) n) 3) := by show Blk _ _ _ _; rw [addTo_first]; exact hs.other _ _ (Ne.symm hne)
  have HK : Hid (Kp w (w.setCell ⟨q, 0, none⟩ (.int .i64 (z + d))) (fun i => i = q ∨ i = sb)) := (Kp.refl w _).setCell _ _ (.inr (.inl rfl))
  clear hq hs
  go_enter Tryz.func105, Tryz.ntmps105
  go_wp2
  go_loopw [6] (fun i wr => ∃ k : Nat, i = .int .i64 (k : Int) ∧ k ≤ 2 * n ∧ Fw.cov p k ∧ Blk wr q [.int .i64 (z + d), .slice (some ⟨sb, 0, none⟩) n c] 115 ∧ Blk wr sb (nums (addTo s p d k) n) 3 ∧ Kp w wr (fun i => i = q ∨ i = sb)) (fun i _ => 2 * n - (intOf i).toNat)
  case atStart => exact ⟨p + 1, by go_num, by omega, Fw.cov_first p, HQ.out, HS.out, HK.out⟩
  case round =>
    obtain ⟨k, rfl, hk, hcov, bq, bs, kp⟩ := hrel
    have HC : Hid (Fw.cov p k) := hcov
    have HBQ : Hid (Blk wr q [.int .i64 (z + d), .slice (some ⟨sb, 0, none⟩) n c] 115) := bq
    have HBS : Hid (Blk wr sb (nums (addTo s p d k) n) 3) := bs
    have HKP : Hid (Kp w wr (fun i => i = q ∨ i = sb)) := kp
    have r1 : wr.cell? ⟨q, 1, none⟩ = some (.slice (some ⟨sb, 0, none⟩) n c) := bq.cell rfl
    clear hcov bq bs kp HQ HS HK c0 c1 f0
    by_cases hlt : k < n
    · have k0 : 0 < k := by have := HC.out; unfold Fw.cov at this; omega
      have hl := Fw.lb_le k
      have hl0 := Fw.lb_pos k0
      have ha := and_neg k k0 (by omega)
      have hsk0 := hs0 k
      have hsk1 := hs1 k
      have r2 : wr.cell? ⟨sb, k, none⟩ = some (.int .i64 (s k)) := HBS.out.cell (by rw [nums_get hlt]; unfold addTo; rw [if_neg (by omega)])
      have r3 : wr.frozen? ⟨sb, k, none⟩ = false := HBS.out.froz k
      have HBQ' : Hid (Blk (wr.setCell ⟨sb, k, none⟩ (.int .i64 (s k + d))) q [.int .i64 (z + d), .slice (some ⟨sb, 0, none⟩) n c] 115) := HBQ.out.other _ _ hne
      have HBS' : Hid (Blk (wr.setCell ⟨sb, k, none⟩ (.int .i64 (s k + d))) sb (nums (addTo s p d (k + Fw.lb k)) n) 3) := by
        show Blk _ _ _ _
        rw [← addTo_next s p d k n HC.out]; exact HBS.out.set k _
      have HKP' : Hid (Kp w (wr.setCell ⟨sb, k, none⟩ (.int .i64 (s k + d))) (fun i => i = q ∨ i = sb)) := HKP.out.setCell _ _ (.inr (.inr rfl))
      have HC' : Hid (Fw.cov p (k + Fw.lb k)) := Fw.cov_next HC.out
      clear HBQ HBS HKP HC
      generalize Fw.lb k = l at *
      generalize s k = x at *
      go_wp2
      go_roundw
      case rel => exact ⟨k + l, by go_num, by omega, HC'.out, HBQ'.out, HBS'.out, HKP'.out⟩
      case measure => simp [intOf]; omega
    · go_wp2
      go_end0
      refine ⟨rfl, HBQ.out, ?_, HKP.out⟩
      have : nums (addTo s p d k) n = nums (addTo s p d n) n := by
        unfold nums
        apply List.map_congr_left
        intro j hj
        have hj' : j < n := by simpa using hj
        have e : (j < k ∧ (j - Fw.lb j ≤ p ∧ p < j)) = (j < n ∧ (j - Fw.lb j ≤ p ∧ p < j)) := by rw [eq_iff_iff]; omega
        simp only [addTo, e]
      rw [← this]; exact HBS.out
end Go.Proofs.YtdlieecpckpemaaGreatDoor
