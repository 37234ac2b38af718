/- The document's Cells: all of an area's cells, one behind the other. -/
import Derived.Test.YthehdloofamadaaDoorAs
import Derived.Test.YthehdloofamadaaDoorGb
import Derived.OwnWalk
import Derived.Deep.RegionWith
import Derived.Carry
import Derived.Deep.QuietTactic
import Derived.Deep.Onto
namespace Go.Proofs.YthehdloofamadaaDoor
open Go.RowKit

theorem info_addr : (Tryd.prog.info? 23).map (fun i => (i.zero, i.size, i.bytes)) = some (some (.agg #[.int .i64 0, .int .i64 0]), 2, 16) := by kernel_rfl
theorem info_split {P : Program} {t : TypeId} {z : Option Value} {s b : Nat} (h : (P.info? t).map (fun i => (i.zero, i.size, i.bytes)) = some (z, s, b)) : ∃ i, P.info? t = some i ∧ i.zero = z ∧ i.size = s ∧ i.bytes = b := by
  cases hi : P.info? t with
  | none => rw [hi] at h; cases h
  | some i =>
    rw [hi] at h
    injection h with h
    injection h with h1 h2
    injection h2 with h2 h3
    exact ⟨i, rfl, h1, h2, h3⟩
theorem below_drewN {B : Nat} {a w : World} (h : Below B a w) (d : Nat) : Below B a (w.drewN d) := ⟨h.os, h.tape, h.output, h.size, h.block⟩

/-- The first k cells from (c, r) on, by rows of wd, as values. -/
def clV (c r : Int) (wd : Nat) (k : Nat) : List Value := (List.range k).flatMap (fun j => [.int .i64 (c + (j % wd : Nat)), .int .i64 (r + (j / wd : Nat))])
theorem clV_succ (c r : Int) (wd k : Nat) : clV c r wd (k + 1) = clV c r wd k ++ [.int .i64 (c + (k % wd : Nat)), .int .i64 (r + (k / wd : Nat))] := by
  unfold clV; rw [List.range_succ, List.flatMap_append]; simp
theorem clV_at (c r : Int) (wd x y : Nat) (hx : x < wd) : clV c r wd (y * wd + x + 1) = clV c r wd (y * wd + x) ++ [.int .i64 (c + x), .int .i64 (r + y)] := by
  rw [clV_succ]
  have h1 : (y * wd + x) % wd = x := by rw [Nat.mul_comm, Nat.mul_add_mod]; exact Nat.mod_eq_of_lt hx
  have h2 : (y * wd + x) / wd = y := by
    rw [Nat.mul_comm, Nat.mul_add_div (by omega), Nat.div_eq_of_lt hx, Nat.add_zero]
  rw [h1, h2]

set_option maxHeartbeats 4000000 in
set_option maxRecDepth 100000 in
theorem rCells_core (c r d s : Int) (V : Bool) (w : World) (wd ht : Nat)
    (H1 : Hid (∀ w, Calls Tryd.prog 24 #[.agg #[.int .i64 c, .int .i64 r, .int .i64 d, .int .i64 s]] w fun e w' => e = .returned (.bool V) ∧ w' = ((w.alloc (.cells #[.int .i64 c, .int .i64 r, .int .i64 d, .int .i64 s] 38)).alloc (.cells #[.int .i64 c, .int .i64 r] 23)).alloc (.cells #[.int .i64 d, .int .i64 s] 23)))
    (hb : V = true → 1 ≤ c ∧ c ≤ d ∧ d ≤ 256 ∧ 1 ≤ r ∧ r ≤ s ∧ s ≤ 4096 ∧ d = c + wd - 1 ∧ s = r + ht - 1) :
    Calls Tryd.prog 36 #[.agg #[.int .i64 c, .int .i64 r, .int .i64 d, .int .i64 s]] w fun e w' =>
      ∃ v, e = .returned v ∧ w'.ownsRow w.heap.size 23 2 v (if V then ht * wd else 0) (clV c r wd (if V then ht * wd else 0)) ∧ Below w.heap.size w w' := by
  have G0 : Hid (Below w.heap.size w ((((w.alloc (.cells #[.int .i64 c, .int .i64 r, .int .i64 d, .int .i64 s] 38)).alloc (.cells #[.int .i64 c, .int .i64 r, .int .i64 d, .int .i64 s] 38)).alloc (.cells #[.int .i64 c, .int .i64 r] 23)).alloc (.cells #[.int .i64 d, .int .i64 s] 23))) := by
    show Below _ _ _
    refine Below.alloc (Below.alloc (Below.alloc (Below.alloc (Below.refl _ _) ?_ _) ?_ _) ?_ _) ?_ _ <;> simp <;> omega
  cases V
  · clear hb
    go_enter Tryd.func36, Tryd.ntmps36
    go_wp2_with fail
    refine (H1.out _).mono ?_
    rintro e w' ⟨rfl, rfl⟩
    go_wp2_with fail
    go_ret
    exact ⟨_, rfl, World.ownsRow_nil _ _ _ _, G0.out⟩
  · obtain ⟨b1, b2, b3, b4, b5, b6, hd, hs⟩ := hb rfl
    have HD : Hid (d = c + wd - 1) := hd
    have HS : Hid (s = r + ht - 1) := hs
    have hwd : 0 < wd := by omega
    have hht : 0 < ht := by omega
    have hbig : Hid (ht * wd ≤ 1048576) := by
      show _ ≤ _
      have : ht * wd ≤ 4096 * 256 := Nat.mul_le_mul (by omega) (by omega)
      omega
    clear hb hd hs
    obtain ⟨i0, hi, hz0, hz1, hz2⟩ := info_split info_addr
    go_enter Tryd.func36, Tryd.ntmps36
    go_wp2_with fail
    refine (H1.out _).mono ?_
    rintro e w' ⟨rfl, rfl⟩
    generalize hw2 : ((((w.alloc (.cells #[.int .i64 c, .int .i64 r, .int .i64 d, .int .i64 s] 38)).alloc (.cells #[.int .i64 c, .int .i64 r, .int .i64 d, .int .i64 s] 38)).alloc (.cells #[.int .i64 c, .int .i64 r] 23)).alloc (.cells #[.int .i64 d, .int .i64 s] 23)) = W0 at *
    have A0 : Hid (Has4 W0 w.heap.size (.int .i64 c) (.int .i64 r) (.int .i64 d) (.int .i64 s)) := by
      show Has4 _ _ _ _ _ _
      rw [← hw2]
      exact (has4_new w _ _ _ _ _).gr ((((Gr.refl _).alloc _ _).alloc _ _).alloc _ _)
    have hbw : Hid (w.heap.size < W0.heap.size) := cell_lt A0.out.c0
    clear hw2
    obtain ⟨a0, a1, a2, a3, _, _, _, _⟩ := A0.out
    go_wp2_with fail
    clear a0 a1 a2 a3
    go_loopw [4, 5, 6] (fun v sr sc wr => ∃ y : Nat, y ≤ ht ∧ sr = .int .i64 (r + y) ∧ wr.ownsRow W0.heap.size 23 2 v (y * wd) (clV c r wd (y * wd)) ∧ Below W0.heap.size W0 wr) (fun _ sr _ _ => (s + 1 - intOf sr).toNat)
    case atStart => exact ⟨0, Nat.zero_le _, by simp, by simpa [clV] using World.ownsRow_nil _ _ _ _, Below.refl _ _⟩
    case round =>
      as_aux_lemma =>
      obtain ⟨y, hy, rfl, hown0, hnx0⟩ := hrel
      have HOWN : Hid (wr.ownsRow W0.heap.size 23 2 _ (y * wd) (clV c r wd (y * wd))) := hown0
      have HNX : Hid (Below W0.heap.size W0 wr) := hnx0
      clear hown0 hnx0
      have c0 : wr.cell? ⟨w.heap.size, 0, none⟩ = some (.int .i64 c) := (HNX.out.cell (by exact hbw.out)).trans A0.out.c0
      have c3 : wr.cell? ⟨w.heap.size, 3, none⟩ = some (.int .i64 s) := (HNX.out.cell (by exact hbw.out)).trans A0.out.c3
      by_cases hlt : y < ht
      · have hys : r + (y : Int) ≤ s := by have := HS.out; omega
        go_wp2_with fail
        clear c0 c3
        go_loopw [4, 6] (fun v sc wq => ∃ x : Nat, x ≤ wd ∧ sc = .int .i64 (c + x) ∧ wq.ownsRow W0.heap.size 23 2 v (y * wd + x) (clV c r wd (y * wd + x)) ∧ Below W0.heap.size W0 wq) (fun _ sc _ => (d + 1 - intOf sc).toNat)
        case atStart => exact ⟨0, Nat.zero_le _, by simp, by simpa using HOWN.out, HNX.out⟩
        case round =>
          as_aux_lemma =>
          clear HOWN HNX
          obtain ⟨x, hx, rfl, hown0, hnx0⟩ := hrel
          have HOWN : Hid (wr.ownsRow W0.heap.size 23 2 _ (y * wd + x) (clV c r wd (y * wd + x))) := hown0
          have HNX : Hid (Below W0.heap.size W0 wr) := hnx0
          have hsz : W0.heap.size ≤ wr.heap.size := hnx0.size
          clear hown0 hnx0
          have c2 : wr.cell? ⟨w.heap.size, 2, none⟩ = some (.int .i64 d) := (HNX.out.cell (by exact hbw.out)).trans A0.out.c2
          by_cases hlx : x < wd
          · have hxs : c + (x : Int) ≤ d := by have := HD.out; omega
            have hkm : Hid (y * wd + x + 1 ≤ 1048576) := by
              show _ ≤ _
              have h1 := hbig.out
              have h2 : (y + 1) * wd ≤ ht * wd := Nat.mul_le_mul_right _ hlt
              rw [Nat.add_mul, Nat.one_mul] at h2
              omega
            go_wp2_with (at_builtin; refine wpList_append_own _ rfl (.tmp 31) (.tmp 35) 51 rfl W0.heap.size 23 i0 (.agg #[.int .i64 0, .int .i64 0]) 2 16 Tryd.underlying51 hi hz0 hz1 hz2 rfl (by decide) _ _ _ rfl (HOWN.out.alloc _) ⟨wr.heap.size, 0, none⟩ 1 1 [.int .i64 (c + x), .int .i64 (r + y)] rfl rfl ?c1 ?c2 ?c3 ?c4 ?c5 ?_)
            case c1 =>
              intro j u hj
              match j, hj with
              | 0, hj => simp at hj; subst hj; simp [Addr.add]
              | 1, hj => simp at hj; subst hj; simp [Addr.add]
            case c2 => intro u hu; simp at hu; rcases hu with rfl | rfl <;> rfl
            case c3 => have := hkm.out; unfold maxLen; omega
            case c4 => have := hkm.out; omega
            case c5 => simp; omega
            · intro v' w1 hown' hgrow _
              have HOWN2 : Hid (w1.ownsRow W0.heap.size 23 2 v' (y * wd + (x + 1)) (clV c r wd (y * wd + (x + 1)))) := by
                show World.ownsRow _ _ _ _ _ _ _
                rw [← Nat.add_assoc, clV_at c r wd x y hlx]; exact hown'
              have HNX2 : Hid (Below W0.heap.size W0 w1) := (HNX.out.alloc hsz _).grown hgrow (by simp; omega) (fun q hq => (HOWN.out.lt q hq).1)
              clear hown' hgrow c2
              go_wp2_with fail
              go_roundw
              case rel => exact ⟨x + 1, by omega, by go_num, HOWN2.out, HNX2.out⟩
              case measure => simp only [intOf]; omega
          · have hxe : x = wd := by omega
            subst hxe
            have hxs : d < c + (x : Int) := by have := HD.out; omega
            go_wp2_with fail
            go_roundw
            case rel => exact ⟨y + 1, by omega, by go_num, by rw [Nat.add_mul, Nat.one_mul]; exact HOWN.out, HNX.out⟩
            case measure => simp only [intOf]; omega
      · have hye : y = ht := by omega
        subst hye
        have hys : s < r + (y : Int) := by have := HS.out; omega
        go_wp2_with fail
        go_ret
        refine ⟨_, rfl, ?_, ?_⟩
        · exact HOWN.out.mono (Nat.le_of_lt hbw.out)
        · exact G0.out.trans (HNX.out.mono (Nat.le_of_lt hbw.out))
/-- How many cells an area has. -/
def nA (c r d s : Int) : Nat := if vA c r d s then (s - r + 1).toNat * (d - c + 1).toNat else 0
theorem rCells_any (c r d s : Int) (w : World) :
    Calls Tryd.prog 36 #[.agg #[.int .i64 c, .int .i64 r, .int .i64 d, .int .i64 s]] w fun e w' =>
      ∃ v, e = .returned v ∧ w'.ownsRow w.heap.size 23 2 v (nA c r d s) (clV c r (d - c + 1).toNat (nA c r d s)) ∧ Below w.heap.size w w' :=
  rCells_core c r d s (vA c r d s) w (d - c + 1).toNat (s - r + 1).toNat (rValidArea_at c r d s) (fun h => by
    have := (vA_iff c r d s).1 h
    omega)
theorem nA_size (c r d s : Int) : ((nA c r d s : Nat) : Int) = sizeA c r d s := by
  unfold nA sizeA
  by_cases h : vA c r d s = true
  · have := (vA_iff c r d s).1 h
    rw [if_pos h, if_pos h, Int.natCast_mul, Int.toNat_of_nonneg (by omega), Int.toNat_of_nonneg (by omega), Int.mul_comm]
  · rw [if_neg h, if_neg h]; rfl
end Go.Proofs.YthehdloofamadaaDoor
