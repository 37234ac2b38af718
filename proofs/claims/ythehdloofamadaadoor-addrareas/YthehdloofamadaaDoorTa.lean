/- A closure that tells an area's cells by two loops (the stand-in's): it keeps CellsSeq. -/
import Derived.Test.YthehdloofamadaaDoorLc
namespace Go.Proofs.YthehdloofamadaaDoor
open Go.RowKit Go.Shelf
attribute [local go_sem] Oper.semAt_some

def upC (c r d : Int) (k : Nat) : List (Int × Int) := (List.range k).map (clA c r d)
theorem upC_succ (c r d : Int) (k : Nat) : upC c r d (k + 1) = upC c r d k ++ [clA c r d k] := by unfold upC; rw [List.range_succ, List.map_append]; rfl
theorem upC_len (c r d : Int) (k : Nat) : (upC c r d k).length = k := by unfold upC; simp
theorem upC_pre (c r d s : Int) (k : Nat) (h : k ≤ nA c r d s) : upC c r d k <+: clL c r d s := by
  refine ⟨((List.range (nA c r d s)).drop k).map (clA c r d), ?_⟩
  unfold upC clL
  rw [← List.map_append]
  congr 1
  conv => rhs; rw [← List.take_append_drop k (List.range (nA c r d s))]
  rw [List.take_range, Nat.min_eq_left h]
theorem clA_at (c r d : Int) (wd x y : Nat) (hw : (d - c + 1).toNat = wd) (hx : x < wd) : clA c r d (y * wd + x) = (c + x, r + y) := by
  unfold clA
  rw [hw]
  have h1 : (y * wd + x) % wd = x := by rw [Nat.mul_comm, Nat.mul_add_mod]; exact Nat.mod_eq_of_lt hx
  have h2 : (y * wd + x) / wd = y := by
    rw [Nat.mul_comm, Nat.mul_add_div (by omega), Nat.div_eq_of_lt hx, Nat.add_zero]
  rw [h1, h2]
theorem grown_below {W W' : World} (h : Below W.heap.size W W') : W.grownBy W' none := ⟨h.os, h.tape, h.output, h.size, fun k hk _ => h.block k hk⟩

set_option maxRecDepth 100000 in
set_option maxHeartbeats 8000000 in
theorem two_loops (n : Nat) (hn : 1 ≤ n) (l Bn n₀ : Nat) (c r d s : Int) (J Jx : List (Int × Int) → World → Prop) (W : World) (hBn : Bn < n₀) (hJ : AbidesFrom W.heap.size J)
    (H1 : Hid (∀ w, Calls Tryd.prog 23 #[.agg #[.int .i64 c, .int .i64 r, .int .i64 d, .int .i64 s]] w fun e w' => e = .returned (.bool (vA c r d s)) ∧ Below w.heap.size w w'))
    (hY : ∀ pre x W1, J pre W1 → pre.length < nA c r d s → YieldAt Fence.wide (n - 1) Tryd.prog l (encC x) W1 fun e W' =>
      (e = .returned (.bool true) ∧ J (pre ++ [x]) W' ∧ Below n₀ W1 W') ∨ (e = .returned (.bool false) ∧ Jx (pre ++ [x]) W'))
    (hA : Has4 W Bn (.int .i64 c) (.int .i64 r) (.int .i64 d) (.int .i64 s)) (h0 : J [] W) :
    CallsIn Fence.wide n Tryd.prog 52 #[.func (.yield l) #[] #[], .pointer (some ⟨Bn, 0, none⟩)] W fun e W' => (∃ v, e = .returned v) ∧
      ((∃ xs, xs = clL c r d s ∧ J xs W') ∨ (∃ pre, pre <+: clL c r d s ∧ Jx pre W')) := by
  refine callsIn_of_wp Tryd.func52 rfl trivial ?_ rfl
  simp only [Tryd.ntmps52, List.size_toArray, List.length_cons, List.length_nil, Nat.reduceAdd, Nat.reduceSub, Array.replicate_succ, Array.replicate_zero, List.push_toArray, List.append_toArray, List.nil_append, List.cons_append]
  have HA : Hid (Has4 W Bn (.int .i64 c) (.int .i64 r) (.int .i64 d) (.int .i64 s)) := hA
  have HJ0 : Hid (J [] W) := h0
  have HJA : Hid (AbidesFrom W.heap.size J) := hJ
  obtain ⟨a0, a1, a2, a3, _, _, _, _⟩ := hA
  have hv := vA_iff c r d s
  have hN : Hid (nA c r d s = if vA c r d s then (s - r + 1).toNat * (d - c + 1).toNat else 0) := rfl
  clear h0 hJ
  gi_wp2_with (fail)
  refine ⟨trivial, (callsIn_wide.2 (H1.out _)).mono ?_⟩
  rintro e W1 ⟨rfl, hb⟩
  have J1 : Hid (J [] W1) := HJA.out [] W W1 none HJ0.out (grown_below hb) (fun r e => by cases e)
  have A1 : Hid (Has4 W1 Bn (.int .i64 c) (.int .i64 r) (.int .i64 d) (.int .i64 s)) := HA.out.bel hb
  clear hb a0 a1 a2 a3 HJ0 HJA H1
  generalize hV : vA c r d s = V at *
  cases V
  · have hz : clL c r d s = [] := by unfold clL; rw [hN.out]; rfl
    gi_wp2_with (fail)
    refine bodyPost_ret (results_none rfl _ _ _) rfl ?_
    exact ⟨⟨_, rfl⟩, .inl ⟨[], hz.symm, J1.out⟩⟩
  · have b := hv.1 rfl
    obtain ⟨b1, b2, b3, b4, b5, b6⟩ := b
    obtain ⟨wd, hwd⟩ : ∃ wd, (d - c + 1).toNat = wd := ⟨_, rfl⟩
    obtain ⟨ht, hht⟩ : ∃ ht, (s - r + 1).toNat = ht := ⟨_, rfl⟩
    have HD : Hid (d = c + wd - 1) := by show _ = _; omega
    have HS : Hid (s = r + ht - 1) := by show _ = _; omega
    have HW : Hid ((d - c + 1).toNat = wd) := hwd
    have HN : Hid (nA c r d s = ht * wd) := by show _ = _; rw [hN.out, if_pos rfl, hwd, hht]
    clear hv hN hwd hht hV
    obtain ⟨a0, a1, a2, a3, _, _, _, _⟩ := A1.out
    gi_wp2_with (fail)
    clear a0 a1 a2 a3
    gi_loopw [3, 4] (fun sr sc wr => ∃ y : Nat, y ≤ ht ∧ sr = .int .i64 (r + y) ∧ J (upC c r d (y * wd)) wr ∧ Below n₀ W1 wr) (fun sr _ _ => (s + 1 - intOf sr).toNat)
    case atStart => exact ⟨0, Nat.zero_le _, by simp, by simpa [upC] using J1.out, Below.refl _ _⟩
    case round =>
      obtain ⟨y, hy, rfl, hJs, hnx⟩ := hrel
      have JS : Hid (J (upC c r d (y * wd)) wr) := hJs
      have NX : Hid (Below n₀ W1 wr) := hnx
      clear hJs hnx
      have c0 : wr.cell? ⟨Bn, 0, none⟩ = some (.int .i64 c) := (NX.out.cell (by exact hBn)).trans A1.out.c0
      have c3 : wr.cell? ⟨Bn, 3, none⟩ = some (.int .i64 s) := (NX.out.cell (by exact hBn)).trans A1.out.c3
      by_cases hlt : y < ht
      · have hys : r + (y : Int) ≤ s := by have := HS.out; omega
        gi_wp2_with (fail)
        clear c0 c3
        gi_loopw [4] (fun sc wq => ∃ x : Nat, x ≤ wd ∧ sc = .int .i64 (c + x) ∧ J (upC c r d (y * wd + x)) wq ∧ Below n₀ W1 wq) (fun sc _ => (d + 1 - intOf sc).toNat)
        case atStart => exact ⟨0, Nat.zero_le _, by simp, JS.out, NX.out⟩
        case round =>
          clear JS NX
          obtain ⟨x, hx, rfl, hJs, hnx⟩ := hrel
          have NX : Hid (Below n₀ W1 wr) := hnx
          have JS : Hid (J (upC c r d (y * wd + x)) wr) := hJs
          clear hJs hnx
          have c2 : wr.cell? ⟨Bn, 2, none⟩ = some (.int .i64 d) := (NX.out.cell (by exact hBn)).trans A1.out.c2
          by_cases hlx : x < wd
          · have hxs : c + (x : Int) ≤ d := by have := HD.out; omega
            have hkm : y * wd + x < nA c r d s := by
              rw [HN.out]
              have h2 : (y + 1) * wd ≤ ht * wd := Nat.mul_le_mul_right _ hlt
              rw [Nat.add_mul, Nat.one_mul] at h2
              omega
            have HKM : Hid (y * wd + x < nA c r d s) := hkm
            obtain ⟨fn, tmps, assign, body, hy', hR⟩ := hY _ (c + x, r + y) wr JS.out (by rw [upC_len]; exact hkm)
            clear hkm
            dsimp only [encC] at hy'
            gi_wp2_with (fail)
            refine hR.mono ?_
            rintro e W3 (⟨rfl, hJ3, hk3⟩ | ⟨rfl, hJx3⟩)
            · have J3 : Hid (J (upC c r d (y * wd + (x + 1))) W3) := by show J _ _; rw [← Nat.add_assoc, upC_succ, clA_at c r d wd x y HW.out hlx]; exact hJ3
              have K3 : Hid (Below n₀ W1 W3) := NX.out.trans hk3
              clear hJ3 hk3
              gi_wp2_with (fail)
              go_roundw
              case rel => exact ⟨x + 1, by omega, by go_num, J3.out, K3.out⟩
              case measure => simp only [intOf]; omega
            · have JX : Hid (Jx (upC c r d (y * wd + x + 1)) W3) := by show Jx _ _; rw [upC_succ, clA_at c r d wd x y HW.out hlx]; exact hJx3
              clear hJx3
              gi_wp2_with (fail)
              refine bodyPost_ret (results_none rfl _ _ _) rfl ?_
              exact ⟨⟨_, rfl⟩, .inr ⟨_, upC_pre c r d s _ HKM.out, JX.out⟩⟩
          · have hxe : x = wd := by omega
            subst hxe
            have hxs : d < c + (x : Int) := by have := HD.out; omega
            gi_wp2_with (fail)
            go_roundw
            case rel => exact ⟨y + 1, by omega, by go_num, by rw [Nat.add_mul, Nat.one_mul]; exact JS.out, NX.out⟩
            case measure => simp only [intOf]; omega
      · have hye : y = ht := by omega
        subst hye
        have hys : s < r + (y : Int) := by have := HS.out; omega
        have hall : upC c r d (y * wd) = clL c r d s := by unfold upC clL; rw [HN.out]
        gi_wp2_with (fail)
        go_end0
        exact ⟨⟨_, rfl⟩, .inl ⟨_, hall, JS.out⟩⟩
end Go.Proofs.YthehdloofamadaaDoor
