/- Sum: what it is, the document's and the program's; SingleSums: its walk. -/
import Derived.Test.YtckjmcfncfoboaaDoorRq
import Derived.OwnWalk
import Derived.Deep.RegionWith
import Derived.Carry
import Derived.Deep.QuietTactic
import Derived.BigQuiet
namespace Go.Proofs.YtckjmcfncfoboaaDoor
open Go.RowKit
open Ieee

/-- The sum of the first k, from the first one on. -/
def su (f : Nat → Nat) : Nat → Nat
  | 0 => 0
  | 1 => one32 (f 0)
  | k + 2 => ad32 (su f (k + 1)) (f (k + 1))
theorem one32_lt (b : Nat) (h : b < 4294967296) : one32 b < 4294967296 := by unfold one32; split <;> omega
theorem su_lt (f : Nat → Nat) (n : Nat) (h : ∀ j, j < n → f j < 4294967296) : su f n < 4294967296 := by
  induction n with
  | zero => exact (by decide : 0 < 4294967296)
  | succ n ih =>
    cases n with
    | zero => exact one32_lt _ (h 0 (by omega))
    | succ n => exact (ad32_one _ _ (ih (fun j hj => h j (by omega))) (h (n + 1) (by omega))).1
theorem su_step (f : Nat → Nat) (k : Nat) (h : 0 < k) : su f (k + 1) = ad32 (su f k) (f k) := by
  cases k with
  | zero => omega
  | succ k => rfl

set_option maxHeartbeats 1000000 in
theorem rsum_core (b o n cap : Nat) (f : Nat → Nat) (S : Nat → Nat) (hn0 : 0 < n) (hn1 : n * 4 ≤ 140737488351232) (w : World) (hd : Hid (Dg w b o n f))
    (H1 : Hid (∀ w, Calls Tryd.prog 13 #[.int .u32 (f 0 : Nat)] w fun e w' => e = .returned (.int .u32 (S 1 : Nat)) ∧ w' = w))
    (HA : Hid (∀ k, 0 < k → k < n → ∀ w, Calls Tryd.prog 24 #[.int .u32 (S k : Nat), .int .u32 (f k : Nat)] w fun e w' => e = .returned (.int .u32 (S (k + 1) : Nat)) ∧ Gr w w')) :
    Calls Tryd.prog 28 #[.slice (some ⟨b, o, none⟩) n cap] w fun e w' => e = .returned (.int .u32 (S n : Nat)) ∧ Gr w w' := by
  have c0 : w.cell? ⟨b, o, none⟩ = some (.int .u32 (f 0 : Nat)) := (hd.out 0 hn0).1
  have hne : ((n : Int) == 0) = false := by rw [beq_eq_false_iff_ne]; omega
  go_enter Tryd.func28, Tryd.ntmps28
  go_wp2_with (go_at_call 13; refine (H1.out _).mono ?_; rintro e w' ⟨rfl, rfl⟩)
  go_loopw [3, 4] (fun s i wr => ∃ k : Nat, 0 < k ∧ k ≤ n ∧ s = .int .u32 (S k : Nat) ∧ i = .int .i64 k ∧ Gr w' wr) (fun _ i _ => n - (intOf i).toNat)
  case atStart => exact ⟨1, by omega, by omega, rfl, rfl, Gr.refl _⟩
  case round =>
    obtain ⟨k, hk0, hk, rfl, rfl, hg⟩ := hrel
    have HG : Hid (Gr w' wr) := hg
    clear hg
    by_cases hlt : k < n
    · have c1 : wr.cell? ⟨b, o + k, none⟩ = some (.int .u32 (f k : Nat)) := ((hd.out.gr HG.out) k hlt).1
      have HB : Hid (∀ w, Calls Tryd.prog 24 #[.int .u32 (S k : Nat), .int .u32 (f k : Nat)] w fun e w' => e = .returned (.int .u32 (S (k + 1) : Nat)) ∧ Gr w w') := HA.out k hk0 hlt
      go_wp2_with fail
      refine (HB.out _).mono ?_
      rintro e w2 ⟨rfl, hg2⟩
      have G2 : Hid (Gr w' w2) := HG.out.trans hg2
      clear hg2 c1
      go_wp2
      go_roundw
      case rel => exact ⟨k + 1, by omega, by omega, rfl, by go_num, G2.out⟩
      case measure => simp [intOf]; omega
    · have hkn : n = k := by omega
      subst hkn
      go_wp2
      go_ret
      exact ⟨rfl, HG.out⟩
set_option maxHeartbeats 1000000 in
theorem psum_core (b o m cap : Nat) (f : Nat → Nat) (S : Nat → Nat) (hcap : m + 1 < cap) (hm1 : m * 4 ≤ 140737488351232) (w : World) (hd : Hid (∀ j, j < m + 1 → w.cell? ⟨b, o + j, none⟩ = some (.float .f32 (f j))))
    (H1 : Hid (∀ w, Calls Tryd.prog 14 #[.float .f32 (f 0)] w fun e w' => e = .returned (.float .f32 (S 1)) ∧ w' = w))
    (HA : Hid (∀ k, 0 < k → k < m + 1 → ∀ w, Calls Tryd.prog 23 #[.float .f32 (S k), .float .f32 (f k)] w fun e w' => e = .returned (.float .f32 (S (k + 1))) ∧ ∃ d, w' = w.drewN d)) :
    Calls Tryd.prog 27 #[.slice (some ⟨b, o, none⟩) (m + 1) cap] w fun e w' => e = .returned (.float .f32 (S (m + 1))) ∧ ∃ d, w' = w.drewN d := by
  have c0 : w.cell? ⟨b, o, none⟩ = some (.float .f32 (f 0)) := (hd.out 0 (by omega))
  have hne : (((m : Int) + 1) == 0) = false := by rw [beq_eq_false_iff_ne]; omega
  have hc2 : (cap - 1 = 0) = False := by simp; omega
  go_enter Tryd.func27, Tryd.ntmps27
  go_wp2_with (go_at_call 14; refine (H1.out _).mono ?_; rintro e w' ⟨rfl, rfl⟩)
  go_loopw [3, 16] (fun s i wr => ∃ k : Nat, k ≤ m ∧ s = .float .f32 (S (k + 1)) ∧ i = .int .i64 k ∧ ∃ d, wr = w'.drewN d) (fun _ i _ => m - (intOf i).toNat)
  case atStart => exact ⟨0, by omega, rfl, rfl, 0, rfl⟩
  case round =>
    obtain ⟨k, hk, rfl, rfl, d, rfl⟩ := hrel
    by_cases hlt : k < m
    · have c1 : w'.cell? ⟨b, o + 1 + k, none⟩ = some (.float .f32 (f (k + 1))) := by rw [show o + 1 + k = o + (k + 1) by omega]; exact hd.out (k + 1) (by omega)
      have HB : Hid (∀ w, Calls Tryd.prog 23 #[.float .f32 (S (k + 1)), .float .f32 (f (k + 1))] w fun e w' => e = .returned (.float .f32 (S (k + 1 + 1))) ∧ ∃ d, w' = w.drewN d) := HA.out (k + 1) (by omega) (by omega)
      go_wp2_with fail
      refine (HB.out _).mono ?_
      rintro e w2 ⟨rfl, d2, rfl⟩
      go_wp2
      go_roundw
      case rel => exact ⟨k + 1, by omega, rfl, by go_num, d + d2, by simp⟩
      case measure => simp [intOf]; omega
    · have hkn : m = k := by omega
      subst hkn
      go_wp2
      go_ret
      exact ⟨rfl, d, rfl⟩
end Go.Proofs.YtckjmcfncfoboaaDoor

namespace Go.Proofs.YtckjmcfncfoboaaDoor
open Go.RowKit
open Ieee

theorem info_f32 : (Tryd.prog.info? 25).map (fun i => (i.zero, i.size, i.bytes)) = some (some (.float .f32 0), 1, 4) := by kernel_rfl
theorem Gr.below {w w' : World} (h : Gr w w') : Below w.heap.size w w' := ⟨h.ext.os, h.ext.tape, h.ext.output, h.ext.size, fun k hk => h.ext.block k hk⟩
theorem Gr.grown {w w' : World} (h : Gr w w') : w.grownBy w' none := ⟨h.ext.os, h.ext.tape, h.ext.output, h.ext.size, fun k hk _ => h.ext.block k hk⟩
theorem addr_plain (b off i : Nat) : (⟨b, off, none⟩ : Addr).add i = ⟨b, off + i, none⟩ := by unfold Addr.add; split <;> simp_all
theorem Below.drewN {B : Nat} {a w : World} (h : Below B a w) (d : Nat) : Below B a (w.drewN d) := ⟨h.os, h.tape, h.output, h.size, h.block⟩
/-- The first k as floats. -/
def fls (f : Nat → Nat) (k : Nat) : List Value := (List.range k).map (fun j => Value.float .f32 (f j))
theorem fls_succ (f : Nat → Nat) (k : Nat) : fls f (k + 1) = fls f k ++ [.float .f32 (f k)] := by unfold fls; rw [List.range_succ, List.map_append]; rfl
theorem fls_len (f : Nat → Nat) (k : Nat) : (fls f k).length = k := by unfold fls; simp
theorem fls_at (f : Nat → Nat) (k j : Nat) (h : j < k) : (fls f k)[j]? = some (.float .f32 (f j)) := by unfold fls; simp [h]

set_option maxHeartbeats 2000000 in
theorem sums_law (b o n cap : Nat) (f : Nat → Nat) (s : Nat) (hn0 : 0 < n) (hn1 : n * 4 ≤ 140737488351232) (w : World) (hT : Hid (Tab w)) (hd : Hid (Dg w b o n f)) (hb : b < w.heap.size)
    (H0 : Hid (∀ w, Tab w → Calls Tryd.prog 9 #[] w fun e w' => e = .returned (.bool true) ∧ Gr w w'))
    (HS : Hid (∀ w b o c, n < c → (∀ j, j < n → w.cell? ⟨b, o + j, none⟩ = some (.float .f32 (f j))) → Calls Tryd.prog 27 #[.slice (some ⟨b, o, none⟩) n c] w fun e w' => e = .returned (.float .f32 s) ∧ ∃ d, w' = w.drewN d))
    (HR : Hid (∀ w, Dg w b o n f → Calls Tryd.prog 28 #[.slice (some ⟨b, o, none⟩) n cap] w fun e w' => e = .returned (.int .u32 (s : Int)) ∧ Gr w w'))
    (HI : Hid (∀ w, Calls Tryd.prog 11 #[.float .f32 s, .int .u32 (s : Int)] w fun e w' => e = .returned (.bool true) ∧ w' = w))
    (o7 : FloatKind.f32.format.order 1088421888 1088421888 = some .eq) :
    Calls Tryd.prog 5 #[.slice (some ⟨b, o, none⟩) n cap] w fun e w' => e = .returned (.bool true) ∧ Below w.heap.size w w' := by
  obtain ⟨i0, hi, hz0, hz1, hz2⟩ := info_parts info_f32
  go_enter Tryd.func5, Tryd.ntmps5
  go_wp2_with fail
  refine (H0.out _ hT.out).mono ?_
  rintro e W0 ⟨rfl, hg⟩
  have G0 : Hid (Gr w W0) := hg
  have hbW : b < W0.heap.size := Nat.lt_of_lt_of_le hb hg.ext.size
  clear hg
  go_wp2
  go_loopw [4, 5] (fun v i wr => ∃ k : Nat, k ≤ n ∧ i = .int .i64 k ∧ wr.ownsRow W0.heap.size 25 1 v k (fls f k) ∧ Below W0.heap.size W0 wr) (fun _ i _ => n - (intOf i).toNat)
  case atStart => exact ⟨0, Nat.zero_le _, rfl, World.ownsRow_nil _ _ _ _, Below.refl _ _⟩
  case round =>
    obtain ⟨k, hk, rfl, hown0, hnx0⟩ := hrel
    have HOWN : Hid (wr.ownsRow W0.heap.size 25 1 _ k (fls f k)) := hown0
    have HNX : Hid (Below W0.heap.size W0 wr) := hnx0
    have hsz : W0.heap.size ≤ wr.heap.size := hnx0.size
    clear hown0 hnx0
    by_cases hlt : k < n
    · have c1 : wr.cell? ⟨b, o + k, none⟩ = some (.int .u32 (f k : Nat)) := (HNX.out.cell (by exact hbW)).trans (((hd.out.gr G0.out) k hlt).1)
      go_wp2_with (at_builtin; refine wpList_append_own _ rfl (.tmp 17) (.tmp 23) 48 rfl W0.heap.size 25 i0 (.float .f32 0) 1 4 Tryd.underlying48 hi hz0 hz1 hz2 rfl (by decide) _ _ _ rfl (HOWN.out.alloc _) ⟨wr.heap.size, 0, none⟩ 1 1 [.float .f32 (f k)] rfl rfl ?c1 ?c2 ?c3 ?c4 ?c5 ?_)
      case c1 =>
        intro j u hj
        match j, hj with
        | 0, hj => simp at hj; subst hj; simp [Addr.add]
      case c2 => intro u hu; simp at hu; subst hu; rfl
      case c3 => unfold maxLen; omega
      case c4 => omega
      case c5 => simp; omega
      · intro v' w1 hown' hgrow _
        have HOWN2 : Hid (w1.ownsRow W0.heap.size 25 1 v' (k + 1) (fls f (k + 1))) := by show World.ownsRow _ _ _ _ _ _ _; rw [fls_succ]; exact hown'
        have HNX2 : Hid (Below W0.heap.size W0 w1) := (HNX.out.alloc hsz _).grown hgrow (by simp; omega) (fun q hq => (HOWN.out.lt q hq).1)
        clear hown' hgrow c1
        go_wp2
        go_roundw
        case rel => exact ⟨k + 1, by omega, by go_num, HOWN2.out, HNX2.out⟩
        case measure => simp [intOf]; omega
    · have hkn : n = k := by omega
      subst hkn
      go_wp2_with (at_builtin; refine wpList_append_own _ rfl (.tmp 25) (.tmp 26) 48 rfl W0.heap.size 25 i0 (.float .f32 0) 1 4 Tryd.underlying48 hi hz0 hz1 hz2 rfl (by decide) _ _ _ rfl (HOWN.out.alloc _) ⟨wr.heap.size, 0, none⟩ 1 1 [.float .f32 1088421888] rfl rfl ?d1 ?d2 ?d3 ?d4 ?d5 ?_)
      case d1 =>
        intro j u hj
        match j, hj with
        | 0, hj => simp at hj; subst hj; simp [Addr.add]
      case d2 => intro u hu; simp at hu; subst hu; rfl
      case d3 => unfold maxLen; omega
      case d4 => omega
      case d5 => simp; omega
      · intro v' w1 hown' hgrow _
        have HNX2 : Hid (Below W0.heap.size W0 w1) := (HNX.out.alloc hsz _).grown hgrow (by simp; omega) (fun q hq => (HOWN.out.lt q hq).1)
        have hown2 := hown'
        obtain ⟨_, hcase⟩ := hown'
        rcases hcase with ⟨_, h0⟩ | ⟨g, cp, cur, rfl, hg, hh, hcp, hcp2, hcsz, htake⟩
        · omega
        have CX : Hid (∀ j, j < n → w1.cell? ⟨g, 0 + j, none⟩ = some (.float .f32 (f j))) := fun j hj => by
          have := hown2.cells (g := g) rfl j (.float .f32 (f j)) (by rw [List.getElem?_append_left (by rw [fls_len]; exact hj)]; exact fls_at f n j hj)
          rw [addr_plain] at this; exact this
        have C7 : Hid (w1.cell? ⟨g, n, none⟩ = some (.float .f32 1088421888)) := by
          have := hown2.cells (g := g) rfl n (.float .f32 1088421888) (by rw [List.getElem?_append_right (by rw [fls_len]; exact Nat.le_refl _), fls_len, Nat.sub_self]; rfl)
          rw [addr_plain, Nat.zero_add] at this; exact this
        have D1 : Hid (Dg w1 b o n f) := fun j hj => ⟨(HNX2.out.cell (by exact hbW)).trans (((hd.out.gr G0.out) j hj).1), (hd.out j hj).2⟩
        have hncp : n < cp := by omega
        clear hown2 hgrow hg hh hcp2 hcsz htake HOWN HNX hsz
        go_wp2_with fail
        refine (HS.out w1 g 0 cp hncp CX.out).mono ?_
        rintro e w2 ⟨rfl, d1, rfl⟩
        go_wp2_with fail
        refine (HS.out (w1.drewN d1) g 0 cp hncp CX.out).mono ?_
        rintro e w3 ⟨rfl, d2, rfl⟩
        go_wp2_with fail
        refine (HR.out (w1.drewN (d1 + d2)) D1.out).mono ?_
        rintro e W2 ⟨rfl, hg2⟩
        have G2 : Hid (Gr w1 W2) := ((Gr.refl w1).drewN (d1 + d2)).trans hg2
        clear hg2
        go_wp2
        have DX : Hid (∀ j, j < n → W2.cell? ⟨g, 0 + j, none⟩ = some (.float .f32 (f j))) := fun j hj => G2.out.cell (cell_lt (CX.out j hj)) (CX.out j hj)
        have D7 : Hid (W2.cell? ⟨g, n, none⟩ = some (.float .f32 1088421888)) := G2.out.cell (cell_lt C7.out) C7.out
        have D2 : Hid (Dg W2 b o n f) := D1.out.gr G2.out
        have HB : Hid (Below w.heap.size w W2) := G0.out.below.trans ((HNX2.out.trans (G2.out.below.mono HNX2.out.size)).mono G0.out.ext.size)
        clear CX C7 D1 HNX2 G2
        go_loopw [9] (fun i wq => ∃ k : Nat, k ≤ n ∧ i = .int .i64 k ∧ ∃ d, wq = W2.drewN d) (fun i _ => n - (intOf i).toNat)
        case atStart => exact ⟨0, Nat.zero_le _, rfl, 0, rfl⟩
        case round =>
          obtain ⟨k, hk, rfl, d, hwd⟩ := hrel
          subst hwd
          by_cases hlt2 : k < n
          · have c1 : (W2.drewN d).cell? ⟨b, o + k, none⟩ = some (.int .u32 (f k : Nat)) := (D2.out k hlt2).1
            have c2 : (W2.drewN d).cell? ⟨g, k, none⟩ = some (.float .f32 (f k)) := by have := DX.out k hlt2; rw [Nat.zero_add] at this; exact this
            generalize hWd : W2.drewN d = Wd at *
            go_wp2
            go_quiet (fail)
            go_wp2
            go_roundw
            case rel => exact ⟨k + 1, by omega, by go_num, d + nq, by rw [← hWd, World.drewN_drewN]⟩
            case measure => simp [intOf]; omega
          · have hkn : n = k := by omega
            subst hkn
            have c7 : (W2.drewN d).cell? ⟨g, n, none⟩ = some (.float .f32 1088421888) := D7.out
            go_wp2_with (first | (go_at_call 11; refine (HI.out _).mono ?_; rintro e w' ⟨rfl, rfl⟩))
            go_ret
            exact ⟨rfl, Below.drewN HB.out d⟩

set_option maxHeartbeats 2000000 in
theorem sums_none (a : Option Addr) (cap : Nat) (w : World) (hT : Hid (Tab w))
    (H0 : Hid (∀ w, Tab w → Calls Tryd.prog 9 #[] w fun e w' => e = .returned (.bool true) ∧ Gr w w'))
    (HS : Hid (∀ w a c, Calls Tryd.prog 27 #[.slice a 0 c] w fun e w' => e = .returned (.float .f32 0) ∧ w' = w))
    (HR : Hid (∀ w, Calls Tryd.prog 28 #[.slice a 0 cap] w fun e w' => e = .returned (.int .u32 0) ∧ w' = w))
    (HI : Hid (∀ w, Calls Tryd.prog 11 #[.float .f32 0, .int .u32 0] w fun e w' => e = .returned (.bool true) ∧ w' = w))
    (o7 : FloatKind.f32.format.order 1088421888 1088421888 = some .eq) :
    Calls Tryd.prog 5 #[.slice a 0 cap] w fun e w' => e = .returned (.bool true) ∧ Below w.heap.size w w' := by
  obtain ⟨i0, hi, hz0, hz1, hz2⟩ := info_parts info_f32
  go_enter Tryd.func5, Tryd.ntmps5
  go_wp2_with fail
  refine (H0.out _ hT.out).mono ?_
  rintro e W0 ⟨rfl, hg⟩
  have G0 : Hid (Gr w W0) := hg
  clear hg
  go_wp2
  refine wp_loop_rounds 1 ?_
  rw [rounds_succ]
  go_wp2_with (at_builtin; refine wpList_append_own _ rfl (.tmp 25) (.tmp 26) 48 rfl W0.heap.size 25 i0 (.float .f32 0) 1 4 Tryd.underlying48 hi hz0 hz1 hz2 rfl (by decide) _ _ _ rfl ((World.ownsRow_nil W0 _ _ _).alloc _) ⟨W0.heap.size, 0, none⟩ 1 1 [.float .f32 1088421888] rfl rfl ?d1 ?d2 ?d3 ?d4 ?d5 ?_)
  case d1 =>
    intro j u hj
    match j, hj with
    | 0, hj => simp at hj; subst hj; simp [Addr.add]
  case d2 => intro u hu; simp at hu; subst hu; rfl
  case d3 => unfold maxLen; omega
  case d4 => omega
  case d5 => simp
  · intro v' w1 hown' hgrow _
    have HNX2 : Hid (Below W0.heap.size W0 w1) := ((Below.refl _ _).alloc (Nat.le_refl _) _).grown hgrow (by simp) (fun q hq => by cases hq)
    have hown2 := hown'
    obtain ⟨_, hcase⟩ := hown'
    rcases hcase with ⟨_, h0⟩ | ⟨g, cp, cur, rfl, hg, hh, hcp, hcp2, hcsz, htake⟩
    · omega
    have C7 : Hid (w1.cell? ⟨g, 0, none⟩ = some (.float .f32 1088421888)) := by
      have := hown2.cells (g := g) rfl 0 (.float .f32 1088421888) rfl
      rw [addr_plain, Nat.zero_add] at this; exact this
    have HB : Hid (Below w.heap.size w w1) := G0.out.below.trans (HNX2.out.mono G0.out.ext.size)
    clear hown2 hgrow hg hh hcp2 hcsz htake HNX2
    go_wp2_with fail
    refine (HS.out w1 _ _).mono ?_
    rintro e w2 ⟨rfl, rfl⟩
    go_wp2_with fail
    refine (HS.out w2 _ _).mono ?_
    rintro e w3 ⟨rfl, rfl⟩
    go_wp2_with fail
    refine (HR.out w3).mono ?_
    rintro e W2 ⟨rfl, rfl⟩
    have c7 := C7.out
    go_wp2
    refine wp_loop_rounds 1 ?_
    rw [rounds_succ]
    go_wp2_with (first | (go_at_call 11; refine (HI.out _).mono ?_; rintro e w' ⟨rfl, rfl⟩))
    go_ret
    exact ⟨rfl, HB.out⟩
end Go.Proofs.YtckjmcfncfoboaaDoor
