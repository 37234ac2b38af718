/- The document's kinds, bits of a float, and whole numbers rounded to a kind. -/
import Derived.Test.YtckjmcfncfoboaaDoorNx
import Derived.Deep.RegionWith
import Derived.Deep.CutRange
import Derived.Deep.DeepCutAuto
namespace Go.Proofs.YtckjmcfncfoboaaDoor
open Go.RowKit
open Ieee

theorem thirty_any (w : World) : Calls Tryd.prog 58 #[] w fun e w' => e = .returned (.agg #[.int .i64 24, .int .i64 (-149), .int .i64 127]) ∧ Gr w w' := by
  go_enter Tryd.func58, Tryd.ntmps58
  go_wp2
  refine bodyPost_ret (v := .agg #[.int .i64 24, .int .i64 (-149), .int .i64 127]) (by simp [results, Tryd.results58, go_sem, *]) rfl ?_
  exact ⟨rfl, (Gr.refl w).alloc _ _⟩
theorem sixty_any (w : World) : Calls Tryd.prog 74 #[] w fun e w' => e = .returned (.agg #[.int .i64 53, .int .i64 (-1074), .int .i64 1023]) ∧ Gr w w' := by
  go_enter Tryd.func74, Tryd.ntmps74
  go_wp2
  refine bodyPost_ret (v := .agg #[.int .i64 53, .int .i64 (-1074), .int .i64 1023]) (by simp [results, Tryd.results74, go_sem, *]) rfl ?_
  exact ⟨rfl, (Gr.refl w).alloc _ _⟩

theorem errOf_any (b : Bool) (w : World) : Calls Tryd.prog 71 #[.bool b] w fun e w' => e = .returned (.int .i64 (if b = true then 0 else 1)) ∧ w' = w := by
  cases b
  all_goals
    go_enter Tryd.func71, Tryd.ntmps71
    go_wp2
    go_ret
    exact ⟨rfl, rfl⟩
theorem parted_any (n : Int) (h0 : -9223372036854775808 ≤ n) (h1 : n ≤ 9223372036854775807) (w : World) :
    Calls Tryd.prog 72 #[.int .i64 n] w fun e w' => e = .returned (.tuple #[.bool (decide (n < 0)), .int .u64 (n.natAbs : Nat)]) ∧ w' = w := by
  by_cases hn : n < 0
  · rw [decide_eq_true hn]
    have hv : IntKind.u64.wrap (- IntKind.u64.wrap n) = (n.natAbs : Int) := by rw [IntKind.wrap_u64, IntKind.wrap_u64]; omega
    go_enter Tryd.func72, Tryd.ntmps72
    go_wp2
    exact bodyPost_ret (v := .tuple #[.bool true, .int .u64 (n.natAbs : Nat)]) (by simp [results, Tryd.results72, go_sem]) rfl ⟨rfl, rfl⟩
  · rw [decide_eq_false hn]
    have hv : IntKind.u64.wrap n = (n.natAbs : Int) := by rw [IntKind.wrap_u64]; omega
    go_enter Tryd.func72, Tryd.ntmps72
    go_wp2
    exact bodyPost_ret (v := .tuple #[.bool false, .int .u64 (n.natAbs : Nat)]) (by simp [results, Tryd.results72, go_sem]) rfl ⟨rfl, rfl⟩

set_option maxHeartbeats 1000000 in
theorem bits64_core (neg : Bool) (M E b r : Int) (w : World)
    (HJ : Hid (∀ w, Calls Tryd.prog 46 #[.bool neg, .int .u64 M, .int .i64 E] w fun e w' => e = .returned (.tuple #[.int .u64 b, .int .i64 r]) ∧ w' = w)) :
    Calls Tryd.prog 75 #[.agg #[.bool neg, .bool false, .int .u64 M, .int .i64 E]] w fun e w' => e = .returned (.int .u64 b) ∧ Gr w w' := by
  go_enter Tryd.func75, Tryd.ntmps75
  go_wp2_with (go_at_call 46; refine (HJ.out _).mono ?_; rintro e w' ⟨rfl, rfl⟩)
  go_ret
  exact ⟨rfl, (Gr.refl w).alloc _ _⟩

theorem b32_and (M : Int) (h0 : 0 ≤ M) (h1 : M < 4294967296) : bits .and .u32 M 8388607 = M % 8388608 := by
  rw [u32_and M 8388607 h0 h1 (by decide) (by decide), show (8388607 : Int).toNat = 2 ^ 23 - 1 from rfl, Nat.and_two_pow_sub_one_eq_mod]
  omega
theorem b32_or (x y : Int) (h0 : 0 ≤ x) (h1 : x < 4294967296) (hx : x % 8388608 = 0) (y0 : 0 ≤ y) (y1 : y < 8388608) : bits .or .u32 x y = x + y := by
  rw [u32_or x y h0 h1 y0 (by omega), nat_join 23 x.toNat y.toNat (by show x.toNat % 8388608 = 0; omega) (by show y.toNat < 8388608; omega)]
  omega
theorem b32_sign (b : Int) (h0 : 0 ≤ b) (h1 : b < 2147483648) : bits .or .u32 b 2147483648 = 2147483648 + b := by
  rw [u32_or b 2147483648 h0 (by omega) (by decide) (by decide), Nat.or_comm, nat_join 31 (2147483648 : Int).toNat b.toNat (by decide) (by show b.toNat < 2147483648; omega)]
  omega
set_option maxHeartbeats 1000000 in
theorem bits32_core (neg : Bool) (M E b s : Int) (w : World) (hM0 : 0 ≤ M) (hM1 : M < 16777216) (hE0 : -149 ≤ E) (hE1 : E ≤ 104) (hn : M < 8388608 → E = -149)
    (hb : Hid ((E + 149) * 8388608 + M = b)) (hs : Hid ((if neg = true then 2147483648 + b else b) = s)) :
    Calls Tryd.prog 59 #[.agg #[.bool neg, .bool false, .int .u64 M, .int .i64 E]] w fun e w' => e = .returned (.int .u32 s) ∧ Gr w w' := by
  go_enter Tryd.func59, Tryd.ntmps59
  go_wp2
  all_goals go_ret
  all_goals refine ⟨congrArg (fun z => Ending.returned (.int .u32 z)) ?_, (Gr.refl w).alloc _ _⟩
  all_goals rw [← hs.out, ← hb.out]
  · rename_i h1 h2
    subst h2
    rw [b32_and M hM0 (by omega), b32_or ((E + 150) * 8388608) (M % 8388608) (by omega) (by omega) (by omega) (by omega) (by omega), b32_sign _ (by omega) (by omega), if_pos rfl]
    omega
  · rename_i h1 h2
    subst h2
    rw [b32_and M hM0 (by omega), b32_or ((E + 150) * 8388608) (M % 8388608) (by omega) (by omega) (by omega) (by omega) (by omega), if_neg (by simp)]
    omega
  · rename_i h1 h2
    subst h2
    rw [b32_sign _ (by omega) (by omega), if_pos rfl, hn h1]
    omega
  · rename_i h1 h2
    subst h2
    rw [if_neg (by simp), hn h1]
    omega

set_option maxHeartbeats 8000000 in
set_option maxRecDepth 20000 in
theorem from_core (neg x : Bool) (n a b c mode M Ee : Int) (N : Nat) (w : World)
    (hOf : Hid (∀ w', Calls Tryd.prog 57 #[.int .u64 n] w' fun e w'' => (∃ v, e = .returned v ∧ NatAt w'' v N) ∧ Gr w' w''))
    (hO1 : Hid (∀ w', Calls Tryd.prog 57 #[.int .u64 1] w' fun e w'' => (∃ v, e = .returned v ∧ NatAt w'' v 1) ∧ Gr w' w''))
    (hTo : Hid (∀ w' num den, NatAt w' num N → NatAt w' den 1 → Calls Tryd.prog 56 #[.agg #[.bool neg, num, den, .int .i64 0, .bool false], .agg #[.int .i64 a, .int .i64 b, .int .i64 c], .int .i64 mode] w' fun e w'' => e = .returned (.tuple #[.agg #[.bool neg, .bool false, .int .u64 M, .int .i64 Ee], .agg #[.bool x, .bool false, .bool false]]) ∧ Gr w' w'')) :
    Calls Tryd.prog 73 #[.bool neg, .int .u64 n, .agg #[.int .i64 a, .int .i64 b, .int .i64 c], .int .i64 mode] w fun e w' => e = .returned (.tuple #[.agg #[.bool neg, .bool false, .int .u64 M, .int .i64 Ee], .agg #[.bool x, .bool false, .bool false]]) ∧ Gr w w' := by
  obtain ⟨W0, hW0⟩ : ∃ W0, W0 = (((w.alloc (.cells #[.int .i64 a, .int .i64 b, .int .i64 c] 98)).alloc (.cells #[.bool false, .bool false, .int .u64 0, .int .i64 0] 90)).alloc (.cells #[.bool false, .bool false, .bool false] 36)) := ⟨_, rfl⟩
  have G0 : Hid (Gr w W0) := by show Gr w W0; rw [hW0]; exact (((Gr.refl w).alloc _ _).alloc _ _).alloc _ _
  have K0 : Hid (Holds W0 w.heap.size [.int .i64 a, .int .i64 b, .int .i64 c]) := by
    show Holds W0 _ _
    rw [hW0]
    exact (((holds_new w #[.int .i64 a, .int .i64 b, .int .i64 c] _).gr ((Gr.refl _).alloc _ _)).gr ((Gr.refl _).alloc _ _))
  have F0 : Hid (Holds W0 (w.heap.size + 1) [.bool false, .bool false, .int .u64 0, .int .i64 0]) := by
    show Holds W0 _ _
    rw [hW0]
    have := holds_new (w.alloc (.cells #[.int .i64 a, .int .i64 b, .int .i64 c] 98)) #[.bool false, .bool false, .int .u64 0, .int .i64 0] 90
    rw [show (w.alloc (.cells #[.int .i64 a, .int .i64 b, .int .i64 c] 98)).heap.size = w.heap.size + 1 by show (w.heap.push _).size = _; simp] at this
    exact this.gr ((Gr.refl _).alloc _ _)
  have R0 : Hid (Holds W0 (w.heap.size + 1 + 1) [.bool false, .bool false, .bool false]) := by
    show Holds W0 _ _
    rw [hW0]
    have := holds_new ((w.alloc (.cells #[.int .i64 a, .int .i64 b, .int .i64 c] 98)).alloc (.cells #[.bool false, .bool false, .int .u64 0, .int .i64 0] 90)) #[.bool false, .bool false, .bool false] 36
    rwa [show ((w.alloc (.cells #[.int .i64 a, .int .i64 b, .int .i64 c] 98)).alloc (.cells #[.bool false, .bool false, .int .u64 0, .int .i64 0] 90)).heap.size = w.heap.size + 1 + 1 by show ((w.heap.push _).push _).size = _; simp] at this
  go_enter Tryd.func73, Tryd.ntmps73
  go_upto_region 1 with fail
  rw [← hW0]
  clear hW0
  obtain ⟨k0, k1, k2⟩ : W0.cell? ⟨w.heap.size, 0, none⟩ = some (.int .i64 a) ∧ W0.cell? ⟨w.heap.size, 1, none⟩ = some (.int .i64 b) ∧ W0.cell? ⟨w.heap.size, 2, none⟩ = some (.int .i64 c) := ⟨K0.out.c0.1, K0.out.c1.1, K0.out.c2.1⟩
  go_region_with (first
    | (go_at_call_of 57 (Value.int IntKind.u64 n); refine (hOf.out _).mono ?_; rintro e wN ⟨⟨vN, rfl, hn⟩, hg⟩; obtain ⟨aN, nN, cN, rfl, _⟩ := natAt_len hn; have HN : Hid (NatAt wN (.slice aN nN cN) N) := hn; have HGN : Hid (Gr _ wN) := hg; have GN : Hid (Gr W0 wN) := (by first | exact Gr.trans (Gr.refl W0).drew hg | exact Gr.trans (Gr.refl W0) hg | exact Gr.trans GD.out hg); clear hn hg; have k0 := (K0.out.gr GN.out).c0.1; have k1 := (K0.out.gr GN.out).c1.1; have k2 := (K0.out.gr GN.out).c2.1)
    | (go_at_call_of 57 (Value.int IntKind.u64 1); refine (hO1.out _).mono ?_; rintro e wD ⟨⟨vD, rfl, hd⟩, hg⟩; obtain ⟨aD, nD, cD, rfl, _⟩ := natAt_len hd; have HD : Hid (NatAt wD (.slice aD nD cD) 1) := hd; have HGD : Hid (Gr _ wD) := hg; have GD : Hid (Gr W0 wD) := (by first | exact Gr.trans (Gr.refl W0).drew hg | exact Gr.trans (Gr.refl W0) hg | exact Gr.trans GN.out hg); clear hd hg; have k0 := (K0.out.gr GD.out).c0.1; have k1 := (K0.out.gr GD.out).c1.1; have k2 := (K0.out.gr GD.out).c2.1)
    | (go_at_call 56; refine (hTo.out _ _ _ (by first | exact HN.out | exact HN.out.gr HGD.out) (by first | exact HD.out | exact HD.out.gr HGN.out)).mono ?_; rintro e wT ⟨rfl, hg⟩; have GT : Hid (Gr W0 wT) := (by first | exact GN.out.trans hg | exact GD.out.trans hg); clear hg; obtain ⟨x30, y30⟩ := (F0.out.gr GT.out).c0; obtain ⟨x31, y31⟩ := (F0.out.gr GT.out).c1; obtain ⟨x32, y32⟩ := (F0.out.gr GT.out).c2; obtain ⟨x33, y33⟩ := (F0.out.gr GT.out).c3; obtain ⟨x40, y40⟩ := (R0.out.gr GT.out).c0; obtain ⟨x41, y41⟩ := (R0.out.gr GT.out).c1; obtain ⟨x42, y42⟩ := (R0.out.gr GT.out).c2))
  all_goals
    go_wp2
    refine bodyPost_ret (v := .tuple #[.agg #[.bool neg, .bool false, .int .u64 M, .int .i64 Ee], .agg #[.bool x, .bool false, .bool false]]) (by simp [results, Tryd.results73, go_sem, *]) rfl ⟨rfl, ?_⟩
    have h2 : w.heap.size ≤ w.heap.size + 1 := by omega
    have h3 : w.heap.size ≤ w.heap.size + 1 + 1 := by omega
    have GG := G0.out.trans GT.out
    first
      | exact (((((((GG.setCell _ _ h2).setCell _ _ h2).setCell _ _ h2).setCell _ _ h2).setCell _ _ h3).setCell _ _ h3).setCell _ _ h3)
      | exact (((((((GG.setCell _ _ h3).setCell _ _ h3).setCell _ _ h3).setCell _ _ h2).setCell _ _ h2).setCell _ _ h2).setCell _ _ h2)
end Go.Proofs.YtckjmcfncfoboaaDoor
