/- The program's column, Text. -/
import Derived.Test.YthehdloofamadaaDoorDb
import Derived.Test.YthehdloofamadaaDoorAw
import Derived.Test.YthehdloofamadaaDoorSh
import Derived.Test.YthehdloofamadaaDoorTt
import Derived.Test.YthehdloofamadaaDoorLa
import Derived.Deep.CutRange
import Derived.Deep.DeepCutAuto
import Derived.Deep.RegionHeld3
import Derived.Laws.Runes
namespace Go.Proofs.YthehdloofamadaaDoor
open Go.RowKit

theorem digs_dec (k n : Nat) (h0 : 1 ≤ n) (h : n < 2 ^ k) : digs k n = Lib.decDigits n := by
  induction k generalizing n with
  | zero => simp at h; omega
  | succ k ih =>
    rw [digs, if_neg (by omega), Lib.decDigits]
    by_cases c : n < 10
    · rw [dif_pos c]
      have e1 : n / 10 = 0 := by omega
      have e2 : digs k 0 = [] := by cases k <;> simp [digs]
      rw [e1, e2, show n % 10 = n by omega]; rfl
    · rw [dif_neg c, ih (n / 10) (by omega) (by rw [Nat.pow_succ] at h; omega)]
theorem digs_itoa (r : Int) (h0 : 1 ≤ r) (h1 : r ≤ 4096) : digs 13 r.toNat = Lib.itoa r := by
  unfold Lib.itoa
  rw [if_neg (by omega)]
  exact digs_dec 13 r.toNat (by omega) (by have : (2 : Nat) ^ 13 = 8192 := rfl; omega)
theorem grow_below {w w' : World} (h : ∃ k os, w' = Go.Sort.grow (w.drewN k) os) : Below w.heap.size w w' := by
  obtain ⟨k, os, rfl⟩ := h
  exact ⟨rfl, rfl, rfl, by simp [Go.Sort.grow, World.drewN], fun i hi => Go.Sort.heap_grow_old (w.drewN k) os hi⟩

theorem encode_low (x : Int) (h0 : 0 ≤ x) (h1 : x < 128) : Utf8.encode x = ⟨[UInt8.ofNat x.toNat].toArray⟩ := by
  have hv : Utf8.valid x = true := by unfold Utf8.valid; simp; omega
  unfold Utf8.encode
  simp only [hv, if_true, show x.toNat < 128 by omega]
def colL (n : Int) : List UInt8 := lets 9 n.toNat
set_option maxHeartbeats 2000000 in
theorem pcolumn_any (n : Int) (h0 : 1 ≤ n) (h1 : n ≤ 256) (w : World) :
    Calls Tryd.prog 42 #[.int .i64 n] w fun e w' => e = .returned (.string ⟨(lets 9 n.toNat).toArray⟩) ∧ w' = w := by
  go_enter Tryd.func42, Tryd.ntmps42
  go_wp2
  go_loopw [0, 3] (fun sn st wr => ∃ (m : Int) (t : List UInt8) (k : Nat), sn = .int .i64 m ∧ st = .string ⟨t.toArray⟩ ∧ wr = w ∧ 0 ≤ m ∧ m ≤ 256 ∧ k ≤ 9 ∧ t.length ≤ 9 - k ∧ m.toNat < 2 ^ k ∧ lets 9 n.toNat = lets k m.toNat ++ t) (fun sn _ _ => (intOf sn).toNat)
  case atStart => exact ⟨n, [], 9, rfl, rfl, rfl, by omega, h1, Nat.le_refl _, by simp, by have : (2 : Nat) ^ 9 = 512 := rfl; omega, by simp⟩
  case round =>
    obtain ⟨m, t, k, rfl, rfl, hw, hm0, hm1, hk, htl, hmk, heq⟩ := hrel
    subst hw
    have HE : Hid (lets 9 n.toNat = lets k m.toNat ++ t) := heq
    clear heq
    generalize hTT : lets 9 n.toNat = TT at *
    have HTT : Hid (lets 9 n.toNat = TT) := hTT
    clear hTT h0 h1
    by_cases hz : m = 0
    · subst hz
      have e0 : Hid (t = TT) := by
        show _ = _
        rw [HE.out]
        cases k <;> simp [lets]
      clear HE hm0 hm1 hk htl hmk
      go_wp2
      go_ret
      exact ⟨congrArg Ending.returned (vStr (e0.out.trans HTT.out.symm)), rfl⟩
    · have hm : 1 ≤ m := by omega
      obtain ⟨k', rfl⟩ : ∃ k', k = k' + 1 := by
        cases k with
        | zero => simp at hmk; omega
        | succ k' => exact ⟨k', rfl⟩
      obtain ⟨x, hx⟩ : ∃ x : Int, 65 + (m - 1) % 26 = x := ⟨_, rfl⟩
      obtain ⟨q, hq⟩ : ∃ q : Int, (m - 1) / 26 = q := ⟨_, rfl⟩
      have e1 : lets (k' + 1) m.toNat = lets k' q.toNat ++ [UInt8.ofNat x.toNat] := by
        rw [lets, if_neg (by omega), show (m.toNat - 1) / 26 = q.toNat by omega, show 65 + (m.toNat - 1) % 26 = x.toNat by omega]
      have e2 : Hid (TT = lets k' q.toNat ++ ([UInt8.ofNat x.toNat] ++ t)) := by show _ = _; rw [HE.out, e1]; simp
      have hx0 : 65 ≤ x := by omega
      have hx1 : x ≤ 90 := by omega
      have q1 : IntKind.i64.wrap ((IntKind.i64.wrap (m - 1)).tdiv 26) = q := by
        rw [IntKind.wrap_i64, IntKind.wrap_i64, tdiv_eq_if]; split <;> omega
      have q2 : IntKind.i32.wrap (IntKind.i64.wrap (65 + (IntKind.i64.wrap (m - 1)).tmod 26)) = x := by
        have : (IntKind.i64.wrap (m - 1)) = m - 1 := by rw [IntKind.wrap_i64]; omega
        rw [this, Int.tmod_eq_emod_of_nonneg (by omega), IntKind.wrap_i64, IntKind.wrap_i32]; omega
      have q3 : wrap64 (m - 1) = m - 1 := by unfold wrap64; omega
      have hadd : ∀ w, (Op.stringOp .add ⟨[UInt8.ofNat x.toNat].toArray⟩ ⟨t.toArray⟩).run Tryd.prog w = .ok (.string ⟨([UInt8.ofNat x.toNat] ++ t).toArray⟩) w := add_lists _ _ (by simp) (by omega)
      have henc : Utf8.encode x = ⟨[UInt8.ofNat x.toNat].toArray⟩ := encode_low x (by omega) (by omega)
      have hq0 : 0 ≤ q := by omega
      have hq1 : q ≤ 256 := by omega
      have hqm : q < m := by omega
      have hqk : q.toNat < 2 ^ k' := by rw [Nat.pow_succ] at hmk; omega
      clear HE e1 hmk q1 q2 q3
      go_wp2
      go_roundw
      case rel => exact ⟨q, [UInt8.ofNat x.toNat] ++ t, k', by rw [hq], rfl, trivial, hq0, hq1, by omega, by simp; omega, hqk, e2.out⟩
      case measure => simp only [intOf]; omega

set_option maxHeartbeats 4000000 in
theorem pText_core (c r : Int) (cf rf : Bool) (w : World) (T L D : List UInt8) (hL : L.length ≤ 20) (hD : D.length ≤ 20)
    (H1 : Hid (∀ w, Calls Tryd.prog 9 #[.agg #[.int .i64 c, .int .i64 r]] w fun e w' => e = .returned (.bool true) ∧ w' = w.alloc (.cells #[.int .i64 c, .int .i64 r] 23)))
    (H2 : Hid (∀ w, Calls Tryd.prog 42 #[.int .i64 c] w fun e w' => e = .returned (.string ⟨L.toArray⟩) ∧ w' = w))
    (H3 : Hid (∀ w', Below w.heap.size w w' → Calls Tryd.prog 43 #[.int .i64 r] w' fun e w'' => e = .returned (.string ⟨D.toArray⟩) ∧ Below w'.heap.size w' w''))
    (hT : Hid (T = sgL cf ++ L ++ sgL rf ++ D)) :
    Calls Tryd.prog 13 #[.agg #[.int .i64 c, .int .i64 r, .bool cf, .bool rf]] w fun e w' =>
      e = .returned (.tuple #[.string ⟨T.toArray⟩, .int .i64 0]) ∧ Below w.heap.size w w' := by
  have H4 : Hid (∀ w, Calls Tryd.prog 41 #[.bool cf] w fun e w' => e = .returned (.string ⟨(sgL cf).toArray⟩) ∧ w' = w) := psign_any cf
  have H5 : Hid (∀ w, Calls Tryd.prog 41 #[.bool rf] w fun e w' => e = .returned (.string ⟨(sgL rf).toArray⟩) ∧ w' = w) := psign_any rf
  have hA : (sgL cf).length ≤ 1 := by cases cf <;> simp [sgL]
  have hB : (sgL rf).length ≤ 1 := by cases rf <;> simp [sgL]
  generalize sgL cf = A at *
  generalize sgL rf = B at *
  have a1 := add_lists A L (by omega) (by omega)
  have a2 := add_lists (A ++ L) B (by simp; omega) (by omega)
  have a3 := add_lists (A ++ (L ++ B)) D (by simp; omega) (by omega)
  have hT' := hT.out.symm
  clear hT hL hD hA hB
  have B1 : Hid (Below w.heap.size w ((w.alloc (.cells #[.int .i64 c, .int .i64 r, .bool cf, .bool rf] 25)).alloc (.cells #[.int .i64 c, .int .i64 r] 23))) := ((Below.refl _ _).alloc (Nat.le_refl _) _).alloc (by simp) _
  have K1 : Hid (Has4 ((w.alloc (.cells #[.int .i64 c, .int .i64 r, .bool cf, .bool rf] 25)).alloc (.cells #[.int .i64 c, .int .i64 r] 23)) w.heap.size (.int .i64 c) (.int .i64 r) (.bool cf) (.bool rf)) := (has4_new w _ _ _ _ _).gr ((Gr.refl _).alloc _ _)
  go_enter Tryd.func13, Tryd.ntmps13
  go_wp2_with fail
  refine (H1.out _).mono ?_
  rintro e w' ⟨rfl, rfl⟩
  go_upto_region 3 with fail
  generalize ((w.alloc (.cells #[.int .i64 c, .int .i64 r, .bool cf, .bool rf] 25)).alloc (.cells #[.int .i64 c, .int .i64 r] 23)) = W0 at *
  have H3' : Hid (Calls Tryd.prog 43 #[.int .i64 r] W0.drew fun e w'' => e = .returned (.string ⟨D.toArray⟩) ∧ Below w.heap.size w w'' ∧ w''.cell? ⟨w.heap.size, 0, none⟩ = some (.int .i64 c) ∧ w''.cell? ⟨w.heap.size, 1, none⟩ = some (.int .i64 r) ∧ w''.cell? ⟨w.heap.size, 2, none⟩ = some (.bool cf) ∧ w''.cell? ⟨w.heap.size, 3, none⟩ = some (.bool rf)) :=
    (H3.out W0.drew B1.out.drew).mono fun e w'' h => by
      have hk := (K1.out.gr ((Gr.refl _).drew)).bel h.2
      exact ⟨h.1, B1.out.drew.trans (h.2.mono B1.out.drew.size), hk.c0, hk.c1, hk.c2, hk.c3⟩
  obtain ⟨x0, x1, x2, x3, _, _, _, _⟩ := K1.out
  clear H1 H3 B1 K1
  go_region_held3 (fun w' => w'.cell? ⟨w.heap.size, 0, none⟩ = some (.int .i64 c) ∧ w'.cell? ⟨w.heap.size, 1, none⟩ = some (.int .i64 r) ∧ w'.cell? ⟨w.heap.size, 2, none⟩ = some (.bool cf) ∧ w'.cell? ⟨w.heap.size, 3, none⟩ = some (.bool rf)) (go_keep) (first
    | (go_at_call 42; refine (H2.out _).mono ?_; rintro e w' ⟨rfl, rfl⟩)
    | (go_at_call 43; refine H3'.out.mono ?_; rintro e w' ⟨rfl, hb, k0, k1, k2, k3⟩)
    | (go_at_call_of 41 (Value.bool cf); refine (H4.out _).mono ?_; rintro e w' ⟨rfl, rfl⟩)
    | (go_at_call_of 41 (Value.bool rf); refine (H5.out _).mono ?_; rintro e w' ⟨rfl, rfl⟩))
  all_goals
    have HB : Hid (Below w.heap.size w w') := hb
    clear hb
    go_wp2_with fail
    go_ret2
    exact ⟨rTwo (vStr (by rw [← hT']; simp)) rfl, HB.out⟩

theorem pText_any (c r : Int) (cf rf : Bool) (w : World) (ht : Tw w) :
    Calls Tryd.prog 13 #[.agg #[.int .i64 c, .int .i64 r, .bool cf, .bool rf]] w fun e w' =>
      e = .returned (.tuple #[.string ⟨(txtL c r cf rf).toArray⟩, .int .i64 (txtE c r)]) ∧ Below w.heap.size w w' := by
  by_cases hv : vC c r = true
  · obtain ⟨b1, b2, b3, b4⟩ := (vC_iff c r).1 hv
    have e1 : txtE c r = 0 := by unfold txtE; rw [if_pos hv]
    have e2 : txtL c r cf rf = txt c r cf rf := by unfold txtL; rw [if_pos hv]
    rw [e1, e2]
    refine pText_core c r cf rf w _ (lets 9 c.toNat) (Lib.itoa r) (by have := lets_len 9 c.toNat; omega) (by rw [← digs_itoa r b3 b4]; have := digs_len 13 r.toNat; omega) (fun w => by have := pValid_at c r w; rwa [hv] at this) (fun w => pcolumn_any c b1 b2 w) (fun w' hb => (Tryd.strconv_Itoa r (by omega) (by omega) w' (ht.bel hb)).mono fun e w'' h => ⟨h.1, grow_below h.2⟩) ?_
    show _ = _
    unfold txt sgL
    rw [digs_itoa r b3 b4]
  · have hv' : vC c r = false := by simpa using hv
    have e1 : txtE c r = 20 := by unfold txtE; rw [if_neg hv]
    have e2 : txtL c r cf rf = [] := by unfold txtL; rw [if_neg hv]
    rw [e1, e2]
    have H1 : Hid (∀ w, Calls Tryd.prog 9 #[.agg #[.int .i64 c, .int .i64 r]] w fun e w' => e = .returned (.bool false) ∧ w' = w.alloc (.cells #[.int .i64 c, .int .i64 r] 23)) := fun w => by have := pValid_at c r w; rwa [hv'] at this
    clear hv hv' e1 e2
    go_enter Tryd.func13, Tryd.ntmps13
    go_wp2_with fail
    refine (H1.out _).mono ?_
    rintro e w' ⟨rfl, rfl⟩
    go_wp2_with fail
    go_ret2
    exact ⟨rfl, ((Below.refl _ _).alloc (Nat.le_refl _) _).alloc (by simp) _⟩
theorem pText_27 (w : World) :
    Calls Tryd.prog 13 #[.agg #[.int .i64 27, .int .i64 10, .bool false, .bool true]] w fun e w' => e = .returned (.tuple #[.string ⟨#[65, 65, 36, 49, 48]⟩, .int .i64 0]) ∧ Below w.heap.size w w' := by
  refine pText_core 27 10 false true w [65, 65, 36, 49, 48] [65, 65] [49, 48] (by decide) (by decide) (fun w => pValid_at 27 10 w) (fun w => pcolumn_any 27 (by decide) (by decide) w) (fun w' hb => ?_) rfl
  refine (Tryd.strconv_Itoa_small 10 (by decide) w').mono fun e w'' h => ⟨?_, ?_⟩
  · rw [h.1]
    rw [show Lib.decDigits 10 = [49, 48] by rw [Lib.decDigits_two (by decide) (by decide)]; rfl]
  · rw [h.2]; exact Below.refl _ _
end Go.Proofs.YthehdloofamadaaDoor
