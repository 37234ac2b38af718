/- The document's sameX (quadrilleref12), bits, number, Same, OfNumber (quadrilleref14). The document's Count, Depth and bare (quadrilleref12). The document's noValue and noNode (quadrilleref17). The document's well made nodes are the program's. No function of the program here. -/
import Derived.Test.YtbkcebbddhaifaaGreatDoorB13
namespace Go.Proofs.YtbkcebbddhaifaaGreatDoor
open Go.RowKit

theorem rone_nat (x : Nat) (hx : x < 18446744073709551616) (w : World) :
    Calls Tryz.prog 148 #[.int .u64 (x : Int)] w fun e w' => e = .returned (.int .u64 (one x : Nat)) ∧ w' = w := by
  have := rone_any (x : Int) (show (0 : Int) ≤ x by omega) (show (x : Int) < 18446744073709551616 by omega) w
  rw [Int.toNat_natCast] at this
  exact this
set_option maxHeartbeats 1000000 in
theorem rsameX_at (a b : Nat) (ha : a < 18446744073709551616) (hb : b < 18446744073709551616) (w : World) :
    Calls Tryz.prog 133 #[.float .f64 a, .float .f64 b] w fun e w' => e = .returned (.bool (fsame a b)) ∧ w' = w := by
  have H1 : Hid (∀ w, Calls Tryz.prog 148 #[.int .u64 (a : Int)] w fun e w' => e = .returned (.int .u64 (one a : Nat)) ∧ w' = w) := rone_nat a ha
  have H2 : Hid (∀ w, Calls Tryz.prog 148 #[.int .u64 (b : Int)] w fun e w' => e = .returned (.int .u64 (one b : Nat)) ∧ w' = w) := rone_nat b hb
  have hV : Hid (fsame a b = decide (one a = one b)) := rfl
  generalize fsame a b = V at *
  generalize one a = x at *
  generalize one b = y at *
  go_enter Tryz.func133, Tryz.ntmps133
  go_wp2_with fail
  refine (H1.out _).mono ?_
  rintro e w1 ⟨rfl, rfl⟩
  go_wp2_with fail
  refine (H2.out _).mono ?_
  rintro e w2 ⟨rfl, rfl⟩
  go_wp2_with fail
  go_ret
  refine ⟨rBool ?_, rfl⟩
  rw [hV.out, Bool.eq_iff_iff]
  simp only [beq_iff_eq, decide_eq_true_eq]
  omega
set_option maxHeartbeats 1000000 in
theorem rbits_at (a : Nat) (ha : a < 18446744073709551616) (w : World) :
    Calls Tryz.prog 132 #[.float .f64 a] w fun e w' => e = .returned (.int .u64 (one a : Nat)) ∧ w' = w := by
  have H1 : Hid (∀ w, Calls Tryz.prog 148 #[.int .u64 (a : Int)] w fun e w' => e = .returned (.int .u64 (one a : Nat)) ∧ w' = w) := rone_nat a ha
  generalize one a = x at *
  go_enter Tryz.func132, Tryz.ntmps132
  go_wp2_with (go_at_call 148; refine (H1.out _).mono ?_; rintro e w1 ⟨rfl, rfl⟩)
  go_ret
  exact ⟨rfl, rfl⟩
/-- The same, as the document says it? -/
def vsame (v u : Vl) : Bool := v.k == u.k && (if v.k = 1 then fsame v.x u.x else if v.k = 2 then decide (v.s.toList = u.s.toList) else if v.k = 3 then v.b == u.b else if v.k = 4 then v.f == u.f else true)
set_option maxRecDepth 20000 in
set_option maxHeartbeats 8000000 in
theorem rvSame_at (v u : Vl) (hv : v.x < 18446744073709551616) (hu : u.x < 18446744073709551616) (w : World) :
    Calls Tryz.prog 91 #[v.val, u.val] w fun e w' => e = .returned (.bool (vsame v u)) ∧ Kp w w' Nul := by
  have H1 : Hid (∀ w, Calls Tryz.prog 132 #[.float .f64 v.x] w fun e w' => e = .returned (.int .u64 (one v.x : Nat)) ∧ w' = w) := rbits_at v.x hv
  have H2 : Hid (∀ w, Calls Tryz.prog 132 #[.float .f64 u.x] w fun e w' => e = .returned (.int .u64 (one u.x : Nat)) ∧ w' = w) := rbits_at u.x hu
  have hV : Hid (vsame v u = (v.k == u.k && (if v.k = 1 then decide (one v.x = one u.x) else if v.k = 2 then decide (v.s.toList = u.s.toList) else if v.k = 3 then v.b == u.b else if v.k = 4 then v.f == u.f else true))) := rfl
  generalize vsame v u = V at *
  generalize one v.x = x1 at *
  generalize one u.x = x2 at *
  obtain ⟨k, x, s, b, f⟩ := v
  obtain ⟨k', x', s', b', f'⟩ := u
  simp only at *
  clear hv hu
  by_cases hk : k = k'
  · subst hk
    by_cases k1 : k = 1
    · subst k1
      have HE : Hid (V = decide (x1 = x2)) := by show _ = _; rw [hV.out]; simp
      clear hV
      go_enter Tryz.func91, Tryz.ntmps91
      go_wp2_with fail
      go_region_with (first | (go_at_call 132; refine (H1.out _).mono ?_; rintro e w' ⟨rfl, rfl⟩) | (go_at_call 132; refine (H2.out _).mono ?_; rintro e w' ⟨rfl, rfl⟩))
      all_goals
        go_wp2_with fail
        go_ret
        refine ⟨rBool ?_, by repeat (first | exact Kp.refl _ _ | refine Kp.alloc ?_ _ | refine Kp.drew ?_)⟩
        rw [HE.out, Bool.eq_iff_iff]
        simp only [beq_iff_eq, decide_eq_true_eq]
        omega
    · have e1 : (k == 1) = false := by simpa using k1
      clear H1 H2
      go_enter Tryz.func91, Tryz.ntmps91
      go_wp2_with fail
      all_goals
        go_ret
        refine ⟨rBool ?_, by repeat (first | exact Kp.refl _ _ | refine Kp.alloc ?_ _ | refine Kp.drew ?_)⟩
        rw [hV.out]
        clear hV
        (try simp_all) <;> (try (rw [Bool.eq_iff_iff]; simp))
  · have e1 : (k == k') = false := by simpa using hk
    have HE : Hid (V = false) := by show _ = _; rw [hV.out, e1]; rfl
    clear H1 H2 hV
    go_enter Tryz.func91, Tryz.ntmps91
    go_wp2_with fail
    all_goals
      go_ret
      exact ⟨rBool HE.out.symm, by repeat (first | exact Kp.refl _ _ | refine Kp.alloc ?_ _ | refine Kp.drew ?_)⟩
end Go.Proofs.YtbkcebbddhaifaaGreatDoor
namespace Go.Proofs.YtbkcebbddhaifaaGreatDoor
open Go.RowKit

set_option maxRecDepth 20000 in
set_option maxHeartbeats 4000000 in
theorem rcount_any (N : Nat) : ∀ (t : Nd) (sl : Value) (F : Nat → Prop) (w : World), t.size ≤ N → N ≤ 1048576 → NdIn w F sl t →
    Calls Tryz.prog 102 #[t.hd.val sl] w fun e w' => e = .returned (.int .i64 (t.size : Nat)) ∧ Gr w w' := by
  induction N with
  | zero => intro t sl F w h; have := size_pos t; omega
  | succ N ih =>
    intro t sl F w hN hB hin
    have hdl : t.size ≤ t.size := Nat.le_refl _
    obtain ⟨hd, ts⟩ := t
    rw [NdIn] at hin
    obtain ⟨a, c, rfl, h2, h3, h4⟩ := hin
    have hsz : Hid ((Nd.mk hd ts).size = 1 + sizeL ts) := by show _ = _; rw [Nd.size]
    have hdp : Hid ((Nd.mk hd ts).size = 1 + sizeL ts) := by show _ = _; rw [Nd.size]
    have HN : Hid ((Nd.mk hd ts).size ≤ N + 1) := hN
    have HBd : Hid (N + 1 ≤ 1048576) := hB
    have IH : Hid (∀ (t : Nd) (sl : Value) (F : Nat → Prop) (w : World), t.size ≤ N → N ≤ 1048576 → NdIn w F sl t →
      Calls Tryz.prog 102 #[t.hd.val sl] w fun e w' => e = .returned (.int .i64 (t.size : Nat)) ∧ Gr w w') := ih
    clear ih hN hB
    have hlen : ts.length ≤ 9223372036854775807 := by unfold maxLen at h3; omega
    have H4 : Hid ((ts = [] ∧ (c = 0 ∨ a ≠ none)) ∨ ∃ b o, a = some ⟨b, o, none⟩ ∧ F b ∧ NdsIn w F b o ts) := h4
    have HD : Hid (sizeL ts ≤ 1048576) := by show _ ≤ _; have := HN.out; have := HBd.out; have := hdp.out; omega
    clear h4 h2 h3 hdl
    generalize hn : ts.length = n at *
    have HL : Hid (ts.length = n) := hn
    have HLEN : Hid (n ≤ 9223372036854775807) := hlen
    clear hn hlen
    generalize hW : (Nd.mk hd ts).size = S at *
    simp only [Nd.hd]
    obtain ⟨k, o', x, s, bb, f, c1, r1, p1, q1, c2, r2, p2, q2⟩ := hd
    go_enter Tryz.func102, Tryz.ntmps102
    go_wp2_with fail
    generalize hW0 : (w.alloc (.cells #[.int .i64 k, .int .i64 o', .float .f64 x, .string s, .bool bb, .int .i64 f, .int .i64 c1, .int .i64 r1, .bool p1, .bool q1, .int .i64 c2, .int .i64 r2, .bool p2, .bool q2, .slice a n c] 44)) = W0 at *
    have G0 : Hid (Gr w W0) := by show Gr _ _; rw [← hW0]; exact (Gr.refl w).alloc _ _
    have C0 : Hid (W0.cell? ⟨w.heap.size, 14, none⟩ = some (.slice a n c)) := by
      show _ = _
      rw [← hW0, World.cell?_alloc_at _ _ _ _ rfl]; rfl
    have HB : Hid (w.heap.size < W0.heap.size) := cell_lt C0.out
    clear hW0
    go_loopw [3, 4] (fun s i wr => ∃ k : Nat, k ≤ n ∧ s = .int .i64 (1 + sizeL (ts.take k) : Nat) ∧ i = .int .i64 k ∧ Gr W0 wr) (fun _ i _ => n - (intOf i).toNat)
    case atStart => exact ⟨0, Nat.zero_le _, by simp [sizeL], by simp, Gr.refl _⟩
    case round =>
      obtain ⟨k, hk, rfl, rfl, hg⟩ := hrel
      have GR : Hid (Gr W0 wr) := hg
      have cl : wr.cell? ⟨w.heap.size, 14, none⟩ = some (.slice a n c) := hg.cell HB.out C0.out
      clear hg
      by_cases hlt : k < n
      · have hki : k < ts.length := by rw [HL.out]; exact hlt
        obtain ⟨b, o, rfl, hF, hns⟩ : ∃ b o, a = some ⟨b, o, none⟩ ∧ F b ∧ NdsIn w F b o ts := by
          rcases H4.out with h | h
          · rw [h.1] at hki; simp at hki
          · exact h
        obtain ⟨sl, hr, hni⟩ := hns.get k hki
        have G1 : Gr w wr := G0.out.trans GR.out
        have HR : Hid (wr.rangeAt b (o + k * 15) ((ts[k]).hd.cells sl)) := rangeAt_gr hr G1
        have hni' := hni.gr G1
        have hs1 := size_get ts k hki
        have HC : Hid (∀ wq, Gr wr wq → Calls Tryz.prog 102 #[(ts[k]).hd.val sl] wq fun e w' => e = .returned (.int .i64 ((ts[k]).size : Nat)) ∧ Gr wq w') := fun wq hq => IH.out ts[k] sl F wq (by have := HN.out; have := hsz.out; omega) (by have := HBd.out; omega) (hni'.gr hq)
        have hA : Hid (sizeL (ts.take (k + 1)) = sizeL (ts.take k) + (ts[k]).size) := sizeL_take ts k hki
        have hbd : sizeL (ts.take (k + 1)) ≤ 1048576 := by
          have := HD.out
          have h9 : sizeL (ts.take (k + 1)) ≤ sizeL ts := sizeL_take_le ts (k + 1)
          have := HN.out
          have := HBd.out
          have := hsz.out
          omega
        rw [hA.out] at hbd
        clear hs1 hni hni' hr hns
        generalize (ts[k]).size = z at *
        generalize (ts[k]).hd = hh at *
        generalize sizeL (ts.take k) = y at *
        have hkb : (k : Int) + 1 ≤ 9223372036854775807 := by have := HLEN.out; omega
        have hz1 : z ≤ 1048576 := by omega
        have hy1 : y ≤ 1048576 := by omega
        clear hW hbd
        as_aux_lemma =>
        go_wp2_with (refine wpList_load_mid rfl 44 (.tmp 16) rfl b (o + k * 15) rfl (hh.cells sl) _ HR.out Tryz.underlying44 rfl infoNode ?_)
        refine (HC.out _ (Gr.refl _)).mono ?_
        rintro e w1 ⟨rfl, hg1⟩
        have G2 : Hid (Gr W0 w1) := GR.out.trans hg1
        clear hg1 cl
        go_wp2_with fail
        go_roundw
        case rel => exact ⟨k + 1, by omega, by rw [hA.out]; congr 1; omega, by go_num, G2.out⟩
        case measure => simp only [intOf]; omega
      · have hke : k = n := by omega
        subst hke
        have hw4 : Hid (1 + sizeL (ts.take k) = S) := by
          show _ = _
          rw [← HL.out, List.take_length, ← hdp.out]
        have hd1 : sizeL (ts.take k) ≤ 1048576 := by rw [← HL.out, List.take_length]; exact HD.out
        generalize sizeL (ts.take k) = y at *
        clear hW
        as_aux_lemma =>
        go_wp2_with fail
        go_ret
        exact ⟨rInt (by have := hw4.out; omega), G0.out.trans GR.out⟩
set_option maxRecDepth 20000 in
set_option maxHeartbeats 4000000 in
theorem rdepth_any (N : Nat) : ∀ (t : Nd) (sl : Value) (F : Nat → Prop) (w : World), t.size ≤ N → N ≤ 1048576 → NdIn w F sl t →
    Calls Tryz.prog 103 #[t.hd.val sl] w fun e w' => e = .returned (.int .i64 (t.dep : Nat)) ∧ Gr w w' := by
  induction N with
  | zero => intro t sl F w h; have := size_pos t; omega
  | succ N ih =>
    intro t sl F w hN hB hin
    have hdl : t.dep ≤ t.size := dep_le t
    obtain ⟨hd, ts⟩ := t
    rw [NdIn] at hin
    obtain ⟨a, c, rfl, h2, h3, h4⟩ := hin
    have hsz : Hid ((Nd.mk hd ts).size = 1 + sizeL ts) := by show _ = _; rw [Nd.size]
    have hdp : Hid ((Nd.mk hd ts).dep = 1 + depL ts) := by show _ = _; rw [Nd.dep]
    have HN : Hid ((Nd.mk hd ts).size ≤ N + 1) := hN
    have HBd : Hid (N + 1 ≤ 1048576) := hB
    have IH : Hid (∀ (t : Nd) (sl : Value) (F : Nat → Prop) (w : World), t.size ≤ N → N ≤ 1048576 → NdIn w F sl t →
      Calls Tryz.prog 103 #[t.hd.val sl] w fun e w' => e = .returned (.int .i64 (t.dep : Nat)) ∧ Gr w w') := ih
    clear ih hN hB
    have hlen : ts.length ≤ 9223372036854775807 := by unfold maxLen at h3; omega
    have H4 : Hid ((ts = [] ∧ (c = 0 ∨ a ≠ none)) ∨ ∃ b o, a = some ⟨b, o, none⟩ ∧ F b ∧ NdsIn w F b o ts) := h4
    have HD : Hid (depL ts ≤ 1048576) := by show _ ≤ _; have := HN.out; have := HBd.out; have := hdp.out; omega
    clear h4 h2 h3 hdl
    generalize hn : ts.length = n at *
    have HL : Hid (ts.length = n) := hn
    have HLEN : Hid (n ≤ 9223372036854775807) := hlen
    clear hn hlen
    generalize hW : (Nd.mk hd ts).dep = S at *
    simp only [Nd.hd]
    obtain ⟨k, o', x, s, bb, f, c1, r1, p1, q1, c2, r2, p2, q2⟩ := hd
    go_enter Tryz.func103, Tryz.ntmps103
    go_wp2_with fail
    generalize hW0 : (w.alloc (.cells #[.int .i64 k, .int .i64 o', .float .f64 x, .string s, .bool bb, .int .i64 f, .int .i64 c1, .int .i64 r1, .bool p1, .bool q1, .int .i64 c2, .int .i64 r2, .bool p2, .bool q2, .slice a n c] 44)) = W0 at *
    have G0 : Hid (Gr w W0) := by show Gr _ _; rw [← hW0]; exact (Gr.refl w).alloc _ _
    have C0 : Hid (W0.cell? ⟨w.heap.size, 14, none⟩ = some (.slice a n c)) := by
      show _ = _
      rw [← hW0, World.cell?_alloc_at _ _ _ _ rfl]; rfl
    have HB : Hid (w.heap.size < W0.heap.size) := cell_lt C0.out
    clear hW0
    go_loopw [3, 4] (fun s i wr => ∃ k : Nat, k ≤ n ∧ s = .int .i64 (depL (ts.take k) : Nat) ∧ i = .int .i64 k ∧ Gr W0 wr) (fun _ i _ => n - (intOf i).toNat)
    case atStart => exact ⟨0, Nat.zero_le _, by simp [depL], by simp, Gr.refl _⟩
    case round =>
      obtain ⟨k, hk, rfl, rfl, hg⟩ := hrel
      have GR : Hid (Gr W0 wr) := hg
      have cl : wr.cell? ⟨w.heap.size, 14, none⟩ = some (.slice a n c) := hg.cell HB.out C0.out
      clear hg
      by_cases hlt : k < n
      · have hki : k < ts.length := by rw [HL.out]; exact hlt
        obtain ⟨b, o, rfl, hF, hns⟩ : ∃ b o, a = some ⟨b, o, none⟩ ∧ F b ∧ NdsIn w F b o ts := by
          rcases H4.out with h | h
          · rw [h.1] at hki; simp at hki
          · exact h
        obtain ⟨sl, hr, hni⟩ := hns.get k hki
        have G1 : Gr w wr := G0.out.trans GR.out
        have HR : Hid (wr.rangeAt b (o + k * 15) ((ts[k]).hd.cells sl)) := rangeAt_gr hr G1
        have hni' := hni.gr G1
        have hs1 := size_get ts k hki
        have HC : Hid (∀ wq, Gr wr wq → Calls Tryz.prog 103 #[(ts[k]).hd.val sl] wq fun e w' => e = .returned (.int .i64 ((ts[k]).dep : Nat)) ∧ Gr wq w') := fun wq hq => IH.out ts[k] sl F wq (by have := HN.out; have := hsz.out; omega) (by have := HBd.out; omega) (hni'.gr hq)
        have hA : Hid (depL (ts.take (k + 1)) = max (depL (ts.take k)) (ts[k]).dep) := depL_take ts k hki
        have hbd : depL (ts.take (k + 1)) ≤ 1048576 := by
          have := HD.out
          have h9 : depL (ts.take (k + 1)) ≤ sizeL ts := Nat.le_trans (depL_le _) (sizeL_take_le ts (k + 1))
          have := HN.out
          have := HBd.out
          have := hsz.out
          omega
        rw [hA.out] at hbd
        clear hs1 hni hni' hr hns
        generalize (ts[k]).dep = z at *
        generalize (ts[k]).hd = hh at *
        generalize depL (ts.take k) = y at *
        have hkb : (k : Int) + 1 ≤ 9223372036854775807 := by have := HLEN.out; omega
        skip
        clear hW hbd
        as_aux_lemma =>
        go_wp2_with (refine wpList_load_mid rfl 44 (.tmp 16) rfl b (o + k * 15) rfl (hh.cells sl) _ HR.out Tryz.underlying44 rfl infoNode ?_)
        refine (HC.out _ (Gr.refl _)).mono ?_
        rintro e w1 ⟨rfl, hg1⟩
        have G2 : Hid (Gr W0 w1) := GR.out.trans hg1
        clear hg1 cl
        go_wp2_with fail
        go_roundw
        case rel => exact ⟨k + 1, by omega, by rw [hA.out]; congr 1; split <;> omega, by go_num, G2.out⟩
        case measure => simp only [intOf]; omega
      · have hke : k = n := by omega
        subst hke
        have hw4 : Hid (1 + depL (ts.take k) = S) := by
          show _ = _
          rw [← HL.out, List.take_length, ← hdp.out]
        have hd1 : depL (ts.take k) ≤ 1048576 := by rw [← HL.out, List.take_length]; exact HD.out
        generalize depL (ts.take k) = y at *
        clear hW
        as_aux_lemma =>
        go_wp2_with fail
        go_ret
        exact ⟨rInt (by have := hw4.out; omega), G0.out.trans GR.out⟩
/-- All zero but what is let? -/
def bareB (o x s b f r t a : Bool) (h : Hd) (n : Nat) : Bool := (o || h.o == 0) && (x || (h.x : Int) == 0) && (s || decide (h.s.toList = [])) && (b || !h.b) && (f || h.f == 0) && (r || (h.c1 == 0 && h.r1 == 0 && h.p1 == false && h.q1 == false)) && (t || (h.c2 == 0 && h.r2 == 0 && h.p2 == false && h.q2 == false)) && (a || n == 0)
end Go.Proofs.YtbkcebbddhaifaaGreatDoor
namespace Go.Proofs.YtbkcebbddhaifaaGreatDoor
open Go.RowKit

theorem fsame_zero (x : Nat) : fsame x 0 = ((x : Int) == 0) := by
  unfold fsame
  have h0 : one 0 = 0 := rfl
  rw [h0, Bool.eq_iff_iff, decide_eq_true_eq, beq_iff_eq]
  unfold one
  split
  · rename_i h
    constructor
    · intro e; cases e
    · intro e
      have : x = 0 := by omega
      subst this
      exact absurd h (by decide)
  · omega
/-- All fields zero, no Args? -/
def noN (h : Hd) (n : Nat) : Bool := h.k == 0 && h.o == 0 && (h.x : Int) == 0 && decide (h.s.toList = []) && !h.b && h.f == 0 && (h.c1 == 0 && h.r1 == 0 && h.p1 == false && h.q1 == false) && (h.c2 == 0 && h.r2 == 0 && h.p2 == false && h.q2 == false) && n == 0
theorem noN_zero (t : Nd) : noN t.hd t.ts.length = zeroN t := by
  obtain ⟨h, ts⟩ := t
  show noN h ts.length = tsame (.mk h ts) zNd
  unfold zNd
  have e0 : (ByteArray.mk #[]).toList = [] := ByteArray.toList_mk []
  cases ts with
  | nil =>
    rw [tsame]
    unfold noN hsame zHd
    simp only [fsame_zero, e0, List.length_nil]
    cases h.b <;> simp [lsame]
  | cons t ts =>
    rw [tsame]
    unfold noN
    simp [lsame]
set_option maxRecDepth 20000 in
set_option maxHeartbeats 8000000 in
theorem noNode_at (h : Hd) (n : Nat) (a : Option Addr) (c : Nat) (w : World) :
    Calls Tryz.prog 113 #[h.val (.slice a n c)] w fun e w' => e = .returned (.bool (noN h n)) ∧ Gr w w' := by
  have e1 := eql_ref h.c1 h.r1 0 0 h.p1 h.q1 false false _ rfl
  have e2 := eql_ref h.c2 h.r2 0 0 h.p2 h.q2 false false _ rfl
  have hV : Hid (noN h n = (h.k == 0 && h.o == 0 && (h.x : Int) == 0 && decide (h.s.toList = []) && !h.b && h.f == 0 && (h.c1 == 0 && h.r1 == 0 && h.p1 == false && h.q1 == false) && (h.c2 == 0 && h.r2 == 0 && h.p2 == false && h.q2 == false) && n == 0)) := rfl
  have G0 : Hid (∀ a t, Gr w (w.alloc (.cells a t))) := fun a t => (Gr.refl w).alloc _ _
  generalize noN h n = V at *
  generalize (h.c1 == 0 && h.r1 == 0 && h.p1 == false && h.q1 == false) = b1 at *
  generalize (h.c2 == 0 && h.r2 == 0 && h.p2 == false && h.q2 == false) = b2 at *
  obtain ⟨k, o, x, s, b, f, c1, r1, p1, q1, c2, r2, p2, q2⟩ := h
  simp only at *
  go_enter Tryz.func113, Tryz.ntmps113
  go_wp2
  all_goals
    go_ret
    refine ⟨rBool ?_, G0.out _ _⟩
    rw [hV.out]
    clear hV G0 e1 e2
    (try simp_all) <;> (try (rw [Bool.eq_iff_iff]; simp))
set_option maxRecDepth 20000 in
set_option maxHeartbeats 8000000 in
theorem noValue_at (v : Vl) (w : World) :
    Calls Tryz.prog 112 #[v.val] w fun e w' => e = .returned (.bool (zeroV v)) ∧ Gr w w' := by
  have hV : Hid (zeroV v = (v.k == 0 && ((v.k == 1 || (v.x : Int) == 0) && (v.k == 2 || decide (v.s.toList = [])) && (v.k == 3 || !v.b) && (v.k == 4 || v.f == 0)))) := rfl
  have G0 : Hid (∀ a t, Gr w (w.alloc (.cells a t))) := fun a t => (Gr.refl w).alloc _ _
  generalize zeroV v = V at *
  obtain ⟨k, x, s, b, f⟩ := v
  simp only at *
  go_enter Tryz.func112, Tryz.ntmps112
  go_wp2
  all_goals
    go_ret
    refine ⟨rBool ?_, G0.out _ _⟩
    rw [hV.out]
    clear hV G0
    (try simp_all) <;> (try (rw [Bool.eq_iff_iff]; simp))
end Go.Proofs.YtbkcebbddhaifaaGreatDoor
namespace Go.Proofs.YtbkcebbddhaifaaGreatDoor
open Go.RowKit

/-- Well made, as the document says it; f: the number is finite, and no sign stands ahead; u: the text is right. -/
def madeB (h : Hd) (n : Nat) (f u : Bool) : Bool :=
  if h.k = 1 then bareB false true false false false false false false h n && f else
  if h.k = 2 then bareB false false true false false false false false h n && u && decide (h.s.size ≤ 1024) else
  if h.k = 3 then bareB false false false true false false false false h n else
  if h.k = 4 then bareB false false false false true false false false h n && decide (1 ≤ h.f) && decide (h.f ≤ 5) else
  if h.k = 5 then bareB false false false false false true false false h n else
  if h.k = 6 then bareB false false false false false true true false h n else
  if h.k = 7 then bareB true false false false false false false true h n && decide (1 ≤ h.o) && decide (h.o ≤ 3) && n == 1 else
  if h.k = 8 then bareB true false false false false false false true h n && decide (4 ≤ h.o) && decide (h.o ≤ 15) && n == 2 else
  if h.k = 9 then bareB false false true false false false false true h n else false
theorem fsame_self (x : Nat) : fsame x x = true := by unfold fsame; simp
set_option maxHeartbeats 4000000 in
theorem made_wm (h : Hd) (n : Nat) : madeB h n (plainX h.x) (Lib.validD h.s.data.toList) = wm h n := by
  have e0 : (ByteArray.mk #[]).toList = [] := ByteArray.toList_mk []
  obtain ⟨k, o, x, s, b, f, c1, r1, p1, q1, c2, r2, p2, q2⟩ := h
  unfold madeB wm wmJ
  simp only
  generalize plainX x = P
  generalize Lib.validD s.data.toList = U
  by_cases k1 : k = 1
  · subst k1
    simp [bareB, hsame, zHd, fsame_self, e0]
    try (rw [Bool.eq_iff_iff]; simp; constructor <;> (intro h; simp_all))
  by_cases k2 : k = 2
  · subst k2
    simp [bareB, hsame, zHd, fsame_zero]
    try (rw [Bool.eq_iff_iff]; simp; constructor <;> (intro h; simp_all))
  by_cases k3 : k = 3
  · subst k3
    simp [bareB, hsame, zHd, fsame_zero, e0]
    try (rw [Bool.eq_iff_iff]; simp; constructor <;> (intro h; simp_all))
  by_cases k4 : k = 4
  · subst k4
    simp [bareB, hsame, zHd, fsame_zero, e0]
    try (rw [Bool.eq_iff_iff]; simp; constructor <;> (intro h; simp_all))
  by_cases k5 : k = 5
  · subst k5
    simp [bareB, hsame, zHd, fsame_zero, e0]
    try (rw [Bool.eq_iff_iff]; simp; constructor <;> (intro h; simp_all))
  by_cases k6 : k = 6
  · subst k6
    simp [bareB, hsame, zHd, fsame_zero, e0]
    try (rw [Bool.eq_iff_iff]; simp; constructor <;> (intro h; simp_all))
  by_cases k7 : k = 7
  · subst k7
    simp [bareB, hsame, zHd, fsame_zero, e0]
    try (rw [Bool.eq_iff_iff]; simp; constructor <;> (intro h; simp_all))
  by_cases k8 : k = 8
  · subst k8
    simp [bareB, hsame, zHd, fsame_zero, e0]
    try (rw [Bool.eq_iff_iff]; simp; constructor <;> (intro h; simp_all))
  by_cases k9 : k = 9
  · subst k9
    simp [bareB, hsame, zHd, fsame_zero]
    try (rw [Bool.eq_iff_iff]; simp; constructor <;> (intro h; simp_all [fsame_self, fsame_zero]))
  simp [k1, k2, k3, k4, k5, k6, k7, k8, k9]
end Go.Proofs.YtbkcebbddhaifaaGreatDoor
