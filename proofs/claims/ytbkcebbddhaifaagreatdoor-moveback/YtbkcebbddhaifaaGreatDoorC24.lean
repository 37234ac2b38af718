/- The document's sameX (quadrilleref12), bits, number, Same, OfNumber (quadrilleref14). The document's Count, Depth and bare (quadrilleref12). The document's noValue and noNode (quadrilleref17). The document's well made nodes are the program's. No function of the program here. The document's one and Known (quadrilleref12): a name in a row of names. The document's Known (quadrilleref12). -/
import Derived.Test.YtbkcebbddhaifaaGreatDoorC13
namespace Go.Proofs.YtbkcebbddhaifaaGreatDoor
open Go.RowKit

theorem rone_nat (x : Nat) (hx : x < 18446744073709551616) (w : World) :
    Calls Tryz.prog 148 #[.int .u64 (x : Int)] w fun e w' => e = .returned (.int .u64 (one x : Nat)) ∧ w' = w := by
  have := rone_any (x : Int) (show (0 : Int) ≤ x by omega) (show (x : Int) < 18446744073709551616 by omega) w
  rw [Int.toNat_natCast] at this
  exact this
set_option maxHeartbeats 1000000 in
theorem rsameX_at (a b : Nat) (ha : a < 18446744073709551616) (hb : b < 18446744073709551616) (w : World) :
    Calls Tryz.prog 133 #[.float .f64 a, .float .f64 b] w fun e w' => e = .returned (.bool (fsame a b)) ∧ w' = w := by
  have H1 : Hid (∀ w, Calls Tryz.prog 148 #[.int .u64 (a : Int)] w fun e w' => e = .returned (.int .u64 (one a : Nat)) ∧ w' = w) := rone_nat a ha
  have H2 : Hid (∀ w, Calls Tryz.prog 148 #[.int .u64 (b : Int)] w fun e w' => e = .returned (.int .u64 (one b : Nat)) ∧ w' = w) := rone_nat b hb
  have hV : Hid (fsame a b = decide (one a = one b)) := rfl
  generalize fsame a b = V at *
  generalize one a = x at *
  generalize one b = y at *
  go_enter Tryz.func133, Tryz.ntmps133
  go_wp2_with fail
  refine (H1.out _).mono ?_
  rintro e w1 ⟨rfl, rfl⟩
  go_wp2_with fail
  refine (H2.out _).mono ?_
  rintro e w2 ⟨rfl, rfl⟩
  go_wp2_with fail
  go_ret
  refine ⟨rBool ?_, rfl⟩
  rw [hV.out, Bool.eq_iff_iff]
  simp only [beq_iff_eq, decide_eq_true_eq]
  omega
set_option maxHeartbeats 1000000 in
theorem rbits_at (a : Nat) (ha : a < 18446744073709551616) (w : World) :
    Calls Tryz.prog 132 #[.float .f64 a] w fun e w' => e = .returned (.int .u64 (one a : Nat)) ∧ w' = w := by
  have H1 : Hid (∀ w, Calls Tryz.prog 148 #[.int .u64 (a : Int)] w fun e w' => e = .returned (.int .u64 (one a : Nat)) ∧ w' = w) := rone_nat a ha
  generalize one a = x at *
  go_enter Tryz.func132, Tryz.ntmps132
  go_wp2_with (go_at_call 148; refine (H1.out _).mono ?_; rintro e w1 ⟨rfl, rfl⟩)
  go_ret
  exact ⟨rfl, rfl⟩
/-- The same, as the document says it? -/
def vsame (v u : Vl) : Bool := v.k == u.k && (if v.k = 1 then fsame v.x u.x else if v.k = 2 then decide (v.s.toList = u.s.toList) else if v.k = 3 then v.b == u.b else if v.k = 4 then v.f == u.f else true)
set_option maxRecDepth 20000 in
set_option maxHeartbeats 8000000 in
theorem rvSame_at (v u : Vl) (hv : v.x < 18446744073709551616) (hu : u.x < 18446744073709551616) (w : World) :
    Calls Tryz.prog 91 #[v.val, u.val] w fun e w' => e = .returned (.bool (vsame v u)) ∧ Kp w w' Nul := by
  have H1 : Hid (∀ w, Calls Tryz.prog 132 #[.float .f64 v.x] w fun e w' => e = .returned (.int .u64 (one v.x : Nat)) ∧ w' = w) := rbits_at v.x hv
  have H2 : Hid (∀ w, Calls Tryz.prog 132 #[.float .f64 u.x] w fun e w' => e = .returned (.int .u64 (one u.x : Nat)) ∧ w' = w) := rbits_at u.x hu
  have hV : Hid (vsame v u = (v.k == u.k && (if v.k = 1 then decide (one v.x = one u.x) else if v.k = 2 then decide (v.s.toList = u.s.toList) else if v.k = 3 then v.b == u.b else if v.k = 4 then v.f == u.f else true))) := rfl
  generalize vsame v u = V at *
  generalize one v.x = x1 at *
  generalize one u.x = x2 at *
  obtain ⟨k, x, s, b, f⟩ := v
  obtain ⟨k', x', s', b', f'⟩ := u
  simp only at *
  clear hv hu
  by_cases hk : k = k'
  · subst hk
    by_cases k1 : k = 1
    · subst k1
      have HE : Hid (V = decide (x1 = x2)) := by show _ = _; rw [hV.out]; simp
      clear hV
      go_enter Tryz.func91, Tryz.ntmps91
      go_wp2_with fail
      go_region_with (first | (go_at_call 132; refine (H1.out _).mono ?_; rintro e w' ⟨rfl, rfl⟩) | (go_at_call 132; refine (H2.out _).mono ?_; rintro e w' ⟨rfl, rfl⟩))
      all_goals
        go_wp2_with fail
        go_ret
        refine ⟨rBool ?_, by repeat (first | exact Kp.refl _ _ | refine Kp.alloc ?_ _ | refine Kp.drew ?_)⟩
        rw [HE.out, Bool.eq_iff_iff]
        simp only [beq_iff_eq, decide_eq_true_eq]
        omega
    · have e1 : (k == 1) = false := by simpa using k1
      clear H1 H2
      go_enter Tryz.func91, Tryz.ntmps91
      go_wp2_with fail
      all_goals
        go_ret
        refine ⟨rBool ?_, by repeat (first | exact Kp.refl _ _ | refine Kp.alloc ?_ _ | refine Kp.drew ?_)⟩
        rw [hV.out]
        clear hV
        (try simp_all) <;> (try (rw [Bool.eq_iff_iff]; simp))
  · have e1 : (k == k') = false := by simpa using hk
    have HE : Hid (V = false) := by show _ = _; rw [hV.out, e1]; rfl
    clear H1 H2 hV
    go_enter Tryz.func91, Tryz.ntmps91
    go_wp2_with fail
    all_goals
      go_ret
      exact ⟨rBool HE.out.symm, by repeat (first | exact Kp.refl _ _ | refine Kp.alloc ?_ _ | refine Kp.drew ?_)⟩
end Go.Proofs.YtbkcebbddhaifaaGreatDoor
namespace Go.Proofs.YtbkcebbddhaifaaGreatDoor
open Go.RowKit

set_option maxRecDepth 20000 in
set_option maxHeartbeats 4000000 in
theorem rcount_any (N : Nat) : ∀ (t : Nd) (sl : Value) (F : Nat → Prop) (w : World), t.size ≤ N → N ≤ 1048576 → NdIn w F sl t →
    Calls Tryz.prog 102 #[t.hd.val sl] w fun e w' => e = .returned (.int .i64 (t.size : Nat)) ∧ Gr w w' := by
  induction N with
  | zero => intro t sl F w h; have := size_pos t; omega
  | succ N ih =>
    intro t sl F w hN hB hin
    have hdl : t.size ≤ t.size := Nat.le_refl _
    obtain ⟨hd, ts⟩ := t
    rw [NdIn] at hin
    obtain ⟨a, c, rfl, h2, h3, h4⟩ := hin
    have hsz : Hid ((Nd.mk hd ts).size = 1 + sizeL ts) := by show _ = _; rw [Nd.size]
    have hdp : Hid ((Nd.mk hd ts).size = 1 + sizeL ts) := by show _ = _; rw [Nd.size]
    have HN : Hid ((Nd.mk hd ts).size ≤ N + 1) := hN
    have HBd : Hid (N + 1 ≤ 1048576) := hB
    have IH : Hid (∀ (t : Nd) (sl : Value) (F : Nat → Prop) (w : World), t.size ≤ N → N ≤ 1048576 → NdIn w F sl t →
      Calls Tryz.prog 102 #[t.hd.val sl] w fun e w' => e = .returned (.int .i64 (t.size : Nat)) ∧ Gr w w') := ih
    clear ih hN hB
    have hlen : ts.length ≤ 9223372036854775807 := by unfold maxLen at h3; omega
    have H4 : Hid ((ts = [] ∧ (c = 0 ∨ a ≠ none)) ∨ ∃ b o, a = some ⟨b, o, none⟩ ∧ F b ∧ NdsIn w F b o ts) := h4
    have HD : Hid (sizeL ts ≤ 1048576) := by show _ ≤ _; have := HN.out; have := HBd.out; have := hdp.out; omega
    clear h4 h2 h3 hdl
    generalize hn : ts.length = n at *
    have HL : Hid (ts.length = n) := hn
    have HLEN : Hid (n ≤ 9223372036854775807) := hlen
    clear hn hlen
    generalize hW : (Nd.mk hd ts).size = S at *
    simp only [Nd.hd]
    obtain ⟨k, o', x, s, bb, f, c1, r1, p1, q1, c2, r2, p2, q2⟩ := hd
    go_enter Tryz.func102, Tryz.ntmps102
    go_wp2_with fail
    generalize hW0 : (w.alloc (.cells #[.int .i64 k, .int .i64 o', .float .f64 x, .string s, .bool bb, .int .i64 f, .int .i64 c1, .int .i64 r1, .bool p1, .bool q1, .int .i64 c2, .int .i64 r2, .bool p2, .bool q2, .slice a n c] 44)) = W0 at *
    have G0 : Hid (Gr w W0) := by show Gr _ _; rw [← hW0]; exact (Gr.refl w).alloc _ _
    have C0 : Hid (W0.cell? ⟨w.heap.size, 14, none⟩ = some (.slice a n c)) := by
      show _ = _
      rw [← hW0, World.cell?_alloc_at _ _ _ _ rfl]; rfl
    have HB : Hid (w.heap.size < W0.heap.size) := cell_lt C0.out
    clear hW0
    go_loopw [3, 4] (fun s i wr => ∃ k : Nat, k ≤ n ∧ s = .int .i64 (1 + sizeL (ts.take k) : Nat) ∧ i = .int .i64 k ∧ Gr W0 wr) (fun _ i _ => n - (intOf i).toNat)
    case atStart => exact ⟨0, Nat.zero_le _, by simp [sizeL], by simp, Gr.refl _⟩
    case round =>
      obtain ⟨k, hk, rfl, rfl, hg⟩ := hrel
      have GR : Hid (Gr W0 wr) := hg
      have cl : wr.cell? ⟨w.heap.size, 14, none⟩ = some (.slice a n c) := hg.cell HB.out C0.out
      clear hg
      by_cases hlt : k < n
      · have hki : k < ts.length := by rw [HL.out]; exact hlt
        obtain ⟨b, o, rfl, hF, hns⟩ : ∃ b o, a = some ⟨b, o, none⟩ ∧ F b ∧ NdsIn w F b o ts := by
          rcases H4.out with h | h
          · rw [h.1] at hki; simp at hki
          · exact h
        obtain ⟨sl, hr, hni⟩ := hns.get k hki
        have G1 : Gr w wr := G0.out.trans GR.out
        have HR : Hid (wr.rangeAt b (o + k * 15) ((ts[k]).hd.cells sl)) := rangeAt_gr hr G1
        have hni' := hni.gr G1
        have hs1 := size_get ts k hki
        have HC : Hid (∀ wq, Gr wr wq → Calls Tryz.prog 102 #[(ts[k]).hd.val sl] wq fun e w' => e = .returned (.int .i64 ((ts[k]).size : Nat)) ∧ Gr wq w') := fun wq hq => IH.out ts[k] sl F wq (by have := HN.out; have := hsz.out; omega) (by have := HBd.out; omega) (hni'.gr hq)
        have hA : Hid (sizeL (ts.take (k + 1)) = sizeL (ts.take k) + (ts[k]).size) := sizeL_take ts k hki
        have hbd : sizeL (ts.take (k + 1)) ≤ 1048576 := by
          have := HD.out
          have h9 : sizeL (ts.take (k + 1)) ≤ sizeL ts := sizeL_take_le ts (k + 1)
          have := HN.out
          have := HBd.out
          have := hsz.out
          omega
        rw [hA.out] at hbd
        clear hs1 hni hni' hr hns
        generalize (ts[k]).size = z at *
        generalize (ts[k]).hd = hh at *
        generalize sizeL (ts.take k) = y at *
        have hkb : (k : Int) + 1 ≤ 9223372036854775807 := by have := HLEN.out; omega
        have hz1 : z ≤ 1048576 := by omega
        have hy1 : y ≤ 1048576 := by omega
        clear hW hbd
        as_aux_lemma =>
        go_wp2_with (refine wpList_load_mid rfl 44 (.tmp 16) rfl b (o + k * 15) rfl (hh.cells sl) _ HR.out Tryz.underlying44 rfl infoNode ?_)
        refine (HC.out _ (Gr.refl _)).mono ?_
        rintro e w1 ⟨rfl, hg1⟩
        have G2 : Hid (Gr W0 w1) := GR.out.trans hg1
        clear hg1 cl
        go_wp2_with fail
        go_roundw
        case rel => exact ⟨k + 1, by omega, by rw [hA.out]; congr 1; omega, by go_num, G2.out⟩
        case measure => simp only [intOf]; omega
      · have hke : k = n := by omega
        subst hke
        have hw4 : Hid (1 + sizeL (ts.take k) = S) := by
          show _ = _
          rw [← HL.out, List.take_length, ← hdp.out]
        have hd1 : sizeL (ts.take k) ≤ 1048576 := by rw [← HL.out, List.take_length]; exact HD.out
        generalize sizeL (ts.take k) = y at *
        clear hW
        as_aux_lemma =>
        go_wp2_with fail
        go_ret
        exact ⟨rInt (by have := hw4.out; omega), G0.out.trans GR.out⟩
set_option maxRecDepth 20000 in
set_option maxHeartbeats 4000000 in
theorem rdepth_any (N : Nat) : ∀ (t : Nd) (sl : Value) (F : Nat → Prop) (w : World), t.size ≤ N → N ≤ 1048576 → NdIn w F sl t →
    Calls Tryz.prog 103 #[t.hd.val sl] w fun e w' => e = .returned (.int .i64 (t.dep : Nat)) ∧ Gr w w' := by
  induction N with
  | zero => intro t sl F w h; have := size_pos t; omega
  | succ N ih =>
    intro t sl F w hN hB hin
    have hdl : t.dep ≤ t.size := dep_le t
    obtain ⟨hd, ts⟩ := t
    rw [NdIn] at hin
    obtain ⟨a, c, rfl, h2, h3, h4⟩ := hin
    have hsz : Hid ((Nd.mk hd ts).size = 1 + sizeL ts) := by show _ = _; rw [Nd.size]
    have hdp : Hid ((Nd.mk hd ts).dep = 1 + depL ts) := by show _ = _; rw [Nd.dep]
    have HN : Hid ((Nd.mk hd ts).size ≤ N + 1) := hN
    have HBd : Hid (N + 1 ≤ 1048576) := hB
    have IH : Hid (∀ (t : Nd) (sl : Value) (F : Nat → Prop) (w : World), t.size ≤ N → N ≤ 1048576 → NdIn w F sl t →
      Calls Tryz.prog 103 #[t.hd.val sl] w fun e w' => e = .returned (.int .i64 (t.dep : Nat)) ∧ Gr w w') := ih
    clear ih hN hB
    have hlen : ts.length ≤ 9223372036854775807 := by unfold maxLen at h3; omega
    have H4 : Hid ((ts = [] ∧ (c = 0 ∨ a ≠ none)) ∨ ∃ b o, a = some ⟨b, o, none⟩ ∧ F b ∧ NdsIn w F b o ts) := h4
    have HD : Hid (depL ts ≤ 1048576) := by show _ ≤ _; have := HN.out; have := HBd.out; have := hdp.out; omega
    clear h4 h2 h3 hdl
    generalize hn : ts.length = n at *
    have HL : Hid (ts.length = n) := hn
    have HLEN : Hid (n ≤ 9223372036854775807) := hlen
    clear hn hlen
    generalize hW : (Nd.mk hd ts).dep = S at *
    simp only [Nd.hd]
    obtain ⟨k, o', x, s, bb, f, c1, r1, p1, q1, c2, r2, p2, q2⟩ := hd
    go_enter Tryz.func103, Tryz.ntmps103
    go_wp2_with fail
    generalize hW0 : (w.alloc (.cells #[.int .i64 k, .int .i64 o', .float .f64 x, .string s, .bool bb, .int .i64 f, .int .i64 c1, .int .i64 r1, .bool p1, .bool q1, .int .i64 c2, .int .i64 r2, .bool p2, .bool q2, .slice a n c] 44)) = W0 at *
    have G0 : Hid (Gr w W0) := by show Gr _ _; rw [← hW0]; exact (Gr.refl w).alloc _ _
    have C0 : Hid (W0.cell? ⟨w.heap.size, 14, none⟩ = some (.slice a n c)) := by
      show _ = _
      rw [← hW0, World.cell?_alloc_at _ _ _ _ rfl]; rfl
    have HB : Hid (w.heap.size < W0.heap.size) := cell_lt C0.out
    clear hW0
    go_loopw [3, 4] (fun s i wr => ∃ k : Nat, k ≤ n ∧ s = .int .i64 (depL (ts.take k) : Nat) ∧ i = .int .i64 k ∧ Gr W0 wr) (fun _ i _ => n - (intOf i).toNat)
    case atStart => exact ⟨0, Nat.zero_le _, by simp [depL], by simp, Gr.refl _⟩
    case round =>
      obtain ⟨k, hk, rfl, rfl, hg⟩ := hrel
      have GR : Hid (Gr W0 wr) := hg
      have cl : wr.cell? ⟨w.heap.size, 14, none⟩ = some (.slice a n c) := hg.cell HB.out C0.out
      clear hg
      by_cases hlt : k < n
      · have hki : k < ts.length := by rw [HL.out]; exact hlt
        obtain ⟨b, o, rfl, hF, hns⟩ : ∃ b o, a = some ⟨b, o, none⟩ ∧ F b ∧ NdsIn w F b o ts := by
          rcases H4.out with h | h
          · rw [h.1] at hki; simp at hki
          · exact h
        obtain ⟨sl, hr, hni⟩ := hns.get k hki
        have G1 : Gr w wr := G0.out.trans GR.out
        have HR : Hid (wr.rangeAt b (o + k * 15) ((ts[k]).hd.cells sl)) := rangeAt_gr hr G1
        have hni' := hni.gr G1
        have hs1 := size_get ts k hki
        have HC : Hid (∀ wq, Gr wr wq → Calls Tryz.prog 103 #[(ts[k]).hd.val sl] wq fun e w' => e = .returned (.int .i64 ((ts[k]).dep : Nat)) ∧ Gr wq w') := fun wq hq => IH.out ts[k] sl F wq (by have := HN.out; have := hsz.out; omega) (by have := HBd.out; omega) (hni'.gr hq)
        have hA : Hid (depL (ts.take (k + 1)) = max (depL (ts.take k)) (ts[k]).dep) := depL_take ts k hki
        have hbd : depL (ts.take (k + 1)) ≤ 1048576 := by
          have := HD.out
          have h9 : depL (ts.take (k + 1)) ≤ sizeL ts := Nat.le_trans (depL_le _) (sizeL_take_le ts (k + 1))
          have := HN.out
          have := HBd.out
          have := hsz.out
          omega
        rw [hA.out] at hbd
        clear hs1 hni hni' hr hns
        generalize (ts[k]).dep = z at *
        generalize (ts[k]).hd = hh at *
        generalize depL (ts.take k) = y at *
        have hkb : (k : Int) + 1 ≤ 9223372036854775807 := by have := HLEN.out; omega
        skip
        clear hW hbd
        as_aux_lemma =>
        go_wp2_with (refine wpList_load_mid rfl 44 (.tmp 16) rfl b (o + k * 15) rfl (hh.cells sl) _ HR.out Tryz.underlying44 rfl infoNode ?_)
        refine (HC.out _ (Gr.refl _)).mono ?_
        rintro e w1 ⟨rfl, hg1⟩
        have G2 : Hid (Gr W0 w1) := GR.out.trans hg1
        clear hg1 cl
        go_wp2_with fail
        go_roundw
        case rel => exact ⟨k + 1, by omega, by rw [hA.out]; congr 1; split <;> omega, by go_num, G2.out⟩
        case measure => simp only [intOf]; omega
      · have hke : k = n := by omega
        subst hke
        have hw4 : Hid (1 + depL (ts.take k) = S) := by
          show _ = _
          rw [← HL.out, List.take_length, ← hdp.out]
        have hd1 : depL (ts.take k) ≤ 1048576 := by rw [← HL.out, List.take_length]; exact HD.out
        generalize depL (ts.take k) = y at *
        clear hW
        as_aux_lemma =>
        go_wp2_with fail
        go_ret
        exact ⟨rInt (by have := hw4.out; omega), G0.out.trans GR.out⟩
/-- All zero but what is let? -/
def bareB (o x s b f r t a : Bool) (h : Hd) (n : Nat) : Bool := (o || h.o == 0) && (x || (h.x : Int) == 0) && (s || decide (h.s.toList = [])) && (b || !h.b) && (f || h.f == 0) && (r || (h.c1 == 0 && h.r1 == 0 && h.p1 == false && h.q1 == false)) && (t || (h.c2 == 0 && h.r2 == 0 && h.p2 == false && h.q2 == false)) && (a || n == 0)
end Go.Proofs.YtbkcebbddhaifaaGreatDoor
namespace Go.Proofs.YtbkcebbddhaifaaGreatDoor
open Go.RowKit

theorem fsame_zero (x : Nat) : fsame x 0 = ((x : Int) == 0) := by
  unfold fsame
  have h0 : one 0 = 0 := rfl
  rw [h0, Bool.eq_iff_iff, decide_eq_true_eq, beq_iff_eq]
  unfold one
  split
  · rename_i h
    constructor
    · intro e; cases e
    · intro e
      have : x = 0 := by omega
      subst this
      exact absurd h (by decide)
  · omega
/-- All fields zero, no Args? -/
def noN (h : Hd) (n : Nat) : Bool := h.k == 0 && h.o == 0 && (h.x : Int) == 0 && decide (h.s.toList = []) && !h.b && h.f == 0 && (h.c1 == 0 && h.r1 == 0 && h.p1 == false && h.q1 == false) && (h.c2 == 0 && h.r2 == 0 && h.p2 == false && h.q2 == false) && n == 0
theorem noN_zero (t : Nd) : noN t.hd t.ts.length = zeroN t := by
  obtain ⟨h, ts⟩ := t
  show noN h ts.length = tsame (.mk h ts) zNd
  unfold zNd
  have e0 : (ByteArray.mk #[]).toList = [] := ByteArray.toList_mk []
  cases ts with
  | nil =>
    rw [tsame]
    unfold noN hsame zHd
    simp only [fsame_zero, e0, List.length_nil]
    cases h.b <;> simp [lsame]
  | cons t ts =>
    rw [tsame]
    unfold noN
    simp [lsame]
set_option maxRecDepth 20000 in
set_option maxHeartbeats 8000000 in
theorem noNode_at (h : Hd) (n : Nat) (a : Option Addr) (c : Nat) (w : World) :
    Calls Tryz.prog 113 #[h.val (.slice a n c)] w fun e w' => e = .returned (.bool (noN h n)) ∧ Gr w w' := by
  have e1 := eql_ref h.c1 h.r1 0 0 h.p1 h.q1 false false _ rfl
  have e2 := eql_ref h.c2 h.r2 0 0 h.p2 h.q2 false false _ rfl
  have hV : Hid (noN h n = (h.k == 0 && h.o == 0 && (h.x : Int) == 0 && decide (h.s.toList = []) && !h.b && h.f == 0 && (h.c1 == 0 && h.r1 == 0 && h.p1 == false && h.q1 == false) && (h.c2 == 0 && h.r2 == 0 && h.p2 == false && h.q2 == false) && n == 0)) := rfl
  have G0 : Hid (∀ a t, Gr w (w.alloc (.cells a t))) := fun a t => (Gr.refl w).alloc _ _
  generalize noN h n = V at *
  generalize (h.c1 == 0 && h.r1 == 0 && h.p1 == false && h.q1 == false) = b1 at *
  generalize (h.c2 == 0 && h.r2 == 0 && h.p2 == false && h.q2 == false) = b2 at *
  obtain ⟨k, o, x, s, b, f, c1, r1, p1, q1, c2, r2, p2, q2⟩ := h
  simp only at *
  go_enter Tryz.func113, Tryz.ntmps113
  go_wp2
  all_goals
    go_ret
    refine ⟨rBool ?_, G0.out _ _⟩
    rw [hV.out]
    clear hV G0 e1 e2
    (try simp_all) <;> (try (rw [Bool.eq_iff_iff]; simp))
set_option maxRecDepth 20000 in
set_option maxHeartbeats 8000000 in
theorem noValue_at (v : Vl) (w : World) :
    Calls Tryz.prog 112 #[v.val] w fun e w' => e = .returned (.bool (zeroV v)) ∧ Gr w w' := by
  have hV : Hid (zeroV v = (v.k == 0 && ((v.k == 1 || (v.x : Int) == 0) && (v.k == 2 || decide (v.s.toList = [])) && (v.k == 3 || !v.b) && (v.k == 4 || v.f == 0)))) := rfl
  have G0 : Hid (∀ a t, Gr w (w.alloc (.cells a t))) := fun a t => (Gr.refl w).alloc _ _
  generalize zeroV v = V at *
  obtain ⟨k, x, s, b, f⟩ := v
  simp only at *
  go_enter Tryz.func112, Tryz.ntmps112
  go_wp2
  all_goals
    go_ret
    refine ⟨rBool ?_, G0.out _ _⟩
    rw [hV.out]
    clear hV G0
    (try simp_all) <;> (try (rw [Bool.eq_iff_iff]; simp))
end Go.Proofs.YtbkcebbddhaifaaGreatDoor
namespace Go.Proofs.YtbkcebbddhaifaaGreatDoor
open Go.RowKit

/-- Well made, as the document says it; f: the number is finite, and no sign stands ahead; u: the text is right. -/
def madeB (h : Hd) (n : Nat) (f u : Bool) : Bool :=
  if h.k = 1 then bareB false true false false false false false false h n && f else
  if h.k = 2 then bareB false false true false false false false false h n && u && decide (h.s.size ≤ 1024) else
  if h.k = 3 then bareB false false false true false false false false h n else
  if h.k = 4 then bareB false false false false true false false false h n && decide (1 ≤ h.f) && decide (h.f ≤ 5) else
  if h.k = 5 then bareB false false false false false true false false h n else
  if h.k = 6 then bareB false false false false false true true false h n else
  if h.k = 7 then bareB true false false false false false false true h n && decide (1 ≤ h.o) && decide (h.o ≤ 3) && n == 1 else
  if h.k = 8 then bareB true false false false false false false true h n && decide (4 ≤ h.o) && decide (h.o ≤ 15) && n == 2 else
  if h.k = 9 then bareB false false true false false false false true h n else false
theorem fsame_self (x : Nat) : fsame x x = true := by unfold fsame; simp
set_option maxHeartbeats 4000000 in
theorem made_wm (h : Hd) (n : Nat) : madeB h n (plainX h.x) (Lib.validD h.s.data.toList) = wm h n := by
  have e0 : (ByteArray.mk #[]).toList = [] := ByteArray.toList_mk []
  obtain ⟨k, o, x, s, b, f, c1, r1, p1, q1, c2, r2, p2, q2⟩ := h
  unfold madeB wm wmJ
  simp only
  generalize plainX x = P
  generalize Lib.validD s.data.toList = U
  by_cases k1 : k = 1
  · subst k1
    simp [bareB, hsame, zHd, fsame_self, e0]
    try (rw [Bool.eq_iff_iff]; simp; constructor <;> (intro h; simp_all))
  by_cases k2 : k = 2
  · subst k2
    simp [bareB, hsame, zHd, fsame_zero]
    try (rw [Bool.eq_iff_iff]; simp; constructor <;> (intro h; simp_all))
  by_cases k3 : k = 3
  · subst k3
    simp [bareB, hsame, zHd, fsame_zero, e0]
    try (rw [Bool.eq_iff_iff]; simp; constructor <;> (intro h; simp_all))
  by_cases k4 : k = 4
  · subst k4
    simp [bareB, hsame, zHd, fsame_zero, e0]
    try (rw [Bool.eq_iff_iff]; simp; constructor <;> (intro h; simp_all))
  by_cases k5 : k = 5
  · subst k5
    simp [bareB, hsame, zHd, fsame_zero, e0]
    try (rw [Bool.eq_iff_iff]; simp; constructor <;> (intro h; simp_all))
  by_cases k6 : k = 6
  · subst k6
    simp [bareB, hsame, zHd, fsame_zero, e0]
    try (rw [Bool.eq_iff_iff]; simp; constructor <;> (intro h; simp_all))
  by_cases k7 : k = 7
  · subst k7
    simp [bareB, hsame, zHd, fsame_zero, e0]
    try (rw [Bool.eq_iff_iff]; simp; constructor <;> (intro h; simp_all))
  by_cases k8 : k = 8
  · subst k8
    simp [bareB, hsame, zHd, fsame_zero, e0]
    try (rw [Bool.eq_iff_iff]; simp; constructor <;> (intro h; simp_all))
  by_cases k9 : k = 9
  · subst k9
    simp [bareB, hsame, zHd, fsame_zero]
    try (rw [Bool.eq_iff_iff]; simp; constructor <;> (intro h; simp_all [fsame_self, fsame_zero]))
  simp [k1, k2, k3, k4, k5, k6, k7, k8, k9]
end Go.Proofs.YtbkcebbddhaifaaGreatDoor
namespace Go.Proofs.YtbkcebbddhaifaaGreatDoor
open Go.RowKit

/-- The words of a row, blanks between; cur: the word that has begun. -/
def wds (cur : List UInt8) : List UInt8 → List (List UInt8)
  | [] => [cur]
  | c :: cs => if c = 32 then cur :: wds [] cs else wds (cur ++ [c]) cs
def oneB (s : ByteArray) (l : List UInt8) : Bool := decide (s.toList ≠ []) && (wds [] l).any (fun x => x == s.toList)
/-- How it stands at place i, with the word that began at f. -/
def oneAt (s : ByteArray) (l : List UInt8) (f i : Nat) : Bool := decide (s.toList ≠ []) && (wds ((l.take i).drop f) (l.drop i)).any (fun x => x == s.toList)
theorem oneAt_end (s : ByteArray) (l : List UInt8) (f : Nat) : oneAt s l f l.length = (decide (s.toList ≠ []) && ((l.take l.length).drop f == s.toList)) := by
  unfold oneAt
  rw [List.drop_length, wds]
  simp
theorem oneAt_blank {s : ByteArray} {l : List UInt8} {f i : Nat} (h : i < l.length) (hb : l[i] = 32) : oneAt s l f i = (decide (s.toList ≠ []) && ((l.take i).drop f == s.toList) || oneAt s l (i + 1) (i + 1)) := by
  unfold oneAt
  rw [List.drop_eq_getElem_cons h, wds, if_pos hb]
  have : (l.take (i + 1)).drop (i + 1) = [] := by rw [List.drop_eq_nil_iff, List.length_take]; omega
  rw [this]
  simp only [List.any_cons]
  cases decide (s.toList ≠ []) <;> simp
theorem oneAt_more {s : ByteArray} {l : List UInt8} {f i : Nat} (h : i < l.length) (hf : f ≤ i) (hb : l[i] ≠ 32) : oneAt s l f i = oneAt s l f (i + 1) := by
  unfold oneAt
  rw [List.drop_eq_getElem_cons h, wds, if_neg hb]
  have : (l.take (i + 1)).drop f = (l.take i).drop f ++ [l[i]] := by
    rw [List.take_add_one, List.getElem?_eq_getElem h, List.drop_append_of_le_length (by rw [List.length_take]; omega)]
    rfl
  rw [this]
set_option maxRecDepth 20000 in
set_option maxHeartbeats 4000000 in
theorem one_at (s : ByteArray) (l : List UInt8) (hl : l.length ≤ 1048576) (w : World) :
    Calls Tryz.prog 179 #[.string s, .string ⟨l.toArray⟩] w fun e w' => e = .returned (.bool (oneB s l)) ∧ w' = w := by
  have h0 : oneB s l = oneAt s l 0 0 := by unfold oneB oneAt; simp
  rw [h0]
  obtain ⟨ANS, hA⟩ : ∃ A, oneAt s l 0 0 = A := ⟨_, rfl⟩
  rw [hA]
  have HA : Hid (oneAt s l 0 0 = ANS) := hA
  have hsz : (ByteArray.mk l.toArray).size = l.length := by simp [ByteArray.size]
  obtain ⟨n, hn⟩ : ∃ n, l.length = n := ⟨_, rfl⟩
  have HN : Hid (l.length = n) := hn
  have HL : Hid (n ≤ 1048576) := by show _ ≤ _; omega
  have HEX : Hid (∀ f i : Nat, (ByteArray.mk l.toArray).extract f i = ⟨((l.take i).drop f).toArray⟩) := fun f i => by
    show _ = _
    rw [ByteArray.extract_mk]
    congr 1
    apply Array.ext'
    simp [List.drop_take]
  rw [hn] at hsz
  clear hA h0 hl hn
  go_enter Tryz.func179, Tryz.ntmps179
  go_wp2_with fail
  go_loopw [5, 6] (fun f i wr => wr = w ∧ ∃ a b : Nat, f = .int .i64 a ∧ i = .int .i64 b ∧ ((a ≤ b ∧ b ≤ n ∧ oneAt s l a b = ANS) ∨ (b = n + 1 ∧ ANS = false))) (fun _ i _ => n + 2 - (intOf i).toNat)
  case atStart => exact ⟨rfl, 0, 0, rfl, rfl, .inl ⟨Nat.le_refl _, Nat.zero_le _, HA.out⟩⟩
  case round =>
    obtain ⟨rfl, a, b, rfl, rfl, hab⟩ := hrel
    rcases hab with ⟨h1, h2, h3⟩ | ⟨rfl, h3⟩
    · have j1 : (b : Int) ≤ (n : Int) := by omega
      have jb : (b : Int) + 1 ≤ 9223372036854775807 := by have := HL.out; omega
      have hx := HEX.out a b
      have ja : (a : Int) ≤ (b : Int) := by omega
      have tl : (ByteArray.mk ((l.take b).drop a).toArray).toList = (l.take b).drop a := ByteArray.toList_mk _
      by_cases hbn : b = n
      · subst hbn
        have HE : Hid (ANS = (decide (s.toList ≠ []) && ((l.take b).drop a == s.toList))) := by
          show _ = _
          rw [← h3, ← HN.out, oneAt_end]
        clear h3 j1 h1 h2 HA
        generalize (l.take b).drop a = X at *
        cases hq : X == s.toList with
        | true =>
          cases hs : s.toList == ([] : List UInt8) with
          | true =>
            have HE2 : Hid (ANS = false) := by show _ = _; rw [HE.out]; simp at hs; simp [hs]
            clear HE
            go_wp2_with fail
            go_roundw
            case rel => exact ⟨trivial, b + 1, b + 1, by go_num, by go_num, .inr ⟨rfl, HE2.out⟩⟩
            case measure => simp only [intOf]; omega
          | false =>
            have HE2 : Hid (ANS = true) := by show _ = _; rw [HE.out, hq]; simp at hs; simp [hs]
            clear HE
            go_wp21
            go_ret
            exact ⟨rBool HE2.out.symm, rfl⟩
        | false =>
          have HE2 : Hid (ANS = false) := by show _ = _; rw [HE.out, hq]; simp
          clear HE
          go_wp2_with fail
          go_roundw
          case rel => exact ⟨trivial, b + 1, b + 1, by go_num, by go_num, .inr ⟨rfl, HE2.out⟩⟩
          case measure => simp only [intOf]; omega
      · have hlt : b < n := by omega
        have hll : b < l.length := by rw [HN.out]; exact hlt
        have hbsz : b < (ByteArray.mk l.toArray).size := by rw [hsz]; exact hlt
        have hgt : (ByteArray.mk l.toArray)[b]'hbsz = l[b] := rfl
        have jbn : ((b : Int) == (n : Int)) = false := by simp; omega
        have jb2 : (b : Int) < (n : Int) := by omega
        have jb0 : (0 : Int) ≤ (b : Int) := by omega
        by_cases h32 : l[b] = 32
        · have HE : Hid (ANS = (decide (s.toList ≠ []) && ((l.take b).drop a == s.toList) || oneAt s l (b + 1) (b + 1))) := by
            show _ = _
            rw [← h3, oneAt_blank hll h32]
          have h32n : (l[b]).toNat = 32 := by rw [h32]; rfl
          clear h3 h1 h2 HA h32
          generalize l[b] = ch at *
          have h32j : ((ch.toNat : Nat) : Int) = 32 := by omega
          clear h32n
          generalize (l.take b).drop a = X at *
          generalize hO : oneAt s l (b + 1) (b + 1) = O at *
          cases hq : X == s.toList with
          | true =>
            cases hs : s.toList == ([] : List UInt8) with
            | true =>
              have HE2 : Hid (O = ANS) := by show _ = _; rw [HE.out]; simp at hs; simp [hs]
              have HO : Hid (oneAt s l (b + 1) (b + 1) = O) := hO
              clear HE hO
              go_wp2_with fail
              go_roundw
              case rel => exact ⟨trivial, b + 1, b + 1, by go_num, by go_num, .inl ⟨Nat.le_refl _, by omega, HO.out.trans HE2.out⟩⟩
              case measure => simp only [intOf]; omega
            | false =>
              have HE2 : Hid (ANS = true) := by show _ = _; rw [HE.out, hq]; simp at hs; simp [hs]
              clear HE hO
              go_wp21
              go_ret
              exact ⟨rBool HE2.out.symm, rfl⟩
          | false =>
            have HE2 : Hid (O = ANS) := by show _ = _; rw [HE.out, hq]; simp
            have HO : Hid (oneAt s l (b + 1) (b + 1) = O) := hO
            clear HE hO
            go_wp2_with fail
            go_roundw
            case rel => exact ⟨trivial, b + 1, b + 1, by go_num, by go_num, .inl ⟨Nat.le_refl _, by omega, HO.out.trans HE2.out⟩⟩
            case measure => simp only [intOf]; omega
        · have HE : Hid (oneAt s l a (b + 1) = ANS) := by show _ = _; rw [← h3, oneAt_more hll h1 h32]
          have h32n : ¬ (l[b]).toNat = 32 := fun e => h32 (by rw [← UInt8.toNat_inj]; exact e)
          generalize l[b] = ch at *
          have h32i : (((ch.toNat : Nat) : Int) == 32) = false := by simp; omega
          have h32j : ¬ ((ch.toNat : Nat) : Int) = 32 := by omega
          clear h3 HA
          go_wp2_with fail
          go_roundw
          case rel => exact ⟨trivial, a, b + 1, rfl, by go_num, .inl ⟨by omega, by omega, HE.out⟩⟩
          case measure => simp only [intOf]; omega
    · have j1 : ¬ ((n + 1 : Nat) : Int) ≤ (n : Int) := by omega
      have H3 : Hid (ANS = false) := h3
      clear h3
      go_wp2_with fail
      go_ret
      exact ⟨rBool H3.out.symm, rfl⟩
theorem isAny_eq (s : ByteArray) (l : List UInt8) (nm : List ByteArray) (h : wds [] l = nm.map (fun n => n.data.toList)) (hne : ∀ n ∈ nm, n.data.toList ≠ []) : oneB s l = isAny s nm := by
  unfold oneB isAny
  rw [h, List.any_map]
  rw [Bool.eq_iff_iff, Bool.and_eq_true, List.any_eq_true, List.any_eq_true]
  constructor
  · rintro ⟨_, n, hn, e⟩
    refine ⟨n, hn, ?_⟩
    simp only [Function.comp, beq_iff_eq] at e
    rw [beq_iff_eq, Lib.toList_data n, e]
  · rintro ⟨n, hn, e⟩
    rw [beq_iff_eq, Lib.toList_data n] at e
    refine ⟨?_, n, hn, ?_⟩
    · rw [decide_eq_true_eq, e]; exact hne n hn
    · simp only [Function.comp, beq_iff_eq]; exact e.symm
theorem rone_row {s : ByteArray} {l : List UInt8} {nm : List ByteArray} (hl : l.length ≤ 1048576) (h : wds [] l = nm.map (fun n => n.data.toList)) (hne : ∀ n ∈ nm, n.data.toList ≠ []) (w : World) :
    Calls Tryz.prog 179 #[.string s, .string ⟨l.toArray⟩] w fun e w' => e = .returned (.bool (isAny s nm)) ∧ w' = w := by
  rw [← isAny_eq s l nm h hne]
  exact one_at s l hl w
end Go.Proofs.YtbkcebbddhaifaaGreatDoor
namespace Go.Proofs.YtbkcebbddhaifaaGreatDoor
open Go.RowKit

theorem rknown_ret {s : ByteArray} {a b : Int} {c : Bool} (h : known s = (a, b, c)) : Ending.returned (.tuple #[.int .i64 a, .int .i64 b, .bool c]) = .returned (.tuple #[.int .i64 (known s).1, .int .i64 (known s).2.1, .bool (known s).2.2]) := by rw [h]
set_option maxRecDepth 20000 in
set_option maxHeartbeats 4000000 in
theorem rknown_at (s : ByteArray) (w : World) :
    Calls Tryz.prog 162 #[.string s] w fun e w' => e = .returned (.tuple #[.int .i64 (known s).1, .int .i64 (known s).2.1, .bool (known s).2.2]) ∧ w' = w := by
  have H1 : Hid (∀ (l : List UInt8) (nm : List ByteArray), l.length ≤ 1048576 → wds [] l = nm.map (fun n => n.data.toList) → (∀ n ∈ nm, n.data.toList ≠ []) → ∀ w, Calls Tryz.prog 179 #[.string s, .string ⟨l.toArray⟩] w fun e w' => e = .returned (.bool (isAny s nm)) ∧ w' = w) := fun l nm h1 h2 h3 w => rone_row h1 h2 h3 w
  have e0 : (s.toList == [78, 65]) = isAny s nm0 := by unfold isAny nm0; simp
  have e6 : (s.toList == [67, 72, 79, 79, 83, 69]) = isAny s nm6 := by unfold isAny nm6; simp
  have HKn : Hid (known s = (if isAny s nm0 = true then (0, 0, true) else if isAny s nm1 = true then (1, 1, true) else if isAny s nm2 = true then (2, 2, true) else if isAny s nm3 = true then (2, 3, true) else if isAny s nm4 = true then (3, 3, true) else if isAny s nm5 = true then (1, 256, true) else if isAny s nm6 = true then (2, 256, true) else (0, 0, false))) := rfl
  go_enter Tryz.func162, Tryz.ntmps162
  cases h0 : isAny s nm0 with
  | true =>
    rw [h0] at e0
    have HE : Hid (known s = (0, 0, true)) := by show _ = _; rw [HKn.out]; simp [h0]
    go_wp2_with fail
    refine bodyPost_ret (results_three rfl _ _ _) rfl ?_
    exact ⟨rknown_ret HE.out, rfl⟩
  | false =>
  rw [h0] at e0
  go_wp2_with fail
  refine (H1.out _ nm1 ?a1 ?b1 ?c1 _).mono ?d1
  case a1 => decide
  case b1 => rfl
  case c1 => decide
  rintro e w1 ⟨rfl, hw1⟩
  replace hw1 := hw1.symm
  subst hw1
  cases h1 : isAny s nm1 with
  | true =>
    have HE : Hid (known s = (1, 1, true)) := by show _ = _; rw [HKn.out]; simp [h0, h1]
    go_wp2_with fail
    refine bodyPost_ret (results_three rfl _ _ _) rfl ?_
    exact ⟨rknown_ret HE.out, rfl⟩
  | false =>
  go_wp2_with fail
  refine (H1.out _ nm2 ?a2 ?b2 ?c2 _).mono ?d2
  case a2 => decide
  case b2 => rfl
  case c2 => decide
  rintro e w2 ⟨rfl, hw2⟩
  replace hw2 := hw2.symm
  subst hw2
  cases h2 : isAny s nm2 with
  | true =>
    have HE : Hid (known s = (2, 2, true)) := by show _ = _; rw [HKn.out]; simp [h0, h1, h2]
    go_wp2_with fail
    refine bodyPost_ret (results_three rfl _ _ _) rfl ?_
    exact ⟨rknown_ret HE.out, rfl⟩
  | false =>
  go_wp2_with fail
  refine (H1.out _ nm3 ?a3 ?b3 ?c3 _).mono ?d3
  case a3 => decide
  case b3 => rfl
  case c3 => decide
  rintro e w3 ⟨rfl, hw3⟩
  replace hw3 := hw3.symm
  subst hw3
  cases h3 : isAny s nm3 with
  | true =>
    have HE : Hid (known s = (2, 3, true)) := by show _ = _; rw [HKn.out]; simp [h0, h1, h2, h3]
    go_wp2_with fail
    refine bodyPost_ret (results_three rfl _ _ _) rfl ?_
    exact ⟨rknown_ret HE.out, rfl⟩
  | false =>
  go_wp2_with fail
  refine (H1.out _ nm4 ?a4 ?b4 ?c4 _).mono ?d4
  case a4 => decide
  case b4 => rfl
  case c4 => decide
  rintro e w4 ⟨rfl, hw4⟩
  replace hw4 := hw4.symm
  subst hw4
  cases h4 : isAny s nm4 with
  | true =>
    have HE : Hid (known s = (3, 3, true)) := by show _ = _; rw [HKn.out]; simp [h0, h1, h2, h3, h4]
    go_wp2_with fail
    refine bodyPost_ret (results_three rfl _ _ _) rfl ?_
    exact ⟨rknown_ret HE.out, rfl⟩
  | false =>
  go_wp2_with fail
  refine (H1.out _ nm5 ?a5 ?b5 ?c5 _).mono ?d5
  case a5 => decide
  case b5 => rfl
  case c5 => decide
  rintro e w5 ⟨rfl, hw5⟩
  replace hw5 := hw5.symm
  subst hw5
  cases h5 : isAny s nm5 with
  | true =>
    have HE : Hid (known s = (1, 256, true)) := by show _ = _; rw [HKn.out]; simp [h0, h1, h2, h3, h4, h5]
    go_wp2_with fail
    refine bodyPost_ret (results_three rfl _ _ _) rfl ?_
    exact ⟨rknown_ret HE.out, rfl⟩
  | false =>
  cases h6 : isAny s nm6 with
  | true =>
    rw [h6] at e6
    have HE : Hid (known s = (2, 256, true)) := by show _ = _; rw [HKn.out]; simp [h0, h1, h2, h3, h4, h5, h6]
    go_wp2_with fail
    refine bodyPost_ret (results_three rfl _ _ _) rfl ?_
    exact ⟨rknown_ret HE.out, rfl⟩
  | false =>
  rw [h6] at e6
  have HE : Hid (known s = (0, 0, false)) := by show _ = _; rw [HKn.out]; simp [h0, h1, h2, h3, h4, h5, h6]
  go_wp2_with fail
  refine bodyPost_ret (results_three rfl _ _ _) rfl ?_
  exact ⟨rknown_ret HE.out, rfl⟩
end Go.Proofs.YtbkcebbddhaifaaGreatDoor
