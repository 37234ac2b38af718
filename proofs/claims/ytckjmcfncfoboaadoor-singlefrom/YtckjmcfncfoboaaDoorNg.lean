/- The document's FromInt, FromUint and SingleInt, by the contracts of what they call. -/
import Derived.Test.YtckjmcfncfoboaaDoorNz
namespace Go.Proofs.YtckjmcfncfoboaaDoor
open Go.RowKit
open Ieee

set_option maxHeartbeats 4000000 in
set_option maxRecDepth 20000 in
theorem rfint_core (neg x : Bool) (n u a b c mode M Ee s : Int) (w : World) (hn : (n == 0) = false)
    (HM : Hid (∀ w, Calls Tryd.prog 53 #[.int .i64 mode] w fun e w' => e = .returned (.bool true) ∧ w' = w))
    (HP : Hid (∀ w, Calls Tryd.prog 72 #[.int .i64 n] w fun e w' => e = .returned (.tuple #[.bool neg, .int .u64 u]) ∧ w' = w))
    (HK : Hid (∀ w, Calls Tryd.prog 74 #[] w fun e w' => e = .returned (.agg #[.int .i64 a, .int .i64 b, .int .i64 c]) ∧ Gr w w'))
    (HF : Hid (∀ w, Calls Tryd.prog 73 #[.bool neg, .int .u64 u, .agg #[.int .i64 a, .int .i64 b, .int .i64 c], .int .i64 mode] w fun e w' => e = .returned (.tuple #[.agg #[.bool neg, .bool false, .int .u64 M, .int .i64 Ee], .agg #[.bool x, .bool false, .bool false]]) ∧ Gr w w'))
    (HB : Hid (∀ w, Calls Tryd.prog 75 #[.agg #[.bool neg, .bool false, .int .u64 M, .int .i64 Ee]] w fun e w' => e = .returned (.int .u64 s) ∧ Gr w w')) :
    Calls Tryd.prog 37 #[.int .i64 n, .int .i64 mode] w fun e w' => e = .returned (.tuple #[.int .u64 s, .agg #[.bool x, .bool false, .bool false], .int .i64 0]) ∧ Gr w w' := by
  have R0 : Hid (Holds (w.alloc (.cells #[.bool false, .bool false, .bool false] 36)) w.heap.size [.bool false, .bool false, .bool false]) := holds_new w _ _
  have G0 : Hid (Gr w (w.alloc (.cells #[.bool false, .bool false, .bool false] 36))) := (Gr.refl w).alloc _ _
  go_enter Tryd.func37, Tryd.ntmps37
  go_wp2_with (first | (go_at_call 53; refine (HM.out _).mono ?_; rintro e w' ⟨rfl, rfl⟩) | (go_at_call 72; refine (HP.out _).mono ?_; rintro e w' ⟨rfl, rfl⟩))
  refine (HK.out _).mono ?_
  rintro e w1 ⟨rfl, hg1⟩
  have G1 : Hid (Gr (w.alloc (.cells #[.bool false, .bool false, .bool false] 36)) w1) := hg1
  clear hg1
  go_wp2_with fail
  refine (HF.out _).mono ?_
  rintro e w2 ⟨rfl, hg2⟩
  have G2 : Hid (Gr (w.alloc (.cells #[.bool false, .bool false, .bool false] 36)) w2) := G1.out.trans hg2
  clear hg2
  go_wp2_with fail
  have X1 := (holds_new w2 #[.bool neg, .bool false, .int .u64 M, .int .i64 Ee] 90).gr ((Gr.refl _).alloc #[.bool x, .bool false, .bool false] 36)
  have X2 := holds_new (w2.alloc (.cells #[.bool neg, .bool false, .int .u64 M, .int .i64 Ee] 90)) #[.bool x, .bool false, .bool false] 36
  rw [show (w2.alloc (.cells #[.bool neg, .bool false, .int .u64 M, .int .i64 Ee] 90)).heap.size = w2.heap.size + 1 by show (w2.heap.push _).size = _; simp] at X2
  have X3 := R0.out.gr ((G2.out.alloc #[.bool neg, .bool false, .int .u64 M, .int .i64 Ee] 90).alloc #[.bool x, .bool false, .bool false] 36)
  have GW := G0.out.trans ((G2.out.alloc #[.bool neg, .bool false, .int .u64 M, .int .i64 Ee] 90).alloc #[.bool x, .bool false, .bool false] 36)
  generalize (w2.alloc (.cells #[.bool neg, .bool false, .int .u64 M, .int .i64 Ee] 90)).alloc (.cells #[.bool x, .bool false, .bool false] 36) = W at *
  have X1 : Hid (Holds W w2.heap.size [.bool neg, .bool false, .int .u64 M, .int .i64 Ee]) := X1
  have X2 : Hid (Holds W (w2.heap.size + 1) [.bool x, .bool false, .bool false]) := X2
  have X3 : Hid (Holds W w.heap.size [.bool false, .bool false, .bool false]) := X3
  have GW : Hid (Gr w W) := GW
  obtain ⟨p0, p1, p2, p3, r0, r1, r2⟩ : W.cell? ⟨w2.heap.size, 0, none⟩ = some (.bool neg) ∧ W.cell? ⟨w2.heap.size, 1, none⟩ = some (.bool false) ∧ W.cell? ⟨w2.heap.size, 2, none⟩ = some (.int .u64 M) ∧ W.cell? ⟨w2.heap.size, 3, none⟩ = some (.int .i64 Ee) ∧ W.cell? ⟨w2.heap.size + 1, 0, none⟩ = some (.bool x) ∧ W.cell? ⟨w2.heap.size + 1, 1, none⟩ = some (.bool false) ∧ W.cell? ⟨w2.heap.size + 1, 2, none⟩ = some (.bool false) := ⟨X1.out.c0.1, X1.out.c1.1, X1.out.c2.1, X1.out.c3.1, X2.out.c0.1, X2.out.c1.1, X2.out.c2.1⟩
  go_region_with (go_at_call 75; refine (HB.out _).mono ?_; rintro e w4 ⟨rfl, hg4⟩; have G4 : Hid (Gr W w4) := (by first | exact Gr.trans (Gr.refl W).drew hg4 | exact hg4); clear hg4; have q0 := (X2.out.gr G4.out).c0.1; have q1 := (X2.out.gr G4.out).c1.1; have q2 := (X2.out.gr G4.out).c2.1; obtain ⟨x0, y0⟩ := (X3.out.gr G4.out).c0; obtain ⟨x1, y1⟩ := (X3.out.gr G4.out).c1; obtain ⟨x2, y2⟩ := (X3.out.gr G4.out).c2)
  all_goals
    go_wp2
    refine bodyPost_ret (v := .tuple #[.int .u64 s, .agg #[.bool x, .bool false, .bool false], .int .i64 0]) (by simp [results, Tryd.results37, go_sem, *]) rfl ⟨rfl, ?_⟩
    exact ((((GW.out.trans G4.out).setCell _ _ (Nat.le_refl _)).setCell _ _ (Nat.le_refl _)).setCell _ _ (Nat.le_refl _))

set_option maxHeartbeats 1000000 in
theorem rfint_bad (n mode r : Int) (fine : Bool) (w : World) (hb : fine = false ∨ (fine = true ∧ n = 0))
    (HM : Hid (∀ w, Calls Tryd.prog 53 #[.int .i64 mode] w fun e w' => e = .returned (.bool fine) ∧ w' = w))
    (HE : Hid (∀ w, Calls Tryd.prog 71 #[.bool fine] w fun e w' => e = .returned (.int .i64 r) ∧ w' = w)) :
    Calls Tryd.prog 37 #[.int .i64 n, .int .i64 mode] w fun e w' => e = .returned (.tuple #[.int .u64 0, .agg #[.bool false, .bool false, .bool false], .int .i64 r]) ∧ Gr w w' := by
  obtain ⟨⟨x0, x1, x2⟩, y0, y1, y2⟩ := has3_new w (.bool false) (.bool false) (.bool false) 36
  rcases hb with rfl | ⟨rfl, rfl⟩
  all_goals
    go_enter Tryd.func37, Tryd.ntmps37
    go_wp2_with (first | (go_at_call 53; refine (HM.out _).mono ?_; rintro e w' ⟨rfl, rfl⟩) | (go_at_call 71; refine (HE.out _).mono ?_; rintro e w' ⟨rfl, rfl⟩))
    refine bodyPost_ret (v := .tuple #[.int .u64 0, .agg #[.bool false, .bool false, .bool false], .int .i64 r]) (by simp [results, Tryd.results37, go_sem, *]) rfl ?_
    exact ⟨rfl, (Gr.refl w).alloc _ _⟩

set_option maxHeartbeats 4000000 in
set_option maxRecDepth 20000 in
theorem rfuint_core (x : Bool) (n a b c mode M Ee s : Int) (w : World) (hn : (n == 0) = false)
    (HM : Hid (∀ w, Calls Tryd.prog 53 #[.int .i64 mode] w fun e w' => e = .returned (.bool true) ∧ w' = w))
    (HK : Hid (∀ w, Calls Tryd.prog 74 #[] w fun e w' => e = .returned (.agg #[.int .i64 a, .int .i64 b, .int .i64 c]) ∧ Gr w w'))
    (HF : Hid (∀ w, Calls Tryd.prog 73 #[.bool false, .int .u64 n, .agg #[.int .i64 a, .int .i64 b, .int .i64 c], .int .i64 mode] w fun e w' => e = .returned (.tuple #[.agg #[.bool false, .bool false, .int .u64 M, .int .i64 Ee], .agg #[.bool x, .bool false, .bool false]]) ∧ Gr w w'))
    (HB : Hid (∀ w, Calls Tryd.prog 75 #[.agg #[.bool false, .bool false, .int .u64 M, .int .i64 Ee]] w fun e w' => e = .returned (.int .u64 s) ∧ Gr w w')) :
    Calls Tryd.prog 39 #[.int .u64 n, .int .i64 mode] w fun e w' => e = .returned (.tuple #[.int .u64 s, .agg #[.bool x, .bool false, .bool false], .int .i64 0]) ∧ Gr w w' := by
  have R0 : Hid (Holds (w.alloc (.cells #[.bool false, .bool false, .bool false] 36)) w.heap.size [.bool false, .bool false, .bool false]) := holds_new w _ _
  have G0 : Hid (Gr w (w.alloc (.cells #[.bool false, .bool false, .bool false] 36))) := (Gr.refl w).alloc _ _
  go_enter Tryd.func39, Tryd.ntmps39
  go_wp2_with (first | (go_at_call 53; refine (HM.out _).mono ?_; rintro e w' ⟨rfl, rfl⟩))
  refine (HK.out _).mono ?_
  rintro e w1 ⟨rfl, hg1⟩
  have G1 : Hid (Gr (w.alloc (.cells #[.bool false, .bool false, .bool false] 36)) w1) := hg1
  clear hg1
  go_wp2_with fail
  refine (HF.out _).mono ?_
  rintro e w2 ⟨rfl, hg2⟩
  have G2 : Hid (Gr (w.alloc (.cells #[.bool false, .bool false, .bool false] 36)) w2) := G1.out.trans hg2
  clear hg2
  go_wp2_with fail
  have X1 := (holds_new w2 #[.bool false, .bool false, .int .u64 M, .int .i64 Ee] 90).gr ((Gr.refl _).alloc #[.bool x, .bool false, .bool false] 36)
  have X2 := holds_new (w2.alloc (.cells #[.bool false, .bool false, .int .u64 M, .int .i64 Ee] 90)) #[.bool x, .bool false, .bool false] 36
  rw [show (w2.alloc (.cells #[.bool false, .bool false, .int .u64 M, .int .i64 Ee] 90)).heap.size = w2.heap.size + 1 by show (w2.heap.push _).size = _; simp] at X2
  have X3 := R0.out.gr ((G2.out.alloc #[.bool false, .bool false, .int .u64 M, .int .i64 Ee] 90).alloc #[.bool x, .bool false, .bool false] 36)
  have GW := G0.out.trans ((G2.out.alloc #[.bool false, .bool false, .int .u64 M, .int .i64 Ee] 90).alloc #[.bool x, .bool false, .bool false] 36)
  generalize (w2.alloc (.cells #[.bool false, .bool false, .int .u64 M, .int .i64 Ee] 90)).alloc (.cells #[.bool x, .bool false, .bool false] 36) = W at *
  have X1 : Hid (Holds W w2.heap.size [.bool false, .bool false, .int .u64 M, .int .i64 Ee]) := X1
  have X2 : Hid (Holds W (w2.heap.size + 1) [.bool x, .bool false, .bool false]) := X2
  have X3 : Hid (Holds W w.heap.size [.bool false, .bool false, .bool false]) := X3
  have GW : Hid (Gr w W) := GW
  obtain ⟨p0, p1, p2, p3, r0, r1, r2⟩ : W.cell? ⟨w2.heap.size, 0, none⟩ = some (.bool false) ∧ W.cell? ⟨w2.heap.size, 1, none⟩ = some (.bool false) ∧ W.cell? ⟨w2.heap.size, 2, none⟩ = some (.int .u64 M) ∧ W.cell? ⟨w2.heap.size, 3, none⟩ = some (.int .i64 Ee) ∧ W.cell? ⟨w2.heap.size + 1, 0, none⟩ = some (.bool x) ∧ W.cell? ⟨w2.heap.size + 1, 1, none⟩ = some (.bool false) ∧ W.cell? ⟨w2.heap.size + 1, 2, none⟩ = some (.bool false) := ⟨X1.out.c0.1, X1.out.c1.1, X1.out.c2.1, X1.out.c3.1, X2.out.c0.1, X2.out.c1.1, X2.out.c2.1⟩
  go_region_with (go_at_call 75; refine (HB.out _).mono ?_; rintro e w4 ⟨rfl, hg4⟩; have G4 : Hid (Gr W w4) := (by first | exact Gr.trans (Gr.refl W).drew hg4 | exact hg4); clear hg4; have q0 := (X2.out.gr G4.out).c0.1; have q1 := (X2.out.gr G4.out).c1.1; have q2 := (X2.out.gr G4.out).c2.1; obtain ⟨x0, y0⟩ := (X3.out.gr G4.out).c0; obtain ⟨x1, y1⟩ := (X3.out.gr G4.out).c1; obtain ⟨x2, y2⟩ := (X3.out.gr G4.out).c2)
  all_goals
    go_wp2
    refine bodyPost_ret (v := .tuple #[.int .u64 s, .agg #[.bool x, .bool false, .bool false], .int .i64 0]) (by simp [results, Tryd.results39, go_sem, *]) rfl ⟨rfl, ?_⟩
    exact ((((GW.out.trans G4.out).setCell _ _ (Nat.le_refl _)).setCell _ _ (Nat.le_refl _)).setCell _ _ (Nat.le_refl _))

set_option maxHeartbeats 1000000 in
theorem rfuint_bad (n mode r : Int) (fine : Bool) (w : World) (hb : fine = false ∨ (fine = true ∧ n = 0))
    (HM : Hid (∀ w, Calls Tryd.prog 53 #[.int .i64 mode] w fun e w' => e = .returned (.bool fine) ∧ w' = w))
    (HE : Hid (∀ w, Calls Tryd.prog 71 #[.bool fine] w fun e w' => e = .returned (.int .i64 r) ∧ w' = w)) :
    Calls Tryd.prog 39 #[.int .u64 n, .int .i64 mode] w fun e w' => e = .returned (.tuple #[.int .u64 0, .agg #[.bool false, .bool false, .bool false], .int .i64 r]) ∧ Gr w w' := by
  obtain ⟨⟨x0, x1, x2⟩, y0, y1, y2⟩ := has3_new w (.bool false) (.bool false) (.bool false) 36
  rcases hb with rfl | ⟨rfl, rfl⟩
  all_goals
    go_enter Tryd.func39, Tryd.ntmps39
    go_wp2_with (first | (go_at_call 53; refine (HM.out _).mono ?_; rintro e w' ⟨rfl, rfl⟩) | (go_at_call 71; refine (HE.out _).mono ?_; rintro e w' ⟨rfl, rfl⟩))
    refine bodyPost_ret (v := .tuple #[.int .u64 0, .agg #[.bool false, .bool false, .bool false], .int .i64 r]) (by simp [results, Tryd.results39, go_sem, *]) rfl ?_
    exact ⟨rfl, (Gr.refl w).alloc _ _⟩

set_option maxHeartbeats 4000000 in
set_option maxRecDepth 20000 in
theorem rsint_core (neg x : Bool) (n u a b c mode M Ee s : Int) (w : World) (hn : (n == 0) = false)
    (HM : Hid (∀ w, Calls Tryd.prog 53 #[.int .i64 mode] w fun e w' => e = .returned (.bool true) ∧ w' = w))
    (HP : Hid (∀ w, Calls Tryd.prog 72 #[.int .i64 n] w fun e w' => e = .returned (.tuple #[.bool neg, .int .u64 u]) ∧ w' = w))
    (HK : Hid (∀ w, Calls Tryd.prog 58 #[] w fun e w' => e = .returned (.agg #[.int .i64 a, .int .i64 b, .int .i64 c]) ∧ Gr w w'))
    (HF : Hid (∀ w, Calls Tryd.prog 73 #[.bool neg, .int .u64 u, .agg #[.int .i64 a, .int .i64 b, .int .i64 c], .int .i64 mode] w fun e w' => e = .returned (.tuple #[.agg #[.bool neg, .bool false, .int .u64 M, .int .i64 Ee], .agg #[.bool x, .bool false, .bool false]]) ∧ Gr w w'))
    (HB : Hid (∀ w, Calls Tryd.prog 59 #[.agg #[.bool neg, .bool false, .int .u64 M, .int .i64 Ee]] w fun e w' => e = .returned (.int .u32 s) ∧ Gr w w')) :
    Calls Tryd.prog 41 #[.int .i64 n, .int .i64 mode] w fun e w' => e = .returned (.tuple #[.int .u32 s, .agg #[.bool x, .bool false, .bool false], .int .i64 0]) ∧ Gr w w' := by
  have R0 : Hid (Holds (w.alloc (.cells #[.bool false, .bool false, .bool false] 36)) w.heap.size [.bool false, .bool false, .bool false]) := holds_new w _ _
  have G0 : Hid (Gr w (w.alloc (.cells #[.bool false, .bool false, .bool false] 36))) := (Gr.refl w).alloc _ _
  go_enter Tryd.func41, Tryd.ntmps41
  go_wp2_with (first | (go_at_call 53; refine (HM.out _).mono ?_; rintro e w' ⟨rfl, rfl⟩) | (go_at_call 72; refine (HP.out _).mono ?_; rintro e w' ⟨rfl, rfl⟩))
  refine (HK.out _).mono ?_
  rintro e w1 ⟨rfl, hg1⟩
  have G1 : Hid (Gr (w.alloc (.cells #[.bool false, .bool false, .bool false] 36)) w1) := hg1
  clear hg1
  go_wp2_with fail
  refine (HF.out _).mono ?_
  rintro e w2 ⟨rfl, hg2⟩
  have G2 : Hid (Gr (w.alloc (.cells #[.bool false, .bool false, .bool false] 36)) w2) := G1.out.trans hg2
  clear hg2
  go_wp2_with fail
  have X1 := (holds_new w2 #[.bool neg, .bool false, .int .u64 M, .int .i64 Ee] 90).gr ((Gr.refl _).alloc #[.bool x, .bool false, .bool false] 36)
  have X2 := holds_new (w2.alloc (.cells #[.bool neg, .bool false, .int .u64 M, .int .i64 Ee] 90)) #[.bool x, .bool false, .bool false] 36
  rw [show (w2.alloc (.cells #[.bool neg, .bool false, .int .u64 M, .int .i64 Ee] 90)).heap.size = w2.heap.size + 1 by show (w2.heap.push _).size = _; simp] at X2
  have X3 := R0.out.gr ((G2.out.alloc #[.bool neg, .bool false, .int .u64 M, .int .i64 Ee] 90).alloc #[.bool x, .bool false, .bool false] 36)
  have GW := G0.out.trans ((G2.out.alloc #[.bool neg, .bool false, .int .u64 M, .int .i64 Ee] 90).alloc #[.bool x, .bool false, .bool false] 36)
  generalize (w2.alloc (.cells #[.bool neg, .bool false, .int .u64 M, .int .i64 Ee] 90)).alloc (.cells #[.bool x, .bool false, .bool false] 36) = W at *
  have X1 : Hid (Holds W w2.heap.size [.bool neg, .bool false, .int .u64 M, .int .i64 Ee]) := X1
  have X2 : Hid (Holds W (w2.heap.size + 1) [.bool x, .bool false, .bool false]) := X2
  have X3 : Hid (Holds W w.heap.size [.bool false, .bool false, .bool false]) := X3
  have GW : Hid (Gr w W) := GW
  obtain ⟨p0, p1, p2, p3, r0, r1, r2⟩ : W.cell? ⟨w2.heap.size, 0, none⟩ = some (.bool neg) ∧ W.cell? ⟨w2.heap.size, 1, none⟩ = some (.bool false) ∧ W.cell? ⟨w2.heap.size, 2, none⟩ = some (.int .u64 M) ∧ W.cell? ⟨w2.heap.size, 3, none⟩ = some (.int .i64 Ee) ∧ W.cell? ⟨w2.heap.size + 1, 0, none⟩ = some (.bool x) ∧ W.cell? ⟨w2.heap.size + 1, 1, none⟩ = some (.bool false) ∧ W.cell? ⟨w2.heap.size + 1, 2, none⟩ = some (.bool false) := ⟨X1.out.c0.1, X1.out.c1.1, X1.out.c2.1, X1.out.c3.1, X2.out.c0.1, X2.out.c1.1, X2.out.c2.1⟩
  go_region_with (go_at_call 59; refine (HB.out _).mono ?_; rintro e w4 ⟨rfl, hg4⟩; have G4 : Hid (Gr W w4) := (by first | exact Gr.trans (Gr.refl W).drew hg4 | exact hg4); clear hg4; have q0 := (X2.out.gr G4.out).c0.1; have q1 := (X2.out.gr G4.out).c1.1; have q2 := (X2.out.gr G4.out).c2.1; obtain ⟨x0, y0⟩ := (X3.out.gr G4.out).c0; obtain ⟨x1, y1⟩ := (X3.out.gr G4.out).c1; obtain ⟨x2, y2⟩ := (X3.out.gr G4.out).c2)
  all_goals
    go_wp2
    refine bodyPost_ret (v := .tuple #[.int .u32 s, .agg #[.bool x, .bool false, .bool false], .int .i64 0]) (by simp [results, Tryd.results41, go_sem, *]) rfl ⟨rfl, ?_⟩
    exact ((((GW.out.trans G4.out).setCell _ _ (Nat.le_refl _)).setCell _ _ (Nat.le_refl _)).setCell _ _ (Nat.le_refl _))

set_option maxHeartbeats 1000000 in
theorem rsint_bad (n mode r : Int) (fine : Bool) (w : World) (hb : fine = false ∨ (fine = true ∧ n = 0))
    (HM : Hid (∀ w, Calls Tryd.prog 53 #[.int .i64 mode] w fun e w' => e = .returned (.bool fine) ∧ w' = w))
    (HE : Hid (∀ w, Calls Tryd.prog 71 #[.bool fine] w fun e w' => e = .returned (.int .i64 r) ∧ w' = w)) :
    Calls Tryd.prog 41 #[.int .i64 n, .int .i64 mode] w fun e w' => e = .returned (.tuple #[.int .u32 0, .agg #[.bool false, .bool false, .bool false], .int .i64 r]) ∧ Gr w w' := by
  obtain ⟨⟨x0, x1, x2⟩, y0, y1, y2⟩ := has3_new w (.bool false) (.bool false) (.bool false) 36
  rcases hb with rfl | ⟨rfl, rfl⟩
  all_goals
    go_enter Tryd.func41, Tryd.ntmps41
    go_wp2_with (first | (go_at_call 53; refine (HM.out _).mono ?_; rintro e w' ⟨rfl, rfl⟩) | (go_at_call 71; refine (HE.out _).mono ?_; rintro e w' ⟨rfl, rfl⟩))
    refine bodyPost_ret (v := .tuple #[.int .u32 0, .agg #[.bool false, .bool false, .bool false], .int .i64 r]) (by simp [results, Tryd.results41, go_sem, *]) rfl ?_
    exact ⟨rfl, (Gr.refl w).alloc _ _⟩
end Go.Proofs.YtckjmcfncfoboaaDoor
