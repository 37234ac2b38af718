/- The program's behind: one sign more. -/
import Derived.Test.YthehdloofamadaaDoorHb
import Derived.Test.YthehdloofamadaaDoorGb
namespace Go.Proofs.YthehdloofamadaaDoor
open Go.RowKit

/-- What behind answers. -/
def bhS (s : Rs) (c : Int) : Rs := (bh s c).getD rs0
def bhO (s : Rs) (c : Int) : Bool := (bh s c).isSome
def rsV (s : Rs) : Value := .agg #[.int .i64 s.c, .int .i64 s.r, .bool s.cf, .bool s.rf]

set_option maxHeartbeats 8000000 in
theorem pb_A  (w : World)
    (H1 : Hid (∀ w, Calls Tryd.prog 59 #[.int .i32 36] w fun e w' => e = .returned (.int .i64 0) ∧ w' = w)) :
    Calls Tryd.prog 56 #[.agg #[.int .i64 0, .int .i64 0, .bool false, .bool false], .int .i32 36] w fun e w' => e = .returned (.tuple #[.agg #[.int .i64 0, .int .i64 0, .bool true, .bool false], .bool true]) ∧ Gr w w' := by
  have G2 : Hid (∀ a b t u, Gr w ((w.alloc (.cells a t)).alloc (.cells b u))) := fun a b t u => ((Gr.refl w).alloc _ _).alloc _ _
  go_enter Tryd.func56, Tryd.ntmps56
  go_wp2_with (go_at_call 59; refine (H1.out _).mono ?_; rintro e w' ⟨rfl, rfl⟩)
  refine bodyPost_ret (v := .tuple #[.agg #[.int .i64 0, .int .i64 0, .bool true, .bool false], .bool true]) (by simp [results, Tryd.results56, go_sem, *]) rfl ?_
  exact ⟨rfl, G2.out _ _ _ _⟩
set_option maxHeartbeats 8000000 in
theorem pb_B (c : Int) (cf : Bool) (h0 : 0 < c) (w : World)
    (H1 : Hid (∀ w, Calls Tryd.prog 59 #[.int .i32 36] w fun e w' => e = .returned (.int .i64 0) ∧ w' = w)) :
    Calls Tryd.prog 56 #[.agg #[.int .i64 c, .int .i64 0, .bool cf, .bool false], .int .i32 36] w fun e w' => e = .returned (.tuple #[.agg #[.int .i64 c, .int .i64 0, .bool cf, .bool true], .bool true]) ∧ Gr w w' := by
  have G2 : Hid (∀ a b t u, Gr w ((w.alloc (.cells a t)).alloc (.cells b u))) := fun a b t u => ((Gr.refl w).alloc _ _).alloc _ _
  have hc : (c == 0) = false := by rw [beq_eq_false_iff_ne]; omega
  go_enter Tryd.func56, Tryd.ntmps56
  go_wp2_with (go_at_call 59; refine (H1.out _).mono ?_; rintro e w' ⟨rfl, rfl⟩)
  refine bodyPost_ret (v := .tuple #[.agg #[.int .i64 c, .int .i64 0, .bool cf, .bool true], .bool true]) (by simp [results, Tryd.results56, go_sem, *]) rfl ?_
  exact ⟨rfl, G2.out _ _ _ _⟩
set_option maxHeartbeats 8000000 in
theorem pb_C (c ch n m : Int) (cf : Bool) (h0 : 0 ≤ c) (h1 : c ≤ 257) (n0 : 0 < n) (n1 : n ≤ 26) (hch : (ch == 36) = false) (hm : (if 257 < c * 26 + n then 257 else c * 26 + n) = m) (w : World)
    (H1 : Hid (∀ w, Calls Tryd.prog 59 #[.int .i32 ch] w fun e w' => e = .returned (.int .i64 n) ∧ w' = w)) :
    Calls Tryd.prog 56 #[.agg #[.int .i64 c, .int .i64 0, .bool cf, .bool false], .int .i32 ch] w fun e w' => e = .returned (.tuple #[.agg #[.int .i64 m, .int .i64 0, .bool cf, .bool false], .bool true]) ∧ Gr w w' := by
  have G2 : Hid (∀ a b t u, Gr w ((w.alloc (.cells a t)).alloc (.cells b u))) := fun a b t u => ((Gr.refl w).alloc _ _).alloc _ _
  go_enter Tryd.func56, Tryd.ntmps56
  go_wp2_with (go_at_call 59; refine (H1.out _).mono ?_; rintro e w' ⟨rfl, rfl⟩)
  refine bodyPost_ret (v := .tuple #[.agg #[.int .i64 m, .int .i64 0, .bool cf, .bool false], .bool true]) (by simp [results, Tryd.results56, go_sem, *]) rfl ?_
  exact ⟨rfl, G2.out _ _ _ _⟩
set_option maxHeartbeats 8000000 in
theorem pb_D0 (c ch m : Int) (cf rf : Bool) (h0 : 0 < c) (k0 : 48 < ch) (k1 : ch ≤ 57) (hm : ch - 48 = m) (w : World)
    (H1 : Hid (∀ w, Calls Tryd.prog 59 #[.int .i32 ch] w fun e w' => e = .returned (.int .i64 0) ∧ w' = w)) :
    Calls Tryd.prog 56 #[.agg #[.int .i64 c, .int .i64 0, .bool cf, .bool rf], .int .i32 ch] w fun e w' => e = .returned (.tuple #[.agg #[.int .i64 c, .int .i64 m, .bool cf, .bool rf], .bool true]) ∧ Gr w w' := by
  have G2 : Hid (∀ a b t u, Gr w ((w.alloc (.cells a t)).alloc (.cells b u))) := fun a b t u => ((Gr.refl w).alloc _ _).alloc _ _
  have hch : (ch == 36) = false := by rw [beq_eq_false_iff_ne]; omega
  cases rf
  · go_enter Tryd.func56, Tryd.ntmps56
    go_wp2_with (go_at_call 59; refine (H1.out _).mono ?_; rintro e w' ⟨rfl, rfl⟩)
    refine bodyPost_ret (v := .tuple #[.agg #[.int .i64 c, .int .i64 m, .bool cf, .bool false], .bool true]) (by simp [results, Tryd.results56, go_sem, *]) rfl ?_
    exact ⟨rfl, G2.out _ _ _ _⟩
  · go_enter Tryd.func56, Tryd.ntmps56
    go_wp2_with (go_at_call 59; refine (H1.out _).mono ?_; rintro e w' ⟨rfl, rfl⟩)
    refine bodyPost_ret (v := .tuple #[.agg #[.int .i64 c, .int .i64 m, .bool cf, .bool true], .bool true]) (by simp [results, Tryd.results56, go_sem, *]) rfl ?_
    exact ⟨rfl, G2.out _ _ _ _⟩
set_option maxHeartbeats 8000000 in
theorem pb_D1 (c r ch m : Int) (cf rf : Bool) (h0 : 0 < c) (r0 : 0 < r) (r1 : r ≤ 4097) (k0 : 48 ≤ ch) (k1 : ch ≤ 57) (hm : (if 4097 < r * 10 + (ch - 48) then 4097 else r * 10 + (ch - 48)) = m) (w : World)
    (H1 : Hid (∀ w, Calls Tryd.prog 59 #[.int .i32 ch] w fun e w' => e = .returned (.int .i64 0) ∧ w' = w)) :
    Calls Tryd.prog 56 #[.agg #[.int .i64 c, .int .i64 r, .bool cf, .bool rf], .int .i32 ch] w fun e w' => e = .returned (.tuple #[.agg #[.int .i64 c, .int .i64 m, .bool cf, .bool rf], .bool true]) ∧ Gr w w' := by
  have G2 : Hid (∀ a b t u, Gr w ((w.alloc (.cells a t)).alloc (.cells b u))) := fun a b t u => ((Gr.refl w).alloc _ _).alloc _ _
  have hch : (ch == 36) = false := by rw [beq_eq_false_iff_ne]; omega
  have hr : (r == 0) = false := by rw [beq_eq_false_iff_ne]; omega
  go_enter Tryd.func56, Tryd.ntmps56
  go_wp2_with (go_at_call 59; refine (H1.out _).mono ?_; rintro e w' ⟨rfl, rfl⟩)
  all_goals
    refine bodyPost_ret (v := .tuple #[.agg #[.int .i64 c, .int .i64 m, .bool cf, .bool rf], .bool true]) (by simp [results, Tryd.results56, go_sem, *]) rfl ?_
    exact ⟨rfl, G2.out _ _ _ _⟩
set_option maxHeartbeats 8000000 in
theorem pb_E (c r ch n : Int) (cf rf : Bool) (hE : Hid (¬ (ch = 36 ∧ c = 0 ∧ r = 0 ∧ cf = false ∧ rf = false) ∧ ¬ (ch = 36 ∧ (r = 0 ∧ rf = false) ∧ 0 < c) ∧ ¬ (0 < n ∧ (r = 0 ∧ rf = false)) ∧ ¬ (48 ≤ ch ∧ ch ≤ 57 ∧ 0 < c ∧ (48 < ch ∨ 0 < r)))) (w : World)
    (H1 : Hid (∀ w, Calls Tryd.prog 59 #[.int .i32 ch] w fun e w' => e = .returned (.int .i64 n) ∧ w' = w)) :
    Calls Tryd.prog 56 #[.agg #[.int .i64 c, .int .i64 r, .bool cf, .bool rf], .int .i32 ch] w fun e w' => e = .returned (.tuple #[.agg #[.int .i64 0, .int .i64 0, .bool false, .bool false], .bool false]) ∧ Gr w w' := by
  have G2 : Hid (∀ a b t u, Gr w ((w.alloc (.cells a t)).alloc (.cells b u))) := fun a b t u => ((Gr.refl w).alloc _ _).alloc _ _
  go_enter Tryd.func56, Tryd.ntmps56
  go_wp2_with (go_at_call 59; refine (H1.out _).mono ?_; rintro e w' ⟨rfl, rfl⟩)
  all_goals first
    | (exfalso; obtain ⟨e1, e2, e3, e4⟩ := hE.out; clear H1 G2; simp_all; done)
    | (exfalso; obtain ⟨e1, e2, e3, e4⟩ := hE.out; clear H1 G2; simp_all; omega)
    | (refine bodyPost_ret (v := .tuple #[.agg #[.int .i64 0, .int .i64 0, .bool false, .bool false], .bool false]) (by simp [results, Tryd.results56, go_sem, *]) rfl ?_; exact ⟨rfl, G2.out _ _ _ _⟩)
end Go.Proofs.YthehdloofamadaaDoor
