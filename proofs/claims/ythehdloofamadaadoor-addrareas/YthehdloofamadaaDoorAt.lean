/- The document's Area, Meet. -/
import Derived.Test.YthehdloofamadaaDoorAs
namespace Go.Proofs.YthehdloofamadaaDoor
open Go.RowKit

set_option maxHeartbeats 4000000 in
theorem rArea_any (c r d s : Int) (w : World) :
    Calls Tryd.prog 30 #[.agg #[.int .i64 c, .int .i64 r], .agg #[.int .i64 d, .int .i64 s]] w fun e w' =>
      e = .returned (.tuple #[arV c r d s, .int .i64 (arE c r d s)]) ∧ Gr w w' := by
  have H1 : Hid (∀ w, Calls Tryd.prog 10 #[.agg #[.int .i64 c, .int .i64 r]] w fun e w' => e = .returned (.bool (vC c r)) ∧ w' = w.alloc (.cells #[.int .i64 c, .int .i64 r] 23)) := rValid_at c r
  have H2 : Hid (∀ w, Calls Tryd.prog 10 #[.agg #[.int .i64 d, .int .i64 s]] w fun e w' => e = .returned (.bool (vC d s)) ∧ w' = w.alloc (.cells #[.int .i64 d, .int .i64 s] 23)) := rValid_at d s
  have G0 : Hid (∀ a b d f g t u v x y, Gr w (((((w.alloc (.cells a t)).alloc (.cells b u)).alloc (.cells d v)).alloc (.cells f x)).alloc (.cells g y))) := fun a b d f g t u v x y => (((((Gr.refl w).alloc _ _).alloc _ _).alloc _ _).alloc _ _).alloc _ _
  have hE : Hid (arE c r d s = if vC c r && vC d s then 0 else 20) := rfl
  have hR : Hid (arV c r d s = if vC c r && vC d s then areaV (min c d) (min r s) (max c d) (max r s) else areaV 0 0 0 0) := rfl
  generalize arV c r d s = R at *
  generalize arE c r d s = E at *
  generalize vC c r = p at *
  generalize vC d s = q at *
  cases p <;> cases q
  case true.true =>
    have hE' : E = 0 := hE.out
    subst hE'
    have hR' : Hid (areaV (min c d) (min r s) (max c d) (max r s) = R) := hR.out.symm
    clear hR hE
    rcases Int.lt_trichotomy c d with h1 | h1 | h1
    · rw [Hid, Int.min_eq_left (Int.le_of_lt h1), Int.max_eq_right (Int.le_of_lt h1)] at hR'
      rcases Int.lt_trichotomy r s with h2 | h2 | h2
      · rw [Int.min_eq_left (Int.le_of_lt h2), Int.max_eq_right (Int.le_of_lt h2)] at hR'
        have hR'' := hR'
        clear hR'
        have hR' : Hid _ := hR''
        clear hR''
        go_enter Tryd.func30, Tryd.ntmps30
        go_wp2_with fail
        refine (H1.out _).mono ?_
        rintro e w' ⟨rfl, rfl⟩
        go_wp2_with fail
        refine (H2.out _).mono ?_
        rintro e w' ⟨rfl, rfl⟩
        go_wp2_with fail
        refine bodyPost_ret (v := .tuple #[.agg #[.int .i64 c, .int .i64 r, .int .i64 d, .int .i64 s], .int .i64 0]) (by simp [results, Tryd.results30, go_sem, *]) rfl ?_
        exact ⟨rTwo hR'.out rfl, G0.out _ _ _ _ _ _ _ _ _ _⟩
      · subst h2
        rw [Int.min_self, Int.max_self] at hR'
        have hR'' := hR'
        clear hR'
        have hR' : Hid _ := hR''
        clear hR''
        go_enter Tryd.func30, Tryd.ntmps30
        go_wp2_with fail
        refine (H1.out _).mono ?_
        rintro e w' ⟨rfl, rfl⟩
        go_wp2_with fail
        refine (H2.out _).mono ?_
        rintro e w' ⟨rfl, rfl⟩
        go_wp2_with fail
        refine bodyPost_ret (v := .tuple #[.agg #[.int .i64 c, .int .i64 r, .int .i64 d, .int .i64 r], .int .i64 0]) (by simp [results, Tryd.results30, go_sem, *]) rfl ?_
        exact ⟨rTwo hR'.out rfl, G0.out _ _ _ _ _ _ _ _ _ _⟩
      · rw [Int.min_eq_right (Int.le_of_lt h2), Int.max_eq_left (Int.le_of_lt h2)] at hR'
        have hR'' := hR'
        clear hR'
        have hR' : Hid _ := hR''
        clear hR''
        go_enter Tryd.func30, Tryd.ntmps30
        go_wp2_with fail
        refine (H1.out _).mono ?_
        rintro e w' ⟨rfl, rfl⟩
        go_wp2_with fail
        refine (H2.out _).mono ?_
        rintro e w' ⟨rfl, rfl⟩
        go_wp2_with fail
        refine bodyPost_ret (v := .tuple #[.agg #[.int .i64 c, .int .i64 s, .int .i64 d, .int .i64 r], .int .i64 0]) (by simp [results, Tryd.results30, go_sem, *]) rfl ?_
        exact ⟨rTwo hR'.out rfl, G0.out _ _ _ _ _ _ _ _ _ _⟩
    · subst h1
      rw [Hid, Int.min_self, Int.max_self] at hR'
      rcases Int.lt_trichotomy r s with h2 | h2 | h2
      · rw [Int.min_eq_left (Int.le_of_lt h2), Int.max_eq_right (Int.le_of_lt h2)] at hR'
        have hR'' := hR'
        clear hR'
        have hR' : Hid _ := hR''
        clear hR''
        go_enter Tryd.func30, Tryd.ntmps30
        go_wp2_with fail
        refine (H1.out _).mono ?_
        rintro e w' ⟨rfl, rfl⟩
        go_wp2_with fail
        refine (H2.out _).mono ?_
        rintro e w' ⟨rfl, rfl⟩
        go_wp2_with fail
        refine bodyPost_ret (v := .tuple #[.agg #[.int .i64 c, .int .i64 r, .int .i64 c, .int .i64 s], .int .i64 0]) (by simp [results, Tryd.results30, go_sem, *]) rfl ?_
        exact ⟨rTwo hR'.out rfl, G0.out _ _ _ _ _ _ _ _ _ _⟩
      · subst h2
        rw [Int.min_self, Int.max_self] at hR'
        have hR'' := hR'
        clear hR'
        have hR' : Hid _ := hR''
        clear hR''
        go_enter Tryd.func30, Tryd.ntmps30
        go_wp2_with fail
        refine (H1.out _).mono ?_
        rintro e w' ⟨rfl, rfl⟩
        go_wp2_with fail
        refine (H2.out _).mono ?_
        rintro e w' ⟨rfl, rfl⟩
        go_wp2_with fail
        refine bodyPost_ret (v := .tuple #[.agg #[.int .i64 c, .int .i64 r, .int .i64 c, .int .i64 r], .int .i64 0]) (by simp [results, Tryd.results30, go_sem, *]) rfl ?_
        exact ⟨rTwo hR'.out rfl, G0.out _ _ _ _ _ _ _ _ _ _⟩
      · rw [Int.min_eq_right (Int.le_of_lt h2), Int.max_eq_left (Int.le_of_lt h2)] at hR'
        have hR'' := hR'
        clear hR'
        have hR' : Hid _ := hR''
        clear hR''
        go_enter Tryd.func30, Tryd.ntmps30
        go_wp2_with fail
        refine (H1.out _).mono ?_
        rintro e w' ⟨rfl, rfl⟩
        go_wp2_with fail
        refine (H2.out _).mono ?_
        rintro e w' ⟨rfl, rfl⟩
        go_wp2_with fail
        refine bodyPost_ret (v := .tuple #[.agg #[.int .i64 c, .int .i64 s, .int .i64 c, .int .i64 r], .int .i64 0]) (by simp [results, Tryd.results30, go_sem, *]) rfl ?_
        exact ⟨rTwo hR'.out rfl, G0.out _ _ _ _ _ _ _ _ _ _⟩
    · rw [Hid, Int.min_eq_right (Int.le_of_lt h1), Int.max_eq_left (Int.le_of_lt h1)] at hR'
      rcases Int.lt_trichotomy r s with h2 | h2 | h2
      · rw [Int.min_eq_left (Int.le_of_lt h2), Int.max_eq_right (Int.le_of_lt h2)] at hR'
        have hR'' := hR'
        clear hR'
        have hR' : Hid _ := hR''
        clear hR''
        go_enter Tryd.func30, Tryd.ntmps30
        go_wp2_with fail
        refine (H1.out _).mono ?_
        rintro e w' ⟨rfl, rfl⟩
        go_wp2_with fail
        refine (H2.out _).mono ?_
        rintro e w' ⟨rfl, rfl⟩
        go_wp2_with fail
        refine bodyPost_ret (v := .tuple #[.agg #[.int .i64 d, .int .i64 r, .int .i64 c, .int .i64 s], .int .i64 0]) (by simp [results, Tryd.results30, go_sem, *]) rfl ?_
        exact ⟨rTwo hR'.out rfl, G0.out _ _ _ _ _ _ _ _ _ _⟩
      · subst h2
        rw [Int.min_self, Int.max_self] at hR'
        have hR'' := hR'
        clear hR'
        have hR' : Hid _ := hR''
        clear hR''
        go_enter Tryd.func30, Tryd.ntmps30
        go_wp2_with fail
        refine (H1.out _).mono ?_
        rintro e w' ⟨rfl, rfl⟩
        go_wp2_with fail
        refine (H2.out _).mono ?_
        rintro e w' ⟨rfl, rfl⟩
        go_wp2_with fail
        refine bodyPost_ret (v := .tuple #[.agg #[.int .i64 d, .int .i64 r, .int .i64 c, .int .i64 r], .int .i64 0]) (by simp [results, Tryd.results30, go_sem, *]) rfl ?_
        exact ⟨rTwo hR'.out rfl, G0.out _ _ _ _ _ _ _ _ _ _⟩
      · rw [Int.min_eq_right (Int.le_of_lt h2), Int.max_eq_left (Int.le_of_lt h2)] at hR'
        have hR'' := hR'
        clear hR'
        have hR' : Hid _ := hR''
        clear hR''
        go_enter Tryd.func30, Tryd.ntmps30
        go_wp2_with fail
        refine (H1.out _).mono ?_
        rintro e w' ⟨rfl, rfl⟩
        go_wp2_with fail
        refine (H2.out _).mono ?_
        rintro e w' ⟨rfl, rfl⟩
        go_wp2_with fail
        refine bodyPost_ret (v := .tuple #[.agg #[.int .i64 d, .int .i64 s, .int .i64 c, .int .i64 r], .int .i64 0]) (by simp [results, Tryd.results30, go_sem, *]) rfl ?_
        exact ⟨rTwo hR'.out rfl, G0.out _ _ _ _ _ _ _ _ _ _⟩
  all_goals
    have hE' : E = 20 := hE.out
    subst hE'
    have hR' : Hid (areaV 0 0 0 0 = R) := hR.out.symm
    clear hR hE
    go_enter Tryd.func30, Tryd.ntmps30
    go_wp2_with fail
    refine (H1.out _).mono ?_
    rintro e w' ⟨rfl, rfl⟩
    go_wp2_with fail
    refine (H2.out _).mono ?_
    rintro e w' ⟨rfl, rfl⟩
    go_wp2_with fail
    refine bodyPost_ret (v := .tuple #[.agg #[.int .i64 0, .int .i64 0, .int .i64 0, .int .i64 0], .int .i64 20]) (by simp [results, Tryd.results30, go_sem, *]) rfl ?_
    exact ⟨rTwo hR'.out rfl, G0.out _ _ _ _ _ _ _ _ _ _⟩
end Go.Proofs.YthehdloofamadaaDoor
