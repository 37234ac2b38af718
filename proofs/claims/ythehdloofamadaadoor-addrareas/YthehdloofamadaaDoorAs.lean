/- The document's In, Size, shifted, Shift. -/
import Derived.Test.YthehdloofamadaaDoorAr
namespace Go.Proofs.YthehdloofamadaaDoor
open Go.RowKit

set_option maxHeartbeats 2000000 in
theorem rIn_any (c r d s x y : Int) (w : World) :
    Calls Tryd.prog 26 #[.agg #[.int .i64 c, .int .i64 r, .int .i64 d, .int .i64 s], .agg #[.int .i64 x, .int .i64 y]] w fun e w' => e = .returned (.bool (inA c r d s x y)) ∧ Gr w w' := by
  have H1 : Hid (∀ w, Calls Tryd.prog 24 #[.agg #[.int .i64 c, .int .i64 r, .int .i64 d, .int .i64 s]] w fun e w' => e = .returned (.bool (vA c r d s)) ∧ w' = ((w.alloc (.cells #[.int .i64 c, .int .i64 r, .int .i64 d, .int .i64 s] 38)).alloc (.cells #[.int .i64 c, .int .i64 r] 23)).alloc (.cells #[.int .i64 d, .int .i64 s] 23)) := rValidArea_at c r d s
  have G : Hid (Gr w (((((w.alloc (.cells #[.int .i64 c, .int .i64 r, .int .i64 d, .int .i64 s] 38)).alloc (.cells #[.int .i64 x, .int .i64 y] 23)).alloc (.cells #[.int .i64 c, .int .i64 r, .int .i64 d, .int .i64 s] 38)).alloc (.cells #[.int .i64 c, .int .i64 r] 23)).alloc (.cells #[.int .i64 d, .int .i64 s] 23))) := (((((Gr.refl w).alloc _ _).alloc _ _).alloc _ _).alloc _ _).alloc _ _
  have hV : Hid (inA c r d s x y = (vA c r d s && decide (c ≤ x) && decide (x ≤ d) && decide (r ≤ y) && decide (y ≤ s))) := rfl
  generalize inA c r d s x y = V at *
  generalize vA c r d s = p at *
  go_enter Tryd.func26, Tryd.ntmps26
  go_wp2_with fail
  refine (H1.out _).mono ?_
  rintro e w' ⟨rfl, rfl⟩
  go_wp2_with fail
  all_goals
    go_ret
    refine ⟨rBool ?_, G.out⟩
    rw [hV.out]
    clear H1 hV G
    cases p <;> (try simp_all) <;> (try omega)

set_option maxHeartbeats 2000000 in
theorem rSize_any (c r d s : Int) (w : World) :
    Calls Tryd.prog 28 #[.agg #[.int .i64 c, .int .i64 r, .int .i64 d, .int .i64 s]] w fun e w' => e = .returned (.int .i64 (sizeA c r d s)) ∧ Gr w w' := by
  have H1 : Hid (∀ w, Calls Tryd.prog 24 #[.agg #[.int .i64 c, .int .i64 r, .int .i64 d, .int .i64 s]] w fun e w' => e = .returned (.bool (vA c r d s)) ∧ w' = ((w.alloc (.cells #[.int .i64 c, .int .i64 r, .int .i64 d, .int .i64 s] 38)).alloc (.cells #[.int .i64 c, .int .i64 r] 23)).alloc (.cells #[.int .i64 d, .int .i64 s] 23)) := rValidArea_at c r d s
  have G : Hid (Gr w ((((w.alloc (.cells #[.int .i64 c, .int .i64 r, .int .i64 d, .int .i64 s] 38)).alloc (.cells #[.int .i64 c, .int .i64 r, .int .i64 d, .int .i64 s] 38)).alloc (.cells #[.int .i64 c, .int .i64 r] 23)).alloc (.cells #[.int .i64 d, .int .i64 s] 23))) := ((((Gr.refl w).alloc _ _).alloc _ _).alloc _ _).alloc _ _
  have hV : Hid (sizeA c r d s = if vA c r d s then (d - c + 1) * (s - r + 1) else 0) := rfl
  have hb := vA_bd c r d s
  generalize sizeA c r d s = V at *
  generalize vA c r d s = p at *
  cases p
  · clear hb
    go_enter Tryd.func28, Tryd.ntmps28
    go_wp2_with fail
    refine (H1.out _).mono ?_
    rintro e w' ⟨rfl, rfl⟩
    go_wp2_with fail
    go_ret
    exact ⟨rInt hV.out.symm, G.out⟩
  · obtain ⟨h1, h2, h3, h4, h5, h6⟩ := hb rfl
    obtain ⟨m0, m1⟩ := mul_bd (d - c + 1) (s - r + 1) (by omega) (by omega) (by omega) (by omega)
    have hV' : Hid ((d - c + 1) * (s - r + 1) = V) := hV.out.symm
    clear hV hb
    go_enter Tryd.func28, Tryd.ntmps28
    go_wp2_with fail
    refine (H1.out _).mono ?_
    rintro e w' ⟨rfl, rfl⟩
    go_wp2_with fail
    go_ret
    exact ⟨rInt hV'.out, G.out⟩

set_option maxHeartbeats 2000000 in
theorem rshifted_any (n b m : Int) (f : Bool) (hn0 : 0 ≤ n) (hn1 : n < 100000) (hm0 : 0 ≤ m) (hm1 : m < 100000) (w : World) :
    Calls Tryd.prog 46 #[.int .i64 n, .int .i64 b, .int .i64 m, .bool f] w fun e w' => e = .returned (.tuple #[.int .i64 (shN n b m f).1, .bool (shN n b m f).2]) ∧ w' = w := by
  cases f
  · by_cases c1 : b < -n
    · have h1 : Hid (shN n b m false = (0, false)) := by show _ = _; unfold shN; rw [if_neg (by decide), if_pos (.inl c1)]
      generalize shN n b m false = X at *
      go_enter Tryd.func46, Tryd.ntmps46
      go_wp2
      go_ret2
      rw [h1.out]
      exact ⟨rfl, rfl⟩
    · by_cases c2 : m < b
      · have h1 : Hid (shN n b m false = (0, false)) := by show _ = _; unfold shN; rw [if_neg (by decide), if_pos (.inr c2)]
        generalize shN n b m false = X at *
        go_enter Tryd.func46, Tryd.ntmps46
        go_wp2
        go_ret2
        rw [h1.out]
        exact ⟨rfl, rfl⟩
      · have h1 : Hid (shN n b m false = (n + b, decide (1 ≤ n + b) && decide (n + b ≤ m))) := by show _ = _; unfold shN; rw [if_neg (by decide), if_neg (by omega)]
        generalize shN n b m false = X at *
        have c1' : -n ≤ b := by omega
        have c2' : b ≤ m := by omega
        clear c1 c2
        by_cases c3 : 1 ≤ n + b
        · go_enter Tryd.func46, Tryd.ntmps46
          go_wp2
          go_ret2
          rw [h1.out]
          refine ⟨rTwo rfl (vBool ?_), rfl⟩
          simp [c3]
        · have c3' : n + b < 1 := by omega
          clear c3
          go_enter Tryd.func46, Tryd.ntmps46
          go_wp2
          go_ret2
          rw [h1.out]
          refine ⟨rTwo rfl (vBool ?_), rfl⟩
          rw [decide_eq_false (by omega)]
          rfl
  · have h1 : Hid (shN n b m true = (n, true)) := rfl
    generalize shN n b m true = X at *
    go_enter Tryd.func46, Tryd.ntmps46
    go_wp2
    go_ret2
    rw [h1.out]
    exact ⟨rfl, rfl⟩

set_option maxHeartbeats 4000000 in
theorem rShift_any (c r x y : Int) (cf rf : Bool) (w : World) :
    Calls Tryd.prog 16 #[.agg #[.int .i64 c, .int .i64 r, .bool cf, .bool rf], .int .i64 x, .int .i64 y] w fun e w' =>
      e = .returned (.tuple #[shV c r cf rf x y, .bool (shOk c r cf rf x y)]) ∧ Gr w w' := by
  have H1 : Hid (∀ w, Calls Tryd.prog 10 #[.agg #[.int .i64 c, .int .i64 r]] w fun e w' => e = .returned (.bool (vC c r)) ∧ w' = w.alloc (.cells #[.int .i64 c, .int .i64 r] 23)) := rValid_at c r
  have G0 : Hid (∀ a b d t u v, Gr w (((w.alloc (.cells a t)).alloc (.cells b u)).alloc (.cells d v))) := fun a b d t u v => (((Gr.refl w).alloc _ _).alloc _ _).alloc _ _
  have hv := vC_iff c r
  have hO : Hid (shOk c r cf rf x y = (vC c r && (shN c x 256 cf).2 && (shN r y 4096 rf).2)) := rfl
  have hR : Hid (shV c r cf rf x y = if shOk c r cf rf x y then refV (shN c x 256 cf).1 (shN r y 4096 rf).1 cf rf else refV 0 0 false false) := rfl
  generalize shV c r cf rf x y = R at *
  generalize shOk c r cf rf x y = O at *
  generalize vC c r = V at *
  cases V
  · have hO' : O = false := hO.out
    subst hO'
    have hR' : Hid (refV 0 0 false false = R) := hR.out.symm
    clear hO hv hR
    go_enter Tryd.func16, Tryd.ntmps16
    go_wp2_with fail
    refine (H1.out _).mono ?_
    rintro e w' ⟨rfl, rfl⟩
    go_wp2_with fail
    refine bodyPost_ret (v := .tuple #[.agg #[.int .i64 0, .int .i64 0, .bool false, .bool false], .bool false]) (by simp [results, Tryd.results16, go_sem, *]) rfl ?_
    exact ⟨rTwo hR'.out rfl, G0.out _ _ _ _ _ _⟩
  · obtain ⟨b1, b2, b3, b4⟩ := hv.1 rfl
    have H2 : Hid (∀ w, Calls Tryd.prog 46 #[.int .i64 c, .int .i64 x, .int .i64 256, .bool cf] w fun e w' => e = .returned (.tuple #[.int .i64 (shN c x 256 cf).1, .bool (shN c x 256 cf).2]) ∧ w' = w) := rshifted_any c x 256 cf (by omega) (by omega) (by omega) (by omega)
    have H3 : Hid (∀ w, Calls Tryd.prog 46 #[.int .i64 r, .int .i64 y, .int .i64 4096, .bool rf] w fun e w' => e = .returned (.tuple #[.int .i64 (shN r y 4096 rf).1, .bool (shN r y 4096 rf).2]) ∧ w' = w) := rshifted_any r y 4096 rf (by omega) (by omega) (by omega) (by omega)
    clear hv
    generalize (shN c x 256 cf).1 = X at *
    generalize (shN c x 256 cf).2 = p at *
    generalize (shN r y 4096 rf).1 = Y at *
    generalize (shN r y 4096 rf).2 = q at *
    have hO' : O = (p && q) := by rw [hO.out]; rfl
    subst hO'
    clear hO
    cases p <;> cases q
    case true.true =>
      have hR' : Hid (refV X Y cf rf = R) := hR.out.symm
      clear hR
      go_enter Tryd.func16, Tryd.ntmps16
      go_wp2_with fail
      refine (H1.out _).mono ?_
      rintro e w' ⟨rfl, rfl⟩
      go_wp2_with fail
      refine (H2.out _).mono ?_
      rintro e w' ⟨rfl, rfl⟩
      go_wp2_with fail
      refine (H3.out _).mono ?_
      rintro e w' ⟨rfl, rfl⟩
      go_wp2_with fail
      refine bodyPost_ret (v := .tuple #[.agg #[.int .i64 X, .int .i64 Y, .bool cf, .bool rf], .bool true]) (by simp [results, Tryd.results16, go_sem, *]) rfl ?_
      exact ⟨rTwo hR'.out rfl, G0.out _ _ _ _ _ _⟩
    all_goals
      have hR' : Hid (refV 0 0 false false = R) := hR.out.symm
      clear hR
      go_enter Tryd.func16, Tryd.ntmps16
      go_wp2_with fail
      refine (H1.out _).mono ?_
      rintro e w' ⟨rfl, rfl⟩
      go_wp2_with fail
      refine (H2.out _).mono ?_
      rintro e w' ⟨rfl, rfl⟩
      go_wp2_with fail
      refine (H3.out _).mono ?_
      rintro e w' ⟨rfl, rfl⟩
      go_wp2_with fail
      refine bodyPost_ret (v := .tuple #[.agg #[.int .i64 0, .int .i64 0, .bool false, .bool false], .bool false]) (by simp [results, Tryd.results16, go_sem, *]) rfl ?_
      exact ⟨rTwo hR'.out rfl, G0.out _ _ _ _ _ _⟩
end Go.Proofs.YthehdloofamadaaDoor
