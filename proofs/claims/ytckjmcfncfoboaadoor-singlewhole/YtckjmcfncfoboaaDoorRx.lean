/- The document's Whole, magnitude, ToInt, ToUint. -/
import Derived.Test.YtckjmcfncfoboaaDoorRw
namespace Go.Proofs.YtckjmcfncfoboaaDoor
open Go.RowKit
open Ieee

theorem results_three {fn : Func} {t u v : Tmp} (h : fn.results = #[.tmp t, .tmp u, .tmp v]) (tmps : Array Value) (P : Program) (w : World) :
    (results fn tmps).run P w = .ok (.tuple #[tmps.getD t undef, tmps.getD u undef, tmps.getD v undef]) w := by
  simp [results, h]
theorem ret3 {a b c a' b' c' : Value} (h1 : a = a') (h2 : b = b') (h3 : c = c') : Ending.returned (.tuple #[a, b, c]) = .returned (.tuple #[a', b', c']) := by rw [h1, h2, h3]

set_option maxHeartbeats 1000000 in
theorem rWhole_core (a mode M E q k y r z s : Int) (neg F X N : Bool) (hz : Hid (bits .andNot .u64 a 9223372036854775808 = z)) (hX : (z == 9218868437227405312) = X) (R T : Int)
    (H0 : Hid (∀ w, Calls Tryd.prog 53 #[.int .i64 mode] w fun e w' => e = .returned (.bool F) ∧ w' = w))
    (H1 : Hid (∀ w, Calls Tryd.prog 54 #[.int .u64 a] w fun e w' => e = .returned (.bool N) ∧ w' = w))
    (H2 : Hid (∀ w, Calls Tryd.prog 55 #[.int .u64 a] w fun e w' => e = .returned (.tuple #[.bool neg, .int .u64 M, .int .i64 E, .int .i64 r]) ∧ w' = w))
    (H3 : Hid (F = true → N = false → X = false → ∀ w, Calls Tryd.prog 67 #[.bool neg, .int .u64 M, .int .i64 E, .int .i64 mode] w fun e w' => e = .returned (.tuple #[.int .u64 q, .int .i64 k]) ∧ w' = w))
    (H4 : Hid (F = true → N = false → X = false → ∀ w, Calls Tryd.prog 46 #[.bool neg, .int .u64 q, .int .i64 k] w fun e w' => e = .returned (.tuple #[.int .u64 y, .int .i64 s]) ∧ w' = w))
    (hR : Hid (R = if F = false then 0 else if N = true then 0 else if X = true then a else y)) (hT : Hid (T = if F = false then 1 else if N = true then 10 else 0)) (w : World) :
    Calls Tryd.prog 31 #[.int .u64 a, .int .i64 mode] w fun e w' => e = .returned (.tuple #[.int .u64 R, .int .i64 T]) ∧ w' = w := by
  cases F
  · cases N
    all_goals
      go_enter Tryd.func31, Tryd.ntmps31
      go_wp2_with (first | (go_at_call 53; refine (H0.out _).mono ?_; rintro e w' ⟨rfl, rfl⟩) | (go_at_call 54; refine (H1.out _).mono ?_; rintro e w' ⟨rfl, rfl⟩))
      go_ret2
      exact ⟨ret2 (int_eq hR.out.symm) (int_eq hT.out.symm), rfl⟩
  · cases N
    · cases X
      · have H3' := (H3.out rfl rfl rfl)
        have H4' := (H4.out rfl rfl rfl)
        have H3 : Hid _ := H3'
        have H4 : Hid _ := H4'
        clear H3' H4'
        go_enter Tryd.func31, Tryd.ntmps31
        go_wp2_with (first | (simp only [hz.out]) | (go_at_call 53; refine (H0.out _).mono ?_; rintro e w' ⟨rfl, rfl⟩) | (go_at_call 54; refine (H1.out _).mono ?_; rintro e w' ⟨rfl, rfl⟩) | (go_at_call 55; refine (H2.out _).mono ?_; rintro e w' ⟨rfl, rfl⟩) | (go_at_call 67; refine (H3.out _).mono ?_; rintro e w' ⟨rfl, rfl⟩) | (go_at_call 46; refine (H4.out _).mono ?_; rintro e w' ⟨rfl, rfl⟩))
        go_ret2
        exact ⟨ret2 (int_eq hR.out.symm) (int_eq hT.out.symm), rfl⟩
      · go_enter Tryd.func31, Tryd.ntmps31
        go_wp2_with (first | (simp only [hz.out]) | (go_at_call 53; refine (H0.out _).mono ?_; rintro e w' ⟨rfl, rfl⟩) | (go_at_call 54; refine (H1.out _).mono ?_; rintro e w' ⟨rfl, rfl⟩))
        go_ret2
        exact ⟨ret2 (int_eq hR.out.symm) (int_eq hT.out.symm), rfl⟩
    · go_enter Tryd.func31, Tryd.ntmps31
      go_wp2_with (first | (go_at_call 53; refine (H0.out _).mono ?_; rintro e w' ⟨rfl, rfl⟩) | (go_at_call 54; refine (H1.out _).mono ?_; rintro e w' ⟨rfl, rfl⟩))
      go_ret2
      exact ⟨ret2 (int_eq hR.out.symm) (int_eq hT.out.symm), rfl⟩

set_option maxHeartbeats 1000000 in
theorem rmag_core (a mode M E q k V r z : Int) (neg F X N : Bool) (hz : Hid (bits .andNot .u64 a 9223372036854775808 = z)) (hX : (z == 9218868437227405312) = X) (q0 : 0 ≤ q) (q1 : q < 9007199254740992) (k0 : 0 ≤ k) (k1 : k ≤ 1000) (hV : Hid (k ≤ 11 → IntKind.u64.wrap (q * 2 ^ k.toNat) = V)) (hV0 : Hid (q = 0 → V = 0)) (A : Bool) (R T : Int)
    (H0 : Hid (∀ w, Calls Tryd.prog 53 #[.int .i64 mode] w fun e w' => e = .returned (.bool F) ∧ w' = w))
    (H1 : Hid (∀ w, Calls Tryd.prog 54 #[.int .u64 a] w fun e w' => e = .returned (.bool N) ∧ w' = w))
    (H2 : Hid (∀ w, Calls Tryd.prog 55 #[.int .u64 a] w fun e w' => e = .returned (.tuple #[.bool neg, .int .u64 M, .int .i64 E, .int .i64 r]) ∧ w' = w))
    (H3 : Hid (F = true → N = false → X = false → ∀ w, Calls Tryd.prog 67 #[.bool neg, .int .u64 M, .int .i64 E, .int .i64 mode] w fun e w' => e = .returned (.tuple #[.int .u64 q, .int .i64 k]) ∧ w' = w))
    (hA : Hid (A = if F = true ∧ N = false ∧ X = false ∧ ¬ (11 < k ∧ 0 < q) then neg else false)) (hR : Hid (R = if F = true ∧ N = false ∧ X = false ∧ ¬ (11 < k ∧ 0 < q) then V else 0)) (hT : Hid (T = if F = false then 1 else if N = true then 10 else if X = true then 11 else if 11 < k ∧ 0 < q then 11 else 0)) (w : World) :
    Calls Tryd.prog 68 #[.int .u64 a, .int .i64 mode] w fun e w' => e = .returned (.tuple #[.bool A, .int .u64 R, .int .i64 T]) ∧ ∃ d, w' = w.drewN d := by
  cases F
  · cases N
    all_goals
      go_enter Tryd.func68, Tryd.ntmps68
      go_wp2_with (first | (go_at_call 53; refine (H0.out _).mono ?_; rintro e w' ⟨rfl, rfl⟩) | (go_at_call 54; refine (H1.out _).mono ?_; rintro e w' ⟨rfl, rfl⟩))
      refine bodyPost_ret (results_three rfl _ _ _) rfl ?_
      exact ⟨ret3 (bool_eq hA.out.symm) (int_eq hR.out.symm) (int_eq hT.out.symm), 0, rfl⟩
  · cases N
    · cases X
      · have H3' := (H3.out rfl rfl rfl)
        have H3 : Hid _ := H3'
        clear H3'
        by_cases c : 11 < k ∧ 0 < q
        · obtain ⟨c1, c2⟩ := c
          go_enter Tryd.func68, Tryd.ntmps68
          go_wp2_with (first | (simp only [hz.out]) | (go_at_call 53; refine (H0.out _).mono ?_; rintro e w' ⟨rfl, rfl⟩) | (go_at_call 54; refine (H1.out _).mono ?_; rintro e w' ⟨rfl, rfl⟩) | (go_at_call 55; refine (H2.out _).mono ?_; rintro e w' ⟨rfl, rfl⟩) | (go_at_call 67; refine (H3.out _).mono ?_; rintro e w' ⟨rfl, rfl⟩))
          refine bodyPost_ret (results_three rfl _ _ _) rfl ?_
          refine ⟨ret3 (bool_eq ?_) (int_eq ?_) (int_eq ?_), 0, rfl⟩
          · rw [hA.out, if_neg (by simp [c1, c2])]
          · rw [hR.out, if_neg (by simp [c1, c2])]
          · rw [hT.out, if_neg (by decide), if_neg (by decide), if_neg (by decide), if_pos ⟨c1, c2⟩]
        · have eA : Hid (A = neg) := by have := hA.out; rw [if_pos ⟨rfl, rfl, rfl, c⟩] at this; exact this
          have eR : Hid (R = V) := by have := hR.out; rw [if_pos ⟨rfl, rfl, rfl, c⟩] at this; exact this
          have eT : Hid (T = 0) := by have := hT.out; rw [if_neg (by decide), if_neg (by decide), if_neg (by decide), if_neg c] at this; exact this
          clear hA hR hT
          by_cases hq : q = 0
          · subst hq
            have hV' := hV0.out rfl
            clear c
            go_enter Tryd.func68, Tryd.ntmps68
            go_wp2_with (first | (simp only [hz.out]) | (go_at_call 53; refine (H0.out _).mono ?_; rintro e w' ⟨rfl, rfl⟩) | (go_at_call 54; refine (H1.out _).mono ?_; rintro e w' ⟨rfl, rfl⟩) | (go_at_call 55; refine (H2.out _).mono ?_; rintro e w' ⟨rfl, rfl⟩) | (go_at_call 67; refine (H3.out _).mono ?_; rintro e w' ⟨rfl, rfl⟩))
            all_goals
              refine bodyPost_ret (results_three rfl _ _ _) rfl ?_
              exact ⟨ret3 (bool_eq eA.out.symm) (int_eq (hV'.symm.trans eR.out.symm)) (int_eq eT.out.symm), 0, rfl⟩
          · have ck : k ≤ 11 := by omega
            have hV' : Hid (IntKind.u64.wrap (q * 2 ^ k.toNat) = V) := hV.out ck
            have hq' : (q == 0) = false := by simpa using hq
            clear c hq hV
            go_enter Tryd.func68, Tryd.ntmps68
            go_wp2_with (first | (simp only [hz.out]) | (go_at_call 53; refine (H0.out _).mono ?_; rintro e w' ⟨rfl, rfl⟩) | (go_at_call 54; refine (H1.out _).mono ?_; rintro e w' ⟨rfl, rfl⟩) | (go_at_call 55; refine (H2.out _).mono ?_; rintro e w' ⟨rfl, rfl⟩) | (go_at_call 67; refine (H3.out _).mono ?_; rintro e w' ⟨rfl, rfl⟩))
            go_quiet (fail)
            go_wp2
            refine bodyPost_ret (results_three rfl _ _ _) rfl ?_
            exact ⟨ret3 (bool_eq eA.out.symm) (int_eq (hV'.out.trans eR.out.symm)) (int_eq eT.out.symm), _, rfl⟩
      · go_enter Tryd.func68, Tryd.ntmps68
        go_wp2_with (first | (simp only [hz.out]) | (go_at_call 53; refine (H0.out _).mono ?_; rintro e w' ⟨rfl, rfl⟩) | (go_at_call 54; refine (H1.out _).mono ?_; rintro e w' ⟨rfl, rfl⟩))
        refine bodyPost_ret (results_three rfl _ _ _) rfl ?_
        exact ⟨ret3 (bool_eq hA.out.symm) (int_eq hR.out.symm) (int_eq hT.out.symm), 0, rfl⟩
    · go_enter Tryd.func68, Tryd.ntmps68
      go_wp2_with (first | (go_at_call 53; refine (H0.out _).mono ?_; rintro e w' ⟨rfl, rfl⟩) | (go_at_call 54; refine (H1.out _).mono ?_; rintro e w' ⟨rfl, rfl⟩))
      refine bodyPost_ret (results_three rfl _ _ _) rfl ?_
      exact ⟨ret3 (bool_eq hA.out.symm) (int_eq hR.out.symm) (int_eq hT.out.symm), 0, rfl⟩
end Go.Proofs.YtckjmcfncfoboaaDoor
