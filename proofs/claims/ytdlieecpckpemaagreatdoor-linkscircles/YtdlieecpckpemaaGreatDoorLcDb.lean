/- The program's Order: cmp.Compare, cmp.Or of two. -/
import Derived.Test.YtdlieecpckpemaaGreatDoorLcDa
import Derived.Test.YtdlieecpckpemaaGreatDoorLcGa
import Derived.Deep.RegionHeld3
namespace Go.Proofs.YtdlieecpckpemaaGreatDoor
open Go.RowKit

set_option maxHeartbeats 1000000 in
theorem pCompare_any (a b : Int) (w : World) :
    Calls Tryz.prog 87 #[.int .i64 a, .int .i64 b] w fun e w' => e = .returned (.int .i64 (cmpI a b)) ∧ w' = w := by
  have hV : Hid (cmpI a b = if a < b then -1 else if b < a then 1 else 0) := rfl
  generalize cmpI a b = V at *
  go_enter Tryz.func87, Tryz.ntmps87
  go_wp2
  all_goals
    go_ret
    refine ⟨rInt ?_, rfl⟩
    rw [hV.out]
    repeat' split
    all_goals omega

set_option maxHeartbeats 2000000 in
theorem pOr_two (b : Nat) (p q : Int) (w : World) (h0 : w.cell? ⟨b, 0, none⟩ = some (.int .i64 p)) (h1 : w.cell? ⟨b, 1, none⟩ = some (.int .i64 q)) :
    Calls Tryz.prog 86 #[.slice (some ⟨b, 0, none⟩) 2 2] w fun e w' => e = .returned (.int .i64 (if p = 0 then q else p)) ∧ w' = w := by
  have hV : Hid (∀ V, V = (if p = 0 then q else p) → V = (if p = 0 then q else p)) := fun _ h => h
  obtain ⟨V, hVV⟩ : ∃ V, (if p = 0 then q else p) = V := ⟨_, rfl⟩
  have HV : Hid ((if p = 0 then q else p) = V) := hVV
  rw [hVV]
  clear hV hVV
  go_enter Tryz.func86, Tryz.ntmps86
  go_wp2
  go_loopw [8] (fun i wr => wr = w ∧ (i = .int .i64 0 ∨ (i = .int .i64 1 ∧ p = 0) ∨ (i = .int .i64 2 ∧ p = 0 ∧ q = 0))) (fun i _ => (2 - intOf i).toNat)
  case atStart => exact ⟨rfl, .inl rfl⟩
  case round =>
    obtain ⟨hw, hc⟩ := hrel
    subst hw
    rcases hc with rfl | ⟨rfl, hp⟩ | ⟨rfl, hp, hq⟩
    · by_cases hp : p = 0
      · subst hp
        go_wp2
        go_roundw
        case rel => simp
        case measure => simp only [intOf]; omega
      · have hV : Hid (p = V) := by show _ = _; rw [← HV.out, if_neg hp]
        have hp' : (p != 0) = true := by simpa using hp
        clear HV
        go_wp2
        go_ret
        exact ⟨rInt hV.out, rfl⟩
    · subst hp
      have hV : Hid (q = V) := by show _ = _; rw [← HV.out, if_pos rfl]
      clear HV
      by_cases hq : q = 0
      · subst hq
        go_wp2
        go_roundw
        case rel => simp
        case measure => simp only [intOf]; omega
      · have hq' : (q != 0) = true := by simpa using hq
        go_wp2
        go_ret
        exact ⟨rInt hV.out, rfl⟩
    · subst hp hq
      have hV : Hid (0 = V) := by show _ = _; rw [← HV.out, if_pos rfl]
      clear HV
      go_wp2
      go_ret
      exact ⟨rInt hV.out, rfl⟩

set_option maxHeartbeats 2000000 in
theorem pOrder_any (c r d s : Int) (w : World) :
    Calls Tryz.prog 50 #[.agg #[.int .i64 c, .int .i64 r], .agg #[.int .i64 d, .int .i64 s]] w fun e w' => e = .returned (.int .i64 (ordC c r d s)) ∧ Gr w w' := by
  have G1 : Hid (∀ a t, Gr w (((w.alloc (.cells #[.int .i64 c, .int .i64 r] 29)).alloc (.cells #[.int .i64 d, .int .i64 s] 29)).alloc (.cells a t))) := fun a t => (((Gr.refl w).alloc _ _).alloc _ _).alloc _ _
  have H1 : Hid (∀ w, Calls Tryz.prog 87 #[.int .i64 r, .int .i64 s] w fun e w' => e = .returned (.int .i64 (cmpI r s)) ∧ w' = w) := pCompare_any r s
  have H2 : Hid (∀ w, Calls Tryz.prog 87 #[.int .i64 c, .int .i64 d] w fun e w' => e = .returned (.int .i64 (cmpI c d)) ∧ w' = w) := pCompare_any c d
  have H3 : Hid (∀ t, Calls Tryz.prog 86 #[.slice (some ⟨w.heap.size + 1 + 1, 0, none⟩) 2 2] (((w.alloc (.cells #[.int .i64 c, .int .i64 r] 29)).alloc (.cells #[.int .i64 d, .int .i64 s] 29)).alloc (.cells #[.int .i64 (cmpI r s), .int .i64 (cmpI c d)] t)).drew fun e w' => e = .returned (.int .i64 (ordC c r d s)) ∧ Gr w w' ∧ w'.cell? ⟨w.heap.size, 0, none⟩ = some (.int .i64 c) ∧ w'.cell? ⟨w.heap.size, 1, none⟩ = some (.int .i64 r) ∧ w'.cell? ⟨w.heap.size + 1, 0, none⟩ = some (.int .i64 d) ∧ w'.cell? ⟨w.heap.size + 1, 1, none⟩ = some (.int .i64 s)) := fun t => by
    have hh := has2_new ((w.alloc (.cells #[.int .i64 c, .int .i64 r] 29)).alloc (.cells #[.int .i64 d, .int .i64 s] 29)) (.int .i64 (cmpI r s)) (.int .i64 (cmpI c d)) t
    rw [World.size_alloc, World.size_alloc] at hh
    unfold ordC
    refine Calls.mono (pOr_two (w.heap.size + 1 + 1) (cmpI r s) (cmpI c d) _ ?_ ?_) ?_
    · exact hh.1.1
    · exact hh.1.2
    intro e w' h
    refine ⟨h.1, ?_⟩
    rw [h.2]
    have ga := (has2_new w (.int .i64 c) (.int .i64 r) 29).gr (((Gr.refl _).alloc #[.int .i64 d, .int .i64 s] 29).alloc #[.int .i64 (cmpI r s), .int .i64 (cmpI c d)] t)
    have gb := (has2_new (w.alloc (.cells #[.int .i64 c, .int .i64 r] 29)) (.int .i64 d) (.int .i64 s) 29).gr ((Gr.refl _).alloc #[.int .i64 (cmpI r s), .int .i64 (cmpI c d)] t)
    rw [World.size_alloc] at gb
    exact ⟨(G1.out _ _).drew, ga.1.1, ga.1.2, gb.1.1, gb.1.2⟩
  generalize ordC c r d s = V at *
  generalize cmpI r s = p at *
  generalize cmpI c d = q at *
  go_enter Tryz.func50, Tryz.ntmps50
  go_wp2_with fail
  go_region_held3 (fun w' => w'.cell? ⟨w.heap.size, 0, none⟩ = some (.int .i64 c) ∧ w'.cell? ⟨w.heap.size, 1, none⟩ = some (.int .i64 r) ∧ w'.cell? ⟨w.heap.size + 1, 0, none⟩ = some (.int .i64 d) ∧ w'.cell? ⟨w.heap.size + 1, 1, none⟩ = some (.int .i64 s)) (go_keep) (first
    | (go_at_call_of 87 (Value.int .i64 r); refine (H1.out _).mono ?_; rintro e w' ⟨rfl, rfl⟩)
    | (go_at_call_of 87 (Value.int .i64 c); refine (H2.out _).mono ?_; rintro e w' ⟨rfl, rfl⟩)
    | (go_at_call 86; refine (H3.out _).mono ?_; rintro e w' ⟨rfl, hg, k0, k1, k2, k3⟩))
  all_goals
    have HG : Hid (Gr w w') := hg
    clear hg
    go_wp2_with fail
    go_ret
    exact ⟨rfl, HG.out⟩
end Go.Proofs.YtdlieecpckpemaaGreatDoor
