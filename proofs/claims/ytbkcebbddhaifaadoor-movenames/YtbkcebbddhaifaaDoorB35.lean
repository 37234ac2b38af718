/- The program's Order: cmp.Compare, cmp.Or of two. The kit's contract of strings.Compare, laid over this dump (by wip/shelfc.py: the numbers are this seat's). The program's Order and Same of values (value), Same of contents (grid). -/
import Derived.Test.YtbkcebbddhaifaaDoorB10
import Derived.Test.YtbkcebbddhaifaaDoorB1
import Derived.Deep.RegionHeld3
import Derived.Shelf.Small.Strs
import Derived.Test.YtbkcebbddhaifaaDoorProg
import Derived.Test.YtbkcebbddhaifaaDoorB30
import Derived.Deep.QuietTactic
namespace Go.Proofs.YtbkcebbddhaifaaDoor
open Go.RowKit

set_option maxHeartbeats 1000000 in
theorem pCompare_any (a b : Int) (w : World) :
    Calls Tryd.prog 74 #[.int .i64 a, .int .i64 b] w fun e w' => e = .returned (.int .i64 (cmpI a b)) ∧ w' = w := by
  have hV : Hid (cmpI a b = if a < b then -1 else if b < a then 1 else 0) := rfl
  generalize cmpI a b = V at *
  go_enter Tryd.func74, Tryd.ntmps74
  go_wp2
  all_goals
    go_ret
    refine ⟨rInt ?_, rfl⟩
    rw [hV.out]
    repeat' split
    all_goals omega

set_option maxHeartbeats 2000000 in
theorem pOr_two (b : Nat) (p q : Int) (w : World) (h0 : w.cell? ⟨b, 0, none⟩ = some (.int .i64 p)) (h1 : w.cell? ⟨b, 1, none⟩ = some (.int .i64 q)) :
    Calls Tryd.prog 73 #[.slice (some ⟨b, 0, none⟩) 2 2] w fun e w' => e = .returned (.int .i64 (if p = 0 then q else p)) ∧ w' = w := by
  have hV : Hid (∀ V, V = (if p = 0 then q else p) → V = (if p = 0 then q else p)) := fun _ h => h
  obtain ⟨V, hVV⟩ : ∃ V, (if p = 0 then q else p) = V := ⟨_, rfl⟩
  have HV : Hid ((if p = 0 then q else p) = V) := hVV
  rw [hVV]
  clear hV hVV
  go_enter Tryd.func73, Tryd.ntmps73
  go_wp2
  go_loopw [8] (fun i wr => wr = w ∧ (i = .int .i64 0 ∨ (i = .int .i64 1 ∧ p = 0) ∨ (i = .int .i64 2 ∧ p = 0 ∧ q = 0))) (fun i _ => (2 - intOf i).toNat)
  case atStart => exact ⟨rfl, .inl rfl⟩
  case round =>
    obtain ⟨hw, hc⟩ := hrel
    subst hw
    rcases hc with rfl | ⟨rfl, hp⟩ | ⟨rfl, hp, hq⟩
    · by_cases hp : p = 0
      · subst hp
        go_wp2
        go_roundw
        case rel => simp
        case measure => simp only [intOf]; omega
      · have hV : Hid (p = V) := by show _ = _; rw [← HV.out, if_neg hp]
        have hp' : (p != 0) = true := by simpa using hp
        clear HV
        go_wp2
        go_ret
        exact ⟨rInt hV.out, rfl⟩
    · subst hp
      have hV : Hid (q = V) := by show _ = _; rw [← HV.out, if_pos rfl]
      clear HV
      by_cases hq : q = 0
      · subst hq
        go_wp2
        go_roundw
        case rel => simp
        case measure => simp only [intOf]; omega
      · have hq' : (q != 0) = true := by simpa using hq
        go_wp2
        go_ret
        exact ⟨rInt hV.out, rfl⟩
    · subst hp hq
      have hV : Hid (0 = V) := by show _ = _; rw [← HV.out, if_pos rfl]
      clear HV
      go_wp2
      go_ret
      exact ⟨rInt hV.out, rfl⟩

set_option maxHeartbeats 2000000 in
theorem pOrder_any (c r d s : Int) (w : World) :
    Calls Tryd.prog 64 #[.agg #[.int .i64 c, .int .i64 r], .agg #[.int .i64 d, .int .i64 s]] w fun e w' => e = .returned (.int .i64 (ordC c r d s)) ∧ Gr w w' := by
  have G1 : Hid (∀ a t, Gr w (((w.alloc (.cells #[.int .i64 c, .int .i64 r] 28)).alloc (.cells #[.int .i64 d, .int .i64 s] 28)).alloc (.cells a t))) := fun a t => (((Gr.refl w).alloc _ _).alloc _ _).alloc _ _
  have H1 : Hid (∀ w, Calls Tryd.prog 74 #[.int .i64 r, .int .i64 s] w fun e w' => e = .returned (.int .i64 (cmpI r s)) ∧ w' = w) := pCompare_any r s
  have H2 : Hid (∀ w, Calls Tryd.prog 74 #[.int .i64 c, .int .i64 d] w fun e w' => e = .returned (.int .i64 (cmpI c d)) ∧ w' = w) := pCompare_any c d
  have H3 : Hid (∀ t, Calls Tryd.prog 73 #[.slice (some ⟨w.heap.size + 1 + 1, 0, none⟩) 2 2] (((w.alloc (.cells #[.int .i64 c, .int .i64 r] 28)).alloc (.cells #[.int .i64 d, .int .i64 s] 28)).alloc (.cells #[.int .i64 (cmpI r s), .int .i64 (cmpI c d)] t)).drew fun e w' => e = .returned (.int .i64 (ordC c r d s)) ∧ Gr w w' ∧ w'.cell? ⟨w.heap.size, 0, none⟩ = some (.int .i64 c) ∧ w'.cell? ⟨w.heap.size, 1, none⟩ = some (.int .i64 r) ∧ w'.cell? ⟨w.heap.size + 1, 0, none⟩ = some (.int .i64 d) ∧ w'.cell? ⟨w.heap.size + 1, 1, none⟩ = some (.int .i64 s)) := fun t => by
    have hh := has2_new ((w.alloc (.cells #[.int .i64 c, .int .i64 r] 28)).alloc (.cells #[.int .i64 d, .int .i64 s] 28)) (.int .i64 (cmpI r s)) (.int .i64 (cmpI c d)) t
    rw [World.size_alloc, World.size_alloc] at hh
    unfold ordC
    refine Calls.mono (pOr_two (w.heap.size + 1 + 1) (cmpI r s) (cmpI c d) _ ?_ ?_) ?_
    · exact hh.1.1
    · exact hh.1.2
    intro e w' h
    refine ⟨h.1, ?_⟩
    rw [h.2]
    have ga := (has2_new w (.int .i64 c) (.int .i64 r) 28).gr (((Gr.refl _).alloc #[.int .i64 d, .int .i64 s] 28).alloc #[.int .i64 (cmpI r s), .int .i64 (cmpI c d)] t)
    have gb := (has2_new (w.alloc (.cells #[.int .i64 c, .int .i64 r] 28)) (.int .i64 d) (.int .i64 s) 28).gr ((Gr.refl _).alloc #[.int .i64 (cmpI r s), .int .i64 (cmpI c d)] t)
    rw [World.size_alloc] at gb
    exact ⟨(G1.out _ _).drew, ga.1.1, ga.1.2, gb.1.1, gb.1.2⟩
  generalize ordC c r d s = V at *
  generalize cmpI r s = p at *
  generalize cmpI c d = q at *
  go_enter Tryd.func64, Tryd.ntmps64
  go_wp2_with fail
  go_region_held3 (fun w' => w'.cell? ⟨w.heap.size, 0, none⟩ = some (.int .i64 c) ∧ w'.cell? ⟨w.heap.size, 1, none⟩ = some (.int .i64 r) ∧ w'.cell? ⟨w.heap.size + 1, 0, none⟩ = some (.int .i64 d) ∧ w'.cell? ⟨w.heap.size + 1, 1, none⟩ = some (.int .i64 s)) (go_keep) (first
    | (go_at_call_of 74 (Value.int .i64 r); refine (H1.out _).mono ?_; rintro e w' ⟨rfl, rfl⟩)
    | (go_at_call_of 74 (Value.int .i64 c); refine (H2.out _).mono ?_; rintro e w' ⟨rfl, rfl⟩)
    | (go_at_call 73; refine (H3.out _).mono ?_; rintro e w' ⟨rfl, hg, k0, k1, k2, k3⟩))
  all_goals
    have HG : Hid (Gr w w') := hg
    clear hg
    go_wp2_with fail
    go_ret
    exact ⟨rfl, HG.out⟩
end Go.Proofs.YtbkcebbddhaifaaDoor
namespace Go.Proofs
open Go.Shelf
end Go.Proofs
namespace Go.Proofs.YtbkcebbddhaifaaDoor
open Go.RowKit Go.Lib
attribute [local irreducible] tsame lsame

theorem compare_zero : ∀ (a b : List UInt8), (compareBytes a b == 0) = decide (a = b)
  | [], [] => by simp [compareBytes]
  | [], _ :: _ => by simp [compareBytes]
  | _ :: _, [] => by simp [compareBytes]
  | a :: xs, b :: ys => by
    rw [compareBytes]
    by_cases h1 : a < b
    · rw [if_pos h1]
      have : a ≠ b := fun e => by subst e; exact absurd h1 (by simp)
      simp [this]
    · rw [if_neg h1]
      by_cases h2 : b < a
      · rw [if_pos h2]
        have : a ≠ b := fun e => by subst e; exact absurd h2 (by simp)
        simp [this]
      · rw [if_neg h2, compare_zero xs ys]
        have : a = b := UInt8.le_antisymm (UInt8.not_lt.1 h2) (UInt8.not_lt.1 h1)
        simp [this]
theorem cmpI_zero (a b : Int) : (cmpI a b == 0) = (a == b) := by
  have h : cmpI a b = if a < b then -1 else if b < a then 1 else 0 := rfl
  rw [h, Bool.eq_iff_iff, beq_iff_eq, beq_iff_eq]
  split
  · constructor <;> intro h <;> omega
  · split
    · constructor <;> intro h <;> omega
    · constructor <;> intro h <;> omega
/-- How two values stand. -/
def vord (v u : Vl) : Int := if v.k = u.k then (if v.k = 1 then ord (plc v.x) (plc u.x) else if v.k = 2 then compareBytes v.s.data.toList u.s.data.toList else if v.k = 3 then cmpI (if v.b then 1 else 0) (if u.b then 1 else 0) else if v.k = 4 then cmpI v.f u.f else 0) else cmpI v.k u.k
theorem vord_zero (v u : Vl) (hv : v.x < 18446744073709551616) (hu : u.x < 18446744073709551616) : (vord v u == 0) = vsame v u := by
  unfold vord vsame
  by_cases hk : v.k = u.k
  · rw [if_pos hk, ← hk, beq_self_eq_true, Bool.true_and]
    split
    · exact fsame_ord _ _ hv hu
    · split
      · rw [compare_zero, ByteArray.toList_eq, ByteArray.toList_eq]
      · split
        · rw [cmpI_zero]
          cases v.b <;> cases u.b <;> rfl
        · split
          · exact cmpI_zero _ _
          · rfl
  · rw [if_neg hk, cmpI_zero]
    have : (v.k == u.k) = false := by simpa using hk
    rw [this, Bool.false_and]
end Go.Proofs.YtbkcebbddhaifaaDoor
