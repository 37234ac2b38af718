/- Cmp. -/
import Derived.Test.YtnceajanlnnfoaaGreatDoorQmGw
import Derived.RegionTactic
import Derived.ChangeAlike
import Derived.Deep.QuietTactic
import Derived.BigQuiet
namespace Go.Proofs.YtnceajanlnnfoaaGreatDoor
open Go.RowKit
def cmpN (A B : Nat) : Int := if A < B then -1 else if A = B then 0 else 1
theorem fval_high (f g : Nat → Nat) (k n : Nat) (h : k ≤ n) (e : ∀ j, k ≤ j → j < n → f j = g j) : ∃ H, fval f n = fval f k + H ∧ fval g n = fval g k + H := by
  induction n with
  | zero => have : k = 0 := by omega
            subst this; exact ⟨0, rfl, rfl⟩
  | succ n ih =>
    by_cases c : k = n + 1
    · subst c; exact ⟨0, rfl, rfl⟩
    · obtain ⟨H, e1, e2⟩ := ih (by omega) (fun j h1 h2 => e j h1 (by omega))
      refine ⟨H + f n * 2 ^ (32 * n), ?_, ?_⟩
      · rw [fval, e1]; omega
      · rw [fval, e2, ← e n (by omega) (by omega)]; omega
theorem fval_tell (f g : Nat → Nat) (k n : Nat) (h : k < n) (e : ∀ j, k + 1 ≤ j → j < n → f j = g j) (hf : ∀ j, j < n → f j < 4294967296) (_hg : ∀ j, j < n → g j < 4294967296) (hlt : f k < g k) : fval f n < fval g n := by
  obtain ⟨H, e1, e2⟩ := fval_high f g (k + 1) n (by omega) e
  have l1 := fval_lt f k (fun j hj => hf j (by omega))
  rw [e1, e2, fval, fval]
  have : (f k + 1) * 2 ^ (32 * k) ≤ g k * 2 ^ (32 * k) := Nat.mul_le_mul_right _ hlt
  rw [Nat.add_mul, Nat.one_mul] at this
  omega
theorem cmp_lt {A B : Nat} (h : A < B) : cmpN A B = -1 := by unfold cmpN; rw [if_pos h]
theorem cmp_gt {A B : Nat} (h : B < A) : cmpN A B = 1 := by unfold cmpN; rw [if_neg (by omega), if_neg (by omega)]
theorem cmp_eq {A B : Nat} (h : A = B) : cmpN A B = 0 := by unfold cmpN; rw [if_neg (by omega), if_pos h]
theorem fval_short (f g : Nat → Nat) (n m : Nat) (h : n < m) (hf : ∀ j, j < n → f j < 4294967296) (hl : g (m - 1) ≠ 0) : fval f n < fval g m := by
  obtain ⟨k, rfl⟩ : ∃ k, m = k + 1 := ⟨m - 1, by omega⟩
  have l1 := fval_lt f n hf
  have l2 : 2 ^ (32 * n) ≤ 2 ^ (32 * k) := Nat.pow_le_pow_right (by decide) (by omega)
  have h1 : g k ≠ 0 := hl
  have l3 : 1 * 2 ^ (32 * k) ≤ g k * 2 ^ (32 * k) := Nat.mul_le_mul_right _ (by omega)
  rw [fval]
  omega
set_option maxHeartbeats 400000 in
theorem cmp_len (a c : Option Addr) (n m cap cap' : Nat) (h : n < m ∨ m < n) (_hn1 : n < 1000000) (_hm1 : m < 1000000) (w : World) :
    Calls Tryz.prog 184 #[.slice a n cap, .slice c m cap'] w fun e w' => e = .returned (.int .i64 (if n < m then -1 else 1)) ∧ w' = w := by
  rcases h with h | h
  · rw [if_pos h]
    have hne : ((n : Int) == m) = false := by rw [beq_eq_false_iff_ne]; omega
    go_enter Tryz.func184, Tryz.ntmps184
    go_wp2
    go_ret
    exact ⟨rfl, rfl⟩
  · rw [if_neg (by omega)]
    have hne : ((n : Int) == m) = false := by rw [beq_eq_false_iff_ne]; omega
    go_enter Tryz.func184, Tryz.ntmps184
    go_wp2
    go_ret
    exact ⟨rfl, rfl⟩
set_option maxHeartbeats 1000000 in
theorem cmp_core (a c : Option Addr) (b o b' o' n cap cap' : Nat) (f g : Nat → Nat) (ha : 0 < n → a = some ⟨b, o, none⟩) (hc' : 0 < n → c = some ⟨b', o', none⟩) (hn1 : n < 1000000) (w : World) (hd : Hid (Dg w b o n f)) (hd' : Hid (Dg w b' o' n g)) :
    Calls Tryz.prog 184 #[.slice a n cap, .slice c n cap'] w fun e w' => e = .returned (.int .i64 (cmpN (fval f n) (fval g n))) ∧ ∃ d, w' = w.drewN d := by
  have HA : Hid (0 < n → a = some ⟨b, o, none⟩) := ha
  have HC : Hid (0 < n → c = some ⟨b', o', none⟩) := hc'
  clear ha hc'
  go_enter Tryz.func184, Tryz.ntmps184
  go_wp2
  go_loopw [5] (fun i wr => ∃ k : Nat, k ≤ n ∧ i = .int .i64 ((k : Int) - 1) ∧ (∀ j, k ≤ j → j < n → f j = g j) ∧ ∃ d, wr = w.drewN d) (fun i _ => (intOf i + 1).toNat)
  case atStart => exact ⟨n, Nat.le_refl _, rfl, fun j h1 h2 => by omega, 0, rfl⟩
  case round =>
    obtain ⟨k, hk, rfl, hz, d, hw⟩ := hrel
    have HZ : Hid (∀ j, k ≤ j → j < n → f j = g j) := hz
    have HW : Hid (wr = w.drewN d) := hw
    clear hz hw
    by_cases hk0 : 0 < k
    · obtain ⟨m, rfl⟩ : ∃ m, k = m + 1 := ⟨k - 1, by omega⟩
      obtain rfl := HA.out (by omega)
      obtain rfl := HC.out (by omega)
      have c1 : wr.cell? ⟨b, o + m, none⟩ = some (.int .u32 (f m : Nat)) := by rw [HW.out]; exact (hd.out m (by omega)).1
      have c2 : wr.cell? ⟨b', o' + m, none⟩ = some (.int .u32 (g m : Nat)) := by rw [HW.out]; exact (hd'.out m (by omega)).1
      by_cases he : f m = g m
      · have he' : ((f m : Int) != (g m : Int)) = false := by rw [he]; simp
        have HE : Hid (f m = g m) := he
        clear he
        go_wp2
        go_quiet (fail)
        go_wp2
        go_roundw
        case rel =>
          refine ⟨m, by omega, by go_num, fun j h1 h2 => ?_, d + nq, by rw [HW.out, World.drewN_drewN]⟩
          by_cases c : j = m
          · rw [c]; exact HE.out
          · exact HZ.out j (by omega) h2
        case measure => simp [intOf]
      · have he' : ((f m : Int) != (g m : Int)) = true := by rw [bne_iff_ne]; omega
        by_cases hlt : f m < g m
        · have hlt' : (f m : Int) < (g m : Int) := by omega
          have HR : Hid (cmpN (fval f n) (fval g n) = -1) := cmp_lt (fval_tell f g m n (by omega) HZ.out (fun j hj => (hd.out j hj).2) (fun j hj => (hd'.out j hj).2) hlt)
          clear he hlt
          go_wp2
          go_quiet (fail)
          go_wp2
          go_quiet (fail)
          go_wp2
          go_ret
          exact ⟨ret_int HR.out.symm, _, by rw [HW.out, World.drewN_drewN, World.drewN_drewN]⟩
        · have hlt' : (g m : Int) < (f m : Int) := by omega
          have HR : Hid (cmpN (fval f n) (fval g n) = 1) := cmp_gt (fval_tell g f m n (by omega) (fun j h1 h2 => (HZ.out j h1 h2).symm) (fun j hj => (hd'.out j hj).2) (fun j hj => (hd.out j hj).2) (by omega))
          clear he hlt
          go_wp2
          go_quiet (fail)
          go_wp2
          go_quiet (fail)
          go_wp2
          go_ret
          exact ⟨ret_int HR.out.symm, _, by rw [HW.out, World.drewN_drewN, World.drewN_drewN]⟩
    · have hk00 : k = 0 := by omega
      subst hk00
      have HR : Hid (cmpN (fval f n) (fval g n) = 0) := cmp_eq (fval_congr n (fun j hj => HZ.out j (by omega) hj))
      go_wp2
      go_ret
      exact ⟨ret_int HR.out.symm, _, HW.out⟩
theorem cmp_any (u v : Value) (A B : Nat) (w : World) (h : NatAt w u A) (h' : NatAt w v B) :
    Calls Tryz.prog 184 #[u, v] w fun e w' => e = .returned (.int .i64 (cmpN A B)) ∧ ∃ d, w' = w.drewN d := by
  obtain ⟨a, n, cap, f, rfl, _, hd, hl, rfl, hs⟩ := h
  obtain ⟨c, m, cap', g, rfl, _, hd', hl', rfl, hs'⟩ := h'
  rcases Nat.lt_trichotomy n m with q | q | q
  · have hf : ∀ j, j < n → f j < 4294967296 := fun j hj => by
      obtain ⟨b, o, _, d⟩ := hd (by omega)
      exact (d j hj).2
    rw [cmp_lt (fval_short f g n m q hf (hl' (by omega)))]
    have := cmp_len a c n m cap cap' (Or.inl q) hs hs' w
    rw [if_pos q] at this
    exact this.mono fun _ _ h => ⟨h.1, 0, h.2⟩
  · subst q
    by_cases h0 : n = 0
    · subst h0
      exact cmp_core a c 0 0 0 0 0 cap cap' f g (fun c => by omega) (fun c => by omega) hs w (fun j hj => by omega) (fun j hj => by omega)
    · obtain ⟨b, o, rfl, d⟩ := hd (by omega)
      obtain ⟨b', o', rfl, d'⟩ := hd' (by omega)
      exact cmp_core _ _ b o b' o' n cap cap' f g (fun _ => rfl) (fun _ => rfl) hs w d d'
  · have hg : ∀ j, j < m → g j < 4294967296 := fun j hj => by
      obtain ⟨b, o, _, d⟩ := hd' (by omega)
      exact (d j hj).2
    rw [cmp_gt (fval_short g f m n q hg (hl (by omega)))]
    have := cmp_len a c n m cap cap' (Or.inr q) hs hs' w
    rw [if_neg (by omega)] at this
    exact this.mono fun _ _ h => ⟨h.1, 0, h.2⟩
end Go.Proofs.YtnceajanlnnfoaaGreatDoor
