/- Unit and Single: the program's. -/
import Derived.Test.YtokfmeainfkjfaaDoorWs
import Derived.Test.YtokfmeainfkjfaaDoorWk
namespace Go.Proofs.YtokfmeainfkjfaaDoor
open Go.RowKit

def untE (b : Nat) : Int := if mag b = 0 then -1074 else spE b
def untW (b : Nat) : Nat := if 9218868437227405312 ≤ mag b then 0 else Fl.pw (untE b)
theorem spE_bd (b : Nat) : -1074 ≤ spE b ∧ spE b ≤ 971 := by
  have := mag_lt b
  unfold spE; split
  · omega
  · split
    · omega
    · split <;> omega
theorem untE_bd (b : Nat) : -1074 ≤ untE b ∧ untE b ≤ 971 := by
  have := spE_bd b
  unfold untE; split <;> omega
theorem spMz_bd (b : Nat) : 0 ≤ spMz b ∧ spMz b < 9007199254740992 := by
  unfold spMz spM; split
  · omega
  · split <;> omega
theorem spMz_0 (b : Nat) (h : mag b < 9218868437227405312) : spMz b = 0 ↔ mag b = 0 := by
  unfold spMz spM; rw [if_neg (by omega)]; split <;> omega
theorem spR_fin (b : Nat) : (spR b = 0 ↔ mag b < 9218868437227405312) ∧ (spR b = 10 ↔ 9218868437227405312 ≤ mag b) := by
  unfold spR; split <;> omega

set_option maxHeartbeats 400000 in
theorem unit_bad (b : Nat) (s : Bool) (m e f : Int) (hf : (f == 0) = false) (S0 : Hid (∀ w, Calls Tryd.prog 18 #[.float .f64 b] w fun e1 w' => e1 = .returned (.tuple #[.bool s, .int .u64 m, .int .i64 e, .int .i64 f]) ∧ w' = w)) (w : World) :
    Calls Tryd.prog 32 #[.float .f64 b] w fun e w' => e = .returned (.tuple #[.float .f64 0, .int .i64 f]) ∧ w' = w := by
  go_enter Tryd.func32, Tryd.ntmps32
  go_wp2_with (go_at_call 18; refine (S0.out _).mono ?_; rintro e1 w' ⟨rfl, rfl⟩)
  go_ret2
  exact ⟨rfl, rfl⟩
set_option maxHeartbeats 400000 in
theorem unit_0 (b p : Nat) (s : Bool) (m e c : Int) (hc : (c == 3) = true) (S0 : Hid (∀ w, Calls Tryd.prog 18 #[.float .f64 b] w fun e1 w' => e1 = .returned (.tuple #[.bool s, .int .u64 m, .int .i64 e, .int .i64 0]) ∧ w' = w))
    (C0 : Hid (∀ w, Calls Tryd.prog 14 #[.float .f64 b] w fun e w' => e = .returned (.int .i64 c) ∧ w' = w))
    (P0 : Hid (∀ w, Calls Tryd.prog 44 #[.int .i64 (-1074)] w fun e w' => e = .returned (.float .f64 p) ∧ w' = w)) (w : World) :
    Calls Tryd.prog 32 #[.float .f64 b] w fun e w' => e = .returned (.tuple #[.float .f64 p, .int .i64 0]) ∧ w' = w := by
  go_enter Tryd.func32, Tryd.ntmps32
  go_wp2_with (first | (go_at_call 18; refine (S0.out _).mono ?_; rintro e1 w' ⟨rfl, rfl⟩) | (go_at_call 14; refine (C0.out _).mono ?_; rintro e1 w' ⟨rfl, rfl⟩) | (go_at_call 44; refine (P0.out _).mono ?_; rintro e1 w' ⟨rfl, rfl⟩))
  go_ret2
  exact ⟨rfl, rfl⟩
set_option maxHeartbeats 400000 in
theorem unit_n (b p : Nat) (s : Bool) (m e c : Int) (hc : (c == 3) = false) (S0 : Hid (∀ w, Calls Tryd.prog 18 #[.float .f64 b] w fun e1 w' => e1 = .returned (.tuple #[.bool s, .int .u64 m, .int .i64 e, .int .i64 0]) ∧ w' = w))
    (C0 : Hid (∀ w, Calls Tryd.prog 14 #[.float .f64 b] w fun e w' => e = .returned (.int .i64 c) ∧ w' = w))
    (P0 : Hid (∀ w, Calls Tryd.prog 44 #[.int .i64 e] w fun e w' => e = .returned (.float .f64 p) ∧ w' = w)) (w : World) :
    Calls Tryd.prog 32 #[.float .f64 b] w fun e w' => e = .returned (.tuple #[.float .f64 p, .int .i64 0]) ∧ w' = w := by
  go_enter Tryd.func32, Tryd.ntmps32
  go_wp2_with (first | (go_at_call 18; refine (S0.out _).mono ?_; rintro e1 w' ⟨rfl, rfl⟩) | (go_at_call 14; refine (C0.out _).mono ?_; rintro e1 w' ⟨rfl, rfl⟩) | (go_at_call 44; refine (P0.out _).mono ?_; rintro e1 w' ⟨rfl, rfl⟩))
  go_ret2
  exact ⟨rfl, rfl⟩

theorem cls3 (b : Nat) (h : mag b < 9218868437227405312) : (cls b == 3) = decide (mag b = 0) := by
  unfold cls
  rw [if_neg (by omega), if_neg (by omega)]
  by_cases c : mag b = 0
  · rw [if_pos c, decide_eq_true c]; rfl
  · rw [if_neg c, decide_eq_false c]; split <;> rfl

theorem unit_any (b : Nat) (hb : Hid (b < 18446744073709551616)) (w : World) :
    Calls Tryd.prog 32 #[.float .f64 b] w fun e w' => e = .returned (.tuple #[.float .f64 (untW b), .int .i64 (spR b)]) ∧ w' = w := by
  have S0 := split_any b hb
  by_cases h : 9218868437227405312 ≤ mag b
  · have e : untW b = 0 := by unfold untW; rw [if_pos h]
    rw [e]
    exact unit_bad b _ _ _ _ (by rw [(spR_fin b).2.2 h]; rfl) S0 w
  · have h' : mag b < 9218868437227405312 := by omega
    have e : untW b = Fl.pw (untE b) := by unfold untW; rw [if_neg h]
    have r := (spR_fin b).1.2 h'
    rw [r] at S0
    rw [e, r]
    have C0 := class_any b hb
    have bd := spE_bd b
    by_cases z : mag b = 0
    · have e2 : untE b = -1074 := by unfold untE; rw [if_pos z]
      rw [e2]
      exact unit_0 b _ _ _ _ _ (by rw [cls3 b h']; exact decide_eq_true z) S0 C0 (power_any _ (by omega) (by omega)) w
    · have e2 : untE b = spE b := by unfold untE; rw [if_neg z]
      rw [e2]
      exact unit_n b _ _ _ _ _ (by rw [cls3 b h']; exact decide_eq_false z) S0 C0 (power_any _ (by omega) (by omega)) w

def sgl (b : Nat) : Bool := if 9218868437227405312 ≤ mag b ∨ mag b = 0 then true else hld ((oddM (spMz b)).log2 + 1 : Nat) (oddE (spMz b) (spE b)) 24 (-149) 128

set_option maxHeartbeats 400000 in
theorem single_yes (b : Nat) (s : Bool) (m e f : Int) (hf : (f != 0 || m == 0) = true) (S0 : Hid (∀ w, Calls Tryd.prog 18 #[.float .f64 b] w fun e1 w' => e1 = .returned (.tuple #[.bool s, .int .u64 m, .int .i64 e, .int .i64 f]) ∧ w' = w)) (w : World) :
    Calls Tryd.prog 34 #[.float .f64 b] w fun e w' => e = .returned (.bool true) ∧ w' = w := by
  by_cases h : (f == 0) = true
  · have hm : (m == 0) = true := by
      have : (f != 0) = false := by rw [bne, h]; rfl
      rw [this] at hf; simpa using hf
    obtain rfl : f = 0 := by simpa using h
    clear hf h
    go_enter Tryd.func34, Tryd.ntmps34
    go_wp2_with (go_at_call 18; refine (S0.out _).mono ?_; rintro e1 w' ⟨rfl, rfl⟩)
    go_ret
    exact ⟨rfl, rfl⟩
  · have h' : (f == 0) = false := by simpa using h
    clear hf h
    go_enter Tryd.func34, Tryd.ntmps34
    go_wp2_with (go_at_call 18; refine (S0.out _).mono ?_; rintro e1 w' ⟨rfl, rfl⟩)
    go_ret
    exact ⟨rfl, rfl⟩
set_option maxHeartbeats 400000 in
theorem single_odd (b : Nat) (s r : Bool) (m e o g : Int) (hm : (m == 0) = false) (S0 : Hid (∀ w, Calls Tryd.prog 18 #[.float .f64 b] w fun e1 w' => e1 = .returned (.tuple #[.bool s, .int .u64 m, .int .i64 e, .int .i64 0]) ∧ w' = w))
    (C1 : Hid (∀ w, Tab w → Calls Tryd.prog 42 #[.int .u64 m, .int .i64 e] w fun e w' => e = .returned (.tuple #[.int .u64 o, .int .i64 g]) ∧ w' = w))
    (C2 : Hid (∀ w, Calls Tryd.prog 43 #[.int .u64 o, .int .i64 g, .int .i64 24, .int .i64 (-149), .int .i64 128] w fun e w' => e = .returned (.bool r) ∧ w' = w))
    (w : World) (hT : Hid (Tab w)) :
    Calls Tryd.prog 34 #[.float .f64 b] w fun e w' => e = .returned (.bool r) ∧ w' = w := by
  go_enter Tryd.func34, Tryd.ntmps34
  go_wp2_with (first | (go_at_call 18; refine (S0.out _).mono ?_; rintro e1 w' ⟨rfl, rfl⟩) | (go_at_call 42; refine (C1.out _ hT.out).mono ?_; rintro e1 w' ⟨rfl, rfl⟩) | (go_at_call 43; refine (C2.out _).mono ?_; rintro e1 w' ⟨rfl, rfl⟩))
  go_ret
  exact ⟨rfl, rfl⟩

theorem single_any (b : Nat) (hb : Hid (b < 18446744073709551616)) (w : World) (hT : Hid (Tab w)) :
    Calls Tryd.prog 34 #[.float .f64 b] w fun e w' => e = .returned (.bool (sgl b)) ∧ w' = w := by
  have S0 := split_any b hb
  by_cases h : 9218868437227405312 ≤ mag b ∨ mag b = 0
  · have e : sgl b = true := by unfold sgl; rw [if_pos h]
    rw [e]
    refine single_yes b _ _ _ _ ?_ S0 w
    rcases h with h | h
    · rw [(spR_fin b).2.2 h]; rfl
    · rw [(spMz_0 b (by omega)).2 h]; simp
  · have e : sgl b = hld ((oddM (spMz b)).log2 + 1 : Nat) (oddE (spMz b) (spE b)) 24 (-149) 128 := by unfold sgl; rw [if_neg h]
    have h' : mag b < 9218868437227405312 := by omega
    have r := (spR_fin b).1.2 h'
    rw [r] at S0
    rw [e]
    have bd := spE_bd b
    have mb := spMz_bd b
    have m0 : spMz b ≠ 0 := fun c => h (Or.inr ((spMz_0 b h').1 c))
    obtain ⟨hk, ho, _, _, hol⟩ := odd_facts (spMz b) (by omega) (by omega)
    obtain ⟨hbl, hl⟩ := oddM_log (spMz b) (by omega) (by omega)
    refine single_odd b _ _ _ _ (oddM (spMz b)) (oddE (spMz b) (spE b)) (by simpa using m0) S0 (fun w hT => ?_) (fun w => ?_) w hT
    · have := odd_any (spMz b) (spE b) _ (by omega) (by omega) hk rfl (by omega) (by omega) w hT
      rwa [← ho] at this
    · exact holds_any (oddM (spMz b)) (oddE (spMz b) (spE b)) 24 (-149) 128 _ (by omega) (by omega) (by rw [← ho, Int.toNat_natCast] at hbl; rw [Int.toNat_natCast]; exact hbl) (by omega) (by omega) (by unfold oddE; omega) (by unfold oddE; omega) w
end Go.Proofs.YtokfmeainfkjfaaDoor
