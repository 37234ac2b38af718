/- The table of bits.Len64 in a world that grew. Whole numbers as digits in base 2^32, the lowest first: no program here. trim, Len. -/
import Derived.Test.YtnceajanlnnfoaaGreatDoorQmGa
import Derived.Test.YtnceajanlnnfoaaGreatDoorQmWl
import Derived.Test.YtnceajanlnnfoaaGreatDoorQmSp
import Derived.WalkKit
import Derived.WalkSpells
import Derived.WalkLawsBesides
namespace Go.Proofs.YtnceajanlnnfoaaGreatDoor
open Go.RowKit
theorem tab_gr {w w' : World} (h : Tab w) (g : Gr w w') : Tab w' := fun j hj => g.cell (cell_lt (h j hj)) (h j hj)
end Go.Proofs.YtnceajanlnnfoaaGreatDoor
namespace Go.Proofs.YtnceajanlnnfoaaGreatDoor
open Go.RowKit
def fval (f : Nat → Nat) : Nat → Nat
  | 0 => 0
  | n + 1 => fval f n + f n * 2 ^ (32 * n)
theorem fval_congr {f g : Nat → Nat} (n : Nat) (h : ∀ j, j < n → f j = g j) : fval f n = fval g n := by
  induction n with
  | zero => rfl
  | succ n ih => unfold fval; rw [ih (fun j hj => h j (by omega)), h n (by omega)]
theorem fval_zero (f : Nat → Nat) (k n : Nat) (hk : k ≤ n) (h : ∀ j, k ≤ j → j < n → f j = 0) : fval f n = fval f k := by
  induction n with
  | zero => have : k = 0 := by omega
            rw [this]
  | succ n ih =>
    by_cases c : k = n + 1
    · rw [c]
    · rw [fval, h n (by omega) (by omega), Nat.zero_mul, Nat.add_zero]
      exact ih (by omega) (fun j h1 h2 => h j h1 (by omega))
theorem fval_lt (f : Nat → Nat) (n : Nat) (h : ∀ j, j < n → f j < 4294967296) : fval f n < 2 ^ (32 * n) := by
  induction n with
  | zero => show 0 < 2 ^ (32 * 0); decide
  | succ n ih =>
    have i1 := ih (fun j hj => h j (by omega))
    have h1 := h n (by omega)
    rw [fval, show 32 * (n + 1) = 32 * n + 32 by omega, Nat.pow_add]
    have h2 : f n * 2 ^ (32 * n) ≤ 4294967295 * 2 ^ (32 * n) := Nat.mul_le_mul_right _ (by omega)
    have h3 : 2 ^ (32 * n) * 2 ^ 32 = 4294967296 * 2 ^ (32 * n) := Nat.mul_comm _ _
    omega
def Dg (w : World) (b o n : Nat) (f : Nat → Nat) : Prop := ∀ j, j < n → w.cell? ⟨b, o + j, none⟩ = some (.int .u32 (f j : Nat)) ∧ f j < 4294967296
def NatAt (w : World) (v : Value) (N : Nat) : Prop :=
  ∃ (a : Option Addr) (n cap : Nat) (f : Nat → Nat), v = .slice a n cap ∧ n ≤ cap ∧ (0 < n → ∃ b o, a = some ⟨b, o, none⟩ ∧ Dg w b o n f) ∧ (0 < n → f (n - 1) ≠ 0) ∧ fval f n = N ∧ n < 1000000
theorem Dg.gr {w w' : World} {b o n : Nat} {f : Nat → Nat} (h : Dg w b o n f) (g : Gr w w') : Dg w' b o n f := fun j hj => ⟨g.cell (cell_lt (h j hj).1) (h j hj).1, (h j hj).2⟩
theorem NatAt.gr {w w' : World} {v : Value} {N : Nat} (h : NatAt w v N) (g : Gr w w') : NatAt w' v N := by
  obtain ⟨a, n, cap, f, e, hc, hd, hl, hv, hs⟩ := h
  refine ⟨a, n, cap, f, e, hc, fun hn => ?_, hl, hv, hs⟩
  obtain ⟨b, o, e1, d⟩ := hd hn
  exact ⟨b, o, e1, d.gr g⟩
def lenOfV : Value → Nat
  | .slice _ n _ => n
  | _ => 0
end Go.Proofs.YtnceajanlnnfoaaGreatDoor
namespace Go.Proofs.YtnceajanlnnfoaaGreatDoor
open Go.RowKit
set_option maxHeartbeats 1000000 in
theorem trim_core (b o n cap : Nat) (f : Nat → Nat) (hn : n ≤ cap) (hn1 : n < 1000000) (w : World) (hd : Hid (Dg w b o n f)) :
    Calls Tryz.prog 156 #[.slice (some ⟨b, o, none⟩) n cap] w fun e w' => (∃ k, k ≤ n ∧ e = .returned (.slice (some ⟨b, o, none⟩) k cap) ∧ (∀ j, k ≤ j → j < n → f j = 0) ∧ (0 < k → f (k - 1) ≠ 0)) ∧ w' = w := by
  go_enter Tryz.func156, Tryz.ntmps156
  go_wp2
  go_loop [0] (fun s => ∃ k, k ≤ n ∧ s = .slice (some ⟨b, o, none⟩) k cap ∧ (∀ j, k ≤ j → j < n → f j = 0)) (fun s => lenOfV s)
  case atStart => exact ⟨n, Nat.le_refl _, rfl, fun j h1 h2 => by omega⟩
  case round =>
    obtain ⟨k, hk, rfl, hz⟩ := hrel
    have HZ : Hid (∀ j, k ≤ j → j < n → f j = 0) := hz
    clear hz
    by_cases hk0 : 0 < k
    · obtain ⟨m, rfl⟩ : ∃ m, k = m + 1 := ⟨k - 1, by omega⟩
      have hc : w.cell? ⟨b, o + m, none⟩ = some (.int .u32 (f m : Nat)) := (hd.out m (by omega)).1
      by_cases hf : f m = 0
      · rw [hf] at hc
        go_wp2
        go_round
        case rel =>
          refine ⟨m, by omega, rfl, fun j h1 h2 => ?_⟩
          by_cases c : j = m
          · rw [c]; exact hf
          · exact HZ.out j (by omega) h2
        case measure => simp [lenOfV]
      · have hf' : ((f m : Int) == 0) = false := by rw [beq_eq_false_iff_ne]; omega
        have HF : Hid (f m ≠ 0) := hf
        clear hf
        go_wp2
        go_ret
        exact ⟨⟨m + 1, hk, rfl, HZ.out, fun _ => HF.out⟩, rfl⟩
    · have : k = 0 := by omega
      subst this
      go_wp2
      go_ret
      exact ⟨⟨0, by omega, rfl, HZ.out, fun c => by omega⟩, rfl⟩
set_option maxHeartbeats 400000 in
theorem trim_nil (a : Option Addr) (cap : Nat) (w : World) :
    Calls Tryz.prog 156 #[.slice a 0 cap] w fun e w' => e = .returned (.slice a 0 cap) ∧ w' = w := by
  go_enter Tryz.func156, Tryz.ntmps156
  go_wp2
  go_loop [0] (fun s => s = .slice a 0 cap) (fun s => lenOfV s)
  case atStart => rfl
  case round =>
    subst hrel
    go_wp2
    go_ret
    exact ⟨rfl, rfl⟩
theorem natAt_nil (w : World) (a : Option Addr) (cap : Nat) : NatAt w (.slice a 0 cap) 0 :=
  ⟨a, 0, cap, fun _ => 0, rfl, Nat.zero_le _, fun c => by omega, fun c => by omega, rfl, by decide⟩
theorem trim_any (a : Option Addr) (n cap : Nat) (f : Nat → Nat) (hn : n ≤ cap) (hn1 : n < 1000000) (w : World) (h : 0 < n → ∃ b o, a = some ⟨b, o, none⟩ ∧ Dg w b o n f) :
    Calls Tryz.prog 156 #[.slice a n cap] w fun e w' => (∃ v, e = .returned v ∧ NatAt w v (fval f n)) ∧ w' = w := by
  by_cases h0 : n = 0
  · subst h0
    exact (trim_nil a cap w).mono fun _ _ h => ⟨⟨_, h.1, natAt_nil _ _ _⟩, h.2⟩
  · obtain ⟨b, o, rfl, hd⟩ := h (by omega)
    refine (trim_core b o n cap f hn hn1 w hd).mono ?_
    rintro e w' ⟨⟨k, hk, rfl, hz, hl⟩, rfl⟩
    refine ⟨⟨_, rfl, some ⟨b, o, none⟩, k, cap, f, rfl, by omega, fun _ => ⟨b, o, rfl, fun j hj => hd j (by omega)⟩, hl, (fval_zero f k n hk hz).symm, by omega⟩, rfl⟩
def blen (N : Nat) : Nat := if N = 0 then 0 else N.log2 + 1
theorem blen_top (f : Nat → Nat) (n : Nat) (h : ∀ j, j < n + 1 → f j < 4294967296) (h0 : f n ≠ 0) : fval f (n + 1) ≠ 0 ∧ blen (fval f (n + 1)) = 32 * n + blen (f n) := by
  have hl := fval_lt f n (fun j hj => h j (by omega))
  have hp := Nat.two_pow_pos (32 * n)
  have e : fval f (n + 1) = fval f n + f n * 2 ^ (32 * n) := rfl
  have hge : 1 * 2 ^ (32 * n) ≤ f n * 2 ^ (32 * n) := Nat.mul_le_mul_right _ (by omega)
  have hne : fval f (n + 1) ≠ 0 := by omega
  refine ⟨hne, ?_⟩
  unfold blen
  rw [if_neg hne, if_neg h0]
  have h1 := Nat.log2_self_le h0
  have h2 : f n < 2 ^ ((f n).log2 + 1) := Nat.lt_log2_self
  have : (fval f (n + 1)).log2 = 32 * n + (f n).log2 := by
    refine (Nat.log2_eq_iff hne).2 ⟨?_, ?_⟩
    · rw [Nat.pow_add, Nat.mul_comm, e]
      have := Nat.mul_le_mul_right (2 ^ (32 * n)) h1
      omega
    · rw [show 32 * n + (f n).log2 + 1 = ((f n).log2 + 1) + 32 * n by omega, Nat.pow_add, e]
      have := Nat.mul_le_mul_right (2 ^ (32 * n)) (Nat.succ_le_of_lt h2)
      rw [Nat.succ_mul] at this
      omega
  omega
theorem blen_at (d k : Nat) (h : d / 2 ^ k = 0) (h' : 0 < k → d / 2 ^ (k - 1) ≠ 0) : blen d = k := by
  have hlt : d < 2 ^ k := by
    have := (Nat.div_eq_zero_iff_lt (Nat.two_pow_pos k)).1 h
    exact this
  unfold blen
  by_cases hk : k = 0
  · subst hk
    have : d = 0 := by omega
    rw [if_pos this]
  · have h2 := h' (by omega)
    have hge : 2 ^ (k - 1) ≤ d := by
      rcases Nat.lt_or_ge d (2 ^ (k - 1)) with c | c
      · exact absurd (Nat.div_eq_of_lt c) h2
      · exact c
    have hd : d ≠ 0 := by have := Nat.two_pow_pos (k - 1); omega
    rw [if_neg hd, (Nat.log2_eq_iff hd).2 ⟨hge, by rw [show k - 1 + 1 = k by omega]; exact hlt⟩]
    omega
set_option maxHeartbeats 1000000 in
theorem len_core (b o n cap : Nat) (f : Nat → Nat) (hn1 : n < 1000000) (w : World) (hc : w.cell? ⟨b, o + n, none⟩ = some (.int .u32 (f n : Nat))) (hf : f n < 4294967296) :
    Calls Tryz.prog 180 #[.slice (some ⟨b, o, none⟩) (n + 1) cap] w fun e w' => e = .returned (.int .i64 (32 * n + blen (f n) : Nat)) ∧ w' = w := by
  have HB : Hid (∀ k, f n / 2 ^ k = 0 → (0 < k → f n / 2 ^ (k - 1) ≠ 0) → blen (f n) = k) := fun k => blen_at (f n) k
  have hle : ∀ k, f n / 2 ^ k ≤ f n := fun k => Nat.div_le_self _ _
  have hbig : Hid (∀ k, 32 ≤ k → f n / 2 ^ k = 0) := fun k hk => by
    refine Nat.div_eq_of_lt (Nat.lt_of_lt_of_le hf ?_)
    rw [show (4294967296 : Nat) = 2 ^ 32 from rfl]
    exact Nat.pow_le_pow_right (by decide) hk
  have hstep : Hid (∀ k, f n / 2 ^ (k + 1) = f n / 2 ^ k / 2) := fun k => by rw [Nat.pow_succ, Nat.div_div_eq_div_mul]
  have hs0 : Hid (f n / 2 ^ 0 = f n) := by show f n / 2 ^ 0 = f n; rw [Nat.pow_zero, Nat.div_one]
  have HLE : Hid (∀ k, f n / 2 ^ k ≤ f n) := hle
  clear hle
  generalize hd : f n = d at *
  clear hd
  go_enter Tryz.func180, Tryz.ntmps180
  go_wp2
  go_loop [3, 4] (fun s t => ∃ k : Nat, ∃ x : Int, k ≤ 32 ∧ s = .int .i64 (32 * n + k) ∧ t = .int .u32 x ∧ x = ((d / 2 ^ k : Nat) : Int) ∧ (0 < k → d / 2 ^ (k - 1) ≠ 0)) (fun _ t => (intOf t).toNat)
  case atStart => exact ⟨0, d, by omega, by go_num, rfl, by rw [hs0.out], fun c => by omega⟩
  case round =>
    obtain ⟨k, x, hk, rfl, rfl, hx, hz⟩ := hrel
    have HX : Hid (x = ((d / 2 ^ k : Nat) : Int)) := hx
    have HZ : Hid (0 < k → d / 2 ^ (k - 1) ≠ 0) := hz
    have hx0 : 0 ≤ x := by rw [hx]; exact Int.natCast_nonneg _
    have hx1 : x < 4294967296 := by have := HLE.out k; rw [hx]; exact Int.lt_of_le_of_lt (Int.ofNat_le.2 this) (Int.ofNat_lt.2 hf)
    clear hx hz
    by_cases hp : 0 < x
    · have hk32 : k < 32 := by
        rcases Nat.lt_or_ge k 32 with c | c
        · exact c
        · have := hbig.out k c
          have e := HX.out
          rw [this] at e
          omega
      go_wp2
      go_round
      case rel =>
        refine ⟨k + 1, x / 2, by omega, by go_num, rfl, ?_, fun _ => ?_⟩
        · rw [hstep.out, HX.out]; omega
        · have e := HX.out
          show d / 2 ^ k ≠ 0
          omega
      case measure => simp [intOf]; omega
    · have h0 : x = 0 := by omega
      subst h0
      go_wp2
      go_ret
      refine ⟨ret_int ?_, rfl⟩
      have e := HB.out k (by have := HX.out; omega) HZ.out
      omega
set_option maxHeartbeats 400000 in
theorem len_nilN (a : Option Addr) (cap : Nat) (w : World) :
    Calls Tryz.prog 180 #[.slice a 0 cap] w fun e w' => e = .returned (.int .i64 0) ∧ w' = w := by
  go_enter Tryz.func180, Tryz.ntmps180
  go_wp2
  go_ret
  exact ⟨rfl, rfl⟩
theorem len_any (v : Value) (N : Nat) (w : World) (h : NatAt w v N) :
    Calls Tryz.prog 180 #[v] w fun e w' => e = .returned (.int .i64 (blen N : Nat)) ∧ w' = w := by
  obtain ⟨a, n, cap, f, rfl, hc, hd, hl, hv, hs⟩ := h
  by_cases h0 : n = 0
  · subst h0
    have : N = 0 := hv.symm
    subst this
    exact len_nilN a cap w
  · obtain ⟨m, rfl⟩ : ∃ m, n = m + 1 := ⟨n - 1, by omega⟩
    obtain ⟨b, o, rfl, d⟩ := hd (by omega)
    have h1 : f m ≠ 0 := hl (by omega)
    have := (blen_top f m (fun j hj => (d j hj).2) h1).2
    rw [hv] at this
    rw [this]
    exact len_core b o m cap f (by omega) w (d m (by omega)).1 (d m (by omega)).2
end Go.Proofs.YtnceajanlnnfoaaGreatDoor
