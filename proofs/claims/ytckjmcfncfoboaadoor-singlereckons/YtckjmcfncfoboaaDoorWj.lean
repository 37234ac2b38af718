/- The contracts of signed, odd, holds and Join. -/
import Derived.Test.YtckjmcfncfoboaaDoorWa
import Derived.Test.YtckjmcfncfoboaaDoorWp
import Derived.Test.YtckjmcfncfoboaaDoorWl
namespace Go.Proofs.YtckjmcfncfoboaaDoor
open Go.RowKit

theorem or63 (b : Nat) (h : b < 9223372036854775808) : bits .or .u64 (b : Int) 9223372036854775808 = ((9223372036854775808 + b : Nat) : Int) := by
  have := u64_or_nat b 9223372036854775808 (by omega) (by decide)
  rw [show (9223372036854775808 : Int) = ((9223372036854775808 : Nat) : Int) from rfl, this, Nat.or_comm, nat_join 63 _ b (by decide) (by omega)]

set_option maxHeartbeats 400000 in
theorem signed_any (neg : Bool) (b : Nat) (hb : Hid (b < 9223372036854775808)) (w : World) :
    Calls Tryd.prog 80 #[.bool neg, .float .f64 b] w fun e w' => e = .returned (.float .f64 (Ieee.double.word neg b)) ∧ w' = w := by
  go_enter Tryd.func80, Tryd.ntmps80
  cases neg
  · go_wp2
    go_ret
    exact ⟨rfl, rfl⟩
  · go_wp2
    go_ret
    refine ⟨ret_f64 ?_, rfl⟩
    rw [or63 b hb.out, Int.toNat_natCast]
    rfl

set_option maxHeartbeats 400000 in
theorem odd_any (m e0 : Int) (k : Nat) (h0 : 0 < m) (h1 : m < 18446744073709551616) (hk : k < 64) (hkk : Hid (Lib.ctz 64 m.toNat = k)) (he0 : -9223372036854775808 ≤ e0) (he1 : e0 ≤ 1023) (w : World) (hT : Hid (Tab w)) :
    Calls Tryd.prog 81 #[.int .u64 m, .int .i64 e0] w fun e w' => e = .returned (.tuple #[.int .u64 (m / 2 ^ k), .int .i64 (e0 + k)]) ∧ w' = w := by
  have H : Hid (Calls Tryd.prog 90 #[.int .u64 m] w fun e w' => e = .returned (.int .i64 k) ∧ w' = w) := by
    have := tz_any m h0 h1 w hT.out
    rwa [hkk.out] at this
  go_enter Tryd.func81, Tryd.ntmps81
  go_wp2_with (go_at_call 90; refine H.out.mono ?_; rintro e w' ⟨rfl, rfl⟩)
  go_ret2
  exact ⟨rfl, rfl⟩

/-- Is the number of n bits at place e one of a kind of numbers? -/
def hld (n e0 wd least top : Int) : Bool := decide (n ≤ wd ∧ least ≤ e0 ∧ n + e0 ≤ top)

set_option maxHeartbeats 400000 in
theorem holds_any (m e0 wd least top n : Int) (h0 : 0 ≤ m) (h1 : m ≤ 18446744073709551615) (hn : Hid ((Lib.bitLen m.toNat : Int) = n)) (hn0 : 0 ≤ n) (hn1 : n ≤ 64) (he0 : -9223372036854775808 ≤ e0) (he1 : e0 ≤ 2000) (w : World) :
    Calls Tryd.prog 82 #[.int .u64 m, .int .i64 e0, .int .i64 wd, .int .i64 least, .int .i64 top] w fun e w' => e = .returned (.bool (hld n e0 wd least top)) ∧ w' = w := by
  have H : Hid (Calls Tryd.prog 49 #[.int .u64 m] w fun e w' => e = .returned (.int .i64 n) ∧ w' = w) := by
    have := len64_any m w h0 h1
    rwa [hn.out] at this
  go_enter Tryd.func82, Tryd.ntmps82
  go_wp2_with (go_at_call 49; refine H.out.mono ?_; rintro e w' ⟨rfl, rfl⟩)
  all_goals go_ret
  all_goals refine ⟨ret_bool ?_, rfl⟩
  · exact decide_eq_decide.2 (by omega)
  · exact (decide_eq_false (by omega)).symm
  · exact (decide_eq_false (by omega)).symm

/-- The odd whole part, its place, its bits. -/
def oddM (m : Int) : Nat := m.toNat / 2 ^ Lib.ctz 64 m.toNat
def oddE (m e0 : Int) : Int := e0 + (Lib.ctz 64 m.toNat : Nat)
def joinOk (m e0 : Int) : Bool := hld ((oddM m).log2 + 1 : Nat) (oddE m e0) 53 (-1074) 1024
/-- What Join answers: the word, the error's number. -/
def joinW (neg : Bool) (m e0 : Int) : Nat := if m = 0 then Ieee.double.word neg 0 else if joinOk m e0 then Ieee.double.nearest neg (oddM m) (oddE m e0) else 0
def joinR (m e0 : Int) : Int := if m = 0 then 0 else if joinOk m e0 then 0 else 11

theorem odd_facts (m : Int) (h0 : 0 < m) (h1 : m < 18446744073709551616) : Lib.ctz 64 m.toNat < 64 ∧ (oddM m : Int) = m / 2 ^ Lib.ctz 64 m.toNat ∧ oddM m % 2 = 1 ∧ m.toNat = oddM m * 2 ^ Lib.ctz 64 m.toNat ∧
    oddM m < 18446744073709551616 := by
  obtain ⟨n, rfl⟩ := Int.eq_ofNat_of_zero_le (Int.le_of_lt h0)
  obtain ⟨k, hk, hkl⟩ := Lib.ctzFrom_spec 64 n (by omega) (by omega)
  have e : Lib.ctz 64 n = Lib.ctzFrom 64 n := by unfold Lib.ctz; rw [if_neg (by omega)]
  unfold oddM
  rw [Int.toNat_natCast, e]
  have hp : 0 < 2 ^ Lib.ctzFrom 64 n := Nat.two_pow_pos _
  have q : n / 2 ^ Lib.ctzFrom 64 n = 2 * k + 1 := by
    refine Nat.div_eq_of_eq_mul_right hp hk
  have ql : n / 2 ^ Lib.ctzFrom 64 n ≤ n := Nat.div_le_self _ _
  refine ⟨hkl, by exact_mod_cast rfl, by omega, by rw [q, Nat.mul_comm]; exact hk, by omega⟩
theorem oddM_log (m : Int) (h0 : 0 < m) (h1 : m < 18446744073709551616) : (Lib.bitLen (m / 2 ^ Lib.ctz 64 m.toNat).toNat : Int) = ((oddM m).log2 + 1 : Nat) ∧ (oddM m).log2 < 64 := by
  obtain ⟨_, e, ho, _, hl⟩ := odd_facts m h0 h1
  rw [← e, Int.toNat_natCast, bitLen_log _ (by omega) hl]
  exact ⟨rfl, (Nat.log2_lt (by omega)).2 hl⟩
theorem join_far (m e0 : Int) (h : 1024 ≤ e0) : joinOk m e0 = false := by
  unfold joinOk hld oddE
  exact decide_eq_false (by omega)
theorem join_fits (m e0 : Int) (h0 : 0 < m) (h1 : m < 18446744073709551616) (h : joinOk m e0 = true) : Fl.Fits (oddM m) (oddE m e0) ∧ Fl.Fits (oddM m) 0 ∧ -1074 ≤ oddE m e0 ∧ oddE m e0 ≤ 1023 := by
  obtain ⟨_, _, ho, _, _⟩ := odd_facts m h0 h1
  have hj := of_decide_eq_true h
  have hlt : oddM m < 9007199254740992 := (Nat.log2_lt (by omega)).1 (show (oddM m).log2 < 53 by omega)
  exact ⟨⟨by omega, hlt, by omega, by omega⟩, ⟨by omega, hlt, by omega, by omega⟩, by omega, by omega⟩

theorem conv_pos (o : Nat) : floatOfInt .f64 (o : Int) = Ieee.double.nearest false o 0 := by
  show Ieee.double.nearest (decide ((o : Int) < 0)) (o : Int).natAbs 0 = _
  rw [Int.natAbs_natCast, decide_eq_false (by omega)]

end Go.Proofs.YtckjmcfncfoboaaDoor
