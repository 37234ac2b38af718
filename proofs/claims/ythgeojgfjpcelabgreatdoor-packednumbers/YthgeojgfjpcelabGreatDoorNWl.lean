/- The contracts of math/bits.Len64 and TrailingZeros64 at this program. -/
import Derived.Test.YthgeojgfjpcelabGreatDoorRows
import Derived.Test.YthgeojgfjpcelabGreatDoorNSp
import Derived.WalkKit
import Derived.WalkSpells
import Derived.WalkLawsBesides
import Derived.Lib.BitFns
import Derived.Lib.TrailingZeros
import Derived.Laws.Bits64b
namespace Go.Proofs.YthgeojgfjpcelabGreatDoor
open Go.RowKit

theorem blen_way (s : Nat) (x b : Int) (h0 : 0 ≤ x) (hx : x < 18446744073709551616) (hb : b = x / 2 ^ s) (h255 : b ≤ 255) (hge : s = 0 ∨ 1 ≤ b) :
    (s : Int) + Lib.len8 b = Lib.bitLen x.toNat := by
  obtain ⟨n, rfl⟩ := Int.eq_ofNat_of_zero_le h0
  have hq : b = ((n / 2 ^ s : Nat) : Int) := by rw [hb]; exact_mod_cast rfl
  have hb0 : 0 ≤ b := by rw [hq]; exact Int.natCast_nonneg _
  rw [Lib.len8_of b hb0 h255, hq, Int.toNat_natCast, Int.toNat_natCast]
  rcases hge with rfl | hge
  · simp
  · have hp : 0 < 2 ^ s := Nat.two_pow_pos s
    have h1 : 1 ≤ n / 2 ^ s := by omega
    have h2 : 2 ^ s ≤ n := by
      have := (Nat.le_div_iff_mul_le hp).1 h1
      omega
    have := Lib.bitLen_shift s n h2 (by omega)
    omega

theorem blen_tab (s : Nat) (x b : Int) (h0 : 0 ≤ x) (hx : x < 18446744073709551616) (hb : b = x / 2 ^ s) (h255 : b ≤ 255) (hge : s = 0 ∨ 1 ≤ b) (hs : s ≤ 56) (h : b.toNat < Lib.len8tab.size) :
    wrap64 ((s : Int) + wrap64 ((Lib.len8tab[b.toNat]'h).toNat : Int)) = Lib.bitLen x.toNat := by
  rw [← blen_way s x b h0 hx hb h255 hge]
  have e : ((Lib.len8tab[b.toNat]'h).toNat : Int) = Lib.len8 b := by
    unfold Lib.len8
    rw [getElem?_pos Lib.len8tab b.toNat h]; rfl
  have u := (Lib.len8tab[b.toNat]'h).toNat_lt
  rw [← e]
  generalize (Lib.len8tab[b.toNat]'h).toNat = t at *
  unfold wrap64
  omega

set_option maxHeartbeats 4000000 in
set_option maxRecDepth 100000 in
theorem len64_any (x : Int) (w : World) (h0 : 0 ≤ x) (h1 : x ≤ 18446744073709551615) :
    Calls Tryz.prog 44 #[.int .u64 x] w fun e w' => e = .returned (.int .i64 (Lib.bitLen x.toNat)) ∧ w' = w := by
  have hsz := Lib.len8tab_size
  go_enter Tryz.func44, Tryz.ntmps44
  go_wp2
  all_goals go_ret
  all_goals refine ⟨ret_int ?_, rfl⟩
  · exact blen_tab 56 x _ h0 (by omega) (by omega) (by omega) (by omega) (by omega) _
  · exact blen_tab 48 x _ h0 (by omega) (by omega) (by omega) (by omega) (by omega) _
  · exact blen_tab 40 x _ h0 (by omega) (by omega) (by omega) (by omega) (by omega) _
  · exact blen_tab 32 x _ h0 (by omega) (by omega) (by omega) (by omega) (by omega) _
  · exact blen_tab 24 x _ h0 (by omega) (by omega) (by omega) (by omega) (by omega) _
  · exact blen_tab 16 x _ h0 (by omega) (by omega) (by omega) (by omega) (by omega) _
  · exact blen_tab 8 x _ h0 (by omega) (by omega) (by omega) (by omega) (by omega) _
  · have := blen_tab 0 x x h0 (by omega) (by omega) (by omega) (Or.inl rfl) (by omega) (by omega)
    rwa [show ((0 : Nat) : Int) = 0 from rfl, Int.zero_add] at this

theorem bitLen_log (x : Nat) (h0 : x ≠ 0) (h : x < 18446744073709551616) : Lib.bitLen x = x.log2 + 1 := by
  have e1 := Nat.log2_self_le h0
  have e2 : x < 2 ^ (x.log2 + 1) := Nat.lt_log2_self
  have := Lib.bitLen_shift x.log2 x e1 h
  have q : x / 2 ^ x.log2 = 1 := by
    have hp : 0 < 2 ^ x.log2 := Nat.two_pow_pos _
    refine Nat.div_eq_of_lt_le (by omega) ?_
    rw [Nat.pow_succ] at e2; omega
  rw [this, q]; rfl

/-- The table of math/bits in its variable. -/
def Tab (w : World) : Prop := ∀ j, j < 64 → w.cell? ⟨2, j, none⟩ = some (.int .u8 (Lib.deBruijn64tab.getD j 0 : Nat))

theorem tz_key (x a : Nat) (hx : x < 18446744073709551616) (hlow : x &&& (18446744073709551616 - x) = a) (hx0 : x ≠ 0) :
    IntKind.u64.wrap (bits BinOp.and IntKind.u64 (x : Int) (IntKind.u64.wrap (-(x : Int))) * 285870213051353865) / 288230376151711744 = ((a * 285870213051353865 % 18446744073709551616 / 288230376151711744 : Nat) : Int) := by
  have e1 : IntKind.u64.wrap (-(x : Int)) = ((18446744073709551616 - x : Nat) : Int) := by rw [IntKind.wrap_u64]; omega
  rw [e1, u64_and_nat x _ hx (by omega), hlow, IntKind.wrap_u64]
  omega

set_option maxHeartbeats 1000000 in
theorem tz_core (x : Int) (k idx : Nat) (w : World) (hx0 : (x == 0) = false)
    (key : Hid (IntKind.u64.wrap (bits BinOp.and IntKind.u64 x (IntKind.u64.wrap (-x)) * 285870213051353865) / 288230376151711744 = (idx : Int)))
    (hi : idx < 64) (hk : k < 64) (hcell : w.cell? ⟨2, idx, none⟩ = some (.int .u8 k)) :
    Calls Tryz.prog 81 #[.int .u64 x] w fun e w' => e = .returned (.int .i64 k) ∧ w' = w := by
  go_enter Tryz.func81, Tryz.ntmps81
  go_wp2_with (simp only [key.out])
  go_ret
  exact ⟨rfl, rfl⟩

theorem tz_any (x : Int) (h0 : 0 < x) (hx : x < 18446744073709551616) (w : World) (hT : Tab w) :
    Calls Tryz.prog 81 #[.int .u64 x] w fun e w' => e = .returned (.int .i64 (Lib.ctz 64 x.toNat : Nat)) ∧ w' = w := by
  obtain ⟨n, rfl⟩ := Int.eq_ofNat_of_zero_le (Int.le_of_lt h0)
  have hn0 : n ≠ 0 := by omega
  have hn : n < 18446744073709551616 := by omega
  obtain ⟨hlow, hk⟩ := Lib.lowest_bit 64 n hn0 hn
  obtain ⟨hi, htab⟩ := Lib.deBruijn64_at _ hk
  have hcell := hT _ hi
  rw [htab] at hcell
  rw [Int.toNat_natCast]
  exact tz_core n _ _ w (by simp; omega) (tz_key n _ hn hlow hn0) hi hk hcell
end Go.Proofs.YthgeojgfjpcelabGreatDoor
