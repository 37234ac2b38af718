/- To, of a whole number times a power of two that lies within the kind. -/
import Derived.Test.YtckjmcfncfoboaaDoorNx
import Derived.Test.YtckjmcfncfoboaaDoorNto
import Derived.Test.YtckjmcfncfoboaaDoorNtp
namespace Go.Proofs.YtckjmcfncfoboaaDoor
open Go.RowKit
open Ieee

theorem to24_near (neg : Bool) (num den : Value) (A : Nat) (E mode : Int) (w : World) (hA0 : A ≠ 0) (hAl : A < 2 ^ bigA) (hAb : A.log2 < 9000) (hnum : NatAt w num A) (hden : NatAt w den 1) (hE0 : -2400 < E) (hE1 : E < 2400)
    (hs0 : -2400 < (A.log2 : Int) + E) (hs1 : (A.log2 : Int) + E < 127) (hm0 : 1 ≤ mode) (hm1 : mode ≤ 6) :
    Calls Tryd.prog 56 #[.agg #[.bool neg, num, den, .int .i64 E, .bool false], .agg #[.int .i64 24, .int .i64 (-149), .int .i64 127], .int .i64 mode] w fun e w' =>
      e = .returned (.tuple #[.agg #[.bool neg, .bool false, .int .u64 (fq 16777216 8388608 (Rn.rnd mode neg (A * 2 ^ (E - Fs.lastOf A E).toNat) (Fs.lastOf A E - E).toNat : Nat)), .int .i64 (fe 16777216 (Rn.rnd mode neg (A * 2 ^ (E - Fs.lastOf A E).toNat) (Fs.lastOf A E - E).toNat : Nat) (Fs.lastOf A E))],
        .agg #[.bool (!decide (bsN A (E - Fs.lastOf A E) % bsD 1 (E - Fs.lastOf A E) = 0)), .bool false, .bool (!decide (bsN A (E - Fs.lastOf A E) % bsD 1 (E - Fs.lastOf A E) = 0) && decide (((qv A (E - Fs.lastOf A E) : Nat) : Int) < 8388608))]]) ∧ Gr w w' := by
  have hL : Fs.lastOf A E = max (E + A.log2 - 23) (-149) := rfl
  have hr := rndU_rnd mode neg A E (Fs.lastOf A E)
  generalize Fs.lastOf A E = L at *
  have hbl : (blen A : Int) - blen 1 + E = A.log2 + E := by
    have b1 : blen A = A.log2 + 1 := by unfold blen; rw [if_neg hA0]
    have b2 : blen 1 = 1 := by decide
    rw [b1, b2]; omega
  have hlt : ∀ e' : Int, (if (-149) < (A.log2 : Int) + E - 24 - 3 then (A.log2 : Int) + E - 24 - 3 else (-149)) ≤ e' → qv A (E - e') < 18446744073709551616 := by
    intro e' h
    refine Nat.lt_trans (qv_lt A (E - e') (24 + 4) ?_) (by decide)
    split at h <;> omega
  have := to24_core neg num den E mode ((A.log2 : Int) + E) L (if (-149) < (A.log2 : Int) + E - 24 - 3 then (A.log2 : Int) + E - 24 - 3 else (-149)) (qv A (E - L) : Nat) (cmpN (bsN A (E - L) % bsD 1 (E - L) * 2) (bsD 1 (E - L))) (decide (bsN A (E - L) % bsD 1 (E - L) = 0))
    (fun e' => ((qv A (E - e') : Nat) : Int)) (fun e' => cmpN (bsN A (E - e') % bsD 1 (E - e') * 2) (bsD 1 (E - e'))) (fun e' => decide (bsN A (E - e') % bsD 1 (E - e') = 0)) w
    (by omega) (by omega) rfl (by split <;> omega) (by split <;> omega) (by omega) (by split <;> omega) hm0 hm1 (cmpN_facts _ _).2.2 rfl rfl rfl
    (fun w' g => by
      have := size_any neg num den E A 1 w' (hnum.gr g) (hden.gr g) (by unfold blen; rw [if_neg hA0]; omega) (by decide) (by omega) (by omega)
      rwa [hbl] at this)
    (fun e' w' h1 h2 g => by
      have hb : -10000 < e' ∧ e' < 10000 := by split at h1 <;> omega
      exact beside_any neg num den E e' A 1 w' (hnum.gr g) (hden.gr g) (by decide) (by omega) (by omega) hb.1 hb.2 hAl (Nat.one_lt_two_pow (by unfold bigA; decide)) (hlt e' h1))
    (fun e' h1 _ => ⟨by omega, by have := hlt e' h1; omega⟩)
    (fun e' h1 h2 => by
      have := le_qv A (E - e') 24 hA0 (by split at h1 <;> omega)
      have e : (2 ^ 24 : Nat) = 16777216 := by decide
      show (16777216 : Int) ≤ ((qv A (E - e') : Nat) : Int)
      omega)
    (by
      have := qv_lt A (E - L) 24 (by omega)
      have e : (2 ^ 24 : Nat) = 16777216 := by decide
      show ((qv A (E - L) : Nat) : Int) < 16777216
      omega)
  refine this.mono ?_
  rintro e w' ⟨⟨vF, vG, rfl, ho⟩, hg⟩
  obtain ⟨rfl, rfl⟩ := toOut_near (by omega) hr ho
  exact ⟨rfl, hg⟩

theorem to53_near (neg : Bool) (num den : Value) (A : Nat) (E mode : Int) (w : World) (hA0 : A ≠ 0) (hAl : A < 2 ^ bigA) (hAb : A.log2 < 9000) (hnum : NatAt w num A) (hden : NatAt w den 1) (hE0 : -2400 < E) (hE1 : E < 2400)
    (hs0 : -2400 < (A.log2 : Int) + E) (hs1 : (A.log2 : Int) + E < 1023) (hm0 : 1 ≤ mode) (hm1 : mode ≤ 6) :
    Calls Tryd.prog 56 #[.agg #[.bool neg, num, den, .int .i64 E, .bool false], .agg #[.int .i64 53, .int .i64 (-1074), .int .i64 1023], .int .i64 mode] w fun e w' =>
      e = .returned (.tuple #[.agg #[.bool neg, .bool false, .int .u64 (fq 9007199254740992 4503599627370496 (Rn.rnd mode neg (A * 2 ^ (E - Fl.lastOf A E).toNat) (Fl.lastOf A E - E).toNat : Nat)), .int .i64 (fe 9007199254740992 (Rn.rnd mode neg (A * 2 ^ (E - Fl.lastOf A E).toNat) (Fl.lastOf A E - E).toNat : Nat) (Fl.lastOf A E))],
        .agg #[.bool (!decide (bsN A (E - Fl.lastOf A E) % bsD 1 (E - Fl.lastOf A E) = 0)), .bool false, .bool (!decide (bsN A (E - Fl.lastOf A E) % bsD 1 (E - Fl.lastOf A E) = 0) && decide (((qv A (E - Fl.lastOf A E) : Nat) : Int) < 4503599627370496))]]) ∧ Gr w w' := by
  have hL : Fl.lastOf A E = max (E + A.log2 - 52) (-1074) := rfl
  have hr := rndU_rnd mode neg A E (Fl.lastOf A E)
  generalize Fl.lastOf A E = L at *
  have hbl : (blen A : Int) - blen 1 + E = A.log2 + E := by
    have b1 : blen A = A.log2 + 1 := by unfold blen; rw [if_neg hA0]
    have b2 : blen 1 = 1 := by decide
    rw [b1, b2]; omega
  have hlt : ∀ e' : Int, (if (-1074) < (A.log2 : Int) + E - 53 - 3 then (A.log2 : Int) + E - 53 - 3 else (-1074)) ≤ e' → qv A (E - e') < 18446744073709551616 := by
    intro e' h
    refine Nat.lt_trans (qv_lt A (E - e') (53 + 4) ?_) (by decide)
    split at h <;> omega
  have := to53_core neg num den E mode ((A.log2 : Int) + E) L (if (-1074) < (A.log2 : Int) + E - 53 - 3 then (A.log2 : Int) + E - 53 - 3 else (-1074)) (qv A (E - L) : Nat) (cmpN (bsN A (E - L) % bsD 1 (E - L) * 2) (bsD 1 (E - L))) (decide (bsN A (E - L) % bsD 1 (E - L) = 0))
    (fun e' => ((qv A (E - e') : Nat) : Int)) (fun e' => cmpN (bsN A (E - e') % bsD 1 (E - e') * 2) (bsD 1 (E - e'))) (fun e' => decide (bsN A (E - e') % bsD 1 (E - e') = 0)) w
    (by omega) (by omega) rfl (by split <;> omega) (by split <;> omega) (by omega) (by split <;> omega) hm0 hm1 (cmpN_facts _ _).2.2 rfl rfl rfl
    (fun w' g => by
      have := size_any neg num den E A 1 w' (hnum.gr g) (hden.gr g) (by unfold blen; rw [if_neg hA0]; omega) (by decide) (by omega) (by omega)
      rwa [hbl] at this)
    (fun e' w' h1 h2 g => by
      have hb : -10000 < e' ∧ e' < 10000 := by split at h1 <;> omega
      exact beside_any neg num den E e' A 1 w' (hnum.gr g) (hden.gr g) (by decide) (by omega) (by omega) hb.1 hb.2 hAl (Nat.one_lt_two_pow (by unfold bigA; decide)) (hlt e' h1))
    (fun e' h1 _ => ⟨by omega, by have := hlt e' h1; omega⟩)
    (fun e' h1 h2 => by
      have := le_qv A (E - e') 53 hA0 (by split at h1 <;> omega)
      have e : (2 ^ 53 : Nat) = 9007199254740992 := by decide
      show (9007199254740992 : Int) ≤ ((qv A (E - e') : Nat) : Int)
      omega)
    (by
      have := qv_lt A (E - L) 53 (by omega)
      have e : (2 ^ 53 : Nat) = 9007199254740992 := by decide
      show ((qv A (E - L) : Nat) : Int) < 9007199254740992
      omega)
  refine this.mono ?_
  rintro e w' ⟨⟨vF, vG, rfl, ho⟩, hg⟩
  obtain ⟨rfl, rfl⟩ := toOut_near (by omega) hr ho
  exact ⟨rfl, hg⟩
end Go.Proofs.YtckjmcfncfoboaaDoor
