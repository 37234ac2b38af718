/- To of any whole number times a power of two, to a single, and its bits: what lies beyond too; the document's Narrow and even, by the contracts of what they call. Narrow, the program's and the document's, of any number by any mode. -/
import Derived.Test.YtnceajanlnnfoaaGreatDoorQmNu
import Derived.Test.YtnceajanlnnfoaaGreatDoorQmNto
import Derived.Test.YtnceajanlnnfoaaGreatDoorQmNtq
import Derived.Test.YtnceajanlnnfoaaGreatDoorQmSb
namespace Go.Proofs.YtnceajanlnnfoaaGreatDoor
open Go.RowKit
open Ieee
def fr24 (mode : Int) (neg : Bool) (A : Nat) (E : Int) : Nat := Rn.rnd mode neg (A * 2 ^ (E - Fs.lastOf A E).toNat) (Fs.lastOf A E - E).toNat
def toF (mode : Int) (neg : Bool) (A : Nat) (E : Int) : Value :=
 if nrO mode neg A E = true then (if Rn.far mode neg = true then .agg #[.bool neg, .bool true, .int .u64 0, .int .i64 0] else .agg #[.bool neg, .bool false, .int .u64 (16777216 - 1), .int .i64 (127 - 24 + 1)])
 else .agg #[.bool neg, .bool false, .int .u64 (fq 16777216 8388608 (fr24 mode neg A E : Nat)), .int .i64 (fe 16777216 (fr24 mode neg A E : Nat) (Fs.lastOf A E))]
def toG (mode : Int) (neg : Bool) (A : Nat) (E : Int) : Value :=
 .agg #[.bool (nrO mode neg A E || nrI A E), .bool (nrO mode neg A E), .bool (!nrO mode neg A E && nrU A E)]
theorem wh_nrI (A : Nat) (E : Int) : (!decide (bsN A (E - Fs.lastOf A E) % bsD 1 (E - Fs.lastOf A E) = 0)) = nrI A E := by
 unfold nrI
 rw [bsD_one]
 unfold bsN
 generalize Fs.lastOf A E = L
 by_cases h : E ≤ L
 ·rw [show (E - L).toNat = 0 by omega, Nat.pow_zero, Nat.mul_one]
  by_cases hz : A % 2 ^ (L - E).toNat = 0
  ·rw [decide_eq_true hz, decide_eq_false (fun c => c hz)]; rfl
  ·rw [decide_eq_false hz, decide_eq_true hz]; rfl
 ·rw [show (L - E).toNat = 0 by omega, Nat.pow_zero, Nat.mod_one, Nat.mod_one]; rfl
theorem qv_nrU (A : Nat) (E : Int) (hA : A ≠ 0) : decide (((qv A (E - Fs.lastOf A E) : Nat) : Int) < 8388608) = decide (E + A.log2 + 1 < -125) := by
 have hL : Fs.lastOf A E = max (E + A.log2 - 23) (-149) := rfl
 generalize Fs.lastOf A E = L at *
 refine decide_eq_decide.2 ⟨fun c => ?_, fun c => ?_⟩
 ·rcases Int.lt_or_le (E + A.log2 + 1) (-125) with d | d
  ·exact d
  ·have := le_qv A (E - L) 23 hA (by omega)
   have e : (2 ^ 23 : Nat) = 8388608 := by decide
   omega
 ·have := qv_lt A (E - L) 23 (by omega)
  have e : (2 ^ 23 : Nat) = 8388608 := by decide
  omega
theorem rung_fr (mode : Int) (neg : Bool) (A : Nat) (E : Int) : Rn.rung32 mode neg A E = (Fs.lastOf A E - -149).toNat * 8388608 + fr24 mode neg A E := rfl
theorem toOut_any {neg : Bool} {mode h : Int} {A : Nat} {E : Int} {vF vG : Value} (hA : A ≠ 0)
  (hq : (if rndU mode neg (qv A (E - Fs.lastOf A E) : Nat) h (decide (bsN A (E - Fs.lastOf A E) % bsD 1 (E - Fs.lastOf A E) = 0)) = true then ((qv A (E - Fs.lastOf A E) : Nat) : Int) + 1 else ((qv A (E - Fs.lastOf A E) : Nat) : Int)) = (fr24 mode neg A E : Nat))
  (ho : ToOut 24 127 16777216 8388608 neg mode (qv A (E - Fs.lastOf A E) : Nat) h (decide (bsN A (E - Fs.lastOf A E) % bsD 1 (E - Fs.lastOf A E) = 0)) (Fs.lastOf A E) vF vG) :
  vF = toF mode neg A E ∧ vG = toG mode neg A E := by
 obtain ⟨q1, q2, e2, h1, h2, h3⟩ := ho
 rw [hq] at h1
 rw [wh_nrI, qv_nrU A E hA] at h3
 have hU : (nrI A E && decide (E + A.log2 + 1 < -125)) = nrU A E := rfl
 rw [hU] at h3
 obtain ⟨b1, b2⟩ := Rn.rnd32_bd mode neg A E hA
 change fr24 mode neg A E ≤ 16777216 at b1
 change _ → 8388608 ≤ fr24 mode neg A E at b2
 have hL : Fs.lastOf A E = max (E + A.log2 - 23) (-149) := rfl
 have hr := fq_rung (fr24 mode neg A E) (Fs.lastOf A E) (by omega)
 rw [← rung_fr] at hr
 have hO : nrO mode neg A E = decide (2139095040 ≤ Rn.rung32 mode neg A E) := rfl
 have he : fq 16777216 8388608 (fr24 mode neg A E : Nat) = q2 ∧ fe 16777216 (fr24 mode neg A E : Nat) (Fs.lastOf A E) = e2 := by
  unfold fq fe
  rcases h2 with ⟨a, rfl, rfl⟩ | ⟨a, rfl, rfl⟩
  ·rw [if_pos (by omega), if_pos (by omega)]; exact ⟨rfl, rfl⟩
  ·rw [if_neg (by omega), if_neg (by omega)]; exact ⟨h1.symm, rfl⟩
 have hq2 : 0 ≤ q2 ∧ q2 < 16777216 ∧ (-149 < e2 → 8388608 ≤ q2) ∧ -149 ≤ e2 := by
  rcases h2 with ⟨a, rfl, rfl⟩ | ⟨a, rfl, rfl⟩ <;> omega
 rw [he.1, he.2] at hr
 have key : (127 < e2 + 24 - 1 ∧ 8388608 ≤ q2) ↔ 2139095040 ≤ Rn.rung32 mode neg A E := by omega
 unfold toF toG
 rcases h3 with ⟨a, b, hG, hF⟩ | ⟨a, hG, hF⟩
 ·have hk := key.1 ⟨a, b⟩
  rw [decide_eq_true hk] at hO
  have hnU : nrU A E = false := by
   unfold nrU
   rw [decide_eq_false (by omega), Bool.and_false]
  rw [hO, if_pos rfl, hG, hF, hnU]
  exact ⟨rfl, rfl⟩
 ·have hk : ¬ 2139095040 ≤ Rn.rung32 mode neg A E := fun c => a (key.2 c)
  rw [decide_eq_false hk] at hO
  rw [hO, if_neg (by simp), hG, hF, he.1, he.2]
  exact ⟨rfl, rfl⟩
theorem to24_mid (neg : Bool) (num den : Value) (A : Nat) (E mode : Int) (w : World) (hA0 : A ≠ 0) (hAl : A < 2 ^ bigA) (hAb : A.log2 < 9000) (hnum : NatAt w num A) (hden : NatAt w den 1) (hE0 : -2400 < E) (hE1 : E < 2400)
  (hs0 : -2400 < (A.log2 : Int) + E) (hs1 : (A.log2 : Int) + E ≤ 162) (hm0 : 1 ≤ mode) (hm1 : mode ≤ 6) :
  Calls Tryz.prog 99 #[.agg #[.bool neg, num, den, .int .i64 E, .bool false], .agg #[.int .i64 24, .int .i64 (-149), .int .i64 127], .int .i64 mode] w fun e w' =>
   e = .returned (.tuple #[toF mode neg A E, toG mode neg A E]) ∧ Gr w w' := by
 have hL : Fs.lastOf A E = max (E + A.log2 - 23) (-149) := rfl
 have hr := rndU_rnd mode neg A E (Fs.lastOf A E)
 have ho := @toOut_any neg mode (cmpN (bsN A (E - Fs.lastOf A E) % bsD 1 (E - Fs.lastOf A E) * 2) (bsD 1 (E - Fs.lastOf A E))) A E
 have ho' := fun vF vG => @ho vF vG hA0 hr
 clear ho hr
 generalize Fs.lastOf A E = L at *
 have hbl : (blen A : Int) - blen 1 + E = A.log2 + E := by
  have b1 : blen A = A.log2 + 1 := by unfold blen; rw [if_neg hA0]
  have b2 : blen 1 = 1 := by decide
  rw [b1, b2]; omega
 have hlt : ∀ e' : Int, (if (-149) < (A.log2 : Int) + E - 24 - 3 then (A.log2 : Int) + E - 24 - 3 else (-149)) ≤ e' → qv A (E - e') < 18446744073709551616 := by
  intro e' h
  refine Nat.lt_trans (qv_lt A (E - e') (24 + 4) ?_) (by decide)
  split at h <;> omega
 have := to24_core neg num den E mode ((A.log2 : Int) + E) L (if (-149) < (A.log2 : Int) + E - 24 - 3 then (A.log2 : Int) + E - 24 - 3 else (-149)) (qv A (E - L) : Nat) (cmpN (bsN A (E - L) % bsD 1 (E - L) * 2) (bsD 1 (E - L))) (decide (bsN A (E - L) % bsD 1 (E - L) = 0))
  (fun e' => ((qv A (E - e') : Nat) : Int)) (fun e' => cmpN (bsN A (E - e') % bsD 1 (E - e') * 2) (bsD 1 (E - e'))) (fun e' => decide (bsN A (E - e') % bsD 1 (E - e') = 0)) w
  (by omega) (by omega) rfl (by split <;> omega) (by split <;> omega) (by omega) (by split <;> omega) hm0 hm1 (cmpN_facts _ _).2.2 rfl rfl rfl
  (fun w' g => by
   have := size_any neg num den E A 1 w' (hnum.gr g) (hden.gr g) (by unfold blen; rw [if_neg hA0]; omega) (by decide) (by omega) (by omega)
   rwa [hbl] at this)
  (fun e' w' h1 h2 g => by
   have hb : -10000 < e' ∧ e' < 10000 := by split at h1 <;> omega
   exact beside_any neg num den E e' A 1 w' (hnum.gr g) (hden.gr g) (by decide) (by omega) (by omega) hb.1 hb.2 hAl (Nat.one_lt_two_pow (by unfold bigA; decide)) (hlt e' h1))
  (fun e' h1 _ => ⟨by omega, by have := hlt e' h1; omega⟩)
  (fun e' h1 h2 => by
   have := le_qv A (E - e') 24 hA0 (by split at h1 <;> omega)
   have e : (2 ^ 24 : Nat) = 16777216 := by decide
   show (16777216 : Int) ≤ ((qv A (E - e') : Nat) : Int)
   omega)
  (by
   have := qv_lt A (E - L) 24 (by omega)
   have e : (2 ^ 24 : Nat) = 16777216 := by decide
   show ((qv A (E - L) : Nat) : Int) < 16777216
   omega)
 refine this.mono ?_
 rintro e w' ⟨⟨vF, vG, rfl, ho⟩, hg⟩
 obtain ⟨rfl, rfl⟩ := ho' vF vG ho
 exact ⟨rfl, hg⟩
theorem qv_top : ∀ e' : Int, 135 ≤ e' → e' ≤ 135 → bsN 16777215 (135 - e') = 16777215 ∧ bsD 1 (135 - e') = 1 := by
 intro e' h1 h2
 obtain rfl : e' = 135 := by omega
 exact ⟨by decide, by decide⟩
theorem to24_beyond (neg : Bool) (num den : Value) (A : Nat) (E mode : Int) (w : World) (hA0 : A ≠ 0) (hAb : A.log2 < 9000) (hnum : NatAt w num A) (hden : NatAt w den 1) (hE0 : -2400 < E) (hE1 : E < 2400)
  (hs0 : 162 < (A.log2 : Int) + E) (hs1 : (A.log2 : Int) + E < 2400) (hm0 : 1 ≤ mode) (hm1 : mode ≤ 6) :
  Calls Tryz.prog 99 #[.agg #[.bool neg, num, den, .int .i64 E, .bool false], .agg #[.int .i64 24, .int .i64 (-149), .int .i64 127], .int .i64 mode] w fun e w' =>
   e = .returned (.tuple #[toF mode neg A E, toG mode neg A E]) ∧ Gr w w' := by
 have hL : Fs.lastOf A E = max (E + A.log2 - 23) (-149) := rfl
 have hO : nrO mode neg A E = true := decide_eq_true (by rw [rung_fr]; omega)
 have hnU : nrU A E = false := by
  unfold nrU
  rw [decide_eq_false (by omega), Bool.and_false]
 have hF : toF mode neg A E = (if Rn.far mode neg = true then .agg #[.bool neg, .bool true, .int .u64 0, .int .i64 0] else .agg #[.bool neg, .bool false, .int .u64 (16777216 - 1), .int .i64 (127 - 24 + 1)]) := by unfold toF; rw [hO, if_pos rfl]
 have hG : toG mode neg A E = .agg #[.bool true, .bool true, .bool false] := by unfold toG; rw [hO, hnU]; rfl
 rw [hF, hG]
 clear hF hG hO hnU hL
 have hbl : (blen A : Int) - blen 1 + E = A.log2 + E := by
  have b1 : blen A = A.log2 + 1 := by unfold blen; rw [if_neg hA0]
  have b2 : blen 1 = 1 := by decide
  rw [b1, b2]; omega
 have := to24_far neg num den E mode ((A.log2 : Int) + E) 135 (if (-149) < (A.log2 : Int) + E - 24 - 3 then (A.log2 : Int) + E - 24 - 3 else (-149)) 135 135 16777215 (-1) true
  (fun _ => 16777215) (fun _ => -1) (fun _ => true) w
  (by omega) (by omega) rfl (by split <;> omega) rfl rfl (by omega) (by omega) (by omega) hm0 hm1 (Or.inl rfl) rfl rfl rfl
  (fun w' g => by
   have := size_any neg num den E A 1 w' (hnum.gr g) (hden.gr g) (by unfold blen; rw [if_neg hA0]; omega) (by decide) (by omega) (by omega)
   rwa [hbl] at this)
  (fun w' => of_fresh 16777215 (by decide) w') (fun w' => of_fresh 1 (by decide) w')
  (fun nF dF e' w' h1 h2 hn hd => by
   have hb : -10000 < e' ∧ e' < 10000 := by omega
   have hbig : ∀ n, n < 2 ^ 64 → n < 2 ^ bigA := fun n hn => Nat.lt_of_lt_of_le hn (Nat.pow_le_pow_right (by decide) (by unfold bigA; decide))
   obtain ⟨n1, d1⟩ := qv_top e' h1 h2
   have := beside_any neg nF dF 135 e' 16777215 1 w' hn hd (by decide) (by omega) (by omega) hb.1 hb.2 (hbig _ (by decide)) (hbig _ (by decide)) (by rw [n1, d1]; decide)
   rw [n1, d1] at this
   exact this)
  (fun e' _ _ => ⟨by decide, by decide⟩) (fun e' h1 h2 => by omega) (show (16777215 : Int) < 16777216 by decide)
 refine this.mono ?_
 rintro e w' ⟨⟨vF, vG, rfl, q1, q2, e2, h1, h2, h3⟩, hg⟩
 refine ⟨?_, hg⟩
 have hq1 : q1 = 16777215 := h1
 subst hq1
 obtain ⟨rfl, rfl⟩ : q2 = 16777215 ∧ e2 = 135 := by rcases h2 with ⟨a, _⟩ | ⟨_, a, b⟩; exact absurd a (by decide); exact ⟨a, b⟩
 rcases h3 with ⟨_, _, rfl, rfl⟩ | ⟨a, _⟩
 ·rfl
 ·exact absurd ⟨by decide, by decide⟩ a
theorem to24_any (neg : Bool) (num den : Value) (A : Nat) (E mode : Int) (w : World) (hA0 : A ≠ 0) (hAl : A < 2 ^ bigA) (hAb : A.log2 < 9000) (hnum : NatAt w num A) (hden : NatAt w den 1) (hE0 : -2400 < E) (hE1 : E < 2400)
  (hs0 : -2400 < (A.log2 : Int) + E) (hs1 : (A.log2 : Int) + E < 2400) (hm0 : 1 ≤ mode) (hm1 : mode ≤ 6) :
  Calls Tryz.prog 99 #[.agg #[.bool neg, num, den, .int .i64 E, .bool false], .agg #[.int .i64 24, .int .i64 (-149), .int .i64 127], .int .i64 mode] w fun e w' =>
   e = .returned (.tuple #[toF mode neg A E, toG mode neg A E]) ∧ Gr w w' := by
 rcases Int.lt_or_le 162 ((A.log2 : Int) + E) with c | c
 ·exact to24_beyond neg num den A E mode w hA0 hAb hnum hden hE0 hE1 c hs1 hm0 hm1
 ·exact to24_mid neg num den A E mode w hA0 hAl hAb hnum hden hE0 hE1 hs0 c hm0 hm1
theorem lt_bigA' (n : Nat) (hn : n < 18446744073709551616) : n < 2 ^ bigA :=
 Nat.lt_of_lt_of_le (show n < 2 ^ 64 from hn) (Nat.pow_le_pow_right (by decide) (by unfold bigA; decide))
theorem bits32_inf (neg : Bool) (w : World) :
  Calls Tryz.prog 102 #[.agg #[.bool neg, .bool true, .int .u64 0, .int .i64 0]] w fun e w' => e = .returned (.int .u32 (single.word neg 2139095040 : Nat)) ∧ Gr w w' := by
 cases neg
 all_goals
  go_enter Tryz.func102, Tryz.ntmps102
  go_wp2
  go_ret
  exact ⟨rfl, (Gr.refl w).alloc _ _⟩
theorem word_int (neg : Bool) (r : Nat) : (if neg = true then 2147483648 + (r : Int) else (r : Int)) = ((single.word neg r : Nat) : Int) := by
 unfold Format.word
 rw [Fs.sw]
 cases neg
 ·rw [if_neg (by simp), if_neg (by simp)]
 ·rw [if_pos rfl, if_pos rfl]; omega
theorem bits32_any (mode : Int) (neg : Bool) (A : Nat) (E : Int) (hA : A ≠ 0) (w : World) :
  Calls Tryz.prog 102 #[toF mode neg A E] w fun e w' => e = .returned (.int .u32 (Rn.word32 mode neg A E : Nat)) ∧ Gr w w' := by
 have hO : nrO mode neg A E = decide (2139095040 ≤ Rn.rung32 mode neg A E) := rfl
 unfold toF Rn.word32 Rn.cap32
 by_cases hk : 2139095040 ≤ Rn.rung32 mode neg A E
 ·rw [decide_eq_true hk] at hO
  rw [hO, if_pos rfl, if_neg (show ¬ Rn.rung32 mode neg A E < 2139095040 by omega)]
  by_cases hf : Rn.far mode neg = true
  ·rw [if_pos hf, if_pos hf]
   exact bits32_inf neg w
  ·rw [if_neg hf, if_neg hf]
   exact bits32_core neg (16777216 - 1) (127 - 24 + 1) 2139095039 _ w (by decide) (by decide) (by decide) (by decide) (fun c => absurd c (by decide)) (by show _ = _; decide) (word_int neg 2139095039)
 ·rw [decide_eq_false hk] at hO
  rw [hO, if_neg (by simp), if_pos (show Rn.rung32 mode neg A E < 2139095040 by omega)]
  obtain ⟨b1, b2⟩ := Rn.rnd32_bd mode neg A E hA
  change fr24 mode neg A E ≤ 16777216 at b1
  change _ → 8388608 ≤ fr24 mode neg A E at b2
  have hL : Fs.lastOf A E = max (E + A.log2 - 23) (-149) := rfl
  have hr := fq_rung (fr24 mode neg A E) (Fs.lastOf A E) (by omega)
  rw [← rung_fr] at hr
  have hfq : 0 ≤ fq 16777216 8388608 (fr24 mode neg A E : Nat) ∧ fq 16777216 8388608 (fr24 mode neg A E : Nat) < 16777216 ∧ (-149 < fe 16777216 (fr24 mode neg A E : Nat) (Fs.lastOf A E) → 8388608 ≤ fq 16777216 8388608 (fr24 mode neg A E : Nat)) ∧ -149 ≤ fe 16777216 (fr24 mode neg A E : Nat) (Fs.lastOf A E) := by
   unfold fq fe; split <;> omega
  generalize fq 16777216 8388608 (fr24 mode neg A E : Nat) = M at *
  generalize fe 16777216 (fr24 mode neg A E : Nat) (Fs.lastOf A E) = e at *
  exact bits32_core neg M e (Rn.rung32 mode neg A E : Nat) _ w (by omega) (by omega) (by omega) (by omega) (fun c => by omega) (by unfold Hid; omega) (word_int neg _)
end Go.Proofs.YtnceajanlnnfoaaGreatDoor
namespace Go.Proofs.YtnceajanlnnfoaaGreatDoor
open Go.RowKit
open Ieee
set_option maxHeartbeats 4000000 in
set_option maxRecDepth 20000 in
theorem rnarrow_core (neg i : Bool) (a z M E mode Mo Ee s r : Int) (N : Nat) (g0 g1 g2 : Bool) (w : World) (hz : Hid (bits .andNot .u64 a 9223372036854775808 = z)) (hX : (z == 9218868437227405312) = false) (hM : (M == 0) = false) (_ha0 : 0 ≤ a)
  (HM : Hid (∀ w, Calls Tryz.prog 96 #[.int .i64 mode] w fun e w' => e = .returned (.bool true) ∧ w' = w))
  (HN : Hid (∀ w, Calls Tryz.prog 97 #[.int .u64 a] w fun e w' => e = .returned (.bool false) ∧ w' = w))
  (HS : Hid (∀ w, Calls Tryz.prog 98 #[.int .u64 a] w fun e w' => e = .returned (.tuple #[.bool neg, .int .u64 M, .int .i64 E, .int .i64 r]) ∧ w' = w))
  (hOf : Hid (∀ w', Calls Tryz.prog 100 #[.int .u64 M] w' fun e w'' => (∃ v, e = .returned v ∧ NatAt w'' v N) ∧ Gr w' w''))
  (hO1 : Hid (∀ w', Calls Tryz.prog 100 #[.int .u64 1] w' fun e w'' => (∃ v, e = .returned v ∧ NatAt w'' v 1) ∧ Gr w' w''))
  (HK : Hid (∀ w, Calls Tryz.prog 101 #[] w fun e w' => e = .returned (.agg #[.int .i64 24, .int .i64 (-149), .int .i64 127]) ∧ Gr w w'))
  (hTo : Hid (∀ w' num den, NatAt w' num N → NatAt w' den 1 → Calls Tryz.prog 99 #[.agg #[.bool neg, num, den, .int .i64 E, .bool false], .agg #[.int .i64 24, .int .i64 (-149), .int .i64 127], .int .i64 mode] w' fun e w'' => e = .returned (.tuple #[.agg #[.bool neg, .bool i, .int .u64 Mo, .int .i64 Ee], .agg #[.bool g0, .bool g1, .bool g2]]) ∧ Gr w' w''))
  (HB : Hid (∀ w, Calls Tryz.prog 102 #[.agg #[.bool neg, .bool i, .int .u64 Mo, .int .i64 Ee]] w fun e w' => e = .returned (.int .u32 s) ∧ Gr w w')) :
  Calls Tryz.prog 46 #[.int .u64 a, .int .i64 mode] w fun e w' => e = .returned (.tuple #[.int .u32 s, .agg #[.bool g0, .bool g1, .bool g2], .int .i64 0]) ∧ Gr w w' := by
 have R0 : Hid (Holds (w.alloc (.cells #[.bool false, .bool false, .bool false] 103)) w.heap.size [.bool false, .bool false, .bool false]) := holds_new w _ _
 have G0 : Hid (Gr w (w.alloc (.cells #[.bool false, .bool false, .bool false] 103))) := (Gr.refl w).alloc _ _
 go_enter Tryz.func46, Tryz.ntmps46
 go_wp2_with (first | (simp only [hz.out]) | (go_at_call 96; refine (HM.out _).mono ?_; rintro e w' ⟨rfl, rfl⟩) | (go_at_call 97; refine (HN.out _).mono ?_; rintro e w' ⟨rfl, rfl⟩) | (go_at_call 98; refine (HS.out _).mono ?_; rintro e w' ⟨rfl, rfl⟩))
 refine (hOf.out _).mono ?_
 rintro e wN ⟨⟨vN, rfl, hn⟩, hg⟩
 obtain ⟨aN, nN, cN, rfl, _⟩ := natAt_len hn
 have HNN : Hid (NatAt wN (.slice aN nN cN) N) := hn
 have GN : Hid (Gr (w.alloc (.cells #[.bool false, .bool false, .bool false] 103)) wN) := hg
 clear hn hg
 go_wp2_with fail
 refine (hO1.out _).mono ?_
 rintro e wD ⟨⟨vD, rfl, hd⟩, hg⟩
 obtain ⟨aD, nD, cD, rfl, _⟩ := natAt_len hd
 have HD : Hid (NatAt wD (.slice aD nD cD) 1) := hd
 have HND : Hid (NatAt wD (.slice aN nN cN) N) := HNN.out.gr hg
 have GD : Hid (Gr (w.alloc (.cells #[.bool false, .bool false, .bool false] 103)) wD) := GN.out.trans hg
 clear hd hg
 go_wp2_with fail
 refine (HK.out _).mono ?_
 rintro e wK ⟨rfl, hg⟩
 have GK : Hid (Gr wD wK) := hg
 clear hg
 go_wp2_with fail
 refine (hTo.out _ _ _ (HND.out.gr GK.out) (HD.out.gr GK.out)).mono ?_
 rintro e w2 ⟨rfl, hg⟩
 have G2 : Hid (Gr (w.alloc (.cells #[.bool false, .bool false, .bool false] 103)) w2) := (GD.out.trans GK.out).trans hg
 clear hg
 go_wp2_with fail
 have X1 := (holds_new w2 #[.bool neg, .bool i, .int .u64 Mo, .int .i64 Ee] 170).gr ((Gr.refl _).alloc #[.bool g0, .bool g1, .bool g2] 103)
 have X2 := holds_new (w2.alloc (.cells #[.bool neg, .bool i, .int .u64 Mo, .int .i64 Ee] 170)) #[.bool g0, .bool g1, .bool g2] 103
 rw [show (w2.alloc (.cells #[.bool neg, .bool i, .int .u64 Mo, .int .i64 Ee] 170)).heap.size = w2.heap.size + 1 by show (w2.heap.push _).size = _; simp] at X2
 have X3 := R0.out.gr ((G2.out.alloc #[.bool neg, .bool i, .int .u64 Mo, .int .i64 Ee] 170).alloc #[.bool g0, .bool g1, .bool g2] 103)
 have GW := G0.out.trans ((G2.out.alloc #[.bool neg, .bool i, .int .u64 Mo, .int .i64 Ee] 170).alloc #[.bool g0, .bool g1, .bool g2] 103)
 generalize (w2.alloc (.cells #[.bool neg, .bool i, .int .u64 Mo, .int .i64 Ee] 170)).alloc (.cells #[.bool g0, .bool g1, .bool g2] 103) = W at *
 have X1 : Hid (Holds W w2.heap.size [.bool neg, .bool i, .int .u64 Mo, .int .i64 Ee]) := X1
 have X2 : Hid (Holds W (w2.heap.size + 1) [.bool g0, .bool g1, .bool g2]) := X2
 have X3 : Hid (Holds W w.heap.size [.bool false, .bool false, .bool false]) := X3
 have GW : Hid (Gr w W) := GW
 obtain ⟨p0, p1, p2, p3, r0, r1, r2⟩ : W.cell? ⟨w2.heap.size, 0, none⟩ = some (.bool neg) ∧ W.cell? ⟨w2.heap.size, 1, none⟩ = some (.bool i) ∧ W.cell? ⟨w2.heap.size, 2, none⟩ = some (.int .u64 Mo) ∧ W.cell? ⟨w2.heap.size, 3, none⟩ = some (.int .i64 Ee) ∧ W.cell? ⟨w2.heap.size + 1, 0, none⟩ = some (.bool g0) ∧ W.cell? ⟨w2.heap.size + 1, 1, none⟩ = some (.bool g1) ∧ W.cell? ⟨w2.heap.size + 1, 2, none⟩ = some (.bool g2) := ⟨X1.out.c0.1, X1.out.c1.1, X1.out.c2.1, X1.out.c3.1, X2.out.c0.1, X2.out.c1.1, X2.out.c2.1⟩
 go_region_with (go_at_call 102; refine (HB.out _).mono ?_; rintro e w4 ⟨rfl, hg4⟩; have G4 : Hid (Gr W w4) := (by first | exact Gr.trans (Gr.refl W).drew hg4 | exact hg4); clear hg4; have q0 := (X2.out.gr G4.out).c0.1; have q1 := (X2.out.gr G4.out).c1.1; have q2 := (X2.out.gr G4.out).c2.1; obtain ⟨x0, y0⟩ := (X3.out.gr G4.out).c0; obtain ⟨x1, y1⟩ := (X3.out.gr G4.out).c1; obtain ⟨x2, y2⟩ := (X3.out.gr G4.out).c2)
 all_goals
  go_wp2
  refine bodyPost_ret (v := .tuple #[.int .u32 s, .agg #[.bool g0, .bool g1, .bool g2], .int .i64 0]) (by simp [results, Tryz.results46, go_sem, *]) rfl ⟨rfl, ?_⟩
  exact ((((GW.out.trans G4.out).setCell _ _ (Nat.le_refl _)).setCell _ _ (Nat.le_refl _)).setCell _ _ (Nat.le_refl _))
set_option maxHeartbeats 1000000 in
theorem rnarrow_bad (a mode : Int) (w : World)
  (HM : Hid (∀ w, Calls Tryz.prog 96 #[.int .i64 mode] w fun e w' => e = .returned (.bool false) ∧ w' = w)) :
  Calls Tryz.prog 46 #[.int .u64 a, .int .i64 mode] w fun e w' => e = .returned (.tuple #[.int .u32 0, .agg #[.bool false, .bool false, .bool false], .int .i64 1]) ∧ Gr w w' := by
 obtain ⟨⟨x0, x1, x2⟩, y0, y1, y2⟩ := has3_new w (.bool false) (.bool false) (.bool false) 103
 go_enter Tryz.func46, Tryz.ntmps46
 go_wp2_with (first | (go_at_call 96; refine (HM.out _).mono ?_; rintro e w' ⟨rfl, rfl⟩))
 refine bodyPost_ret (v := .tuple #[.int .u32 0, .agg #[.bool false, .bool false, .bool false], .int .i64 1]) (by simp [results, Tryz.results46, go_sem, *]) rfl ?_
 exact ⟨rfl, by (repeat (first | exact Gr.refl _ | refine Gr.setCell ?_ _ _ (Nat.le_refl _) | refine Gr.alloc ?_ _ _ | refine Gr.drewN ?_ _))⟩
set_option maxHeartbeats 1000000 in
theorem rnarrow_nan (a mode : Int) (w : World)
  (HM : Hid (∀ w, Calls Tryz.prog 96 #[.int .i64 mode] w fun e w' => e = .returned (.bool true) ∧ w' = w))
  (HN : Hid (∀ w, Calls Tryz.prog 97 #[.int .u64 a] w fun e w' => e = .returned (.bool true) ∧ w' = w)) :
  Calls Tryz.prog 46 #[.int .u64 a, .int .i64 mode] w fun e w' => e = .returned (.tuple #[.int .u32 2143289344, .agg #[.bool false, .bool false, .bool false], .int .i64 0]) ∧ Gr w w' := by
 obtain ⟨⟨x0, x1, x2⟩, y0, y1, y2⟩ := has3_new w (.bool false) (.bool false) (.bool false) 103
 go_enter Tryz.func46, Tryz.ntmps46
 go_wp2_with (first | (go_at_call 96; refine (HM.out _).mono ?_; rintro e w' ⟨rfl, rfl⟩) | (go_at_call 97; refine (HN.out _).mono ?_; rintro e w' ⟨rfl, rfl⟩))
 refine bodyPost_ret (v := .tuple #[.int .u32 2143289344, .agg #[.bool false, .bool false, .bool false], .int .i64 0]) (by simp [results, Tryz.results46, go_sem, *]) rfl ?_
 exact ⟨rfl, by (repeat (first | exact Gr.refl _ | refine Gr.setCell ?_ _ _ (Nat.le_refl _) | refine Gr.alloc ?_ _ _ | refine Gr.drewN ?_ _))⟩
set_option maxHeartbeats 1000000 in
theorem rnarrow_plain (neg : Bool) (a z M E mode S r v : Int) (w : World) (hz : Hid (bits .andNot .u64 a 9223372036854775808 = z)) (_ha0 : 0 ≤ a)
  (hS : Hid (a / 9223372036854775808 % 4294967296 * 2147483648 % 4294967296 = S))
  (hX : ((z == 9218868437227405312) = true ∧ Hid (bits .or .u32 S 2139095040 = v)) ∨ ((z == 9218868437227405312) = false ∧ (M == 0) = true ∧ v = S))
  (HM : Hid (∀ w, Calls Tryz.prog 96 #[.int .i64 mode] w fun e w' => e = .returned (.bool true) ∧ w' = w))
  (HN : Hid (∀ w, Calls Tryz.prog 97 #[.int .u64 a] w fun e w' => e = .returned (.bool false) ∧ w' = w))
  (HS : Hid (∀ w, Calls Tryz.prog 98 #[.int .u64 a] w fun e w' => e = .returned (.tuple #[.bool neg, .int .u64 M, .int .i64 E, .int .i64 r]) ∧ w' = w)) :
  Calls Tryz.prog 46 #[.int .u64 a, .int .i64 mode] w fun e w' => e = .returned (.tuple #[.int .u32 v, .agg #[.bool false, .bool false, .bool false], .int .i64 0]) ∧ Gr w w' := by
 obtain ⟨⟨x0, x1, x2⟩, y0, y1, y2⟩ := has3_new w (.bool false) (.bool false) (.bool false) 103
 rcases hX with ⟨hX, hv⟩ | ⟨hX, hM, rfl⟩
 ·go_enter Tryz.func46, Tryz.ntmps46
  go_wp2_with (first | (simp only [hz.out]) | (go_at_call 96; refine (HM.out _).mono ?_; rintro e w' ⟨rfl, rfl⟩) | (go_at_call 97; refine (HN.out _).mono ?_; rintro e w' ⟨rfl, rfl⟩) | (go_at_call 98; refine (HS.out _).mono ?_; rintro e w' ⟨rfl, rfl⟩))
  simp only [hS.out]
  refine bodyPost_ret (v := .tuple #[.int .u32 (bits .or .u32 S 2139095040), .agg #[.bool false, .bool false, .bool false], .int .i64 0]) (by simp [results, Tryz.results46, go_sem, *]) rfl ?_
  exact ⟨by rw [hv.out], by (repeat (first | exact Gr.refl _ | refine Gr.setCell ?_ _ _ (Nat.le_refl _) | refine Gr.alloc ?_ _ _ | refine Gr.drewN ?_ _))⟩
 ·go_enter Tryz.func46, Tryz.ntmps46
  go_wp2_with (first | (simp only [hz.out]) | (go_at_call 96; refine (HM.out _).mono ?_; rintro e w' ⟨rfl, rfl⟩) | (go_at_call 97; refine (HN.out _).mono ?_; rintro e w' ⟨rfl, rfl⟩) | (go_at_call 98; refine (HS.out _).mono ?_; rintro e w' ⟨rfl, rfl⟩))
  simp only [hS.out]
  refine bodyPost_ret (v := .tuple #[.int .u32 v, .agg #[.bool false, .bool false, .bool false], .int .i64 0]) (by simp [results, Tryz.results46, go_sem, *]) rfl ?_
  exact ⟨rfl, by (repeat (first | exact Gr.refl _ | refine Gr.setCell ?_ _ _ (Nat.le_refl _) | refine Gr.alloc ?_ _ _ | refine Gr.drewN ?_ _))⟩
end Go.Proofs.YtnceajanlnnfoaaGreatDoor
namespace Go.Proofs.YtnceajanlnnfoaaGreatDoor
open Go.RowKit
open Ieee
def nzW (mode : Int) (b : Nat) : Nat := if okMode mode = false then 0 else if isN b = true then 2143289344 else nwW mode b
def nzI (mode : Int) (b : Nat) : Bool := okMode mode && (!isN b && nwI mode b)
def nzO (mode : Int) (b : Nat) : Bool := okMode mode && (!isN b && nwO mode b)
def nzU (mode : Int) (b : Nat) : Bool := okMode mode && (!isN b && nwU mode b)
def nzE (mode : Int) : Int := if okMode mode = true then 0 else 1
theorem nz_bad (mode : Int) (b : Nat) (hm : okMode mode = false) : nzW mode b = 0 ∧ nzI mode b = false ∧ nzO mode b = false ∧ nzU mode b = false ∧ nzE mode = 1 := by
 unfold nzW nzI nzO nzU nzE
 rw [hm, if_pos rfl, Bool.false_and, Bool.false_and, Bool.false_and, if_neg (by simp)]
 exact ⟨rfl, rfl, rfl, rfl, rfl⟩
theorem nz_nan (mode : Int) (b : Nat) (hm : okMode mode = true) (hn : isN b = true) : nzW mode b = 2143289344 ∧ nzI mode b = false ∧ nzO mode b = false ∧ nzU mode b = false ∧ nzE mode = 0 := by
 unfold nzW nzI nzO nzU nzE
 rw [hm, hn, if_neg (by simp), if_pos rfl, Bool.true_and, Bool.true_and, Bool.true_and, Bool.not_true, Bool.false_and, Bool.false_and, Bool.false_and, if_pos rfl]
 exact ⟨rfl, rfl, rfl, rfl, rfl⟩
theorem nz_ok (mode : Int) (b : Nat) (hm : okMode mode = true) (hn : isN b = false) : nzW mode b = nwW mode b ∧ nzI mode b = nwI mode b ∧ nzO mode b = nwO mode b ∧ nzU mode b = nwU mode b ∧ nzE mode = 0 := by
 unfold nzW nzI nzO nzU nzE
 rw [hm, hn, if_neg (by simp), if_neg (by simp), Bool.true_and, Bool.true_and, Bool.true_and, Bool.not_false, Bool.true_and, Bool.true_and, Bool.true_and, if_pos rfl]
 exact ⟨rfl, rfl, rfl, rfl, rfl⟩
theorem toF_agg (mode : Int) (neg : Bool) (A : Nat) (E : Int) : ∃ (i : Bool) (M e : Int), toF mode neg A E = .agg #[.bool neg, .bool i, .int .u64 M, .int .i64 e] := by
 unfold toF
 by_cases h : nrO mode neg A E = true
 ·rw [if_pos h]
  by_cases f : Rn.far mode neg = true
  ·rw [if_pos f]; exact ⟨_, _, _, rfl⟩
  ·rw [if_neg f]; exact ⟨_, _, _, rfl⟩
 ·rw [if_neg h]; exact ⟨_, _, _, rfl⟩
theorem okMode_bd (mode : Int) (h : okMode mode = true) : 1 ≤ mode ∧ mode ≤ 6 := of_decide_eq_true h
theorem rnarrow_finite (a : Int) (a0 : 0 ≤ a) (a1 : a < 18446744073709551616) (mode : Int) (hm : okMode mode = true) (h : mag a.toNat < 9218868437227405312) (h0 : mag a.toNat ≠ 0) (hn : isN a.toNat = false) (w : World) :
  Calls Tryz.prog 46 #[.int .u64 a, .int .i64 mode] w fun e w' =>
   e = .returned (.tuple #[.int .u32 (Rn.word32 mode (sgb a.toNat) (spM a.toNat) (spE a.toNat) : Nat), .agg #[.bool (nrO mode (sgb a.toNat) (spM a.toNat) (spE a.toNat) || nrI (spM a.toNat) (spE a.toNat)), .bool (nrO mode (sgb a.toNat) (spM a.toNat) (spE a.toNat)), .bool (!nrO mode (sgb a.toNat) (spM a.toNat) (spE a.toNat) && nrU (spM a.toNat) (spE a.toNat))], .int .i64 0]) ∧ Gr w w' := by
 obtain ⟨s1, s2, s3, s4, s5, s6, s7⟩ := spM_facts a.toNat h h0
 have hS : ∀ w, Calls Tryz.prog 98 #[.int .u64 a] w fun e w' => e = .returned (.tuple #[.bool (sgb a.toNat), .int .u64 (spM a.toNat : Int), .int .i64 (spE a.toNat), .int .i64 0]) ∧ w' = w := fun w => by
  have := rsplit_any a a0 a1 w
  rw [s6, s7] at this
  exact this
 have hN : ∀ w, Calls Tryz.prog 97 #[.int .u64 a] w fun e w' => e = .returned (.bool false) ∧ w' = w := fun w => by
  have := isnan_any a a0 a1 w
  rwa [hn] at this
 have hz := andNot63I a a0 a1
 have hX : (magZ a.toNat == 9218868437227405312) = false := by rw [beq_eq_false_iff_ne]; unfold magZ; omega
 have hM : ((spM a.toNat : Int) == 0) = false := by rw [beq_eq_false_iff_ne]; omega
 generalize sgb a.toNat = neg at *
 generalize spE a.toNat = E at *
 generalize hmm : spM a.toNat = M at *
 clear hmm s6 s7
 have hlog : M.log2 < 53 := (Nat.log2_lt s1).2 s2
 obtain ⟨i, Mo, Ee, hF⟩ := toF_agg mode neg M E
 have hb := bits32_any mode neg M E s1
 rw [hF] at hb
 have hb64 : M < 18446744073709551616 := by omega
 obtain ⟨m0, m1⟩ := okMode_bd mode hm
 refine rnarrow_core neg i a _ M E mode Mo Ee _ 0 M _ _ _ w hz hX hM a0 (fun w => ?_) hN hS (fun w => of_any M hb64 w) (fun w => of_any 1 (by decide) w) (fun w => thirty_any w) (fun w num den h1 h2 => ?_) hb
 ·have := rmode_any mode w; rwa [hm] at this
 ·have := to24_any neg num den M E mode w s1 (lt_bigA' M hb64) (by omega) h1 h2 (by omega) (by omega) (by omega) (by omega) m0 m1
  rw [hF] at this
  exact this
theorem sgn_u32 (a : Int) (a0 : 0 ≤ a) (a1 : a < 18446744073709551616) : a / 9223372036854775808 % 4294967296 * 2147483648 % 4294967296 = (single.word (sgb a.toNat) 0 : Nat) := by
 unfold Format.word sgb
 rw [Fs.sw]
 by_cases c : 9223372036854775808 ≤ a.toNat
 ·rw [decide_eq_true c, if_pos rfl]; omega
 ·rw [decide_eq_false c, if_neg (by simp)]; omega
theorem or_inf32 (neg : Bool) : bits .or .u32 ((single.word neg 0 : Nat) : Int) 2139095040 = ((single.word neg 2139095040 : Nat) : Int) := by
 cases neg <;> decide +kernel
theorem rnarrow_all (a : Int) (a0 : 0 ≤ a) (a1 : a < 18446744073709551616) (mode : Int) (w : World) :
  Calls Tryz.prog 46 #[.int .u64 a, .int .i64 mode] w fun e w' => e = .returned (.tuple #[.int .u32 (nzW mode a.toNat : Nat), .agg #[.bool (nzI mode a.toNat), .bool (nzO mode a.toNat), .bool (nzU mode a.toNat)], .int .i64 (nzE mode)]) ∧ Gr w w' := by
 have hM := fun w => rmode_any mode w
 have hN := fun w => isnan_any a a0 a1 w
 have hS := fun w => rsplit_any a a0 a1 w
 cases hm : okMode mode
 ·obtain ⟨h1, h2, h3, h4, h5⟩ := nz_bad mode a.toNat hm
  rw [h1, h2, h3, h4, h5]
  rw [hm] at hM
  exact rnarrow_bad a mode w hM
 ·rw [hm] at hM
  cases hn : isN a.toNat
  ·obtain ⟨h1, h2, h3, h4, h5⟩ := nz_ok mode a.toNat hm hn
   rw [h1, h2, h3, h4, h5]
   rw [hn] at hN
   have hle := isN_not hn
   have hz := andNot63I a a0 a1
   by_cases i : mag a.toNat = 9218868437227405312
   ·have hp : plainB a.toNat = true := by unfold plainB; rw [decide_eq_true i, Bool.true_or]
    have hw : nwW mode a.toNat = single.word (sgb a.toNat) 2139095040 := by unfold nwW; rw [if_pos i]
    have hI : nwI mode a.toNat = false := by unfold nwI; rw [hp, Bool.not_true, Bool.false_and]
    have hO : nwO mode a.toNat = false := by unfold nwO; rw [hp, Bool.not_true, Bool.false_and]
    have hU : nwU mode a.toNat = false := by unfold nwU; rw [hp, Bool.not_true, Bool.false_and]
    rw [hw, hI, hO, hU]
    exact rnarrow_plain _ a _ _ _ mode _ _ _ w hz a0 (sgn_u32 a a0 a1) (Or.inl ⟨by rw [beq_iff_eq]; unfold magZ; omega, or_inf32 _⟩) hM hN hS
   ·by_cases z : mag a.toNat = 0
    ·have hp : plainB a.toNat = true := by unfold plainB; rw [decide_eq_true z, Bool.or_true]
     have hw : nwW mode a.toNat = single.word (sgb a.toNat) 0 := by unfold nwW; rw [if_neg i, if_pos z]
     have hI : nwI mode a.toNat = false := by unfold nwI; rw [hp, Bool.not_true, Bool.false_and]
     have hO : nwO mode a.toNat = false := by unfold nwO; rw [hp, Bool.not_true, Bool.false_and]
     have hU : nwU mode a.toNat = false := by unfold nwU; rw [hp, Bool.not_true, Bool.false_and]
     have hm0 : spMz a.toNat = 0 := by
      unfold spMz spM
      rw [if_neg (by omega)]
      split <;> omega
     rw [hw, hI, hO, hU]
     exact rnarrow_plain _ a _ _ _ mode _ _ _ w hz a0 (sgn_u32 a a0 a1) (Or.inr ⟨by rw [beq_eq_false_iff_ne]; unfold magZ; omega, by rw [beq_iff_eq]; exact hm0, rfl⟩) hM hN hS
    ·have hp : plainB a.toNat = false := by unfold plainB; rw [decide_eq_false i, decide_eq_false z]; rfl
     have hw : nwW mode a.toNat = Rn.word32 mode (sgb a.toNat) (spM a.toNat) (spE a.toNat) := by unfold nwW; rw [if_neg i, if_neg z]
     have hI : nwI mode a.toNat = (nrO mode (sgb a.toNat) (spM a.toNat) (spE a.toNat) || nrI (spM a.toNat) (spE a.toNat)) := by unfold nwI; rw [hp, Bool.not_false, Bool.true_and]
     have hO : nwO mode a.toNat = nrO mode (sgb a.toNat) (spM a.toNat) (spE a.toNat) := by unfold nwO; rw [hp, Bool.not_false, Bool.true_and]
     have hU : nwU mode a.toNat = (!nrO mode (sgb a.toNat) (spM a.toNat) (spE a.toNat) && nrU (spM a.toNat) (spE a.toNat)) := by unfold nwU; rw [hp, Bool.not_false, Bool.true_and]
     rw [hw, hI, hO, hU]
     exact rnarrow_finite a a0 a1 mode hm (by omega) z hn w
  ·obtain ⟨h1, h2, h3, h4, h5⟩ := nz_nan mode a.toNat hm hn
   rw [h1, h2, h3, h4, h5]
   rw [hn] at hN
   exact rnarrow_nan a mode w hM hN
end Go.Proofs.YtnceajanlnnfoaaGreatDoor
