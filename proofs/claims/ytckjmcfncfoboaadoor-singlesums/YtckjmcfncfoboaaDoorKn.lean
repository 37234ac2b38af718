/- Narrow, the program's and the document's, of any number by any mode. -/
import Derived.Test.YtckjmcfncfoboaaDoorNk
import Derived.Test.YtckjmcfncfoboaaDoorKd
namespace Go.Proofs.YtckjmcfncfoboaaDoor
open Go.RowKit
open Ieee

/-- What Narrow answers. -/
def nzW (mode : Int) (b : Nat) : Nat := if okMode mode = false then 0 else if isN b = true then 2143289344 else nwW mode b
def nzI (mode : Int) (b : Nat) : Bool := okMode mode && (!isN b && nwI mode b)
def nzO (mode : Int) (b : Nat) : Bool := okMode mode && (!isN b && nwO mode b)
def nzU (mode : Int) (b : Nat) : Bool := okMode mode && (!isN b && nwU mode b)
def nzE (mode : Int) : Int := if okMode mode = true then 0 else 1

theorem nz_bad (mode : Int) (b : Nat) (hm : okMode mode = false) : nzW mode b = 0 ∧ nzI mode b = false ∧ nzO mode b = false ∧ nzU mode b = false ∧ nzE mode = 1 := by
  unfold nzW nzI nzO nzU nzE
  rw [hm, if_pos rfl, Bool.false_and, Bool.false_and, Bool.false_and, if_neg (by simp)]
  exact ⟨rfl, rfl, rfl, rfl, rfl⟩
theorem nz_nan (mode : Int) (b : Nat) (hm : okMode mode = true) (hn : isN b = true) : nzW mode b = 2143289344 ∧ nzI mode b = false ∧ nzO mode b = false ∧ nzU mode b = false ∧ nzE mode = 0 := by
  unfold nzW nzI nzO nzU nzE
  rw [hm, hn, if_neg (by simp), if_pos rfl, Bool.true_and, Bool.true_and, Bool.true_and, Bool.not_true, Bool.false_and, Bool.false_and, Bool.false_and, if_pos rfl]
  exact ⟨rfl, rfl, rfl, rfl, rfl⟩
theorem nz_ok (mode : Int) (b : Nat) (hm : okMode mode = true) (hn : isN b = false) : nzW mode b = nwW mode b ∧ nzI mode b = nwI mode b ∧ nzO mode b = nwO mode b ∧ nzU mode b = nwU mode b ∧ nzE mode = 0 := by
  unfold nzW nzI nzO nzU nzE
  rw [hm, hn, if_neg (by simp), if_neg (by simp), Bool.true_and, Bool.true_and, Bool.true_and, Bool.not_false, Bool.true_and, Bool.true_and, Bool.true_and, if_pos rfl]
  exact ⟨rfl, rfl, rfl, rfl, rfl⟩
theorem pnarrow_all (b : Nat) (hb : b < 18446744073709551616) (mode : Int) (w : World) (hT : Tab w) :
    Calls Tryd.prog 20 #[.float .f64 b, .int .i64 mode] w fun e w' => e = .returned (.tuple #[.float .f32 (nzW mode b), .agg #[.bool (nzI mode b), .bool (nzO mode b), .bool (nzU mode b)], .int .i64 (nzE mode)]) ∧ Gr w w' := by
  cases hm : okMode mode
  · obtain ⟨h1, h2, h3, h4, h5⟩ := nz_bad mode b hm
    rw [h1, h2, h3, h4, h5]
    exact narrow_none b mode hm w
  · cases hn : isN b
    · obtain ⟨h1, h2, h3, h4, h5⟩ := nz_ok mode b hm hn
      rw [h1, h2, h3, h4, h5]
      exact narrow_any b hb mode hm hn w hT
    · obtain ⟨h1, h2, h3, h4, h5⟩ := nz_nan mode b hm hn
      rw [h1, h2, h3, h4, h5]
      exact narrow_nan b hb mode hm hn w

/-- What To answers, field by field. -/
theorem toF_agg (mode : Int) (neg : Bool) (A : Nat) (E : Int) : ∃ (i : Bool) (M e : Int), toF mode neg A E = .agg #[.bool neg, .bool i, .int .u64 M, .int .i64 e] := by
  unfold toF
  by_cases h : nrO mode neg A E = true
  · rw [if_pos h]
    by_cases f : Rn.far mode neg = true
    · rw [if_pos f]; exact ⟨_, _, _, rfl⟩
    · rw [if_neg f]; exact ⟨_, _, _, rfl⟩
  · rw [if_neg h]; exact ⟨_, _, _, rfl⟩

theorem okMode_bd (mode : Int) (h : okMode mode = true) : 1 ≤ mode ∧ mode ≤ 6 := of_decide_eq_true h
theorem rnarrow_finite (a : Int) (a0 : 0 ≤ a) (a1 : a < 18446744073709551616) (mode : Int) (hm : okMode mode = true) (h : mag a.toNat < 9218868437227405312) (h0 : mag a.toNat ≠ 0) (hn : isN a.toNat = false) (w : World) :
    Calls Tryd.prog 22 #[.int .u64 a, .int .i64 mode] w fun e w' =>
      e = .returned (.tuple #[.int .u32 (Rn.word32 mode (sgb a.toNat) (spM a.toNat) (spE a.toNat) : Nat), .agg #[.bool (nrO mode (sgb a.toNat) (spM a.toNat) (spE a.toNat) || nrI (spM a.toNat) (spE a.toNat)), .bool (nrO mode (sgb a.toNat) (spM a.toNat) (spE a.toNat)), .bool (!nrO mode (sgb a.toNat) (spM a.toNat) (spE a.toNat) && nrU (spM a.toNat) (spE a.toNat))], .int .i64 0]) ∧ Gr w w' := by
  obtain ⟨s1, s2, s3, s4, s5, s6, s7⟩ := spM_facts a.toNat h h0
  have hS : ∀ w, Calls Tryd.prog 55 #[.int .u64 a] w fun e w' => e = .returned (.tuple #[.bool (sgb a.toNat), .int .u64 (spM a.toNat : Int), .int .i64 (spE a.toNat), .int .i64 0]) ∧ w' = w := fun w => by
    have := rsplit_any a a0 a1 w
    rw [s6, s7] at this
    exact this
  have hN : ∀ w, Calls Tryd.prog 54 #[.int .u64 a] w fun e w' => e = .returned (.bool false) ∧ w' = w := fun w => by
    have := isnan_any a a0 a1 w
    rwa [hn] at this
  have hz := andNot63I a a0 a1
  have hX : (magZ a.toNat == 9218868437227405312) = false := by rw [beq_eq_false_iff_ne]; unfold magZ; omega
  have hM : ((spM a.toNat : Int) == 0) = false := by rw [beq_eq_false_iff_ne]; omega
  generalize sgb a.toNat = neg at *
  generalize spE a.toNat = E at *
  generalize hmm : spM a.toNat = M at *
  clear hmm s6 s7
  have hlog : M.log2 < 53 := (Nat.log2_lt s1).2 s2
  obtain ⟨i, Mo, Ee, hF⟩ := toF_agg mode neg M E
  have hb := bits32_any mode neg M E s1
  rw [hF] at hb
  have hb64 : M < 18446744073709551616 := by omega
  obtain ⟨m0, m1⟩ := okMode_bd mode hm
  refine rnarrow_core neg i a _ M E mode Mo Ee _ 0 M _ _ _ w hz hX hM a0 (fun w => ?_) hN hS (fun w => of_any M hb64 w) (fun w => of_any 1 (by decide) w) (fun w => thirty_any w) (fun w num den h1 h2 => ?_) hb
  · have := rmode_any mode w; rwa [hm] at this
  · have := to24_any neg num den M E mode w s1 (lt_bigA' M hb64) (by omega) h1 h2 (by omega) (by omega) (by omega) (by omega) m0 m1
    rw [hF] at this
    exact this

theorem sgn_u32 (a : Int) (a0 : 0 ≤ a) (a1 : a < 18446744073709551616) : a / 9223372036854775808 % 4294967296 * 2147483648 % 4294967296 = (single.word (sgb a.toNat) 0 : Nat) := by
  unfold Format.word sgb
  rw [Fs.sw]
  by_cases c : 9223372036854775808 ≤ a.toNat
  · rw [decide_eq_true c, if_pos rfl]; omega
  · rw [decide_eq_false c, if_neg (by simp)]; omega
theorem or_inf32 (neg : Bool) : bits .or .u32 ((single.word neg 0 : Nat) : Int) 2139095040 = ((single.word neg 2139095040 : Nat) : Int) := by
  cases neg <;> decide +kernel

theorem rnarrow_all (a : Int) (a0 : 0 ≤ a) (a1 : a < 18446744073709551616) (mode : Int) (w : World) :
    Calls Tryd.prog 22 #[.int .u64 a, .int .i64 mode] w fun e w' => e = .returned (.tuple #[.int .u32 (nzW mode a.toNat : Nat), .agg #[.bool (nzI mode a.toNat), .bool (nzO mode a.toNat), .bool (nzU mode a.toNat)], .int .i64 (nzE mode)]) ∧ Gr w w' := by
  have hM := fun w => rmode_any mode w
  have hN := fun w => isnan_any a a0 a1 w
  have hS := fun w => rsplit_any a a0 a1 w
  cases hm : okMode mode
  · obtain ⟨h1, h2, h3, h4, h5⟩ := nz_bad mode a.toNat hm
    rw [h1, h2, h3, h4, h5]
    rw [hm] at hM
    exact rnarrow_bad a mode w hM
  · rw [hm] at hM
    cases hn : isN a.toNat
    · obtain ⟨h1, h2, h3, h4, h5⟩ := nz_ok mode a.toNat hm hn
      rw [h1, h2, h3, h4, h5]
      rw [hn] at hN
      have hle := isN_not hn
      have hz := andNot63I a a0 a1
      by_cases i : mag a.toNat = 9218868437227405312
      · have hp : plainB a.toNat = true := by unfold plainB; rw [decide_eq_true i, Bool.true_or]
        have hw : nwW mode a.toNat = single.word (sgb a.toNat) 2139095040 := by unfold nwW; rw [if_pos i]
        have hI : nwI mode a.toNat = false := by unfold nwI; rw [hp, Bool.not_true, Bool.false_and]
        have hO : nwO mode a.toNat = false := by unfold nwO; rw [hp, Bool.not_true, Bool.false_and]
        have hU : nwU mode a.toNat = false := by unfold nwU; rw [hp, Bool.not_true, Bool.false_and]
        rw [hw, hI, hO, hU]
        exact rnarrow_plain _ a _ _ _ mode _ _ _ w hz a0 (sgn_u32 a a0 a1) (Or.inl ⟨by rw [beq_iff_eq]; unfold magZ; omega, or_inf32 _⟩) hM hN hS
      · by_cases z : mag a.toNat = 0
        · have hp : plainB a.toNat = true := by unfold plainB; rw [decide_eq_true z, Bool.or_true]
          have hw : nwW mode a.toNat = single.word (sgb a.toNat) 0 := by unfold nwW; rw [if_neg i, if_pos z]
          have hI : nwI mode a.toNat = false := by unfold nwI; rw [hp, Bool.not_true, Bool.false_and]
          have hO : nwO mode a.toNat = false := by unfold nwO; rw [hp, Bool.not_true, Bool.false_and]
          have hU : nwU mode a.toNat = false := by unfold nwU; rw [hp, Bool.not_true, Bool.false_and]
          have hm0 : spMz a.toNat = 0 := by
            unfold spMz spM
            rw [if_neg (by omega)]
            split <;> omega
          rw [hw, hI, hO, hU]
          exact rnarrow_plain _ a _ _ _ mode _ _ _ w hz a0 (sgn_u32 a a0 a1) (Or.inr ⟨by rw [beq_eq_false_iff_ne]; unfold magZ; omega, by rw [beq_iff_eq]; exact hm0, rfl⟩) hM hN hS
        · have hp : plainB a.toNat = false := by unfold plainB; rw [decide_eq_false i, decide_eq_false z]; rfl
          have hw : nwW mode a.toNat = Rn.word32 mode (sgb a.toNat) (spM a.toNat) (spE a.toNat) := by unfold nwW; rw [if_neg i, if_neg z]
          have hI : nwI mode a.toNat = (nrO mode (sgb a.toNat) (spM a.toNat) (spE a.toNat) || nrI (spM a.toNat) (spE a.toNat)) := by unfold nwI; rw [hp, Bool.not_false, Bool.true_and]
          have hO : nwO mode a.toNat = nrO mode (sgb a.toNat) (spM a.toNat) (spE a.toNat) := by unfold nwO; rw [hp, Bool.not_false, Bool.true_and]
          have hU : nwU mode a.toNat = (!nrO mode (sgb a.toNat) (spM a.toNat) (spE a.toNat) && nrU (spM a.toNat) (spE a.toNat)) := by unfold nwU; rw [hp, Bool.not_false, Bool.true_and]
          rw [hw, hI, hO, hU]
          exact rnarrow_finite a a0 a1 mode hm (by omega) z hn w
    · obtain ⟨h1, h2, h3, h4, h5⟩ := nz_nan mode a.toNat hm hn
      rw [h1, h2, h3, h4, h5]
      rw [hn] at hN
      exact rnarrow_nan a mode w hM hN
end Go.Proofs.YtckjmcfncfoboaaDoor
