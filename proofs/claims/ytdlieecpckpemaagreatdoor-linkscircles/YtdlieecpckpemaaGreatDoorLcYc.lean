/- The queue: nth. -/
import Derived.Test.YtdlieecpckpemaaGreatDoorLcYb
import Derived.RegionTactic
namespace Go.Proofs.YtdlieecpckpemaaGreatDoor
open Go.RowKit

/-- The counts of the places Q. -/
def Cnt (Q : Nat → Bool) (s : Nat → Int) (N : Nat) : Prop := ∀ i, 1 ≤ i → i ≤ N → s i = (Fw.cnt Q (i - Fw.lb i) i : Nat)
theorem Cnt.add {Q : Nat → Bool} {s : Nat → Int} {N p : Nat} (h : Cnt Q s N) (v : Bool) (hv : Q p = !v) : Cnt (Fw.upd Q p v) (addTo s p (if v then 1 else -1) (N + 1)) N := by
  intro i h1 h2
  have hl := Fw.lb_le i
  rw [Fw.cnt_upd Q p v hv _ _ (by omega), ← h i h1 h2]
  unfold addTo
  by_cases hc : i - Fw.lb i ≤ p ∧ p < i
  · rw [if_pos hc, if_pos ⟨by omega, hc⟩]
  · rw [if_neg hc, if_neg (fun x => hc x.2)]; omega
/-- Where a search by halves stands: j halves are left. -/
structure Seek (Q : Nat → Bool) (N n0 j p : Nat) (m : Int) : Prop where
  mult : p % 2 ^ j = 0
  le : p ≤ N
  rest : (Fw.cnt Q 0 p : Int) + m = n0
  low : 0 ≤ m
  high : p + 2 ^ j ≤ N → n0 < Fw.cnt Q 0 (p + 2 ^ j)
theorem Seek.start {Q : Nat → Bool} {N n0 L : Nat} (h : N < 2 ^ L) : Seek Q N n0 (L + 1) 0 n0 :=
  ⟨by simp, Nat.zero_le _, by rw [Fw.cnt_self]; simp, by omega, fun h2 => by rw [Nat.pow_succ] at h2; omega⟩
theorem Seek.lb {Q : Nat → Bool} {N n0 t p : Nat} {m : Int} (h : Seek Q N n0 (t + 1) p m) : Fw.lb (p + 2 ^ t) = 2 ^ t := by
  have hm := h.mult
  have : p = p / 2 ^ (t + 1) * 2 ^ (t + 1) := by
    have := Nat.div_add_mod p (2 ^ (t + 1))
    rw [hm, Nat.add_zero, Nat.mul_comm] at this
    exact this.symm
  rw [this]
  exact Fw.lb_mid t _
theorem Seek.cnt {Q : Nat → Bool} {s : Nat → Int} {N n0 t p : Nat} {m : Int} (h : Seek Q N n0 (t + 1) p m) (hs : Cnt Q s N) (hi : p + 2 ^ t ≤ N) : (Fw.cnt Q 0 p : Int) + s (p + 2 ^ t) = (Fw.cnt Q 0 (p + 2 ^ t) : Nat) := by
  have h2 := Nat.two_pow_pos t
  rw [hs _ (by omega) hi, h.lb, Nat.add_sub_cancel]
  have := Fw.cnt_add Q (a := 0) (b := p) (c := p + 2 ^ t) (by omega) (by omega)
  omega
theorem Seek.up {Q : Nat → Bool} {s : Nat → Int} {N n0 t p : Nat} {m : Int} (h : Seek Q N n0 (t + 1) p m) (hs : Cnt Q s N) (hi : p + 2 ^ t ≤ N) (hle : s (p + 2 ^ t) ≤ m) : Seek Q N n0 t (p + 2 ^ t) (m - s (p + 2 ^ t)) := by
  have hc := h.cnt hs hi
  have hr := h.rest
  refine ⟨?_, hi, by omega, by omega, fun h2 => ?_⟩
  · have hm := h.mult
    rw [Nat.add_mod_right]
    have := Nat.mod_mod_of_dvd p (Nat.pow_dvd_pow 2 (show t ≤ t + 1 by omega))
    rw [hm] at this
    simpa using this.symm
  · have := h.high (by rw [Nat.pow_succ]; omega)
    rw [show p + 2 ^ t + 2 ^ t = p + 2 ^ (t + 1) by rw [Nat.pow_succ]; omega]
    exact this
theorem Seek.stay {Q : Nat → Bool} {s : Nat → Int} {N n0 t p : Nat} {m : Int} (h : Seek Q N n0 (t + 1) p m) (hs : Cnt Q s N) (hgt : p + 2 ^ t ≤ N → m < s (p + 2 ^ t)) : Seek Q N n0 t p m := by
  refine ⟨?_, h.le, h.rest, h.low, fun h2 => ?_⟩
  · have hm := h.mult
    have := Nat.mod_mod_of_dvd p (Nat.pow_dvd_pow 2 (show t ≤ t + 1 by omega))
    rw [hm] at this
    simpa using this.symm
  · have hc := h.cnt hs h2
    have hr := h.rest
    have := hgt h2
    omega
theorem Seek.found {Q : Nat → Bool} {N n0 p : Nat} {m : Int} (h : Seek Q N n0 0 p m) (hn : n0 < Fw.cnt Q 0 N) : p < N ∧ Q p = true ∧ Fw.cnt Q 0 p = n0 := by
  have hr := h.rest
  have hl := h.low
  have hle := h.le
  have hlt : p < N := by
    rcases Nat.lt_or_ge p N with h1 | h1
    · exact h1
    · have : p = N := by omega
      subst this; omega
  have hh := h.high (by simp; omega)
  rw [Nat.pow_zero, Fw.cnt_succ Q (by omega)] at hh
  cases hq : Q p
  · rw [hq] at hh; simp at hh; omega
  · rw [hq] at hh; simp at hh; exact ⟨hlt, rfl, by omega⟩

theorem cnt_le (Q : Nat → Bool) (a b : Nat) : Fw.cnt Q a b ≤ b - a := by
  unfold Fw.cnt
  refine Nat.le_trans (List.length_filter_le _ _) ?_
  simp
/-- What holds at the head of each round of nth. -/
def NthR (Q : Nat → Bool) (N n0 : Nat) (w : World) (m p st : Value) (wr : World) : Prop :=
  ∃ (j pp : Nat) (mm : Int), p = .int .i64 (pp : Int) ∧ m = .int .i64 mm ∧ st = .int .i64 ((2 ^ j / 2 : Nat) : Int) ∧ j ≤ 41 ∧ Seek Q N n0 j pp mm ∧ ∃ d, wr = w.drewN d

set_option maxHeartbeats 2000000 in
theorem nth_at (q sb n c n0 L N : Nat) (Q : Nat → Bool) (s : Nat → Int) (w : World) (c1 : w.cell? ⟨q, 1, none⟩ = some (.slice (some ⟨sb, 0, none⟩) n c)) (hs : Blk w sb (nums s n) 3)
    (hnN : n = N + 1) (hn : n ≤ 4294967296) (hcnt : Cnt Q s N) (hn0 : n0 < Fw.cnt Q 0 N) (hs0 : ∀ j, -4294967296 ≤ s j) (hs1 : ∀ j, s j ≤ 4294967296) (hL : N < 2 ^ L) (hL40 : L ≤ 40)
    (hlen : ∀ w, Calls Tryz.prog 104 #[.int .u64 (n : Int)] w fun e w' => e = .returned (.int .i64 (L : Int)) ∧ w' = w) :
    Calls Tryz.prog 75 #[.pointer (some ⟨q, 0, none⟩), .int .i64 (n0 : Int)] w fun e w' => ∃ p : Nat, e = .returned (.int .i64 (p : Int)) ∧ (p < N ∧ Q p = true ∧ Fw.cnt Q 0 p = n0) ∧ ∃ d, w' = w.drewN d := by
  have HL : Hid (∀ w, Calls Tryz.prog 104 #[.int .u64 (n : Int)] w fun e w' => e = .returned (.int .i64 (L : Int)) ∧ w' = w) := hlen
  have HS : Hid (Blk w sb (nums s n) 3) := hs
  have HC : Hid (Cnt Q s N) := hcnt
  have HN0 : Hid (n0 < Fw.cnt Q 0 N) := hn0
  have HLN : Hid (N < 2 ^ L) := hL
  have hNn : N < n := by omega
  have HNN : Hid (n = N + 1) := hnN
  clear hlen hs hcnt hn0 hL hnN
  go_enter Tryz.func75, Tryz.ntmps75
  go_wp2_with (go_at_call 104; refine (HL.out _).mono ?_; rintro e w' ⟨rfl, rfl⟩)
  have hw2 : wrap64 (2 ^ L) = ((2 ^ L : Nat) : Int) := by
    have : 2 ^ L ≤ 2 ^ 40 := Nat.pow_le_pow_right (by omega) hL40
    have e : ((2 : Int) ^ L) = ((2 ^ L : Nat) : Int) := by push_cast; rfl
    rw [e]
    generalize 2 ^ L = y at this
    unfold wrap64; omega
  rw [hw2]
  clear hw2
  go_loopw [1, 5, 6] (fun m p st wr => NthR Q N n0 w' m p st wr) (fun _ _ st _ => (intOf st).toNat)
  case atStart => exact ⟨L + 1, 0, n0, rfl, rfl, by rw [Nat.pow_succ, Nat.mul_div_cancel _ (by omega)], by omega, Seek.start HLN.out, 0, rfl⟩
  case round =>
    obtain ⟨j, p, m, rfl, rfl, rfl, hj, hseek, d, rfl⟩ := hrel
    have HK : Hid (Seek Q N n0 j p m) := hseek
    have hp := hseek.le
    have hm0 := hseek.low
    have hm1 : m ≤ n0 := by have := hseek.rest; omega
    have hn1 : n0 ≤ 4294967296 := by
      have h1 := HN0.out
      have h2 := cnt_le Q 0 N
      omega
    clear hseek HL
    cases j with
    | zero =>
      go_wp2
      go_ret
      exact ⟨p, rfl, HK.out.found HN0.out, d, rfl⟩
    | succ t =>
      have HT : Hid (2 ^ (t + 1) / 2 = 2 ^ t) := by show _ = _; rw [Nat.pow_succ, Nat.mul_div_cancel _ (by omega)]
      have t40 : 2 ^ t ≤ 2 ^ 40 := Nat.pow_le_pow_right (by omega) (by omega)
      have t0 : 0 < 2 ^ t := Nat.two_pow_pos t
      have HU : Hid (∀ hi : p + 2 ^ t ≤ N, s (p + 2 ^ t) ≤ m → Seek Q N n0 t (p + 2 ^ t) (m - s (p + 2 ^ t))) := fun hi hle => HK.out.up HC.out hi hle
      have HD : Hid ((p + 2 ^ t ≤ N → m < s (p + 2 ^ t)) → Seek Q N n0 t p m) := fun h => HK.out.stay HC.out h
      have HB : Hid (p + 2 ^ t < n → w'.cell? ⟨sb, p + 2 ^ t, none⟩ = some (.int .i64 (s (p + 2 ^ t)))) := fun h => HS.out.cell (nums_get h)
      rw [HT.out]
      have HS2 : Hid ((2 ^ t / 2 : Nat) = 2 ^ t / 2) := rfl
      generalize hst : 2 ^ t = st at *
      have HST : Hid (2 ^ t = st) := hst
      clear hst HT HK
      have hx0 := hs0 (p + st)
      have hx1 := hs1 (p + st)
      generalize s (p + st) = x at *
      by_cases hlt : p + st < n
      · have cs := HB.out hlt
        by_cases hle : x ≤ m
        · go_wp2
          go_region
          all_goals
            go_wp2
            go_roundw
            case rel => (repeat apply Exists.intro); refine ⟨?_, rfl⟩; exact ⟨t, p + st, m - x, by go_num, rfl, by rw [HST.out]; go_num, by omega, HU.out (by have := HNN.out; omega) hle, _, rfl⟩
            case measure => simp [intOf]; omega
        · go_wp2
          go_roundw
          case rel => refine ⟨_, _, _, ?_, rfl, rfl, rfl⟩; exact ⟨t, p, m, rfl, rfl, by rw [HST.out]; go_num, by omega, HD.out (fun _ => by omega), _, rfl⟩
          case measure => simp [intOf]; omega
      · go_wp2
        go_roundw
        case rel => refine ⟨_, _, _, ?_, rfl, rfl, rfl⟩; exact ⟨t, p, m, rfl, rfl, by rw [HST.out]; go_num, by omega, HD.out (fun h => by have := HNN.out; omega), _, rfl⟩
        case measure => simp [intOf]; omega
end Go.Proofs.YtdlieecpckpemaaGreatDoor
