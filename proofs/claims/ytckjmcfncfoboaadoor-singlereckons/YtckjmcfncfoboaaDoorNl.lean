/- Left; Of. -/
import Derived.Test.YtckjmcfncfoboaaDoorNs
import Derived.Laws.ShiftsVarLaws
namespace Go.Proofs.YtckjmcfncfoboaaDoor
open Go.RowKit

def lo (f : Nat → Nat) (s i : Nat) : Nat := f i * 2 ^ s % 4294967296
def hi (f : Nat → Nat) (s i : Nat) : Nat := f i * 2 ^ s / 4294967296
/-- The digits when k of them have been moved. -/
def lf (f : Nat → Nat) (q s k j : Nat) : Nat := if j < q then 0 else (if j - q < k then lo f s (j - q) else 0) + (if 0 < j - q ∧ j - q ≤ k then hi f s (j - q - 1) else 0)
theorem lf_keep (f : Nat → Nat) (q s k j : Nat) (h : j < q + k) : lf f q s (k + 1) j = lf f q s k j := by
  unfold lf
  by_cases c : j < q
  · rw [if_pos c, if_pos c]
  · rw [if_neg c, if_neg c, if_pos (show j - q < k + 1 by omega), if_pos (show j - q < k by omega)]
    have h1 : (0 < j - q ∧ j - q ≤ k + 1) ↔ (0 < j - q ∧ j - q ≤ k) := by omega
    by_cases c2 : 0 < j - q ∧ j - q ≤ k
    · rw [if_pos c2, if_pos (h1.2 c2)]
    · rw [if_neg c2, if_neg (fun x => c2 (h1.1 x))]
theorem lf_at (f : Nat → Nat) (q s k : Nat) : lf f q s k (q + k) = (if 0 < k then hi f s (k - 1) else 0) ∧ lf f q s (k + 1) (q + k) = lo f s k + (if 0 < k then hi f s (k - 1) else 0) ∧ lf f q s k (q + k + 1) = 0 ∧ lf f q s (k + 1) (q + k + 1) = hi f s k := by
  unfold lf
  refine ⟨?_, ?_, ?_, ?_⟩
  · rw [if_neg (by omega), show q + k - q = k by omega, if_neg (Nat.lt_irrefl _), Nat.zero_add]
    by_cases c : 0 < k
    · rw [if_pos ⟨c, Nat.le_refl _⟩, if_pos c]
    · rw [if_neg (fun x => c x.1), if_neg c]
  · rw [if_neg (by omega), show q + k - q = k by omega, if_pos (by omega)]
    by_cases c : 0 < k
    · rw [if_pos ⟨c, by omega⟩, if_pos c]
    · rw [if_neg (fun x => c x.1), if_neg c]
  · rw [if_neg (by omega), show q + k + 1 - q = k + 1 by omega, if_neg (by omega), if_neg (by omega)]
  · rw [if_neg (by omega), show q + k + 1 - q = k + 1 by omega, if_neg (by omega), if_pos ⟨by omega, by omega⟩, Nat.zero_add]; rfl
theorem lf_far (f : Nat → Nat) (q s k j : Nat) (h : q + k < j) : lf f q s k j = 0 := by
  unfold lf
  rw [if_neg (by omega), if_neg (by omega), if_neg (by omega)]
theorem lf_val (f : Nat → Nat) (q s k : Nat) : fval (lf f q s k) (q + k + 1) = fval f k * 2 ^ (32 * q + s) := by
  induction k with
  | zero =>
    rw [show fval f 0 = 0 from rfl, Nat.zero_mul, fval_zero (lf f q s 0) 0 (q + 0 + 1) (Nat.zero_le _) (fun j _ hj => ?_)]
    · rfl
    · unfold lf
      by_cases c : j < q
      · rw [if_pos c]
      · rw [if_neg c, if_neg (by omega), if_neg (by omega)]
  | succ k ih =>
    obtain ⟨a1, a2, a3, a4⟩ := lf_at f q s k
    have hk := fval_congr (f := lf f q s (k + 1)) (g := lf f q s k) (q + k) (fun j hj => lf_keep f q s k j hj)
    have e : fval (lf f q s (k + 1)) (q + (k + 1) + 1) = fval (lf f q s (k + 1)) (q + k) + lf f q s (k + 1) (q + k) * 2 ^ (32 * (q + k)) + lf f q s (k + 1) (q + k + 1) * 2 ^ (32 * (q + k + 1)) := rfl
    have ih' : fval (lf f q s k) (q + k) + lf f q s k (q + k) * 2 ^ (32 * (q + k)) = fval f k * 2 ^ (32 * q + s) := ih
    rw [e, hk, a2, a4]
    rw [a1] at ih'
    have hd : hi f s k * 4294967296 + lo f s k = f k * 2 ^ s := by
      have := Nat.div_add_mod (f k * 2 ^ s) 4294967296
      unfold hi lo; omega
    have hp : 2 ^ (32 * (q + k + 1)) = 4294967296 * 2 ^ (32 * (q + k)) := by rw [show 32 * (q + k + 1) = 32 + 32 * (q + k) by omega, Nat.pow_add]
    have hp2 : f k * 2 ^ (32 * k) * 2 ^ (32 * q + s) = f k * 2 ^ s * 2 ^ (32 * (q + k)) := by
      have e2 : 2 ^ (32 * k) * 2 ^ (32 * q + s) = 2 ^ s * 2 ^ (32 * (q + k)) := by rw [← Nat.pow_add, ← Nat.pow_add, show 32 * k + (32 * q + s) = s + 32 * (q + k) by omega]
      rw [Nat.mul_assoc, e2, ← Nat.mul_assoc]
    rw [hp, fval, Nat.add_mul (fval f k), hp2, ← hd, ← ih']
    generalize 2 ^ (32 * (q + k)) = P at *
    generalize (if 0 < k then hi f s (k - 1) else 0) = Y at *
    rw [Nat.add_mul, Nat.add_mul, ← Nat.mul_assoc (hi f s k)]
    generalize hi f s k * 4294967296 * P = z1 at *
    generalize lo f s k * P = z2 at *
    generalize Y * P = z3 at *
    generalize fval (lf f q s k) (q + k) = z4 at *
    omega
theorem lo_hi (f : Nat → Nat) (s i : Nat) (hs : s ≤ 32) (h : f i < 4294967296) : lo f s i < 4294967296 ∧ lo f s i % 2 ^ s = 0 ∧ hi f s i < 2 ^ s := by
  refine ⟨Nat.mod_lt _ (by decide), ?_, ?_⟩
  · unfold lo
    have e : (4294967296 : Nat) = 2 ^ s * 2 ^ (32 - s) := by rw [← Nat.pow_add, show s + (32 - s) = 32 by omega]
    rw [Nat.mul_comm, e, Nat.mul_mod_mul_left, Nat.mul_mod_right]
  · unfold hi
    rw [Nat.div_lt_iff_lt_mul (by decide), Nat.mul_comm]
    exact Nat.mul_lt_mul_of_pos_left h (Nat.two_pow_pos s)

/-- The number of digits is that of the value. -/
theorem natAt_short {w : World} {v : Value} {N : Nat} (h : NatAt w v N) (K : Nat) (hN : N < 2 ^ (32 * K)) : ∃ (a : Option Addr) (n cap : Nat) (f : Nat → Nat), v = .slice a n cap ∧ n ≤ cap ∧ (0 < n → ∃ b o, a = some ⟨b, o, none⟩ ∧ Dg w b o n f) ∧ (0 < n → f (n - 1) ≠ 0) ∧ fval f n = N ∧ n < 1000000 ∧ n ≤ K := by
  obtain ⟨a, n, cap, f, e, hc, hd, hl, hv, hs⟩ := h
  refine ⟨a, n, cap, f, e, hc, hd, hl, hv, hs, ?_⟩
  rcases Nat.lt_or_ge K n with c | c
  · obtain ⟨k, rfl⟩ : ∃ k, n = k + 1 := ⟨n - 1, by omega⟩
    have h1 : f k ≠ 0 := hl (by omega)
    have h2 : 1 * 2 ^ (32 * k) ≤ f k * 2 ^ (32 * k) := Nat.mul_le_mul_right _ (by omega)
    have h3 : 2 ^ (32 * K) ≤ 2 ^ (32 * k) := Nat.pow_le_pow_right (by decide) (by omega)
    have h4 : fval f (k + 1) = fval f k + f k * 2 ^ (32 * k) := rfl
    omega
  · exact c

set_option maxHeartbeats 2000000 in
theorem left_core (b o n cap q s : Nat) (N : Int) (f : Nat → Nat) (hn0 : 0 < n) (hn1 : n < 100000) (hq : q < 100000) (hs : s < 32) (hN : N = 32 * q + s) (w : World) (hd : Hid (Dg w b o n f)) :
    Calls Tryd.prog 60 #[.slice (some ⟨b, o, none⟩) n cap, .int .i64 N] w fun e w' => (∃ v, e = .returned v ∧ NatAt w' v (fval f n * 2 ^ (32 * q + s))) ∧ Gr w w' := by
  have hq' : N / 32 = q := by omega
  have hs' : N % 32 = s := by omega
  have hN0 : 0 ≤ N := by omega
  have hN1 : N < 100000000 := by omega
  have M : ∀ w, (Instr.makeSlice 93 (.int .i64 ((n : Int) + N / 32 + 1)) (.int .i64 ((n : Int) + N / 32 + 1))).run Tryd.prog w = .ok (.slice (some ⟨w.heap.size, 0, none⟩) (n + q + 1) (n + q + 1)) (w.alloc (.cells (madeCells #[.int .u32 0] (n + q + 1)) 22)) := by
    rw [hq']; exact fun w => make_nat (n + q + 1) (by omega) w
  have HQ : Hid (N / 32 = q) := hq'
  have HS : Hid (N % 32 = s) := hs'
  clear hq' hs' hN
  have hne : ((n : Int) == 0) = false := by rw [beq_eq_false_iff_ne]; omega
  go_enter Tryd.func60, Tryd.ntmps60
  go_wp2
  go_loopw [6] (fun i wr => ∃ k : Nat, k ≤ n ∧ i = .int .i64 k ∧ Gr w wr ∧ Own wr w.heap.size (n + q + 1) (lf f q s k)) (fun i _ => n - (intOf i).toNat)
  case atStart =>
    refine ⟨0, by omega, rfl, (Gr.refl w).alloc _ _, (made_own w (n + q + 1)).congr (fun j _ => ?_)⟩
    unfold lf
    by_cases c : j < q
    · rw [if_pos c]
    · rw [if_neg c, if_neg (by omega), if_neg (by omega)]
  case round =>
    obtain ⟨k, hk, rfl, hg, ho⟩ := hrel
    have HG : Hid (Gr w wr) := hg
    have HO : Hid (Own wr w.heap.size (n + q + 1) (lf f q s k)) := ho
    clear hg ho
    by_cases hlt : k < n
    · have c1 : wr.cell? ⟨b, o + k, none⟩ = some (.int .u32 (f k : Nat)) := ((hd.out.gr HG.out) k hlt).1
      have c3 : wr.cell? ⟨w.heap.size, k + q, none⟩ = some (.int .u32 (lf f q s k (k + q) : Nat)) := (HO.out (k + q) (by omega)).1
      have c4 : wr.frozen? ⟨w.heap.size, k + q, none⟩ = false := (HO.out (k + q) (by omega)).2.1
      have hfk := (hd.out k hlt).2
      obtain ⟨l1, l2, l3, l4⟩ := lf_at f q s k
      obtain ⟨p1, p2, p3⟩ := lo_hi f s k (by omega) hfk
      have hpow : 2 ^ s ≤ 4294967296 := by
        rw [show (4294967296 : Nat) = 2 ^ 32 from rfl]
        exact Nat.pow_le_pow_right (by decide) (by omega)
      have hx64 : f k * 2 ^ s < 18446744073709551616 := by
        have := Nat.mul_le_mul (Nat.le_of_lt hfk) hpow
        have h2 : f k * 2 ^ s < 4294967296 * 2 ^ s := Nat.mul_lt_mul_of_pos_right hfk (Nat.two_pow_pos s)
        have h3 : 4294967296 * 2 ^ s ≤ 4294967296 * 4294967296 := Nat.mul_le_mul_left _ hpow
        omega
      -- what stands there already lies below what is put in
      have hV1 : lf f q s k (k + q) < 2 ^ s := by
        rw [Nat.add_comm k q, l1]
        split
        · exact (lo_hi f s (k - 1) (by omega) (hd.out (k - 1) (by omega)).2).2.2
        · exact Nat.two_pow_pos s
      have HX : Hid (IntKind.u64.wrap ((f k : Int) * 2 ^ s) = ((f k * 2 ^ s : Nat) : Int)) := by
        show _ = _
        have e : (f k : Int) * 2 ^ s = ((f k * 2 ^ s : Nat) : Int) := by rw [Int.natCast_mul, Int.natCast_pow]; rfl
        rw [e, IntKind.wrap_u64]; omega
      have HO1 : Hid (bits .or .u32 ((lf f q s k (k + q) : Nat) : Int) (((f k * 2 ^ s : Nat) : Int) % 4294967296) = ((lf f q s (k + 1) (k + q) : Nat) : Int)) := by
        show _ = _
        have e : ((f k * 2 ^ s : Nat) : Int) % 4294967296 = ((lo f s k : Nat) : Int) := by unfold lo; omega
        rw [e, u32_or_nat _ _ (by omega) p1, Nat.or_comm, nat_join s _ _ p2 hV1, Nat.add_comm k q, l2, l1]
      have hL1 : lf f q s (k + 1) (k + q) < 4294967296 := by
        rw [Nat.add_comm k q, l2, ← l1]
        have h5 := hV1
        rw [Nat.add_comm k q] at h5
        -- a multiple of 2^s below 2^32, and less than 2^s more
        have e : (4294967296 : Nat) = 2 ^ s * 2 ^ (32 - s) := by rw [← Nat.pow_add, show s + (32 - s) = 32 by omega]
        have hq1 : lo f s k / 2 ^ s < 2 ^ (32 - s) := by
          rw [Nat.div_lt_iff_lt_mul (Nat.two_pow_pos s), Nat.mul_comm, ← e]; exact p1
        have hq2 : lo f s k = 2 ^ s * (lo f s k / 2 ^ s) := by
          have := Nat.div_add_mod (lo f s k) (2 ^ s)
          rw [p2] at this
          omega
        have hq3 : 2 ^ s * (lo f s k / 2 ^ s + 1) ≤ 2 ^ s * 2 ^ (32 - s) := Nat.mul_le_mul_left _ hq1
        rw [Nat.mul_add, Nat.mul_one, ← hq2, ← e] at hq3
        omega
      have HO2 : Hid (bits .or .u32 0 (((f k * 2 ^ s : Nat) : Int) / 4294967296) = ((hi f s k : Nat) : Int)) := by
        show _ = _
        have e : ((f k * 2 ^ s : Nat) : Int) / 4294967296 = ((hi f s k : Nat) : Int) := by unfold hi; omega
        have := u32_or_nat 0 (hi f s k) (by decide) (by omega)
        rw [Nat.zero_or] at this
        rw [e]; exact this
      have hhi : hi f s k < 4294967296 := by omega
      have HB1 : Hid (((f k * 2 ^ s : Nat) : Int) / 4294967296 < 4294967296) := by show _ < _; omega
      have HOw1 : Hid (Own (wr.setCell ⟨w.heap.size, k + q, none⟩ (.int .u32 ((lf f q s (k + 1) (k + q) : Nat) : Int))) w.heap.size (n + q + 1) (fun j => if j = k + q then lf f q s (k + 1) (k + q) else lf f q s k j)) := HO.out.put (k + q) _ (by omega) hL1
      have C8 : (wr.setCell ⟨w.heap.size, k + q, none⟩ (.int .u32 ((lf f q s (k + 1) (k + q) : Nat) : Int))).cell? ⟨w.heap.size, k + q + 1, none⟩ = some (.int .u32 0) := by
        have h1 := (HOw1.out (k + q + 1) (by omega)).1
        have h2 : (if k + q + 1 = k + q then lf f q s (k + 1) (k + q) else lf f q s k (k + q + 1)) = 0 := by rw [if_neg (by omega), Nat.add_comm k q, l3]
        simp only [h2] at h1
        exact h1
      have C9 : (wr.setCell ⟨w.heap.size, k + q, none⟩ (.int .u32 ((lf f q s (k + 1) (k + q) : Nat) : Int))).frozen? ⟨w.heap.size, k + q + 1, none⟩ = false := (HOw1.out (k + q + 1) (by omega)).2.1
      have HOw2 : Hid (Own ((wr.setCell ⟨w.heap.size, k + q, none⟩ (.int .u32 ((lf f q s (k + 1) (k + q) : Nat) : Int))).setCell ⟨w.heap.size, k + q + 1, none⟩ (.int .u32 ((hi f s k : Nat) : Int))) w.heap.size (n + q + 1) (lf f q s (k + 1))) := by
        refine (HOw1.out.put (k + q + 1) (hi f s k) (by omega) hhi).congr fun j hj => ?_
        show (if j = k + q + 1 then hi f s k else if j = k + q then lf f q s (k + 1) (k + q) else lf f q s k j) = lf f q s (k + 1) j
        by_cases e1 : j = k + q + 1
        · rw [if_pos e1, e1, Nat.add_comm k q, l4]
        · rw [if_neg e1]
          by_cases e2 : j = k + q
          · rw [if_pos e2, e2]
          · rw [if_neg e2]
            by_cases e3 : j < q + k
            · rw [lf_keep f q s k j e3]
            · rw [lf_far f q s k j (by omega), lf_far f q s (k + 1) j (by omega)]
      have HGs : Hid (∀ u v, Gr w ((wr.setCell ⟨w.heap.size, k + q, none⟩ u).setCell ⟨w.heap.size, k + q + 1, none⟩ v)) := fun u v => (HG.out.setCell _ _ (Nat.le_refl _)).setCell _ _ (Nat.le_refl _)
      clear l1 l2 l3 l4 p1 p2 p3 hpow hV1
      generalize f k * 2 ^ s = x at *
      generalize lf f q s k (k + q) = V1 at *
      generalize lf f q s (k + 1) (k + q) = V2 at *
      generalize hi f s k = V3 at *
      go_wp2_with (first | (simp only [HQ.out]) | (simp only [HS.out]) | (simp only [HX.out]) | (simp only [HO1.out]) | (simp only [HO2.out]))
      go_roundw
      case rel => exact ⟨k + 1, by omega, by go_num, HGs.out _ _, HOw2.out⟩
      case measure => simp [intOf]; omega
    · have hkn : k = n := by omega
      subst hkn
      have HD : Hid (0 < k + q + 1 → ∃ b o, some (⟨w.heap.size, 0, none⟩ : Addr) = some ⟨b, o, none⟩ ∧ Dg wr b o (k + q + 1) (lf f q s k)) := fun _ => ⟨_, _, rfl, HO.out.dg⟩
      have HV : Hid (fval (lf f q s k) (k + q + 1) = fval f k * 2 ^ (32 * q + s)) := by
        show _ = _
        rw [← lf_val f q s k, Nat.add_comm k q]
      go_wp2_with (go_at_call 88; refine (trim_any _ (k + q + 1) (k + q + 1) (lf f q s k) (Nat.le_refl _) (by omega) _ HD.out).mono ?_; rintro e w' ⟨⟨v, rfl, hv⟩, rfl⟩)
      go_ret
      exact ⟨⟨v, rfl, by rw [← HV.out]; exact hv⟩, HG.out⟩

set_option maxHeartbeats 400000 in
theorem left_nil (a : Option Addr) (cap : Nat) (N : Int) (w : World) :
    Calls Tryd.prog 60 #[.slice a 0 cap, .int .i64 N] w fun e w' => (∃ v, e = .returned v ∧ NatAt w' v 0) ∧ Gr w w' := by
  go_enter Tryd.func60, Tryd.ntmps60
  go_wp2
  go_ret
  exact ⟨⟨_, rfl, natAt_nil _ _ _⟩, by (repeat (first | exact Gr.refl _ | refine Gr.alloc ?_ _ _))⟩

/-- So many digits at most. -/
def kk : Nat := 50000
theorem left_any (v : Value) (A n : Nat) (N : Int) (hN : N = (n : Int)) (hn : n < 3000000) (hA : A < 2 ^ (32 * kk)) (w : World) (h : NatAt w v A) :
    Calls Tryd.prog 60 #[v, .int .i64 N] w fun e w' => (∃ u, e = .returned u ∧ NatAt w' u (A * 2 ^ n)) ∧ Gr w w' := by
  obtain ⟨a, m, cap, f, rfl, _, hd, hl, rfl, _, hm⟩ := natAt_short h kk hA
  by_cases h0 : m = 0
  · subst h0
    have := left_nil a cap N w
    rw [show fval f 0 = 0 from rfl, Nat.zero_mul]
    exact this
  · obtain ⟨b, o, rfl, d⟩ := hd (by omega)
    unfold kk at hm
    have := left_core b o m cap (n / 32) (n % 32) N f (by omega) (by omega) (by omega) (by omega) (by omega) w d
    rwa [show 32 * (n / 32) + n % 32 = n by omega] at this

def two (n j : Nat) : Nat := if j = 0 then n % 4294967296 else n / 4294967296
theorem two_val (n : Nat) : fval (two n) 2 = n := by
  show 0 + (if 0 = 0 then n % 4294967296 else n / 4294967296) * 2 ^ (32 * 0) + (if 1 = 0 then n % 4294967296 else n / 4294967296) * 2 ^ (32 * 1) = n
  rw [if_pos rfl, if_neg (by decide), show (2 : Nat) ^ (32 * 0) = 1 from rfl, show (2 : Nat) ^ (32 * 1) = 4294967296 from rfl]
  omega
theorem two_dg (n : Nat) (hn : n < 18446744073709551616) (w : World) : Dg (w.alloc (.cells #[.int .u32 ((n : Int) % 4294967296), .int .u32 ((n : Int) / 4294967296)] 22)) w.heap.size 0 2 (two n) := by
  intro j hj
  rw [Nat.zero_add, World.cell?_alloc_at _ _ _ _ rfl]
  rcases (show j = 0 ∨ j = 1 by omega) with rfl | rfl
  · refine ⟨?_, ?_⟩
    · show some (Value.int .u32 ((n : Int) % 4294967296)) = some (Value.int .u32 ((n % 4294967296 : Nat) : Int))
      rw [show ((n % 4294967296 : Nat) : Int) = (n : Int) % 4294967296 by omega]
    · show n % 4294967296 < 4294967296
      omega
  · refine ⟨?_, ?_⟩
    · show some (Value.int .u32 ((n : Int) / 4294967296)) = some (Value.int .u32 ((n / 4294967296 : Nat) : Int))
      rw [show ((n / 4294967296 : Nat) : Int) = (n : Int) / 4294967296 by omega]
    · show n / 4294967296 < 4294967296
      omega

set_option maxHeartbeats 1000000 in
theorem of_any (n : Nat) (hn : n < 18446744073709551616) (w : World) :
    Calls Tryd.prog 57 #[.int .u64 (n : Int)] w fun e w' => (∃ v, e = .returned v ∧ NatAt w' v n) ∧ Gr w w' := by
  have HD : Hid (0 < 2 → ∃ b o, some (⟨w.heap.size, 0, none⟩ : Addr) = some ⟨b, o, none⟩ ∧ Dg (w.alloc (.cells #[.int .u32 ((n : Int) % 4294967296), .int .u32 ((n : Int) / 4294967296)] 22)) b o 2 (two n)) := fun _ => ⟨_, _, rfl, two_dg n hn w⟩
  have HV : Hid (fval (two n) 2 = n) := two_val n
  go_enter Tryd.func57, Tryd.ntmps57
  go_wp2_with (go_at_call 88; refine (trim_any _ 2 2 (two n) (Nat.le_refl _) (by omega) _ HD.out).mono ?_; rintro e w' ⟨⟨v, rfl, hv⟩, rfl⟩)
  go_ret
  exact ⟨⟨v, rfl, by have := hv; rwa [HV.out] at this⟩, (Gr.refl _).alloc _ _⟩
end Go.Proofs.YtckjmcfncfoboaaDoor
