/- Sub. -/
import Derived.Test.YtckjmcfncfoboaaDoorNm
namespace Go.Proofs.YtckjmcfncfoboaaDoor
open Go.RowKit

/-- What is borrowed ahead of place k; the digits of the difference. -/
def br (f g : Nat → Nat) : Nat → Nat
  | 0 => 0
  | k + 1 => if f k < g k + br f g k then 1 else 0
def sd (f g : Nat → Nat) (k : Nat) : Nat := f k + br f g (k + 1) * 4294967296 - br f g k - g k
theorem br_le (f g : Nat → Nat) (k : Nat) : br f g k ≤ 1 := by
  cases k with
  | zero => exact Nat.zero_le _
  | succ k => unfold br; split <;> omega
theorem sd_val (f g : Nat → Nat) (k : Nat) (hf : ∀ j, j < k → f j < 4294967296) (hg : ∀ j, j < k → g j < 4294967296) : fval f k + br f g k * 2 ^ (32 * k) = fval (sd f g) k + fval g k ∧ ∀ j, j < k → sd f g j < 4294967296 := by
  induction k with
  | zero => exact ⟨rfl, fun j hj => by omega⟩
  | succ k ih =>
    obtain ⟨i1, i2⟩ := ih (fun j hj => hf j (by omega)) (fun j hj => hg j (by omega))
    have h1 := hf k (by omega)
    have h2 := hg k (by omega)
    have h3 := br_le f g k
    have hp : 2 ^ (32 * (k + 1)) = 4294967296 * 2 ^ (32 * k) := by rw [show 32 * (k + 1) = 32 + 32 * k by omega, Nat.pow_add]
    have hb : br f g (k + 1) = if f k < g k + br f g k then 1 else 0 := rfl
    have hs : sd f g k = f k + br f g (k + 1) * 4294967296 - br f g k - g k := rfl
    have key : f k + br f g (k + 1) * 4294967296 = sd f g k + br f g k + g k ∧ sd f g k < 4294967296 := by
      rw [hs, hb]
      split <;> omega
    refine ⟨?_, fun j hj => ?_⟩
    · rw [fval, fval, fval, hp]
      generalize 2 ^ (32 * k) = P at *
      have e := congrArg (· * P) key.1
      simp only [Nat.add_mul] at e
      have e4 : br f g (k + 1) * (4294967296 * P) = br f g (k + 1) * 4294967296 * P := (Nat.mul_assoc _ _ _).symm
      rw [e4]
      omega
    · by_cases c : j = k
      · rw [c]; exact key.2
      · exact i2 j (by omega)
theorem sd_sub (f g : Nat → Nat) (n : Nat) (hf : ∀ j, j < n → f j < 4294967296) (hg : ∀ j, j < n → g j < 4294967296) (hle : fval g n ≤ fval f n) : fval (sd f g) n = fval f n - fval g n := by
  obtain ⟨h1, h2⟩ := sd_val f g n hf hg
  have h3 := fval_lt (sd f g) n h2
  have h4 := br_le f g n
  rcases Nat.lt_or_ge 0 (br f g n) with c | c
  · have : br f g n = 1 := by omega
    rw [this, Nat.one_mul] at h1
    omega
  · have : br f g n = 0 := by omega
    rw [this, Nat.zero_mul] at h1
    omega
/-- A number's digits, and noughts behind them. -/
def ext (g : Nat → Nat) (m j : Nat) : Nat := if j < m then g j else 0
theorem ext_val (g : Nat → Nat) (m n : Nat) (h : m ≤ n) : fval (ext g m) n = fval g m := by
  rw [fval_zero (ext g m) m n h (fun j h1 _ => if_neg (by omega))]
  exact fval_congr m (fun j hj => if_pos hj)
theorem ext_lt (g : Nat → Nat) (m j : Nat) (h : j < m → g j < 4294967296) : ext g m j < 4294967296 := by
  unfold ext; split
  · exact h ‹_›
  · decide

set_option maxHeartbeats 2000000 in
theorem sub_core (a c : Option Addr) (b o b' o' n m cap cap' : Nat) (f g : Nat → Nat) (ha : 0 < n → a = some ⟨b, o, none⟩) (hc : 0 < m → c = some ⟨b', o', none⟩) (hn1 : n < 1000000) (hmn : m ≤ n) (w : World) (hd : Hid (Dg w b o n f)) (hd' : Hid (Dg w b' o' m g)) (hle : Hid (fval g m ≤ fval f n)) :
    Calls Tryd.prog 64 #[.slice a n cap, .slice c m cap'] w fun e w' => (∃ v, e = .returned v ∧ NatAt w' v (fval f n - fval g m)) ∧ Gr w w' := by
  have HA : Hid (0 < n → a = some ⟨b, o, none⟩) := ha
  have HC : Hid (0 < m → c = some ⟨b', o', none⟩) := hc
  have M := make_nat n (by omega)
  clear ha hc
  go_enter Tryd.func64, Tryd.ntmps64
  go_wp2
  go_loopw [6, 7] (fun s i wr => ∃ k : Nat, k ≤ n ∧ s = .int .i64 (br f (ext g m) k : Nat) ∧ i = .int .i64 k ∧ Gr w wr ∧ Own wr w.heap.size n (fun j => if j < k then sd f (ext g m) j else 0)) (fun _ i _ => n - (intOf i).toNat)
  case atStart => exact ⟨0, by omega, rfl, rfl, (Gr.refl w).alloc _ _, (made_own w n).congr (fun j _ => by rw [if_neg (by omega)])⟩
  case round =>
    obtain ⟨k, hk, rfl, rfl, hg, ho⟩ := hrel
    have HG : Hid (Gr w wr) := hg
    have HO : Hid (Own wr w.heap.size n (fun j => if j < k then sd f (ext g m) j else 0)) := ho
    clear hg ho
    by_cases hlt : k < n
    · obtain rfl := HA.out (by omega)
      have c1 : wr.cell? ⟨b, o + k, none⟩ = some (.int .u32 (f k : Nat)) := ((hd.out.gr HG.out) k hlt).1
      have c3 : wr.cell? ⟨w.heap.size, k, none⟩ = some (.int .u32 0) := by
        have h1 := (HO.out k hlt).1
        have h2 : (if k < k then sd f (ext g m) k else 0) = 0 := if_neg (Nat.lt_irrefl _)
        simp only [h2] at h1
        exact h1
      have c4 : wr.frozen? ⟨w.heap.size, k, none⟩ = false := (HO.out k hlt).2.1
      have HG1 : Hid (∀ v, Gr w (wr.setCell ⟨w.heap.size, k, none⟩ v)) := fun v => HG.out.setCell _ _ (Nat.le_refl _)
      have hfk := (hd.out k hlt).2
      have hbk := br_le f (ext g m) k
      have hgk : ext g m k < 4294967296 := ext_lt g m k (fun h => (hd'.out k h).2)
      have HB1 : Hid (br f (ext g m) (k + 1) = if f k < ext g m k + br f (ext g m) k then 1 else 0) := rfl
      have hsd : sd f (ext g m) k = f k + br f (ext g m) (k + 1) * 4294967296 - br f (ext g m) k - ext g m k := rfl
      have hsl : Hid (sd f (ext g m) k < 4294967296) := by
        show _ < _
        rw [hsd, HB1.out]
        split <;> omega
      have HMore : Hid (∀ x : Int, x = (sd f (ext g m) k : Int) → Own (wr.setCell ⟨w.heap.size, k, none⟩ (.int .u32 x)) w.heap.size n (fun j => if j < k + 1 then sd f (ext g m) j else 0)) := fun x hx => Own.more k HO.out x hx hlt hsl.out
      have HSD : Hid (sd f (ext g m) k = f k + br f (ext g m) (k + 1) * 4294967296 - br f (ext g m) k - ext g m k) := hsd
      clear hsd
      have HEx : Hid (ext g m k = if k < m then g k else 0) := rfl
      by_cases hkm : k < m
      · obtain rfl := HC.out (by omega)
        have c2 : wr.cell? ⟨b', o' + k, none⟩ = some (.int .u32 (g k : Nat)) := ((hd'.out.gr HG.out) k hkm).1
        have hex : ext g m k = g k := by rw [HEx.out, if_pos hkm]
        rw [hex] at hgk
        have HE : Hid (ext g m k = g k) := hex
        clear hex
        by_cases hbo : f k < g k + br f (ext g m) k
        · have hb2 : Hid (br f (ext g m) (k + 1) = 1) := by show _ = _; rw [HB1.out, HE.out, if_pos hbo]
          have HS2 : Hid (sd f (ext g m) k = f k + 4294967296 - br f (ext g m) k - g k) := by show _ = _; rw [HSD.out, hb2.out, HE.out, Nat.one_mul]
          generalize br f (ext g m) k = B at *
          have hbo' : (f k : Int) - B - g k < 0 := by omega
          go_wp2
          go_roundw
          case rel => exact ⟨k + 1, by omega, by rw [hb2.out]; rfl, by go_num, HG1.out _, HMore.out _ (by rw [HS2.out]; omega)⟩
          case measure => simp [intOf]; omega
        · have hb2 : Hid (br f (ext g m) (k + 1) = 0) := by show _ = _; rw [HB1.out, HE.out, if_neg hbo]
          have HS2 : Hid (sd f (ext g m) k = f k - br f (ext g m) k - g k) := by show _ = _; rw [HSD.out, hb2.out, HE.out, Nat.zero_mul, Nat.add_zero]
          generalize br f (ext g m) k = B at *
          have hbo' : 0 ≤ (f k : Int) - B - g k := by omega
          go_wp2
          go_roundw
          case rel => exact ⟨k + 1, by omega, by rw [hb2.out]; rfl, by go_num, HG1.out _, HMore.out _ (by rw [HS2.out]; omega)⟩
          case measure => simp [intOf]; omega
      · have hex : ext g m k = 0 := by rw [HEx.out, if_neg hkm]
        clear hgk
        have HE : Hid (ext g m k = 0) := hex
        clear hex
        by_cases hbo : f k < br f (ext g m) k
        · have hb2 : Hid (br f (ext g m) (k + 1) = 1) := by show _ = _; rw [HB1.out, HE.out, if_pos (by omega)]
          have HS2 : Hid (sd f (ext g m) k = f k + 4294967296 - br f (ext g m) k) := by show _ = _; rw [HSD.out, hb2.out, HE.out, Nat.one_mul, Nat.sub_zero]
          generalize br f (ext g m) k = B at *
          have hbo' : (f k : Int) - B < 0 := by omega
          go_wp2
          go_roundw
          case rel => exact ⟨k + 1, by omega, by rw [hb2.out]; rfl, by go_num, HG1.out _, HMore.out _ (by rw [HS2.out]; omega)⟩
          case measure => simp [intOf]; omega
        · have hb2 : Hid (br f (ext g m) (k + 1) = 0) := by show _ = _; rw [HB1.out, HE.out, if_neg (by omega)]
          have HS2 : Hid (sd f (ext g m) k = f k - br f (ext g m) k) := by show _ = _; rw [HSD.out, hb2.out, HE.out, Nat.zero_mul, Nat.add_zero, Nat.sub_zero]
          generalize br f (ext g m) k = B at *
          have hbo' : 0 ≤ (f k : Int) - B := by omega
          go_wp2
          go_roundw
          case rel => exact ⟨k + 1, by omega, by rw [hb2.out]; rfl, by go_num, HG1.out _, HMore.out _ (by rw [HS2.out]; omega)⟩
          case measure => simp [intOf]; omega
    · have hkn : k = n := by omega
      subst hkn
      have HD : Hid (0 < k → ∃ b o, some (⟨w.heap.size, 0, none⟩ : Addr) = some ⟨b, o, none⟩ ∧ Dg wr b o k (sd f (ext g m))) := fun _ => ⟨_, _, rfl, (HO.out.congr (fun j hj => if_pos hj)).dg⟩
      have HV : Hid (fval (sd f (ext g m)) k = fval f k - fval g m) := by
        show _ = _
        rw [sd_sub f (ext g m) k (fun j hj => (hd.out j hj).2) (fun j _ => ext_lt g m j (fun h => (hd'.out j h).2)) (by rw [ext_val g m k hmn]; exact hle.out), ext_val g m k hmn]
      go_wp2_with (go_at_call 88; refine (trim_any _ k k (sd f (ext g m)) (Nat.le_refl _) (by omega) _ HD.out).mono ?_; rintro e w' ⟨⟨v, rfl, hv⟩, rfl⟩)
      go_ret
      exact ⟨⟨v, rfl, by rw [← HV.out]; exact hv⟩, HG.out⟩

theorem sub_any (u v : Value) (A B : Nat) (hle : B ≤ A) (w : World) (h : NatAt w u A) (h' : NatAt w v B) :
    Calls Tryd.prog 64 #[u, v] w fun e w' => (∃ x, e = .returned x ∧ NatAt w' x (A - B)) ∧ Gr w w' := by
  obtain ⟨a, n, cap, f, rfl, _, hd, hl, rfl, hs⟩ := h
  obtain ⟨c, m, cap', g, rfl, _, hd', hl', rfl, hs'⟩ := h'
  have hmn : m ≤ n := by
    rcases Nat.lt_or_ge n m with q | q
    · have hf : ∀ j, j < n → f j < 4294967296 := fun j hj => by
        obtain ⟨b, o, _, d⟩ := hd (by omega)
        exact (d j hj).2
      have := fval_short f g n m q hf (hl' (by omega))
      omega
    · exact q
  by_cases h0 : n = 0
  · subst h0
    have hm0 : m = 0 := by omega
    subst hm0
    exact sub_core a c 0 0 0 0 0 0 cap cap' f g (fun c => by omega) (fun c => by omega) hs hmn w (fun j hj => by omega) (fun j hj => by omega) hle
  · obtain ⟨b, o, rfl, d⟩ := hd (by omega)
    by_cases h1 : m = 0
    · subst h1
      exact sub_core _ c b o 0 0 n 0 cap cap' f g (fun _ => rfl) (fun c => by omega) hs hmn w d (fun j hj => by omega) hle
    · obtain ⟨b', o', rfl, d'⟩ := hd' (by omega)
      exact sub_core _ _ b o b' o' n m cap cap' f g (fun _ => rfl) (fun _ => rfl) hs hmn w d d' hle
end Go.Proofs.YtckjmcfncfoboaaDoor
