/- Naturals' sum and product; the document's Add and Mul of two singles by what they call; what the sum and the product of two singles are. -/
import Derived.Test.YtckjmcfncfoboaaDoorNl
import Derived.Test.YtckjmcfncfoboaaDoorNf
import Derived.Deep.RegionWith
import Derived.Test.YtckjmcfncfoboaaDoorKd
namespace Go.Proofs.YtckjmcfncfoboaaDoor
open Go.RowKit

/-- What is carried ahead of place k; the digits of the sum. -/
def ca (f g : Nat → Nat) : Nat → Nat
  | 0 => 0
  | k + 1 => (f k + g k + ca f g k) / 4294967296
def ad (f g : Nat → Nat) (k : Nat) : Nat := (f k + g k + ca f g k) % 4294967296
theorem ca_le (f g : Nat → Nat) (k : Nat) (hf : ∀ j, j < k → f j < 4294967296) (hg : ∀ j, j < k → g j < 4294967296) : ca f g k ≤ 1 := by
  induction k with
  | zero => exact Nat.zero_le _
  | succ k ih =>
    have i := ih (fun j hj => hf j (by omega)) (fun j hj => hg j (by omega))
    have h1 := hf k (by omega)
    have h2 := hg k (by omega)
    show (f k + g k + ca f g k) / 4294967296 ≤ 1
    omega
theorem ad_val (f g : Nat → Nat) (k : Nat) : fval f k + fval g k = fval (ad f g) k + ca f g k * 2 ^ (32 * k) := by
  induction k with
  | zero => rfl
  | succ k ih =>
    have hp : 2 ^ (32 * (k + 1)) = 4294967296 * 2 ^ (32 * k) := by rw [show 32 * (k + 1) = 32 + 32 * k by omega, Nat.pow_add]
    have hc : ca f g (k + 1) = (f k + g k + ca f g k) / 4294967296 := rfl
    have hs : ad f g k = (f k + g k + ca f g k) % 4294967296 := rfl
    have key : f k + g k + ca f g k = ad f g k + ca f g (k + 1) * 4294967296 := by rw [hs, hc]; omega
    rw [fval, fval, fval, hp]
    generalize 2 ^ (32 * k) = P at *
    have e := congrArg (· * P) key
    simp only [Nat.add_mul] at e
    have e4 : ca f g (k + 1) * (4294967296 * P) = ca f g (k + 1) * 4294967296 * P := (Nat.mul_assoc _ _ _).symm
    rw [e4]
    omega
/-- The digits of the sum, and the carry behind them. -/
def ac (f g : Nat → Nat) (n k : Nat) : Nat := if k < n then ad f g k else ca f g n
theorem ac_val (f g : Nat → Nat) (n : Nat) : fval (ac f g n) (n + 1) = fval f n + fval g n := by
  have e : fval (ac f g n) n = fval (ad f g) n := fval_congr n (fun j hj => if_pos hj)
  rw [ad_val f g n, fval, e]
  have : ac f g n n = ca f g n := if_neg (Nat.lt_irrefl _)
  rw [this]

set_option maxHeartbeats 2000000 in
theorem nadd_lt (a c : Option Addr) (b o b' o' n m cap cap' : Nat) (f g : Nat → Nat) (ha : 0 < n → a = some ⟨b, o, none⟩) (hc : 0 < m → c = some ⟨b', o', none⟩) (hn1 : n < 500000) (hm1 : m < 500000) (hx : n < m) (w : World) (hd : Hid (Dg w b o n f)) (hd' : Hid (Dg w b' o' m g)) :
    Calls Tryd.prog 61 #[.slice a n cap, .slice c m cap'] w fun e w' => (∃ v, e = .returned v ∧ NatAt w' v (fval f n + fval g m)) ∧ Gr w w' := by
  have HA : Hid (0 < n → a = some ⟨b, o, none⟩) := ha
  have HC : Hid (0 < m → c = some ⟨b', o', none⟩) := hc
  have hxn : n ≤ m := by omega
  have hxm : m ≤ m := by omega
  have M : ∀ w, (Instr.makeSlice 93 (.int .i64 ((m : Int) + 1)) (.int .i64 ((m : Int) + 1))).run Tryd.prog w = .ok (.slice (some ⟨w.heap.size, 0, none⟩) (m + 1) (m + 1)) (w.alloc (.cells (madeCells #[.int .u32 0] (m + 1)) 22)) := fun w => make_nat (m + 1) (by omega) w
  have hF : Hid (∀ j, ext f n j < 4294967296) := fun j => ext_lt f n j (fun h => (hd.out j h).2)
  have hG : Hid (∀ j, ext g m j < 4294967296) := fun j => ext_lt g m j (fun h => (hd'.out j h).2)
  have HV : Hid (fval (ac (ext f n) (ext g m) m) (m + 1) = fval f n + fval g m) := by
    show _ = _
    rw [ac_val, ext_val f n m hxn, ext_val g m m hxm]
  have hCA : Hid (∀ k, ca (ext f n) (ext g m) k ≤ 1) := fun k => ca_le _ _ k (fun j _ => hF.out j) (fun j _ => hG.out j)
  have hACl : Hid (∀ k, ac (ext f n) (ext g m) m k < 4294967296) := fun k => by
    unfold ac
    split
    · exact Nat.mod_lt _ (by decide)
    · have := hCA.out m; omega
  clear ha hc
  go_enter Tryd.func61, Tryd.ntmps61
  go_wp2
  go_loopw [7, 8] (fun s i wr => ∃ k : Nat, k ≤ m ∧ s = .int .u64 (ca (ext f n) (ext g m) k : Nat) ∧ i = .int .i64 k ∧ Gr w wr ∧ Own wr w.heap.size (m + 1) (fun j => if j < k then ac (ext f n) (ext g m) m j else 0)) (fun _ i _ => m - (intOf i).toNat)
  case atStart => exact ⟨0, by omega, rfl, rfl, (Gr.refl w).alloc _ _, (made_own w (m + 1)).congr (fun j _ => by rw [if_neg (by omega)])⟩
  case round =>
    obtain ⟨k, hk, rfl, rfl, hg, ho⟩ := hrel
    have HG : Hid (Gr w wr) := hg
    have HO : Hid (Own wr w.heap.size (m + 1) (fun j => if j < k then ac (ext f n) (ext g m) m j else 0)) := ho
    clear hg ho
    have c3 : wr.cell? ⟨w.heap.size, k, none⟩ = some (.int .u32 0) := by
      have h1 := (HO.out k (by omega)).1
      have h2 : (if k < k then ac (ext f n) (ext g m) m k else 0) = 0 := if_neg (Nat.lt_irrefl _)
      simp only [h2] at h1
      exact h1
    have c4 : wr.frozen? ⟨w.heap.size, k, none⟩ = false := (HO.out k (by omega)).2.1
    have HG1 : Hid (∀ v, Gr w (wr.setCell ⟨w.heap.size, k, none⟩ v)) := fun v => HG.out.setCell _ _ (Nat.le_refl _)
    have HMore : Hid (∀ x : Int, x = (ac (ext f n) (ext g m) m k : Int) → Own (wr.setCell ⟨w.heap.size, k, none⟩ (.int .u32 x)) w.heap.size (m + 1) (fun j => if j < k + 1 then ac (ext f n) (ext g m) m j else 0)) := fun x hx => Own.more k HO.out x hx (by omega) (hACl.out k)
    have hcl := hCA.out k
    by_cases hlt : k < m
    · have HC1 : Hid (ca (ext f n) (ext g m) (k + 1) = (ext f n k + ext g m k + ca (ext f n) (ext g m) k) / 4294967296) := rfl
      have HD1 : Hid (ac (ext f n) (ext g m) m k = (ext f n k + ext g m k + ca (ext f n) (ext g m) k) % 4294967296) := if_pos hlt
      have HE1 : Hid (ext f n k = if k < n then f k else 0) := rfl
      have HE2 : Hid (ext g m k = if k < m then g k else 0) := rfl
      have hF1 := hF.out k
      have hG1 := hG.out k
      clear hACl
      obtain ⟨C1, HQ⟩ : ∃ C1, Hid (ca (ext f n) (ext g m) (k + 1) = C1) := ⟨_, rfl⟩
      rw [HQ.out] at HC1
      generalize ca (ext f n) (ext g m) k = C at *
      generalize ac (ext f n) (ext g m) m k = D at *
      generalize hFK : ext f n k = FK at *
      generalize hGK : ext g m k = GK at *
      clear hFK hGK
      by_cases hkn : k < n
      · obtain rfl := HA.out (by omega)
        have c1 : wr.cell? ⟨b, o + k, none⟩ = some (.int .u32 (f k : Nat)) := ((hd.out.gr HG.out) k hkn).1
        have e1 : FK = f k := by rw [HE1.out, if_pos hkn]
        rw [← e1] at c1
        by_cases hkm : k < m
        · obtain rfl := HC.out (by omega)
          have c2 : wr.cell? ⟨b', o' + k, none⟩ = some (.int .u32 (g k : Nat)) := ((hd'.out.gr HG.out) k hkm).1
          have e2 : GK = g k := by rw [HE2.out, if_pos hkm]
          rw [← e2] at c2
          clear HE1 HE2 e1 e2
          go_wp2
          go_roundw
          case rel => exact ⟨k + 1, by omega, congrArg (Value.int .u64) (by rw [HQ.out, HC1.out]; omega), by go_num, HG1.out _, HMore.out _ (by rw [HD1.out]; omega)⟩
          case measure => simp [intOf]; omega
        · exfalso; omega
      · have e1 : FK = 0 := by rw [HE1.out, if_neg hkn]
        by_cases hkm : k < m
        · obtain rfl := HC.out (by omega)
          have c2 : wr.cell? ⟨b', o' + k, none⟩ = some (.int .u32 (g k : Nat)) := ((hd'.out.gr HG.out) k hkm).1
          have e2 : GK = g k := by rw [HE2.out, if_pos hkm]
          rw [← e2] at c2
          clear HE1 HE2 e2
          go_wp2
          go_roundw
          case rel => exact ⟨k + 1, by omega, congrArg (Value.int .u64) (by rw [HQ.out, HC1.out]; omega), by go_num, HG1.out _, HMore.out _ (by rw [HD1.out]; omega)⟩
          case measure => simp [intOf]; omega
        · exfalso; omega
    · have hkx : m = k := by omega
      subst hkx
      have hcx : ac (ext f n) (ext g m) m m = ca (ext f n) (ext g m) m := if_neg (Nat.lt_irrefl _)
      have HT : Hid (∀ x : Int, x = (ca (ext f n) (ext g m) m : Int) → 0 < m + 1 → ∃ b o, some (⟨w.heap.size, 0, none⟩ : Addr) = some ⟨b, o, none⟩ ∧ Dg (wr.setCell ⟨w.heap.size, m, none⟩ (.int .u32 x)) b o (m + 1) (ac (ext f n) (ext g m) m)) :=
        fun x hx _ => ⟨_, _, rfl, ((HMore.out x (by rw [hcx]; exact hx)).congr (fun j hj => if_pos hj)).dg⟩
      clear HMore hcx hACl
      go_wp2_with (go_at_call 88; refine (trim_any _ (m + 1) (m + 1) (ac (ext f n) (ext g m) m) (Nat.le_refl _) (by omega) _ (HT.out _ (by omega))).mono ?_; rintro e w' ⟨⟨v, rfl, hv⟩, rfl⟩)
      go_ret
      exact ⟨⟨v, rfl, by rw [← HV.out]; exact hv⟩, HG1.out _⟩

set_option maxHeartbeats 2000000 in
theorem nadd_ge (a c : Option Addr) (b o b' o' n m cap cap' : Nat) (f g : Nat → Nat) (ha : 0 < n → a = some ⟨b, o, none⟩) (hc : 0 < m → c = some ⟨b', o', none⟩) (hn1 : n < 500000) (hm1 : m < 500000) (hx : m ≤ n) (w : World) (hd : Hid (Dg w b o n f)) (hd' : Hid (Dg w b' o' m g)) :
    Calls Tryd.prog 61 #[.slice a n cap, .slice c m cap'] w fun e w' => (∃ v, e = .returned v ∧ NatAt w' v (fval f n + fval g m)) ∧ Gr w w' := by
  have HA : Hid (0 < n → a = some ⟨b, o, none⟩) := ha
  have HC : Hid (0 < m → c = some ⟨b', o', none⟩) := hc
  have hxn : n ≤ n := by omega
  have hxm : m ≤ n := by omega
  have M : ∀ w, (Instr.makeSlice 93 (.int .i64 ((n : Int) + 1)) (.int .i64 ((n : Int) + 1))).run Tryd.prog w = .ok (.slice (some ⟨w.heap.size, 0, none⟩) (n + 1) (n + 1)) (w.alloc (.cells (madeCells #[.int .u32 0] (n + 1)) 22)) := fun w => make_nat (n + 1) (by omega) w
  have hF : Hid (∀ j, ext f n j < 4294967296) := fun j => ext_lt f n j (fun h => (hd.out j h).2)
  have hG : Hid (∀ j, ext g m j < 4294967296) := fun j => ext_lt g m j (fun h => (hd'.out j h).2)
  have HV : Hid (fval (ac (ext f n) (ext g m) n) (n + 1) = fval f n + fval g m) := by
    show _ = _
    rw [ac_val, ext_val f n n hxn, ext_val g m n hxm]
  have hCA : Hid (∀ k, ca (ext f n) (ext g m) k ≤ 1) := fun k => ca_le _ _ k (fun j _ => hF.out j) (fun j _ => hG.out j)
  have hACl : Hid (∀ k, ac (ext f n) (ext g m) n k < 4294967296) := fun k => by
    unfold ac
    split
    · exact Nat.mod_lt _ (by decide)
    · have := hCA.out n; omega
  clear ha hc
  go_enter Tryd.func61, Tryd.ntmps61
  go_wp2
  go_loopw [7, 8] (fun s i wr => ∃ k : Nat, k ≤ n ∧ s = .int .u64 (ca (ext f n) (ext g m) k : Nat) ∧ i = .int .i64 k ∧ Gr w wr ∧ Own wr w.heap.size (n + 1) (fun j => if j < k then ac (ext f n) (ext g m) n j else 0)) (fun _ i _ => n - (intOf i).toNat)
  case atStart => exact ⟨0, by omega, rfl, rfl, (Gr.refl w).alloc _ _, (made_own w (n + 1)).congr (fun j _ => by rw [if_neg (by omega)])⟩
  case round =>
    obtain ⟨k, hk, rfl, rfl, hg, ho⟩ := hrel
    have HG : Hid (Gr w wr) := hg
    have HO : Hid (Own wr w.heap.size (n + 1) (fun j => if j < k then ac (ext f n) (ext g m) n j else 0)) := ho
    clear hg ho
    have c3 : wr.cell? ⟨w.heap.size, k, none⟩ = some (.int .u32 0) := by
      have h1 := (HO.out k (by omega)).1
      have h2 : (if k < k then ac (ext f n) (ext g m) n k else 0) = 0 := if_neg (Nat.lt_irrefl _)
      simp only [h2] at h1
      exact h1
    have c4 : wr.frozen? ⟨w.heap.size, k, none⟩ = false := (HO.out k (by omega)).2.1
    have HG1 : Hid (∀ v, Gr w (wr.setCell ⟨w.heap.size, k, none⟩ v)) := fun v => HG.out.setCell _ _ (Nat.le_refl _)
    have HMore : Hid (∀ x : Int, x = (ac (ext f n) (ext g m) n k : Int) → Own (wr.setCell ⟨w.heap.size, k, none⟩ (.int .u32 x)) w.heap.size (n + 1) (fun j => if j < k + 1 then ac (ext f n) (ext g m) n j else 0)) := fun x hx => Own.more k HO.out x hx (by omega) (hACl.out k)
    have hcl := hCA.out k
    by_cases hlt : k < n
    · have HC1 : Hid (ca (ext f n) (ext g m) (k + 1) = (ext f n k + ext g m k + ca (ext f n) (ext g m) k) / 4294967296) := rfl
      have HD1 : Hid (ac (ext f n) (ext g m) n k = (ext f n k + ext g m k + ca (ext f n) (ext g m) k) % 4294967296) := if_pos hlt
      have HE1 : Hid (ext f n k = if k < n then f k else 0) := rfl
      have HE2 : Hid (ext g m k = if k < m then g k else 0) := rfl
      have hF1 := hF.out k
      have hG1 := hG.out k
      clear hACl
      obtain ⟨C1, HQ⟩ : ∃ C1, Hid (ca (ext f n) (ext g m) (k + 1) = C1) := ⟨_, rfl⟩
      rw [HQ.out] at HC1
      generalize ca (ext f n) (ext g m) k = C at *
      generalize ac (ext f n) (ext g m) n k = D at *
      generalize hFK : ext f n k = FK at *
      generalize hGK : ext g m k = GK at *
      clear hFK hGK
      by_cases hkn : k < n
      · obtain rfl := HA.out (by omega)
        have c1 : wr.cell? ⟨b, o + k, none⟩ = some (.int .u32 (f k : Nat)) := ((hd.out.gr HG.out) k hkn).1
        have e1 : FK = f k := by rw [HE1.out, if_pos hkn]
        rw [← e1] at c1
        by_cases hkm : k < m
        · obtain rfl := HC.out (by omega)
          have c2 : wr.cell? ⟨b', o' + k, none⟩ = some (.int .u32 (g k : Nat)) := ((hd'.out.gr HG.out) k hkm).1
          have e2 : GK = g k := by rw [HE2.out, if_pos hkm]
          rw [← e2] at c2
          clear HE1 HE2 e1 e2
          go_wp2
          go_roundw
          case rel => exact ⟨k + 1, by omega, congrArg (Value.int .u64) (by rw [HQ.out, HC1.out]; omega), by go_num, HG1.out _, HMore.out _ (by rw [HD1.out]; omega)⟩
          case measure => simp [intOf]; omega
        · have e2 : GK = 0 := by rw [HE2.out, if_neg hkm]
          clear HE1 HE2 e1
          go_wp2
          go_roundw
          case rel => exact ⟨k + 1, by omega, congrArg (Value.int .u64) (by rw [HQ.out, HC1.out]; omega), by go_num, HG1.out _, HMore.out _ (by rw [HD1.out]; omega)⟩
          case measure => simp [intOf]; omega
      · exfalso; omega
    · have hkx : n = k := by omega
      subst hkx
      have hcx : ac (ext f n) (ext g m) n n = ca (ext f n) (ext g m) n := if_neg (Nat.lt_irrefl _)
      have HT : Hid (∀ x : Int, x = (ca (ext f n) (ext g m) n : Int) → 0 < n + 1 → ∃ b o, some (⟨w.heap.size, 0, none⟩ : Addr) = some ⟨b, o, none⟩ ∧ Dg (wr.setCell ⟨w.heap.size, n, none⟩ (.int .u32 x)) b o (n + 1) (ac (ext f n) (ext g m) n)) :=
        fun x hx _ => ⟨_, _, rfl, ((HMore.out x (by rw [hcx]; exact hx)).congr (fun j hj => if_pos hj)).dg⟩
      clear HMore hcx hACl
      go_wp2_with (go_at_call 88; refine (trim_any _ (n + 1) (n + 1) (ac (ext f n) (ext g m) n) (Nat.le_refl _) (by omega) _ (HT.out _ (by omega))).mono ?_; rintro e w' ⟨⟨v, rfl, hv⟩, rfl⟩)
      go_ret
      exact ⟨⟨v, rfl, by rw [← HV.out]; exact hv⟩, HG1.out _⟩

theorem dg_any {w : World} {a : Option Addr} {n : Nat} {f : Nat → Nat} (hd : 0 < n → ∃ b o, a = some ⟨b, o, none⟩ ∧ Dg w b o n f) : ∃ b o, (0 < n → a = some ⟨b, o, none⟩) ∧ Dg w b o n f := by
  by_cases h : 0 < n
  · obtain ⟨b, o, e, d⟩ := hd h
    exact ⟨b, o, fun _ => e, d⟩
  · exact ⟨0, 0, fun c => absurd c h, fun j hj => by omega⟩
theorem nadd_any (u v : Value) (A B K : Nat) (hK : K < 500000) (hA : A < 2 ^ (32 * K)) (hB : B < 2 ^ (32 * K)) (w : World) (h : NatAt w u A) (h' : NatAt w v B) :
    Calls Tryd.prog 61 #[u, v] w fun e w' => (∃ x, e = .returned x ∧ NatAt w' x (A + B)) ∧ Gr w w' := by
  obtain ⟨a, n, cap, f, rfl, _, hd, hl, rfl, hs⟩ := natAt_short h K hA
  obtain ⟨c, m, cap', g, rfl, _, hd', hl', rfl, hs'⟩ := natAt_short h' K hB
  obtain ⟨b, o, ha, d⟩ := dg_any hd
  obtain ⟨b', o', hc, d'⟩ := dg_any hd'
  rcases Nat.lt_or_ge n m with q | q
  · exact nadd_lt a c b o b' o' n m cap cap' f g ha hc (by omega) (by omega) q w d d'
  · exact nadd_ge a c b o b' o' n m cap cap' f g ha hc (by omega) (by omega) q w d d'
end Go.Proofs.YtckjmcfncfoboaaDoor

namespace Go.Proofs.YtckjmcfncfoboaaDoor
open Go.RowKit

/-- A digit written. -/
theorem fval_put (F G : Nat → Nat) (p n : Nat) (hp : p < n) (h : ∀ j, j ≠ p → G j = F j) : fval G n + F p * 2 ^ (32 * p) = fval F n + G p * 2 ^ (32 * p) := by
  induction n with
  | zero => omega
  | succ n ih =>
    by_cases c : p = n
    · subst c
      have : fval G p = fval F p := fval_congr p (fun j hj => h j (by omega))
      rw [fval, fval, this]; omega
    · have := ih (by omega)
      rw [fval, fval, h n (by omega)]; omega

set_option maxHeartbeats 2000000 in
theorem nmul_core (a c : Option Addr) (b o b' o' n m cap cap' : Nat) (f g : Nat → Nat) (ha : 0 < n → a = some ⟨b, o, none⟩) (hc : 0 < m → c = some ⟨b', o', none⟩) (hn1 : n < 200000) (hm1 : m < 200000) (w : World) (hd : Hid (Dg w b o n f)) (hd' : Hid (Dg w b' o' m g)) :
    Calls Tryd.prog 65 #[.slice a n cap, .slice c m cap'] w fun e w' => (∃ v, e = .returned v ∧ NatAt w' v (fval f n * fval g m)) ∧ Gr w w' := by
  have HA : Hid (0 < n → a = some ⟨b, o, none⟩) := ha
  have HC : Hid (0 < m → c = some ⟨b', o', none⟩) := hc
  have M : ∀ w, (Instr.makeSlice 93 (.int .i64 ((n : Int) + m)) (.int .i64 ((n : Int) + m))).run Tryd.prog w = .ok (.slice (some ⟨w.heap.size, 0, none⟩) (n + m) (n + m)) (w.alloc (.cells (madeCells #[.int .u32 0] (n + m)) 22)) := fun w => make_nat (n + m) (by omega) w
  clear ha hc
  go_enter Tryd.func65, Tryd.ntmps65
  go_wp2
  go_loopw [6] (fun i wr => ∃ k : Nat, k ≤ n ∧ i = .int .i64 k ∧ Gr w wr ∧ ∃ F, Own wr w.heap.size (n + m) F ∧ (∀ j, k + m ≤ j → F j = 0) ∧ fval F (k + m) = fval f k * fval g m) (fun i _ => n - (intOf i).toNat)
  case atStart =>
    refine ⟨0, by omega, rfl, (Gr.refl w).alloc _ _, fun _ => 0, made_own w (n + m), fun j _ => rfl, ?_⟩
    rw [fval_zero (fun _ => 0) 0 (0 + m) (by omega) (fun j _ _ => rfl)]
    show 0 = 0 * fval g m
    omega
  case round =>
    obtain ⟨k, hk, rfl, hg, F, ho, hz, hv⟩ := hrel
    have HG : Hid (Gr w wr) := hg
    have HO : Hid (Own wr w.heap.size (n + m) F) := ho
    have HZ : Hid (∀ j, k + m ≤ j → F j = 0) := hz
    have HV : Hid (fval F (k + m) = fval f k * fval g m) := hv
    clear hg ho hz hv
    by_cases hlt : k < n
    · obtain rfl := HA.out (by omega)
      go_wp2
      go_loopw [7, 8] (fun s i wq => ∃ (q C : Nat), q ≤ m ∧ s = .int .u64 (C : Nat) ∧ i = .int .i64 q ∧ C < 4294967296 ∧ Gr w wq ∧ ∃ H, Own wq w.heap.size (n + m) H ∧ (∀ j, k + m ≤ j → H j = 0) ∧ fval H (k + m) + C * 2 ^ (32 * (k + q)) = fval f k * fval g m + f k * fval g q * 2 ^ (32 * k)) (fun _ i _ => m - (intOf i).toNat)
      case atStart =>
        refine ⟨0, 0, by omega, rfl, rfl, by decide, HG.out, F, HO.out, HZ.out, ?_⟩
        rw [HV.out]
        show _ + 0 * _ = _ + f k * 0 * _
        omega
      case round =>
        obtain ⟨q, C, hq, rfl, rfl, hC, hg2, H, ho2, hz2, hv2⟩ := hrel
        have HG2 : Hid (Gr w wr) := hg2
        have HO2 : Hid (Own wr w.heap.size (n + m) H) := ho2
        have HZ2 : Hid (∀ j, k + m ≤ j → H j = 0) := hz2
        have HV2 : Hid (fval H (k + m) + C * 2 ^ (32 * (k + q)) = fval f k * fval g m + f k * fval g q * 2 ^ (32 * k)) := hv2
        clear hg2 ho2 hz2 hv2
        by_cases hqm : q < m
        · obtain rfl := HC.out (by omega)
          have c1 : wr.cell? ⟨b, o + k, none⟩ = some (.int .u32 (f k : Nat)) := ((hd.out.gr HG2.out) k hlt).1
          have c2 : wr.cell? ⟨b', o' + q, none⟩ = some (.int .u32 (g q : Nat)) := ((hd'.out.gr HG2.out) q hqm).1
          have c3 : wr.cell? ⟨w.heap.size, k + q, none⟩ = some (.int .u32 (H (k + q) : Nat)) := (HO2.out (k + q) (by omega)).1
          have c4 : wr.frozen? ⟨w.heap.size, k + q, none⟩ = false := (HO2.out (k + q) (by omega)).2.1
          have hfk := (hd.out k hlt).2
          have hgq := (hd'.out q hqm).2
          have hX := (HO2.out (k + q) (by omega)).2.2
          have hp : f k * g q ≤ 4294967295 * 4294967295 := Nat.mul_le_mul (by omega) (by omega)
          have HGr : Hid (∀ d v, Gr w ((wr.drewN d).setCell ⟨w.heap.size, k + q, none⟩ v)) := fun d v => (HG2.out.drewN d).setCell _ _ (Nat.le_refl _)
          have HPut : Hid (∀ (d : Nat) (x : Int) (v : Nat), x = (v : Int) → v < 4294967296 → Own ((wr.drewN d).setCell ⟨w.heap.size, k + q, none⟩ (.int .u32 x)) w.heap.size (n + m) (fun j => if j = k + q then v else H j)) := fun d x v hx hv => (HO2.out.drewN d).putI (k + q) v x hx (by omega) hv
          have HStep : Hid (∀ C' D, C + H (k + q) + f k * g q = D + C' * 4294967296 → fval (fun j => if j = k + q then D else H j) (k + m) + C' * 2 ^ (32 * (k + (q + 1))) = fval f k * fval g m + f k * fval g (q + 1) * 2 ^ (32 * k)) := fun C' D e => by
            have e1 := fval_put H (fun j => if j = k + q then D else H j) (k + q) (k + m) (by omega) (fun j hj => if_neg hj)
            rw [if_pos rfl] at e1
            have e2 := HV2.out
            have e3 : 2 ^ (32 * (k + (q + 1))) = 4294967296 * 2 ^ (32 * (k + q)) := by rw [show 32 * (k + (q + 1)) = 32 + 32 * (k + q) by omega, Nat.pow_add]
            have e4 : f k * fval g (q + 1) * 2 ^ (32 * k) = f k * fval g q * 2 ^ (32 * k) + f k * g q * 2 ^ (32 * (k + q)) := by
              rw [fval, Nat.mul_add, Nat.add_mul, show 32 * (k + q) = 32 * q + 32 * k by omega, Nat.pow_add]
              ac_rfl
            rw [e3, e4]
            generalize 2 ^ (32 * (k + q)) = P at *
            have e5 := congrArg (· * P) e
            simp only [Nat.add_mul] at e5
            rw [← Nat.mul_assoc]
            omega
          have HP : Hid ((f k : Int) * (g q : Int) = ((f k * g q : Nat) : Int)) := (Int.natCast_mul _ _).symm
          generalize f k * g q = p at *
          generalize H (k + q) = X at *
          generalize f k = fk at *
          generalize g q = gq at *
          clear HV2
          go_wp2
          go_quiet (fail)
          go_wp2_with (first | (simp only [HP.out]))
          go_roundw
          case rel => exact ⟨q + 1, (C + X + p) / 4294967296, by omega, congrArg (Value.int .u64) (by omega), by go_num, by omega, HGr.out _ _, _, HPut.out _ _ ((C + X + p) % 4294967296) (by omega) (by omega), fun j hj => by rw [if_neg (by omega)]; exact HZ2.out j hj, HStep.out _ _ (by omega)⟩
          case measure => simp [intOf]; omega
        · have hqe : m = q := by omega
          subst hqe
          have c3 : wr.cell? ⟨w.heap.size, k + m, none⟩ = some (.int .u32 (H (k + m) : Nat)) := (HO2.out (k + m) (by omega)).1
          have c4 : wr.frozen? ⟨w.heap.size, k + m, none⟩ = false := (HO2.out (k + m) (by omega)).2.1
          have HGr : Hid (∀ v, Gr w (wr.setCell ⟨w.heap.size, k + m, none⟩ v)) := fun v => HG2.out.setCell _ _ (Nat.le_refl _)
          have HPut : Hid (∀ (x : Int) (v : Nat), x = (v : Int) → v < 4294967296 → Own (wr.setCell ⟨w.heap.size, k + m, none⟩ (.int .u32 x)) w.heap.size (n + m) (fun j => if j = k + m then v else H j)) := fun x v hx hv => HO2.out.putI (k + m) v x hx (by omega) hv
          have HEnd : Hid (fval (fun j => if j = k + m then C else H j) (k + 1 + m) = fval f (k + 1) * fval g m) := by
            show _ = _
            have e1 : fval (fun j => if j = k + m then C else H j) (k + m) = fval H (k + m) := fval_congr (k + m) (fun j hj => if_neg (by omega))
            have e2 := HV2.out
            rw [show k + 1 + m = (k + m) + 1 by omega, fval, e1, if_pos rfl, e2, fval, Nat.add_mul]
            ac_rfl
          go_wp2
          go_roundw
          case rel => exact ⟨k + 1, by omega, by go_num, HGr.out _, _, HPut.out _ C (by omega) hC, fun j hj => by rw [if_neg (by omega)]; exact HZ2.out j (by omega), HEnd.out⟩
          case measure => simp [intOf]; omega
    · have hkn : n = k := by omega
      subst hkn
      have HD : Hid (0 < n + m → ∃ b o, some (⟨w.heap.size, 0, none⟩ : Addr) = some ⟨b, o, none⟩ ∧ Dg wr b o (n + m) F) := fun _ => ⟨_, _, rfl, HO.out.dg⟩
      go_wp2_with (go_at_call 88; refine (trim_any _ (n + m) (n + m) F (Nat.le_refl _) (by omega) _ HD.out).mono ?_; rintro e w' ⟨⟨v, rfl, hv⟩, rfl⟩)
      go_ret
      exact ⟨⟨v, rfl, by rw [← HV.out]; exact hv⟩, HG.out⟩

theorem nmul_any (u v : Value) (A B K : Nat) (hK : K < 200000) (hA : A < 2 ^ (32 * K)) (hB : B < 2 ^ (32 * K)) (w : World) (h : NatAt w u A) (h' : NatAt w v B) :
    Calls Tryd.prog 65 #[u, v] w fun e w' => (∃ x, e = .returned x ∧ NatAt w' x (A * B)) ∧ Gr w w' := by
  obtain ⟨a, n, cap, f, rfl, _, hd, hl, rfl, hs⟩ := natAt_short h K hA
  obtain ⟨c, m, cap', g, rfl, _, hd', hl', rfl, hs'⟩ := natAt_short h' K hB
  obtain ⟨b, o, ha, d⟩ := dg_any hd
  obtain ⟨b', o', hc, d'⟩ := dg_any hd'
  exact nmul_core a c b o b' o' n m cap cap' f g ha hc (by omega) (by omega) w d d'
end Go.Proofs.YtckjmcfncfoboaaDoor

namespace Go.Proofs.YtckjmcfncfoboaaDoor
open Go.RowKit
open Ieee

set_option maxHeartbeats 2000000 in
theorem radd_special (a b za zb v : Int) (N1 N2 : Bool)
    (H1 : Hid (∀ w, Calls Tryd.prog 42 #[.int .u32 a] w fun e w' => e = .returned (.bool N1) ∧ w' = w))
    (H2 : Hid (∀ w, Calls Tryd.prog 42 #[.int .u32 b] w fun e w' => e = .returned (.bool N2) ∧ w' = w))
    (hza : Hid (bits .andNot .u32 a 2147483648 = za)) (hzb : Hid (bits .andNot .u32 b 2147483648 = zb))
    (hv : (N1 = true ∧ v = 2143289344) ∨ (N1 = false ∧ N2 = true ∧ v = 2143289344) ∨ (N1 = false ∧ N2 = false ∧ (za == 2139095040) = true ∧ (zb == 2139095040) = true ∧ (a != b) = true ∧ v = 2143289344) ∨
      (N1 = false ∧ N2 = false ∧ (za == 2139095040) = true ∧ (zb == 2139095040) = true ∧ (a != b) = false ∧ v = a) ∨ (N1 = false ∧ N2 = false ∧ (za == 2139095040) = true ∧ (zb == 2139095040) = false ∧ v = a) ∨ (N1 = false ∧ N2 = false ∧ (za == 2139095040) = false ∧ (zb == 2139095040) = true ∧ v = b)) (w : World) :
    Calls Tryd.prog 24 #[.int .u32 a, .int .u32 b] w fun e w' => e = .returned (.int .u32 v) ∧ Gr w w' := by
  rcases hv with ⟨rfl, rfl⟩ | ⟨rfl, rfl, rfl⟩ | ⟨rfl, rfl, c1, c2, c3, rfl⟩ | ⟨rfl, rfl, c1, c2, c3, rfl⟩ | ⟨rfl, rfl, c1, c2, rfl⟩ | ⟨rfl, rfl, c1, c2, rfl⟩
  all_goals
    go_enter Tryd.func24, Tryd.ntmps24
    go_wp2_with fail
    refine (H1.out _).mono ?_
    rintro e w1 ⟨rfl, rfl⟩
    go_wp2_with fail
    refine (H2.out _).mono ?_
    rintro e w2 ⟨rfl, rfl⟩
    go_wp2_with (first | (simp only [hza.out]) | (simp only [hzb.out]))
    go_ret
    exact ⟨rfl, Gr.refl _⟩

set_option maxHeartbeats 4000000 in
theorem radd_same (a b za zb m n p q low k1 k2 ya yb v : Int) (N1 N2 sa sb : Bool) (M N X Y : Nat) (w : World) (hN1 : N1 = false) (hN2 : N2 = false) (hs : sa = sb)
    (H1 : Hid (∀ w, Calls Tryd.prog 42 #[.int .u32 a] w fun e w' => e = .returned (.bool N1) ∧ w' = w))
    (H2 : Hid (∀ w, Calls Tryd.prog 42 #[.int .u32 b] w fun e w' => e = .returned (.bool N2) ∧ w' = w))
    (hza : Hid (bits .andNot .u32 a 2147483648 = za)) (hzb : Hid (bits .andNot .u32 b 2147483648 = zb))
    (hc1 : (za == 2139095040) = false) (hc2 : (zb == 2139095040) = false)
    (S1 : Hid (∀ w, Calls Tryd.prog 45 #[.int .u32 a] w fun e w' => e = .returned (.tuple #[.int .u64 m, .int .i64 p]) ∧ w' = w))
    (S2 : Hid (∀ w, Calls Tryd.prog 45 #[.int .u32 b] w fun e w' => e = .returned (.tuple #[.int .u64 n, .int .i64 q]) ∧ w' = w))
    (hp0 : -149 ≤ p) (hp1 : p ≤ 104) (hq0 : -149 ≤ q) (hq1 : q ≤ 104) (hlow : (p ≤ q ∧ low = p ∧ k1 = 0 ∧ k2 = q - p) ∨ (q < p ∧ low = q ∧ k1 = p - q ∧ k2 = 0))
    (O1 : Hid (∀ w, Calls Tryd.prog 57 #[.int .u64 m] w fun e w' => (∃ v, e = .returned v ∧ NatAt w' v M) ∧ Gr w w'))
    (O2 : Hid (∀ w, Calls Tryd.prog 57 #[.int .u64 n] w fun e w' => (∃ v, e = .returned v ∧ NatAt w' v N) ∧ Gr w w'))
    (L1 : Hid (∀ w x, NatAt w x M → Calls Tryd.prog 60 #[x, .int .i64 k1] w fun e w' => (∃ v, e = .returned v ∧ NatAt w' v X) ∧ Gr w w'))
    (L2 : Hid (∀ w x, NatAt w x N → Calls Tryd.prog 60 #[x, .int .i64 k2] w fun e w' => (∃ v, e = .returned v ∧ NatAt w' v Y) ∧ Gr w w'))
    (hya : Hid (bits .and .u32 a 2147483648 = ya)) (hyb : Hid (bits .and .u32 b 2147483648 = yb)) (hsa : (ya != 0) = sa) (hsb : (yb != 0) = sb)
    (PA : Hid (∀ w x y, NatAt w x X → NatAt w y Y → Calls Tryd.prog 61 #[x, y] w fun e w' => (∃ v, e = .returned v ∧ NatAt w' v (X + Y)) ∧ Gr w w'))
    (hv : (X + Y = 0 ∧ v = a) ∨ (X + Y ≠ 0 ∧ Hid (∀ w x, NatAt w x (X + Y) → Calls Tryd.prog 62 #[.bool sa, x, .int .i64 low] w fun e w' => e = .returned (.int .u32 v) ∧ Gr w w'))) :
    Calls Tryd.prog 24 #[.int .u32 a, .int .u32 b] w fun e w' => e = .returned (.int .u32 v) ∧ Gr w w' := by
  subst hN1 hN2
  subst hs
  rcases hlow with ⟨hlow, rfl, rfl, rfl⟩ | ⟨hlow, rfl, rfl, rfl⟩
  all_goals
    go_enter Tryd.func24, Tryd.ntmps24
    go_wp2_with fail
    refine (H1.out _).mono ?_
    rintro e w1 ⟨rfl, rfl⟩
    go_wp2_with fail
    refine (H2.out _).mono ?_
    rintro e w2 ⟨rfl, rfl⟩
    go_wp2_with (first | (simp only [hza.out]) | (simp only [hzb.out]))
    refine (S1.out _).mono ?_
    rintro e w3 ⟨rfl, rfl⟩
    go_wp2_with fail
    refine (S2.out _).mono ?_
    rintro e w4 ⟨rfl, rfl⟩
    go_wp2_with fail
    refine (O1.out _).mono ?_
    rintro e w5 ⟨⟨x1, rfl, hx1⟩, g5⟩
    obtain ⟨a1, n1, c1, rfl, _⟩ := natAt_len hx1
    have G5 : Hid (Gr w4 w5) := g5
    have X1 : Hid (NatAt w5 (.slice a1 n1 c1) M) := hx1
    clear hx1 g5
    go_wp2_with fail
    refine (L1.out _ _ X1.out).mono ?_
    rintro e w6 ⟨⟨x2, rfl, hx2⟩, g6⟩
    obtain ⟨a2, n2, c2, rfl, _⟩ := natAt_len hx2
    have G6 : Hid (Gr w4 w6) := G5.out.trans g6
    have X2 : Hid (NatAt w6 (.slice a2 n2 c2) X) := hx2
    clear hx2 g6 X1 G5
    go_wp2_with fail
    refine (O2.out _).mono ?_
    rintro e w7 ⟨⟨x3, rfl, hx3⟩, g7⟩
    obtain ⟨a3, n3, c3, rfl, _⟩ := natAt_len hx3
    have G7 : Hid (Gr w4 w7) := G6.out.trans g7
    have X3 : Hid (NatAt w7 (.slice a3 n3 c3) N) := hx3
    replace X2 : Hid (NatAt w7 (.slice a2 n2 c2) X) := X2.out.gr g7
    clear hx3 g7 G6
    go_wp2_with fail
    refine (L2.out _ _ X3.out).mono ?_
    rintro e w8 ⟨⟨x4, rfl, hx4⟩, g8⟩
    obtain ⟨a4, n4, c4, rfl, _⟩ := natAt_len hx4
    have G8 : Hid (Gr w4 w8) := G7.out.trans g8
    have X4 : Hid (NatAt w8 (.slice a4 n4 c4) Y) := hx4
    replace X2 : Hid (NatAt w8 (.slice a2 n2 c2) X) := X2.out.gr g8
    clear hx4 g8 X3 G7
    go_wp2_with (first | (simp only [hya.out]) | (simp only [hyb.out]))
    refine (PA.out _ _ _ X2.out X4.out).mono ?_
    rintro e w9 ⟨⟨x5, rfl, hx5⟩, g9⟩
    obtain ⟨a5, n5, c5, rfl, h5⟩ := natAt_len hx5
    have G9 : Hid (Gr w4 w9) := G8.out.trans g9
    have X5 : Hid (NatAt w9 (.slice a5 n5 c5) (X + Y)) := hx5
    clear hx5 g9 G8 X2 X4
    rcases hv with ⟨hv, rfl⟩ | ⟨hv, HE⟩
    · rw [decide_eq_true hv] at h5
      go_wp2
      go_ret
      exact ⟨rfl, G9.out⟩
    · rw [decide_eq_false hv] at h5
      go_wp2_with fail
      refine (HE.out _ _ X5.out).mono ?_
      rintro e w10 ⟨rfl, g10⟩
      have G10 : Hid (Gr w4 w10) := G9.out.trans g10
      clear g10
      go_wp2
      go_ret
      exact ⟨rfl, G10.out⟩

set_option maxHeartbeats 4000000 in
theorem radd_other (a b za zb m n p q low k1 k2 ya yb v : Int) (N1 N2 sa sb : Bool) (M N X Y : Nat) (w : World) (hN1 : N1 = false) (hN2 : N2 = false) (c : Int) (hs : sa ≠ sb)
    (H1 : Hid (∀ w, Calls Tryd.prog 42 #[.int .u32 a] w fun e w' => e = .returned (.bool N1) ∧ w' = w))
    (H2 : Hid (∀ w, Calls Tryd.prog 42 #[.int .u32 b] w fun e w' => e = .returned (.bool N2) ∧ w' = w))
    (hza : Hid (bits .andNot .u32 a 2147483648 = za)) (hzb : Hid (bits .andNot .u32 b 2147483648 = zb))
    (hc1 : (za == 2139095040) = false) (hc2 : (zb == 2139095040) = false)
    (S1 : Hid (∀ w, Calls Tryd.prog 45 #[.int .u32 a] w fun e w' => e = .returned (.tuple #[.int .u64 m, .int .i64 p]) ∧ w' = w))
    (S2 : Hid (∀ w, Calls Tryd.prog 45 #[.int .u32 b] w fun e w' => e = .returned (.tuple #[.int .u64 n, .int .i64 q]) ∧ w' = w))
    (hp0 : -149 ≤ p) (hp1 : p ≤ 104) (hq0 : -149 ≤ q) (hq1 : q ≤ 104) (hlow : (p ≤ q ∧ low = p ∧ k1 = 0 ∧ k2 = q - p) ∨ (q < p ∧ low = q ∧ k1 = p - q ∧ k2 = 0))
    (O1 : Hid (∀ w, Calls Tryd.prog 57 #[.int .u64 m] w fun e w' => (∃ v, e = .returned v ∧ NatAt w' v M) ∧ Gr w w'))
    (O2 : Hid (∀ w, Calls Tryd.prog 57 #[.int .u64 n] w fun e w' => (∃ v, e = .returned v ∧ NatAt w' v N) ∧ Gr w w'))
    (L1 : Hid (∀ w x, NatAt w x M → Calls Tryd.prog 60 #[x, .int .i64 k1] w fun e w' => (∃ v, e = .returned v ∧ NatAt w' v X) ∧ Gr w w'))
    (L2 : Hid (∀ w x, NatAt w x N → Calls Tryd.prog 60 #[x, .int .i64 k2] w fun e w' => (∃ v, e = .returned v ∧ NatAt w' v Y) ∧ Gr w w'))
    (hya : Hid (bits .and .u32 a 2147483648 = ya)) (hyb : Hid (bits .and .u32 b 2147483648 = yb)) (hsa : (ya != 0) = sa) (hsb : (yb != 0) = sb)
    (CM : Hid (∀ w x y, NatAt w x X → NatAt w y Y → Calls Tryd.prog 63 #[x, y] w fun e w' => e = .returned (.int .i64 c) ∧ ∃ k, w' = w.drewN k))
    (hv : ((c == 0) = true ∧ v = 0) ∨ ((c == 0) = false ∧ 0 < c ∧ Hid (∀ w x y, NatAt w x X → NatAt w y Y → Calls Tryd.prog 64 #[x, y] w fun e w' => (∃ v, e = .returned v ∧ NatAt w' v (X - Y)) ∧ Gr w w') ∧ Hid (∀ w x, NatAt w x (X - Y) → Calls Tryd.prog 62 #[.bool sa, x, .int .i64 low] w fun e w' => e = .returned (.int .u32 v) ∧ Gr w w')) ∨
      ((c == 0) = false ∧ c < 0 ∧ Hid (∀ w x y, NatAt w x Y → NatAt w y X → Calls Tryd.prog 64 #[x, y] w fun e w' => (∃ v, e = .returned v ∧ NatAt w' v (Y - X)) ∧ Gr w w') ∧ Hid (∀ w x, NatAt w x (Y - X) → Calls Tryd.prog 62 #[.bool sb, x, .int .i64 low] w fun e w' => e = .returned (.int .u32 v) ∧ Gr w w'))) :
    Calls Tryd.prog 24 #[.int .u32 a, .int .u32 b] w fun e w' => e = .returned (.int .u32 v) ∧ Gr w w' := by
  subst hN1 hN2
  have hss : (sa == sb) = false := by rw [beq_eq_false_iff_ne]; exact hs
  rcases hlow with ⟨hlow, rfl, rfl, rfl⟩ | ⟨hlow, rfl, rfl, rfl⟩
  all_goals
    go_enter Tryd.func24, Tryd.ntmps24
    go_wp2_with fail
    refine (H1.out _).mono ?_
    rintro e w1 ⟨rfl, rfl⟩
    go_wp2_with fail
    refine (H2.out _).mono ?_
    rintro e w2 ⟨rfl, rfl⟩
    go_wp2_with (first | (simp only [hza.out]) | (simp only [hzb.out]))
    refine (S1.out _).mono ?_
    rintro e w3 ⟨rfl, rfl⟩
    go_wp2_with fail
    refine (S2.out _).mono ?_
    rintro e w4 ⟨rfl, rfl⟩
    go_wp2_with fail
    refine (O1.out _).mono ?_
    rintro e w5 ⟨⟨x1, rfl, hx1⟩, g5⟩
    obtain ⟨a1, n1, c1, rfl, _⟩ := natAt_len hx1
    have G5 : Hid (Gr w4 w5) := g5
    have X1 : Hid (NatAt w5 (.slice a1 n1 c1) M) := hx1
    clear hx1 g5
    go_wp2_with fail
    refine (L1.out _ _ X1.out).mono ?_
    rintro e w6 ⟨⟨x2, rfl, hx2⟩, g6⟩
    obtain ⟨a2, n2, c2, rfl, _⟩ := natAt_len hx2
    have G6 : Hid (Gr w4 w6) := G5.out.trans g6
    have X2 : Hid (NatAt w6 (.slice a2 n2 c2) X) := hx2
    clear hx2 g6 X1 G5
    go_wp2_with fail
    refine (O2.out _).mono ?_
    rintro e w7 ⟨⟨x3, rfl, hx3⟩, g7⟩
    obtain ⟨a3, n3, c3, rfl, _⟩ := natAt_len hx3
    have G7 : Hid (Gr w4 w7) := G6.out.trans g7
    have X3 : Hid (NatAt w7 (.slice a3 n3 c3) N) := hx3
    replace X2 : Hid (NatAt w7 (.slice a2 n2 c2) X) := X2.out.gr g7
    clear hx3 g7 G6
    go_wp2_with fail
    refine (L2.out _ _ X3.out).mono ?_
    rintro e w8 ⟨⟨x4, rfl, hx4⟩, g8⟩
    obtain ⟨a4, n4, c4, rfl, _⟩ := natAt_len hx4
    have G8 : Hid (Gr w4 w8) := G7.out.trans g8
    have X4 : Hid (NatAt w8 (.slice a4 n4 c4) Y) := hx4
    replace X2 : Hid (NatAt w8 (.slice a2 n2 c2) X) := X2.out.gr g8
    clear hx4 g8 X3 G7
    go_wp2_with (first | (simp only [hya.out]) | (simp only [hyb.out]))
    refine (CM.out _ _ _ X2.out X4.out).mono ?_
    rintro e w9 ⟨rfl, k, rfl⟩
    have G9 : Hid (Gr w4 (w8.drewN k)) := G8.out.drewN k
    replace X2 : Hid (NatAt (w8.drewN k) (.slice a2 n2 c2) X) := X2.out.gr ((Gr.refl w8).drewN k)
    replace X4 : Hid (NatAt (w8.drewN k) (.slice a4 n4 c4) Y) := X4.out.gr ((Gr.refl w8).drewN k)
    clear G8
    generalize w8.drewN k = w9 at *
    rcases hv with ⟨hv, rfl⟩ | ⟨hv, hc, HS, HE⟩ | ⟨hv, hc, HS, HE⟩
    · go_wp2
      go_ret
      exact ⟨rfl, G9.out⟩
    · go_wp2_with fail
      refine (HS.out _ _ _ X2.out X4.out).mono ?_
      rintro e w10 ⟨⟨x6, rfl, hx6⟩, g10⟩
      obtain ⟨a6, n6, c6, rfl, _⟩ := natAt_len hx6
      have G10 : Hid (Gr w4 w10) := G9.out.trans g10
      have X6 : Hid (NatAt w10 (.slice a6 n6 c6) (X - Y)) := hx6
      clear g10 hx6 G9
      go_wp2_with fail
      refine (HE.out _ _ X6.out).mono ?_
      rintro e w11 ⟨rfl, g11⟩
      have G11 : Hid (Gr w4 w11) := G10.out.trans g11
      clear g11
      go_wp2
      go_ret
      exact ⟨rfl, G11.out⟩
    · go_wp2_with fail
      refine (HS.out _ _ _ X4.out X2.out).mono ?_
      rintro e w10 ⟨⟨x6, rfl, hx6⟩, g10⟩
      obtain ⟨a6, n6, c6, rfl, _⟩ := natAt_len hx6
      have G10 : Hid (Gr w4 w10) := G9.out.trans g10
      have X6 : Hid (NatAt w10 (.slice a6 n6 c6) (Y - X)) := hx6
      clear g10 hx6 G9
      go_wp2_with fail
      refine (HE.out _ _ X6.out).mono ?_
      rintro e w11 ⟨rfl, g11⟩
      have G11 : Hid (Gr w4 w11) := G10.out.trans g11
      clear g11
      go_wp2
      go_ret
      exact ⟨rfl, G11.out⟩
end Go.Proofs.YtckjmcfncfoboaaDoor

namespace Go.Proofs.YtckjmcfncfoboaaDoor
open Go.RowKit
open Ieee

set_option maxHeartbeats 4000000 in
theorem rmul_special (a b za zb s t v : Int) (N1 N2 : Bool)
    (H1 : Hid (∀ w, Calls Tryd.prog 42 #[.int .u32 a] w fun e w' => e = .returned (.bool N1) ∧ w' = w))
    (H2 : Hid (∀ w, Calls Tryd.prog 42 #[.int .u32 b] w fun e w' => e = .returned (.bool N2) ∧ w' = w))
    (hza : Hid (bits .andNot .u32 a 2147483648 = za)) (hzb : Hid (bits .andNot .u32 b 2147483648 = zb)) (hs : Hid (bits .and .u32 (bits .xor .u32 a b) 2147483648 = s)) (ht : Hid (bits .or .u32 s 2139095040 = t))
    (hv : (N1 = true ∧ v = 2143289344) ∨ (N1 = false ∧ N2 = true ∧ v = 2143289344) ∨ (N1 = false ∧ N2 = false ∧ za = 2139095040 ∧ zb = 0 ∧ v = 2143289344) ∨ (N1 = false ∧ N2 = false ∧ za = 0 ∧ zb = 2139095040 ∧ v = 2143289344) ∨
      (N1 = false ∧ N2 = false ∧ za = 2139095040 ∧ (zb == 0) = false ∧ v = t) ∨ (N1 = false ∧ N2 = false ∧ (za == 2139095040) = false ∧ (za == 0) = false ∧ zb = 2139095040 ∧ v = t) ∨
      (N1 = false ∧ N2 = false ∧ za = 0 ∧ (zb == 2139095040) = false ∧ v = s) ∨ (N1 = false ∧ N2 = false ∧ (za == 2139095040) = false ∧ (za == 0) = false ∧ zb = 0 ∧ v = s)) (w : World) :
    Calls Tryd.prog 26 #[.int .u32 a, .int .u32 b] w fun e w' => e = .returned (.int .u32 v) ∧ Gr w w' := by
  rcases hv with ⟨rfl, rfl⟩ | ⟨rfl, rfl, rfl⟩ | ⟨rfl, rfl, rfl, rfl, rfl⟩ | ⟨rfl, rfl, rfl, rfl, rfl⟩ | ⟨rfl, rfl, rfl, c2, rfl⟩ | ⟨rfl, rfl, c1, c2, rfl, rfl⟩ | ⟨rfl, rfl, rfl, c1, rfl⟩ | ⟨rfl, rfl, c1, c2, rfl, rfl⟩
  all_goals
    go_enter Tryd.func26, Tryd.ntmps26
    go_wp2_with fail
    refine (H1.out _).mono ?_
    rintro e w1 ⟨rfl, rfl⟩
    go_wp2_with fail
    refine (H2.out _).mono ?_
    rintro e w2 ⟨rfl, rfl⟩
    go_wp2_with (first | (simp only [hza.out]) | (simp only [hzb.out]) | (simp only [hs.out]) | (simp only [ht.out]))
    go_ret
    exact ⟨rfl, Gr.refl _⟩

set_option maxHeartbeats 4000000 in
theorem rmul_core (a b za zb s m n p q v : Int) (N1 N2 sg : Bool) (M N : Nat) (w : World) (hN1 : N1 = false) (hN2 : N2 = false)
    (H1 : Hid (∀ w, Calls Tryd.prog 42 #[.int .u32 a] w fun e w' => e = .returned (.bool N1) ∧ w' = w))
    (H2 : Hid (∀ w, Calls Tryd.prog 42 #[.int .u32 b] w fun e w' => e = .returned (.bool N2) ∧ w' = w))
    (hza : Hid (bits .andNot .u32 a 2147483648 = za)) (hzb : Hid (bits .andNot .u32 b 2147483648 = zb)) (hs : Hid (bits .and .u32 (bits .xor .u32 a b) 2147483648 = s)) (hsg : (s != 0) = sg)
    (c1 : (za == 2139095040) = false) (c2 : (za == 0) = false) (c3 : (zb == 2139095040) = false) (c4 : (zb == 0) = false)
    (S1 : Hid (∀ w, Calls Tryd.prog 45 #[.int .u32 a] w fun e w' => e = .returned (.tuple #[.int .u64 m, .int .i64 p]) ∧ w' = w))
    (S2 : Hid (∀ w, Calls Tryd.prog 45 #[.int .u32 b] w fun e w' => e = .returned (.tuple #[.int .u64 n, .int .i64 q]) ∧ w' = w))
    (hp0 : -149 ≤ p) (hp1 : p ≤ 104) (hq0 : -149 ≤ q) (hq1 : q ≤ 104)
    (O1 : Hid (∀ w, Calls Tryd.prog 57 #[.int .u64 m] w fun e w' => (∃ v, e = .returned v ∧ NatAt w' v M) ∧ Gr w w'))
    (O2 : Hid (∀ w, Calls Tryd.prog 57 #[.int .u64 n] w fun e w' => (∃ v, e = .returned v ∧ NatAt w' v N) ∧ Gr w w'))
    (PM : Hid (∀ w x y, NatAt w x M → NatAt w y N → Calls Tryd.prog 65 #[x, y] w fun e w' => (∃ v, e = .returned v ∧ NatAt w' v (M * N)) ∧ Gr w w'))
    (HE : Hid (∀ w x, NatAt w x (M * N) → Calls Tryd.prog 62 #[.bool sg, x, .int .i64 (p + q)] w fun e w' => e = .returned (.int .u32 v) ∧ Gr w w')) :
    Calls Tryd.prog 26 #[.int .u32 a, .int .u32 b] w fun e w' => e = .returned (.int .u32 v) ∧ Gr w w' := by
  subst hN1 hN2
  go_enter Tryd.func26, Tryd.ntmps26
  go_wp2_with fail
  refine (H1.out _).mono ?_
  rintro e w1 ⟨rfl, rfl⟩
  go_wp2_with fail
  refine (H2.out _).mono ?_
  rintro e w2 ⟨rfl, rfl⟩
  go_wp2_with (first | (simp only [hza.out]) | (simp only [hzb.out]) | (simp only [hs.out]))
  refine (S1.out _).mono ?_
  rintro e w3 ⟨rfl, rfl⟩
  go_wp2_with fail
  refine (S2.out _).mono ?_
  rintro e w4 ⟨rfl, rfl⟩
  go_wp2_with fail
  refine (O1.out _).mono ?_
  rintro e w5 ⟨⟨x1, rfl, hx1⟩, g5⟩
  obtain ⟨a1, n1, c1, rfl, _⟩ := natAt_len hx1
  have G5 : Hid (Gr w4 w5) := g5
  have X1 : Hid (NatAt w5 (.slice a1 n1 c1) M) := hx1
  clear hx1 g5
  go_wp2_with fail
  refine (O2.out _).mono ?_
  rintro e w7 ⟨⟨x3, rfl, hx3⟩, g7⟩
  obtain ⟨a3, n3, c3, rfl, _⟩ := natAt_len hx3
  have G7 : Hid (Gr w4 w7) := G5.out.trans g7
  have X3 : Hid (NatAt w7 (.slice a3 n3 c3) N) := hx3
  replace X1 : Hid (NatAt w7 (.slice a1 n1 c1) M) := X1.out.gr g7
  clear hx3 g7 G5
  go_wp2_with fail
  refine (PM.out _ _ _ X1.out X3.out).mono ?_
  rintro e w8 ⟨⟨x4, rfl, hx4⟩, g8⟩
  obtain ⟨a4, n4, c4, rfl, _⟩ := natAt_len hx4
  have G8 : Hid (Gr w4 w8) := G7.out.trans g8
  have X4 : Hid (NatAt w8 (.slice a4 n4 c4) (M * N)) := hx4
  clear hx4 g8 X1 X3 G7
  go_wp2_with fail
  refine (HE.out _ _ X4.out).mono ?_
  rintro e w10 ⟨rfl, g10⟩
  have G10 : Hid (Gr w4 w10) := G8.out.trans g10
  clear g10
  go_wp2
  go_ret
  exact ⟨rfl, G10.out⟩
end Go.Proofs.YtckjmcfncfoboaaDoor

namespace Go.Proofs.YtckjmcfncfoboaaDoor
open Go.RowKit
open Ieee

/-- A finite single's magnitude, down to a place. -/
def dn32 (a : Nat) (low : Int) : Nat := Fs.mantOf (mag32 a) * 2 ^ (Fs.placeOf (mag32 a) - low).toNat
def low32 (a b : Nat) : Int := min (Fs.placeOf (mag32 a)) (Fs.placeOf (mag32 b))
/-- The sum of two finite ones. -/
def adF (a b : Nat) : Nat :=
  if sgb32 a = sgb32 b then (if dn32 a (low32 a b) + dn32 b (low32 a b) = 0 then a else Rn.word32 1 (sgb32 a) (dn32 a (low32 a b) + dn32 b (low32 a b)) (low32 a b))
  else if dn32 a (low32 a b) = dn32 b (low32 a b) then 0
  else if dn32 b (low32 a b) < dn32 a (low32 a b) then Rn.word32 1 (sgb32 a) (dn32 a (low32 a b) - dn32 b (low32 a b)) (low32 a b)
  else Rn.word32 1 (sgb32 b) (dn32 b (low32 a b) - dn32 a (low32 a b)) (low32 a b)
def ad32 (a b : Nat) : Nat :=
  if isN32 a = true ∨ isN32 b = true ∨ (mag32 a = 2139095040 ∧ mag32 b = 2139095040 ∧ a ≠ b) then 2143289344
  else if mag32 a = 2139095040 then a else if mag32 b = 2139095040 then b else adF a b
/-- The product. -/
def muF (a b : Nat) : Nat := Rn.word32 1 (sgb32 a ^^ sgb32 b) (Fs.mantOf (mag32 a) * Fs.mantOf (mag32 b)) (Fs.placeOf (mag32 a) + Fs.placeOf (mag32 b))
def mu32 (a b : Nat) : Nat :=
  if isN32 a = true ∨ isN32 b = true ∨ (mag32 a = 2139095040 ∧ mag32 b = 0) ∨ (mag32 a = 0 ∧ mag32 b = 2139095040) then 2143289344
  else if mag32 a = 2139095040 ∨ mag32 b = 2139095040 then single.word (sgb32 a ^^ sgb32 b) 2139095040
  else if mag32 a = 0 ∨ mag32 b = 0 then single.word (sgb32 a ^^ sgb32 b) 0 else muF a b

theorem mag32_lt (b : Nat) : mag32 b < 2147483648 := Nat.mod_lt _ (by decide)
theorem read32_fin (b : Nat) (hb : b < 4294967296) (h : mag32 b < 2139095040) : single.read b = .number (sgb32 b) (Fs.mantOf (mag32 b)) (Fs.placeOf (mag32 b)) := by
  have := Fs.read_fin (sgb32 b) (mag32 b) h
  rwa [word_mag32 b hb] at this
theorem read32_inf (b : Nat) (hb : b < 4294967296) (h : mag32 b = 2139095040) : single.read b = .infinity (sgb32 b) := by
  have := Fs.read_word (sgb32 b) (mag32 b) (mag32_lt b)
  rwa [word_mag32 b hb, if_neg (by omega), if_neg (by omega), if_pos h] at this
theorem read32_nan (b : Nat) (hb : b < 4294967296) (h : isN32 b = true) : ∃ f, single.read b = .nan (sgb32 b) f := by
  have c : 2139095040 < mag32 b := of_decide_eq_true h
  have := Fs.read_word (sgb32 b) (mag32 b) (mag32_lt b)
  rw [word_mag32 b hb, if_neg (by omega), if_neg (by omega), if_neg (by omega)] at this
  exact ⟨_, this⟩
theorem signed_mul (s : Bool) (m up : Nat) : signed s m up = if s = true then -((m * 2 ^ up : Nat) : Int) else ((m * 2 ^ up : Nat) : Int) := by
  unfold signed; rw [Nat.shiftLeft_eq]
theorem write_num (s : Bool) (m : Nat) (p : Int) : single.write (.number s m p) = single.nearest s m p := rfl
theorem write_inf (s : Bool) : single.write (.infinity s) = single.word s 2139095040 := rfl
theorem near_zero (s : Bool) (p : Int) : single.nearest s 0 p = single.word s 0 := by unfold Format.nearest; rw [if_pos rfl]

theorem sum_cases (s t : Bool) (X Y : Nat) (L : Int) (a : Nat) (hz : X = 0 → a = single.word s 0) :
    single.nearest (if (if s = true then -(X : Int) else (X : Int)) + (if t = true then -(Y : Int) else (Y : Int)) = 0 then s && t else decide ((if s = true then -(X : Int) else (X : Int)) + (if t = true then -(Y : Int) else (Y : Int)) < 0)) ((if s = true then -(X : Int) else (X : Int)) + (if t = true then -(Y : Int) else (Y : Int))).natAbs L =
    if s = t then (if X + Y = 0 then a else Rn.word32 1 s (X + Y) L) else if X = Y then 0 else if Y < X then Rn.word32 1 s (X - Y) L else Rn.word32 1 t (Y - X) L := by
  cases s <;> cases t
  · rw [if_pos (rfl : false = false)]
    show single.nearest (if (X : Int) + Y = 0 then false else decide ((X : Int) + Y < 0)) ((X : Int) + Y).natAbs L = _
    by_cases c : X + Y = 0
    · rw [if_pos c, if_pos (by omega), show ((X : Int) + (Y : Int)).natAbs = 0 by omega, near_zero]
      exact (hz (by omega)).symm
    · rw [if_neg c, if_neg (by omega), show ((X : Int) + (Y : Int)).natAbs = X + Y by omega, ← Rn.nearest32 false (X + Y) L c, decide_eq_false (by omega)]
  · rw [if_neg (by simp : ¬ false = true)]
    show single.nearest (if (X : Int) + -(Y : Int) = 0 then false else decide ((X : Int) + -(Y : Int) < 0)) ((X : Int) + -(Y : Int)).natAbs L = _
    by_cases c : X = Y
    · rw [if_pos c, if_pos (by omega), show ((X : Int) + -(Y : Int)).natAbs = 0 by omega, near_zero]; rfl
    · rw [if_neg c, if_neg (by omega)]
      by_cases d : Y < X
      · rw [if_pos d, show ((X : Int) + -(Y : Int)).natAbs = X - Y by omega, ← Rn.nearest32 false (X - Y) L (by omega), decide_eq_false (by omega)]; simp
      · rw [if_neg d, show ((X : Int) + -(Y : Int)).natAbs = Y - X by omega, ← Rn.nearest32 true (Y - X) L (by omega), decide_eq_true (by omega)]; simp
  · rw [if_neg (by simp : ¬ true = false)]
    show single.nearest (if -(X : Int) + (Y : Int) = 0 then false else decide (-(X : Int) + (Y : Int) < 0)) (-(X : Int) + (Y : Int)).natAbs L = _
    by_cases c : X = Y
    · rw [if_pos c, if_pos (by omega), show (-(X : Int) + (Y : Int)).natAbs = 0 by omega, near_zero]; rfl
    · rw [if_neg c, if_neg (by omega)]
      by_cases d : Y < X
      · rw [if_pos d, show (-(X : Int) + (Y : Int)).natAbs = X - Y by omega, ← Rn.nearest32 true (X - Y) L (by omega), decide_eq_true (by omega)]
      · rw [if_neg d, show (-(X : Int) + (Y : Int)).natAbs = Y - X by omega, ← Rn.nearest32 false (Y - X) L (by omega), decide_eq_false (by omega)]
  · rw [if_pos (rfl : true = true)]
    show single.nearest (if -(X : Int) + -(Y : Int) = 0 then true else decide (-(X : Int) + -(Y : Int) < 0)) (-(X : Int) + -(Y : Int)).natAbs L = _
    by_cases c : X + Y = 0
    · rw [if_pos c, if_pos (by omega), show (-(X : Int) + -(Y : Int)).natAbs = 0 by omega, near_zero]
      exact (hz (by omega)).symm
    · rw [if_neg c, if_neg (by omega), show (-(X : Int) + -(Y : Int)).natAbs = X + Y by omega, ← Rn.nearest32 true (X + Y) L c, decide_eq_true (by omega)]; simp

/-- The sum of two finite singles, as the model has it. -/
theorem add_fin (a b : Nat) (ha : a < 4294967296) (hb : b < 4294967296) (h1 : mag32 a < 2139095040) (h2 : mag32 b < 2139095040) : single.add a b = some (adF a b) := by
  have e : single.add a b = some (single.write (.number (if signed (sgb32 a) (Fs.mantOf (mag32 a)) (Fs.placeOf (mag32 a) - low32 a b).toNat + signed (sgb32 b) (Fs.mantOf (mag32 b)) (Fs.placeOf (mag32 b) - low32 a b).toNat = 0 then sgb32 a && sgb32 b else signed (sgb32 a) (Fs.mantOf (mag32 a)) (Fs.placeOf (mag32 a) - low32 a b).toNat + signed (sgb32 b) (Fs.mantOf (mag32 b)) (Fs.placeOf (mag32 b) - low32 a b).toNat < 0)
      (signed (sgb32 a) (Fs.mantOf (mag32 a)) (Fs.placeOf (mag32 a) - low32 a b).toNat + signed (sgb32 b) (Fs.mantOf (mag32 b)) (Fs.placeOf (mag32 b) - low32 a b).toNat).natAbs (low32 a b))) := by
    unfold Format.add
    rw [read32_fin a ha h1, read32_fin b hb h2]
    rfl
  rw [e, write_num, signed_mul, signed_mul]
  have hX : Fs.mantOf (mag32 a) * 2 ^ (Fs.placeOf (mag32 a) - low32 a b).toNat = dn32 a (low32 a b) := rfl
  have hY : Fs.mantOf (mag32 b) * 2 ^ (Fs.placeOf (mag32 b) - low32 a b).toNat = dn32 b (low32 a b) := rfl
  rw [hX, hY]
  have hz : dn32 a (low32 a b) = 0 → a = single.word (sgb32 a) 0 := fun h => by
    have hm : Fs.mantOf (mag32 a) = 0 := by
      rcases Nat.mul_eq_zero.1 h with c | c
      · exact c
      · have := Nat.two_pow_pos (Fs.placeOf (mag32 a) - low32 a b).toNat; omega
    have := word_mag32 a ha
    rw [(Fs.mant_zero _).1 hm] at this
    exact this.symm
  unfold adF
  exact congrArg some (sum_cases (sgb32 a) (sgb32 b) _ _ _ a hz)
theorem mul_fin (a b : Nat) (ha : a < 4294967296) (hb : b < 4294967296) (h1 : mag32 a < 2139095040) (h2 : mag32 b < 2139095040) :
    single.mul a b = some (if mag32 a = 0 ∨ mag32 b = 0 then single.word (sgb32 a ^^ sgb32 b) 0 else muF a b) := by
  unfold Format.mul
  rw [read32_fin a ha h1, read32_fin b hb h2]
  show some (single.nearest (sgb32 a ^^ sgb32 b) (Fs.mantOf (mag32 a) * Fs.mantOf (mag32 b)) (Fs.placeOf (mag32 a) + Fs.placeOf (mag32 b))) = _
  refine congrArg some ?_
  by_cases c : mag32 a = 0 ∨ mag32 b = 0
  · rw [if_pos c]
    have : Fs.mantOf (mag32 a) * Fs.mantOf (mag32 b) = 0 := by
      rcases c with c | c
      · rw [(Fs.mant_zero _).2 c, Nat.zero_mul]
      · rw [(Fs.mant_zero _).2 c, Nat.mul_zero]
    rw [this, near_zero]
  · rw [if_neg c]
    have h3 : Fs.mantOf (mag32 a) ≠ 0 := fun d => c (Or.inl ((Fs.mant_zero _).1 d))
    have h4 : Fs.mantOf (mag32 b) ≠ 0 := fun d => c (Or.inr ((Fs.mant_zero _).1 d))
    exact Rn.nearest32 _ _ _ (Nat.mul_ne_zero h3 h4)
theorem sg_word (a : Nat) (ha : a < 4294967296) (h : mag32 a = 2139095040) : single.word (sgb32 a) 2139095040 = a := by
  have := word_mag32 a ha; rwa [h] at this
theorem sgb_eq (a b : Nat) (ha : a < 4294967296) (hb : b < 4294967296) (h : mag32 a = mag32 b) : sgb32 a = sgb32 b ↔ a = b := by
  constructor
  · intro c; rw [← word_mag32 a ha, ← word_mag32 b hb, h, c]
  · intro c; rw [c]
/-- The sum, and where there is none. -/
theorem add_all (a b : Nat) (ha : a < 4294967296) (hb : b < 4294967296) :
    (single.add a b = none ∧ ad32 a b = 2143289344) ∨ single.add a b = some (ad32 a b) := by
  unfold ad32
  by_cases n1 : isN32 a = true
  · obtain ⟨f, e⟩ := read32_nan a ha n1
    exact Or.inl ⟨by unfold Format.add; rw [e]; rfl, if_pos (Or.inl n1)⟩
  by_cases n2 : isN32 b = true
  · obtain ⟨f, e⟩ := read32_nan b hb n2
    refine Or.inl ⟨by unfold Format.add; rw [e]; cases single.read a <;> rfl, if_pos (Or.inr (Or.inl n2))⟩
  have m1 : mag32 a ≤ 2139095040 := Nat.le_of_not_lt fun d => n1 (decide_eq_true d)
  have m2 : mag32 b ≤ 2139095040 := Nat.le_of_not_lt fun d => n2 (decide_eq_true d)
  by_cases i1 : mag32 a = 2139095040
  · by_cases i2 : mag32 b = 2139095040
    · by_cases c : a = b
      · right
        rw [if_neg (by rintro (d | d | d); exact n1 d; exact n2 d; exact d.2.2 c), if_pos i1]
        unfold Format.add
        rw [read32_inf a ha i1, read32_inf b hb i2]
        have e := (sgb_eq a b ha hb (by omega)).2 c
        show Option.map _ (if sgb32 a = sgb32 b then _ else _) = _
        rw [if_pos e]
        show some (single.word (sgb32 a) 2139095040) = _
        rw [sg_word a ha i1]
      · left
        refine ⟨?_, if_pos (Or.inr (Or.inr ⟨i1, i2, c⟩))⟩
        unfold Format.add
        rw [read32_inf a ha i1, read32_inf b hb i2]
        have e : ¬ sgb32 a = sgb32 b := fun d => c ((sgb_eq a b ha hb (by omega)).1 d)
        show Option.map _ (if sgb32 a = sgb32 b then _ else _) = _
        rw [if_neg e]; rfl
    · right
      rw [if_neg (by rintro (d | d | d); exact n1 d; exact n2 d; exact i2 d.2.1), if_pos i1]
      unfold Format.add
      rw [read32_inf a ha i1, read32_fin b hb (by omega)]
      show some (single.word (sgb32 a) 2139095040) = _
      rw [sg_word a ha i1]
  · right
    rw [if_neg (by rintro (d | d | d); exact n1 d; exact n2 d; exact i1 d.1), if_neg i1]
    by_cases i2 : mag32 b = 2139095040
    · rw [if_pos i2]
      unfold Format.add
      rw [read32_fin a ha (by omega), read32_inf b hb i2]
      show some (single.word (sgb32 b) 2139095040) = _
      rw [sg_word b hb i2]
    · rw [if_neg i2]
      exact add_fin a b ha hb (by omega) (by omega)
theorem mul_all (a b : Nat) (ha : a < 4294967296) (hb : b < 4294967296) :
    (single.mul a b = none ∧ mu32 a b = 2143289344) ∨ single.mul a b = some (mu32 a b) := by
  unfold mu32
  by_cases n1 : isN32 a = true
  · obtain ⟨f, e⟩ := read32_nan a ha n1
    exact Or.inl ⟨by unfold Format.mul; rw [e]; rfl, if_pos (Or.inl n1)⟩
  by_cases n2 : isN32 b = true
  · obtain ⟨f, e⟩ := read32_nan b hb n2
    refine Or.inl ⟨by unfold Format.mul; rw [e]; cases single.read a <;> rfl, if_pos (Or.inr (Or.inl n2))⟩
  have m1 : mag32 a ≤ 2139095040 := Nat.le_of_not_lt fun d => n1 (decide_eq_true d)
  have m2 : mag32 b ≤ 2139095040 := Nat.le_of_not_lt fun d => n2 (decide_eq_true d)
  by_cases i1 : mag32 a = 2139095040
  · by_cases i2 : mag32 b = 2139095040
    · right
      rw [if_neg (by rintro (d | d | d | d); exact n1 d; exact n2 d; omega; omega), if_pos (Or.inl i1)]
      unfold Format.mul
      rw [read32_inf a ha i1, read32_inf b hb i2]
      rfl
    · by_cases z : mag32 b = 0
      · left
        refine ⟨?_, if_pos (Or.inr (Or.inr (Or.inl ⟨i1, z⟩)))⟩
        unfold Format.mul
        rw [read32_inf a ha i1, read32_fin b hb (by omega)]
        show Option.map _ (if Fs.mantOf (mag32 b) = 0 then none else _) = _
        rw [if_pos ((Fs.mant_zero _).2 z)]; rfl
      · right
        rw [if_neg (by rintro (d | d | d | d); exact n1 d; exact n2 d; omega; omega), if_pos (Or.inl i1)]
        unfold Format.mul
        rw [read32_inf a ha i1, read32_fin b hb (by omega)]
        show Option.map _ (if Fs.mantOf (mag32 b) = 0 then none else _) = _
        rw [if_neg (fun c => z ((Fs.mant_zero _).1 c))]; rfl
  · by_cases i2 : mag32 b = 2139095040
    · by_cases z : mag32 a = 0
      · left
        refine ⟨?_, if_pos (Or.inr (Or.inr (Or.inr ⟨z, i2⟩)))⟩
        unfold Format.mul
        rw [read32_fin a ha (by omega), read32_inf b hb i2]
        show Option.map _ (if Fs.mantOf (mag32 a) = 0 then none else _) = _
        rw [if_pos ((Fs.mant_zero _).2 z)]; rfl
      · right
        rw [if_neg (by rintro (d | d | d | d); exact n1 d; exact n2 d; omega; omega), if_pos (Or.inr i2)]
        unfold Format.mul
        rw [read32_fin a ha (by omega), read32_inf b hb i2]
        show Option.map _ (if Fs.mantOf (mag32 a) = 0 then none else _) = _
        rw [if_neg (fun c => z ((Fs.mant_zero _).1 c)), Bool.xor_comm]; rfl
    · right
      rw [if_neg (by rintro (d | d | d | d); exact n1 d; exact n2 d; omega; omega), if_neg (by omega)]
      exact mul_fin a b ha hb (by omega) (by omega)
end Go.Proofs.YtckjmcfncfoboaaDoor
