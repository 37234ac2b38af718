/- A slice that the call itself makes; Half. -/
import Derived.Test.YtckjmcfncfoboaaDoorNcm
import Derived.Laws.MakeOwn
import Derived.Laws.OwnMore
import Derived.Laws.BitsAllLaws
namespace Go.Proofs.YtckjmcfncfoboaaDoor
open Go.RowKit

/-- Block B holds the n digits F, and may be written. -/
def Own (w : World) (B n : Nat) (F : Nat → Nat) : Prop := ∀ j, j < n → w.cell? ⟨B, j, none⟩ = some (.int .u32 (F j : Nat)) ∧ w.frozen? ⟨B, j, none⟩ = false ∧ F j < 4294967296
theorem Own.gr {w w' : World} {B n : Nat} {F : Nat → Nat} (h : Own w B n F) (g : Gr w w') : Own w' B n F := fun j hj => ⟨g.cell (cell_lt (h j hj).1) (h j hj).1, by rw [g.froz]; exact (h j hj).2.1, (h j hj).2.2⟩
theorem Own.drewN {w : World} {B n : Nat} {F : Nat → Nat} (h : Own w B n F) (d : Nat) : Own (w.drewN d) B n F := h
theorem Own.drew {w : World} {B n : Nat} {F : Nat → Nat} (h : Own w B n F) : Own w.drew B n F := h
theorem Own.dg {w : World} {B n : Nat} {F : Nat → Nat} (h : Own w B n F) : Dg w B 0 n F := fun j hj => by
  rw [Nat.zero_add]; exact ⟨(h j hj).1, (h j hj).2.2⟩
theorem Own.congr {w : World} {B n : Nat} {F G : Nat → Nat} (h : Own w B n F) (e : ∀ j, j < n → F j = G j) : Own w B n G := fun j hj => by
  rw [← e j hj]; exact h j hj
theorem Own.put {w : World} {B n : Nat} {F : Nat → Nat} (h : Own w B n F) (k v : Nat) (hk : k < n) (hv : v < 4294967296) : Own (w.setCell ⟨B, k, none⟩ (.int .u32 (v : Nat))) B n (fun j => if j = k then v else F j) := fun j hj => by
  obtain ⟨h1, h2, h3⟩ := h j hj
  refine ⟨?_, by rw [World.frozen?_setCell]; exact h2, ?_⟩
  · show _ = some (Value.int .u32 ((if j = k then v else F j : Nat) : Int))
    by_cases c : j = k
    · subst c
      rw [World.cell?_setCell_same _ _ _ h1, if_pos rfl]
    · rw [World.cell?_setCell_other _ _ _ _ (fun e => c (by cases e; rfl)), if_neg c]; exact h1
  · show (if j = k then v else F j) < 4294967296
    split
    · exact hv
    · exact h3

theorem Own.putI {w : World} {B n : Nat} {F : Nat → Nat} (h : Own w B n F) (k v : Nat) (x : Int) (hx : x = (v : Int)) (hk : k < n) (hv : v < 4294967296) : Own (w.setCell ⟨B, k, none⟩ (.int .u32 x)) B n (fun j => if j = k then v else F j) := by
  subst hx; exact h.put k v hk hv
/-- One digit more. -/
theorem Own.more {w : World} {B n : Nat} {G : Nat → Nat} (k : Nat) (h : Own w B n (fun j => if j < k then G j else 0)) (x : Int) (hx : x = (G k : Int)) (hk : k < n) (hv : G k < 4294967296) : Own (w.setCell ⟨B, k, none⟩ (.int .u32 x)) B n (fun j => if j < k + 1 then G j else 0) := by
  refine (h.putI k (G k) x hx hk hv).congr fun j hj => ?_
  show (if j = k then G k else if j < k then G j else 0) = if j < k + 1 then G j else 0
  by_cases c : j = k
  · rw [if_pos c, if_pos (by omega), c]
  · rw [if_neg c]
    by_cases c2 : j < k
    · rw [if_pos c2, if_pos (by omega)]
    · rw [if_neg c2, if_neg (by omega)]

theorem made_own (w : World) (n : Nat) : Own (w.alloc (.cells (madeCells #[.int .u32 0] n) 22)) w.heap.size n (fun _ => 0) := fun j hj => by
  refine ⟨?_, ?_, show (0 : Nat) < 4294967296 by decide⟩
  · rw [World.cell?_alloc_at _ _ _ _ rfl]
    have := toList_madeCells_one (.int .u32 0) n
    rw [← Array.getElem?_toList, this, List.getElem?_replicate, if_pos hj]; rfl
  · rw [frozen?_alloc_cells, frozen_new]

theorem make_nat (n : Nat) (hn : n < 2000000) (w : World) :
    (Instr.makeSlice 93 (.int .i64 (n : Int)) (.int .i64 (n : Int))).run Tryd.prog w = .ok (.slice (some ⟨w.heap.size, 0, none⟩) n n) (w.alloc (.cells (madeCells #[.int .u32 0] n) 22)) := by
  have hi : Tryd.prog.info? 22 = some ((Tryd.prog.info? 22).getD default) := by kernel_rfl
  have := run_make (P := Tryd.prog) w 93 22 _ (.int .u32 0) Tryd.underlying93 hi (by kernel_rfl) .i64 .i64 n n (by omega) (by omega) (by
    have : ((Tryd.prog.info? 22).getD default).bytes = 4 := by kernel_rfl
    rw [this]; omega) (by omega)
  have hs : ((Tryd.prog.info? 22).getD default).size = 1 := by kernel_rfl
  rw [hs, Nat.mul_one, Int.toNat_natCast] at this
  exact this

/-- The digits of the half. -/
def hf (f : Nat → Nat) (n : Nat) (j : Nat) : Nat := f j / 2 + (if j + 1 < n then f (j + 1) % 2 * 2147483648 else 0)
theorem hf_val (f : Nat → Nat) (n k : Nat) (hk : k ≤ n) (hn : 0 < n) : 2 * fval (hf f n) k + f 0 % 2 = fval f k + (if k < n then f k % 2 else 0) * 2 ^ (32 * k) := by
  induction k with
  | zero => rw [if_pos hn]; show 2 * 0 + f 0 % 2 = 0 + f 0 % 2 * 2 ^ (32 * 0); omega
  | succ k ih =>
    have i := ih (by omega)
    rw [if_pos (show k < n by omega)] at i
    have hp : 2 ^ (32 * (k + 1)) = 4294967296 * 2 ^ (32 * k) := by rw [show 32 * (k + 1) = 32 + 32 * k by omega, Nat.pow_add]
    rw [fval, fval, hp]
    generalize 2 ^ (32 * k) = P at *
    have hd := Nat.div_add_mod (f k) 2
    have e2 : f k * P = 2 * (f k / 2 * P) + f k % 2 * P := by rw [← Nat.mul_assoc, ← Nat.add_mul, hd]
    have hh : hf f n k = f k / 2 + (if k + 1 < n then f (k + 1) % 2 * 2147483648 else 0) := rfl
    rw [hh]
    by_cases c : k + 1 < n
    · rw [if_pos c, if_pos c]
      have e1 : (f k / 2 + f (k + 1) % 2 * 2147483648) * P = f k / 2 * P + 2147483648 * (f (k + 1) % 2 * P) := by
        rw [Nat.add_mul, Nat.mul_comm (f (k + 1) % 2) 2147483648, Nat.mul_assoc]
      have e3 : f (k + 1) % 2 * (4294967296 * P) = 4294967296 * (f (k + 1) % 2 * P) := Nat.mul_left_comm _ _ _
      rw [e1, e2, e3]
      generalize f k / 2 * P = x1 at *
      generalize f (k + 1) % 2 * P = x2 at *
      generalize f k % 2 * P = x3 at *
      generalize fval (hf f n) k = x4 at *
      generalize fval f k = x5 at *
      omega
    · rw [if_neg c, if_neg c, Nat.add_zero, Nat.zero_mul, e2]
      generalize f k / 2 * P = x1 at *
      generalize f k % 2 * P = x3 at *
      generalize fval (hf f n) k = x4 at *
      generalize fval f k = x5 at *
      omega
theorem hf_half (f : Nat → Nat) (n : Nat) : fval (hf f n) n = fval f n / 2 := by
  by_cases h : n = 0
  · subst h; show 0 = 0 / 2; rfl
  · have := hf_val f n n (Nat.le_refl _) (by omega)
    rw [if_neg (Nat.lt_irrefl _), Nat.zero_mul] at this
    omega
theorem hf_lt (f : Nat → Nat) (n j : Nat) (h : f j < 4294967296) : hf f n j < 4294967296 := by
  unfold hf; split <;> omega
theorem half_or (x y : Nat) (hx : x < 4294967296) : bits .or .u32 ((x : Int) / 2) ((y : Int) * 2147483648 % 4294967296) = ((x / 2 + y % 2 * 2147483648 : Nat) : Int) := by
  have e1 : ((x : Int) / 2) = ((x / 2 : Nat) : Int) := by omega
  have e2 : (y : Int) * 2147483648 % 4294967296 = ((y % 2 * 2147483648 : Nat) : Int) := by omega
  rw [e1, e2, u32_or_nat _ _ (by omega) (by omega), Nat.or_comm, nat_join 31 _ _ (by omega) (by omega)]
  omega

set_option maxHeartbeats 2000000 in
theorem half_core (a : Option Addr) (b o n cap : Nat) (f : Nat → Nat) (ha : 0 < n → a = some ⟨b, o, none⟩) (hn1 : n < 1000000) (w : World) (hd : Hid (Dg w b o n f)) :
    Calls Tryd.prog 94 #[.slice a n cap] w fun e w' => (∃ v, e = .returned v ∧ NatAt w' v (fval f n / 2)) ∧ Gr w w' := by
  have HA : Hid (0 < n → a = some ⟨b, o, none⟩) := ha
  have M := make_nat n (by omega)
  clear ha
  go_enter Tryd.func94, Tryd.ntmps94
  go_wp2
  go_loopw [4] (fun i wr => ∃ k : Nat, k ≤ n ∧ i = .int .i64 k ∧ Gr w wr ∧ Own wr w.heap.size n (fun j => if j < k then hf f n j else 0)) (fun i _ => n - (intOf i).toNat)
  case atStart => exact ⟨0, by omega, rfl, (Gr.refl w).alloc _ _, (made_own w n).congr (fun j _ => by rw [if_neg (by omega)])⟩
  case round =>
    obtain ⟨k, hk, rfl, hg, ho⟩ := hrel
    have HG : Hid (Gr w wr) := hg
    have HO : Hid (Own wr w.heap.size n (fun j => if j < k then hf f n j else 0)) := ho
    clear hg ho
    by_cases hlt : k < n
    · obtain rfl := HA.out (by omega)
      have c1 : wr.cell? ⟨b, o + k, none⟩ = some (.int .u32 (f k : Nat)) := ((hd.out.gr HG.out) k hlt).1
      have c3 : wr.cell? ⟨w.heap.size, k, none⟩ = some (.int .u32 0) := by
        have h1 := (HO.out k hlt).1
        have h2 : (if k < k then hf f n k else 0) = 0 := if_neg (Nat.lt_irrefl _)
        simp only [h2] at h1
        exact h1
      have c4 : wr.frozen? ⟨w.heap.size, k, none⟩ = false := (HO.out k hlt).2.1
      have hfk : Hid (f k < 4294967296) := (hd.out k hlt).2
      have HG1 : Hid (∀ v, Gr w (wr.setCell ⟨w.heap.size, k, none⟩ v)) := fun v => HG.out.setCell _ _ (Nat.le_refl _)
      by_cases hl2 : k + 1 < n
      · go_wp2
        have C5 : (wr.setCell ⟨w.heap.size, k, none⟩ (.int .u32 ((f k : Int) / 2))).cell? ⟨w.heap.size, k, none⟩ = some (.int .u32 ((f k : Int) / 2)) := World.cell?_setCell_same _ _ _ c3
        have C6 : (wr.setCell ⟨w.heap.size, k, none⟩ (.int .u32 ((f k : Int) / 2))).cell? ⟨b, o + (k + 1), none⟩ = some (.int .u32 (f (k + 1) : Nat)) := ((hd.out.gr (HG1.out _)) (k + 1) hl2).1
        have C7 : (wr.setCell ⟨w.heap.size, k, none⟩ (.int .u32 ((f k : Int) / 2))).frozen? ⟨w.heap.size, k, none⟩ = false := by rw [World.frozen?_setCell]; exact c4
        have HO1 : Hid (∀ x : Int, x = (hf f n k : Int) → Own ((wr.setCell ⟨w.heap.size, k, none⟩ (.int .u32 ((f k : Int) / 2))).setCell ⟨w.heap.size, k, none⟩ (.int .u32 x)) w.heap.size n (fun j => if j < k + 1 then hf f n j else 0)) := by
          intro x hx
          have h1 := HO.out.putI k (f k / 2) ((f k : Int) / 2) (by omega) hlt (by have := hfk.out; omega)
          refine (h1.putI k (hf f n k) x hx hlt (hf_lt f n k hfk.out)).congr fun j hj => ?_
          show (if j = k then hf f n k else if j = k then f k / 2 else if j < k then hf f n j else 0) = if j < k + 1 then hf f n j else 0
          by_cases c : j = k
          · rw [if_pos c, if_pos (by omega), c]
          · rw [if_neg c, if_neg c]
            by_cases c2 : j < k
            · rw [if_pos c2, if_pos (by omega)]
            · rw [if_neg c2, if_neg (by omega)]
        have HX : Hid (bits .or .u32 ((f k : Int) / 2) ((f (k + 1) : Int) * 2147483648 % 4294967296) = (hf f n k : Int)) := by
          show _ = _
          rw [half_or _ _ hfk.out]
          unfold hf
          rw [if_pos hl2]
        have HG2 : Hid (∀ v, Gr w ((wr.setCell ⟨w.heap.size, k, none⟩ (.int .u32 ((f k : Int) / 2))).setCell ⟨w.heap.size, k, none⟩ v)) := fun v => (HG1.out _).setCell _ _ (Nat.le_refl _)
        clear c1 c3 c4
        generalize wr.setCell ⟨w.heap.size, k, none⟩ (.int .u32 ((f k : Int) / 2)) = W1 at *
        go_region
        go_wp2
        go_roundw
        case rel => exact ⟨k + 1, by omega, by go_num, (HG2.out _).drew, (HO1.out _ HX.out).drew⟩
        case measure => simp [intOf]; omega
      · have HX : Hid ((f k : Int) / 2 = (hf f n k : Int)) := by
          show _ = _
          unfold hf
          rw [if_neg hl2]; omega
        go_wp2
        go_roundw
        case rel => exact ⟨k + 1, by omega, by go_num, HG1.out _, Own.more k HO.out _ HX.out hlt (hf_lt f n k hfk.out)⟩
        case measure => simp [intOf]; omega
    · have hkn : k = n := by omega
      subst hkn
      have HD : Hid (0 < k → ∃ b o, some (⟨w.heap.size, 0, none⟩ : Addr) = some ⟨b, o, none⟩ ∧ Dg wr b o k (hf f k)) := fun _ => ⟨_, _, rfl, (HO.out.congr (fun j hj => if_pos hj)).dg⟩
      go_wp2_with (go_at_call 88; refine (trim_any _ k k (hf f k) (Nat.le_refl _) (by omega) _ HD.out).mono ?_; rintro e w' ⟨⟨v, rfl, hv⟩, rfl⟩)
      go_ret
      exact ⟨⟨v, rfl, by rw [← hf_half]; exact hv⟩, HG.out⟩

theorem half_any (v : Value) (N : Nat) (w : World) (h : NatAt w v N) :
    Calls Tryd.prog 94 #[v] w fun e w' => (∃ u, e = .returned u ∧ NatAt w' u (N / 2)) ∧ Gr w w' := by
  obtain ⟨a, n, cap, f, rfl, _, hd, hl, rfl, hs⟩ := h
  by_cases h0 : n = 0
  · subst h0
    exact half_core a 0 0 0 cap f (fun c => by omega) hs w (fun j hj => by omega)
  · obtain ⟨b, o, rfl, d⟩ := hd (by omega)
    exact half_core _ b o n cap f (fun _ => rfl) hs w d
end Go.Proofs.YtckjmcfncfoboaaDoor
