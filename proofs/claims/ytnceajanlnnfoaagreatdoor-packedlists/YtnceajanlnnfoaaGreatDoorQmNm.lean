/- A slice that the call itself makes; Half. Sub. Left; Of. Quo. -/
import Derived.Test.YtnceajanlnnfoaaGreatDoorQmNcm
import Derived.Laws.MakeOwn
import Derived.Laws.OwnMore
import Derived.Laws.BitsAllLaws
import Derived.Laws.ShiftsVarLaws
namespace Go.Proofs.YtnceajanlnnfoaaGreatDoor
open Go.RowKit
def OwnN (w : World) (B n : Nat) (F : Nat → Nat) : Prop := ∀ j, j < n → w.cell? ⟨B, j, none⟩ = some (.int .u32 (F j : Nat)) ∧ w.frozen? ⟨B, j, none⟩ = false ∧ F j < 4294967296
theorem OwnN.drew {w : World} {B n : Nat} {F : Nat → Nat} (h : OwnN w B n F) : OwnN w.drew B n F := h
theorem OwnN.dg {w : World} {B n : Nat} {F : Nat → Nat} (h : OwnN w B n F) : Dg w B 0 n F := fun j hj => by
 rw [Nat.zero_add]; exact ⟨(h j hj).1, (h j hj).2.2⟩
theorem OwnN.congr {w : World} {B n : Nat} {F G : Nat → Nat} (h : OwnN w B n F) (e : ∀ j, j < n → F j = G j) : OwnN w B n G := fun j hj => by
 rw [← e j hj]; exact h j hj
theorem OwnN.put {w : World} {B n : Nat} {F : Nat → Nat} (h : OwnN w B n F) (k v : Nat) (hk : k < n) (hv : v < 4294967296) : OwnN (w.setCell ⟨B, k, none⟩ (.int .u32 (v : Nat))) B n (fun j => if j = k then v else F j) := fun j hj => by
 obtain ⟨h1, h2, h3⟩ := h j hj
 refine ⟨?_, by rw [World.frozen?_setCell]; exact h2, ?_⟩
 ·show _ = some (Value.int .u32 ((if j = k then v else F j : Nat) : Int))
  by_cases c : j = k
  ·subst c
   rw [World.cell?_setCell_same _ _ _ h1, if_pos rfl]
  ·rw [World.cell?_setCell_other _ _ _ _ (fun e => c (by cases e; rfl)), if_neg c]; exact h1
 ·show (if j = k then v else F j) < 4294967296
  split
  ·exact hv
  ·exact h3
theorem OwnN.putI {w : World} {B n : Nat} {F : Nat → Nat} (h : OwnN w B n F) (k v : Nat) (x : Int) (hx : x = (v : Int)) (hk : k < n) (hv : v < 4294967296) : OwnN (w.setCell ⟨B, k, none⟩ (.int .u32 x)) B n (fun j => if j = k then v else F j) := by
 subst hx; exact h.put k v hk hv
theorem OwnN.more {w : World} {B n : Nat} {G : Nat → Nat} (k : Nat) (h : OwnN w B n (fun j => if j < k then G j else 0)) (x : Int) (hx : x = (G k : Int)) (hk : k < n) (hv : G k < 4294967296) : OwnN (w.setCell ⟨B, k, none⟩ (.int .u32 x)) B n (fun j => if j < k + 1 then G j else 0) := by
 refine (h.putI k (G k) x hx hk hv).congr fun j hj => ?_
 show (if j = k then G k else if j < k then G j else 0) = if j < k + 1 then G j else 0
 by_cases c : j = k
 ·rw [if_pos c, if_pos (by omega), c]
 ·rw [if_neg c]
  by_cases c2 : j < k
  ·rw [if_pos c2, if_pos (by omega)]
  ·rw [if_neg c2, if_neg (by omega)]
theorem made_own (w : World) (n : Nat) : OwnN (w.alloc (.cells (madeCells #[.int .u32 0] n) 86)) w.heap.size n (fun _ => 0) := fun j hj => by
 refine ⟨?_, ?_, show (0 : Nat) < 4294967296 by decide⟩
 ·rw [World.cell?_alloc_at _ _ _ _ rfl]
  have := toList_madeCells_one (.int .u32 0) n
  rw [← Array.getElem?_toList, this, List.getElem?_replicate, if_pos hj]; rfl
 ·rw [frozen?_alloc_cells, frozen_new]
theorem make_nat (n : Nat) (hn : n < 2000000) (w : World) :
  (Instr.makeSlice 174 (.int .i64 (n : Int)) (.int .i64 (n : Int))).run Tryz.prog w = .ok (.slice (some ⟨w.heap.size, 0, none⟩) n n) (w.alloc (.cells (madeCells #[.int .u32 0] n) 86)) := by
 have hi : Tryz.prog.info? 86 = some ((Tryz.prog.info? 86).getD default) := by kernel_rfl
 have := run_make (P := Tryz.prog) w 174 86 _ (.int .u32 0) Tryz.underlying174 hi (by kernel_rfl) .i64 .i64 n n (by omega) (by omega) (by
  have : ((Tryz.prog.info? 86).getD default).bytes = 4 := by kernel_rfl
  rw [this]; omega) (by omega)
 have hs : ((Tryz.prog.info? 86).getD default).size = 1 := by kernel_rfl
 rw [hs, Nat.mul_one, Int.toNat_natCast] at this
 exact this
def hf (f : Nat → Nat) (n : Nat) (j : Nat) : Nat := f j / 2 + (if j + 1 < n then f (j + 1) % 2 * 2147483648 else 0)
theorem hf_val (f : Nat → Nat) (n k : Nat) (hk : k ≤ n) (hn : 0 < n) : 2 * fval (hf f n) k + f 0 % 2 = fval f k + (if k < n then f k % 2 else 0) * 2 ^ (32 * k) := by
 induction k with
 | zero => rw [if_pos hn]; show 2 * 0 + f 0 % 2 = 0 + f 0 % 2 * 2 ^ (32 * 0); omega
 | succ k ih =>
  have i := ih (by omega)
  rw [if_pos (show k < n by omega)] at i
  have hp : 2 ^ (32 * (k + 1)) = 4294967296 * 2 ^ (32 * k) := by rw [show 32 * (k + 1) = 32 + 32 * k by omega, Nat.pow_add]
  rw [fval, fval, hp]
  generalize 2 ^ (32 * k) = P at *
  have hd := Nat.div_add_mod (f k) 2
  have e2 : f k * P = 2 * (f k / 2 * P) + f k % 2 * P := by rw [← Nat.mul_assoc, ← Nat.add_mul, hd]
  have hh : hf f n k = f k / 2 + (if k + 1 < n then f (k + 1) % 2 * 2147483648 else 0) := rfl
  rw [hh]
  by_cases c : k + 1 < n
  ·rw [if_pos c, if_pos c]
   have e1 : (f k / 2 + f (k + 1) % 2 * 2147483648) * P = f k / 2 * P + 2147483648 * (f (k + 1) % 2 * P) := by
    rw [Nat.add_mul, Nat.mul_comm (f (k + 1) % 2) 2147483648, Nat.mul_assoc]
   have e3 : f (k + 1) % 2 * (4294967296 * P) = 4294967296 * (f (k + 1) % 2 * P) := Nat.mul_left_comm _ _ _
   rw [e1, e2, e3]
   generalize f k / 2 * P = x1 at *
   generalize f (k + 1) % 2 * P = x2 at *
   generalize f k % 2 * P = x3 at *
   generalize fval (hf f n) k = x4 at *
   generalize fval f k = x5 at *
   omega
  ·rw [if_neg c, if_neg c, Nat.add_zero, Nat.zero_mul, e2]
   generalize f k / 2 * P = x1 at *
   generalize f k % 2 * P = x3 at *
   generalize fval (hf f n) k = x4 at *
   generalize fval f k = x5 at *
   omega
theorem hf_half (f : Nat → Nat) (n : Nat) : fval (hf f n) n = fval f n / 2 := by
 by_cases h : n = 0
 ·subst h; show 0 = 0 / 2; rfl
 ·have := hf_val f n n (Nat.le_refl _) (by omega)
  rw [if_neg (Nat.lt_irrefl _), Nat.zero_mul] at this
  omega
theorem hf_lt (f : Nat → Nat) (n j : Nat) (h : f j < 4294967296) : hf f n j < 4294967296 := by
 unfold hf; split <;> omega
theorem half_or (x y : Nat) (hx : x < 4294967296) : bits .or .u32 ((x : Int) / 2) ((y : Int) * 2147483648 % 4294967296) = ((x / 2 + y % 2 * 2147483648 : Nat) : Int) := by
 have e1 : ((x : Int) / 2) = ((x / 2 : Nat) : Int) := by omega
 have e2 : (y : Int) * 2147483648 % 4294967296 = ((y % 2 * 2147483648 : Nat) : Int) := by omega
 rw [e1, e2, u32_or_nat _ _ (by omega) (by omega), Nat.or_comm, nat_join 31 _ _ (by omega) (by omega)]
 omega
set_option maxHeartbeats 2000000 in
theorem half_core (a : Option Addr) (b o n cap : Nat) (f : Nat → Nat) (ha : 0 < n → a = some ⟨b, o, none⟩) (hn1 : n < 1000000) (w : World) (hd : Hid (Dg w b o n f)) :
  Calls Tryz.prog 204 #[.slice a n cap] w fun e w' => (∃ v, e = .returned v ∧ NatAt w' v (fval f n / 2)) ∧ Gr w w' := by
 have HA : Hid (0 < n → a = some ⟨b, o, none⟩) := ha
 have M := make_nat n (by omega)
 clear ha
 go_enter Tryz.func204, Tryz.ntmps204
 go_wp2
 go_loopw [4] (fun i wr => ∃ k : Nat, k ≤ n ∧ i = .int .i64 k ∧ Gr w wr ∧ OwnN wr w.heap.size n (fun j => if j < k then hf f n j else 0)) (fun i _ => n - (intOf i).toNat)
 case atStart => exact ⟨0, by omega, rfl, (Gr.refl w).alloc _ _, (made_own w n).congr (fun j _ => by rw [if_neg (by omega)])⟩
 case round =>
  obtain ⟨k, hk, rfl, hg, ho⟩ := hrel
  have HG : Hid (Gr w wr) := hg
  have HO : Hid (OwnN wr w.heap.size n (fun j => if j < k then hf f n j else 0)) := ho
  clear hg ho
  by_cases hlt : k < n
  ·obtain rfl := HA.out (by omega)
   have c1 : wr.cell? ⟨b, o + k, none⟩ = some (.int .u32 (f k : Nat)) := ((hd.out.gr HG.out) k hlt).1
   have c3 : wr.cell? ⟨w.heap.size, k, none⟩ = some (.int .u32 0) := by
    have h1 := (HO.out k hlt).1
    have h2 : (if k < k then hf f n k else 0) = 0 := if_neg (Nat.lt_irrefl _)
    simp only [h2] at h1
    exact h1
   have c4 : wr.frozen? ⟨w.heap.size, k, none⟩ = false := (HO.out k hlt).2.1
   have hfk : Hid (f k < 4294967296) := (hd.out k hlt).2
   have HG1 : Hid (∀ v, Gr w (wr.setCell ⟨w.heap.size, k, none⟩ v)) := fun v => HG.out.setCell _ _ (Nat.le_refl _)
   by_cases hl2 : k + 1 < n
   ·go_wp2
    have C5 : (wr.setCell ⟨w.heap.size, k, none⟩ (.int .u32 ((f k : Int) / 2))).cell? ⟨w.heap.size, k, none⟩ = some (.int .u32 ((f k : Int) / 2)) := World.cell?_setCell_same _ _ _ c3
    have C6 : (wr.setCell ⟨w.heap.size, k, none⟩ (.int .u32 ((f k : Int) / 2))).cell? ⟨b, o + (k + 1), none⟩ = some (.int .u32 (f (k + 1) : Nat)) := ((hd.out.gr (HG1.out _)) (k + 1) hl2).1
    have C7 : (wr.setCell ⟨w.heap.size, k, none⟩ (.int .u32 ((f k : Int) / 2))).frozen? ⟨w.heap.size, k, none⟩ = false := by rw [World.frozen?_setCell]; exact c4
    have HO1 : Hid (∀ x : Int, x = (hf f n k : Int) → OwnN ((wr.setCell ⟨w.heap.size, k, none⟩ (.int .u32 ((f k : Int) / 2))).setCell ⟨w.heap.size, k, none⟩ (.int .u32 x)) w.heap.size n (fun j => if j < k + 1 then hf f n j else 0)) := by
     intro x hx
     have h1 := HO.out.putI k (f k / 2) ((f k : Int) / 2) (by omega) hlt (by have := hfk.out; omega)
     refine (h1.putI k (hf f n k) x hx hlt (hf_lt f n k hfk.out)).congr fun j hj => ?_
     show (if j = k then hf f n k else if j = k then f k / 2 else if j < k then hf f n j else 0) = if j < k + 1 then hf f n j else 0
     by_cases c : j = k
     ·rw [if_pos c, if_pos (by omega), c]
     ·rw [if_neg c, if_neg c]
      by_cases c2 : j < k
      ·rw [if_pos c2, if_pos (by omega)]
      ·rw [if_neg c2, if_neg (by omega)]
    have HX : Hid (bits .or .u32 ((f k : Int) / 2) ((f (k + 1) : Int) * 2147483648 % 4294967296) = (hf f n k : Int)) := by
     show _ = _
     rw [half_or _ _ hfk.out]
     unfold hf
     rw [if_pos hl2]
    have HG2 : Hid (∀ v, Gr w ((wr.setCell ⟨w.heap.size, k, none⟩ (.int .u32 ((f k : Int) / 2))).setCell ⟨w.heap.size, k, none⟩ v)) := fun v => (HG1.out _).setCell _ _ (Nat.le_refl _)
    clear c1 c3 c4
    generalize wr.setCell ⟨w.heap.size, k, none⟩ (.int .u32 ((f k : Int) / 2)) = W1 at *
    go_region
    go_wp2
    go_roundw
    case rel => exact ⟨k + 1, by omega, by go_num, (HG2.out _).drew, (HO1.out _ HX.out).drew⟩
    case measure => simp [intOf]; omega
   ·have HX : Hid ((f k : Int) / 2 = (hf f n k : Int)) := by
     show _ = _
     unfold hf
     rw [if_neg hl2]; omega
    go_wp2
    go_roundw
    case rel => exact ⟨k + 1, by omega, by go_num, HG1.out _, OwnN.more k HO.out _ HX.out hlt (hf_lt f n k hfk.out)⟩
    case measure => simp [intOf]; omega
  ·have hkn : k = n := by omega
   subst hkn
   have HD : Hid (0 < k → ∃ b o, some (⟨w.heap.size, 0, none⟩ : Addr) = some ⟨b, o, none⟩ ∧ Dg wr b o k (hf f k)) := fun _ => ⟨_, _, rfl, (HO.out.congr (fun j hj => if_pos hj)).dg⟩
   go_wp2_with (go_at_call 156; refine (trim_any _ k k (hf f k) (Nat.le_refl _) (by omega) _ HD.out).mono ?_; rintro e w' ⟨⟨v, rfl, hv⟩, rfl⟩)
   go_ret
   exact ⟨⟨v, rfl, by rw [← hf_half]; exact hv⟩, HG.out⟩
theorem half_any (v : Value) (N : Nat) (w : World) (h : NatAt w v N) :
  Calls Tryz.prog 204 #[v] w fun e w' => (∃ u, e = .returned u ∧ NatAt w' u (N / 2)) ∧ Gr w w' := by
 obtain ⟨a, n, cap, f, rfl, _, hd, hl, rfl, hs⟩ := h
 by_cases h0 : n = 0
 ·subst h0
  exact half_core a 0 0 0 cap f (fun c => by omega) hs w (fun j hj => by omega)
 ·obtain ⟨b, o, rfl, d⟩ := hd (by omega)
  exact half_core _ b o n cap f (fun _ => rfl) hs w d
end Go.Proofs.YtnceajanlnnfoaaGreatDoor
namespace Go.Proofs.YtnceajanlnnfoaaGreatDoor
open Go.RowKit
def br (f g : Nat → Nat) : Nat → Nat
 | 0 => 0
 | k + 1 => if f k < g k + br f g k then 1 else 0
def sd (f g : Nat → Nat) (k : Nat) : Nat := f k + br f g (k + 1) * 4294967296 - br f g k - g k
theorem br_le (f g : Nat → Nat) (k : Nat) : br f g k ≤ 1 := by
 cases k with
 | zero => exact Nat.zero_le _
 | succ k => unfold br; split <;> omega
theorem sd_val (f g : Nat → Nat) (k : Nat) (hf : ∀ j, j < k → f j < 4294967296) (hg : ∀ j, j < k → g j < 4294967296) : fval f k + br f g k * 2 ^ (32 * k) = fval (sd f g) k + fval g k ∧ ∀ j, j < k → sd f g j < 4294967296 := by
 induction k with
 | zero => exact ⟨rfl, fun j hj => by omega⟩
 | succ k ih =>
  obtain ⟨i1, i2⟩ := ih (fun j hj => hf j (by omega)) (fun j hj => hg j (by omega))
  have h1 := hf k (by omega)
  have h2 := hg k (by omega)
  have h3 := br_le f g k
  have hp : 2 ^ (32 * (k + 1)) = 4294967296 * 2 ^ (32 * k) := by rw [show 32 * (k + 1) = 32 + 32 * k by omega, Nat.pow_add]
  have hb : br f g (k + 1) = if f k < g k + br f g k then 1 else 0 := rfl
  have hs : sd f g k = f k + br f g (k + 1) * 4294967296 - br f g k - g k := rfl
  have key : f k + br f g (k + 1) * 4294967296 = sd f g k + br f g k + g k ∧ sd f g k < 4294967296 := by
   rw [hs, hb]
   split <;> omega
  refine ⟨?_, fun j hj => ?_⟩
  ·rw [fval, fval, fval, hp]
   generalize 2 ^ (32 * k) = P at *
   have e := congrArg (· * P) key.1
   simp only [Nat.add_mul] at e
   have e4 : br f g (k + 1) * (4294967296 * P) = br f g (k + 1) * 4294967296 * P := (Nat.mul_assoc _ _ _).symm
   rw [e4]
   omega
  ·by_cases c : j = k
   ·rw [c]; exact key.2
   ·exact i2 j (by omega)
theorem sd_sub (f g : Nat → Nat) (n : Nat) (hf : ∀ j, j < n → f j < 4294967296) (hg : ∀ j, j < n → g j < 4294967296) (hle : fval g n ≤ fval f n) : fval (sd f g) n = fval f n - fval g n := by
 obtain ⟨h1, h2⟩ := sd_val f g n hf hg
 have h3 := fval_lt (sd f g) n h2
 have h4 := br_le f g n
 rcases Nat.lt_or_ge 0 (br f g n) with c | c
 ·have : br f g n = 1 := by omega
  rw [this, Nat.one_mul] at h1
  omega
 ·have : br f g n = 0 := by omega
  rw [this, Nat.zero_mul] at h1
  omega
def ext (g : Nat → Nat) (m j : Nat) : Nat := if j < m then g j else 0
theorem ext_val (g : Nat → Nat) (m n : Nat) (h : m ≤ n) : fval (ext g m) n = fval g m := by
 rw [fval_zero (ext g m) m n h (fun j h1 _ => if_neg (by omega))]
 exact fval_congr m (fun j hj => if_pos hj)
theorem ext_lt (g : Nat → Nat) (m j : Nat) (h : j < m → g j < 4294967296) : ext g m j < 4294967296 := by
 unfold ext; split
 ·exact h ‹_›
 ·decide
set_option maxHeartbeats 2000000 in
theorem sub_core (a c : Option Addr) (b o b' o' n m cap cap' : Nat) (f g : Nat → Nat) (ha : 0 < n → a = some ⟨b, o, none⟩) (hc : 0 < m → c = some ⟨b', o', none⟩) (hn1 : n < 1000000) (hmn : m ≤ n) (w : World) (hd : Hid (Dg w b o n f)) (hd' : Hid (Dg w b' o' m g)) (hle : Hid (fval g m ≤ fval f n)) :
  Calls Tryz.prog 203 #[.slice a n cap, .slice c m cap'] w fun e w' => (∃ v, e = .returned v ∧ NatAt w' v (fval f n - fval g m)) ∧ Gr w w' := by
 have HA : Hid (0 < n → a = some ⟨b, o, none⟩) := ha
 have HC : Hid (0 < m → c = some ⟨b', o', none⟩) := hc
 have M := make_nat n (by omega)
 clear ha hc
 go_enter Tryz.func203, Tryz.ntmps203
 go_wp2
 go_loopw [6, 7] (fun s i wr => ∃ k : Nat, k ≤ n ∧ s = .int .i64 (br f (ext g m) k : Nat) ∧ i = .int .i64 k ∧ Gr w wr ∧ OwnN wr w.heap.size n (fun j => if j < k then sd f (ext g m) j else 0)) (fun _ i _ => n - (intOf i).toNat)
 case atStart => exact ⟨0, by omega, rfl, rfl, (Gr.refl w).alloc _ _, (made_own w n).congr (fun j _ => by rw [if_neg (by omega)])⟩
 case round =>
  obtain ⟨k, hk, rfl, rfl, hg, ho⟩ := hrel
  have HG : Hid (Gr w wr) := hg
  have HO : Hid (OwnN wr w.heap.size n (fun j => if j < k then sd f (ext g m) j else 0)) := ho
  clear hg ho
  by_cases hlt : k < n
  ·obtain rfl := HA.out (by omega)
   have c1 : wr.cell? ⟨b, o + k, none⟩ = some (.int .u32 (f k : Nat)) := ((hd.out.gr HG.out) k hlt).1
   have c3 : wr.cell? ⟨w.heap.size, k, none⟩ = some (.int .u32 0) := by
    have h1 := (HO.out k hlt).1
    have h2 : (if k < k then sd f (ext g m) k else 0) = 0 := if_neg (Nat.lt_irrefl _)
    simp only [h2] at h1
    exact h1
   have c4 : wr.frozen? ⟨w.heap.size, k, none⟩ = false := (HO.out k hlt).2.1
   have HG1 : Hid (∀ v, Gr w (wr.setCell ⟨w.heap.size, k, none⟩ v)) := fun v => HG.out.setCell _ _ (Nat.le_refl _)
   have hfk := (hd.out k hlt).2
   have hbk := br_le f (ext g m) k
   have hgk : ext g m k < 4294967296 := ext_lt g m k (fun h => (hd'.out k h).2)
   have HB1 : Hid (br f (ext g m) (k + 1) = if f k < ext g m k + br f (ext g m) k then 1 else 0) := rfl
   have hsd : sd f (ext g m) k = f k + br f (ext g m) (k + 1) * 4294967296 - br f (ext g m) k - ext g m k := rfl
   have hsl : Hid (sd f (ext g m) k < 4294967296) := by
    show _ < _
    rw [hsd, HB1.out]
    split <;> omega
   have HMore : Hid (∀ x : Int, x = (sd f (ext g m) k : Int) → OwnN (wr.setCell ⟨w.heap.size, k, none⟩ (.int .u32 x)) w.heap.size n (fun j => if j < k + 1 then sd f (ext g m) j else 0)) := fun x hx => OwnN.more k HO.out x hx hlt hsl.out
   have HSD : Hid (sd f (ext g m) k = f k + br f (ext g m) (k + 1) * 4294967296 - br f (ext g m) k - ext g m k) := hsd
   clear hsd
   have HEx : Hid (ext g m k = if k < m then g k else 0) := rfl
   by_cases hkm : k < m
   ·obtain rfl := HC.out (by omega)
    have c2 : wr.cell? ⟨b', o' + k, none⟩ = some (.int .u32 (g k : Nat)) := ((hd'.out.gr HG.out) k hkm).1
    have hex : ext g m k = g k := by rw [HEx.out, if_pos hkm]
    rw [hex] at hgk
    have HE : Hid (ext g m k = g k) := hex
    clear hex
    by_cases hbo : f k < g k + br f (ext g m) k
    ·have hb2 : Hid (br f (ext g m) (k + 1) = 1) := by show _ = _; rw [HB1.out, HE.out, if_pos hbo]
     have HS2 : Hid (sd f (ext g m) k = f k + 4294967296 - br f (ext g m) k - g k) := by show _ = _; rw [HSD.out, hb2.out, HE.out, Nat.one_mul]
     generalize br f (ext g m) k = B at *
     have hbo' : (f k : Int) - B - g k < 0 := by omega
     go_wp2
     go_roundw
     case rel => exact ⟨k + 1, by omega, by rw [hb2.out]; rfl, by go_num, HG1.out _, HMore.out _ (by rw [HS2.out]; omega)⟩
     case measure => simp [intOf]; omega
    ·have hb2 : Hid (br f (ext g m) (k + 1) = 0) := by show _ = _; rw [HB1.out, HE.out, if_neg hbo]
     have HS2 : Hid (sd f (ext g m) k = f k - br f (ext g m) k - g k) := by show _ = _; rw [HSD.out, hb2.out, HE.out, Nat.zero_mul, Nat.add_zero]
     generalize br f (ext g m) k = B at *
     have hbo' : 0 ≤ (f k : Int) - B - g k := by omega
     go_wp2
     go_roundw
     case rel => exact ⟨k + 1, by omega, by rw [hb2.out]; rfl, by go_num, HG1.out _, HMore.out _ (by rw [HS2.out]; omega)⟩
     case measure => simp [intOf]; omega
   ·have hex : ext g m k = 0 := by rw [HEx.out, if_neg hkm]
    clear hgk
    have HE : Hid (ext g m k = 0) := hex
    clear hex
    by_cases hbo : f k < br f (ext g m) k
    ·have hb2 : Hid (br f (ext g m) (k + 1) = 1) := by show _ = _; rw [HB1.out, HE.out, if_pos (by omega)]
     have HS2 : Hid (sd f (ext g m) k = f k + 4294967296 - br f (ext g m) k) := by show _ = _; rw [HSD.out, hb2.out, HE.out, Nat.one_mul, Nat.sub_zero]
     generalize br f (ext g m) k = B at *
     have hbo' : (f k : Int) - B < 0 := by omega
     go_wp2
     go_roundw
     case rel => exact ⟨k + 1, by omega, by rw [hb2.out]; rfl, by go_num, HG1.out _, HMore.out _ (by rw [HS2.out]; omega)⟩
     case measure => simp [intOf]; omega
    ·have hb2 : Hid (br f (ext g m) (k + 1) = 0) := by show _ = _; rw [HB1.out, HE.out, if_neg (by omega)]
     have HS2 : Hid (sd f (ext g m) k = f k - br f (ext g m) k) := by show _ = _; rw [HSD.out, hb2.out, HE.out, Nat.zero_mul, Nat.add_zero, Nat.sub_zero]
     generalize br f (ext g m) k = B at *
     have hbo' : 0 ≤ (f k : Int) - B := by omega
     go_wp2
     go_roundw
     case rel => exact ⟨k + 1, by omega, by rw [hb2.out]; rfl, by go_num, HG1.out _, HMore.out _ (by rw [HS2.out]; omega)⟩
     case measure => simp [intOf]; omega
  ·have hkn : k = n := by omega
   subst hkn
   have HD : Hid (0 < k → ∃ b o, some (⟨w.heap.size, 0, none⟩ : Addr) = some ⟨b, o, none⟩ ∧ Dg wr b o k (sd f (ext g m))) := fun _ => ⟨_, _, rfl, (HO.out.congr (fun j hj => if_pos hj)).dg⟩
   have HV : Hid (fval (sd f (ext g m)) k = fval f k - fval g m) := by
    show _ = _
    rw [sd_sub f (ext g m) k (fun j hj => (hd.out j hj).2) (fun j _ => ext_lt g m j (fun h => (hd'.out j h).2)) (by rw [ext_val g m k hmn]; exact hle.out), ext_val g m k hmn]
   go_wp2_with (go_at_call 156; refine (trim_any _ k k (sd f (ext g m)) (Nat.le_refl _) (by omega) _ HD.out).mono ?_; rintro e w' ⟨⟨v, rfl, hv⟩, rfl⟩)
   go_ret
   exact ⟨⟨v, rfl, by rw [← HV.out]; exact hv⟩, HG.out⟩
theorem sub_any (u v : Value) (A B : Nat) (hle : B ≤ A) (w : World) (h : NatAt w u A) (h' : NatAt w v B) :
  Calls Tryz.prog 203 #[u, v] w fun e w' => (∃ x, e = .returned x ∧ NatAt w' x (A - B)) ∧ Gr w w' := by
 obtain ⟨a, n, cap, f, rfl, _, hd, hl, rfl, hs⟩ := h
 obtain ⟨c, m, cap', g, rfl, _, hd', hl', rfl, hs'⟩ := h'
 have hmn : m ≤ n := by
  rcases Nat.lt_or_ge n m with q | q
  ·have hf : ∀ j, j < n → f j < 4294967296 := fun j hj => by
    obtain ⟨b, o, _, d⟩ := hd (by omega)
    exact (d j hj).2
   have := fval_short f g n m q hf (hl' (by omega))
   omega
  ·exact q
 by_cases h0 : n = 0
 ·subst h0
  have hm0 : m = 0 := by omega
  subst hm0
  exact sub_core a c 0 0 0 0 0 0 cap cap' f g (fun c => by omega) (fun c => by omega) hs hmn w (fun j hj => by omega) (fun j hj => by omega) hle
 ·obtain ⟨b, o, rfl, d⟩ := hd (by omega)
  by_cases h1 : m = 0
  ·subst h1
   exact sub_core _ c b o 0 0 n 0 cap cap' f g (fun _ => rfl) (fun c => by omega) hs hmn w d (fun j hj => by omega) hle
  ·obtain ⟨b', o', rfl, d'⟩ := hd' (by omega)
   exact sub_core _ _ b o b' o' n m cap cap' f g (fun _ => rfl) (fun _ => rfl) hs hmn w d d' hle
end Go.Proofs.YtnceajanlnnfoaaGreatDoor
namespace Go.Proofs.YtnceajanlnnfoaaGreatDoor
open Go.RowKit
def lo (f : Nat → Nat) (s i : Nat) : Nat := f i * 2 ^ s % 4294967296
def hi (f : Nat → Nat) (s i : Nat) : Nat := f i * 2 ^ s / 4294967296
def lf (f : Nat → Nat) (q s k j : Nat) : Nat := if j < q then 0 else (if j - q < k then lo f s (j - q) else 0) + (if 0 < j - q ∧ j - q ≤ k then hi f s (j - q - 1) else 0)
theorem lf_keep (f : Nat → Nat) (q s k j : Nat) (h : j < q + k) : lf f q s (k + 1) j = lf f q s k j := by
 unfold lf
 by_cases c : j < q
 ·rw [if_pos c, if_pos c]
 ·rw [if_neg c, if_neg c, if_pos (show j - q < k + 1 by omega), if_pos (show j - q < k by omega)]
  have h1 : (0 < j - q ∧ j - q ≤ k + 1) ↔ (0 < j - q ∧ j - q ≤ k) := by omega
  by_cases c2 : 0 < j - q ∧ j - q ≤ k
  ·rw [if_pos c2, if_pos (h1.2 c2)]
  ·rw [if_neg c2, if_neg (fun x => c2 (h1.1 x))]
theorem lf_at (f : Nat → Nat) (q s k : Nat) : lf f q s k (q + k) = (if 0 < k then hi f s (k - 1) else 0) ∧ lf f q s (k + 1) (q + k) = lo f s k + (if 0 < k then hi f s (k - 1) else 0) ∧ lf f q s k (q + k + 1) = 0 ∧ lf f q s (k + 1) (q + k + 1) = hi f s k := by
 unfold lf
 refine ⟨?_, ?_, ?_, ?_⟩
 ·rw [if_neg (by omega), show q + k - q = k by omega, if_neg (Nat.lt_irrefl _), Nat.zero_add]
  by_cases c : 0 < k
  ·rw [if_pos ⟨c, Nat.le_refl _⟩, if_pos c]
  ·rw [if_neg (fun x => c x.1), if_neg c]
 ·rw [if_neg (by omega), show q + k - q = k by omega, if_pos (by omega)]
  by_cases c : 0 < k
  ·rw [if_pos ⟨c, by omega⟩, if_pos c]
  ·rw [if_neg (fun x => c x.1), if_neg c]
 ·rw [if_neg (by omega), show q + k + 1 - q = k + 1 by omega, if_neg (by omega), if_neg (by omega)]
 ·rw [if_neg (by omega), show q + k + 1 - q = k + 1 by omega, if_neg (by omega), if_pos ⟨by omega, by omega⟩, Nat.zero_add]; rfl
theorem lf_far (f : Nat → Nat) (q s k j : Nat) (h : q + k < j) : lf f q s k j = 0 := by
 unfold lf
 rw [if_neg (by omega), if_neg (by omega), if_neg (by omega)]
theorem lf_val (f : Nat → Nat) (q s k : Nat) : fval (lf f q s k) (q + k + 1) = fval f k * 2 ^ (32 * q + s) := by
 induction k with
 | zero =>
  rw [show fval f 0 = 0 from rfl, Nat.zero_mul, fval_zero (lf f q s 0) 0 (q + 0 + 1) (Nat.zero_le _) (fun j _ hj => ?_)]
  ·rfl
  ·unfold lf
   by_cases c : j < q
   ·rw [if_pos c]
   ·rw [if_neg c, if_neg (by omega), if_neg (by omega)]
 | succ k ih =>
  obtain ⟨a1, a2, a3, a4⟩ := lf_at f q s k
  have hk := fval_congr (f := lf f q s (k + 1)) (g := lf f q s k) (q + k) (fun j hj => lf_keep f q s k j hj)
  have e : fval (lf f q s (k + 1)) (q + (k + 1) + 1) = fval (lf f q s (k + 1)) (q + k) + lf f q s (k + 1) (q + k) * 2 ^ (32 * (q + k)) + lf f q s (k + 1) (q + k + 1) * 2 ^ (32 * (q + k + 1)) := rfl
  have ih' : fval (lf f q s k) (q + k) + lf f q s k (q + k) * 2 ^ (32 * (q + k)) = fval f k * 2 ^ (32 * q + s) := ih
  rw [e, hk, a2, a4]
  rw [a1] at ih'
  have hd : hi f s k * 4294967296 + lo f s k = f k * 2 ^ s := by
   have := Nat.div_add_mod (f k * 2 ^ s) 4294967296
   unfold hi lo; omega
  have hp : 2 ^ (32 * (q + k + 1)) = 4294967296 * 2 ^ (32 * (q + k)) := by rw [show 32 * (q + k + 1) = 32 + 32 * (q + k) by omega, Nat.pow_add]
  have hp2 : f k * 2 ^ (32 * k) * 2 ^ (32 * q + s) = f k * 2 ^ s * 2 ^ (32 * (q + k)) := by
   have e2 : 2 ^ (32 * k) * 2 ^ (32 * q + s) = 2 ^ s * 2 ^ (32 * (q + k)) := by rw [← Nat.pow_add, ← Nat.pow_add, show 32 * k + (32 * q + s) = s + 32 * (q + k) by omega]
   rw [Nat.mul_assoc, e2, ← Nat.mul_assoc]
  rw [hp, fval, Nat.add_mul (fval f k), hp2, ← hd, ← ih']
  generalize 2 ^ (32 * (q + k)) = P at *
  generalize (if 0 < k then hi f s (k - 1) else 0) = Y at *
  rw [Nat.add_mul, Nat.add_mul, ← Nat.mul_assoc (hi f s k)]
  generalize hi f s k * 4294967296 * P = z1 at *
  generalize lo f s k * P = z2 at *
  generalize Y * P = z3 at *
  generalize fval (lf f q s k) (q + k) = z4 at *
  omega
theorem lo_hi (f : Nat → Nat) (s i : Nat) (hs : s ≤ 32) (h : f i < 4294967296) : lo f s i < 4294967296 ∧ lo f s i % 2 ^ s = 0 ∧ hi f s i < 2 ^ s := by
 refine ⟨Nat.mod_lt _ (by decide), ?_, ?_⟩
 ·unfold lo
  have e : (4294967296 : Nat) = 2 ^ s * 2 ^ (32 - s) := by rw [← Nat.pow_add, show s + (32 - s) = 32 by omega]
  rw [Nat.mul_comm, e, Nat.mul_mod_mul_left, Nat.mul_mod_right]
 ·unfold hi
  rw [Nat.div_lt_iff_lt_mul (by decide), Nat.mul_comm]
  exact Nat.mul_lt_mul_of_pos_left h (Nat.two_pow_pos s)
theorem natAt_short {w : World} {v : Value} {N : Nat} (h : NatAt w v N) (K : Nat) (hN : N < 2 ^ (32 * K)) : ∃ (a : Option Addr) (n cap : Nat) (f : Nat → Nat), v = .slice a n cap ∧ n ≤ cap ∧ (0 < n → ∃ b o, a = some ⟨b, o, none⟩ ∧ Dg w b o n f) ∧ (0 < n → f (n - 1) ≠ 0) ∧ fval f n = N ∧ n < 1000000 ∧ n ≤ K := by
 obtain ⟨a, n, cap, f, e, hc, hd, hl, hv, hs⟩ := h
 refine ⟨a, n, cap, f, e, hc, hd, hl, hv, hs, ?_⟩
 rcases Nat.lt_or_ge K n with c | c
 ·obtain ⟨k, rfl⟩ : ∃ k, n = k + 1 := ⟨n - 1, by omega⟩
  have h1 : f k ≠ 0 := hl (by omega)
  have h2 : 1 * 2 ^ (32 * k) ≤ f k * 2 ^ (32 * k) := Nat.mul_le_mul_right _ (by omega)
  have h3 : 2 ^ (32 * K) ≤ 2 ^ (32 * k) := Nat.pow_le_pow_right (by decide) (by omega)
  have h4 : fval f (k + 1) = fval f k + f k * 2 ^ (32 * k) := rfl
  omega
 ·exact c
set_option maxHeartbeats 2000000 in
theorem left_core (b o n cap q s : Nat) (N : Int) (f : Nat → Nat) (hn0 : 0 < n) (hn1 : n < 100000) (hq : q < 100000) (hs : s < 32) (hN : N = 32 * q + s) (w : World) (hd : Hid (Dg w b o n f)) :
  Calls Tryz.prog 181 #[.slice (some ⟨b, o, none⟩) n cap, .int .i64 N] w fun e w' => (∃ v, e = .returned v ∧ NatAt w' v (fval f n * 2 ^ (32 * q + s))) ∧ Gr w w' := by
 have hq' : N / 32 = q := by omega
 have hs' : N % 32 = s := by omega
 have hN0 : 0 ≤ N := by omega
 have hN1 : N < 100000000 := by omega
 have M : ∀ w, (Instr.makeSlice 174 (.int .i64 ((n : Int) + N / 32 + 1)) (.int .i64 ((n : Int) + N / 32 + 1))).run Tryz.prog w = .ok (.slice (some ⟨w.heap.size, 0, none⟩) (n + q + 1) (n + q + 1)) (w.alloc (.cells (madeCells #[.int .u32 0] (n + q + 1)) 86)) := by
  rw [hq']; exact fun w => make_nat (n + q + 1) (by omega) w
 have HQ : Hid (N / 32 = q) := hq'
 have HS : Hid (N % 32 = s) := hs'
 clear hq' hs' hN
 have hne : ((n : Int) == 0) = false := by rw [beq_eq_false_iff_ne]; omega
 go_enter Tryz.func181, Tryz.ntmps181
 go_wp2
 go_loopw [6] (fun i wr => ∃ k : Nat, k ≤ n ∧ i = .int .i64 k ∧ Gr w wr ∧ OwnN wr w.heap.size (n + q + 1) (lf f q s k)) (fun i _ => n - (intOf i).toNat)
 case atStart =>
  refine ⟨0, by omega, rfl, (Gr.refl w).alloc _ _, (made_own w (n + q + 1)).congr (fun j _ => ?_)⟩
  unfold lf
  by_cases c : j < q
  ·rw [if_pos c]
  ·rw [if_neg c, if_neg (by omega), if_neg (by omega)]
 case round =>
  obtain ⟨k, hk, rfl, hg, ho⟩ := hrel
  have HG : Hid (Gr w wr) := hg
  have HO : Hid (OwnN wr w.heap.size (n + q + 1) (lf f q s k)) := ho
  clear hg ho
  by_cases hlt : k < n
  ·have c1 : wr.cell? ⟨b, o + k, none⟩ = some (.int .u32 (f k : Nat)) := ((hd.out.gr HG.out) k hlt).1
   have c3 : wr.cell? ⟨w.heap.size, k + q, none⟩ = some (.int .u32 (lf f q s k (k + q) : Nat)) := (HO.out (k + q) (by omega)).1
   have c4 : wr.frozen? ⟨w.heap.size, k + q, none⟩ = false := (HO.out (k + q) (by omega)).2.1
   have hfk := (hd.out k hlt).2
   obtain ⟨l1, l2, l3, l4⟩ := lf_at f q s k
   obtain ⟨p1, p2, p3⟩ := lo_hi f s k (by omega) hfk
   have hpow : 2 ^ s ≤ 4294967296 := by
    rw [show (4294967296 : Nat) = 2 ^ 32 from rfl]
    exact Nat.pow_le_pow_right (by decide) (by omega)
   have hx64 : f k * 2 ^ s < 18446744073709551616 := by
    have := Nat.mul_le_mul (Nat.le_of_lt hfk) hpow
    have h2 : f k * 2 ^ s < 4294967296 * 2 ^ s := Nat.mul_lt_mul_of_pos_right hfk (Nat.two_pow_pos s)
    have h3 : 4294967296 * 2 ^ s ≤ 4294967296 * 4294967296 := Nat.mul_le_mul_left _ hpow
    omega
   -- what stands there already lies below what is put in
   have hV1 : lf f q s k (k + q) < 2 ^ s := by
    rw [Nat.add_comm k q, l1]
    split
    ·exact (lo_hi f s (k - 1) (by omega) (hd.out (k - 1) (by omega)).2).2.2
    ·exact Nat.two_pow_pos s
   have HX : Hid (IntKind.u64.wrap ((f k : Int) * 2 ^ s) = ((f k * 2 ^ s : Nat) : Int)) := by
    show _ = _
    have e : (f k : Int) * 2 ^ s = ((f k * 2 ^ s : Nat) : Int) := by rw [Int.natCast_mul, Int.natCast_pow]; rfl
    rw [e, IntKind.wrap_u64]; omega
   have HO1 : Hid (bits .or .u32 ((lf f q s k (k + q) : Nat) : Int) (((f k * 2 ^ s : Nat) : Int) % 4294967296) = ((lf f q s (k + 1) (k + q) : Nat) : Int)) := by
    show _ = _
    have e : ((f k * 2 ^ s : Nat) : Int) % 4294967296 = ((lo f s k : Nat) : Int) := by unfold lo; omega
    rw [e, u32_or_nat _ _ (by omega) p1, Nat.or_comm, nat_join s _ _ p2 hV1, Nat.add_comm k q, l2, l1]
   have hL1 : lf f q s (k + 1) (k + q) < 4294967296 := by
    rw [Nat.add_comm k q, l2, ← l1]
    have h5 := hV1
    rw [Nat.add_comm k q] at h5
    -- a multiple of 2^s below 2^32, and less than 2^s more
    have e : (4294967296 : Nat) = 2 ^ s * 2 ^ (32 - s) := by rw [← Nat.pow_add, show s + (32 - s) = 32 by omega]
    have hq1 : lo f s k / 2 ^ s < 2 ^ (32 - s) := by
     rw [Nat.div_lt_iff_lt_mul (Nat.two_pow_pos s), Nat.mul_comm, ← e]; exact p1
    have hq2 : lo f s k = 2 ^ s * (lo f s k / 2 ^ s) := by
     have := Nat.div_add_mod (lo f s k) (2 ^ s)
     rw [p2] at this
     omega
    have hq3 : 2 ^ s * (lo f s k / 2 ^ s + 1) ≤ 2 ^ s * 2 ^ (32 - s) := Nat.mul_le_mul_left _ hq1
    rw [Nat.mul_add, Nat.mul_one, ← hq2, ← e] at hq3
    omega
   have HO2 : Hid (bits .or .u32 0 (((f k * 2 ^ s : Nat) : Int) / 4294967296) = ((hi f s k : Nat) : Int)) := by
    show _ = _
    have e : ((f k * 2 ^ s : Nat) : Int) / 4294967296 = ((hi f s k : Nat) : Int) := by unfold hi; omega
    have := u32_or_nat 0 (hi f s k) (by decide) (by omega)
    rw [Nat.zero_or] at this
    rw [e]; exact this
   have hhi : hi f s k < 4294967296 := by omega
   have HB1 : Hid (((f k * 2 ^ s : Nat) : Int) / 4294967296 < 4294967296) := by show _ < _; omega
   have HOw1 : Hid (OwnN (wr.setCell ⟨w.heap.size, k + q, none⟩ (.int .u32 ((lf f q s (k + 1) (k + q) : Nat) : Int))) w.heap.size (n + q + 1) (fun j => if j = k + q then lf f q s (k + 1) (k + q) else lf f q s k j)) := HO.out.put (k + q) _ (by omega) hL1
   have C8 : (wr.setCell ⟨w.heap.size, k + q, none⟩ (.int .u32 ((lf f q s (k + 1) (k + q) : Nat) : Int))).cell? ⟨w.heap.size, k + q + 1, none⟩ = some (.int .u32 0) := by
    have h1 := (HOw1.out (k + q + 1) (by omega)).1
    have h2 : (if k + q + 1 = k + q then lf f q s (k + 1) (k + q) else lf f q s k (k + q + 1)) = 0 := by rw [if_neg (by omega), Nat.add_comm k q, l3]
    simp only [h2] at h1
    exact h1
   have C9 : (wr.setCell ⟨w.heap.size, k + q, none⟩ (.int .u32 ((lf f q s (k + 1) (k + q) : Nat) : Int))).frozen? ⟨w.heap.size, k + q + 1, none⟩ = false := (HOw1.out (k + q + 1) (by omega)).2.1
   have HOw2 : Hid (OwnN ((wr.setCell ⟨w.heap.size, k + q, none⟩ (.int .u32 ((lf f q s (k + 1) (k + q) : Nat) : Int))).setCell ⟨w.heap.size, k + q + 1, none⟩ (.int .u32 ((hi f s k : Nat) : Int))) w.heap.size (n + q + 1) (lf f q s (k + 1))) := by
    refine (HOw1.out.put (k + q + 1) (hi f s k) (by omega) hhi).congr fun j hj => ?_
    show (if j = k + q + 1 then hi f s k else if j = k + q then lf f q s (k + 1) (k + q) else lf f q s k j) = lf f q s (k + 1) j
    by_cases e1 : j = k + q + 1
    ·rw [if_pos e1, e1, Nat.add_comm k q, l4]
    ·rw [if_neg e1]
     by_cases e2 : j = k + q
     ·rw [if_pos e2, e2]
     ·rw [if_neg e2]
      by_cases e3 : j < q + k
      ·rw [lf_keep f q s k j e3]
      ·rw [lf_far f q s k j (by omega), lf_far f q s (k + 1) j (by omega)]
   have HGs : Hid (∀ u v, Gr w ((wr.setCell ⟨w.heap.size, k + q, none⟩ u).setCell ⟨w.heap.size, k + q + 1, none⟩ v)) := fun u v => (HG.out.setCell _ _ (Nat.le_refl _)).setCell _ _ (Nat.le_refl _)
   clear l1 l2 l3 l4 p1 p2 p3 hpow hV1
   generalize f k * 2 ^ s = x at *
   generalize lf f q s k (k + q) = V1 at *
   generalize lf f q s (k + 1) (k + q) = V2 at *
   generalize hi f s k = V3 at *
   go_wp2_with (first | (simp only [HQ.out]) | (simp only [HS.out]) | (simp only [HX.out]) | (simp only [HO1.out]) | (simp only [HO2.out]))
   go_roundw
   case rel => exact ⟨k + 1, by omega, by go_num, HGs.out _ _, HOw2.out⟩
   case measure => simp [intOf]; omega
  ·have hkn : k = n := by omega
   subst hkn
   have HD : Hid (0 < k + q + 1 → ∃ b o, some (⟨w.heap.size, 0, none⟩ : Addr) = some ⟨b, o, none⟩ ∧ Dg wr b o (k + q + 1) (lf f q s k)) := fun _ => ⟨_, _, rfl, HO.out.dg⟩
   have HV : Hid (fval (lf f q s k) (k + q + 1) = fval f k * 2 ^ (32 * q + s)) := by
    show _ = _
    rw [← lf_val f q s k, Nat.add_comm k q]
   go_wp2_with (go_at_call 156; refine (trim_any _ (k + q + 1) (k + q + 1) (lf f q s k) (Nat.le_refl _) (by omega) _ HD.out).mono ?_; rintro e w' ⟨⟨v, rfl, hv⟩, rfl⟩)
   go_ret
   exact ⟨⟨v, rfl, by rw [← HV.out]; exact hv⟩, HG.out⟩
set_option maxHeartbeats 400000 in
theorem left_nil (a : Option Addr) (cap : Nat) (N : Int) (w : World) :
  Calls Tryz.prog 181 #[.slice a 0 cap, .int .i64 N] w fun e w' => (∃ v, e = .returned v ∧ NatAt w' v 0) ∧ Gr w w' := by
 go_enter Tryz.func181, Tryz.ntmps181
 go_wp2
 go_ret
 exact ⟨⟨_, rfl, natAt_nil _ _ _⟩, by (repeat (first | exact Gr.refl _ | refine Gr.alloc ?_ _ _))⟩
def kk : Nat := 50000
theorem left_any (v : Value) (A n : Nat) (N : Int) (hN : N = (n : Int)) (hn : n < 3000000) (hA : A < 2 ^ (32 * kk)) (w : World) (h : NatAt w v A) :
  Calls Tryz.prog 181 #[v, .int .i64 N] w fun e w' => (∃ u, e = .returned u ∧ NatAt w' u (A * 2 ^ n)) ∧ Gr w w' := by
 obtain ⟨a, m, cap, f, rfl, _, hd, hl, rfl, _, hm⟩ := natAt_short h kk hA
 by_cases h0 : m = 0
 ·subst h0
  have := left_nil a cap N w
  rw [show fval f 0 = 0 from rfl, Nat.zero_mul]
  exact this
 ·obtain ⟨b, o, rfl, d⟩ := hd (by omega)
  unfold kk at hm
  have := left_core b o m cap (n / 32) (n % 32) N f (by omega) (by omega) (by omega) (by omega) (by omega) w d
  rwa [show 32 * (n / 32) + n % 32 = n by omega] at this
def two (n j : Nat) : Nat := if j = 0 then n % 4294967296 else n / 4294967296
theorem two_val (n : Nat) : fval (two n) 2 = n := by
 show 0 + (if 0 = 0 then n % 4294967296 else n / 4294967296) * 2 ^ (32 * 0) + (if 1 = 0 then n % 4294967296 else n / 4294967296) * 2 ^ (32 * 1) = n
 rw [if_pos rfl, if_neg (by decide), show (2 : Nat) ^ (32 * 0) = 1 from rfl, show (2 : Nat) ^ (32 * 1) = 4294967296 from rfl]
 omega
theorem two_dg (n : Nat) (hn : n < 18446744073709551616) (w : World) : Dg (w.alloc (.cells #[.int .u32 ((n : Int) % 4294967296), .int .u32 ((n : Int) / 4294967296)] 86)) w.heap.size 0 2 (two n) := by
 intro j hj
 rw [Nat.zero_add, World.cell?_alloc_at _ _ _ _ rfl]
 rcases (show j = 0 ∨ j = 1 by omega) with rfl | rfl
 ·refine ⟨?_, ?_⟩
  ·show some (Value.int .u32 ((n : Int) % 4294967296)) = some (Value.int .u32 ((n % 4294967296 : Nat) : Int))
   rw [show ((n % 4294967296 : Nat) : Int) = (n : Int) % 4294967296 by omega]
  ·show n % 4294967296 < 4294967296
   omega
 ·refine ⟨?_, ?_⟩
  ·show some (Value.int .u32 ((n : Int) / 4294967296)) = some (Value.int .u32 ((n / 4294967296 : Nat) : Int))
   rw [show ((n / 4294967296 : Nat) : Int) = (n : Int) / 4294967296 by omega]
  ·show n / 4294967296 < 4294967296
   omega
set_option maxHeartbeats 1000000 in
theorem of_any (n : Nat) (hn : n < 18446744073709551616) (w : World) :
  Calls Tryz.prog 100 #[.int .u64 (n : Int)] w fun e w' => (∃ v, e = .returned v ∧ NatAt w' v n) ∧ Gr w w' := by
 have HD : Hid (0 < 2 → ∃ b o, some (⟨w.heap.size, 0, none⟩ : Addr) = some ⟨b, o, none⟩ ∧ Dg (w.alloc (.cells #[.int .u32 ((n : Int) % 4294967296), .int .u32 ((n : Int) / 4294967296)] 86)) b o 2 (two n)) := fun _ => ⟨_, _, rfl, two_dg n hn w⟩
 have HV : Hid (fval (two n) 2 = n) := two_val n
 go_enter Tryz.func100, Tryz.ntmps100
 go_wp2_with (go_at_call 156; refine (trim_any _ 2 2 (two n) (Nat.le_refl _) (by omega) _ HD.out).mono ?_; rintro e w' ⟨⟨v, rfl, hv⟩, rfl⟩)
 go_ret
 exact ⟨⟨v, rfl, by have := hv; rwa [HV.out] at this⟩, (Gr.refl _).alloc _ _⟩
end Go.Proofs.YtnceajanlnnfoaaGreatDoor
namespace Go.Proofs.YtnceajanlnnfoaaGreatDoor
open Go.RowKit
theorem quo_step (A B K : Nat) (hB : 0 < B) : B * 2 ^ (K + 1) / 2 = B * 2 ^ K ∧ (A % (B * 2 ^ (K + 1)) < B * 2 ^ K → A / (B * 2 ^ K) = 2 * (A / (B * 2 ^ (K + 1))) ∧ A % (B * 2 ^ K) = A % (B * 2 ^ (K + 1))) ∧
  (B * 2 ^ K ≤ A % (B * 2 ^ (K + 1)) → A / (B * 2 ^ K) = 2 * (A / (B * 2 ^ (K + 1))) + 1 ∧ A % (B * 2 ^ K) = A % (B * 2 ^ (K + 1)) - B * 2 ^ K) := by
 have hp : 0 < B * 2 ^ K := Nat.mul_pos hB (Nat.two_pow_pos K)
 have e : B * 2 ^ (K + 1) = 2 * (B * 2 ^ K) := by rw [Nat.pow_succ, ← Nat.mul_assoc, Nat.mul_comm]
 rw [e]
 generalize B * 2 ^ K = D at *
 have d1 := Nat.div_add_mod A (2 * D)
 have l1 := Nat.mod_lt A (show 0 < 2 * D by omega)
 have e3 : 2 * D * (A / (2 * D)) = D * (2 * (A / (2 * D))) := by rw [Nat.mul_comm 2 D, Nat.mul_assoc]
 rw [e3] at d1
 generalize A / (2 * D) = Q at *
 generalize A % (2 * D) = R at *
 have d2 := Nat.div_add_mod A D
 have l2 := Nat.mod_lt A hp
 refine ⟨by omega, fun h => ?_, fun h => ?_⟩
 ·have : A / D = 2 * Q := by
   refine Nat.div_eq_of_lt_le ?_ ?_
   ·rw [Nat.mul_comm]; omega
   ·rw [Nat.mul_comm, Nat.mul_add, Nat.mul_one]; omega
  rw [this] at d2
  exact ⟨this, by omega⟩
 ·have : A / D = 2 * Q + 1 := by
   refine Nat.div_eq_of_lt_le ?_ ?_
   ·rw [Nat.mul_comm, Nat.mul_add, Nat.mul_one]; omega
   ·rw [Nat.mul_comm, Nat.mul_add, Nat.mul_one, Nat.mul_add, Nat.mul_one]; omega
  rw [this, Nat.mul_add, Nat.mul_one] at d2
  exact ⟨this, by omega⟩
theorem quo_start (A B n : Nat) (hB : 0 < B) (h : blen A + 1 ≤ blen B + n ∨ (blen A ≤ blen B ∧ False) ∨ blen A < blen B + n) : A < B * 2 ^ (n + 1) := by
 have hB1 := Nat.log2_self_le (show B ≠ 0 by omega)
 have eB : blen B = B.log2 + 1 := by unfold blen; rw [if_neg (by omega)]
 by_cases hA : A = 0
 ·subst hA; exact Nat.mul_pos hB (Nat.two_pow_pos _)
 ·have hA1 : A < 2 ^ (A.log2 + 1) := Nat.lt_log2_self
  have eA : blen A = A.log2 + 1 := by unfold blen; rw [if_neg hA]
  have : 2 ^ (A.log2 + 1) ≤ 2 ^ (B.log2 + (n + 1)) := Nat.pow_le_pow_right (by decide) (by omega)
  have h2 : 2 ^ (B.log2 + (n + 1)) ≤ B * 2 ^ (n + 1) := by rw [Nat.pow_add]; exact Nat.mul_le_mul_right _ hB1
  omega
theorem or_one (q : Nat) (h : 2 * q < 18446744073709551616) : bits .or .u64 ((2 * q : Nat) : Int) 1 = ((2 * q + 1 : Nat) : Int) := by
 have := u64_or_nat (2 * q) 1 h (by decide)
 rw [nat_join 1 (2 * q) 1 (by omega) (by decide)] at this
 exact this
theorem cmp_ge (A B : Nat) : (0 ≤ cmpN A B) ↔ B ≤ A := by
 unfold cmpN
 by_cases h : A < B
 ·rw [if_pos h]; omega
 ·rw [if_neg h]; split <;> omega
set_option maxHeartbeats 4000000 in
set_option maxRecDepth 20000 in
theorem quo_any (u v : Value) (A B : Nat) (hB : 0 < B) (hq : A / B < 18446744073709551616) (hBl : B < 2 ^ (32 * kk)) (hAl : blen A < 2000000) (w : World) (h : NatAt w u A) (h' : NatAt w v B) :
  Calls Tryz.prog 183 #[u, v] w fun e w' => (∃ x, e = .returned (.tuple #[.int .u64 (A / B : Nat), x]) ∧ NatAt w' x (A % B)) ∧ Gr w w' := by
 obtain ⟨n, hn⟩ : ∃ n : Nat, n = blen A + 1 - blen B := ⟨_, rfl⟩
 have H1 : Hid (Calls Tryz.prog 180 #[u] w fun e w' => e = .returned (.int .i64 (blen A : Nat)) ∧ w' = w) := len_any u A w h
 have H2 : Hid (Calls Tryz.prog 180 #[v] w fun e w' => e = .returned (.int .i64 (blen B : Nat)) ∧ w' = w) := len_any v B w h'
 have H3 : Hid (Calls Tryz.prog 181 #[v, .int .i64 (n : Int)] w fun e w' => (∃ x, e = .returned x ∧ NatAt w' x (B * 2 ^ n)) ∧ Gr w w') := left_any v B n n rfl (by omega) hBl w h'
 have hst : A < B * 2 ^ (n + 1) := quo_start A B n hB (by omega)
 have HST : Hid (A < B * 2 ^ (n + 1)) := hst
 have HSTEP : Hid (∀ K, B * 2 ^ (K + 1) / 2 = B * 2 ^ K ∧ (A % (B * 2 ^ (K + 1)) < B * 2 ^ K → A / (B * 2 ^ K) = 2 * (A / (B * 2 ^ (K + 1))) ∧ A % (B * 2 ^ K) = A % (B * 2 ^ (K + 1))) ∧
  (B * 2 ^ K ≤ A % (B * 2 ^ (K + 1)) → A / (B * 2 ^ K) = 2 * (A / (B * 2 ^ (K + 1))) + 1 ∧ A % (B * 2 ^ K) = A % (B * 2 ^ (K + 1)) - B * 2 ^ K)) := fun K => quo_step A B K hB
 have HLE : Hid (∀ K, A / (B * 2 ^ K) ≤ A / B) := fun K => Nat.div_le_div_left (Nat.le_mul_of_pos_right _ (Nat.two_pow_pos K)) hB
 have HQ : Hid (A / B < 18446744073709551616) := hq
 have HU : Hid (NatAt w u A) := h
 have hbb : (blen A : Int) - blen B + 1 ≤ n := by omega
 have hb3 : (0 : Int) ≤ (blen A : Int) - blen B + 1 → (n : Int) = (blen A : Int) - blen B + 1 := by omega
 have hb4 : (blen A : Int) - blen B + 1 < 0 → n = 0 := by omega
 have hbB : blen B < 2000000 := by
  by_cases hz : B = 0
  ·omega
  ·have := (Nat.log2_lt hz).2 hBl
   unfold kk at this
   unfold blen; rw [if_neg hz]; omega
 clear h h' hst hq hn hBl
 generalize blen A = lA at *
 generalize blen B = lB at *
 have HNB : Hid (n + 1 < 3000000) := by show _ < _; omega
 by_cases c : (0 : Int) < (lA : Int) - lB + 1
 ·have hE : Hid ((lA : Int) - lB + 1 = n) := (hb3 (by omega)).symm
  have hn0 : (0 : Int) < n := by rw [← hE.out]; exact c
  clear hb3 hb4 hbb
  go_enter Tryz.func183, Tryz.ntmps183
  go_wp2_with fail
  refine H1.out.mono ?_
  rintro e w' ⟨rfl, hw'⟩
  subst w'
  go_wp2_with fail
  refine H2.out.mono ?_
  rintro e w' ⟨rfl, hw'⟩
  subst w'
  go_wp2_with (simp only [hE.out])
  clear hE c hn0
  refine H3.out.mono ?_
  rintro e w1 ⟨⟨x, rfl, hx⟩, hg⟩
  have HG0 : Hid (Gr w w1) := hg
  have HX0 : Hid (NatAt w1 x (B * 2 ^ n)) := hx
  clear hg hx H1 H2 H3 hAl hbB
  go_wp2
  go_loopw [0, 6, 7, 8] (fun sa sq si sx wr => ∃ (K : Nat) (va vx : Value), sa = va ∧ NatAt wr va (A % (B * 2 ^ K)) ∧ sq = .int .u64 (A / (B * 2 ^ K) : Nat) ∧ si = .int .i64 ((K : Int) - 1) ∧ sx = vx ∧ NatAt wr vx (B * 2 ^ K / 2) ∧ Gr w wr ∧ K < 3000000) (fun _ _ si _ _ => (intOf si + 1).toNat)
  case atStart => exact ⟨n + 1, u, x, rfl, by rw [Nat.mod_eq_of_lt HST.out]; exact HU.out.gr HG0.out, by rw [Nat.div_eq_of_lt HST.out]; rfl, by show Value.int .i64 (n : Int) = .int .i64 (((n + 1 : Nat) : Int) - 1); rw [show (((n + 1 : Nat) : Int) - 1) = n by omega], rfl, by rw [(HSTEP.out n).1]; exact HX0.out, HG0.out, HNB.out⟩
  case round =>
   obtain ⟨K, va, vx, hsa, ha, rfl, rfl, hsx, hx, hg, hKb⟩ := hrel
   have hsa' := hsa.symm
   have hsx' := hsx.symm
   clear hsa hsx
   subst hsa' hsx'
   have HA : Hid (NatAt wr va (A % (B * 2 ^ K))) := ha
   have HX : Hid (NatAt wr vx (B * 2 ^ K / 2)) := hx
   have HG : Hid (Gr w wr) := hg
   have HKB : Hid (K < 3000000) := hKb
   have hq0 : Hid (A / (B * 2 ^ K) < 18446744073709551616) := Nat.lt_of_le_of_lt (HLE.out K) HQ.out
   clear ha hx hg hKb
   cases K with
   | zero =>
    have HA' : Hid (NatAt wr va (A % B)) := by have := HA.out; rwa [Nat.pow_zero, Nat.mul_one] at this
    have HQ' : Hid (A / (B * 2 ^ 0) = A / B) := by show _ = _; rw [Nat.pow_zero, Nat.mul_one]
    go_wp2
    go_ret2
    exact ⟨⟨va, by rw [HQ'.out]; rfl, HA'.out⟩, HG.out⟩
   | succ K =>
    obtain ⟨t1, t2, t3⟩ := HSTEP.out K
    have HX1 : Hid (NatAt wr vx (B * 2 ^ K)) := by have := HX.out; rwa [t1] at this
    have HC : Hid (Calls Tryz.prog 184 #[va, vx] wr fun e w' => e = .returned (.int .i64 (cmpN (A % (B * 2 ^ (K + 1))) (B * 2 ^ K))) ∧ ∃ d, w' = wr.drewN d) := cmp_any va vx _ _ wr HA.out HX1.out
    have hge := cmp_ge (A % (B * 2 ^ (K + 1))) (B * 2 ^ K)
    by_cases c : B * 2 ^ K ≤ A % (B * 2 ^ (K + 1))
    ·have hc0 : 0 ≤ cmpN (A % (B * 2 ^ (K + 1))) (B * 2 ^ K) := hge.2 c
     obtain ⟨s1, s2⟩ := t3 c
     have HS1 : Hid (A / (B * 2 ^ K) = 2 * (A / (B * 2 ^ (K + 1))) + 1) := s1
     have HS2 : Hid (A % (B * 2 ^ K) = A % (B * 2 ^ (K + 1)) - B * 2 ^ K) := s2
     have hq1 : A / (B * 2 ^ K) < 18446744073709551616 := Nat.lt_of_le_of_lt (HLE.out K) HQ.out
     have HQ2 : Hid (2 * (A / (B * 2 ^ (K + 1))) + 1 < 18446744073709551616) := by show _ < _; rw [← s1]; exact hq1
     have HSub : Hid (∀ d, Calls Tryz.prog 203 #[va, vx] (wr.drewN d) fun e w' => (∃ x, e = .returned x ∧ NatAt w' x (A % (B * 2 ^ (K + 1)) - B * 2 ^ K)) ∧ Gr (wr.drewN d) w') := fun d => sub_any va vx _ _ c (wr.drewN d) (HA.out.gr ((Gr.refl _).drewN d)) (HX1.out.gr ((Gr.refl _).drewN d))
     clear t1 t2 t3 hge c s1 s2 hq1
     generalize cmpN (A % (B * 2 ^ (K + 1))) (B * 2 ^ K) = cv at *
     generalize hQQ : A / (B * 2 ^ (K + 1)) = Q at *
     have hQ3 : (Q : Int) * 2 < 18446744073709551616 := by have := HQ2.out; omega
     have HOr : Hid (bits .or .u64 ((Q : Int) * 2) 1 = ((2 * Q + 1 : Nat) : Int)) := by
      show _ = _
      have := or_one Q (by have := HQ2.out; omega)
      rwa [show ((2 * Q : Nat) : Int) = (Q : Int) * 2 by omega] at this
     clear hQQ
     have HH : Hid (∀ w2, Gr wr w2 → Calls Tryz.prog 204 #[vx] w2 fun e w' => (∃ x, e = .returned x ∧ NatAt w' x (B * 2 ^ K / 2)) ∧ Gr w2 w') := fun w2 g => half_any vx _ w2 (HX1.out.gr g)
     go_wp2_with fail
     refine HC.out.mono ?_
     rintro e w' ⟨rfl, d, rfl⟩
     go_wp2_with fail
     refine (HSub.out d).mono ?_
     rintro e w2 ⟨⟨x1, rfl, hx1⟩, hg2⟩
     have G2 : Hid (Gr wr w2) := ((Gr.refl _).drewN d).trans hg2
     have X1 : Hid (NatAt w2 x1 (A % (B * 2 ^ (K + 1)) - B * 2 ^ K)) := hx1
     clear hx1 hg2
     go_wp2_with (simp only [HOr.out])
     refine (HH.out w2 G2.out).mono ?_
     rintro e w3 ⟨⟨x2, rfl, hx2⟩, hg3⟩
     have G3 : Hid (Gr w2 w3) := hg3
     have X2 : Hid (NatAt w3 x2 (B * 2 ^ K / 2)) := hx2
     clear hx2 hg3
     go_wp2
     go_roundw
     case rel => exact ⟨K, x1, x2, rfl, by rw [HS2.out]; exact X1.out.gr G3.out, by rw [HS1.out, show ((2 * Q + 1 : Nat) : Int) = 2 * (Q : Int) + 1 by omega], by rw [show wrap64 ((K : Int) - 1) = (K : Int) - 1 by have := HKB.out; unfold wrap64; omega], rfl, X2.out, (HG.out.trans G2.out).trans G3.out, by have := HKB.out; omega⟩
     case measure =>
      have := HKB.out
      simp only [intOf]
      unfold wrap64
      omega
    ·have hc0 : cmpN (A % (B * 2 ^ (K + 1))) (B * 2 ^ K) < 0 := by
      have := mt hge.1 c
      omega
     obtain ⟨s1, s2⟩ := t2 (by omega)
     have HS1 : Hid (A / (B * 2 ^ K) = 2 * (A / (B * 2 ^ (K + 1)))) := s1
     have HS2 : Hid (A % (B * 2 ^ K) = A % (B * 2 ^ (K + 1))) := s2
     have hq1 : A / (B * 2 ^ K) < 18446744073709551616 := Nat.lt_of_le_of_lt (HLE.out K) HQ.out
     have HQ2 : Hid (2 * (A / (B * 2 ^ (K + 1))) < 18446744073709551616) := by show _ < _; rw [← s1]; exact hq1
     have HH : Hid (∀ w2, Gr wr w2 → Calls Tryz.prog 204 #[vx] w2 fun e w' => (∃ x, e = .returned x ∧ NatAt w' x (B * 2 ^ K / 2)) ∧ Gr w2 w') := fun w2 g => half_any vx _ w2 (HX1.out.gr g)
     clear t1 t2 t3 hge c s1 s2 hq1
     generalize cmpN (A % (B * 2 ^ (K + 1))) (B * 2 ^ K) = cv at *
     generalize hQQ : A / (B * 2 ^ (K + 1)) = Q at *
     have hQ3 : (Q : Int) * 2 < 18446744073709551616 := by have := HQ2.out; omega
     clear hQQ
     go_wp2_with fail
     refine HC.out.mono ?_
     rintro e w' ⟨rfl, d, rfl⟩
     have G2 : Hid (Gr wr (wr.drewN d)) := (Gr.refl _).drewN d
     clear hQ3
     go_wp2_with fail
     refine (HH.out _ G2.out).mono ?_
     rintro e w3 ⟨⟨x2, rfl, hx2⟩, hg3⟩
     have G3 : Hid (Gr (wr.drewN d) w3) := hg3
     have X2 : Hid (NatAt w3 x2 (B * 2 ^ K / 2)) := hx2
     clear hx2 hg3
     go_wp2
     go_roundw
     case rel => exact ⟨K, va, x2, rfl, by rw [HS2.out]; exact (HA.out.gr G2.out).gr G3.out, by rw [HS1.out, show ((2 * Q : Nat) : Int) = (Q : Int) * 2 by omega], by rw [show wrap64 ((K : Int) - 1) = (K : Int) - 1 by have := HKB.out; unfold wrap64; omega], rfl, X2.out, (HG.out.trans G2.out).trans G3.out, by have := HKB.out; omega⟩
     case measure =>
      have := HKB.out
      simp only [intOf]
      unfold wrap64
      omega
 ·obtain rfl : n = 0 := by omega
  have c' : (lA : Int) - lB + 1 ≤ 0 := by omega
  clear c hb3 hb4 hbb
  go_enter Tryz.func183, Tryz.ntmps183
  go_wp2_with fail
  refine H1.out.mono ?_
  rintro e w' ⟨rfl, hw'⟩
  subst w'
  go_wp2_with fail
  refine H2.out.mono ?_
  rintro e w' ⟨rfl, hw'⟩
  subst w'
  go_wp2_with fail
  clear c'
  refine H3.out.mono ?_
  rintro e w1 ⟨⟨x, rfl, hx⟩, hg⟩
  have HG0 : Hid (Gr w w1) := hg
  have HX0 : Hid (NatAt w1 x (B * 2 ^ 0)) := hx
  clear hg hx H1 H2 H3 hAl hbB
  go_wp2
  go_loopw [0, 6, 7, 8] (fun sa sq si sx wr => ∃ (K : Nat) (va vx : Value), sa = va ∧ NatAt wr va (A % (B * 2 ^ K)) ∧ sq = .int .u64 (A / (B * 2 ^ K) : Nat) ∧ si = .int .i64 ((K : Int) - 1) ∧ sx = vx ∧ NatAt wr vx (B * 2 ^ K / 2) ∧ Gr w wr ∧ K < 3000000) (fun _ _ si _ _ => (intOf si + 1).toNat)
  case atStart => exact ⟨0 + 1, u, x, rfl, by rw [Nat.mod_eq_of_lt HST.out]; exact HU.out.gr HG0.out, by rw [Nat.div_eq_of_lt HST.out]; rfl, by rfl, rfl, by rw [(HSTEP.out 0).1]; exact HX0.out, HG0.out, HNB.out⟩
  case round =>
   obtain ⟨K, va, vx, hsa, ha, rfl, rfl, hsx, hx, hg, hKb⟩ := hrel
   have hsa' := hsa.symm
   have hsx' := hsx.symm
   clear hsa hsx
   subst hsa' hsx'
   have HA : Hid (NatAt wr va (A % (B * 2 ^ K))) := ha
   have HX : Hid (NatAt wr vx (B * 2 ^ K / 2)) := hx
   have HG : Hid (Gr w wr) := hg
   have HKB : Hid (K < 3000000) := hKb
   have hq0 : Hid (A / (B * 2 ^ K) < 18446744073709551616) := Nat.lt_of_le_of_lt (HLE.out K) HQ.out
   clear ha hx hg hKb
   cases K with
   | zero =>
    have HA' : Hid (NatAt wr va (A % B)) := by have := HA.out; rwa [Nat.pow_zero, Nat.mul_one] at this
    have HQ' : Hid (A / (B * 2 ^ 0) = A / B) := by show _ = _; rw [Nat.pow_zero, Nat.mul_one]
    go_wp2
    go_ret2
    exact ⟨⟨va, by rw [HQ'.out]; rfl, HA'.out⟩, HG.out⟩
   | succ K =>
    obtain ⟨t1, t2, t3⟩ := HSTEP.out K
    have HX1 : Hid (NatAt wr vx (B * 2 ^ K)) := by have := HX.out; rwa [t1] at this
    have HC : Hid (Calls Tryz.prog 184 #[va, vx] wr fun e w' => e = .returned (.int .i64 (cmpN (A % (B * 2 ^ (K + 1))) (B * 2 ^ K))) ∧ ∃ d, w' = wr.drewN d) := cmp_any va vx _ _ wr HA.out HX1.out
    have hge := cmp_ge (A % (B * 2 ^ (K + 1))) (B * 2 ^ K)
    by_cases c : B * 2 ^ K ≤ A % (B * 2 ^ (K + 1))
    ·have hc0 : 0 ≤ cmpN (A % (B * 2 ^ (K + 1))) (B * 2 ^ K) := hge.2 c
     obtain ⟨s1, s2⟩ := t3 c
     have HS1 : Hid (A / (B * 2 ^ K) = 2 * (A / (B * 2 ^ (K + 1))) + 1) := s1
     have HS2 : Hid (A % (B * 2 ^ K) = A % (B * 2 ^ (K + 1)) - B * 2 ^ K) := s2
     have hq1 : A / (B * 2 ^ K) < 18446744073709551616 := Nat.lt_of_le_of_lt (HLE.out K) HQ.out
     have HQ2 : Hid (2 * (A / (B * 2 ^ (K + 1))) + 1 < 18446744073709551616) := by show _ < _; rw [← s1]; exact hq1
     have HSub : Hid (∀ d, Calls Tryz.prog 203 #[va, vx] (wr.drewN d) fun e w' => (∃ x, e = .returned x ∧ NatAt w' x (A % (B * 2 ^ (K + 1)) - B * 2 ^ K)) ∧ Gr (wr.drewN d) w') := fun d => sub_any va vx _ _ c (wr.drewN d) (HA.out.gr ((Gr.refl _).drewN d)) (HX1.out.gr ((Gr.refl _).drewN d))
     clear t1 t2 t3 hge c s1 s2 hq1
     generalize cmpN (A % (B * 2 ^ (K + 1))) (B * 2 ^ K) = cv at *
     generalize hQQ : A / (B * 2 ^ (K + 1)) = Q at *
     have hQ3 : (Q : Int) * 2 < 18446744073709551616 := by have := HQ2.out; omega
     have HOr : Hid (bits .or .u64 ((Q : Int) * 2) 1 = ((2 * Q + 1 : Nat) : Int)) := by
      show _ = _
      have := or_one Q (by have := HQ2.out; omega)
      rwa [show ((2 * Q : Nat) : Int) = (Q : Int) * 2 by omega] at this
     clear hQQ
     have HH : Hid (∀ w2, Gr wr w2 → Calls Tryz.prog 204 #[vx] w2 fun e w' => (∃ x, e = .returned x ∧ NatAt w' x (B * 2 ^ K / 2)) ∧ Gr w2 w') := fun w2 g => half_any vx _ w2 (HX1.out.gr g)
     go_wp2_with fail
     refine HC.out.mono ?_
     rintro e w' ⟨rfl, d, rfl⟩
     go_wp2_with fail
     refine (HSub.out d).mono ?_
     rintro e w2 ⟨⟨x1, rfl, hx1⟩, hg2⟩
     have G2 : Hid (Gr wr w2) := ((Gr.refl _).drewN d).trans hg2
     have X1 : Hid (NatAt w2 x1 (A % (B * 2 ^ (K + 1)) - B * 2 ^ K)) := hx1
     clear hx1 hg2
     go_wp2_with (simp only [HOr.out])
     refine (HH.out w2 G2.out).mono ?_
     rintro e w3 ⟨⟨x2, rfl, hx2⟩, hg3⟩
     have G3 : Hid (Gr w2 w3) := hg3
     have X2 : Hid (NatAt w3 x2 (B * 2 ^ K / 2)) := hx2
     clear hx2 hg3
     go_wp2
     go_roundw
     case rel => exact ⟨K, x1, x2, rfl, by rw [HS2.out]; exact X1.out.gr G3.out, by rw [HS1.out, show ((2 * Q + 1 : Nat) : Int) = 2 * (Q : Int) + 1 by omega], by rw [show wrap64 ((K : Int) - 1) = (K : Int) - 1 by have := HKB.out; unfold wrap64; omega], rfl, X2.out, (HG.out.trans G2.out).trans G3.out, by have := HKB.out; omega⟩
     case measure =>
      have := HKB.out
      simp only [intOf]
      unfold wrap64
      omega
    ·have hc0 : cmpN (A % (B * 2 ^ (K + 1))) (B * 2 ^ K) < 0 := by
      have := mt hge.1 c
      omega
     obtain ⟨s1, s2⟩ := t2 (by omega)
     have HS1 : Hid (A / (B * 2 ^ K) = 2 * (A / (B * 2 ^ (K + 1)))) := s1
     have HS2 : Hid (A % (B * 2 ^ K) = A % (B * 2 ^ (K + 1))) := s2
     have hq1 : A / (B * 2 ^ K) < 18446744073709551616 := Nat.lt_of_le_of_lt (HLE.out K) HQ.out
     have HQ2 : Hid (2 * (A / (B * 2 ^ (K + 1))) < 18446744073709551616) := by show _ < _; rw [← s1]; exact hq1
     have HH : Hid (∀ w2, Gr wr w2 → Calls Tryz.prog 204 #[vx] w2 fun e w' => (∃ x, e = .returned x ∧ NatAt w' x (B * 2 ^ K / 2)) ∧ Gr w2 w') := fun w2 g => half_any vx _ w2 (HX1.out.gr g)
     clear t1 t2 t3 hge c s1 s2 hq1
     generalize cmpN (A % (B * 2 ^ (K + 1))) (B * 2 ^ K) = cv at *
     generalize hQQ : A / (B * 2 ^ (K + 1)) = Q at *
     have hQ3 : (Q : Int) * 2 < 18446744073709551616 := by have := HQ2.out; omega
     clear hQQ
     go_wp2_with fail
     refine HC.out.mono ?_
     rintro e w' ⟨rfl, d, rfl⟩
     have G2 : Hid (Gr wr (wr.drewN d)) := (Gr.refl _).drewN d
     clear hQ3
     go_wp2_with fail
     refine (HH.out _ G2.out).mono ?_
     rintro e w3 ⟨⟨x2, rfl, hx2⟩, hg3⟩
     have G3 : Hid (Gr (wr.drewN d) w3) := hg3
     have X2 : Hid (NatAt w3 x2 (B * 2 ^ K / 2)) := hx2
     clear hx2 hg3
     go_wp2
     go_roundw
     case rel => exact ⟨K, va, x2, rfl, by rw [HS2.out]; exact (HA.out.gr G2.out).gr G3.out, by rw [HS1.out, show ((2 * Q : Nat) : Int) = (Q : Int) * 2 by omega], by rw [show wrap64 ((K : Int) - 1) = (K : Int) - 1 by have := HKB.out; unfold wrap64; omega], rfl, X2.out, (HG.out.trans G2.out).trans G3.out, by have := HKB.out; omega⟩
     case measure =>
      have := HKB.out
      simp only [intOf]
      unfold wrap64
      omega
end Go.Proofs.YtnceajanlnnfoaaGreatDoor
