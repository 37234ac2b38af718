/- slices.Compact of areas (by wip/gen_areas2.py); ordered, at areas. -/
import Derived.Test.YtkgolfmnlbmmeaaGreatDoorZl
import Derived.Test.YtkgolfmnlbmmeaaGreatDoorZx
import Derived.BigQuiet
namespace Go.Proofs.YtkgolfmnlbmmeaaGreatDoor
open Go.RowKit Go.Sort Go.Lib

/-- A row of areas that may be written. -/
def RowR (w : World) (b o : Nat) (d : Array ((Int × Int) × (Int × Int))) : Prop := ∀ j, j < d.size → (w.cell? ⟨b, o + j * 4, none⟩ = some (.int .i64 d[j]!.1.1) ∧ w.cell? ⟨b, o + j * 4 + 1, none⟩ = some (.int .i64 d[j]!.1.2) ∧ w.cell? ⟨b, o + j * 4 + 2, none⟩ = some (.int .i64 d[j]!.2.1) ∧ w.cell? ⟨b, o + j * 4 + 3, none⟩ = some (.int .i64 d[j]!.2.2)) ∧ (w.frozen? ⟨b, o + j * 4, none⟩ = false ∧ w.frozen? ⟨b, o + j * 4 + 1, none⟩ = false ∧ w.frozen? ⟨b, o + j * 4 + 2, none⟩ = false ∧ w.frozen? ⟨b, o + j * 4 + 3, none⟩ = false)
theorem RowR.of {w : World} {b o : Nat} {d : Array ((Int × Int) × (Int × Int))} (h : HoldsK encR 4 w b o d) : RowR w b o d := fun j hj => by
  have h0 := h.cell (i := j) (c := 0) hj (by decide)
  have h1 := h.cell (i := j) (c := 1) hj (by decide)
  have h2 := h.cell (i := j) (c := 2) hj (by decide)
  have h3 := h.cell (i := j) (c := 3) hj (by decide)
  exact ⟨⟨h0.1, h1.1, h2.1, h3.1⟩, h0.2, h1.2, h2.2, h3.2⟩
theorem set4_other (w : World) (b n : Nat) (v0 v1 v2 v3 : Value) (m : Nat) (h : m < n ∨ n + 4 ≤ m) : ((((w.setCell ⟨b, n, none⟩ v0).setCell ⟨b, n + 1, none⟩ v1).setCell ⟨b, n + 2, none⟩ v2).setCell ⟨b, n + 3, none⟩ v3).cell? ⟨b, m, none⟩ = w.cell? ⟨b, m, none⟩ := by
  have e : ∀ k, k ≠ m → (⟨b, k, none⟩ : Addr) ≠ ⟨b, m, none⟩ := fun k hk h => hk (congrArg Addr.off h)
  rw [World.cell?_setCell_other _ _ _ _ (e _ (by omega)), World.cell?_setCell_other _ _ _ _ (e _ (by omega)), World.cell?_setCell_other _ _ _ _ (e _ (by omega)), World.cell?_setCell_other _ _ _ _ (e _ (by omega))]
theorem set4_same (w : World) (b n : Nat) (v0 v1 v2 v3 u0 u1 u2 u3 : Value) (h0 : w.cell? ⟨b, n, none⟩ = some u0) (h1 : w.cell? ⟨b, n + 1, none⟩ = some u1) (h2 : w.cell? ⟨b, n + 2, none⟩ = some u2) (h3 : w.cell? ⟨b, n + 3, none⟩ = some u3) :
    ((((w.setCell ⟨b, n, none⟩ v0).setCell ⟨b, n + 1, none⟩ v1).setCell ⟨b, n + 2, none⟩ v2).setCell ⟨b, n + 3, none⟩ v3).cell? ⟨b, n, none⟩ = some v0 ∧ ((((w.setCell ⟨b, n, none⟩ v0).setCell ⟨b, n + 1, none⟩ v1).setCell ⟨b, n + 2, none⟩ v2).setCell ⟨b, n + 3, none⟩ v3).cell? ⟨b, n + 1, none⟩ = some v1 ∧
    ((((w.setCell ⟨b, n, none⟩ v0).setCell ⟨b, n + 1, none⟩ v1).setCell ⟨b, n + 2, none⟩ v2).setCell ⟨b, n + 3, none⟩ v3).cell? ⟨b, n + 2, none⟩ = some v2 ∧ ((((w.setCell ⟨b, n, none⟩ v0).setCell ⟨b, n + 1, none⟩ v1).setCell ⟨b, n + 2, none⟩ v2).setCell ⟨b, n + 3, none⟩ v3).cell? ⟨b, n + 3, none⟩ = some v3 := by
  have e : ∀ k m, k ≠ m → (⟨b, k, none⟩ : Addr) ≠ ⟨b, m, none⟩ := fun k m hk h => hk (congrArg Addr.off h)
  have a1 : (w.setCell ⟨b, n, none⟩ v0).cell? ⟨b, n + 1, none⟩ = some u1 := by rw [World.cell?_setCell_other _ _ _ _ (e _ _ (by omega)), h1]
  have a2 : ((w.setCell ⟨b, n, none⟩ v0).setCell ⟨b, n + 1, none⟩ v1).cell? ⟨b, n + 2, none⟩ = some u2 := by rw [World.cell?_setCell_other _ _ _ _ (e _ _ (by omega)), World.cell?_setCell_other _ _ _ _ (e _ _ (by omega)), h2]
  have a3 : (((w.setCell ⟨b, n, none⟩ v0).setCell ⟨b, n + 1, none⟩ v1).setCell ⟨b, n + 2, none⟩ v2).cell? ⟨b, n + 3, none⟩ = some u3 := by rw [World.cell?_setCell_other _ _ _ _ (e _ _ (by omega)), World.cell?_setCell_other _ _ _ _ (e _ _ (by omega)), World.cell?_setCell_other _ _ _ _ (e _ _ (by omega)), h3]
  refine ⟨?_, ?_, ?_, World.cell?_setCell_same _ _ _ a3⟩
  · rw [World.cell?_setCell_other _ _ _ _ (e _ _ (by omega)), World.cell?_setCell_other _ _ _ _ (e _ _ (by omega)), World.cell?_setCell_other _ _ _ _ (e _ _ (by omega)), World.cell?_setCell_same _ _ _ h0]
  · rw [World.cell?_setCell_other _ _ _ _ (e _ _ (by omega)), World.cell?_setCell_other _ _ _ _ (e _ _ (by omega)), World.cell?_setCell_same _ _ _ a1]
  · rw [World.cell?_setCell_other _ _ _ _ (e _ _ (by omega)), World.cell?_setCell_same _ _ _ a2]
theorem RowR.set {w : World} {b o : Nat} {d : Array ((Int × Int) × (Int × Int))} (h : RowR w b o d) (i : Nat) (hi : i < d.size) (x : (Int × Int) × (Int × Int)) :
    RowR ((((w.setCell ⟨b, o + i * 4, none⟩ (.int .i64 x.1.1)).setCell ⟨b, o + i * 4 + 1, none⟩ (.int .i64 x.1.2)).setCell ⟨b, o + i * 4 + 2, none⟩ (.int .i64 x.2.1)).setCell ⟨b, o + i * 4 + 3, none⟩ (.int .i64 x.2.2)) b o (d.setIfInBounds i x) := fun j hj => by
  have hj' : j < d.size := by simpa using hj
  obtain ⟨⟨h0, h1, h2, h3⟩, f0, f1, f2, f3⟩ := h j hj'
  refine ⟨?_, by simp only [World.frozen?_setCell]; exact ⟨f0, f1, f2, f3⟩⟩
  by_cases e : j = i
  · subst e
    rw [getElem!_set_same d j x hj']
    exact set4_same w b (o + j * 4) _ _ _ _ _ _ _ _ h0 h1 h2 h3
  · rw [getElem!_set_other d i j x e]
    exact ⟨by rw [set4_other w b (o + i * 4) _ _ _ _ _ (by omega)]; exact h0, by rw [set4_other w b (o + i * 4) _ _ _ _ _ (by omega)]; exact h1, by rw [set4_other w b (o + i * 4) _ _ _ _ _ (by omega)]; exact h2, by rw [set4_other w b (o + i * 4) _ _ _ _ _ (by omega)]; exact h3⟩
theorem RowR.low {w w' : World} {b o : Nat} {d : Array ((Int × Int) × (Int × Int))} (h : RowR w b o d) (m : Nat) (hl : ∀ j, j < m * 4 → w'.cell? ⟨b, o + j, none⟩ = w.cell? ⟨b, o + j, none⟩) : AreasAt w' b o ((d.toList.take m).map arT) := fun i x hx => by
  rw [List.getElem?_map, List.getElem?_take] at hx
  split at hx
  · rename_i hi
    cases hd : d.toList[i]? with
    | none => rw [hd] at hx; cases hx
    | some y =>
      rw [hd] at hx
      cases hx
      obtain ⟨hi2, hy⟩ := List.getElem?_eq_some_iff.1 hd
      have hi3 : i < d.size := by simpa using hi2
      have ex : d[i]! = y := by rw [getElem!_pos d _ hi3, ← hy]; simp
      obtain ⟨⟨h0, h1, h2, h3⟩, _⟩ := h i hi3
      rw [ex] at h0 h1 h2 h3
      rw [hl (i * 4) (by omega), Nat.add_assoc o, hl (i * 4 + 1) (by omega), Nat.add_assoc o, hl (i * 4 + 2) (by omega), Nat.add_assoc o, hl (i * 4 + 3) (by omega)]
      exact ⟨h0, h1, h2, h3⟩
  · cases hx
theorem zeroArea_cells (n : Nat) : (Builtin.zeroCells (Value.agg #[.int .i64 0, .int .i64 0, .int .i64 0, .int .i64 0]).cells n).toList = List.replicate (n * 4) (.int .i64 0) := by
  apply List.ext_getElem?
  intro i
  simp only [Builtin.zeroCells, Value.cells, Array.toList_map, List.getElem?_map, Array.toList_range, List.getElem?_replicate]
  by_cases h : i < n * 4
  · rw [if_pos h, List.getElem?_range (by simpa using h)]
    have : i % 4 = 0 ∨ i % 4 = 1 ∨ i % 4 = 2 ∨ i % 4 = 3 := by omega
    rcases this with e | e | e | e <;> simp [e]
  · rw [if_neg h, List.getElem?_eq_none (by simpa using h)]
    rfl
theorem comp_takeR {d dk : Array ((Int × Int) × (Int × Int))} {k : Nat} (h : CompInv d d.size k dk) : dk.toList.take k = compactUpTo d d.size := by
  apply List.ext_getElem?
  intro j
  have hlt := h.lt
  rw [List.getElem?_take]
  by_cases hj : j < k
  · have hj2 : j < dk.size := by rw [h.size]; omega
    rw [if_pos hj, h.low j hj, getElem!_pos dk j hj2, List.getElem?_eq_getElem (by simpa using hj2)]
    simp
  · rw [if_neg hj, List.getElem?_eq_none (by rw [h.len]; omega)]
def CoQ (d : Array ((Int × Int) × (Int × Int))) (w : World) (s : Value) (wr : World) : Prop := ∃ k q : Nat, 1 ≤ k ∧ k ≤ d.size ∧ s = .int .i64 (k : Int) ∧ wr = w.drewN q ∧ ∀ j, j < k → keeps d j = true
def CiQ (d : Array ((Int × Int) × (Int × Int))) (w : World) (b o k : Nat) (s3 s5 : Value) (wr : World) : Prop := ∃ (kk k2 : Nat) (dk : Array ((Int × Int) × (Int × Int))), s3 = .int .i64 (kk : Int) ∧ s5 = .int .i64 (k2 : Int) ∧ 1 ≤ k2 ∧ k + k2 ≤ d.size ∧ Kp w wr (fun i => i = b) ∧ RowR wr b o dk ∧ CompInv d (k + k2) kk dk
set_option maxRecDepth 20000 in
set_option maxHeartbeats 4000000 in
theorem compactR_at (b o cap : Nat) (d : Array ((Int × Int) × (Int × Int))) (w : World) (hH : RowR w b o d) (hn : d.size ≤ 1048576) (hcap : d.size ≤ cap) :
    Calls Tryz.prog 102 #[.slice (some ⟨b, o, none⟩) d.size cap] w fun e w' => e = .returned (.slice (some ⟨b, o, none⟩) (compactUpTo d d.size).length cap) ∧ AreasAt w' b o ((compactUpTo d d.size).map arT) ∧ Kp w w' (fun i => i = b) := by
  have HS : Hid (∀ q, (∀ j, j < d.size → keeps d j = true) → (compactUpTo d d.size).length = d.size ∧ AreasAt (w.drewN q) b o ((compactUpTo d d.size).map arT)) := fun q hall => by
    have e : compactUpTo d d.size = d.toList := by rw [compactUpTo_all d _ hall, range_map_get]
    rw [e]
    refine ⟨by simp, ?_⟩
    have := hH.low (w' := w.drewN q) d.size (fun j _ => rfl)
    rwa [List.take_of_length_le (by simp)] at this
  have HH : Hid (RowR w b o d) := hH
  clear hH
  by_cases h2 : d.size < 2
  · have HE := HS.out 0 (fun j hj => keeps_lt_one d j (by omega))
    rw [HE.1]
    have HE2 : Hid (AreasAt (w.drewN 0) b o ((compactUpTo d d.size).map arT)) := HE.2
    clear HE HS HH
    go_enter Tryz.func102, Tryz.ntmps102
    go_wp2
    go_ret
    exact ⟨rfl, HE2.out, Kp.refl _ _⟩
  · obtain ⟨n, hnn⟩ : ∃ n, d.size = n := ⟨_, rfl⟩
    have HN : Hid (d.size = n) := hnn
    have h2' : 2 ≤ n := by omega
    have hn' : n ≤ 1048576 := by omega
    have hcap' : n ≤ cap := by omega
    obtain ⟨R, hR⟩ : ∃ R, compactUpTo d d.size = R := ⟨_, rfl⟩
    have HR : Hid (compactUpTo d d.size = R) := hR
    rw [hR]
    rw [hnn]
    clear hR hnn h2 hn hcap
    go_enter Tryz.func102, Tryz.ntmps102
    go_wp2
    go_loopw [3] (fun s wr => CoQ d w s wr) (fun s _ => n - (intOf s).toNat)
    case atStart => exact ⟨1, 0, by omega, by rw [HN.out]; omega, rfl, rfl, keeps_lt_one d⟩
    case round =>
      obtain ⟨k, q, hk1, hk, rfl, rfl, hall⟩ := hrel
      rw [HN.out] at hk
      have HA : Hid (∀ j, j < k → keeps d j = true) := hall
      clear hall
      by_cases hlt : k < n
      · obtain ⟨⟨c1, c2, c1', c2'⟩, _⟩ := HH.out k (by rw [HN.out]; exact hlt)
        obtain ⟨⟨c3, c4, c3', c4'⟩, _⟩ := HH.out (k - 1) (by rw [HN.out]; omega)
        obtain ⟨⟨⟨x1, x2⟩, x3, x4⟩, hx⟩ : ∃ x, d[k]! = x := ⟨_, rfl⟩
        obtain ⟨⟨⟨y1, y2⟩, y3, y4⟩, hy⟩ : ∃ y, d[k - 1]! = y := ⟨_, rfl⟩
        rw [hx] at c1 c2 c1' c2'
        rw [hy] at c3 c4 c3' c4'
        simp only at c1 c2 c3 c4 c1' c2' c3' c4'
        have HX : Hid (d[k]! = ((x1, x2), x3, x4) ∧ d[k - 1]! = ((y1, y2), y3, y4)) := ⟨hx, hy⟩
        clear hx hy
        have k1 : (1 : Int) ≤ (k : Int) := by omega
        have k2 : (k : Int) < (n : Int) := by omega
        have k3 : IntKind.i64.wrap ((k : Int) - 1) = ((k - 1 : Nat) : Int) := by rw [IntKind.wrap_i64]; omega
        have k4 : ((k - 1 : Nat) : Int) < (n : Int) := by omega
        by_cases hdup : (x1 = y1 ∧ x2 = y2) ∧ x3 = y3 ∧ x4 = y4
        · obtain ⟨⟨rfl, rfl⟩, rfl, rfl⟩ := hdup
          have hq := eql_area x1 x2 x3 x4 x1 x2 x3 x4 true (by simp)
          go_wp2_with fail
          go_quiet (fail)
          go_wp2_with fail
          clear hq c1 c2 c3 c4 c1' c2' c3' c4'
          go_loopw [3, 5] (fun s3 s5 wr => CiQ d w b o k s3 s5 wr) (fun _ s5 _ => n - k - (intOf s5).toNat)
          case atStart => exact ⟨k, 1, d, rfl, rfl, by omega, by rw [HN.out]; omega, (Kp.refl w _).drewN _, HH.out, CompInv.start HA.out (keeps_neg (by omega) (by rw [HX.out.1, HX.out.2]))⟩
          case round =>
            obtain ⟨kk, m, dk, rfl, rfl, h1, hle, hkp, hrow, hI⟩ := hrel
            rw [HN.out] at hle
            have hkk : kk < k + m := hI.lt
            have hds : dk.size = n := hI.size.trans HN.out
            have HKP : Hid (Kp w wr (fun i => i = b)) := hkp
            have HROW : Hid (RowR wr b o dk) := hrow
            have HI : Hid (CompInv d (k + m) kk dk) := hI
            clear hkp hrow hI
            by_cases hlt2 : k + m < n
            · obtain ⟨⟨c1, c2, c1', c2'⟩, _⟩ := HROW.out (k + m) (by omega)
              obtain ⟨⟨c3, c4, c3', c4'⟩, _⟩ := HROW.out (k + m - 1) (by omega)
              obtain ⟨⟨c5, c6, c7, c8⟩, f5, f6, f7, f8⟩ := HROW.out kk (by omega)
              rw [HI.out.high (k + m) (by omega)] at c1 c2 c1' c2'
              rw [HI.out.high (k + m - 1) (by omega)] at c3 c4 c3' c4'
              obtain ⟨⟨⟨u1, u2⟩, u3, u4⟩, hx⟩ : ∃ x, d[k + m]! = x := ⟨_, rfl⟩
              obtain ⟨⟨⟨y1, y2⟩, y3, y4⟩, hy⟩ : ∃ y, d[k + m - 1]! = y := ⟨_, rfl⟩
              rw [hx] at c1 c2 c1' c2'
              rw [hy] at c3 c4 c3' c4'
              simp only at c1 c2 c3 c4 c1' c2' c3' c4'
              rw [show o + (k + m) * 4 = o + k * 4 + m * 4 by omega] at c1 c2 c1' c2'
              rw [show o + (k + m - 1) * 4 = o + k * 4 + (m - 1) * 4 by omega] at c3 c4 c3' c4'
              have HU : Hid (d[k + m]! = ((u1, u2), u3, u4) ∧ d[k + m - 1]! = ((y1, y2), y3, y4)) := ⟨hx, hy⟩
              clear hx hy
              have m1 : (1 : Int) ≤ (m : Int) := by omega
              have m2 : (m : Int) < ((n - k : Nat) : Int) := by omega
              have m3 : IntKind.i64.wrap ((m : Int) - 1) = ((m - 1 : Nat) : Int) := by rw [IntKind.wrap_i64]; omega
              have m4 : ((m - 1 : Nat) : Int) < ((n - k : Nat) : Int) := by omega
              have m5 : (kk : Int) < (n : Int) := by omega
              by_cases hdup2 : (u1 = y1 ∧ u2 = y2) ∧ u3 = y3 ∧ u4 = y4
              · obtain ⟨⟨rfl, rfl⟩, rfl, rfl⟩ := hdup2
                have hq := neq_area u1 u2 u3 u4 u1 u2 u3 u4 true (by simp)
                go_wp2_with fail
                go_quiet (fail)
                go_wp2_with fail
                go_roundw
                case rel => exact ⟨kk, m + 1, dk, rfl, by go_num, by omega, by rw [HN.out]; omega, HKP.out.drewN _, HROW.out, HI.out.skip (keeps_neg (by omega) (by rw [HU.out.1, HU.out.2]))⟩
                case measure => simp only [intOf]; omega
              · have hq := neq_area u1 u2 u3 u4 y1 y2 y3 y4 false (by simpa using hdup2)
                go_wp2_with fail
                go_quiet (fail)
                go_wp2_with fail
                go_roundw
                case rel => exact ⟨kk + 1, m + 1, dk.setIfInBounds kk ((u1, u2), u3, u4), by go_num, by go_num, by omega, by rw [HN.out]; omega, ((((HKP.out.drewN _).setCell ⟨b, o + kk * 4, none⟩ _ (.inr rfl)).setCell ⟨b, o + kk * 4 + 1, none⟩ _ (.inr rfl)).setCell ⟨b, o + kk * 4 + 2, none⟩ _ (.inr rfl)).setCell ⟨b, o + kk * 4 + 3, none⟩ _ (.inr rfl), RowR.set (w := wr.drewN _) HROW.out kk (by omega) ((u1, u2), u3, u4), by have := HI.out.keep (by rw [HN.out]; exact hlt2) (keeps_pos (by rw [HU.out.1, HU.out.2]; intro h; simp at h; exact hdup2 h)); rw [HU.out.1] at this; exact this⟩
                case measure => simp only [intOf]; omega
            · have hend : k + m = n := by omega
              have hz := zeroArea_cells (n - kk)
              obtain ⟨W, hW⟩ : ∃ W, wr.setCells b (o + kk * 4) (Builtin.zeroCells (Value.agg #[.int .i64 0, .int .i64 0, .int .i64 0, .int .i64 0]).cells (n - kk)).toList = W := ⟨_, rfl⟩
              have hcl : ∀ ty, (Builtin.clear_ #[31] ty #[.slice (some ⟨b, o + kk * 4, none⟩) (n - kk) (cap - kk)]).run Tryz.prog wr = .ok (.tuple #[]) W := fun ty => by
                rw [← hW]
                refine clear_is wr _ _ ty _ Tryz.underlying31 Tryz.zeroValue52 b (o + kk * 4) (n - kk) (cap - kk) (by omega) (fun j hj => ?_) (fun j hj => ?_) (fun v hv => ?_)
                · rw [hz, List.length_replicate] at hj
                  obtain ⟨⟨e1, e2, e3, e4⟩, _⟩ := HROW.out (kk + j / 4) (by omega)
                  have : j % 4 = 0 ∨ j % 4 = 1 ∨ j % 4 = 2 ∨ j % 4 = 3 := by omega
                  rcases this with e | e | e | e
                  · rw [show o + kk * 4 + j = o + (kk + j / 4) * 4 by omega, e1]; rfl
                  · rw [show o + kk * 4 + j = o + (kk + j / 4) * 4 + 1 by omega, e2]; rfl
                  · rw [show o + kk * 4 + j = o + (kk + j / 4) * 4 + 2 by omega, e3]; rfl
                  · rw [show o + kk * 4 + j = o + (kk + j / 4) * 4 + 3 by omega, e4]; rfl
                · rw [hz, List.length_replicate] at hj
                  obtain ⟨_, e1, e2, e3, e4⟩ := HROW.out (kk + j / 4) (by omega)
                  have : j % 4 = 0 ∨ j % 4 = 1 ∨ j % 4 = 2 ∨ j % 4 = 3 := by omega
                  rcases this with e | e | e | e
                  · rw [show o + kk * 4 + j = o + (kk + j / 4) * 4 by omega, e1]
                  · rw [show o + kk * 4 + j = o + (kk + j / 4) * 4 + 1 by omega, e2]
                  · rw [show o + kk * 4 + j = o + (kk + j / 4) * 4 + 2 by omega, e3]
                  · rw [show o + kk * 4 + j = o + (kk + j / 4) * 4 + 3 by omega, e4]
                · rw [hz] at hv
                  rw [List.eq_of_mem_replicate hv]; rfl
              have HW : Hid (Kp w W (fun i => i = b) ∧ AreasAt W b o ((dk.toList.take kk).map arT)) := by
                refine ⟨?_, ?_⟩
                · rw [← hW]; exact HKP.out.trans (setCells_kp b _ _ _)
                · refine HROW.out.low kk (fun j hj => ?_)
                  rw [← hW, setCells_low b _ _ _ _ (by omega)]
              have m5 : (kk : Int) < (n : Int) := by omega
              have m6 : (m : Int) = ((n - k : Nat) : Int) := by omega
              have m7 : (kk : Int) ≤ (n : Int) := by omega
              clear hW hz
              go_wp2_with fail
              go_ret
              have hI := HI.out
              rw [hend, ← HN.out] at hI
              have e1 := hI.len
              rw [HR.out] at e1
              obtain ⟨g1, g2⟩ := HW.out
              refine ⟨by rw [e1]; rfl, ?_, g1⟩
              rw [comp_takeR hI, HR.out] at g2
              exact g2
        · have hq := eql_area x1 x2 x3 x4 y1 y2 y3 y4 false (by simpa using hdup)
          go_wp2_with fail
          go_quiet (fail)
          go_wp2_with fail
          go_roundw
          case rel =>
            refine ⟨k + 1, _, by omega, by rw [HN.out]; omega, by go_num, rfl, fun j hj => ?_⟩
            by_cases e : j = k
            · subst e
              exact keeps_pos (by rw [HX.out.1, HX.out.2]; intro h; simp at h; exact hdup h)
            · exact HA.out j (by omega)
          case measure => simp only [intOf]; omega
      · have : k = n := by omega
        subst this
        go_wp2
        go_ret
        obtain ⟨e1, e2⟩ := HS.out q (by rw [HN.out]; exact HA.out)
        rw [HR.out, HN.out] at e1
        rw [HR.out] at e2
        exact ⟨by rw [e1]; rfl, e2, Kp.of_drew ⟨_, rfl⟩⟩
set_option maxHeartbeats 1000000 in
theorem compactR_nil (w : World) : Calls Tryz.prog 102 #[.slice none 0 0] w fun e w' => e = .returned (.slice none 0 0) ∧ w' = w := by
  go_enter Tryz.func102, Tryz.ntmps102
  go_wp2
  go_ret
  exact ⟨rfl, rfl⟩
/-- A list of areas in memory, from block B on, or none. -/
def AreasFrom (B : Nat) (w : World) (v : Value) (L : List Ar) : Prop := ∃ a c, v = .slice a L.length c ∧ L.length ≤ c ∧ c ≤ maxLen ∧ ((a = none ∧ L = []) ∨ ∃ b, a = some ⟨b, 0, none⟩ ∧ B ≤ b ∧ AreasAt w b 0 L)
theorem compact_areas (A : List ((Int × Int) × (Int × Int))) (v : Value) (B : Nat) (w : World) (hA : A.length ≤ 1048576) (hv : Own1 encR 4 B w v (A.mergeSort fun x y => !(ltOf cfR) y x)) :
    Calls Tryz.prog 102 #[v] w fun e w' => ∃ (L : List ((Int × Int) × (Int × Int))) (v' : Value), e = .returned v' ∧ AreasFrom B w' v' (L.map arT) ∧ L.length ≤ A.length ∧ (∀ x, x ∈ L ↔ x ∈ A) ∧ Kp w w' (fun i => B ≤ i) := by
  have hmem : ∀ x, x ∈ (A.mergeSort fun x y => !(ltOf cfR) y x) ↔ x ∈ A := fun x => List.mem_mergeSort
  rcases hv with ⟨h0, rfl⟩ | ⟨g, cap, rfl, h2, h3, h4, h5, h6⟩
  · refine (compactR_nil w).mono ?_
    rintro e w' ⟨rfl, rfl⟩
    refine ⟨[], _, rfl, ⟨none, 0, rfl, Nat.le_refl _, by decide, .inl ⟨rfl, rfl⟩⟩, Nat.zero_le _, fun x => ?_, Kp.refl _ _⟩
    rw [← hmem, h0]
  · have hl := List.length_mergeSort (le := fun x y => !(ltOf cfR) y x) A
    refine (compactR_at g 0 cap (A.mergeSort fun x y => !(ltOf cfR) y x).toArray w (RowR.of h4) (by simp; omega) (by simp; omega)).mono ?_
    rintro e w' ⟨rfl, hc, hk⟩
    have hs := compact_sorted swoR cfR_same (A.mergeSort fun x y => !(ltOf cfR) y x).toArray (merge_sorted swoR A)
    have hlen : (compactUpTo (A.mergeSort fun x y => !(ltOf cfR) y x).toArray (A.mergeSort fun x y => !(ltOf cfR) y x).toArray.size).length ≤ A.length := by
      have := List.length_filter_le (keeps (A.mergeSort fun x y => !(ltOf cfR) y x).toArray) (List.range (A.mergeSort fun x y => !(ltOf cfR) y x).toArray.size)
      simp only [compactUpTo, List.length_map]
      simp only [List.length_range, List.size_toArray, hl] at this ⊢
      exact this
    refine ⟨_, _, rfl, ⟨_, _, by rw [List.length_map], ?_, h6, .inr ⟨g, rfl, h2, hc⟩⟩, hlen, fun x => ?_, hk.mono (fun i _ e => by subst e; exact h2)⟩
    · rw [List.length_map]; omega
    · rw [hs.2, ← hmem]
set_option maxHeartbeats 1000000 in
theorem orderedR_at (A : List Ar) (a : Option Addr) (c : Nat) (w : World) (hA : A.length ≤ 1048576) (ha : 0 < A.length → ∃ b o, a = some ⟨b, o, none⟩ ∧ AreasAt w b o A) :
    Calls Tryz.prog 67 #[.slice a A.length c, .func (.func 68) #[] #[]] w fun e w' => ∃ (L : List Ar) (v' : Value), e = .returned v' ∧ AreasFrom w.heap.size w' v' L ∧ L.length ≤ A.length ∧ (∀ x, x ∈ L ↔ x ∈ A) ∧ Kp w w' Nul := by
  have el : (A.map tupA).length = A.length := List.length_map ..
  have H1 : Hid (Calls Tryz.prog 42 #[.slice a A.length c] w fun e w' => ∃ v', e = .returned v' ∧ Own1 encR 4 w.heap.size w' v' (A.map tupA) ∧ Kp w w' Nul) := by
    have := clone_areas (A.map tupA) a c w (by rw [el]; exact hA) (fun h0 => by
      obtain ⟨b, o, e, h⟩ := ha (by rw [el] at h0; exact h0)
      exact ⟨b, o, e, h.enc⟩)
    rw [el] at this
    exact this
  have H2 : Hid (∀ v wq, Own1 encR 4 w.heap.size wq v (A.map tupA) → Kp w wq Nul → Calls Tryz.prog 101 #[v, .func (.func 68) #[] #[]] wq fun e w' => e = .returned (.tuple #[]) ∧ Own1 encR 4 w.heap.size w' v ((A.map tupA).mergeSort fun x y => !(ltOf cfR) y x) ∧ Kp w w' Nul) := fun v wq ho hk =>
    (sort_areas (A.map tupA) v w.heap.size wq (by rw [el]; exact hA) ho).mono fun e w' ⟨h1, h2, h3⟩ => ⟨h1, h2, hk.trans' h3 (fun i hi e => absurd e (by omega))⟩
  have H3 : Hid (∀ v wq, Own1 encR 4 w.heap.size wq v ((A.map tupA).mergeSort fun x y => !(ltOf cfR) y x) → Kp w wq Nul → Calls Tryz.prog 102 #[v] wq fun e w' => ∃ (L : List Ar) (v' : Value), e = .returned v' ∧ AreasFrom w.heap.size w' v' L ∧ L.length ≤ A.length ∧ (∀ x, x ∈ L ↔ x ∈ A) ∧ Kp w w' Nul) := fun v wq ho hk =>
    (compact_areas (A.map tupA) v w.heap.size wq (by rw [el]; exact hA) ho).mono fun e w' ⟨L, v', h1, h2, h3, h4, h5⟩ => ⟨L.map arT, v', h1, h2, by rw [List.length_map, ← el]; exact h3, fun x => by
      rw [List.mem_map]
      constructor
      · rintro ⟨y, hy, rfl⟩
        obtain ⟨z, hz, rfl⟩ := List.mem_map.1 ((h4 y).1 hy)
        exact hz
      · intro hx
        exact ⟨tupA x, (h4 _).2 (List.mem_map.2 ⟨x, hx, rfl⟩), rfl⟩, hk.trans' h5 (fun i hi e => absurd e (by omega))⟩
  generalize A.length = n at *
  clear hA ha el
  go_enter Tryz.func67, Tryz.ntmps67
  go_wp2_with fail
  refine H1.out.mono ?_
  rintro e w1 ⟨v1, rfl, ho1, hk1⟩
  go_wp2_with fail
  refine (H2.out v1 w1 ho1 hk1).mono ?_
  rintro e w2 ⟨rfl, ho2, hk2⟩
  go_wp2_with fail
  refine (H3.out v1 w2 ho2 hk2).mono ?_
  rintro e w3 ⟨L, v3, rfl, hc, hs, hm, hk3⟩
  go_wp2_with fail
  go_ret
  exact ⟨L, v3, rfl, hc, hs, hm, hk3⟩
end Go.Proofs.YtkgolfmnlbmmeaaGreatDoor
