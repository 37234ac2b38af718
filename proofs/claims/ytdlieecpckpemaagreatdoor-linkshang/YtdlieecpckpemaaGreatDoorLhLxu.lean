/- ordered of cells, whose row may be written still. slices.DeleteFunc of cells that are none. Above's beginning: the cells that may be, the board of them, whose areas have some. What Above tells, plain. Above. Uses. made, and what its links have. The law's circle. The cells of a circle. Drop: what cells had they have. -/
import Derived.Test.YtdlieecpckpemaaGreatDoorLhLxp
import Derived.Test.YtdlieecpckpemaaGreatDoorLhLxi
import Derived.Test.YtdlieecpckpemaaGreatDoorLhZs
namespace Go.Proofs.YtdlieecpckpemaaGreatDoor
open Go.RowKit Go.Sort Go.Lib
theorem frozen_setCells (b : Nat) : ∀ (vs : List Value) (o : Nat) (w : World) (a : Addr), (w.setCells b o vs).frozen? a = w.frozen? a := by
  intro vs
  induction vs with
  | nil => intro o w a; rfl
  | cons v vs ih => intro o w a; simp only [World.setCells]; rw [ih, World.frozen?_setCell]
theorem RowA.lowW {w w' : World} {b o : Nat} {d : Array (Int × Int)} (h : RowA w b o d) (m : Nat) (hl : ∀ j, j < m * 2 → w'.cell? ⟨b, o + j, none⟩ = w.cell? ⟨b, o + j, none⟩) (hf : ∀ a, w'.frozen? a = w.frozen? a) : RowA w' b o (d.toList.take m).toArray := fun j hj => by
  have hj1 : j < m ∧ j < d.size := by simp at hj; omega
  obtain ⟨⟨h1, h2⟩, h3, h4⟩ := h j hj1.2
  have e : (d.toList.take m).toArray[j]! = d[j]! := by
    rw [getElem!_pos _ j hj, getElem!_pos d j hj1.2]
    simp
  rw [e, hf, hf, show o + j * 2 + 1 = o + (j * 2 + 1) from rfl, hl (j * 2) (by omega), hl (j * 2 + 1) (by omega)]
  exact ⟨⟨h1, h2⟩, h3, h4⟩
/-- A list in memory, from block B on, or none: it may be written. -/
def CellsOwn (B : Nat) (w : World) (v : Value) (L : List (Int × Int)) : Prop := ∃ a c, v = .slice a L.length c ∧ L.length ≤ c ∧ ((a = none ∧ L = []) ∨ ∃ b, a = some ⟨b, 0, none⟩ ∧ B ≤ b ∧ RowA w b 0 L.toArray)
set_option maxRecDepth 20000 in
set_option maxHeartbeats 4000000 in
theorem compactW_at (b o cap : Nat) (d : Array (Int × Int)) (w : World) (hH : RowA w b o d) (hn : d.size ≤ 1048576) (hcap : d.size ≤ cap) :
    Calls Tryz.prog 85 #[.slice (some ⟨b, o, none⟩) d.size cap] w fun e w' => e = .returned (.slice (some ⟨b, o, none⟩) (compactUpTo d d.size).length cap) ∧ RowA w' b o (compactUpTo d d.size).toArray ∧ Kp w w' (fun i => i = b) := by
  have HS : Hid (∀ q, (∀ j, j < d.size → keeps d j = true) → (compactUpTo d d.size).length = d.size ∧ RowA (w.drewN q) b o (compactUpTo d d.size).toArray) := fun q hall => by
    have e : compactUpTo d d.size = d.toList := by rw [compactUpTo_all d _ hall, range_map_get]
    rw [e]
    exact ⟨by simp, hH.kp ((Kp.refl w Nul).drewN q) (fun x => x)⟩
  have HH : Hid (RowA w b o d) := hH
  clear hH
  by_cases h2 : d.size < 2
  · have HE := HS.out 0 (fun j hj => keeps_lt_one d j (by omega))
    rw [HE.1]
    have HE2 : Hid (RowA (w.drewN 0) b o (compactUpTo d d.size).toArray) := HE.2
    clear HE HS HH
    go_enter Tryz.func85, Tryz.ntmps85
    go_wp2
    go_ret
    exact ⟨rfl, HE2.out, Kp.refl _ _⟩
  · obtain ⟨n, hnn⟩ : ∃ n, d.size = n := ⟨_, rfl⟩
    have HN : Hid (d.size = n) := hnn
    have h2' : 2 ≤ n := by omega
    have hn' : n ≤ 1048576 := by omega
    have hcap' : n ≤ cap := by omega
    obtain ⟨R, hR⟩ : ∃ R, compactUpTo d d.size = R := ⟨_, rfl⟩
    have HR : Hid (compactUpTo d d.size = R) := hR
    rw [hR]
    rw [hnn]
    clear hR hnn h2 hn hcap
    go_enter Tryz.func85, Tryz.ntmps85
    go_wp2
    go_loopw [3] (fun s wr => CoR d w s wr) (fun s _ => n - (intOf s).toNat)
    case atStart => exact ⟨1, 0, by omega, by rw [HN.out]; omega, rfl, rfl, keeps_lt_one d⟩
    case round =>
      obtain ⟨k, q, hk1, hk, rfl, rfl, hall⟩ := hrel
      rw [HN.out] at hk
      have HA : Hid (∀ j, j < k → keeps d j = true) := hall
      clear hall
      by_cases hlt : k < n
      · obtain ⟨⟨c1, c2⟩, _⟩ := HH.out k (by rw [HN.out]; exact hlt)
        obtain ⟨⟨c3, c4⟩, _⟩ := HH.out (k - 1) (by rw [HN.out]; omega)
        obtain ⟨⟨x1, x2⟩, hx⟩ : ∃ x, d[k]! = x := ⟨_, rfl⟩
        obtain ⟨⟨y1, y2⟩, hy⟩ : ∃ y, d[k - 1]! = y := ⟨_, rfl⟩
        rw [hx] at c1 c2
        rw [hy] at c3 c4
        simp only at c1 c2 c3 c4
        have HX : Hid (d[k]! = (x1, x2) ∧ d[k - 1]! = (y1, y2)) := ⟨hx, hy⟩
        clear hx hy
        have k1 : (1 : Int) ≤ (k : Int) := by omega
        have k2 : (k : Int) < (n : Int) := by omega
        have k3 : IntKind.i64.wrap ((k : Int) - 1) = ((k - 1 : Nat) : Int) := by rw [IntKind.wrap_i64]; omega
        have k4 : ((k - 1 : Nat) : Int) < (n : Int) := by omega
        by_cases hdup : x1 = y1 ∧ x2 = y2
        · obtain ⟨rfl, rfl⟩ := hdup
          have hq := eql_addr x1 x2 x1 x2 true (by simp)
          go_wp2_with fail
          go_quiet (fail)
          go_wp2_with fail
          clear hq c1 c2 c3 c4
          go_loopw [3, 5] (fun s3 s5 wr => CiR d w b o k s3 s5 wr) (fun _ s5 _ => n - k - (intOf s5).toNat)
          case atStart => exact ⟨k, 1, d, rfl, rfl, by omega, by rw [HN.out]; omega, (Kp.refl w _).drewN _, HH.out, CompInv.start HA.out (keeps_neg (by omega) (by rw [HX.out.1, HX.out.2]))⟩
          case round =>
            obtain ⟨kk, m, dk, rfl, rfl, h1, hle, hkp, hrow, hI⟩ := hrel
            rw [HN.out] at hle
            have hkk : kk < k + m := hI.lt
            have hds : dk.size = n := hI.size.trans HN.out
            have HKP : Hid (Kp w wr (fun i => i = b)) := hkp
            have HROW : Hid (RowA wr b o dk) := hrow
            have HI : Hid (CompInv d (k + m) kk dk) := hI
            clear hkp hrow hI
            by_cases hlt2 : k + m < n
            · obtain ⟨⟨c1, c2⟩, _⟩ := HROW.out (k + m) (by omega)
              obtain ⟨⟨c3, c4⟩, _⟩ := HROW.out (k + m - 1) (by omega)
              obtain ⟨⟨c5, c6⟩, f5, f6⟩ := HROW.out kk (by omega)
              rw [HI.out.high (k + m) (by omega)] at c1 c2
              rw [HI.out.high (k + m - 1) (by omega)] at c3 c4
              obtain ⟨⟨u1, u2⟩, hx⟩ : ∃ x, d[k + m]! = x := ⟨_, rfl⟩
              obtain ⟨⟨y1, y2⟩, hy⟩ : ∃ y, d[k + m - 1]! = y := ⟨_, rfl⟩
              rw [hx] at c1 c2
              rw [hy] at c3 c4
              simp only at c1 c2 c3 c4
              rw [show o + (k + m) * 2 = o + k * 2 + m * 2 by omega] at c1 c2
              rw [show o + (k + m - 1) * 2 = o + k * 2 + (m - 1) * 2 by omega] at c3 c4
              have HU : Hid (d[k + m]! = (u1, u2) ∧ d[k + m - 1]! = (y1, y2)) := ⟨hx, hy⟩
              clear hx hy
              have m1 : (1 : Int) ≤ (m : Int) := by omega
              have m2 : (m : Int) < ((n - k : Nat) : Int) := by omega
              have m3 : IntKind.i64.wrap ((m : Int) - 1) = ((m - 1 : Nat) : Int) := by rw [IntKind.wrap_i64]; omega
              have m4 : ((m - 1 : Nat) : Int) < ((n - k : Nat) : Int) := by omega
              have m5 : (kk : Int) < (n : Int) := by omega
              by_cases hdup2 : u1 = y1 ∧ u2 = y2
              · obtain ⟨rfl, rfl⟩ := hdup2
                have hq := neq_addr u1 u2 u1 u2 true (by simp)
                go_wp2_with fail
                go_quiet (fail)
                go_wp2_with fail
                go_roundw
                case rel => exact ⟨kk, m + 1, dk, rfl, by go_num, by omega, by rw [HN.out]; omega, HKP.out.drewN _, HROW.out, HI.out.skip (keeps_neg (by omega) (by rw [HU.out.1, HU.out.2]))⟩
                case measure => simp only [intOf]; omega
              · have hq := neq_addr u1 u2 y1 y2 false (by simpa using hdup2)
                go_wp2_with fail
                go_quiet (fail)
                go_wp2_with fail
                go_roundw
                case rel => exact ⟨kk + 1, m + 1, dk.setIfInBounds kk (u1, u2), by go_num, by go_num, by omega, by rw [HN.out]; omega, ((HKP.out.drewN _).setCell ⟨b, o + kk * 2, none⟩ _ (.inr rfl)).setCell ⟨b, o + kk * 2 + 1, none⟩ _ (.inr rfl), RowA.set (w := wr.drewN _) HROW.out kk (by omega) (u1, u2), by have := HI.out.keep (by rw [HN.out]; exact hlt2) (keeps_pos (by rw [HU.out.1, HU.out.2]; intro h; simp at h; exact hdup2 h)); rw [HU.out.1] at this; exact this⟩
                case measure => simp only [intOf]; omega
            · have hend : k + m = n := by omega
              have hz := zeroAddr_cells (n - kk)
              obtain ⟨W, hW⟩ : ∃ W, wr.setCells b (o + kk * 2) (Builtin.zeroCells (Value.agg #[.int .i64 0, .int .i64 0]).cells (n - kk)).toList = W := ⟨_, rfl⟩
              have hcl : ∀ ty, (Builtin.clear_ #[30] ty #[.slice (some ⟨b, o + kk * 2, none⟩) (n - kk) (cap - kk)]).run Tryz.prog wr = .ok (.tuple #[]) W := fun ty => by
                rw [← hW]
                refine clear_is wr _ _ ty _ Tryz.underlying30 Tryz.zeroValue29 b (o + kk * 2) (n - kk) (cap - kk) (by omega) (fun j hj => ?_) (fun j hj => ?_) (fun v hv => ?_)
                · rw [hz, List.length_replicate] at hj
                  obtain ⟨⟨e1, e2⟩, _⟩ := HROW.out (kk + j / 2) (by omega)
                  have : j % 2 = 0 ∨ j % 2 = 1 := by omega
                  rcases this with e | e
                  · rw [show o + kk * 2 + j = o + (kk + j / 2) * 2 by omega, e1]; rfl
                  · rw [show o + kk * 2 + j = o + (kk + j / 2) * 2 + 1 by omega, e2]; rfl
                · rw [hz, List.length_replicate] at hj
                  obtain ⟨_, e1, e2⟩ := HROW.out (kk + j / 2) (by omega)
                  have : j % 2 = 0 ∨ j % 2 = 1 := by omega
                  rcases this with e | e
                  · rw [show o + kk * 2 + j = o + (kk + j / 2) * 2 by omega, e1]
                  · rw [show o + kk * 2 + j = o + (kk + j / 2) * 2 + 1 by omega, e2]
                · rw [hz] at hv
                  rw [List.eq_of_mem_replicate hv]; rfl
              have HW : Hid (Kp w W (fun i => i = b) ∧ RowA W b o (dk.toList.take kk).toArray) := by
                refine ⟨?_, ?_⟩
                · rw [← hW]; exact HKP.out.trans (setCells_kp b _ _ _)
                · refine HROW.out.lowW kk (fun j hj => ?_) (fun j => ?_)
                  · rw [← hW, setCells_low b _ _ _ _ (by omega)]
                  · rw [← hW, frozen_setCells]
              have m5 : (kk : Int) < (n : Int) := by omega
              have m6 : (m : Int) = ((n - k : Nat) : Int) := by omega
              have m7 : (kk : Int) ≤ (n : Int) := by omega
              clear hW hz
              go_wp2_with fail
              go_ret
              have hI := HI.out
              rw [hend, ← HN.out] at hI
              have e1 := hI.len
              rw [HR.out] at e1
              obtain ⟨g1, g2⟩ := HW.out
              refine ⟨by rw [e1]; rfl, ?_, g1⟩
              rw [comp_take hI, HR.out] at g2
              exact g2
        · have hq := eql_addr x1 x2 y1 y2 false (by simpa using hdup)
          go_wp2_with fail
          go_quiet (fail)
          go_wp2_with fail
          go_roundw
          case rel =>
            refine ⟨k + 1, _, by omega, by rw [HN.out]; omega, by go_num, rfl, fun j hj => ?_⟩
            by_cases e : j = k
            · subst e
              exact keeps_pos (by rw [HX.out.1, HX.out.2]; intro h; simp at h; exact hdup h)
            · exact HA.out j (by omega)
          case measure => simp only [intOf]; omega
      · have : k = n := by omega
        subst this
        go_wp2
        go_ret
        obtain ⟨e1, e2⟩ := HS.out q (by rw [HN.out]; exact HA.out)
        rw [HR.out, HN.out] at e1
        rw [HR.out] at e2
        exact ⟨by rw [e1]; rfl, e2, Kp.of_drew ⟨_, rfl⟩⟩
theorem compactW_cells (A : List (Int × Int)) (v : Value) (B : Nat) (w : World) (hA : A.length ≤ 1048576) (hv : Own1 encA 2 B w v (A.mergeSort fun x y => !(ltOf cfA) y x)) :
    Calls Tryz.prog 85 #[v] w fun e w' => ∃ L v', e = .returned v' ∧ CellsOwn B w' v' L ∧ (Strict L ∧ L.length ≤ A.length) ∧ (∀ x, x ∈ L ↔ x ∈ A) ∧ Kp w w' (fun i => B ≤ i) := by
  have hmem : ∀ x, x ∈ (A.mergeSort fun x y => !(ltOf cfA) y x) ↔ x ∈ A := fun x => List.mem_mergeSort
  rcases hv with ⟨h0, rfl⟩ | ⟨g, cap, rfl, h2, h3, h4, h5, h6⟩
  · refine (compact_nil w).mono ?_
    rintro e w' ⟨rfl, rfl⟩
    refine ⟨[], _, rfl, ⟨none, 0, rfl, Nat.le_refl _, .inl ⟨rfl, rfl⟩⟩, ⟨List.Pairwise.nil, Nat.zero_le _⟩, fun x => ?_, Kp.refl _ _⟩
    rw [← hmem, h0]
  · have hl := List.length_mergeSort (le := fun x y => !(ltOf cfA) y x) A
    refine (compactW_at g 0 cap (A.mergeSort fun x y => !(ltOf cfA) y x).toArray w (RowA.of h4) (by simp; omega) (by simp; omega)).mono ?_
    rintro e w' ⟨rfl, hc, hk⟩
    have hs := compact_sorted swoA cfA_same (A.mergeSort fun x y => !(ltOf cfA) y x).toArray (merge_sorted swoA A)
    refine ⟨_, _, rfl, ⟨_, _, rfl, ?_, .inr ⟨g, rfl, h2, hc⟩⟩, ⟨hs.1, ?_⟩, fun x => ?_, hk.mono (fun i _ e => by subst e; exact h2)⟩
    · have := List.length_filter_le (keeps (A.mergeSort fun x y => !(ltOf cfA) y x).toArray) (List.range (A.mergeSort fun x y => !(ltOf cfA) y x).toArray.size)
      simp only [compactUpTo, List.length_map]
      simp only [List.length_range, List.size_toArray, hl] at this ⊢
      omega
    · have := List.length_filter_le (keeps (A.mergeSort fun x y => !(ltOf cfA) y x).toArray) (List.range (A.mergeSort fun x y => !(ltOf cfA) y x).toArray.size)
      simp only [compactUpTo, List.length_map]
      simp only [List.length_range, List.size_toArray, hl] at this ⊢
      exact this
    · rw [hs.2, ← hmem]
set_option maxHeartbeats 1000000 in
theorem orderedW_at (A : List (Int × Int)) (a : Option Addr) (c : Nat) (w : World) (hA : A.length ≤ 1048576) (ha : 0 < A.length → ∃ b o, a = some ⟨b, o, none⟩ ∧ CellsAt w b o A) :
    Calls Tryz.prog 49 #[.slice a A.length c, .func (.func 50) #[] #[]] w fun e w' => ∃ L v', e = .returned v' ∧ CellsOwn w.heap.size w' v' L ∧ (Strict L ∧ L.length ≤ A.length) ∧ (∀ x, x ∈ L ↔ x ∈ A) ∧ Kp w w' Nul := by
  have H1 : Hid (Calls Tryz.prog 84 #[.slice a A.length c] w fun e w' => ∃ v', e = .returned v' ∧ Own1 encA 2 w.heap.size w' v' A ∧ Kp w w' Nul) := clone_cells A a c w hA ha
  have H2 : Hid (∀ v wq, Own1 encA 2 w.heap.size wq v A → Kp w wq Nul → Calls Tryz.prog 80 #[v, .func (.func 50) #[] #[]] wq fun e w' => e = .returned (.tuple #[]) ∧ Own1 encA 2 w.heap.size w' v (A.mergeSort fun x y => !(ltOf cfA) y x) ∧ Kp w w' Nul) := fun v wq ho hk =>
    (sort_cells A v w.heap.size wq hA ho).mono fun e w' ⟨h1, h2, h3⟩ => ⟨h1, h2, hk.trans' h3 (fun i hi e => absurd e (by omega))⟩
  have H3 : Hid (∀ v wq, Own1 encA 2 w.heap.size wq v (A.mergeSort fun x y => !(ltOf cfA) y x) → Kp w wq Nul → Calls Tryz.prog 85 #[v] wq fun e w' => ∃ L v', e = .returned v' ∧ CellsOwn w.heap.size w' v' L ∧ (Strict L ∧ L.length ≤ A.length) ∧ (∀ x, x ∈ L ↔ x ∈ A) ∧ Kp w w' Nul) := fun v wq ho hk =>
    (compactW_cells A v w.heap.size wq hA ho).mono fun e w' ⟨L, v', h1, h2, h3, h4, h5⟩ => ⟨L, v', h1, h2, h3, h4, hk.trans' h5 (fun i hi e => absurd e (by omega))⟩
  generalize A.length = n at *
  clear hA ha
  go_enter Tryz.func49, Tryz.ntmps49
  go_wp2_with fail
  refine H1.out.mono ?_
  rintro e w1 ⟨v1, rfl, ho1, hk1⟩
  go_wp2_with fail
  refine (H2.out v1 w1 ho1 hk1).mono ?_
  rintro e w2 ⟨rfl, ho2, hk2⟩
  go_wp2_with fail
  refine (H3.out v1 w2 ho2 hk2).mono ?_
  rintro e w3 ⟨L, v3, rfl, hc, hs, hm, hk3⟩
  go_wp2_with fail
  go_ret
  exact ⟨L, v3, rfl, hc, hs, hm, hk3⟩
end Go.Proofs.YtdlieecpckpemaaGreatDoor
namespace Go.Proofs.YtdlieecpckpemaaGreatDoor
open Go.RowKit Go.Sort Go.Lib
abbrev kC (x : Int × Int) : Bool := vC x.1 x.2
theorem indexF_at (A : List (Int × Int)) (b o c : Nat) (w : World) (hA : A.length ≤ 1048576) (h0 : 0 < A.length) (hc : CellsAt w b o A) :
    Calls Tryz.prog 83 #[.slice (some ⟨b, o, none⟩) A.length c, .func (.func 51) #[] #[]] w fun e w' =>
      ((e = .returned (.int .i64 (-1)) ∧ ∀ x ∈ A, kC x = true) ∨ ∃ (k : Nat) (x : Int × Int), e = .returned (.int .i64 (k : Int)) ∧ A[k]? = some x ∧ kC x = false ∧ ∀ y ∈ A.take k, kC y = true) ∧ Kp w w' Nul := by
  obtain ⟨x0, hx0⟩ : ∃ x, A[0]? = some x := ⟨_, List.getElem?_eq_getElem h0⟩
  have hp : PredBelow Tryz.prog 51 #[] (fun x => .agg (encA x).toArray) (fun x => !vC x.1 x.2) w := fun W x hW => by
    refine (isNoCell_at x.1 x.2 W).mono ?_
    rintro e w' ⟨rfl, hg⟩
    refine ⟨rfl, ?_⟩
    have h2 : Kp W w' Nul := Kp.of_gr hg
    exact ⟨h2.os.trans hW.os, h2.tape.trans hW.tape, h2.output.trans hW.output, Nat.le_trans hW.size h2.size, fun i hi => (h2.block i (Nat.lt_of_lt_of_le hi hW.size) (fun x => x)).trans (hW.block i hi)⟩
  have L := Tryz.layContainsFuncAddr
  have hs := AnyQ.slices_IndexFunc { L with } 2 Tryz.isAgg29 Tryz.sizeOf29 encA encA_len (fun x => !vC x.1 x.2) 51 #[] (enters_of Tryz.func51 (by kernel_rfl) rfl) b o A.length c A w hp (Nat.le_refl _) (by omega) (cell_lt (hc 0 x0 hx0).1) (fun j hj i v hv => by
    rw [getElem!_pos A j hj] at hv
    exact hc.enc j A[j] (List.getElem?_eq_getElem hj) i v hv)
  refine hs.mono ?_
  rintro e w' ⟨rfl, hb⟩
  refine ⟨?_, Kp.of_below hb⟩
  by_cases hall : ∀ x ∈ A, kC x = true
  · refine .inl ⟨?_, hall⟩
    rw [idxBy_miss (fun _ y => !vC y.1 y.2) A A.length default (fun j hj => by
      rw [getElem!_pos A j hj]
      have := hall A[j] (List.getElem_mem hj)
      simp only [kC] at this
      simp [this])]
  · have hex : ∃ (k : Nat) (x : Int × Int), A[k]? = some x ∧ kC x = false := by
      apply Classical.byContradiction
      intro hno
      exact hall (fun x hx => by
        obtain ⟨k, hk⟩ := List.getElem?_of_mem hx
        cases hv : kC x with
        | true => rfl
        | false => exact absurd ⟨k, x, hk, hv⟩ hno)
    obtain ⟨k, ⟨x, hx, hv⟩, hmin⟩ : ∃ k : Nat, (∃ x : Int × Int, A[k]? = some x ∧ kC x = false) ∧ ∀ j, j < k → ¬ ∃ x : Int × Int, A[j]? = some x ∧ kC x = false := by
      obtain ⟨k, hk⟩ := hex
      induction k using Nat.strongRecOn with
      | ind k ih =>
        by_cases h : ∃ j, j < k ∧ ∃ x : Int × Int, A[j]? = some x ∧ kC x = false
        · obtain ⟨j, hj, hq⟩ := h
          exact ih j hj hq
        · exact ⟨k, hk, fun j hj hq => h ⟨j, hj, hq⟩⟩
    have hkl := (List.getElem?_eq_some_iff.1 hx).1
    have hbel : ∀ j, j < k → kC A[j]! = true := fun j hj => by
      rw [getElem!_pos A j (by omega)]
      cases hv2 : kC A[j] with
      | true => rfl
      | false => exact absurd ⟨_, List.getElem?_eq_getElem (by omega), hv2⟩ (hmin j hj)
    refine .inr ⟨k, x, ?_, hx, hv, fun y hy => ?_⟩
    · rw [idxBy_hit (fun _ y => !vC y.1 y.2) A A.length k default hkl (Nat.le_refl _) (by
        rw [getElem!_pos A k hkl, (List.getElem?_eq_some_iff.1 hx).2]
        simp only [kC] at hv
        simp [hv]) (fun j hj => by
        have := hbel j hj
        simp only [kC] at this
        show (!vC A[j]!.1 A[j]!.2) = false
        rw [this]; rfl)]
    · obtain ⟨j, hj⟩ := List.getElem?_of_mem hy
      rw [List.getElem?_take] at hj
      split at hj
      · rename_i hjk
        have := hbel j hjk
        rwa [getElem!_pos A j (by omega), (List.getElem?_eq_some_iff.1 hj).2] at this
      · cases hj
def DfR (A : List (Int × Int)) (b o : Nat) (w : World) (s5 s6 : Value) (wr : World) : Prop :=
  ∃ (i j : Nat) (dk : Array (Int × Int)), s5 = .int .i64 (i : Int) ∧ s6 = .int .i64 (j : Int) ∧ i < j ∧ j ≤ A.length ∧ dk.size = A.length ∧ dk.toList.take i = (A.take j).filter kC ∧ (∀ t, j ≤ t → t < A.length → dk[t]! = A[t]!) ∧ Kp w wr (fun q => q = b) ∧ RowA wr b o dk
theorem Df_keep {A : List (Int × Int)} {dk : Array (Int × Int)} {i j : Nat} {x : Int × Int} (hi : i < dk.size) (h : dk.toList.take i = (A.take j).filter kC) (hx : A[j]? = some x) (hv : kC x = true) : (dk.setIfInBounds i x).toList.take (i + 1) = (A.take (j + 1)).filter kC := by
  rw [Array.toList_setIfInBounds, List.take_add_one, List.getElem?_set_self (by simpa using hi), List.take_set_of_le (Nat.le_refl _), h, List.take_add_one, hx, List.filter_append]
  simp [List.filter, hv]
theorem Df_skip {A : List (Int × Int)} {j : Nat} {x : Int × Int} (hx : A[j]? = some x) (hv : kC x = false) : (A.take (j + 1)).filter kC = (A.take j).filter kC := by
  rw [List.take_add_one, hx, List.filter_append]
  simp [List.filter, hv]
set_option maxRecDepth 20000 in
set_option maxHeartbeats 4000000 in
theorem delete_at (A : List (Int × Int)) (b o cap : Nat) (w : World) (hH : RowA w b o A.toArray) (hn : A.length ≤ 1048576) (h0 : 0 < A.length) (hcap : A.length ≤ cap) :
    Calls Tryz.prog 48 #[.slice (some ⟨b, o, none⟩) A.length cap, .func (.func 51) #[] #[]] w fun e w' => e = .returned (.slice (some ⟨b, o, none⟩) (A.filter kC).length cap) ∧ CellsAt w' b o (A.filter kC) ∧ Kp w w' (fun i => i = b) := by
  have hcells : CellsAt w b o A := by
    have := hH.low (w' := w) A.length (fun _ _ => rfl)
    simpa using this
  have HIx := indexF_at A b o cap w hn h0 hcells
  obtain ⟨n, hnn⟩ : ∃ n, A.length = n := ⟨_, rfl⟩
  have HN : Hid (A.length = n) := hnn
  have HI : Hid (Calls Tryz.prog 83 #[.slice (some ⟨b, o, none⟩) n cap, .func (.func 51) #[] #[]] w fun e w' =>
      ((e = .returned (.int .i64 (-1)) ∧ ∀ x ∈ A, kC x = true) ∨ ∃ (k : Nat) (x : Int × Int), e = .returned (.int .i64 (k : Int)) ∧ A[k]? = some x ∧ kC x = false ∧ ∀ y ∈ A.take k, kC y = true) ∧ Kp w w' Nul) := by rw [hnn] at HIx; exact HIx
  have HH : Hid (RowA w b o A.toArray) := hH
  have HC : Hid (CellsAt w b o A) := hcells
  obtain ⟨R, hR⟩ : ∃ R, A.filter kC = R := ⟨_, rfl⟩
  have HR : Hid (A.filter kC = R) := hR
  rw [hR, hnn]
  have hn' : n ≤ 1048576 := by omega
  have hcap' : n ≤ cap := by omega
  clear HIx hR hnn hn hcap hH hcells h0
  go_enter Tryz.func48, Tryz.ntmps48
  go_upto_region 2 with (first
    | (go_at_call 83; refine HI.out.mono ?_; rintro e w1 ⟨(⟨rfl, hall⟩ | ⟨k, x, rfl, hx, hv, hbel⟩), hk1⟩)
    | fail)
  · have HAll : Hid (∀ x ∈ A, kC x = true) := hall
    have HK : Hid (Kp w w1 Nul) := hk1
    clear hall hk1
    go_wp2_with fail
    go_ret
    have e : R = A := by rw [← HR.out]; exact List.filter_eq_self.2 HAll.out
    rw [e, HN.out]
    exact ⟨rfl, HC.out.kp HK.out (fun x => x), HK.out.of_nul⟩
  · have hkl := (List.getElem?_eq_some_iff.1 hx).1
    have HST : Hid (DfR A b o w (.int .i64 (k : Int)) (.int .i64 ((k : Int) + 1)) w1) := ⟨k, k + 1, A.toArray, rfl, by push_cast; rfl, by omega, by omega, by simp, by
      rw [Df_skip hx hv, List.filter_eq_self.2 hbel], fun t _ ht => by rw [getElem!_pos A.toArray t (by simpa using ht), getElem!_pos A t ht]; rfl, hk1.of_nul, HH.out.kp hk1 (fun x => x)⟩
    have hkn : (k : Int) < (n : Int) := by rw [HN.out] at hkl; omega
    have hk0 : (0 : Int) ≤ (k : Int) := by omega
    have hkm : ((k : Int) == -1) = false := by simp
    have hwk : wrap64 ((k : Int) + 1) = (k : Int) + 1 := by unfold wrap64; omega
    clear hkl hx hv hbel hk1
    go_wp2_with fail
    go_loopw [5, 6] (fun s5 s6 wr => DfR A b o w s5 s6 wr) (fun _ s6 _ => n - (intOf s6).toNat)
    case atStart => exact HST.out
    case round =>
      clear HST
      obtain ⟨i, j, dk, rfl, rfl, hij, hjn, hds, htk, hhi, hkp, hrow⟩ := hrel
      rw [HN.out] at hjn hds
      have HTK : Hid (dk.toList.take i = (A.take j).filter kC) := htk
      have HHI : Hid (∀ t, j ≤ t → t < A.length → dk[t]! = A[t]!) := hhi
      have HKP : Hid (Kp w wr (fun q => q = b)) := hkp
      have HROW : Hid (RowA wr b o dk) := hrow
      have HDS : Hid (dk.size = n) := hds
      clear htk hhi hkp hrow hds
      by_cases hlt : j < n
      · obtain ⟨⟨c1, c2⟩, _⟩ := HROW.out j (by rw [HDS.out]; exact hlt)
        obtain ⟨⟨x1, x2⟩, hx⟩ : ∃ x, A[j]? = some x := ⟨_, List.getElem?_eq_getElem (by rw [HN.out]; exact hlt)⟩
        rw [HHI.out j (Nat.le_refl _) (by rw [HN.out]; exact hlt), getElem!_pos A j (by rw [HN.out]; exact hlt), (List.getElem?_eq_some_iff.1 hx).2] at c1 c2
        simp only at c1 c2
        have HX : Hid (A[j]? = some (x1, x2)) := hx
        obtain ⟨v, hv⟩ : ∃ v, vC x1 x2 = v := ⟨_, rfl⟩
        have HV : Hid (vC x1 x2 = v) := hv
        have HNo : Hid (∀ wq, Calls Tryz.prog 51 #[.agg #[.int .i64 x1, .int .i64 x2]] wq fun e w' => e = .returned (.bool (!v)) ∧ Gr wq w') := fun wq => by rw [← hv]; exact isNoCell_at x1 x2 wq
        have hbx := Blk.new wr [.int .i64 x1, .int .i64 x2] 29
        have HBX : Hid (Blk (wr.alloc (.cells #[.int .i64 x1, .int .i64 x2] 29)) wr.heap.size [.int .i64 x1, .int .i64 x2] 29) := hbx
        have hji : (j : Int) < (n : Int) := by omega
        have hj0 : (0 : Int) ≤ (j : Int) := by omega
        have hii : (i : Int) < (n : Int) := by omega
        have hi0 : (0 : Int) ≤ (i : Int) := by omega
        have hwj : wrap64 ((j : Int) + 1) = (j : Int) + 1 := by unfold wrap64; omega
        have hwi : wrap64 ((i : Int) + 1) = (i : Int) + 1 := by unfold wrap64; omega
        clear hx hv hbx
        cases v with
        | false =>
          go_wp2_with (first
            | (go_at_call 51; refine (HNo.out _).mono ?_; rintro e w3 ⟨rfl, hg⟩)
            | fail)
          have k3 : Kp wr w3 Nul := ((Kp.refl wr Nul).alloc _).trans (Kp.of_gr hg)
          have HEND : Hid (DfR A b o w (.int .i64 (i : Int)) (.int .i64 ((j : Int) + 1)) w3) := ⟨i, j + 1, dk, rfl, by push_cast; rfl, by omega, by rw [HN.out]; omega, by rw [HN.out]; exact HDS.out, by rw [Df_skip HX.out HV.out]; exact HTK.out, fun t h1 h2 => HHI.out t (by omega) h2, HKP.out.trans k3.of_nul, HROW.out.kp k3 (fun x => x)⟩
          clear hg k3
          go_roundw
          case rel => exact HEND.out
          case measure => simp only [intOf]; omega
        | true =>
          go_wp2_with (first
            | (go_at_call 51; refine (HNo.out _).mono ?_; rintro e w3 ⟨rfl, hg⟩; have k3 : Kp wr w3 Nul := ((Kp.refl wr Nul).alloc _).trans (Kp.of_gr hg); have hr3 : RowA w3 b o dk := HROW.out.kp k3 (fun x => x); have hb3 := HBX.out.kp (S := Nul) (Kp.of_gr hg) (fun x => x); have HR3 : Hid (RowA w3 b o dk) := hr3; have HK3 : Hid (Kp wr w3 Nul) := k3; obtain ⟨⟨c5, c6⟩, f5, f6⟩ := hr3 i (by rw [HDS.out]; omega); have q0 : w3.cell? ⟨wr.heap.size, 0, none⟩ = some (.int .i64 x1) := hb3.cell rfl; have q1 : w3.cell? ⟨wr.heap.size, 1, none⟩ = some (.int .i64 x2) := hb3.cell rfl; clear hr3 hb3 k3 hg)
            | fail)
          have HEND : Hid (DfR A b o w (.int .i64 ((i : Int) + 1)) (.int .i64 ((j : Int) + 1)) ((w3.setCell ⟨b, o + i * 2, none⟩ (.int .i64 x1)).setCell ⟨b, o + i * 2 + 1, none⟩ (.int .i64 x2))) := ⟨i + 1, j + 1, dk.setIfInBounds i (x1, x2), by push_cast; rfl, by push_cast; rfl, by omega, by rw [HN.out]; omega, by rw [HN.out, Array.size_setIfInBounds]; exact HDS.out, Df_keep (by rw [HDS.out]; omega) HTK.out HX.out HV.out, fun t h1 h2 => by
            rw [← HHI.out t (by omega) h2]
            have hts : t < dk.size := by rw [HDS.out, ← HN.out]; exact h2
            rw [getElem!_pos _ t (by rw [Array.size_setIfInBounds]; exact hts), getElem!_pos dk t hts, Array.getElem_setIfInBounds_ne (by simpa using hts) (by omega)], ((HKP.out.trans HK3.out.of_nul).setCell ⟨b, o + i * 2, none⟩ _ (.inr rfl)).setCell ⟨b, o + i * 2 + 1, none⟩ _ (.inr rfl), RowA.set HR3.out i (by rw [HDS.out]; omega) (x1, x2)⟩
          go_roundw
          case rel => exact HEND.out
          case measure => simp only [intOf]; omega
      · have hend : j = n := by omega
        have hz := zeroAddr_cells (n - i)
        obtain ⟨W, hW⟩ : ∃ W, wr.setCells b (o + i * 2) (Builtin.zeroCells (Value.agg #[.int .i64 0, .int .i64 0]).cells (n - i)).toList = W := ⟨_, rfl⟩
        have hds := HDS.out
        have hcl : ∀ ty, (Builtin.clear_ #[30] ty #[.slice (some ⟨b, o + i * 2, none⟩) (n - i) (cap - i)]).run Tryz.prog wr = .ok (.tuple #[]) W := fun ty => by
          rw [← hW]
          refine clear_is wr _ _ ty _ Tryz.underlying30 Tryz.zeroValue29 b (o + i * 2) (n - i) (cap - i) (by omega) (fun q hq => ?_) (fun q hq => ?_) (fun v hv => ?_)
          · rw [hz, List.length_replicate] at hq
            obtain ⟨⟨e1, e2⟩, _⟩ := HROW.out (i + q / 2) (by omega)
            have : q % 2 = 0 ∨ q % 2 = 1 := by omega
            rcases this with e | e
            · rw [show o + i * 2 + q = o + (i + q / 2) * 2 by omega, e1]; rfl
            · rw [show o + i * 2 + q = o + (i + q / 2) * 2 + 1 by omega, e2]; rfl
          · rw [hz, List.length_replicate] at hq
            obtain ⟨_, e1, e2⟩ := HROW.out (i + q / 2) (by omega)
            have : q % 2 = 0 ∨ q % 2 = 1 := by omega
            rcases this with e | e
            · rw [show o + i * 2 + q = o + (i + q / 2) * 2 by omega, e1]
            · rw [show o + i * 2 + q = o + (i + q / 2) * 2 + 1 by omega, e2]
          · rw [hz] at hv
            rw [List.eq_of_mem_replicate hv]; rfl
        have HW : Hid (Kp w W (fun i => i = b) ∧ CellsAt W b o (dk.toList.take i)) := by
          refine ⟨?_, ?_⟩
          · rw [← hW]; exact HKP.out.trans (setCells_kp b _ _ _)
          · refine HROW.out.low i (fun q hq => ?_)
            rw [← hW, setCells_low b _ _ _ _ (by omega)]
        have m5 : (i : Int) < (n : Int) := by omega
        have m7 : (i : Int) ≤ (n : Int) := by omega
        have m6 : ¬ (j : Int) < (n : Int) := by omega
        have HE : Hid (dk.toList.take i = R ∧ R.length = i) := by
          have e1 := HTK.out
          rw [hend, ← HN.out, List.take_length, HR.out] at e1
          refine ⟨e1, ?_⟩
          rw [← e1, List.length_take]
          have : dk.toList.length = n := by simpa using hds
          omega
        clear hW hz hds
        go_wp2_with fail
        go_ret
        obtain ⟨g1, g2⟩ := HW.out
        rw [HE.out.1] at g2
        exact ⟨by rw [HE.out.2]; rfl, g2, g1⟩
end Go.Proofs.YtdlieecpckpemaaGreatDoor
namespace Go.Proofs.YtdlieecpckpemaaGreatDoor
open Go.RowKit Go.Sort Go.Lib Tj
theorem delete_any (L : List (Int × Int)) (v : Value) (B : Nat) (w : World) (h : CellsOwn B w v L) (hn : L.length ≤ 1048576) :
    Calls Tryz.prog 48 #[v, .func (.func 51) #[] #[]] w fun e w' => ∃ a c, e = .returned (.slice a (L.filter kC).length c) ∧ (0 < (L.filter kC).length → ∃ b, a = some ⟨b, 0, none⟩ ∧ B ≤ b ∧ CellsAt w' b 0 (L.filter kC)) ∧ Kp w w' (fun i => B ≤ i) := by
  obtain ⟨a, c, rfl, hc, h⟩ := h
  by_cases h0 : 0 < L.length
  · rcases h with ⟨_, rfl⟩ | ⟨b, rfl, hB, hr⟩
    · simp at h0
    · refine (delete_at L b 0 c w hr hn h0 hc).mono ?_
      rintro e w' ⟨rfl, h1, h2⟩
      exact ⟨_, _, rfl, fun _ => ⟨b, rfl, hB, h1⟩, h2.mono (fun i _ e => by subst e; exact hB)⟩
  · have e : L = [] := List.length_eq_zero_iff.1 (by omega)
    subst e
    have HI : Hid (∀ wq, Calls Tryz.prog 83 #[.slice a 0 c, .func (.func 51) #[] #[]] wq fun e w' => e = .returned (.int .i64 (-1)) ∧ w' = wq) := fun wq => indexF_zero a c _ wq
    have HD : Hid (Calls Tryz.prog 48 #[.slice a 0 c, .func (.func 51) #[] #[]] w fun e w' => e = .returned (.slice a 0 c) ∧ w' = w) := by
      clear h hc h0 hn
      go_enter Tryz.func48, Tryz.ntmps48
      go_wp2_with (first
        | (go_at_call 83; refine (HI.out _).mono ?_; rintro e wz ⟨rfl, hz⟩; replace hz := hz.symm; subst hz)
        | fail)
      go_ret
      exact ⟨rfl, rfl⟩
    refine HD.out.mono ?_
    rintro e w' ⟨rfl, rfl⟩
    exact ⟨a, c, rfl, fun h => absurd h (Nat.lt_irrefl _), Kp.refl _ _⟩
theorem whoseB_any (F : Nat → Prop) (l n fb : Nat) (us : Int × Int → Option (List Ar)) (pr : List Ar → Bool) (w : World) (h : LinksIn w F l us n) (hn : n ≤ 1048576)
    (hu2 : ∀ wq av al cv, Kp w wq Nul → (∀ a ∈ al, a.ok) → al.length ≤ 9223372036854775807 → (0 < al.length → ∃ b o, av = some ⟨b, o, none⟩ ∧ AreasAt wq b o al) → Calls Tryz.prog 52 #[.pointer (some ⟨fb, 0, none⟩), .slice av al.length cv] wq fun e w' => e = .returned (.bool (pr al)) ∧ Kp wq w' Nul) :
    Calls Tryz.prog 44 #[.pointer (some ⟨l, 0, none⟩), .func (.func 52) #[.pointer (some ⟨fb, 0, none⟩)] #[]] w fun e w' => ∃ L v', e = .returned v' ∧ CellsFrom w.heap.size w' v' L ∧ Strict L ∧ (∀ x, x ∈ L ↔ (us x).any pr = true) ∧ Kp w w' Nul := by
  obtain ⟨_, hl⟩ := h
  rcases hl with ⟨hb, rfl, _⟩ | ⟨m, D, hb, _, _, hown, hm⟩
  · refine (whoseB_nil l _ w hb).mono ?_
    rintro e w' ⟨rfl, hk⟩
    exact ⟨[], _, rfl, ⟨none, 0, rfl, .inl ⟨rfl, rfl⟩⟩, List.Pairwise.nil, fun x => by simp, hk⟩
  · exact whoseB_at F l m n _ D us pr w hb hown hm hn hu2
/-- Which cells use which. -/
def usR (us : Int × Int → Option (List Ar)) (x y : Int × Int) : Prop := (us x).any (fun al => al.any (fun a => a.has y)) = true
theorem anyC_iff {L : List (Int × Int)} {us : Int × Int → Option (List Ar)} {x : Int × Int} : (us x).any (anyC L) = true ↔ ∃ y ∈ L, usR us x y := by
  unfold usR anyC hasC
  cases us x with
  | none => simp
  | some al =>
    simp only [Option.any_some, List.any_eq_true]
    constructor
    · rintro ⟨a, ha, y, hy, h⟩; exact ⟨y, hy, a, ha, h⟩
    · rintro ⟨y, hy, a, ha, h⟩; exact ⟨a, ha, y, hy, h⟩
end Go.Proofs.YtdlieecpckpemaaGreatDoor
namespace Go.Proofs.YtdlieecpckpemaaGreatDoor
open Go.RowKit Go.Sort Go.Lib Tj
theorem rc_lt {N : Nat} {U : Nat → Nat → Bool} (h : ∀ p q, U p q = true → q < N) {a b : Nat} (hr : Rc (webE N U) a b) (ha : a < N) : b < N := by
  induction hr with
  | refl => exact ha
  | step e _ ih => exact ih (h _ _ e.2)
theorem useP_iff {L : List (Int × Int)} {us : Int × Int → Option (List Ar)} {a b : Nat} {x y : Int × Int} (ha : L[a]? = some x) (hb : L[b]? = some y) : webE L.length (fun p q => useP L us q p) a b ↔ usR us y x := by
  unfold webE useP usR inPl
  dsimp only
  rw [hb, ha]
  have := (List.getElem?_eq_some_iff.1 ha).1
  cases hq : us y with
  | none => simp [hq]
  | some al => simp [hq, this]
theorem cellsOf_strict {L : List (Int × Int)} (h : Strict L) {M : Nat → Bool} {m : Nat} (hM : ∀ q, M q = true → q < L.length) : Strict (cellsOf L (pl M m)) := by
  unfold cellsOf Strict
  rw [List.pairwise_map]
  have hp : (pl M m).Pairwise (· < ·) := List.pairwise_lt_range.filter _
  refine hp.imp_of_mem (fun {a b} ha hb hab => ?_)
  have h1 := hM a (mem_pl.1 ha).2
  have h2 := hM b (mem_pl.1 hb).2
  rw [List.getD_eq_getElem?_getD, List.getD_eq_getElem?_getD, List.getElem?_eq_getElem h1, List.getElem?_eq_getElem h2]
  exact strict_lt h (List.getElem?_eq_getElem h1) (List.getElem?_eq_getElem h2) hab
theorem above_mem {L Lu B0 : List (Int × Int)} (hst : Strict L) {us : Int × Int → Option (List Ar)} {Fm : Nat → Bool} {m : Nat} (hmem : ∀ x, x ∈ L ↔ (us x).isSome = true) (hMU : ∀ x, x ∈ Lu ↔ ∃ y ∈ B0, usR us x y) (hds : Ds (webE L.length (fun p q => useP L us q p)) (Lu.map (fun x => L.idxOf x)) Fm) (hlt : ∀ q, Fm q = true → q < L.length) (hm : L.length ≤ m) (x : Int × Int) :
    x ∈ cellsOf L (pl Fm m) ↔ ∃ y ∈ B0, Hg (usR us) x y := by
  have hset : ∀ x y, usR us x y → x ∈ L := fun x y hu => (hmem x).2 (by
    unfold usR at hu
    cases hq : us x with
    | none => rw [hq] at hu; cases hu
    | some al => rfl)
  have hEl : ∀ a b, webE L.length (fun p q => useP L us q p) a b → a < L.length ∧ b < L.length := fun a b h => ⟨h.1, by
    have h2 := h.2
    unfold useP at h2
    dsimp only at h2
    cases hq : L[b]? with
    | none => rw [hq] at h2; cases h2
    | some z => exact (List.getElem?_eq_some_iff.1 hq).1⟩
  unfold cellsOf
  rw [List.mem_map]
  constructor
  · rintro ⟨p, hp, rfl⟩
    have hF := (mem_pl.1 hp).2
    have hpl := hlt p hF
    obtain ⟨r, hr, hrc⟩ := (hds.iff p).1 hF
    obtain ⟨z, hz, rfl⟩ := List.mem_map.1 hr
    obtain ⟨y, hy, hu⟩ := (hMU z).1 hz
    refine ⟨y, hy, hang_of (fun a b x y h1 h2 h3 => (useP_iff h1 h2).1 h3) hEl hrc (z := z) (by
      have := List.idxOf_lt_length_iff.2 (hset z y hu)
      rw [List.getElem?_eq_getElem this, List.getElem_idxOf]) (by
      rw [List.getD_eq_getElem?_getD, List.getElem?_eq_getElem hpl]; rfl) hu⟩
  · rintro ⟨y, hy, hh⟩
    have hxL : x ∈ L := by
      cases hh with
      | one h => exact hset _ _ h
      | step h _ => exact hset _ _ h
    have hix := List.idxOf_lt_length_iff.2 hxL
    have hxi : L[L.idxOf x]? = some x := by rw [List.getElem?_eq_getElem hix, List.getElem_idxOf]
    obtain ⟨p, z, hp, hu, hrc⟩ := hang_to (E := webE L.length (fun p q => useP L us q p)) (fun a b x y h1 h2 h3 => (useP_iff h1 h2).2 h3) hset hh hxi
    have hzu : z ∈ Lu := (hMU z).2 ⟨y, hy, hu⟩
    have hzl := List.idxOf_lt_length_iff.2 (List.mem_of_getElem? hp)
    have hzi : L[L.idxOf z]? = some z := by rw [List.getElem?_eq_getElem hzl, List.getElem_idxOf]
    have hno : ¬ ltOf cfA z z = true := fun e => by rw [cfA_lt] at e; omega
    have e : L.idxOf z = p := by
      rcases Nat.lt_trichotomy (L.idxOf z) p with c | c | c
      · exact absurd (strict_lt hst hzi hp c) hno
      · exact c
      · exact absurd (strict_lt hst hp hzi c) hno
    have hF := (hds.iff (L.idxOf x)).2 ⟨L.idxOf z, List.mem_map.2 ⟨z, hzu, rfl⟩, by rw [e]; exact hrc⟩
    refine ⟨L.idxOf x, mem_pl.2 ⟨by omega, hF⟩, ?_⟩
    rw [List.getD_eq_getElem?_getD, hxi]; rfl
end Go.Proofs.YtdlieecpckpemaaGreatDoor
namespace Go.Proofs.YtdlieecpckpemaaGreatDoor
open Go.RowKit Go.Sort Go.Lib Tj
/-- The list is what hangs on one of these cells. -/
def AboveOut (w : World) (us : Int × Int → Option (List Ar)) (A : List (Int × Int)) (e : Ending) (w' : World) : Prop :=
  ∃ (L : List (Int × Int)) (v : Value), e = .returned v ∧ CellsFrom w.heap.size w' v L ∧ Strict L ∧ (∀ x, x ∈ L ↔ ∃ y ∈ A, kC y = true ∧ Hg (usR us) x y) ∧ Kp w w' Nul
/-- How the walks stand, one user behind the other. -/
def AbR (E : Nat → Nat → Prop) (w9 : World) (Cb W : Nat) (L Lu : List (Int × Int)) (s : Value) (wr : World) : Prop :=
  ∃ (k : Nat) (Fm : Nat → Bool), k ≤ Lu.length ∧ s = .int .i64 (k : Int) ∧ Ds E ((Lu.take k).map (fun x => L.idxOf x)) Fm ∧ Blk wr Cb (wds Fm W) 122 ∧ Kp w9 wr (fun j => j = Cb)
set_option maxRecDepth 100000 in
set_option maxHeartbeats 8000000 in
theorem above_at (F : Nat → Prop) (l n : Nat) (us : Int × Int → Option (List Ar)) (A : List (Int × Int)) (aa : Option Addr) (ac : Nat) (w : World) (h : LinksIn w F l us n) (hn : n ≤ 4096) (hF : ∀ b, F b → b < w.heap.size) (hT : Tab w) (hA : A.length ≤ 1048576) (haa : 0 < A.length → ∃ b o, aa = some ⟨b, o, none⟩ ∧ CellsAt w b o A) :
    Calls Tryz.prog 21 #[.pointer (some ⟨l, 0, none⟩), .slice aa A.length ac] w (AboveOut w us A) := by
  have HO : Hid (Calls Tryz.prog 49 #[.slice aa A.length ac, .func (.func 50) #[] #[]] w fun e w' => ∃ L v', e = .returned v' ∧ CellsOwn w.heap.size w' v' L ∧ (Strict L ∧ L.length ≤ A.length) ∧ (∀ x, x ∈ L ↔ x ∈ A) ∧ Kp w w' Nul) := orderedW_at A aa ac w hA haa
  have HLI : Hid (LinksIn w F l us n) := h
  have HT : Hid (Tab w) := hT
  have HFl : Hid (∀ b, F b → b < w.heap.size) := hF
  have HNn : Hid (n ≤ 4096 ∧ A.length ≤ 1048576) := ⟨hn, hA⟩
  obtain ⟨an, han⟩ : ∃ an, A.length = an := ⟨_, rfl⟩
  have HAN : Hid (A.length = an) := han
  rw [han] at HO ⊢
  clear h hn hF hT hA haa han
  go_enter Tryz.func21, Tryz.ntmps21
  go_upto_region 4 with (first
    | (go_at_call 49; refine HO.out.mono ?_; rintro e w1 ⟨L0, v0, rfl, hown, hst0, hmem0, hk1⟩)
    | (go_at_call 48; refine (delete_any L0 v0 w.heap.size w1 hown (by have h1 := hst0.2; have h2 := HNn.out; have h3 := HAN.out; omega)).mono ?_; rintro e w2 ⟨ba, bc, rfl, hcl2, hk2⟩; obtain ⟨B0, hB0⟩ : ∃ B0, L0.filter kC = B0 := ⟨_, rfl⟩; rw [hB0] at hcl2 ⊢; have hB0l : B0.length ≤ 1048576 := (by have h1 := hst0.2; have h2 := HNn.out; have h3 := HAN.out; have h4 := List.length_filter_le kC L0; rw [hB0] at h4; omega); have HVal : Hid (∀ x ∈ B0, kC x = true) := (fun x hx => by rw [← hB0] at hx; exact (List.mem_filter.1 hx).2); have HNB : Hid (Calls Tryz.prog 47 #[.slice ba B0.length bc] w2 fun e w' => ∃ B ub mb, e = .returned (.pointer (some ⟨B, 0, none⟩)) ∧ BoardM w' B ub mb ((B0.length + 63) / 64) (.slice ba B0.length bc) (colTo B0) ∧ (w2.heap.size ≤ B ∧ w2.heap.size ≤ ub ∧ w2.heap.size ≤ mb) ∧ Kp w2 w' Nul) := (newBoard_at B0 ba bc w2 (by omega) (fun i x hx => by have h5 := HVal.out x (List.mem_of_getElem? hx); simp [kC, vC] at h5; omega) (fun h0 => by obtain ⟨b, e1, _, e3⟩ := hcl2 h0; exact ⟨b, 0, e1, e3⟩)))
    | (go_at_call 47; refine HNB.out.mono ?_; rintro e w3 ⟨B, ub, mb, rfl, hbm, hnew, hk3⟩)
    | fail)
  have HB0m : Hid (∀ y, y ∈ B0 ↔ y ∈ A ∧ kC y = true) := fun y => by rw [← hB0, List.mem_filter, hmem0]
  have hstB : Strict B0 := by rw [← hB0]; exact List.Pairwise.filter _ hst0.1
  have k23 : Kp w w3 Nul := (hk1.trans' hk2 (fun i hi e => absurd e (by omega))).trans hk3
  have HK3 : Hid (Kp w w3 Nul) := k23
  have HBI : Hid (BoardIn w3 (fun _ => True) B ub mb B0) := ⟨⟨ba, bc, hbm, fun h0 => by obtain ⟨b, e1, _, e3⟩ := hcl2 h0; exact ⟨b, 0, e1, e3.kp hk3 (fun x => x), trivial⟩⟩, by omega, fun i x hx => by have h5 := HVal.out x (List.mem_of_getElem? hx); simp [kC, vC] at h5; omega, fun p q x y hx hy hpq => by
    rcases Nat.lt_or_ge p q with c | c
    · have h1 := strict_lt hstB hx hy c
      rw [cfA_lt] at h1
      omega
    · have e : p = q := by omega
      subst e
      rw [hx] at hy; cases hy; exact Int.le_refl _⟩
  have HWh : Hid (Calls Tryz.prog 44 #[.pointer (some ⟨l, 0, none⟩), .func (.func 52) #[.pointer (some ⟨B, 0, none⟩)] #[]] w3 fun e w' => ∃ L v', e = .returned v' ∧ CellsFrom w3.heap.size w' v' L ∧ Strict L ∧ (∀ x, x ∈ L ↔ (us x).any (anyC B0) = true) ∧ Kp w3 w' Nul) :=
    whoseB_any F l n B us (anyC B0) w3 (HLI.out.kp k23 (fun _ _ x => x)) (by have := HNn.out; omega) (fun wq av al cv k hok hal ha => hasSome_at (fun _ => True) B ub mb B0 al av cv wq (HBI.out.kp k (fun x => x) (fun x => x) (fun x => x) (fun _ _ x => x)) (by omega) hok hal ha)
  clear hown hst0 hmem0 hk1 hcl2 hk2 hbm hnew hk3 HNB HO k23 hstB hB0
  go_upto_region 5 with (first
    | (go_at_call 44; refine HWh.out.mono ?_; rintro e w4 ⟨Lu, vu, rfl, ⟨ua, uc, rfl, hcu⟩, hstu, hmemu, hk4⟩)
    | fail)
  have HMU : Hid (∀ x, x ∈ Lu ↔ ∃ y ∈ B0, usR us x y) := fun x => by rw [hmemu]; exact anyC_iff
  have HK4 : Hid (Kp w w4 Nul) := HK3.out.trans hk4
  have HCU : Hid ((ua = none ∧ Lu = []) ∨ ∃ b, ua = some ⟨b, 0, none⟩ ∧ w3.heap.size ≤ b ∧ CellsAt w4 b 0 Lu) := hcu
  obtain ⟨un, hun⟩ : ∃ un, Lu.length = un := ⟨_, rfl⟩
  have HUN : Hid (Lu.length = un) := hun
  have HSU : Hid (Strict Lu) := hstu
  rw [hun]
  clear hcu hstu hmemu hk4 hun HWh HBI
  have HU2 : Hid (un ≤ 1048576) := by
    show _ ≤ _
    rw [← HUN.out]
    refine few_cells HSU.out (fun z hz => ?_)
    obtain ⟨y, _, hu⟩ := (HMU.out z).1 hz
    unfold usR at hu
    cases hq : us z with
    | none => rw [hq] at hu; cases hu
    | some al => exact HLI.out.rng z al hq
  by_cases h0 : un = 0
  · subst h0
    go_wp2_with fail
    go_ret
    refine ⟨[], _, rfl, ⟨none, 0, rfl, .inl ⟨rfl, rfl⟩⟩, List.Pairwise.nil, fun x => ?_, HK4.out⟩
    have hnil : Lu = [] := List.length_eq_zero_iff.1 HUN.out
    constructor
    · intro h; cases h
    · rintro ⟨y, hy, hk, hh⟩
      have hyB : y ∈ B0 := (HB0m.out y).2 ⟨hy, hk⟩
      exfalso
      rcases hh.last with h1 | ⟨z, _, h1⟩
      · have := (HMU.out x).2 ⟨y, hyB, h1⟩
        rw [hnil] at this; cases this
      · have := (HMU.out z).2 ⟨y, hyB, h1⟩
        rw [hnil] at this; cases this
  · have hun0 : ((un : Int) == 0) = false := by simp; omega
    have HWeb : Hid (Calls Tryz.prog 53 #[.pointer (some ⟨l, 0, none⟩)] w4 (WebOut w4 us n)) := web_at F l n us w4 (HLI.out.kp HK4.out (fun _ _ x => x)) HNn.out.1 (fun b hb => by have := HFl.out b hb; have := HK4.out.size; omega) (HT.out.kp HK4.out (fun x => x))
    go_upto_region 8 with (first
      | (go_at_call 53; refine HWeb.out.mono ?_; rintro e w5 ⟨L, wp, ubw, mbw, ca, cc, rfl, hwb⟩)
      | fail)
    obtain ⟨N, hN⟩ : ∃ N, L.length = N := ⟨_, rfl⟩
    have HN : Hid (L.length = N) := hN
    obtain ⟨U, hU⟩ : ∃ U : Nat → Nat → Bool, (fun p q => useP L us q p) = U := ⟨_, rfl⟩
    have HU : Hid ((fun p q => useP L us q p) = U) := hU
    have HWS : Hid (Strict L ∧ (∀ x, x ∈ L ↔ (us x).isSome = true) ∧ L.length ≤ n) := ⟨hwb.st, hwb.mem, hwb.len⟩
    have hweb := hwb.web
    have hcl := hwb.cl
    rw [hN, hU] at hweb
    rw [hN] at hcl
    obtain ⟨b7, hb7⟩ : ∃ b7, w5.heap.size = b7 := ⟨_, rfl⟩
    obtain ⟨w6, hw6⟩ : ∃ w6, w5.alloc (.cells #[.pointer (some ⟨wp, 0, none⟩)] 81) = w6 := ⟨_, rfl⟩
    have k6 : Kp w5 w6 Nul := by rw [← hw6]; exact (Kp.refl w5 Nul).alloc _
    have s6 : w6.heap.size = b7 + 1 := by rw [← hw6, World.size_alloc, hb7]
    have X7 : Hid (Blk w6 b7 [.pointer (some ⟨wp, 0, none⟩)] 81) := by show Blk _ _ _ _; rw [← hw6]; exact Blk.at_ hb7 _ _
    rw [hw6, hb7]
    have HM6 : Hid (WebM w6 wp ubw mbw (.slice ca N cc) N U) := hweb.kpn k6
    have K46 : Hid (Kp w4 w6 Nul) := hwb.kp.trans k6
    have HCL6 : Hid (0 < N → ∃ b, ca = some ⟨b, 0, none⟩ ∧ b < b7 ∧ CellsAt w6 b 0 L) := fun h1 => by
      obtain ⟨b, e1, _, e3⟩ := hcl h1
      obtain ⟨x, hx⟩ : ∃ x, L[0]? = some x := ⟨_, List.getElem?_eq_getElem (by rw [hN]; exact h1)⟩
      have := cell_lt (e3 0 x hx).1
      exact ⟨b, e1, by omega, e3.kp k6 (fun x => x)⟩
    have HWL : Hid (mbw < b7 ∧ ubw < b7 ∧ wp < b7 ∧ 0 < b7) := by
      have h1 := hwb.web.bw.lt
      have h2 := hwb.web.ord
      exact ⟨by omega, by omega, by omega, by omega⟩
    have c7 : w6.cell? ⟨b7, 0, none⟩ = some (.pointer (some ⟨wp, 0, none⟩)) := X7.out.cell rfl
    have c8 : w6.cell? ⟨wp, 0, none⟩ = some (.slice ca N cc) := HM6.out.bw.cell rfl
    have HS6 : Hid (w6.heap.size = b7 + 1) := s6
    have hN4 : N ≤ 4296 := by have := HM6.out.le; omega
    clear hN hU hwb hweb hcl hb7 hw6 k6 HWeb
    go_upto_region 9 with (first
      | (go_at_call 54; refine (newMarks_at N (by omega) _).mono ?_; rintro e w7 ⟨cs, rfl, hcs, hz⟩; subst hz)
      | fail)
    obtain ⟨W, hW⟩ : ∃ W, (N + 63) / 64 = W := ⟨_, rfl⟩
    have HW : Hid ((N + 63) / 64 = W) := hW
    rw [hW] at hcs ⊢
    obtain ⟨w8, hw8⟩ : ∃ w8, (w6.alloc (.cells cs 122)).alloc (.cells #[.slice (some ⟨b7 + 1, 0, none⟩) W W] 84) = w8 := ⟨_, rfl⟩
    have k8 : Kp w6 w8 Nul := by rw [← hw8]; exact ((Kp.refl w6 Nul).alloc _).alloc _
    have s8 : w8.heap.size = b7 + 3 := by rw [← hw8]; simp only [World.size_alloc]; have := HS6.out; omega
    have XC : Hid (Blk w8 (b7 + 1) (wds (fun _ => false) W) 122) := by show Blk _ _ _ _; rw [← hw8]; exact (Blk.atA s6 cs 122 hcs).alloc _
    have X8 : Hid (Blk w8 (b7 + 2) [.slice (some ⟨b7 + 1, 0, none⟩) W W] 84) := by show Blk _ _ _ _; rw [← hw8]; exact Blk.at_ (by rw [World.size_alloc, s6]) _ _
    rw [hw8, show b7 + 1 + 1 = b7 + 2 from rfl]
    have HK8 : Hid (Kp w6 w8 Nul) := k8
    have HS8 : Hid (w8.heap.size = b7 + 3) := s8
    clear hW hw8 k8 hcs c7 c8
    go_upto_region 11 with fail
    obtain ⟨w9, hw9⟩ : ∃ w9, w8.alloc (.cells #[.func (.func 55) #[] #[.pointer (some ⟨b7 + 2, 0, none⟩), .pointer (some ⟨b7, 0, none⟩), .pointer (some ⟨b7 + 3, 0, none⟩)]] 89) = w9 := ⟨_, rfl⟩
    have k9 : Kp w8 w9 Nul := by rw [← hw9]; exact (Kp.refl w8 Nul).alloc _
    have X9 : Blk w9 (b7 + 3) [.func (.func 55) #[] #[.pointer (some ⟨b7 + 2, 0, none⟩), .pointer (some ⟨b7, 0, none⟩), .pointer (some ⟨b7 + 3, 0, none⟩)]] 89 := by rw [← hw9]; exact Blk.at_ s8 _ _
    rw [hw9]
    have K49 : Hid (Kp w4 w9 Nul) := (K46.out.trans HK8.out).trans k9
    have K69 : Hid (Kp w6 w9 Nul) := HK8.out.trans k9
    have HAF : Hid (AFix ⟨N, W, mbw, ubw, wp, b7 + 2, b7, b7 + 3, b7 + 1, .slice ca N cc, U⟩ w9) := by
      have h1 := HWL.out
      refine ⟨HM6.out.kpn K69.out, X8.out.kp k9 (fun x => x), X7.out.kp K69.out (fun x => x), X9, HT.out.kp (HK4.out.trans K49.out) (fun x => x), HW.out, ?_⟩
      refine ⟨?_, ?_, ?_, ?_, ?_, ?_, ?_⟩ <;> simp only <;> omega
    have HC9 : Hid (Blk w9 (b7 + 1) (wds (fun _ => false) W) 122) := XC.out.kp k9 (fun x => x)
    have HS9 : Hid (w9.heap.size = b7 + 4) := by show _ = _; rw [← hw9, World.size_alloc, s8]
    clear hw9 k9 X9 s8 s6
    go_wp2_with fail
    go_loopw [36] (fun s wr => AbR (webE N U) w9 (b7 + 1) W L Lu s wr) (fun s _ => un - (intOf s).toNat)
    case atStart => exact ⟨0, fun _ => false, Nat.zero_le _, rfl, Ds.start (fun _ => rfl), HC9.out, Kp.refl _ _⟩
    case round =>
      obtain ⟨k, Fm, hk, rfl, hds, hb, hkp⟩ := hrel
      rw [HUN.out] at hk
      have HDS : Hid (Ds (webE N U) ((Lu.take k).map (fun x => L.idxOf x)) Fm) := hds
      have HBC : Hid (Blk wr (b7 + 1) (wds Fm W) 122) := hb
      have HKP : Hid (Kp w9 wr (fun j => j = b7 + 1)) := hkp
      have HAR : Hid (AFix ⟨N, W, mbw, ubw, wp, b7 + 2, b7, b7 + 3, b7 + 1, .slice ca N cc, U⟩ wr) := HAF.out.kp hkp (fun _ _ e => e)
      clear hds hb hkp
      by_cases hlt : k < un
      · obtain ⟨b, rfl, hub, hcu⟩ : ∃ b, ua = some ⟨b, 0, none⟩ ∧ w3.heap.size ≤ b ∧ CellsAt w4 b 0 Lu := by
          rcases HCU.out with ⟨_, e⟩ | h
          · have := HUN.out; rw [e] at this; simp at this; omega
          · exact h
        obtain ⟨⟨x1, x2⟩, hx⟩ : ∃ x, Lu[k]? = some x := ⟨_, List.getElem?_eq_getElem (by rw [HUN.out]; exact hlt)⟩
        have hxL : (x1, x2) ∈ L := by
          obtain ⟨y, _, hu⟩ := (HMU.out _).1 (List.mem_of_getElem? hx)
          refine (HWS.out.2.1 _).2 ?_
          unfold usR at hu
          cases hq : us (x1, x2) with
          | none => rw [hq] at hu; cases hu
          | some al => rfl
        obtain ⟨q, hq⟩ : ∃ q, L.idxOf (x1, x2) = q := ⟨_, rfl⟩
        have hqN : q < N := by rw [← hq, ← HN.out]; exact List.idxOf_lt_length_iff.2 hxL
        have hLq : L[q]? = some (x1, x2) := by
          rw [List.getElem?_eq_getElem (by rw [HN.out]; exact hqN)]
          subst hq
          rw [List.getElem_idxOf]
        have HPS : Hid ((Lu.take (k + 1)).map (fun x => L.idxOf x) = (Lu.take k).map (fun x => L.idxOf x) ++ [q]) := by
          show _ = _
          rw [List.take_add_one, hx, List.map_append, ← hq]; rfl
        have hbl : b < b7 + 1 := by have := cell_lt (hcu k _ hx).1; have := K46.out.size; have := HS6.out; omega
        obtain ⟨c1, c2⟩ := ((hcu.kp K49.out (fun x => x)).kp HKP.out (fun e => by have e' : b = b7 + 1 := e; omega)) k _ hx
        rw [Nat.zero_add] at c1 c2
        simp only at c1 c2
        have hki : (k : Int) < (un : Int) := by omega
        have hk0 : (0 : Int) ≤ (k : Int) := by omega
        have hwk : wrap64 ((k : Int) + 1) = (k : Int) + 1 := by unfold wrap64; have := HU2.out; omega
        go_upto_region 14 with fail
        obtain ⟨bx, hbx⟩ : ∃ bx, wr.heap.size = bx := ⟨_, rfl⟩
        obtain ⟨X, hX⟩ : ∃ X, wr.alloc (.cells #[.int .i64 x1, .int .i64 x2] 29) = X := ⟨_, rfl⟩
        have kX : Kp wr X Nul := by rw [← hX]; exact (Kp.refl wr Nul).alloc _
        have bX : Blk X bx [.int .i64 x1, .int .i64 x2] 29 := by rw [← hX]; exact Blk.at_ hbx _ _
        have hbx7 : b7 + 1 < bx := by rw [← hbx]; exact HBC.out.lt
        rw [hX, hbx]
        have HAX : AFix ⟨N, W, mbw, ubw, wp, b7 + 2, b7, b7 + 3, b7 + 1, .slice ca N cc, U⟩ X := HAR.out.kp kX (fun _ _ e => e.elim)
        have HC : Hid (∀ w', Kp X w' (fun j => j = b7 + 1) → (w'.cell? ⟨b7 + 3, 0, none⟩ = some (.func (.func 55) #[] #[.pointer (some ⟨b7 + 2, 0, none⟩), .pointer (some ⟨b7, 0, none⟩), .pointer (some ⟨b7 + 3, 0, none⟩)]) ∧ w'.cell? ⟨b7, 0, none⟩ = some (.pointer (some ⟨wp, 0, none⟩)) ∧ w'.cell? ⟨bx, 0, none⟩ = some (.int .i64 x1) ∧ w'.cell? ⟨bx, 1, none⟩ = some (.int .i64 x2))) := fun w' g => by
          have h1 := HAX.kp g (fun _ _ e => e)
          have h2 := bX.kp g (fun e => by have e' : bx = b7 + 1 := e; omega)
          exact ⟨h1.kb.cell rfl, h1.wb.cell rfl, h2.cell rfl, h2.cell rfl⟩
        have HPl : Hid (∀ wq, Kp X wq Nul → Calls Tryz.prog 59 #[.pointer (some ⟨wp, 0, none⟩), .agg #[.int .i64 x1, .int .i64 x2]] wq fun e w' => e = .returned (.int .i64 (q : Int)) ∧ Kp X w' Nul) := fun wq g => by
          refine (place_at L wp ubw mbw N ca cc U x1 x2 q wq (HAX.web.kpn g) HN.out (fun h1 => by obtain ⟨b, e1, e2, e3⟩ := HCL6.out h1; exact ⟨b, e1, (((e3.kp K69.out (fun x => x)).kp HKP.out (fun e => by have e' : b = b7 + 1 := e; omega)).kp kX (fun x => x)).kp g (fun x => x)⟩) HWS.out.1 hLq).mono ?_
          rintro e w' ⟨rfl, hg⟩
          exact ⟨rfl, g.trans hg⟩
        have HAb : Hid (∀ wq, Kp X wq Nul → Calls Tryz.prog 55 #[.int .i64 (q : Int), .pointer (some ⟨b7 + 2, 0, none⟩), .pointer (some ⟨b7, 0, none⟩), .pointer (some ⟨b7 + 3, 0, none⟩)] wq fun e w' => e = .returned (.tuple #[]) ∧ ∃ F', Dp (webE N U) Fm q F' ∧ Blk w' (b7 + 1) (wds F' W) 122 ∧ Kp X w' (fun j => j = b7 + 1)) := fun wq g => by
          have h1 := above_walk ⟨N, W, mbw, ubw, wp, b7 + 2, b7, b7 + 3, b7 + 1, .slice ca N cc, U⟩ (lft N Fm + 1) Fm q wq (Nat.lt_succ_self _) hqN (HAX.kp g (fun _ _ e => e.elim)) ((HBC.out.kp kX (fun x => x)).kp g (fun x => x))
          refine Calls.mono h1 ?_
          rintro e w' ⟨rfl, F', hp, hb', hk'⟩
          exact ⟨rfl, F', hp, hb', g.of_nul.trans hk'⟩
        have HKX : Hid (Kp wr X Nul) := kX
        clear hcu hx hxL hq hqN hLq hbl c1 c2 hbx hX kX bX hbx7 HAX hub
        go_region_held3 (fun w' => w'.cell? ⟨b7 + 3, 0, none⟩ = some (.func (.func 55) #[] #[.pointer (some ⟨b7 + 2, 0, none⟩), .pointer (some ⟨b7, 0, none⟩), .pointer (some ⟨b7 + 3, 0, none⟩)]) ∧ w'.cell? ⟨b7, 0, none⟩ = some (.pointer (some ⟨wp, 0, none⟩)) ∧ w'.cell? ⟨bx, 0, none⟩ = some (.int .i64 x1) ∧ w'.cell? ⟨bx, 1, none⟩ = some (.int .i64 x2))
          (first | (exact HC.out _ (Kp.refl _ _)) | (exact HC.out _ (Kp.refl _ _).drew) | (refine HC.out _ ?_; assumption) | (refine HC.out _ (Kp.of_nul ?_); assumption))
          ((first
            | (go_at_call 59; refine (HPl.out _ (by first | exact Kp.refl _ _ | exact (Kp.refl _ _).drew | assumption)).mono ?_; rintro e wa ⟨rfl, hka⟩)
            | (go_at_call 55; refine (HAb.out _ (by first | exact Kp.refl _ _ | exact (Kp.refl _ _).drew | assumption)).mono ?_; rintro e wb ⟨rfl, F2, hp2, hb2, hk2⟩)))
        have HEND : Hid (AbR (webE N U) w9 (b7 + 1) W L Lu (.int .i64 ((k : Int) + 1)) wb) := ⟨k + 1, F2, by rw [HUN.out]; omega, by push_cast; rfl, by rw [HPS.out]; exact HDS.out.step hp2, hb2, (HKP.out.trans HKX.out.of_nul).trans hk2⟩
        go_wp2_with fail
        go_roundw
        case rel => rw [hwk]; exact HEND.out
        case measure => rw [hwk]; simp only [intOf]; omega
      · have hki : ¬ (k : Int) < (un : Int) := by omega
        have hku : k = un := by omega
        have HKU : Hid (k = un) := hku
        have c7 : wr.cell? ⟨b7, 0, none⟩ = some (.pointer (some ⟨wp, 0, none⟩)) := HAR.out.wb.cell rfl
        have c8 : wr.cell? ⟨b7 + 2, 0, none⟩ = some (.slice (some ⟨b7 + 1, 0, none⟩) W W) := HAR.out.fb.cell rfl
        have HFN : Hid (∀ q, Fm q = true → q < N) := fun q hq => by
          obtain ⟨r, hr, hrc⟩ := (HDS.out.iff q).1 hq
          obtain ⟨z, hz, rfl⟩ := List.mem_map.1 hr
          obtain ⟨y, _, hu⟩ := (HMU.out z).1 (List.mem_of_mem_take hz)
          have hzL : z ∈ L := (HWS.out.2.1 z).2 (by
            unfold usR at hu
            cases hq : us z with
            | none => rw [hq] at hu; cases hu
            | some al => rfl)
          exact rc_lt (fun p q h => HM6.out.lt p q h) hrc (by rw [← HN.out]; exact List.idxOf_lt_length_iff.2 hzL)
        have HLs : Hid (Calls Tryz.prog 60 #[.pointer (some ⟨wp, 0, none⟩), .slice (some ⟨b7 + 1, 0, none⟩) W W] wr fun e w' => ∃ v, e = .returned v ∧ CellsFrom wr.heap.size w' v (cellsOf L (pl Fm (64 * W))) ∧ Kp wr w' Nul) :=
          list_at L wp ubw mbw N ca cc (b7 + 1) W U Fm wr HAR.out.web HN.out (fun h1 => by obtain ⟨b, e1, e2, e3⟩ := HCL6.out h1; exact ⟨b, e1, (e3.kp K69.out (fun x => x)).kp HKP.out (fun e => by have e' : b = b7 + 1 := e; omega)⟩) HAR.out.tab (by have := HW.out; have := HM6.out.le; omega) HBC.out HFN.out
        clear hku
        go_wp2_with (first
          | (go_at_call 60; refine HLs.out.mono ?_; rintro e w' ⟨v, rfl, hcf, hkl⟩)
          | fail)
        go_ret
        have hl9 := HS9.out
        have h4 := HK4.out.size
        have h46 := K46.out.size
        have h6 := HS6.out
        refine ⟨cellsOf L (pl Fm (64 * W)), v, rfl, cells_low hcf (by have := K49.out.size; have := HKP.out.size; omega), cellsOf_strict HWS.out.1 (fun q hq => by rw [HN.out]; exact HFN.out q hq), fun x => ?_, ((HK4.out.trans K49.out).trans' HKP.out (fun j hj e => by have e' : j = b7 + 1 := e; omega)).trans hkl⟩
        have hd := HDS.out
        rw [HKU.out, ← HUN.out, List.take_length, ← HN.out, ← HU.out] at hd
        rw [above_mem HWS.out.1 HWS.out.2.1 HMU.out hd (fun q hq => by rw [HN.out]; exact HFN.out q hq) (by have := HW.out; have := HN.out; omega) x]
        constructor
        · rintro ⟨y, hy, hh⟩
          exact ⟨y, ((HB0m.out y).1 hy).1, ((HB0m.out y).1 hy).2, hh⟩
        · rintro ⟨y, hy, hk, hh⟩
          exact ⟨y, (HB0m.out y).2 ⟨hy, hk⟩, hh⟩
end Go.Proofs.YtdlieecpckpemaaGreatDoor
namespace Go.Proofs.YtdlieecpckpemaaGreatDoor
open Go.RowKit Go.Sort Go.Lib
theorem areas_len {w : World} {F : Nat → Prop} {l n : Nat} {us : Int × Int → Option (List Ar)} (h : LinksIn w F l us n) (x : Int × Int) : ((us x).getD []).length ≤ 256 := by
  cases hq : us x with
  | none => simp
  | some al => rw [Option.getD_some]; exact (h.oks2 hq).2
set_option maxRecDepth 20000 in
set_option maxHeartbeats 2000000 in
theorem usesL_at (F : Nat → Prop) (l n : Nat) (us : Int × Int → Option (List Ar)) (c r : Int) (w : World) (h : LinksIn w F l us n) (hc : I64 c) (hr : I64 r) :
    Calls Tryz.prog 14 #[.pointer (some ⟨l, 0, none⟩), .agg #[.int .i64 c, .int .i64 r]] w fun e w' => ∃ v, e = .returned v ∧ Own1 encR 4 w.heap.size w' v (((us (c, r)).getD []).map tupA) ∧ Kp w w' Nul := by
  have hlen := areas_len h (c, r)
  obtain ⟨w1, hw1⟩ : ∃ w1, w.alloc (.cells #[.int .i64 c, .int .i64 r] 29) = w1 := ⟨_, rfl⟩
  have HW1 : Hid (w.alloc (.cells #[.int .i64 c, .int .i64 r] 29) = w1) := hw1
  have k1 : Kp w w1 Nul := by rw [← hw1]; exact (Kp.refl w Nul).alloc _
  have HK1 : Hid (Kp w w1 Nul) := k1
  have bx : Blk w1 w.heap.size [.int .i64 c, .int .i64 r] 29 := by rw [← hw1]; exact Blk.new w _ _
  obtain ⟨mv, v, hlk, har⟩ := lk_of h hc hr
  obtain ⟨al, hal⟩ : ∃ al, (us (c, r)).getD [] = al := ⟨_, rfl⟩
  rw [hal] at har hlen ⊢
  obtain ⟨av, ac, rfl, hac, _, hae⟩ := har
  have el : (al.map tupA).length = al.length := List.length_map ..
  have HC : Hid (∀ wq, Kp w1 wq Nul → Calls Tryz.prog 41 #[.slice av al.length ac] wq fun e w' => ∃ v', e = .returned v' ∧ Own1 encR 4 w.heap.size w' v' (al.map tupA) ∧ Kp w w' Nul ∧ Kp w1 w' Nul) := fun wq g => by
    have := clone_areas (al.map tupA) av ac wq (by rw [el]; omega) (fun h0 => by
      obtain ⟨b, o, e, _, hh⟩ := hae (by rw [el] at h0; exact h0)
      exact ⟨b, o, e, (hh.kp (k1.trans g) (fun x => x)).enc⟩)
    rw [el] at this
    refine this.mono ?_
    rintro e w' ⟨v', rfl, ho, hk⟩
    refine ⟨v', rfl, ?_, (k1.trans g).trans hk, g.trans hk⟩
    rcases ho with ho | ⟨gb, cap, e1, e2, e3⟩
    · exact .inl ho
    · exact .inr ⟨gb, cap, e1, Nat.le_trans (k1.trans g).size e2, e3⟩
  have KS : Hid (∀ w', Kp w1 w' Nul → (w'.cell? ⟨l, 0, none⟩ = some (.map mv) ∧ w'.cell? ⟨w.heap.size, 0, none⟩ = some (.int .i64 c) ∧ w'.cell? ⟨w.heap.size, 1, none⟩ = some (.int .i64 r) ∧ (Instr.lookup 64 (.map mv) (.agg #[.int .i64 c, .int .i64 r]) false).run Tryz.prog w' = .ok (.slice av al.length ac) w')) := fun w' g => by
    refine ⟨((hlk.cell.kp k1 (fun x => x)).kp g (fun x => x)).cell rfl, (bx.kp g (fun x => x)).cell rfl, (bx.kp g (fun x => x)).cell rfl, hlk.one w' (fun m hm => ?_)⟩
    exact (k1.trans g).block m (hlk.ne m hm).2 (fun x => x)
  generalize al.length = nl at *
  clear h hc hr hlk hae hac hw1 k1 bx el hlen hal
  go_enter Tryz.func14, Tryz.ntmps14
  go_upto_region 3 with fail
  rw [HW1.out]
  go_region_held3 (fun w' => w'.cell? ⟨l, 0, none⟩ = some (.map mv) ∧ w'.cell? ⟨w.heap.size, 0, none⟩ = some (.int .i64 c) ∧ w'.cell? ⟨w.heap.size, 1, none⟩ = some (.int .i64 r) ∧ (Instr.lookup 64 (.map mv) (.agg #[.int .i64 c, .int .i64 r]) false).run Tryz.prog w' = .ok (.slice av nl ac) w')
    (first | (exact KS.out _ (Kp.refl _ _)) | (exact KS.out _ (Kp.refl _ _).drew) | (refine KS.out _ ?_; assumption))
    ((go_at_call 41; refine (HC.out _ (by first | exact Kp.refl _ _ | exact (Kp.refl _ _).drew)).mono ?_; rintro e w' ⟨v', rfl, ho, hk, hk1⟩))
  all_goals
    go_wp2_with fail
    go_ret
    exact ⟨v', rfl, ho, hk⟩
end Go.Proofs.YtdlieecpckpemaaGreatDoor
namespace Go.Proofs.YtdlieecpckpemaaGreatDoor
open Go.RowKit Go.Sort Go.Lib
/-- Is the rule set? -/
def okRule (ρ : Rl) : Bool := vC ρ.x.1 ρ.x.2 && decide (ρ.al.length ≤ 256) && !ρ.al.any (fun a => !vR a)
/-- What rules say, the later one of a cell. -/
def usM (R : List Rl) : Int × Int → Option (List Ar) := R.foldl (fun f ρ => if okRule ρ = true then updU f ρ.x ρ.al else f) (fun _ => none)
theorem usM_snoc (R : List Rl) (ρ : Rl) : usM (R ++ [ρ]) = if okRule ρ = true then updU (usM R) ρ.x ρ.al else usM R := by
  unfold usM; rw [List.foldl_append]; rfl
/-- The same cells, the same areas. -/
def UsLike (us us0 : Int × Int → Option (List Ar)) : Prop := ∀ x, match us x, us0 x with
  | some al, some al0 => ∀ a, a ∈ al ↔ a ∈ al0
  | none, none => True
  | _, _ => False
theorem UsLike.set {us us' : Int × Int → Option (List Ar)} {n n' : Nat} {x : Int × Int} {al : List Ar} {av : Option Addr} {cv : Nat} {er : Int} {R : List Rl} (h : UsLike us (usM R)) (hs : SetIs us n x al er us' n') (hn : n < 4096) : UsLike us' (usM (R ++ (some (⟨x, al, av, cv⟩ : Rl)).toList)) := by
  rw [Option.toList_some, usM_snoc]
  rcases hs with ⟨rfl, _, hc⟩ | ⟨h1, h2, h3, _, _, al', hal, rfl, _⟩
  · have : okRule ⟨x, al, av, cv⟩ = false := by
      unfold okRule
      rcases hc with ⟨e, _⟩ | ⟨_, e, _⟩ | ⟨_, _, e, _⟩ | ⟨_, _, _, e, _⟩
      · simp [e]
      · have : ¬ al.length ≤ 256 := by omega
        simp [this]
      · simp only [e]; simp
      · omega
    rw [this]
    exact h
  · have : okRule ⟨x, al, av, cv⟩ = true := by unfold okRule; simp only [h1, h3]; simp [h2]
    rw [if_pos this]
    intro y
    have hy := h y
    unfold updU
    by_cases e : y = x
    · simp only [e, if_true]; exact hal
    · simp only [e, if_false]; exact hy
/-- So many cells are set. -/
def CntU (us : Int × Int → Option (List Ar)) (n : Nat) : Prop := ∃ L : List (Int × Int), L.Nodup ∧ L.length = n ∧ ∀ x, x ∈ L ↔ (us x).isSome = true
theorem cntU_nil : CntU (fun _ => none) 0 := ⟨[], List.nodup_nil, rfl, fun x => by simp⟩
theorem CntU.upd {us : Int × Int → Option (List Ar)} {n : Nat} (h : CntU us n) (x : Int × Int) (al : List Ar) : CntU (updU us x al) (cntU us x n) := by
  obtain ⟨L, h1, h2, h3⟩ := h
  unfold cntU
  by_cases e : (us x).isSome = true
  · rw [if_pos e]
    refine ⟨L, h1, h2, fun y => ?_⟩
    rw [h3]; unfold updU
    by_cases g : y = x
    · rw [if_pos g, g, e]; rfl
    · rw [if_neg g]
  · rw [if_neg e]
    refine ⟨x :: L, List.nodup_cons.2 ⟨fun hm => e ((h3 x).1 hm), h1⟩, by rw [List.length_cons, h2], fun y => ?_⟩
    rw [List.mem_cons, h3]; unfold updU
    by_cases g : y = x
    · rw [if_pos g]; simp [g]
    · rw [if_neg g]; simp [g]
theorem CntU.del {us : Int × Int → Option (List Ar)} {n : Nat} (h : CntU us n) (x : Int × Int) : CntU (delU us x) (cntD us x n) := by
  obtain ⟨L, h1, h2, h3⟩ := h
  unfold cntD
  by_cases e : (us x).isSome = true
  · rw [if_pos e]
    refine ⟨L.erase x, h1.erase x, by rw [List.length_erase, if_pos ((h3 x).2 e), h2], fun y => ?_⟩
    rw [h1.mem_erase_iff, h3]; unfold delU
    by_cases g : y = x
    · rw [if_pos g]; simp [g]
    · rw [if_neg g]; simp [g]
  · rw [if_neg e]
    refine ⟨L, h1, h2, fun y => ?_⟩
    rw [h3]; unfold delU
    by_cases g : y = x
    · rw [if_pos g, g]; simp [e]
    · rw [if_neg g]
theorem CntU.none {us : Int × Int → Option (List Ar)} {n : Nat} (h : CntU us n) (h0 : ∀ x, us x = none) : n = 0 := by
  obtain ⟨L, h1, h2, h3⟩ := h
  cases L with
  | nil => exact h2.symm
  | cons a L =>
    have := (h3 a).1 (List.mem_cons_self ..)
    rw [h0] at this; cases this
structure UsN (us : Int × Int → Option (List Ar)) (n : Nat) (us0 : Int × Int → Option (List Ar)) : Prop where
  like : UsLike us us0
  cnt : CntU us n
theorem UsN.set {us us' : Int × Int → Option (List Ar)} {n n' : Nat} {x : Int × Int} {al : List Ar} {av : Option Addr} {cv : Nat} {er : Int} {R : List Rl} (h : UsN us n (usM R)) (hs : SetIs us n x al er us' n') (hn : n < 4096) : UsN us' n' (usM (R ++ (some (⟨x, al, av, cv⟩ : Rl)).toList)) := by
  refine ⟨h.like.set hs hn, ?_⟩
  rcases hs with ⟨rfl, rfl, _⟩ | ⟨_, _, _, _, _, al', _, rfl, rfl⟩
  · exact h.cnt
  · exact h.cnt.upd x al'
def MadeS (R : List Rl) (w : World) (l : Nat) (s : Value) (wr : World) : Prop := ∃ (k n : Nat) (us : Int × Int → Option (List Ar)), s = .int .i64 (k : Int) ∧ k ≤ 300 ∧ n ≤ k ∧ LinksIn wr (Fr w.heap.size) l us n ∧ Kp w wr Nul ∧ UsN us n (usM (R.take k))
set_option maxRecDepth 20000 in
set_option maxHeartbeats 4000000 in
theorem made2_at (R : List Rl) (a : Option Addr) (cc : Nat) (w : World) (hR : R.length ≤ 9223372036854775807) (ha : 0 < R.length → ∃ b o, a = some ⟨b, o, none⟩ ∧ RulesAt w b o R) :
    Calls Tryz.prog 16 #[.slice a R.length cc] w fun e w' => ∃ l us n, e = .returned (.pointer (some ⟨l, 0, none⟩)) ∧ n ≤ 300 ∧ LinksIn w' (Fr w.heap.size) l us n ∧ Kp w w' Nul ∧ UsN us n (usM (R.take 300)) := by
  have HNew : Hid (Calls Tryz.prog 7 #[] w fun e w' => e = .returned (.pointer (some ⟨w.heap.size, 0, none⟩)) ∧ LinksIn w' (Fr w.heap.size) w.heap.size (fun _ => none) 0 ∧ Kp w w' Nul) := (newL_at w).mono fun e w' ⟨h1, h2⟩ => ⟨h1, by rw [h2]; exact links_new w _ (Nat.le_refl _), by rw [h2]; exact (Kp.refl w Nul).alloc _⟩
  have HA : Hid (0 < R.length → ∃ b o, a = some ⟨b, o, none⟩ ∧ RulesAt w b o R) := ha
  obtain ⟨N, hN⟩ : ∃ N, R.length = N := ⟨_, rfl⟩
  have HN : Hid (R.length = N) := hN
  rw [hN] at hR ⊢
  clear ha hN
  go_enter Tryz.func16, Tryz.ntmps16
  go_wp2_with fail
  refine HNew.out.mono ?_
  rintro e w1 ⟨rfl, hl1, hk1⟩
  have HS : Hid (MadeS R w w.heap.size (.int .i64 0) w1) := ⟨0, 0, fun _ => none, rfl, Nat.zero_le _, Nat.le_refl _, hl1, hk1, ⟨fun x => by simp [usM], cntU_nil⟩⟩
  clear hl1 hk1 HNew
  go_wp2_with fail
  go_loopw [4] (fun s wr => MadeS R w w.heap.size s wr) (fun s _ => 300 - (intOf s).toNat)
  case atStart => exact HS.out
  case round =>
    clear HS
    obtain ⟨k, n, us, rfl, hk, hnk, hl, hkp, hus⟩ := hrel
    have HUS : Hid (UsN us n (usM (R.take k))) := hus
    have HL : Hid (LinksIn wr (Fr w.heap.size) w.heap.size us n) := hl
    have HK : Hid (Kp w wr Nul) := hkp
    clear hl hkp hus
    by_cases hlt : k < N
    · by_cases h300 : k < 300
      · obtain ⟨b, o, rfl, hr⟩ := HA.out (by rw [HN.out]; omega)
        obtain ⟨⟨⟨x, y⟩, al, av, cv⟩, hρ⟩ : ∃ ρ, R[k]? = some ρ := ⟨_, List.getElem?_eq_getElem (by rw [HN.out]; exact hlt)⟩
        obtain ⟨⟨c1, c2, c3⟩, ⟨i1, i2⟩, hal, hav⟩ := (hr.kp HK.out) k _ hρ
        have HRho : Hid (R[k]? = some ⟨(x, y), al, av, cv⟩) := hρ
        simp only at c1 c2 c3 i1 i2 hal hav
        have hblt : b < w.heap.size := cell_lt ((hr k _ hρ).1.1)
        have HSet : Hid (∀ wq, Kp wr wq Nul → Calls Tryz.prog 26 #[.pointer (some ⟨w.heap.size, 0, none⟩), .agg #[.int .i64 x, .int .i64 y], .slice av al.length cv] wq fun e w' => ∃ er, e = .returned (.int .i64 er) ∧ MadeS R w w.heap.size (.int .i64 ((k + 1 : Nat) : Int)) w') := fun wq kq => by
          have hmx : (300 : Nat) < maxLen := by decide
          refine (set_at w.heap.size w.heap.size n us x y al av cv wq (HL.out.kp kq (fun _ _ x => x)) i1 i2 hal (fun h0 => by obtain ⟨b', o', e1, e2⟩ := hav h0; exact ⟨b', o', e1, e2.kp kq (fun x => x)⟩) (by omega) (Nat.le_trans HK.out.size kq.size)).mono ?_
          rintro e w' ⟨er, us', n', rfl, hset, hl', hk', _⟩
          refine ⟨er, rfl, k + 1, n', us', rfl, by omega, ?_, hl', (HK.out.trans kq).trans' hk' (fun i hi e => absurd hi (Nat.not_lt.2 e)), by rw [List.take_add_one, HRho.out]; exact HUS.out.set hset (by omega)⟩
          rcases hset with ⟨_, e2, _⟩ | ⟨_, _, _, _, _, al', _, _, e2⟩
          · omega
          · rw [e2]; unfold cntU; split <;> omega
        have KS : Hid (∀ w', Kp w w' Nul → (w'.cell? ⟨b, o + k * 3, none⟩ = some (.int .i64 x) ∧ w'.cell? ⟨b, o + k * 3 + 1, none⟩ = some (.int .i64 y) ∧ w'.cell? ⟨b, o + k * 3 + 2, none⟩ = some (.slice av al.length cv))) := fun w' g => by
          have := ((hr.kp g) k _ hρ).1
          simp only at this
          exact this
        have HMK : Hid (∀ s w', MadeS R w w.heap.size s w' → Kp w w' Nul) := fun s w' ⟨_, _, _, _, _, _, _, h, _⟩ => h
        have j1 : (k : Int) < (N : Int) := by omega
        have j2 : (k : Int) < 300 := by omega
        generalize al.length = nl at *
        clear hr hρ i1 i2 hal hav hblt
        go_wp2_with fail
        go_region_held3 (fun w' => w'.cell? ⟨b, o + k * 3, none⟩ = some (.int .i64 x) ∧ w'.cell? ⟨b, o + k * 3 + 1, none⟩ = some (.int .i64 y) ∧ w'.cell? ⟨b, o + k * 3 + 2, none⟩ = some (.slice av nl cv))
          (first | (exact KS.out _ (HMK.out _ _ hm2)) | (exact KS.out _ (HK.out.drew)) | (exact KS.out _ HK.out))
          ((go_at_call 26; refine (HSet.out _ ((Kp.refl _ _).drew)).mono ?_; rintro e w2 ⟨er, rfl, hm2⟩))
        all_goals
          have HM2 : Hid (MadeS R w w.heap.size (.int .i64 ((k + 1 : Nat) : Int)) w2) := hm2
          clear hm2
          go_wp2_with fail
          go_roundw
          case rel => exact HM2.out
          case measure => simp only [intOf]; omega
      · have j1 : (k : Int) < (N : Int) := by omega
        have j2 : ¬ (k : Int) < 300 := by omega
        go_wp2_with fail
        go_ret
        exact ⟨_, rfl, us, n, by omega, HL.out, HK.out, by rw [show 300 = k by omega]; exact HUS.out⟩
    · have j1 : ¬ (k : Int) < (N : Int) := by omega
      go_wp2_with fail
      go_ret
      exact ⟨_, rfl, us, n, by omega, HL.out, HK.out, by
        have h1 := HUS.out
        rw [List.take_of_length_le (by rw [HN.out]; omega)] at h1
        rw [List.take_of_length_le (by rw [HN.out]; omega)]
        exact h1⟩
end Go.Proofs.YtdlieecpckpemaaGreatDoor
namespace Go.Proofs.YtdlieecpckpemaaGreatDoor
open Go.RowKit Go.Sort Go.Lib
theorem anyHas_ok {al : List Ar} (h : ∀ a ∈ al, a.ok) (y : Int × Int) : anyHas y al = al.any (fun a => a.has y) := by
  unfold anyHas
  rw [Bool.eq_iff_iff, List.any_eq_true, List.any_eq_true]
  have key : ∀ a ∈ al, (inA a.c1 a.r1 a.c2 a.r2 y.1 y.2 = a.has y) := fun a ha => by
    have := h a ha
    unfold Ar.ok at this
    unfold inA vA vC Ar.has
    have h1 : (decide (1 ≤ a.c1) && decide (a.c1 ≤ 256) && decide (1 ≤ a.r1) && decide (a.r1 ≤ 4096)) = true := by simp; omega
    have h2 : (decide (1 ≤ a.c2) && decide (a.c2 ≤ 256) && decide (1 ≤ a.r2) && decide (a.r2 ≤ 4096)) = true := by simp; omega
    simp [show 1 ≤ a.c1 by omega, show a.c1 ≤ 256 by omega, show 1 ≤ a.r1 by omega, show a.r1 ≤ 4096 by omega, show 1 ≤ a.c2 by omega, show a.c2 ≤ 256 by omega, show 1 ≤ a.r2 by omega, show a.r2 ≤ 4096 by omega, show a.c1 ≤ a.c2 by omega, show a.r1 ≤ a.r2 by omega]
  constructor
  · rintro ⟨a, ha, e⟩; exact ⟨a, ha, by rw [← key a ha]; exact e⟩
  · rintro ⟨a, ha, e⟩; exact ⟨a, ha, by rw [key a ha]; exact e⟩
theorem usR_any {w : World} {F : Nat → Prop} {l n : Nat} {us : Int × Int → Option (List Ar)} (h : LinksIn w F l us n) (x y : Int × Int) : (us x).any (anyHas y) = true ↔ usR us x y := by
  unfold usR
  cases hq : us x with
  | none => simp
  | some al => rw [Option.any_some, Option.any_some, anyHas_ok (h.oks2 hq).1]
theorem UsLike.usR {us us0 : Int × Int → Option (List Ar)} (h : UsLike us us0) (x y : Int × Int) : usR us x y ↔ Go.Proofs.YtdlieecpckpemaaGreatDoor.usR us0 x y := by
  have hx := h x
  unfold Go.Proofs.YtdlieecpckpemaaGreatDoor.usR
  cases h1 : us x with
  | none =>
    cases h2 : us0 x with
    | none => simp
    | some al0 => rw [h1, h2] at hx; exact hx.elim
  | some al =>
    cases h2 : us0 x with
    | none => rw [h1, h2] at hx; exact hx.elim
    | some al0 =>
      rw [h1, h2] at hx
      simp only [Option.any_some, List.any_eq_true]
      constructor
      · rintro ⟨a, ha, e⟩; exact ⟨a, (hx a).1 ha, e⟩
      · rintro ⟨a, ha, e⟩; exact ⟨a, (hx a).2 ha, e⟩
theorem UsLike.isSome {us us0 : Int × Int → Option (List Ar)} (h : UsLike us us0) (x : Int × Int) : (us x).isSome = (us0 x).isSome := by
  have hx := h x
  cases h1 : us x with
  | none =>
    cases h2 : us0 x with
    | none => rfl
    | some al0 => rw [h1, h2] at hx; exact hx.elim
  | some al =>
    cases h2 : us0 x with
    | none => rw [h1, h2] at hx; exact hx.elim
    | some al0 => rfl
end Go.Proofs.YtdlieecpckpemaaGreatDoor
namespace Go.Proofs.YtdlieecpckpemaaGreatDoor
open Go.RowKit Go.Sort Go.Lib
/-- Each once, each uses the next, the last one the first. -/
structure Ring (us : Int × Int → Option (List Ar)) (R : List (Int × Int)) : Prop where
  pos : 0 < R.length
  nod : R.Nodup
  on : ∀ (i : Nat) (x : Int × Int), R[i]? = some x → ∃ y, R[(i + 1) % R.length]? = some y ∧ usR us x y
theorem CirIs.ring {w w' : World} {us : Int × Int → Option (List Ar)} {L : List (Int × Int)} {f : Nat} {l : List Nat} {left : Nat} {R : List (Int × Int)} {v : Value} (h : CirIs w w' us L f l left R v) (hs : Strict L) : Ring us R := by
  have hll : l.length = left := Tj.Chn.len h.chn
  have hR := h.len
  have hidx : ∀ i, i < R.length → ∃ p, (f :: l)[i]? = some p ∧ R[i]? = L[p]? := fun i hi => by
    have : i < (f :: l).length := by rw [List.length_cons]; omega
    exact ⟨_, List.getElem?_eq_getElem this, h.at' i _ (List.getElem?_eq_getElem this)⟩
  have hnL : L.Nodup := List.Pairwise.imp (fun {a b} h e => by
    subst e
    rw [swoA.irrefl] at h; cases h) hs
  have hnF : (f :: l).Nodup := Tj.Chn.nodup h.chn h.far
  refine ⟨by omega, ?_, ?_⟩
  · rw [List.Nodup, List.pairwise_iff_getElem]
    intro i j hi hj hij e
    obtain ⟨p, hp, ep⟩ := hidx i hi
    obtain ⟨q, hq, eq⟩ := hidx j hj
    rw [List.getElem?_eq_getElem hi] at ep
    rw [List.getElem?_eq_getElem hj] at eq
    rw [e] at ep
    have : p = q := nodup_inj hnL ep.symm eq.symm
    subst this
    have := nodup_inj hnF hp hq
    omega
  · intro i x hx
    have hi := (List.getElem?_eq_some_iff.1 hx).1
    obtain ⟨p, hp, ep⟩ := hidx i hi
    have hu := Tj.Chn.uses h.chn h.far i p hp
    have hlt : (i + 1) % R.length < R.length := Nat.mod_lt _ (by omega)
    obtain ⟨q, hq, eq⟩ := hidx _ hlt
    have e2 : ((l ++ [f])[i]?).getD 0 = q := by
      by_cases hl : i < left
      · rw [Nat.mod_eq_of_lt (by omega), List.getElem?_cons_succ] at hq
        rw [List.getElem?_append_left (by omega), hq]; rfl
      · have hi2 : i = left := by omega
        rw [hi2, ← hR, Nat.mod_self] at hq
        rw [hi2, ← hll, List.getElem?_concat_length]
        rw [List.getElem?_cons_zero] at hq
        exact Option.some.inj hq
    rw [e2] at hu
    obtain ⟨y, hy⟩ : ∃ y, L[q]? = some y := ⟨_, List.getElem?_eq_getElem hu.1⟩
    refine ⟨y, eq.trans hy, (useP_iff hy (ep.symm.trans hx)).1 ⟨hu.1, hu.2⟩⟩
theorem Ring.like {us us' us0 : Int × Int → Option (List Ar)} (h : UsLike us us0) (h' : UsLike us' us0) {R : List (Int × Int)} (r : Ring us R) : Ring us' R :=
  ⟨r.pos, r.nod, fun i x hx => by
    obtain ⟨y, hy, hu⟩ := r.on i x hx
    exact ⟨y, hy, (h'.usR x y).2 ((h.usR x y).1 hu)⟩⟩
end Go.Proofs.YtdlieecpckpemaaGreatDoor
namespace Go.Proofs.YtdlieecpckpemaaGreatDoor
open Go.RowKit Go.Sort Go.Lib Go.Maps
/-- Each cell that could be read has what it had. -/
def KC (w w' : World) : Prop := ∀ j o v, w.cell? ⟨j, o, none⟩ = some v → w'.cell? ⟨j, o, none⟩ = some v
theorem kc_nul {w w' : World} (k : Kp w w' Nul) : KC w w' := fun j o v h => by
  have e := k.block j (cell_lt h) (fun x => x)
  simp only [World.cell?] at h ⊢
  rw [e]; exact h
theorem KC.trans {w w' w'' : World} (h : KC w w') (g : KC w' w'') : KC w w'' := fun j o v hi => g j o v (h j o v hi)
theorem CellsAt.kc {w w' : World} {b o : Nat} {L : List (Int × Int)} (h : CellsAt w b o L) (g : KC w w') : CellsAt w' b o L := fun i x hx => ⟨g _ _ _ (h i x hx).1, g _ _ _ (h i x hx).2⟩
/-- Links out of which a cell is deleted. -/
theorem links_del2 {w : World} {F : Nat → Prop} {l n : Nat} {us : Int × Int → Option (List Ar)} {x : Int × Int} (h : LinksIn w F l us n) (hi : I64 x.1 ∧ I64 x.2) : ∃ mv w', w.cell? ⟨l, 0, none⟩ = some (.map mv) ∧ (∀ ty, (Builtin.delete_ #[64, 29] ty #[.map mv, .agg #[.int .i64 x.1, .int .i64 x.2]]).run Tryz.prog w = .ok (.tuple #[]) w') ∧ LinksIn w' F l (delU us x) (cntD us x n) ∧ Kp w w' F ∧ KC w w' := by
  obtain ⟨hl, h⟩ := h
  have hkey := kl_key hi.1 hi.2
  rcases h with ⟨hb, rfl, rfl⟩ | ⟨m, D, hb, hm, hne, hown, hmh⟩
  · refine ⟨none, w, hb.cell rfl, fun ty => Maps.drop_nil lawAddr Tryz.underlying64 hkey ty, ⟨hl, .inl ⟨hb, ?_, rfl⟩⟩, Kp.refl _ _, fun _ _ _ h => h⟩
    funext y; unfold delU; split <;> rfl
  · obtain ⟨w', h1, h2, h3⟩ := hown.drop lawAddr Tryz.underlying64 hkey 0
    have k := Kp.of_turned h3
    have hd := map_del hown hmh h2 k hi
    refine ⟨some m, w', hb.cell rfl, fun ty => h1, ⟨hl, .inr ⟨m, _, hb.kp k (fun e => hne e.symm), hm, hne, hd.1, hd.2⟩⟩, k.mono (fun i _ e => by subst e; exact hm), fun j o v hi => ?_⟩
    have hj : j ≠ m := fun e => by
      obtain ⟨es, clock, hmm, _⟩ := hown
      simp only [World.cell?] at hi
      rw [e, hmm] at hi
      cases hi
    have e := k.block j (cell_lt hi) hj
    simp only [World.cell?] at hi ⊢
    rw [e]; exact hi
set_option maxRecDepth 20000 in
set_option maxHeartbeats 4000000 in
theorem drop2_at (F : Nat → Prop) (l n : Nat) (us : Int × Int → Option (List Ar)) (c r : Int) (w : World) (h : LinksIn w F l us n) (hc : I64 c) (hr : I64 r) :
    Calls Tryz.prog 24 #[.pointer (some ⟨l, 0, none⟩), .agg #[.int .i64 c, .int .i64 r]] w fun e w' => e = .returned (.bool (us (c, r)).isSome) ∧ LinksIn w' F l (delU us (c, r)) (cntD us (c, r) n) ∧ Kp w w' F ∧ KC w w' := by
  obtain ⟨W, hW⟩ : ∃ W, w.alloc (.cells #[.int .i64 c, .int .i64 r] 29) = W := ⟨_, rfl⟩
  have kW : Kp w W Nul := by rw [← hW]; exact (Kp.refl w Nul).alloc _
  have hbx : Blk W w.heap.size [.int .i64 c, .int .i64 r] 29 := by rw [← hW]; exact Blk.new w [.int .i64 c, .int .i64 r] _
  have HW : Hid (w.alloc (.cells #[.int .i64 c, .int .i64 r] 29) = W) := hW
  have HKW : Hid (Kp w W Nul) := kW
  have HBX : Hid (Blk W w.heap.size [.int .i64 c, .int .i64 r] 29) := hbx
  have q0 : W.cell? ⟨w.heap.size, 0, none⟩ = some (.int .i64 c) := hbx.cell rfl
  have q1 : W.cell? ⟨w.heap.size, 1, none⟩ = some (.int .i64 r) := hbx.cell rfl
  have HLk : Hid (∀ wq, Kp W wq Nul → LinksIn wq F l us n) := fun wq k => h.kp (kW.trans k) (fun _ _ x => x)
  have HS : Hid (Calls Tryz.prog 63 #[.pointer (some ⟨l, 0, none⟩), .agg #[.int .i64 c, .int .i64 r]] W fun e w' => e = .returned (.bool (us (c, r)).isSome) ∧ Kp W w' Nul) := isSet_at F l n us c r W (HLk.out W (Kp.refl _ _)) hc hr
  have HI : Hid (I64 c ∧ I64 r) := ⟨hc, hr⟩
  have HNo : Hid ((us (c, r)).isSome = false → delU us (c, r) = us ∧ cntD us (c, r) n = n) := fun hn => by
    have hu : us (c, r) = none := by
      cases e : us (c, r) with
      | none => rfl
      | some a => rw [e] at hn; cases hn
    refine ⟨funext fun y => ?_, by unfold cntD; rw [hn]; rfl⟩
    unfold delU
    by_cases e : y = (c, r)
    · rw [if_pos e, e, hu]
    · rw [if_neg e]
  obtain ⟨V, hV⟩ : ∃ V, (us (c, r)).isSome = V := ⟨_, rfl⟩
  rw [hV] at HS HNo ⊢
  clear hW kW hbx h hc hr hV
  go_enter Tryz.func24, Tryz.ntmps24
  go_wp2_with fail
  rw [HW.out]
  refine HS.out.mono ?_
  rintro e w2 ⟨rfl, hk2⟩
  have HK2 : Hid (Kp W w2 Nul) := hk2
  cases V with
  | false =>
    clear hk2
    go_wp2_with fail
    go_ret
    obtain ⟨e1, e2⟩ := HNo.out trivial
    rw [e1, e2]
    exact ⟨rfl, HLk.out w2 HK2.out, (HKW.out.trans HK2.out).of_nul, kc_nul (HKW.out.trans HK2.out)⟩
  | true =>
    have hb2 := HBX.out.kp hk2 (fun x => x)
    have d0 : w2.cell? ⟨w.heap.size, 0, none⟩ = some (.int .i64 c) := hb2.cell rfl
    have d1 : w2.cell? ⟨w.heap.size, 1, none⟩ = some (.int .i64 r) := hb2.cell rfl
    obtain ⟨mv, W4, hmc, hdel, hl4, hk4, hb4⟩ := links_del2 (x := (c, r)) (HLk.out w2.drew (hk2.drew)) HI.out
    have HEND : Hid (LinksIn W4 F l (delU us (c, r)) (cntD us (c, r) n) ∧ Kp w W4 F ∧ KC w W4) := ⟨hl4, ((HKW.out.trans hk2.drew).of_nul).trans hk4, (kc_nul (HKW.out.trans hk2.drew)).trans hb4⟩
    have d2 : w2.cell? ⟨l, 0, none⟩ = some (.map mv) := hmc
    simp only at hdel
    clear hl4 hk4 hb4 hmc hb2 hk2
    go_wp2_with fail
    go_region
    all_goals
      go_wp2_with fail
      go_ret
      exact ⟨rfl, HEND.out⟩
end Go.Proofs.YtdlieecpckpemaaGreatDoor
