/- slices.Compact of cells, walked. -/
import Derived.Test.YtkgolfmnlbmmeaaGreatDoorZe
import Derived.Test.YtkgolfmnlbmmeaaGreatDoorZx
namespace Go.Proofs.YtkgolfmnlbmmeaaGreatDoor
open Go.RowKit Go.Sort Go.Lib

theorem comp_take {d dk : Array (Int × Int)} {k : Nat} (h : CompInv d d.size k dk) : dk.toList.take k = compactUpTo d d.size := by
  apply List.ext_getElem?
  intro j
  have hlt := h.lt
  rw [List.getElem?_take]
  by_cases hj : j < k
  · have hj2 : j < dk.size := by rw [h.size]; omega
    rw [if_pos hj, h.low j hj, getElem!_pos dk j hj2, List.getElem?_eq_getElem (by simpa using hj2)]
    simp
  · rw [if_neg hj, List.getElem?_eq_none (by rw [h.len]; omega)]
def CoR (d : Array (Int × Int)) (w : World) (s : Value) (wr : World) : Prop := ∃ k q : Nat, 1 ≤ k ∧ k ≤ d.size ∧ s = .int .i64 (k : Int) ∧ wr = w.drewN q ∧ ∀ j, j < k → keeps d j = true
def CiR (d : Array (Int × Int)) (w : World) (b o k : Nat) (s3 s5 : Value) (wr : World) : Prop := ∃ (kk k2 : Nat) (dk : Array (Int × Int)), s3 = .int .i64 (kk : Int) ∧ s5 = .int .i64 (k2 : Int) ∧ 1 ≤ k2 ∧ k + k2 ≤ d.size ∧ Kp w wr (fun i => i = b) ∧ RowA wr b o dk ∧ CompInv d (k + k2) kk dk
set_option maxRecDepth 20000 in
set_option maxHeartbeats 4000000 in
theorem compact_at (b o cap : Nat) (d : Array (Int × Int)) (w : World) (hH : RowA w b o d) (hn : d.size ≤ 1048576) (hcap : d.size ≤ cap) :
    Calls Tryz.prog 86 #[.slice (some ⟨b, o, none⟩) d.size cap] w fun e w' => e = .returned (.slice (some ⟨b, o, none⟩) (compactUpTo d d.size).length cap) ∧ CellsAt w' b o (compactUpTo d d.size) ∧ Kp w w' (fun i => i = b) := by
  have HS : Hid (∀ q, (∀ j, j < d.size → keeps d j = true) → (compactUpTo d d.size).length = d.size ∧ CellsAt (w.drewN q) b o (compactUpTo d d.size)) := fun q hall => by
    have e : compactUpTo d d.size = d.toList := by rw [compactUpTo_all d _ hall, range_map_get]
    rw [e]
    refine ⟨by simp, ?_⟩
    have := hH.low (w' := w.drewN q) d.size (fun j _ => rfl)
    rwa [List.take_of_length_le (by simp)] at this
  have HH : Hid (RowA w b o d) := hH
  clear hH
  by_cases h2 : d.size < 2
  · have HE := HS.out 0 (fun j hj => keeps_lt_one d j (by omega))
    rw [HE.1]
    have HE2 : Hid (CellsAt (w.drewN 0) b o (compactUpTo d d.size)) := HE.2
    clear HE HS HH
    go_enter Tryz.func86, Tryz.ntmps86
    go_wp2
    go_ret
    exact ⟨rfl, HE2.out, Kp.refl _ _⟩
  · obtain ⟨n, hnn⟩ : ∃ n, d.size = n := ⟨_, rfl⟩
    have HN : Hid (d.size = n) := hnn
    have h2' : 2 ≤ n := by omega
    have hn' : n ≤ 1048576 := by omega
    have hcap' : n ≤ cap := by omega
    obtain ⟨R, hR⟩ : ∃ R, compactUpTo d d.size = R := ⟨_, rfl⟩
    have HR : Hid (compactUpTo d d.size = R) := hR
    rw [hR]
    rw [hnn]
    clear hR hnn h2 hn hcap
    go_enter Tryz.func86, Tryz.ntmps86
    go_wp2
    go_loopw [3] (fun s wr => CoR d w s wr) (fun s _ => n - (intOf s).toNat)
    case atStart => exact ⟨1, 0, by omega, by rw [HN.out]; omega, rfl, rfl, keeps_lt_one d⟩
    case round =>
      obtain ⟨k, q, hk1, hk, rfl, rfl, hall⟩ := hrel
      rw [HN.out] at hk
      have HA : Hid (∀ j, j < k → keeps d j = true) := hall
      clear hall
      by_cases hlt : k < n
      · obtain ⟨⟨c1, c2⟩, _⟩ := HH.out k (by rw [HN.out]; exact hlt)
        obtain ⟨⟨c3, c4⟩, _⟩ := HH.out (k - 1) (by rw [HN.out]; omega)
        obtain ⟨⟨x1, x2⟩, hx⟩ : ∃ x, d[k]! = x := ⟨_, rfl⟩
        obtain ⟨⟨y1, y2⟩, hy⟩ : ∃ y, d[k - 1]! = y := ⟨_, rfl⟩
        rw [hx] at c1 c2
        rw [hy] at c3 c4
        simp only at c1 c2 c3 c4
        have HX : Hid (d[k]! = (x1, x2) ∧ d[k - 1]! = (y1, y2)) := ⟨hx, hy⟩
        clear hx hy
        have k1 : (1 : Int) ≤ (k : Int) := by omega
        have k2 : (k : Int) < (n : Int) := by omega
        have k3 : IntKind.i64.wrap ((k : Int) - 1) = ((k - 1 : Nat) : Int) := by rw [IntKind.wrap_i64]; omega
        have k4 : ((k - 1 : Nat) : Int) < (n : Int) := by omega
        by_cases hdup : x1 = y1 ∧ x2 = y2
        · obtain ⟨rfl, rfl⟩ := hdup
          have hq := eql_addr x1 x2 x1 x2 true (by simp)
          go_wp2_with fail
          go_quiet (fail)
          go_wp2_with fail
          clear hq c1 c2 c3 c4
          go_loopw [3, 5] (fun s3 s5 wr => CiR d w b o k s3 s5 wr) (fun _ s5 _ => n - k - (intOf s5).toNat)
          case atStart => exact ⟨k, 1, d, rfl, rfl, by omega, by rw [HN.out]; omega, (Kp.refl w _).drewN _, HH.out, CompInv.start HA.out (keeps_neg (by omega) (by rw [HX.out.1, HX.out.2]))⟩
          case round =>
            obtain ⟨kk, m, dk, rfl, rfl, h1, hle, hkp, hrow, hI⟩ := hrel
            rw [HN.out] at hle
            have hkk : kk < k + m := hI.lt
            have hds : dk.size = n := hI.size.trans HN.out
            have HKP : Hid (Kp w wr (fun i => i = b)) := hkp
            have HROW : Hid (RowA wr b o dk) := hrow
            have HI : Hid (CompInv d (k + m) kk dk) := hI
            clear hkp hrow hI
            by_cases hlt2 : k + m < n
            · obtain ⟨⟨c1, c2⟩, _⟩ := HROW.out (k + m) (by omega)
              obtain ⟨⟨c3, c4⟩, _⟩ := HROW.out (k + m - 1) (by omega)
              obtain ⟨⟨c5, c6⟩, f5, f6⟩ := HROW.out kk (by omega)
              rw [HI.out.high (k + m) (by omega)] at c1 c2
              rw [HI.out.high (k + m - 1) (by omega)] at c3 c4
              obtain ⟨⟨u1, u2⟩, hx⟩ : ∃ x, d[k + m]! = x := ⟨_, rfl⟩
              obtain ⟨⟨y1, y2⟩, hy⟩ : ∃ y, d[k + m - 1]! = y := ⟨_, rfl⟩
              rw [hx] at c1 c2
              rw [hy] at c3 c4
              simp only at c1 c2 c3 c4
              rw [show o + (k + m) * 2 = o + k * 2 + m * 2 by omega] at c1 c2
              rw [show o + (k + m - 1) * 2 = o + k * 2 + (m - 1) * 2 by omega] at c3 c4
              have HU : Hid (d[k + m]! = (u1, u2) ∧ d[k + m - 1]! = (y1, y2)) := ⟨hx, hy⟩
              clear hx hy
              have m1 : (1 : Int) ≤ (m : Int) := by omega
              have m2 : (m : Int) < ((n - k : Nat) : Int) := by omega
              have m3 : IntKind.i64.wrap ((m : Int) - 1) = ((m - 1 : Nat) : Int) := by rw [IntKind.wrap_i64]; omega
              have m4 : ((m - 1 : Nat) : Int) < ((n - k : Nat) : Int) := by omega
              have m5 : (kk : Int) < (n : Int) := by omega
              by_cases hdup2 : u1 = y1 ∧ u2 = y2
              · obtain ⟨rfl, rfl⟩ := hdup2
                have hq := neq_addr u1 u2 u1 u2 true (by simp)
                go_wp2_with fail
                go_quiet (fail)
                go_wp2_with fail
                go_roundw
                case rel => exact ⟨kk, m + 1, dk, rfl, by go_num, by omega, by rw [HN.out]; omega, HKP.out.drewN _, HROW.out, HI.out.skip (keeps_neg (by omega) (by rw [HU.out.1, HU.out.2]))⟩
                case measure => simp only [intOf]; omega
              · have hq := neq_addr u1 u2 y1 y2 false (by simpa using hdup2)
                go_wp2_with fail
                go_quiet (fail)
                go_wp2_with fail
                go_roundw
                case rel => exact ⟨kk + 1, m + 1, dk.setIfInBounds kk (u1, u2), by go_num, by go_num, by omega, by rw [HN.out]; omega, ((HKP.out.drewN _).setCell ⟨b, o + kk * 2, none⟩ _ (.inr rfl)).setCell ⟨b, o + kk * 2 + 1, none⟩ _ (.inr rfl), RowA.set (w := wr.drewN _) HROW.out kk (by omega) (u1, u2), by have := HI.out.keep (by rw [HN.out]; exact hlt2) (keeps_pos (by rw [HU.out.1, HU.out.2]; intro h; simp at h; exact hdup2 h)); rw [HU.out.1] at this; exact this⟩
                case measure => simp only [intOf]; omega
            · have hend : k + m = n := by omega
              have hz := zeroAddr_cells (n - kk)
              obtain ⟨W, hW⟩ : ∃ W, wr.setCells b (o + kk * 2) (Builtin.zeroCells (Value.agg #[.int .i64 0, .int .i64 0]).cells (n - kk)).toList = W := ⟨_, rfl⟩
              have hcl : ∀ ty, (Builtin.clear_ #[30] ty #[.slice (some ⟨b, o + kk * 2, none⟩) (n - kk) (cap - kk)]).run Tryz.prog wr = .ok (.tuple #[]) W := fun ty => by
                rw [← hW]
                refine clear_is wr _ _ ty _ Tryz.underlying30 Tryz.zeroValue29 b (o + kk * 2) (n - kk) (cap - kk) (by omega) (fun j hj => ?_) (fun j hj => ?_) (fun v hv => ?_)
                · rw [hz, List.length_replicate] at hj
                  obtain ⟨⟨e1, e2⟩, _⟩ := HROW.out (kk + j / 2) (by omega)
                  have : j % 2 = 0 ∨ j % 2 = 1 := by omega
                  rcases this with e | e
                  · rw [show o + kk * 2 + j = o + (kk + j / 2) * 2 by omega, e1]; rfl
                  · rw [show o + kk * 2 + j = o + (kk + j / 2) * 2 + 1 by omega, e2]; rfl
                · rw [hz, List.length_replicate] at hj
                  obtain ⟨_, e1, e2⟩ := HROW.out (kk + j / 2) (by omega)
                  have : j % 2 = 0 ∨ j % 2 = 1 := by omega
                  rcases this with e | e
                  · rw [show o + kk * 2 + j = o + (kk + j / 2) * 2 by omega, e1]
                  · rw [show o + kk * 2 + j = o + (kk + j / 2) * 2 + 1 by omega, e2]
                · rw [hz] at hv
                  rw [List.eq_of_mem_replicate hv]; rfl
              have HW : Hid (Kp w W (fun i => i = b) ∧ CellsAt W b o (dk.toList.take kk)) := by
                refine ⟨?_, ?_⟩
                · rw [← hW]; exact HKP.out.trans (setCells_kp b _ _ _)
                · refine HROW.out.low kk (fun j hj => ?_)
                  rw [← hW, setCells_low b _ _ _ _ (by omega)]
              have m5 : (kk : Int) < (n : Int) := by omega
              have m6 : (m : Int) = ((n - k : Nat) : Int) := by omega
              have m7 : (kk : Int) ≤ (n : Int) := by omega
              clear hW hz
              go_wp2_with fail
              go_ret
              have hI := HI.out
              rw [hend, ← HN.out] at hI
              have e1 := hI.len
              rw [HR.out] at e1
              obtain ⟨g1, g2⟩ := HW.out
              refine ⟨by rw [e1]; rfl, ?_, g1⟩
              rw [comp_take hI, HR.out] at g2
              exact g2
        · have hq := eql_addr x1 x2 y1 y2 false (by simpa using hdup)
          go_wp2_with fail
          go_quiet (fail)
          go_wp2_with fail
          go_roundw
          case rel =>
            refine ⟨k + 1, _, by omega, by rw [HN.out]; omega, by go_num, rfl, fun j hj => ?_⟩
            by_cases e : j = k
            · subst e
              exact keeps_pos (by rw [HX.out.1, HX.out.2]; intro h; simp at h; exact hdup h)
            · exact HA.out j (by omega)
          case measure => simp only [intOf]; omega
      · have : k = n := by omega
        subst this
        go_wp2
        go_ret
        obtain ⟨e1, e2⟩ := HS.out q (by rw [HN.out]; exact HA.out)
        rw [HR.out, HN.out] at e1
        rw [HR.out] at e2
        exact ⟨by rw [e1]; rfl, e2, Kp.of_drew ⟨_, rfl⟩⟩
end Go.Proofs.YtkgolfmnlbmmeaaGreatDoor
