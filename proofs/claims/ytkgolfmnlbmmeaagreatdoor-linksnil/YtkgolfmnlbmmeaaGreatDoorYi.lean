/- slices.BinarySearchFunc of cells; ahead. -/
import Derived.Test.YtkgolfmnlbmmeaaGreatDoorYh
import Derived.Test.YtkgolfmnlbmmeaaGreatDoorDb
namespace Go.Proofs.YtkgolfmnlbmmeaaGreatDoor
open Go.RowKit

theorem CellsAt.gr {w w' : World} {b o : Nat} {L : List (Int × Int)} (h : CellsAt w b o L) (g : Gr w w') : CellsAt w' b o L := h.kp (S := Nul) (Kp.of_gr g) (fun x => x)
/-- i of the cells stand ahead of the row. -/
def AheadIs (L : List (Int × Int)) (r : Int) (i : Nat) : Prop := i ≤ L.length ∧ (∀ (p : Nat) (x : Int × Int), L[p]? = some x → p < i → x.2 < r) ∧ (∀ (p : Nat) (x : Int × Int), L[p]? = some x → i ≤ p → r ≤ x.2)
def RowsRise (L : List (Int × Int)) : Prop := ∀ (p q : Nat) (x y : Int × Int), L[p]? = some x → L[q]? = some y → p ≤ q → x.2 ≤ y.2
def BsR (L : List (Int × Int)) (r : Int) (w : World) (i j : Value) (wr : World) : Prop :=
  ∃ k l : Nat, i = .int .i64 (k : Int) ∧ j = .int .i64 (l : Int) ∧ k ≤ l ∧ l ≤ L.length ∧ (∀ (p : Nat) (x : Int × Int), L[p]? = some x → p < k → x.2 < r) ∧ (∀ (p : Nat) (x : Int × Int), L[p]? = some x → l ≤ p → r ≤ x.2) ∧ Gr w wr
theorem ord_lt (c r s : Int) (hc : 1 ≤ c) : (ordC c r 0 s < 0) ↔ r < s := by
  unfold ordC cmpI
  repeat' split
  all_goals omega

set_option maxRecDepth 20000 in
set_option maxHeartbeats 4000000 in
theorem search_at (L : List (Int × Int)) (a : Option Addr) (cc : Nat) (r : Int) (w : World) (hL : L.length ≤ 4294967296) (hv : ∀ (i : Nat) (x : Int × Int), L[i]? = some x → 1 ≤ x.1) (hup : RowsRise L) (ha : 0 < L.length → ∃ b o, a = some ⟨b, o, none⟩ ∧ CellsAt w b o L) :
    Calls Tryz.prog 98 #[.slice a L.length cc, .agg #[.int .i64 0, .int .i64 r], .func (.func 51) #[] #[]] w fun e w' => ∃ (i : Nat) (f : Bool), e = .returned (.tuple #[.int .i64 (i : Int), .bool f]) ∧ AheadIs L r i ∧ Gr w w' := by
  obtain ⟨n, hn⟩ : ∃ n, L.length = n := ⟨_, rfl⟩
  have HN : Hid (L.length = n) := hn
  have HA : Hid (0 < n → ∃ b o, a = some ⟨b, o, none⟩ ∧ CellsAt w b o L) := by show _; rw [← hn]; exact ha
  have HV : Hid (∀ (i : Nat) (x : Int × Int), L[i]? = some x → 1 ≤ x.1) := hv
  have HU : Hid (RowsRise L) := hup
  have h2 := has2_new w (.int .i64 0) (.int .i64 r) 29
  have HT : Hid (Has2 (w.alloc (.cells #[.int .i64 0, .int .i64 r] 29)) w.heap.size (.int .i64 0) (.int .i64 r)) := h2
  rw [hn]
  have hnn : n ≤ 4294967296 := by omega
  clear hn ha hv hL hup h2
  go_enter Tryz.func98, Tryz.ntmps98
  go_wp2_with fail
  go_loopw [9, 10] (fun i j wr => BsR L r (w.alloc (.cells #[.int .i64 0, .int .i64 r] 29)) i j wr) (fun i j _ => (intOf j).toNat - (intOf i).toNat)
  case atStart => exact ⟨0, n, rfl, rfl, by omega, by rw [HN.out]; omega, fun p x _ h => by omega, fun p x hx h => by have := (List.getElem?_eq_some_iff.1 hx).1; rw [HN.out] at this; omega, Gr.refl _⟩
  case round =>
    obtain ⟨k, l, rfl, rfl, hkl, hln, hlow, hhigh, hg⟩ := hrel
    rw [HN.out] at hln
    have HLo : Hid (∀ (p : Nat) (x : Int × Int), L[p]? = some x → p < k → x.2 < r) := hlow
    have HHi : Hid (∀ (p : Nat) (x : Int × Int), L[p]? = some x → l ≤ p → r ≤ x.2) := hhigh
    have HG : Hid (Gr (w.alloc (.cells #[.int .i64 0, .int .i64 r] 29)) wr) := hg
    have HGw : Hid (Gr w wr) := ((Gr.refl w).alloc _ _).trans hg
    have HW : Hid (Has2 wr w.heap.size (.int .i64 0) (.int .i64 r)) := HT.out.gr hg
    clear hlow hhigh hg
    by_cases hlt : k < l
    · obtain ⟨b, o, rfl, hcl⟩ := HA.out (by omega)
      obtain ⟨h, hh⟩ : ∃ h, (k + l) / 2 = h := ⟨_, rfl⟩
      have hh1 : k ≤ h := by omega
      have hh2 : h < l := by omega
      have HH : Hid (((k : Int) + l) / 2 = (h : Int)) := by show _ = _; omega
      obtain ⟨⟨c, s⟩, hx⟩ : ∃ x, L[h]? = some x := ⟨_, List.getElem?_eq_getElem (by rw [HN.out]; omega)⟩
      have hc1 := HV.out h _ hx
      simp only at hc1
      have HX : Hid (L[h]? = some (c, s)) := hx
      have q := (hcl.gr HGw.out) h _ hx
      have HOrd : Hid (∀ wq, Gr wr wq → Calls Tryz.prog 51 #[.agg #[.int .i64 c, .int .i64 s], .agg #[.int .i64 0, .int .i64 r]] wq fun e w' => e = .returned (.int .i64 (ordC c s 0 r)) ∧ Gr wr w') := fun wq hq => by
        refine (pOrder_any c s 0 r wq).mono ?_
        rintro e w' ⟨rfl, h2⟩
        exact ⟨rfl, hq.trans h2⟩
      have KS : Hid (∀ w', Gr wr w' → (w'.cell? ⟨b, o + h * 2, none⟩ = some (.int .i64 c) ∧ w'.cell? ⟨b, o + h * 2 + 1, none⟩ = some (.int .i64 s) ∧ w'.cell? ⟨w.heap.size, 0, none⟩ = some (.int .i64 0) ∧ w'.cell? ⟨w.heap.size, 1, none⟩ = some (.int .i64 r))) := fun w' g => by
        have q := ((hcl.gr HGw.out).gr g) h _ hx
        have t := HW.out.gr g
        exact ⟨q.1, q.2, t.1.1, t.1.2⟩
      have HLT : Hid ((ordC c s 0 r < 0) ↔ s < r) := ord_lt c s r hc1
      have hhi : (0 : Int) ≤ (h : Int) := by omega
      have hhn : (h : Int) < (n : Int) := by omega
      clear hh q hcl hx hc1 HA
      generalize ordC c s 0 r = z at *
      go_wp2_with fail
      simp only [HH.out]
      go_region_held3 (fun w' => w'.cell? ⟨b, o + h * 2, none⟩ = some (.int .i64 c) ∧ w'.cell? ⟨b, o + h * 2 + 1, none⟩ = some (.int .i64 s) ∧ w'.cell? ⟨w.heap.size, 0, none⟩ = some (.int .i64 0) ∧ w'.cell? ⟨w.heap.size, 1, none⟩ = some (.int .i64 r))
        (first | (refine KS.out _ ?_; assumption) | (exact KS.out _ ((Gr.refl _).drew)) | (exact KS.out _ (Gr.refl _)))
        ((go_at_call 51; refine (HOrd.out _ (by repeat (first | exact Gr.refl _ | refine Gr.drew ?_))).mono ?_; rintro e w' ⟨rfl, hg2⟩))
      all_goals
        have HG2 : Hid (Gr wr w') := hg2
        clear hg2 KS HOrd
        by_cases hz : z < 0
        · go_wp2_with fail
          go_roundw
          case rel =>
            exact ⟨h + 1, l, by go_num, rfl, by omega, by rw [HN.out]; omega, fun p x hp hlt => by
              have := HU.out p h x (c, s) hp HX.out (by omega)
              have := HLT.out.1 hz
              simp only at *; omega, HHi.out, HG.out.trans HG2.out⟩
          case measure => simp [intOf]; omega
        · go_wp2_with fail
          go_roundw
          case rel =>
            exact ⟨k, h, rfl, rfl, by omega, by rw [HN.out]; omega, HLo.out, fun p x hp hle => by
              have := HU.out h p (c, s) x HX.out hp (by omega)
              have h3 : ¬ s < r := fun h' => hz (HLT.out.2 h')
              simp only at *; omega, HG.out.trans HG2.out⟩
          case measure => simp [intOf]; omega
    · have hkl2 : k = l := by omega
      subst hkl2
      have HR : Hid (AheadIs L r k) := ⟨by rw [HN.out]; omega, HLo.out, HHi.out⟩
      by_cases hkn : k < n
      · obtain ⟨b, o, rfl, hcl⟩ := HA.out (by omega)
        obtain ⟨⟨c, s⟩, hx⟩ : ∃ x, L[k]? = some x := ⟨_, List.getElem?_eq_getElem (by rw [HN.out]; omega)⟩
        have HOrd : Hid (∀ wq, Gr wr wq → Calls Tryz.prog 51 #[.agg #[.int .i64 c, .int .i64 s], .agg #[.int .i64 0, .int .i64 r]] wq fun e w' => e = .returned (.int .i64 (ordC c s 0 r)) ∧ Gr wr w') := fun wq hq => by
          refine (pOrder_any c s 0 r wq).mono ?_
          rintro e w' ⟨rfl, h2⟩
          exact ⟨rfl, hq.trans h2⟩
        have KS : Hid (∀ w', Gr wr w' → (w'.cell? ⟨b, o + k * 2, none⟩ = some (.int .i64 c) ∧ w'.cell? ⟨b, o + k * 2 + 1, none⟩ = some (.int .i64 s) ∧ w'.cell? ⟨w.heap.size, 0, none⟩ = some (.int .i64 0) ∧ w'.cell? ⟨w.heap.size, 1, none⟩ = some (.int .i64 r))) := fun w' g => by
          have q := ((hcl.gr HGw.out).gr g) k _ hx
          have t := HW.out.gr g
          exact ⟨q.1, q.2, t.1.1, t.1.2⟩
        have hhi : (0 : Int) ≤ (k : Int) := by omega
        have hhn : (k : Int) < (n : Int) := by omega
        clear hcl hx HA
        generalize ordC c s 0 r = z at *
        go_wp2_with fail
        go_region_held3 (fun w' => w'.cell? ⟨b, o + k * 2, none⟩ = some (.int .i64 c) ∧ w'.cell? ⟨b, o + k * 2 + 1, none⟩ = some (.int .i64 s) ∧ w'.cell? ⟨w.heap.size, 0, none⟩ = some (.int .i64 0) ∧ w'.cell? ⟨w.heap.size, 1, none⟩ = some (.int .i64 r))
          (first | (refine KS.out _ ?_; assumption) | (exact KS.out _ ((Gr.refl _).drew)) | (exact KS.out _ (Gr.refl _)))
          ((go_at_call 51; refine (HOrd.out _ (by repeat (first | exact Gr.refl _ | refine Gr.drew ?_))).mono ?_; rintro e w' ⟨rfl, hg2⟩))
        all_goals
          have HG2 : Hid (Gr wr w') := hg2
          clear hg2 KS HOrd
          go_wp2_with fail
          go_ret2
          exact ⟨k, _, rfl, HR.out, HGw.out.trans HG2.out⟩
      · have hkd : decide ((k : Int) < (n : Int)) = false := by simp; omega
        go_wp2_with fail
        go_region
        all_goals
          go_wp2_with fail
          go_ret2
          exact ⟨k, _, rfl, HR.out, HGw.out.drew⟩
end Go.Proofs.YtkgolfmnlbmmeaaGreatDoor
