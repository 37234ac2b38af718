/- slices.BinarySearchFunc of cells; ahead. ahead; what a board has of an area. Areas in memory; pieces as sets of places. settle. -/
import Derived.Test.YtdlieecpckpemaaGreatDoorLcYe
import Derived.Test.YtdlieecpckpemaaGreatDoorLcDb
namespace Go.Proofs.YtdlieecpckpemaaGreatDoor
open Go.RowKit

theorem CellsAt.gr {w w' : World} {b o : Nat} {L : List (Int × Int)} (h : CellsAt w b o L) (g : Gr w w') : CellsAt w' b o L := h.kp (S := Nul) (Kp.of_gr g) (fun x => x)
/-- i of the cells stand ahead of the row. -/
def AheadIs (L : List (Int × Int)) (r : Int) (i : Nat) : Prop := i ≤ L.length ∧ (∀ (p : Nat) (x : Int × Int), L[p]? = some x → p < i → x.2 < r) ∧ (∀ (p : Nat) (x : Int × Int), L[p]? = some x → i ≤ p → r ≤ x.2)
def RowsRise (L : List (Int × Int)) : Prop := ∀ (p q : Nat) (x y : Int × Int), L[p]? = some x → L[q]? = some y → p ≤ q → x.2 ≤ y.2
def BsR (L : List (Int × Int)) (r : Int) (w : World) (i j : Value) (wr : World) : Prop :=
  ∃ k l : Nat, i = .int .i64 (k : Int) ∧ j = .int .i64 (l : Int) ∧ k ≤ l ∧ l ≤ L.length ∧ (∀ (p : Nat) (x : Int × Int), L[p]? = some x → p < k → x.2 < r) ∧ (∀ (p : Nat) (x : Int × Int), L[p]? = some x → l ≤ p → r ≤ x.2) ∧ Gr w wr
theorem ord_lt (c r s : Int) (hc : 1 ≤ c) : (ordC c r 0 s < 0) ↔ r < s := by
  unfold ordC cmpI
  repeat' split
  all_goals omega

set_option maxRecDepth 20000 in
set_option maxHeartbeats 4000000 in
theorem search_at (L : List (Int × Int)) (a : Option Addr) (cc : Nat) (r : Int) (w : World) (hL : L.length ≤ 4294967296) (hv : ∀ (i : Nat) (x : Int × Int), L[i]? = some x → 1 ≤ x.1) (hup : RowsRise L) (ha : 0 < L.length → ∃ b o, a = some ⟨b, o, none⟩ ∧ CellsAt w b o L) :
    Calls Tryz.prog 97 #[.slice a L.length cc, .agg #[.int .i64 0, .int .i64 r], .func (.func 50) #[] #[]] w fun e w' => ∃ (i : Nat) (f : Bool), e = .returned (.tuple #[.int .i64 (i : Int), .bool f]) ∧ AheadIs L r i ∧ Gr w w' := by
  obtain ⟨n, hn⟩ : ∃ n, L.length = n := ⟨_, rfl⟩
  have HN : Hid (L.length = n) := hn
  have HA : Hid (0 < n → ∃ b o, a = some ⟨b, o, none⟩ ∧ CellsAt w b o L) := by show _; rw [← hn]; exact ha
  have HV : Hid (∀ (i : Nat) (x : Int × Int), L[i]? = some x → 1 ≤ x.1) := hv
  have HU : Hid (RowsRise L) := hup
  have h2 := has2_new w (.int .i64 0) (.int .i64 r) 29
  have HT : Hid (Has2 (w.alloc (.cells #[.int .i64 0, .int .i64 r] 29)) w.heap.size (.int .i64 0) (.int .i64 r)) := h2
  rw [hn]
  have hnn : n ≤ 4294967296 := by omega
  clear hn ha hv hL hup h2
  go_enter Tryz.func97, Tryz.ntmps97
  go_wp2_with fail
  go_loopw [9, 10] (fun i j wr => BsR L r (w.alloc (.cells #[.int .i64 0, .int .i64 r] 29)) i j wr) (fun i j _ => (intOf j).toNat - (intOf i).toNat)
  case atStart => exact ⟨0, n, rfl, rfl, by omega, by rw [HN.out]; omega, fun p x _ h => by omega, fun p x hx h => by have := (List.getElem?_eq_some_iff.1 hx).1; rw [HN.out] at this; omega, Gr.refl _⟩
  case round =>
    obtain ⟨k, l, rfl, rfl, hkl, hln, hlow, hhigh, hg⟩ := hrel
    rw [HN.out] at hln
    have HLo : Hid (∀ (p : Nat) (x : Int × Int), L[p]? = some x → p < k → x.2 < r) := hlow
    have HHi : Hid (∀ (p : Nat) (x : Int × Int), L[p]? = some x → l ≤ p → r ≤ x.2) := hhigh
    have HG : Hid (Gr (w.alloc (.cells #[.int .i64 0, .int .i64 r] 29)) wr) := hg
    have HGw : Hid (Gr w wr) := ((Gr.refl w).alloc _ _).trans hg
    have HW : Hid (Has2 wr w.heap.size (.int .i64 0) (.int .i64 r)) := HT.out.gr hg
    clear hlow hhigh hg
    by_cases hlt : k < l
    · obtain ⟨b, o, rfl, hcl⟩ := HA.out (by omega)
      obtain ⟨h, hh⟩ : ∃ h, (k + l) / 2 = h := ⟨_, rfl⟩
      have hh1 : k ≤ h := by omega
      have hh2 : h < l := by omega
      have HH : Hid (((k : Int) + l) / 2 = (h : Int)) := by show _ = _; omega
      obtain ⟨⟨c, s⟩, hx⟩ : ∃ x, L[h]? = some x := ⟨_, List.getElem?_eq_getElem (by rw [HN.out]; omega)⟩
      have hc1 := HV.out h _ hx
      simp only at hc1
      have HX : Hid (L[h]? = some (c, s)) := hx
      have q := (hcl.gr HGw.out) h _ hx
      have HOrd : Hid (∀ wq, Gr wr wq → Calls Tryz.prog 50 #[.agg #[.int .i64 c, .int .i64 s], .agg #[.int .i64 0, .int .i64 r]] wq fun e w' => e = .returned (.int .i64 (ordC c s 0 r)) ∧ Gr wr w') := fun wq hq => by
        refine (pOrder_any c s 0 r wq).mono ?_
        rintro e w' ⟨rfl, h2⟩
        exact ⟨rfl, hq.trans h2⟩
      have KS : Hid (∀ w', Gr wr w' → (w'.cell? ⟨b, o + h * 2, none⟩ = some (.int .i64 c) ∧ w'.cell? ⟨b, o + h * 2 + 1, none⟩ = some (.int .i64 s) ∧ w'.cell? ⟨w.heap.size, 0, none⟩ = some (.int .i64 0) ∧ w'.cell? ⟨w.heap.size, 1, none⟩ = some (.int .i64 r))) := fun w' g => by
        have q := ((hcl.gr HGw.out).gr g) h _ hx
        have t := HW.out.gr g
        exact ⟨q.1, q.2, t.1.1, t.1.2⟩
      have HLT : Hid ((ordC c s 0 r < 0) ↔ s < r) := ord_lt c s r hc1
      have hhi : (0 : Int) ≤ (h : Int) := by omega
      have hhn : (h : Int) < (n : Int) := by omega
      clear hh q hcl hx hc1 HA
      generalize ordC c s 0 r = z at *
      go_wp2_with fail
      simp only [HH.out]
      go_region_held3 (fun w' => w'.cell? ⟨b, o + h * 2, none⟩ = some (.int .i64 c) ∧ w'.cell? ⟨b, o + h * 2 + 1, none⟩ = some (.int .i64 s) ∧ w'.cell? ⟨w.heap.size, 0, none⟩ = some (.int .i64 0) ∧ w'.cell? ⟨w.heap.size, 1, none⟩ = some (.int .i64 r))
        (first | (refine KS.out _ ?_; assumption) | (exact KS.out _ ((Gr.refl _).drew)) | (exact KS.out _ (Gr.refl _)))
        ((go_at_call 50; refine (HOrd.out _ (by repeat (first | exact Gr.refl _ | refine Gr.drew ?_))).mono ?_; rintro e w' ⟨rfl, hg2⟩))
      all_goals
        have HG2 : Hid (Gr wr w') := hg2
        clear hg2 KS HOrd
        by_cases hz : z < 0
        · go_wp2_with fail
          go_roundw
          case rel =>
            exact ⟨h + 1, l, by go_num, rfl, by omega, by rw [HN.out]; omega, fun p x hp hlt => by
              have := HU.out p h x (c, s) hp HX.out (by omega)
              have := HLT.out.1 hz
              simp only at *; omega, HHi.out, HG.out.trans HG2.out⟩
          case measure => simp [intOf]; omega
        · go_wp2_with fail
          go_roundw
          case rel =>
            exact ⟨k, h, rfl, rfl, by omega, by rw [HN.out]; omega, HLo.out, fun p x hp hle => by
              have := HU.out h p (c, s) x HX.out hp (by omega)
              have h3 : ¬ s < r := fun h' => hz (HLT.out.2 h')
              simp only at *; omega, HG.out.trans HG2.out⟩
          case measure => simp [intOf]; omega
    · have hkl2 : k = l := by omega
      subst hkl2
      have HR : Hid (AheadIs L r k) := ⟨by rw [HN.out]; omega, HLo.out, HHi.out⟩
      by_cases hkn : k < n
      · obtain ⟨b, o, rfl, hcl⟩ := HA.out (by omega)
        obtain ⟨⟨c, s⟩, hx⟩ : ∃ x, L[k]? = some x := ⟨_, List.getElem?_eq_getElem (by rw [HN.out]; omega)⟩
        have HOrd : Hid (∀ wq, Gr wr wq → Calls Tryz.prog 50 #[.agg #[.int .i64 c, .int .i64 s], .agg #[.int .i64 0, .int .i64 r]] wq fun e w' => e = .returned (.int .i64 (ordC c s 0 r)) ∧ Gr wr w') := fun wq hq => by
          refine (pOrder_any c s 0 r wq).mono ?_
          rintro e w' ⟨rfl, h2⟩
          exact ⟨rfl, hq.trans h2⟩
        have KS : Hid (∀ w', Gr wr w' → (w'.cell? ⟨b, o + k * 2, none⟩ = some (.int .i64 c) ∧ w'.cell? ⟨b, o + k * 2 + 1, none⟩ = some (.int .i64 s) ∧ w'.cell? ⟨w.heap.size, 0, none⟩ = some (.int .i64 0) ∧ w'.cell? ⟨w.heap.size, 1, none⟩ = some (.int .i64 r))) := fun w' g => by
          have q := ((hcl.gr HGw.out).gr g) k _ hx
          have t := HW.out.gr g
          exact ⟨q.1, q.2, t.1.1, t.1.2⟩
        have hhi : (0 : Int) ≤ (k : Int) := by omega
        have hhn : (k : Int) < (n : Int) := by omega
        clear hcl hx HA
        generalize ordC c s 0 r = z at *
        go_wp2_with fail
        go_region_held3 (fun w' => w'.cell? ⟨b, o + k * 2, none⟩ = some (.int .i64 c) ∧ w'.cell? ⟨b, o + k * 2 + 1, none⟩ = some (.int .i64 s) ∧ w'.cell? ⟨w.heap.size, 0, none⟩ = some (.int .i64 0) ∧ w'.cell? ⟨w.heap.size, 1, none⟩ = some (.int .i64 r))
          (first | (refine KS.out _ ?_; assumption) | (exact KS.out _ ((Gr.refl _).drew)) | (exact KS.out _ (Gr.refl _)))
          ((go_at_call 50; refine (HOrd.out _ (by repeat (first | exact Gr.refl _ | refine Gr.drew ?_))).mono ?_; rintro e w' ⟨rfl, hg2⟩))
        all_goals
          have HG2 : Hid (Gr wr w') := hg2
          clear hg2 KS HOrd
          go_wp2_with fail
          go_ret2
          exact ⟨k, _, rfl, HR.out, HGw.out.trans HG2.out⟩
      · have hkd : decide ((k : Int) < (n : Int)) = false := by simp; omega
        go_wp2_with fail
        go_region
        all_goals
          go_wp2_with fail
          go_ret2
          exact ⟨k, _, rfl, HR.out, HGw.out.drew⟩
end Go.Proofs.YtdlieecpckpemaaGreatDoor
namespace Go.Proofs.YtdlieecpckpemaaGreatDoor
open Go.RowKit

/-- A board of the cells L. -/
structure BoardIn (w : World) (F : Nat → Prop) (B ub mb : Nat) (L : List (Int × Int)) : Prop where
  form : ∃ (a : Option Addr) (cc : Nat), BoardM w B ub mb ((L.length + 63) / 64) (.slice a L.length cc) (colTo L) ∧ (0 < L.length → ∃ b o, a = some ⟨b, o, none⟩ ∧ CellsAt w b o L ∧ F b)
  len : L.length ≤ 4294967295
  vcol : ∀ (i : Nat) (x : Int × Int), L[i]? = some x → 1 ≤ x.1
  rise : RowsRise L
theorem BoardM.gr {w w' : World} {B ub mb W : Nat} {cells : Value} {rows : Nat → Nat → Bool} (h : BoardM w B ub mb W cells rows) (g : Gr w w') : BoardM w' B ub mb W cells rows := h.kpn (Kp.of_gr g)
theorem BoardIn.kp {w w' : World} {F S : Nat → Prop} {B ub mb : Nat} {L : List (Int × Int)} (h : BoardIn w F B ub mb L) (g : Kp w w' S) (h1 : ¬ S B) (h2 : ¬ S ub) (h3 : ¬ S mb) (hF : ∀ b, F b → ¬ S b) : BoardIn w' F B ub mb L := by
  obtain ⟨⟨a, cc, e1, e2⟩, e3, e4, e5⟩ := h
  exact ⟨⟨a, cc, e1.kp g h1 h2 h3, fun hl => by obtain ⟨b, o, e, hc, hb⟩ := e2 hl; exact ⟨b, o, e, hc.kp g (hF b hb), hb⟩⟩, e3, e4, e5⟩
theorem BoardIn.gr {w w' : World} {F : Nat → Prop} {B ub mb : Nat} {L : List (Int × Int)} (h : BoardIn w F B ub mb L) (g : Gr w w') : BoardIn w' F B ub mb L :=
  h.kp (S := Nul) (Kp.of_gr g) (fun x => x) (fun x => x) (fun x => x) (fun _ _ x => x)

set_option maxHeartbeats 2000000 in
theorem ahead_at (F : Nat → Prop) (B ub mb : Nat) (L : List (Int × Int)) (r : Int) (w : World) (h : BoardIn w F B ub mb L) :
    Calls Tryz.prog 109 #[.pointer (some ⟨B, 0, none⟩), .int .i64 r] w fun e w' => ∃ i : Nat, e = .returned (.int .i64 (i : Int)) ∧ AheadIs L r i ∧ Gr w w' := by
  obtain ⟨⟨a, cc, h1, h2⟩, h3, h4, h5⟩ := h
  have HS : Hid (∀ wq, Gr w wq → Calls Tryz.prog 97 #[.slice a L.length cc, .agg #[.int .i64 0, .int .i64 r], .func (.func 50) #[] #[]] wq fun e w' => ∃ (i : Nat) (f : Bool), e = .returned (.tuple #[.int .i64 (i : Int), .bool f]) ∧ AheadIs L r i ∧ Gr wq w') := fun wq g =>
    search_at L a cc r wq (by omega) h4 h5 (fun hl => by obtain ⟨b, o, e, hc, _⟩ := h2 hl; exact ⟨b, o, e, hc.gr g⟩)
  have q : w.cell? ⟨B, 0, none⟩ = some (.slice a L.length cc) := h1.b.cell rfl
  generalize L.length = n at *
  clear h1 h2 h3 h4 h5
  go_enter Tryz.func109, Tryz.ntmps109
  go_wp2_with (go_at_call 97; refine (HS.out _ (Gr.refl _)).mono ?_; rintro e w' ⟨i, f, rfl, hi, hg⟩)
  go_ret
  exact ⟨i, rfl, hi, hg⟩
/-- The value of a piece. -/
abbrev pcV (fr to mb W l r : Nat) : Value := .agg #[.int .i64 (fr : Int), .int .i64 (to : Int), .slice (some ⟨mb, l * W, none⟩) W ((257 - l) * W), .slice (some ⟨mb, r * W, none⟩) W ((257 - r) * W)]
set_option maxRecDepth 20000 in
set_option maxHeartbeats 4000000 in
theorem piece_at (F : Nat → Prop) (B ub mb : Nat) (L : List (Int × Int)) (l c2 : Nat) (r1 r2 : Int) (w : World) (h : BoardIn w F B ub mb L) (hl1 : (l : Int) < 256) (hc3 : 1 ≤ c2) (hc4 : c2 ≤ 256) (hr1 : 1 ≤ r2) (hr2 : r2 ≤ 4096) :
    Calls Tryz.prog 89 #[.pointer (some ⟨B, 0, none⟩), .agg #[.int .i64 ((l : Int) + 1), .int .i64 r1, .int .i64 (c2 : Int), .int .i64 r2]] w fun e w' =>
      ∃ fr to : Nat, e = .returned (pcV fr to mb ((L.length + 63) / 64) l c2) ∧ AheadIs L r1 fr ∧ AheadIs L (r2 + 1) to ∧ Gr w w' := by
  obtain ⟨W, hW⟩ : ∃ W, (L.length + 63) / 64 = W := ⟨_, rfl⟩
  obtain ⟨W2, hW2⟩ : ∃ W2, (w.alloc (.cells #[.int .i64 ((l : Int) + 1), .int .i64 r1, .int .i64 (c2 : Int), .int .i64 r2] 52)).alloc (.cells #[.int .i64 0, .int .i64 0, .slice none 0 0, .slice none 0 0] 126) = W2 := ⟨_, rfl⟩
  have HW2 : Hid ((w.alloc (.cells #[.int .i64 ((l : Int) + 1), .int .i64 r1, .int .i64 (c2 : Int), .int .i64 r2] 52)).alloc (.cells #[.int .i64 0, .int .i64 0, .slice none 0 0, .slice none 0 0] 126) = W2) := hW2
  have hk0 : Kp w W2 Nul := by rw [← hW2]; exact ((Kp.refl w Nul).alloc _).alloc _
  have hg0 : Gr w W2 := by rw [← hW2]; exact ((Gr.refl w).alloc _ _).alloc _ _
  have hA0 : Blk W2 w.heap.size [.int .i64 ((l : Int) + 1), .int .i64 r1, .int .i64 (c2 : Int), .int .i64 r2] 52 := by rw [← hW2]; exact (Blk.new w [.int .i64 ((l : Int) + 1), .int .i64 r1, .int .i64 (c2 : Int), .int .i64 r2] _).alloc _
  have hR0 : Blk W2 (w.heap.size + 1) [.int .i64 0, .int .i64 0, .slice none 0 0, .slice none 0 0] 126 := by
    rw [← hW2]
    have := Blk.new (w.alloc (.cells #[.int .i64 ((l : Int) + 1), .int .i64 r1, .int .i64 (c2 : Int), .int .i64 r2] 52)) [.int .i64 0, .int .i64 0, .slice none 0 0, .slice none 0 0] 126
    rw [World.size_alloc] at this
    exact this
  have h2 := h.gr hg0
  clear hW2
  have H1 : Hid (∀ wq, Gr W2 wq → Calls Tryz.prog 109 #[.pointer (some ⟨B, 0, none⟩), .int .i64 r1] wq fun e w' => ∃ i : Nat, e = .returned (.int .i64 (i : Int)) ∧ AheadIs L r1 i ∧ Gr W2 w') := fun wq g => (ahead_at F B ub mb L r1 wq (h2.gr g)).mono fun e w' ⟨i, h1, h2, h3⟩ => ⟨i, h1, h2, g.trans h3⟩
  have H2 : Hid (∀ wq, Gr W2 wq → Calls Tryz.prog 109 #[.pointer (some ⟨B, 0, none⟩), .int .i64 (r2 + 1)] wq fun e w' => ∃ i : Nat, e = .returned (.int .i64 (i : Int)) ∧ AheadIs L (r2 + 1) i ∧ Gr W2 w') := fun wq g => (ahead_at F B ub mb L (r2 + 1) wq (h2.gr g)).mono fun e w' ⟨i, h1, h2, h3⟩ => ⟨i, h1, h2, g.trans h3⟩
  obtain ⟨⟨a, cc, hb, _⟩, _, _, _⟩ := h
  rw [hW] at hb ⊢
  have hbB : B < w.heap.size := hb.b.lt
  have hbu : ub < w.heap.size := hb.u.lt
  have KS : Hid (∀ w', Kp W2 w' (fun i => i = w.heap.size + 1) → (w'.cell? ⟨B, 1, none⟩ = some (.slice (some ⟨ub, 0, none⟩) 257 257) ∧ w'.cell? ⟨ub, l, none⟩ = some (.slice (some ⟨mb, l * W, none⟩) W ((257 - l) * W)) ∧ w'.cell? ⟨ub, c2, none⟩ = some (.slice (some ⟨mb, c2 * W, none⟩) W ((257 - c2) * W)) ∧
      w'.cell? ⟨w.heap.size, 0, none⟩ = some (.int .i64 ((l : Int) + 1)) ∧ w'.cell? ⟨w.heap.size, 1, none⟩ = some (.int .i64 r1) ∧ w'.cell? ⟨w.heap.size, 2, none⟩ = some (.int .i64 (c2 : Int)) ∧ w'.cell? ⟨w.heap.size, 3, none⟩ = some (.int .i64 r2))) := fun w' g => by
    have q := hb.gr hg0
    have qb := q.b.kp g (fun e => by have e' : B = w.heap.size + 1 := e; omega)
    have qu := q.u.kp g (fun e => by have e' : ub = w.heap.size + 1 := e; omega)
    have qa := hA0.kp g (by simp)
    exact ⟨qb.cell rfl, qu.cell (by rw [upL_get (by omega), if_pos (by omega)]), qu.cell (by rw [upL_get (by omega), if_pos (by omega)]), qa.cell rfl, qa.cell rfl, qa.cell rfl, qa.cell rfl⟩
  have RR : Hid (∀ w', Gr W2 w' → Has4 w' (w.heap.size + 1) (.int .i64 0) (.int .i64 0) (.slice none 0 0) (.slice none 0 0)) := fun w' g => by
    have q := hR0.gr g
    exact ⟨q.cell rfl, q.cell rfl, q.cell rfl, q.cell rfl, q.froz _, q.froz _, q.froz _, q.froz _⟩
  have HG0 : Hid (Gr w W2) := hg0
  have HK0 : Hid (Kp w W2 Nul) := hk0
  have hl2 : (l : Int) < 257 := by omega
  have hl0 : (0 : Int) ≤ (l : Int) := by omega
  have hc0 : (0 : Int) ≤ (c2 : Int) := by omega
  have hws : IntKind.i64.wrap (l : Int) = (l : Int) := by rw [IntKind.wrap_i64]; omega
  have hws2 : IntKind.i64.wrap (r2 + 1) = r2 + 1 := by rw [IntKind.wrap_i64]; omega
  have hc5 : (c2 : Int) < 257 := by omega
  clear hb hW hg0 hk0 hA0 hR0 h2
  go_enter Tryz.func89, Tryz.ntmps89
  go_wp2_with fail
  rw [HW2.out]
  go_region_held3 (fun w' => w'.cell? ⟨B, 1, none⟩ = some (.slice (some ⟨ub, 0, none⟩) 257 257) ∧ w'.cell? ⟨ub, l, none⟩ = some (.slice (some ⟨mb, l * W, none⟩) W ((257 - l) * W)) ∧ w'.cell? ⟨ub, c2, none⟩ = some (.slice (some ⟨mb, c2 * W, none⟩) W ((257 - c2) * W)) ∧
      w'.cell? ⟨w.heap.size, 0, none⟩ = some (.int .i64 ((l : Int) + 1)) ∧ w'.cell? ⟨w.heap.size, 1, none⟩ = some (.int .i64 r1) ∧ w'.cell? ⟨w.heap.size, 2, none⟩ = some (.int .i64 (c2 : Int)) ∧ w'.cell? ⟨w.heap.size, 3, none⟩ = some (.int .i64 r2))
    (first | (refine KS.out _ (Kp.of_gr ?_); assumption) | (exact KS.out _ ((Kp.refl _ _).drew)) | (exact KS.out _ (Kp.refl _ _)) | (refine KS.out _ ?_; repeat (first | (refine Kp.of_gr ?_; assumption) | refine Kp.drew ?_ | refine Kp.setCell ?_ _ _ (.inr rfl))))
    (first
      | (go_at_call_of 109 (Value.int .i64 r1); refine (H1.out _ (by first | assumption | (repeat (first | exact Gr.refl _ | refine Gr.drew ?_)))).mono ?_; rintro e w' ⟨i, rfl, hi, hg⟩; obtain ⟨k0, k1, k2, k3, f0, f1, f2, f3⟩ := RR.out _ hg)
      | (go_at_call 109; refine (H2.out _ (by first | assumption | (repeat (first | exact Gr.refl _ | refine Gr.drew ?_)))).mono ?_; rintro e w'' ⟨j, rfl, hj, hg'⟩; obtain ⟨k0', k1', k2', k3', f0', f1', f2', f3'⟩ := RR.out _ hg'))
  all_goals
    have HP := (RR.out _ hg').put (.int .i64 (i : Int)) (.int .i64 (j : Int)) (.slice (some ⟨mb, l * W, none⟩) W ((257 - l) * W)) (.slice (some ⟨mb, c2 * W, none⟩) W ((257 - c2) * W))
    have HGR : Hid (Gr w ((((w''.setCell ⟨w.heap.size + 1, 0, none⟩ (.int .i64 (i : Int))).setCell ⟨w.heap.size + 1, 1, none⟩ (.int .i64 (j : Int))).setCell ⟨w.heap.size + 1, 2, none⟩ (.slice (some ⟨mb, l * W, none⟩) W ((257 - l) * W))).setCell ⟨w.heap.size + 1, 3, none⟩ (.slice (some ⟨mb, c2 * W, none⟩) W ((257 - c2) * W)))) := (HG0.out.trans hg').put4 (by omega) _ _ _ _
    obtain ⟨p0, p1, p2, p3, _, _, _, _⟩ := HP
    clear KS RR H1 H2 hg hg' k0 k1 k2 k3 f0 f1 f2 f3 k0' k1' k2' k3' f0' f1' f2' f3'
    go_wp2_with fail
    exact bodyPost_ret (v := pcV i j mb W l c2) (by simp [results, Tryz.results89, go_sem, p0, p1, p2, p3]) rfl ⟨i, j, rfl, hi, hj, HGR.out⟩
end Go.Proofs.YtdlieecpckpemaaGreatDoor
namespace Go.Proofs.YtdlieecpckpemaaGreatDoor
open Go.RowKit

/-- An area: its corners. -/
structure Ar where
  c1 : Int
  r1 : Int
  c2 : Int
  r2 : Int
def Ar.ok (a : Ar) : Prop := 1 ≤ a.c1 ∧ a.c1 ≤ a.c2 ∧ a.c2 ≤ 256 ∧ 1 ≤ a.r1 ∧ a.r1 ≤ a.r2 ∧ a.r2 ≤ 4096
def Ar.has (a : Ar) (x : Int × Int) : Bool := decide (a.c1 ≤ x.1) && decide (x.1 ≤ a.c2) && decide (a.r1 ≤ x.2) && decide (x.2 ≤ a.r2)
/-- The areas lie in block b from o on. -/
def AreasAt (w : World) (b o : Nat) (al : List Ar) : Prop := ∀ (i : Nat) (x : Ar), al[i]? = some x → w.cell? ⟨b, o + i * 4, none⟩ = some (.int .i64 x.c1) ∧ w.cell? ⟨b, o + i * 4 + 1, none⟩ = some (.int .i64 x.r1) ∧ w.cell? ⟨b, o + i * 4 + 2, none⟩ = some (.int .i64 x.c2) ∧ w.cell? ⟨b, o + i * 4 + 3, none⟩ = some (.int .i64 x.r2)
theorem AreasAt.kp {w w' : World} {b o : Nat} {al : List Ar} {S : Nat → Prop} (h : AreasAt w b o al) (g : Kp w w' S) (hb : ¬ S b) : AreasAt w' b o al := fun i x hx => by
  have h1 := h i x hx
  have e := g.block b (cell_lt h1.1) hb
  have ec : ∀ j, w'.cell? ⟨b, j, none⟩ = w.cell? ⟨b, j, none⟩ := fun j => by simp only [World.cell?]; rw [e]
  rw [ec, ec, ec, ec]; exact h1
/-- A slice of these areas, in a block of F. -/
def ArSl (w : World) (F : Nat → Prop) (v : Value) (al : List Ar) : Prop :=
  ∃ (a : Option Addr) (c : Nat), v = .slice a al.length c ∧ al.length ≤ c ∧ c ≤ maxLen ∧ (0 < al.length → ∃ b o, a = some ⟨b, o, none⟩ ∧ F b ∧ AreasAt w b o al)
theorem ArSl.kp {w w' : World} {F S : Nat → Prop} {v : Value} {al : List Ar} (h : ArSl w F v al) (g : Kp w w' S) (hd : ∀ b, F b → ¬ S b) : ArSl w' F v al := by
  obtain ⟨a, c, h1, h2, h3, h4⟩ := h
  exact ⟨a, c, h1, h2, h3, fun hl => by obtain ⟨b, o, e1, e2, e3⟩ := h4 hl; exact ⟨b, o, e1, e2, e3.kp g (hd b e2)⟩⟩
/-- Has the area place q's cell? -/
def inPl (L : List (Int × Int)) (a : Ar) (q : Nat) : Bool := match L[q]? with | some x => a.has x | none => false
theorem pc_area {L : List (Int × Int)} {a : Ar} {l c2 fr to : Nat} (hl : a.c1 = (l : Int) + 1) (hc : a.c2 = (c2 : Int)) (h1 : AheadIs L a.r1 fr) (h2 : AheadIs L (a.r2 + 1) to) (q : Nat) : pcSet fr to (colTo L l) (colTo L c2) q = inPl L a q := by
  unfold pcSet colTo inPl
  cases hq : L[q]? with
  | none => simp
  | some x =>
    simp only [Ar.has]
    rw [Bool.eq_iff_iff]
    simp only [Bool.and_eq_true, Bool.not_eq_true', decide_eq_true_eq, decide_eq_false_iff_not]
    have hlen : q < L.length := (List.getElem?_eq_some_iff.1 hq).1
    constructor
    · rintro ⟨⟨⟨e1, e2⟩, e3⟩, e4⟩
      have f1 := h1.2.2 q x hq (by omega)
      have f2 := h2.2.1 q x hq e3
      omega
    · rintro ⟨⟨⟨e1, e2⟩, e3⟩, e4⟩
      refine ⟨⟨⟨by omega, by omega⟩, ?_⟩, ?_⟩
      · rcases Nat.lt_or_ge q to with h | h
        · exact h
        · have := h2.2.2 q x hq h; omega
      · intro h
        have := h1.2.1 q x hq h; omega
/-- A piece's four values; C are its places. -/
def PcIs (L : List (Int × Int)) (mb : Nat) (v1 v2 v3 v4 : Value) (C : Nat → Bool) : Prop :=
  (v1 = .int .i64 0 ∧ v2 = .int .i64 0 ∧ v3 = .slice none 0 0 ∧ v4 = .slice none 0 0 ∧ C = fun _ => false) ∨
  ∃ fr to l r : Nat, v1 = .int .i64 (fr : Int) ∧ v2 = .int .i64 (to : Int) ∧ v3 = .slice (some ⟨mb, l * ((L.length + 63) / 64), none⟩) ((L.length + 63) / 64) ((257 - l) * ((L.length + 63) / 64)) ∧
    v4 = .slice (some ⟨mb, r * ((L.length + 63) / 64), none⟩) ((L.length + 63) / 64) ((257 - r) * ((L.length + 63) / 64)) ∧ l < 257 ∧ r < 257 ∧ fr ≤ to ∧ to ≤ L.length ∧ C = pcSet fr to (colTo L l) (colTo L r)
set_option maxHeartbeats 1000000 in
theorem last_zero (m : Value) (w : World) : Calls Tryz.prog 114 #[.agg #[.int .i64 0, .int .i64 0, .slice none 0 0, .slice none 0 0], m] w fun e w' => e = .returned (.int .i64 (-1)) ∧ Gr w w' := by
  have HG : Hid (∀ c t, Gr w (w.alloc (.cells c t))) := fun c t => (Gr.refl w).alloc c t
  go_enter Tryz.func114, Tryz.ntmps114
  go_wp2_with (go_at_call 94; refine (wordsOf_at _ (by omega) (by omega) _).mono ?_; rintro e wz ⟨rfl, hz⟩; replace hz := hz.symm; subst hz)
  refine wp_loop_rounds 1 ?_
  rw [rounds_succ]
  go_wp2_with fail
  go_ret
  exact ⟨rfl, HG.out _ _⟩
theorem row_marks {w : World} {B ub mb W : Nat} {cells : Value} {rows : Nat → Nat → Bool} (h : BoardM w B ub mb W cells rows) {c : Nat} (hc : c < 257) : MarksAt w mb (c * W) W (rows c) := fun _ hi => h.m.cell (memL_get hc hi)
/-- The last place of a piece that is not told yet. -/
theorem pc_last {w : World} {F : Nat → Prop} {B ub mb un : Nat} {L : List (Int × Int)} {v1 v2 v3 v4 : Value} {C M : Nat → Bool} (hb : BoardIn w F B ub mb L) (hp : PcIs L mb v1 v2 v3 v4 C) (hu : MarksAt w un 0 ((L.length + 63) / 64) M) (cu : Nat) :
    Calls Tryz.prog 114 #[.agg #[v1, v2, v3, v4], .slice (some ⟨un, 0, none⟩) ((L.length + 63) / 64) cu] w fun e w' => ∃ r : Int, e = .returned (.int .i64 r) ∧ LastIs (fun q => C q && M q) r ∧ Gr w w' := by
  obtain ⟨⟨a, cc, hbm, _⟩, hlen, _, _⟩ := hb
  rcases hp with ⟨rfl, rfl, rfl, rfl, rfl⟩ | ⟨fr, to, l, r, rfl, rfl, rfl, rfl, hl, hr, hft, htl, rfl⟩
  · refine (last_zero _ w).mono ?_
    rintro e w' ⟨rfl, hg⟩
    exact ⟨-1, rfl, .inl ⟨rfl, fun q => rfl⟩, hg⟩
  · exact last_at fr to mb _ _ mb _ _ un 0 cu _ (colTo L l) (colTo L r) M w hft (by omega) (by omega) (row_marks hbm hl) (row_marks hbm hr) hu
end Go.Proofs.YtdlieecpckpemaaGreatDoor
namespace Go.Proofs.YtdlieecpckpemaaGreatDoor
open Go.RowKit

/-- Pointers, as cells. -/
def vals (f : Nat → Value) (n : Nat) : List Value := (List.range n).map f
theorem vals_get {f : Nat → Value} {n i : Nat} (h : i < n) : (vals f n)[i]? = some (f i) := by
  unfold vals; rw [List.getElem?_map, List.getElem?_range h]; rfl
theorem vals_set (f : Nat → Value) (n i : Nat) (v : Value) : (vals f n).set i v = vals (fun j => if j = i then v else f j) n := by
  apply List.ext_getElem?
  intro j
  by_cases hj : j < n
  · rw [vals_get hj]
    by_cases e : i = j
    · subst e; rw [List.getElem?_set_self (by simp [vals]; exact hj), if_pos rfl]
    · rw [List.getElem?_set_ne e, vals_get hj, if_neg (Ne.symm e)]
  · rw [List.getElem?_eq_none (by simp [vals]; omega), List.getElem?_eq_none (by simp [vals]; omega)]
/-- The blocks of turns. -/
structure Tb where
  t : Nat
  B : Nat
  ub : Nat
  mb : Nat
  un : Nat
  qb : Nat
  sb : Nat
  wb : Nat
/-- What stands in memory and is not written by settle. -/
structure TStay (w : World) (F : Nat → Prop) (E : Tb) (L : List (Int × Int)) (M : Nat → Bool) : Prop where
  t : Blk w E.t [.pointer (some ⟨E.B, 0, none⟩), .slice (some ⟨E.un, 0, none⟩) ((L.length + 63) / 64) ((L.length + 63) / 64), .pointer (some ⟨E.qb, 0, none⟩), .slice (some ⟨E.wb, 0, none⟩) L.length L.length] 113
  board : BoardIn w F E.B E.ub E.mb L
  u : Blk w E.un (wds M ((L.length + 63) / 64)) 122
/-- The queue. -/
structure QIn (w : World) (E : Tb) (N : Nat) (s : Nat → Int) (z : Int) : Prop where
  qq : Blk w E.qb [.int .i64 z, .slice (some ⟨E.sb, 0, none⟩) (N + 1) (N + 1)] 115
  ss : Blk w E.sb (nums s (N + 1)) 3
  lo : ∀ j, -4294967296 ≤ s j
  hi : ∀ j, s j ≤ 4294967296
  zlo : -4294967296 ≤ z
  zhi : z ≤ 4294967296
/-- A wait in memory: its block, its place; C and al are what may still be to wait for; U all that it uses. -/
structure WtIn (w : World) (F : Nat → Prop) (L : List (Int × Int)) (mb b p : Nat) (nx : Value) (C : Nat → Bool) (al : List Ar) (U : Nat → Bool) : Prop where
  form : ∃ v1 v2 v3 v4 av, Blk w b [.int .i64 (p : Int), v1, v2, v3, v4, av, nx] 142 ∧ PcIs L mb v1 v2 v3 v4 C ∧ ArSl w F av al
  ok : ∀ a ∈ al, a.ok
  cu : ∀ q, C q = true → U q = true
  au : ∀ a ∈ al, ∀ q, inPl L a q = true → U q = true
/-- Blocks that settle writes. -/
def Wr (E : Tb) (b : Nat) : Nat → Prop := fun i => i = b ∨ i = E.qb ∨ i = E.sb ∨ i = E.wb
theorem TStay.kp {w w' : World} {F S : Nat → Prop} {E : Tb} {L : List (Int × Int)} {M : Nat → Bool} (h : TStay w F E L M) (g : Kp w w' S) (h1 : ¬ S E.t) (h2 : ¬ S E.B) (h3 : ¬ S E.ub) (h4 : ¬ S E.mb) (h5 : ¬ S E.un) (hF : ∀ b, F b → ¬ S b) : TStay w' F E L M :=
  ⟨h.t.kp g h1, h.board.kp g h2 h3 h4 hF, h.u.kp g h5⟩
theorem QIn.kp {w w' : World} {S : Nat → Prop} {E : Tb} {N : Nat} {s : Nat → Int} {z : Int} (h : QIn w E N s z) (g : Kp w w' S) (h1 : ¬ S E.qb) (h2 : ¬ S E.sb) : QIn w' E N s z := ⟨h.qq.kp g h1, h.ss.kp g h2, h.lo, h.hi, h.zlo, h.zhi⟩
theorem WtIn.kp {w w' : World} {F S : Nat → Prop} {L : List (Int × Int)} {mb b p : Nat} {nx : Value} {C : Nat → Bool} {al : List Ar} {U : Nat → Bool} (h : WtIn w F L mb b p nx C al U) (g : Kp w w' S) (h1 : ¬ S b) (hF : ∀ b, F b → ¬ S b) : WtIn w' F L mb b p nx C al U := by
  obtain ⟨⟨v1, v2, v3, v4, av, e1, e2, e3⟩, h2, h3, h4⟩ := h
  exact ⟨⟨v1, v2, v3, v4, av, e1.kp g h1, e2, e3.kp g hF⟩, h2, h3, h4⟩
/-- How many areas are left to look into. -/
def leftOf (w : World) (b : Nat) : Nat := match w.cell? ⟨b, 5, none⟩ with | some (.slice _ n _) => n | _ => 0
/-- All that is not told yet and is used is still looked at. -/
def Covers (L : List (Int × Int)) (M C : Nat → Bool) (al : List Ar) (U : Nat → Bool) : Prop := ∀ q, M q = true → U q = true → C q = true ∨ ∃ a ∈ al, inPl L a q = true
def SetR (F : Nat → Prop) (E : Tb) (L : List (Int × Int)) (M : Nat → Bool) (b p : Nat) (nx : Value) (U : Nat → Bool) (w wr : World) : Prop :=
  ∃ C al, WtIn wr F L E.mb b p nx C al U ∧ Covers L M C al U ∧ Kp w wr (fun i => i = b)
end Go.Proofs.YtdlieecpckpemaaGreatDoor
