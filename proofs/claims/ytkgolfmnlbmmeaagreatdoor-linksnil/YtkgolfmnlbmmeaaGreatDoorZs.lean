/- has; Order; made. -/
import Derived.Test.YtkgolfmnlbmmeaaGreatDoorZj
import Derived.Test.YtkgolfmnlbmmeaaGreatDoorZp
import Derived.Test.YtkgolfmnlbmmeaaGreatDoorZr
import Derived.Test.YtkgolfmnlbmmeaaGreatDoorZx
namespace Go.Proofs.YtkgolfmnlbmmeaaGreatDoor
open Go.RowKit Go.Sort Go.Lib Go.Maps

def HasR (w : World) (L : List (Int × Int)) (x : Int × Int) (s : Value) (wr : World) : Prop := ∃ k q : Nat, k ≤ L.length ∧ s = .int .i64 (k : Int) ∧ wr = w.drewN q ∧ ∀ i, i < k → L[i]? ≠ some x
set_option maxRecDepth 20000 in
set_option maxHeartbeats 2000000 in
theorem has_at (L : List (Int × Int)) (a : Option Addr) (cc : Nat) (x y : Int) (w : World) (hL : L.length ≤ 1048576) (ha : 0 < L.length → ∃ b o, a = some ⟨b, o, none⟩ ∧ CellsAt w b o L) :
    Calls Tryz.prog 19 #[.slice a L.length cc, .agg #[.int .i64 x, .int .i64 y]] w fun e w' => e = .returned (.bool (decide ((x, y) ∈ L))) ∧ Kp w w' Nul := by
  obtain ⟨W, hW⟩ : ∃ W, w.alloc (.cells #[.int .i64 x, .int .i64 y] 29) = W := ⟨_, rfl⟩
  have kW : Kp w W Nul := by rw [← hW]; exact (Kp.refl w Nul).alloc _
  have hbx : Blk W w.heap.size [.int .i64 x, .int .i64 y] 29 := by rw [← hW]; exact Blk.new w [.int .i64 x, .int .i64 y] _
  have HW : Hid (w.alloc (.cells #[.int .i64 x, .int .i64 y] 29) = W) := hW
  have HK : Hid (Kp w W Nul) := kW
  have HC : Hid (0 < L.length → ∃ b o, a = some ⟨b, o, none⟩ ∧ CellsAt W b o L) := fun h => by obtain ⟨b, o, e, hc⟩ := ha h; exact ⟨b, o, e, hc.kp kW (fun x => x)⟩
  have q0 : W.cell? ⟨w.heap.size, 0, none⟩ = some (.int .i64 x) := hbx.cell rfl
  have q1 : W.cell? ⟨w.heap.size, 1, none⟩ = some (.int .i64 y) := hbx.cell rfl
  obtain ⟨n, hn⟩ : ∃ n, L.length = n := ⟨_, rfl⟩
  have HN : Hid (L.length = n) := hn
  obtain ⟨R, hR⟩ : ∃ R, decide ((x, y) ∈ L) = R := ⟨_, rfl⟩
  have HR : Hid (decide ((x, y) ∈ L) = R) := hR
  rw [hR]
  rw [hn] at hL ⊢
  clear hW kW hbx ha hn hR
  go_enter Tryz.func19, Tryz.ntmps19
  go_wp2_with fail
  rw [HW.out]
  go_loopw [5] (fun s wr => HasR W L (x, y) s wr) (fun s _ => n - (intOf s).toNat)
  case atStart => exact ⟨0, 0, Nat.zero_le _, rfl, rfl, fun i hi => absurd hi (Nat.not_lt_zero _)⟩
  case round =>
    obtain ⟨k, q, hk, rfl, rfl, hno⟩ := hrel
    rw [HN.out] at hk
    have HNO : Hid (∀ i, i < k → L[i]? ≠ some (x, y)) := hno
    clear hno
    by_cases hlt : k < n
    · have h1 : (k : Int) < (n : Int) := by omega
      obtain ⟨b, o, rfl, hc⟩ := HC.out (by rw [HN.out]; omega)
      obtain ⟨⟨u, v⟩, hx⟩ : ∃ z, L[k]? = some z := ⟨_, List.getElem?_eq_getElem (by rw [HN.out]; exact hlt)⟩
      obtain ⟨c1, c2⟩ := hc k _ hx
      simp only at c1 c2
      have HX : Hid (L[k]? = some (u, v)) := hx
      clear hc hx
      by_cases he : u = x ∧ v = y
      · obtain ⟨rfl, rfl⟩ := he
        have hq := eql_addr u v u v true (by simp)
        have HT : Hid (R = true) := by
          show _ = _
          rw [← HR.out]
          simpa using List.mem_of_getElem? HX.out
        have hRt := HT.out
        subst hRt
        go_wp2_with fail
        go_quiet (fail)
        go_wp2_with fail
        go_ret
        exact ⟨rfl, (HK.out.drewN _).drewN _⟩
      · have hq := eql_addr u v x y false (by simpa using he)
        go_wp2_with fail
        go_quiet (fail)
        go_wp2_with fail
        go_roundw
        case rel =>
          refine ⟨k + 1, _, by rw [HN.out]; omega, by go_num, rfl, fun i hi => ?_⟩
          by_cases e : i = k
          · subst e
            rw [HX.out]
            intro h
            have h2 : u = x ∧ v = y := by simpa using h
            exact he h2
          · exact HNO.out i (by omega)
        case measure => simp only [intOf]; omega
    · have : k = n := by omega
      subst this
      have HF : Hid (R = false) := by
        show _ = _
        rw [← HR.out]
        simp only [decide_eq_false_iff_not]
        intro hm
        obtain ⟨i, hi, hx⟩ := List.mem_iff_getElem.1 hm
        exact HNO.out i (by rw [HN.out] at hi; exact hi) (by rw [List.getElem?_eq_getElem hi, hx])
      have hRf := HF.out
      subst hRf
      go_wp2_with fail
      go_ret
      exact ⟨rfl, HK.out.drewN _⟩
set_option maxHeartbeats 1000000 in
theorem order_at (l n : Nat) (us : Int × Int → Option (List Ar)) (A : List (Int × Int)) (a : Option Addr) (ca : Nat) (w : World) (hl : LinksIn w (under w) l us n) (hA : A.length ≤ 1048576) (ha : 0 < A.length → ∃ b o, a = some ⟨b, o, none⟩ ∧ CellsAt w b o A) :
    Calls Tryz.prog 24 #[.pointer (some ⟨l, 0, none⟩), .slice a A.length ca] w fun e w' => ∃ v er, e = .returned (.tuple #[v, .int .i64 er]) ∧ Kp w w' Nul ∧ ((A.any (fun x => !vC x.1 x.2) = true ∧ v = .slice none 0 0 ∧ er = 20) ∨ (A.any (fun x => !vC x.1 x.2) = false ∧ ReadyIs us A [] w.heap.size w' v er)) := by
  have H1 : Hid (Calls Tryz.prog 32 #[.pointer (some ⟨l, 0, none⟩), .slice a A.length ca, .slice none 0 0] w fun e w' => ∃ v er, e = .returned (.tuple #[v, .int .i64 er]) ∧ Kp w w' Nul ∧ ((A.any (fun x => !vC x.1 x.2) = true ∧ v = .slice none 0 0 ∧ er = 20) ∨ (A.any (fun x => !vC x.1 x.2) = false ∧ ReadyIs us A [] w.heap.size w' v er))) := ready_at l n us A a ca [] none 0 w hl hA ha (Nat.zero_le _) (fun h => absurd h (Nat.lt_irrefl _))
  generalize A.length = N at *
  clear hl hA ha
  go_enter Tryz.func24, Tryz.ntmps24
  go_wp2_with fail
  refine H1.out.mono ?_
  rintro e w' ⟨v, er, rfl, hk, h⟩
  have HE : Hid (Kp w w' Nul ∧ ((A.any (fun x => !vC x.1 x.2) = true ∧ v = .slice none 0 0 ∧ er = 20) ∨ (A.any (fun x => !vC x.1 x.2) = false ∧ ReadyIs us A [] w.heap.size w' v er))) := ⟨hk, h⟩
  clear hk h H1
  go_wp2_with fail
  go_ret2
  exact ⟨_, _, rfl, HE.out⟩
/-- A rule: its cell, its areas and the slice that has them. -/
structure Rl where
  x : Int × Int
  al : List Ar
  av : Option Addr
  cv : Nat
def RulesAt (w : World) (b o : Nat) (R : List Rl) : Prop := ∀ (i : Nat) (ρ : Rl), R[i]? = some ρ → (w.cell? ⟨b, o + i * 3, none⟩ = some (.int .i64 ρ.x.1) ∧ w.cell? ⟨b, o + i * 3 + 1, none⟩ = some (.int .i64 ρ.x.2) ∧ w.cell? ⟨b, o + i * 3 + 2, none⟩ = some (.slice ρ.av ρ.al.length ρ.cv)) ∧
  (I64 ρ.x.1 ∧ I64 ρ.x.2) ∧ ρ.al.length ≤ 9223372036854775807 ∧ (0 < ρ.al.length → ∃ b o, ρ.av = some ⟨b, o, none⟩ ∧ AreasAt w b o ρ.al)
theorem RulesAt.kp {w w' : World} {b o : Nat} {R : List Rl} (h : RulesAt w b o R) (g : Kp w w' Nul) : RulesAt w' b o R := fun i ρ hρ => by
  obtain ⟨⟨h1, h2, h3⟩, h4, h5, h6⟩ := h i ρ hρ
  have e := g.block b (cell_lt h1) (fun x => x)
  have ec : ∀ j, w'.cell? ⟨b, j, none⟩ = w.cell? ⟨b, j, none⟩ := fun j => by simp only [World.cell?]; rw [e]
  refine ⟨⟨by rw [ec]; exact h1, by rw [ec]; exact h2, by rw [ec]; exact h3⟩, h4, h5, fun h0 => ?_⟩
  obtain ⟨b', o', e1, e2⟩ := h6 h0
  exact ⟨b', o', e1, e2.kp g (fun x => x)⟩
def MadeR (w : World) (l : Nat) (s : Value) (wr : World) : Prop := ∃ (k n : Nat) (us : Int × Int → Option (List Ar)), s = .int .i64 (k : Int) ∧ k ≤ 300 ∧ n ≤ k ∧ LinksIn wr (Fr w.heap.size) l us n ∧ Kp w wr Nul
set_option maxRecDepth 20000 in
set_option maxHeartbeats 4000000 in
theorem made_at (R : List Rl) (a : Option Addr) (cc : Nat) (w : World) (hR : R.length ≤ 9223372036854775807) (ha : 0 < R.length → ∃ b o, a = some ⟨b, o, none⟩ ∧ RulesAt w b o R) :
    Calls Tryz.prog 17 #[.slice a R.length cc] w fun e w' => ∃ l us n, e = .returned (.pointer (some ⟨l, 0, none⟩)) ∧ n ≤ 300 ∧ LinksIn w' (Fr w.heap.size) l us n ∧ Kp w w' Nul := by
  have HNew : Hid (Calls Tryz.prog 8 #[] w fun e w' => e = .returned (.pointer (some ⟨w.heap.size, 0, none⟩)) ∧ LinksIn w' (Fr w.heap.size) w.heap.size (fun _ => none) 0 ∧ Kp w w' Nul) := (newL_at w).mono fun e w' ⟨h1, h2⟩ => ⟨h1, by rw [h2]; exact links_new w _ (Nat.le_refl _), by rw [h2]; exact (Kp.refl w Nul).alloc _⟩
  have HA : Hid (0 < R.length → ∃ b o, a = some ⟨b, o, none⟩ ∧ RulesAt w b o R) := ha
  obtain ⟨N, hN⟩ : ∃ N, R.length = N := ⟨_, rfl⟩
  have HN : Hid (R.length = N) := hN
  rw [hN] at hR ⊢
  clear ha hN
  go_enter Tryz.func17, Tryz.ntmps17
  go_wp2_with fail
  refine HNew.out.mono ?_
  rintro e w1 ⟨rfl, hl1, hk1⟩
  have HS : Hid (MadeR w w.heap.size (.int .i64 0) w1) := ⟨0, 0, fun _ => none, rfl, Nat.zero_le _, Nat.le_refl _, hl1, hk1⟩
  clear hl1 hk1 HNew
  go_wp2_with fail
  go_loopw [4] (fun s wr => MadeR w w.heap.size s wr) (fun s _ => 300 - (intOf s).toNat)
  case atStart => exact HS.out
  case round =>
    clear HS
    obtain ⟨k, n, us, rfl, hk, hnk, hl, hkp⟩ := hrel
    have HL : Hid (LinksIn wr (Fr w.heap.size) w.heap.size us n) := hl
    have HK : Hid (Kp w wr Nul) := hkp
    clear hl hkp
    by_cases hlt : k < N
    · by_cases h300 : k < 300
      · obtain ⟨b, o, rfl, hr⟩ := HA.out (by rw [HN.out]; omega)
        obtain ⟨⟨⟨x, y⟩, al, av, cv⟩, hρ⟩ : ∃ ρ, R[k]? = some ρ := ⟨_, List.getElem?_eq_getElem (by rw [HN.out]; exact hlt)⟩
        obtain ⟨⟨c1, c2, c3⟩, ⟨i1, i2⟩, hal, hav⟩ := (hr.kp HK.out) k _ hρ
        simp only at c1 c2 c3 i1 i2 hal hav
        have hblt : b < w.heap.size := cell_lt ((hr k _ hρ).1.1)
        have HSet : Hid (∀ wq, Kp wr wq Nul → Calls Tryz.prog 27 #[.pointer (some ⟨w.heap.size, 0, none⟩), .agg #[.int .i64 x, .int .i64 y], .slice av al.length cv] wq fun e w' => ∃ er, e = .returned (.int .i64 er) ∧ MadeR w w.heap.size (.int .i64 ((k + 1 : Nat) : Int)) w') := fun wq kq => by
          have hmx : (300 : Nat) < maxLen := by decide
          refine (set_at w.heap.size w.heap.size n us x y al av cv wq (HL.out.kp kq (fun _ _ x => x)) i1 i2 hal (fun h0 => by obtain ⟨b', o', e1, e2⟩ := hav h0; exact ⟨b', o', e1, e2.kp kq (fun x => x)⟩) (by omega) (Nat.le_trans HK.out.size kq.size)).mono ?_
          rintro e w' ⟨er, us', n', rfl, hset, hl', hk', _⟩
          refine ⟨er, rfl, k + 1, n', us', rfl, by omega, ?_, hl', (HK.out.trans kq).trans' hk' (fun i hi e => absurd hi (Nat.not_lt.2 e))⟩
          rcases hset with ⟨_, e2, _⟩ | ⟨_, _, _, _, _, al', _, _, e2⟩
          · omega
          · rw [e2]; unfold cntU; split <;> omega
        have KS : Hid (∀ w', Kp w w' Nul → (w'.cell? ⟨b, o + k * 3, none⟩ = some (.int .i64 x) ∧ w'.cell? ⟨b, o + k * 3 + 1, none⟩ = some (.int .i64 y) ∧ w'.cell? ⟨b, o + k * 3 + 2, none⟩ = some (.slice av al.length cv))) := fun w' g => by
          have := ((hr.kp g) k _ hρ).1
          simp only at this
          exact this
        have HMK : Hid (∀ s w', MadeR w w.heap.size s w' → Kp w w' Nul) := fun s w' ⟨_, _, _, _, _, _, _, h⟩ => h
        have j1 : (k : Int) < (N : Int) := by omega
        have j2 : (k : Int) < 300 := by omega
        generalize al.length = nl at *
        clear hr hρ i1 i2 hal hav hblt
        go_wp2_with fail
        go_region_held3 (fun w' => w'.cell? ⟨b, o + k * 3, none⟩ = some (.int .i64 x) ∧ w'.cell? ⟨b, o + k * 3 + 1, none⟩ = some (.int .i64 y) ∧ w'.cell? ⟨b, o + k * 3 + 2, none⟩ = some (.slice av nl cv))
          (first | (exact KS.out _ (HMK.out _ _ hm2)) | (exact KS.out _ (HK.out.drew)) | (exact KS.out _ HK.out))
          ((go_at_call 27; refine (HSet.out _ ((Kp.refl _ _).drew)).mono ?_; rintro e w2 ⟨er, rfl, hm2⟩))
        all_goals
          have HM2 : Hid (MadeR w w.heap.size (.int .i64 ((k + 1 : Nat) : Int)) w2) := hm2
          clear hm2
          go_wp2_with fail
          go_roundw
          case rel => exact HM2.out
          case measure => simp only [intOf]; omega
      · have j1 : (k : Int) < (N : Int) := by omega
        have j2 : ¬ (k : Int) < 300 := by omega
        go_wp2_with fail
        go_ret
        exact ⟨_, rfl, us, n, by omega, HL.out, HK.out⟩
    · have j1 : ¬ (k : Int) < (N : Int) := by omega
      go_wp2_with fail
      go_ret
      exact ⟨_, rfl, us, n, by omega, HL.out, HK.out⟩
end Go.Proofs.YtkgolfmnlbmmeaaGreatDoor
