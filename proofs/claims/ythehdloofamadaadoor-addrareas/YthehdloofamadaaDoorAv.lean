/- The document's letters, digits. -/
import Derived.Test.YthehdloofamadaaDoorAx
import Derived.Deep.RegionWith
import Derived.Laws.BytesString
import Derived.Laws.Concat
namespace Go.Proofs.YthehdloofamadaaDoor
open Go.RowKit

def lets : Nat → Nat → List UInt8
  | 0, _ => []
  | k + 1, n => if n = 0 then [] else lets k ((n - 1) / 26) ++ [UInt8.ofNat (65 + (n - 1) % 26)]
theorem lets_len (k n : Nat) : (lets k n).length ≤ k := by
  induction k generalizing n with
  | zero => exact Nat.le_refl _
  | succ k ih =>
    unfold lets
    split
    · exact Nat.zero_le _
    · rw [List.length_append]; exact Nat.succ_le_succ (ih _)

@[go_sem] theorem conv_one (w : World) (b : Nat) (x : Int) (h : w.cell? ⟨b, 0, none⟩ = some (.int .u8 x)) :
    (convert 75 9 (.slice (some ⟨b, 0, none⟩) 1 1)).run Tryd.prog w = .ok (.string ⟨[UInt8.ofNat x.toNat].toArray⟩) w := by
  rw [run_convert_bytes_string w 75 9 5 _ _ _ (by rfl) (by rfl) (by rfl), run_bytesToString w _ 1 1 [x]]
  · rfl
  · simp [go_sem, h]

def digs : Nat → Nat → List UInt8
  | 0, _ => []
  | k + 1, n => if n = 0 then [] else digs k (n / 10) ++ [UInt8.ofNat (48 + n % 10)]
theorem digs_len (k n : Nat) : (digs k n).length ≤ k := by
  induction k generalizing n with
  | zero => exact Nat.le_refl _
  | succ k ih =>
    unfold digs
    split
    · exact Nat.zero_le _
    · rw [List.length_append]; exact Nat.succ_le_succ (ih _)

set_option maxHeartbeats 1000000 in
theorem rletters_any (k : Nat) : ∀ (n : Int) (w : World), k ≤ 60 → 0 ≤ n → n ≤ 100000 → n.toNat < 2 ^ k →
    Calls Tryd.prog 44 #[.int .i64 n] w fun e w' => e = .returned (.string ⟨(lets k n.toNat).toArray⟩) ∧ Gr w w' := by
  induction k with
  | zero =>
    intro n w _ hn0 _ hn
    have h0 : n = 0 := by omega
    subst h0
    go_enter Tryd.func44, Tryd.ntmps44
    go_wp2_with fail
    go_ret
    exact ⟨rfl, Gr.refl w⟩
  | succ k ih =>
    intro n w hk hn0 hb hn
    by_cases h0 : n = 0
    · subst h0
      go_enter Tryd.func44, Tryd.ntmps44
      go_wp2_with fail
      go_ret
      exact ⟨rfl, Gr.refl w⟩
    · have e1 : ((n - 1) / 26).toNat = (n.toNat - 1) / 26 := by omega
      have e2 : lets (k + 1) n.toNat = lets k ((n.toNat - 1) / 26) ++ [UInt8.ofNat (65 + (n - 1) % 26).toNat] := by
        rw [lets, if_neg (by omega), show (65 + (n - 1) % 26).toNat = 65 + (n.toNat - 1) % 26 by omega]
      have H1 : Hid (∀ w, Calls Tryd.prog 44 #[.int .i64 ((n - 1) / 26)] w fun e w' => e = .returned (.string ⟨(lets k ((n.toNat - 1) / 26)).toArray⟩) ∧ Gr w w') := fun w => by
        have := ih ((n - 1) / 26) w (by omega) (by omega) (by omega) (by rw [Nat.pow_succ] at hn; omega)
        rwa [e1] at this
      have hl := lets_len k ((n.toNat - 1) / 26)
      rw [e2]
      have q1 : Hid (IntKind.i64.wrap ((IntKind.i64.wrap (n - 1)).tdiv 26) = (n - 1) / 26) := by
        show _ = _
        rw [IntKind.wrap_i64, IntKind.wrap_i64, tdiv_eq_if]; split <;> omega
      have q2 : IntKind.u8.wrap (IntKind.i64.wrap (65 + (IntKind.i64.wrap (n - 1)).tmod 26)) = 65 + (n - 1) % 26 := by
        have : (IntKind.i64.wrap (n - 1)) = n - 1 := by rw [IntKind.wrap_i64]; omega
        rw [this, Int.tmod_eq_emod_of_nonneg (by omega), IntKind.wrap_i64, IntKind.wrap_u8]; omega
      clear e1 e2 ih hn
      generalize lets k ((n.toNat - 1) / 26) = L at *
      generalize (n - 1) / 26 = Q at *
      generalize hm : 65 + (n - 1) % 26 = m at *
      have hadd : ∀ w, (Op.stringOp .add ⟨L.toArray⟩ ⟨[UInt8.ofNat m.toNat].toArray⟩).run Tryd.prog w = .ok (.string ⟨(L ++ [UInt8.ofNat m.toNat]).toArray⟩) w := fun w => run_string_add_lists w _ _ (by omega) (by show (1 : Int) ≤ 8388608; decide)
      have h1 : 1 ≤ n := by omega
      clear h0 hn0 hl hm
      go_enter Tryd.func44, Tryd.ntmps44
      go_wp2_with fail
      go_region_with (go_at_call 44; rw [q1.out]; refine (H1.out _).mono ?_; rintro e w1 ⟨rfl, hg⟩; have hcell := hg.ext.cell; have G1 : Hid (Gr w w1) := Gr.trans (by repeat (first | exact Gr.refl _ | refine Gr.alloc ?_ _ _ | refine Gr.drew ?_ | refine Gr.drewN ?_ _)) hg; clear hg)
      all_goals
        go_wp2_with fail
        go_ret
        refine ⟨rfl, ?_⟩
        repeat (first | exact G1.out | refine Gr.alloc ?_ _ _ | refine Gr.drew ?_ | refine Gr.drewN ?_ _)

set_option maxHeartbeats 1000000 in
theorem rdigits_any (k : Nat) : ∀ (n : Int) (w : World), k ≤ 60 → 0 ≤ n → n ≤ 100000 → n.toNat < 2 ^ k →
    Calls Tryd.prog 45 #[.int .i64 n] w fun e w' => e = .returned (.string ⟨(digs k n.toNat).toArray⟩) ∧ Gr w w' := by
  induction k with
  | zero =>
    intro n w _ hn0 _ hn
    have h0 : n = 0 := by omega
    subst h0
    go_enter Tryd.func45, Tryd.ntmps45
    go_wp2_with fail
    go_ret
    exact ⟨rfl, Gr.refl w⟩
  | succ k ih =>
    intro n w hk hn0 hb hn
    by_cases h0 : n = 0
    · subst h0
      go_enter Tryd.func45, Tryd.ntmps45
      go_wp2_with fail
      go_ret
      exact ⟨rfl, Gr.refl w⟩
    · have e1 : (n / 10).toNat = n.toNat / 10 := by omega
      have e2 : digs (k + 1) n.toNat = digs k (n.toNat / 10) ++ [UInt8.ofNat (48 + n % 10).toNat] := by
        rw [digs, if_neg (by omega), show (48 + n % 10).toNat = 48 + n.toNat % 10 by omega]
      have H1 : Hid (∀ w, Calls Tryd.prog 45 #[.int .i64 (n / 10)] w fun e w' => e = .returned (.string ⟨(digs k (n.toNat / 10)).toArray⟩) ∧ Gr w w') := fun w => by
        have := ih (n / 10) w (by omega) (by omega) (by omega) (by rw [Nat.pow_succ] at hn; omega)
        rwa [e1] at this
      have hl := digs_len k (n.toNat / 10)
      rw [e2]
      have q1 : Hid (IntKind.i64.wrap (n.tdiv 10) = n / 10) := by
        show _ = _
        rw [IntKind.wrap_i64, tdiv_eq_if]; split <;> omega
      have q2 : IntKind.u8.wrap (IntKind.i64.wrap (48 + n.tmod 10)) = 48 + n % 10 := by
        rw [Int.tmod_eq_emod_of_nonneg (by omega), IntKind.wrap_i64, IntKind.wrap_u8]; omega
      clear e1 e2 ih hn
      generalize digs k (n.toNat / 10) = L at *
      generalize n / 10 = Q at *
      generalize hm : 48 + n % 10 = m at *
      have hadd : ∀ w, (Op.stringOp .add ⟨L.toArray⟩ ⟨[UInt8.ofNat m.toNat].toArray⟩).run Tryd.prog w = .ok (.string ⟨(L ++ [UInt8.ofNat m.toNat]).toArray⟩) w := fun w => run_string_add_lists w _ _ (by omega) (by show (1 : Int) ≤ 8388608; decide)
      have h1 : 1 ≤ n := by omega
      clear h0 hn0 hl hm
      go_enter Tryd.func45, Tryd.ntmps45
      go_wp2_with fail
      go_region_with (go_at_call 45; rw [q1.out]; refine (H1.out _).mono ?_; rintro e w1 ⟨rfl, hg⟩; have hcell := hg.ext.cell; have G1 : Hid (Gr w w1) := Gr.trans (by repeat (first | exact Gr.refl _ | refine Gr.alloc ?_ _ _ | refine Gr.drew ?_ | refine Gr.drewN ?_ _)) hg; clear hg)
      all_goals
        go_wp2_with fail
        go_ret
        refine ⟨rfl, ?_⟩
        repeat (first | exact G1.out | refine Gr.alloc ?_ _ _ | refine Gr.drew ?_ | refine Gr.drewN ?_ _)
end Go.Proofs.YthehdloofamadaaDoor
