/- What goes over marks (all's own function) tells their places, rising. marks: all, has. -/
import Derived.Test.YtdlieecpckpemaaGreatDoorLcTl
import Derived.Test.YtdlieecpckpemaaGreatDoorLcTm
import Derived.Test.YtdlieecpckpemaaGreatDoorLcYe
import Derived.Test.YtdlieecpckpemaaGreatDoorRows
import Derived.WalkKit
import Derived.WalkSpells
import Derived.WalkLawsBesides
import Derived.Lib.BitFns
import Derived.Lib.TrailingZeros
import Derived.Laws.Bits64b
namespace Go.Proofs.YtdlieecpckpemaaGreatDoor
open Go.RowKit Go.Shelf

/-- The table of math/bits in its variable. -/
def Tab (w : World) : Prop := ∀ j, j < 64 → w.cell? ⟨0, j, none⟩ = some (.int .u8 (Lib.deBruijn64tab.getD j 0 : Nat))
theorem Tab.kp {w w' : World} {S : Nat → Prop} (h : Tab w) (g : Kp w w' S) (hS : ¬ S 0) : Tab w' := fun j hj => by
  have h1 := h j hj
  have e := g.block _ (cell_lt h1) hS
  simp only [World.cell?] at h1 ⊢
  rw [e]; exact h1
theorem tz_key (x a : Nat) (hx : x < 18446744073709551616) (hlow : x &&& (18446744073709551616 - x) = a) (hx0 : x ≠ 0) :
    IntKind.u64.wrap (bits BinOp.and IntKind.u64 (x : Int) (IntKind.u64.wrap (-(x : Int))) * 285870213051353865) / 288230376151711744 = ((a * 285870213051353865 % 18446744073709551616 / 288230376151711744 : Nat) : Int) := by
  have e1 : IntKind.u64.wrap (-(x : Int)) = ((18446744073709551616 - x : Nat) : Int) := by rw [IntKind.wrap_u64]; omega
  rw [e1, u64_and_nat x _ hx (by omega), hlow, IntKind.wrap_u64]
  omega
set_option maxHeartbeats 1000000 in
theorem tz_core (x : Int) (k idx : Nat) (w : World) (hx0 : (x == 0) = false)
    (key : Hid (IntKind.u64.wrap (bits BinOp.and IntKind.u64 x (IntKind.u64.wrap (-x)) * 285870213051353865) / 288230376151711744 = (idx : Int)))
    (hi : idx < 64) (hk : k < 64) (hcell : w.cell? ⟨0, idx, none⟩ = some (.int .u8 k)) :
    Calls Tryz.prog 96 #[.int .u64 x] w fun e w' => e = .returned (.int .i64 k) ∧ w' = w := by
  go_enter Tryz.func96, Tryz.ntmps96
  go_wp2_with (simp only [key.out])
  go_ret
  exact ⟨rfl, rfl⟩
theorem tz_any (n : Nat) (hn0 : n ≠ 0) (hn : n < 18446744073709551616) (w : World) (hT : Tab w) :
    Calls Tryz.prog 96 #[.int .u64 (n : Int)] w fun e w' => e = .returned (.int .i64 (Lib.ctzFrom 64 n : Nat)) ∧ w' = w := by
  obtain ⟨hlow, hk⟩ := Lib.lowest_bit 64 n hn0 hn
  obtain ⟨hi, htab⟩ := Lib.deBruijn64_at _ hk
  have hcell := hT _ hi
  rw [htab] at hcell
  have e : Lib.ctz 64 n = Lib.ctzFrom 64 n := by unfold Lib.ctz; rw [if_neg hn0]
  rw [← e]
  exact tz_core n _ _ w (by simp; omega) (tz_key n _ hn hlow hn0) hi hk hcell
/-- What stands while marks are gone over. -/
structure AllM (mb : Nat) (a : Option Addr) (b o n c : Nat) (M : Nat → Bool) (W : World) : Prop where
  box : W.cell? ⟨mb, 0, none⟩ = some (.slice a n c)
  at' : 0 < n → a = some ⟨b, o, none⟩ ∧ MarksAt W b o n M
  tab : Tab W
abbrev encP (M : Nat → Bool) (n : Nat) (k : Nat) : Array Value := #[.int .i64 (((pl M (64 * n)).getD k 0 : Nat) : Int)]
theorem encP_at {M : Nat → Bool} {n q : Nat} (hM : M q = true) (hq : q < 64 * n) : encP M n (pl M q).length = #[.int .i64 (q : Int)] := by
  unfold encP
  rw [List.getD_eq_getElem?_getD, pl_at hM hq]
  rfl
theorem and_pred (x : Nat) (h0 : x ≠ 0) (hx : x < 18446744073709551616) : bits .and .u64 (x : Int) (IntKind.u64.wrap ((x : Int) - 1)) = ((x &&& (x - 1) : Nat) : Int) := by
  have e : IntKind.u64.wrap ((x : Int) - 1) = ((x - 1 : Nat) : Int) := by rw [IntKind.wrap_u64]; omega
  rw [e, u64_and_nat x _ hx (by omega)]
theorem res_none {fn : Func} (h : fn.results = #[]) (tmps : Array Value) (w : World) : (results fn tmps).run Tryz.prog w = .ok (.tuple #[]) w := by
  simp [results, h]
set_option maxRecDepth 100000 in
set_option maxHeartbeats 8000000 in
theorem all1_seq (M : Nat → Bool) (mb : Nat) (a : Option Addr) (b o n c : Nat) (hn : n ≤ 67108864) (w : World) :
    SeqAll Tryz.prog 95 #[.pointer (some ⟨mb, 0, none⟩)] (encP M n) (pl M (64 * n)).length (AllM mb a b o n c M) w := by
  intro J Jx W hkw hsz hM hJ hJx hY h0
  have HM : Hid (∀ k W, J k W → AllM mb a b o n c M W) := hM
  have HJ : Hid (∀ k W W', J k W → Kp W W' Nul → J k W') := hJ
  have HY : Hid (∀ q W1, M q = true → q < 64 * n → J (pl M q).length W1 → YieldAt Fence.wide 7 Tryz.prog (w.heap.size + 1) #[.int .i64 (q : Int)] W1 fun e W' => (e = .returned (.bool true) ∧ J ((pl M q).length + 1) W') ∨ (e = .returned (.bool false) ∧ Jx W')) := fun q W1 h1 h2 h3 => by
    rw [← encP_at h1 h2]
    exact hY 7 _ W1 (pl_lt h1 h2) h3
  have H0 : Hid (J (pl M (64 * 0)).length W) := h0
  have hbox := (hM _ _ h0).box
  clear hkw hsz hM hJ hJx hY h0
  simp only [List.append_toArray, List.cons_append, List.nil_append]
  refine (callsIn_wide (n := 8)).1 ?_
  refine callsIn_of_wp Tryz.func95 rfl trivial ?_ rfl
  simp only [Tryz.ntmps95, List.size_toArray, List.length_cons, List.length_nil, Nat.reduceAdd, Nat.reduceSub, Array.replicate_succ, Array.replicate_zero, List.push_toArray, List.append_toArray, List.nil_append, List.cons_append]
  gi_wp2_with (fail)
  gi_loopw [3, 4, 7] (fun _ _ i wr => ∃ p : Nat, p ≤ n ∧ i = .int .i64 (p : Int) ∧ J (pl M (64 * p)).length wr) (fun _ _ i _ => n - (intOf i).toNat)
  case atStart => exact ⟨0, Nat.zero_le _, rfl, H0.out⟩
  case round =>
    obtain ⟨i, hi, rfl, hJi⟩ := hrel
    have HJI : Hid (J (pl M (64 * i)).length wr) := hJi
    clear hJi
    have hi0 : (0 : Int) ≤ (i : Int) := by omega
    by_cases hlt : i < n
    · have hlt' : (i : Int) < (n : Int) := by omega
      have ha := (HM.out _ _ HJI.out).at' (by omega)
      obtain ⟨rfl, hat⟩ := ha
      have hx : wr.cell? ⟨b, o + i, none⟩ = some (.int .u64 ((Wd.wd (fromP M (64 * i)) i : Nat) : Int)) := by rw [← wd_from]; exact hat i hlt
      clear hat
      gi_wp2_with (fail)
      clear hx
      gi_loopw [4] (fun x wq => ∃ p : Nat, 64 * i ≤ p ∧ p ≤ 64 * (i + 1) ∧ x = .int .u64 ((Wd.wd (fromP M p) i : Nat) : Int) ∧ J (pl M p).length wq) (fun x _ => (intOf x).toNat)
      case atStart => exact ⟨64 * i, Nat.le_refl _, by omega, rfl, HJI.out⟩
      case round =>
        clear HJI
        obtain ⟨p, hp1, hp2, rfl, hJp⟩ := hrel
        have HJP : Hid (J (pl M p).length wr) := hJp
        clear hJp
        by_cases hz : Wd.wd (fromP M p) i = 0
        · have HJE : Hid (J (pl M (64 * (i + 1))).length wr) := by
            show J _ _
            rw [pl_gap hp2 (fun q h1 h2 => wd_out hp1 hz q h1 h2)]
            exact HJP.out
          have hx0 : (((Wd.wd (fromP M p) i : Nat) : Int) = 0) := by omega
          gi_wp2_with (fail)
          go_roundw
          case rel => exact ⟨i + 1, by omega, by go_num, HJE.out⟩
          case measure => simp only [intOf]; omega
        · obtain ⟨k, hk, hk64, hMk, hpk, hgap, hnext⟩ := wd_low hp1 hz
          have hlt2 := Wd.wd_lt (fromP M p) i
          have hz' : ¬ (((Wd.wd (fromP M p) i : Nat) : Int) = 0) := by omega
          have HTZ : Hid (∀ W, Kp wr W Nul → Calls Tryz.prog 96 #[.int .u64 ((Wd.wd (fromP M p) i : Nat) : Int)] W fun e w' => e = .returned (.int .i64 (k : Int)) ∧ w' = W) := fun W hW => by
            rw [hk]
            exact tz_any _ hz hlt2 W ((HM.out _ _ HJP.out).tab.kp hW (fun x => x))
          have HY2 := HY.out (64 * i + k) wr hMk (by omega) (by rw [pl_gap hpk hgap]; exact HJP.out)
          have HN : Hid (bits .and .u64 ((Wd.wd (fromP M p) i : Nat) : Int) (IntKind.u64.wrap (((Wd.wd (fromP M p) i : Nat) : Int) - 1)) = ((Wd.wd (fromP M (64 * i + k + 1)) i : Nat) : Int)) := by
            show _ = _
            rw [and_pred _ hz hlt2, hnext]
          have HLE : Hid (Wd.wd (fromP M (64 * i + k + 1)) i < Wd.wd (fromP M p) i) := by
            show _ < _
            rw [← hnext]
            exact Nat.lt_of_le_of_lt Nat.and_le_right (by omega)
          have HPL : Hid ((pl M (64 * i + k)).length + 1 = (pl M (64 * i + k + 1)).length) := by show _ = _; rw [pl_succ, if_pos hMk, List.length_append]; rfl
          obtain ⟨fn, tms, asg, bod, hy, hR⟩ := HY2
          have e64 : (((64 * i + k : Nat)) : Int) = (i : Int) * 64 + (k : Int) := by omega
          rw [e64] at hy
          clear hnext hgap hMk hlt2 HJP HY hk
          gi_wp2_with (fail)
          refine ⟨trivial, (callsIn_wide.2 (HTZ.out _ (Kp.refl _ _))).mono ?_⟩
          rintro e w2 ⟨rfl, rfl⟩
          gi_wp2_with (fail)
          refine hR.mono ?_
          rintro e w3 (⟨rfl, hj3⟩ | ⟨rfl, hj3⟩)
          · have HJ3 : Hid (J (pl M (64 * i + k + 1)).length w3) := by show J _ _; rw [← HPL.out]; exact hj3
            clear hj3 hR hy
            gi_wp2_with (fail)
            rw [HN.out]
            refine ⟨⟨64 * i + k + 1, by omega, by omega, rfl, HJ3.out⟩, ?_⟩
            have h1 := HLE.out
            simp only [intOf]
            omega
          · have HJ3 : Hid (Jx w3) := hj3
            clear hj3 hR hy
            gi_wp2_with (fail)
            refine bodyPost_ret (res_none rfl _ _) rfl ?_
            exact ⟨⟨_, rfl⟩, .inr HJ3.out⟩
    · have hie : i = n := by omega
      subst hie
      have hii : ¬ (i : Int) < (i : Int) := by omega
      gi_wp2_with (fail)
      go_end0
      exact ⟨⟨_, rfl⟩, .inl HJI.out⟩
end Go.Proofs.YtdlieecpckpemaaGreatDoor
namespace Go.Proofs.YtdlieecpckpemaaGreatDoor
open Go.RowKit

set_option maxHeartbeats 1000000 in
theorem all_at (a : Option Addr) (n c : Nat) (w : World) : Calls Tryz.prog 58 #[.slice a n c] w fun e w' => e = .returned (.func (.func 95) #[] #[.pointer (some ⟨w.heap.size, 0, none⟩)]) ∧ w' = w.alloc (.cells #[.slice a n c] 84) := by
  go_enter Tryz.func58, Tryz.ntmps58
  go_wp2_with fail
  go_ret
  exact ⟨rfl, rfl⟩
theorem and_one (x : Nat) (hx : x < 18446744073709551616) : bits .and .u64 (x : Int) 1 = ((x % 2 : Nat) : Int) := by
  have := u64_and_nat x 1 hx (by omega)
  rw [show ((1 : Nat) : Int) = 1 from rfl] at this
  rw [this, Nat.and_one_is_mod]
set_option maxHeartbeats 1000000 in
theorem mhas_at (b o n c p : Nat) (M : Nat → Bool) (w : World) (hn : p / 64 < n) (hp : p < 4294967296) (h : MarksAt w b o n M) :
    Calls Tryz.prog 56 #[.slice (some ⟨b, o, none⟩) n c, .int .i64 (p : Int)] w fun e w' => e = .returned (.bool (M p)) ∧ w' = w := by
  have h1 := h _ hn
  have hd := Wd.wd_has M p
  have hlt := Wd.wd_lt M (p / 64)
  obtain ⟨x, hx⟩ : ∃ x, Wd.wd M (p / 64) = x := ⟨_, rfl⟩
  rw [hx] at h1 hd hlt
  have e1 : ((p : Int) / 64) = ((p / 64 : Nat) : Int) := by omega
  have e2 : ((p : Int) % 64) = ((p % 64 : Nat) : Int) := by omega
  obtain ⟨q, hq⟩ : ∃ q, p / 64 = q := ⟨_, rfl⟩
  obtain ⟨s, hs⟩ : ∃ s, p % 64 = s := ⟨_, rfl⟩
  have hs64 : s < 64 := by omega
  rw [hq] at e1 h1 hn
  rw [hs] at e2 hd
  have HA : Hid ((bits .and .u64 ((x : Int) / 2 ^ s) 1 == 1) = M p) := by
    show _ = _
    rw [show ((x : Int) / 2 ^ s) = ((x / 2 ^ s : Nat) : Int) by push_cast; rfl, and_one _ (Nat.lt_of_le_of_lt (Nat.div_le_self _ _) hlt), hd]
    cases M p <;> rfl
  go_enter Tryz.func56, Tryz.ntmps56
  go_wp2_with fail
  rw [HA.out]
  go_ret
  exact ⟨rfl, rfl⟩
end Go.Proofs.YtdlieecpckpemaaGreatDoor
