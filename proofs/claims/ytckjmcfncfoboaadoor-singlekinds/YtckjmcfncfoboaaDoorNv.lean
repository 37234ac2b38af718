/- Of lays its digits anew; a number's digits stand where another variable is written. -/
import Derived.Test.YtckjmcfncfoboaaDoorNf
namespace Go.Proofs.YtckjmcfncfoboaaDoor
open Go.RowKit

theorem NatAt.put {w : World} {a : Option Addr} {n c N : Nat} (h : NatAt w (.slice a n c) N) (b i : Nat) (v : Value) (hf : ∀ x, a = some x → x.block ≠ b) : NatAt (w.setCell ⟨b, i, none⟩ v) (.slice a n c) N := by
  obtain ⟨a', n', c', f, e, hc, hd, hl, hv, hs⟩ := h
  injection e with e1 e2 e3
  subst e1 e2 e3
  refine ⟨a, n, c, f, rfl, hc, fun hn => ?_, hl, hv, hs⟩
  obtain ⟨b', o, e1, d⟩ := hd hn
  refine ⟨b', o, e1, fun j hj => ⟨?_, (d j hj).2⟩⟩
  rw [World.cell?_setCell_other _ _ _ _ (by intro c; injection c with c1; exact hf _ e1 c1.symm)]
  exact (d j hj).1
theorem NatAt.drew {w : World} {v : Value} {N : Nat} (h : NatAt w v N) : NatAt w.drew v N := h.gr (Gr.refl w).drew

set_option maxHeartbeats 1000000 in
theorem of_fresh (n : Nat) (hn : n < 18446744073709551616) (w : World) :
    Calls Tryd.prog 57 #[.int .u64 (n : Int)] w fun e w' => (∃ a m c, e = .returned (.slice a m c) ∧ NatAt w' (.slice a m c) n ∧ ∀ x, a = some x → x.block = w.heap.size) ∧ Gr w w' := by
  have HD : Hid (Dg (w.alloc (.cells #[.int .u32 ((n : Int) % 4294967296), .int .u32 ((n : Int) / 4294967296)] 22)) w.heap.size 0 2 (two n)) := two_dg n hn w
  have HV : Hid (fval (two n) 2 = n) := two_val n
  go_enter Tryd.func57, Tryd.ntmps57
  go_wp2_with (go_at_call 88; refine (trim_core w.heap.size 0 2 2 (two n) (Nat.le_refl _) (by omega) _ HD).mono ?_; rintro e w' ⟨⟨k, hk, rfl, hz, hl⟩, rfl⟩)
  go_ret
  refine ⟨⟨_, _, _, rfl, ⟨some ⟨w.heap.size, 0, none⟩, k, 2, two n, rfl, by omega, fun _ => ⟨_, _, rfl, fun j hj => HD.out j (by omega)⟩, hl, ?_, by omega⟩, ?_⟩, (Gr.refl _).alloc _ _⟩
  · exact (fval_zero (two n) k 2 hk hz).symm.trans HV.out
  · intro x hx; injection hx with hx; rw [← hx]
end Go.Proofs.YtckjmcfncfoboaaDoor
