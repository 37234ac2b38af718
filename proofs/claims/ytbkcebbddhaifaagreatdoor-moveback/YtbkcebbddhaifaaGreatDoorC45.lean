/- just, of contents that are zero. What a grid that is none goes over; contents that are zero. GridNil: the walk. -/
import Derived.Test.YtbkcebbddhaifaaGreatDoorC11
import Derived.Test.YtbkcebbddhaifaaGreatDoorC12
import Derived.Test.YtbkcebbddhaifaaGreatDoorC19
namespace Go.Proofs.YtbkcebbddhaifaaGreatDoor
open Go.RowKit Go.Maps

end Go.Proofs.YtbkcebbddhaifaaGreatDoor
namespace Go.Proofs.YtbkcebbddhaifaaGreatDoor
open Go.RowKit Go.Maps

set_option maxHeartbeats 2000000 in
theorem nil_in (a b c d : Int) (w : World) : Calls Tryz.prog 72 #[.pointer none, .agg #[.int .i64 a, .int .i64 b, .int .i64 c, .int .i64 d]] w fun e w' => ∃ gb ab, e = .returned (.func (.func 121) #[] #[.pointer (some ⟨gb, 0, none⟩), .pointer (some ⟨ab, 0, none⟩)]) ∧ w'.cell? ⟨gb, 0, none⟩ = some (.pointer none) ∧ gb < w'.heap.size ∧ Kp w w' Nul := by
  obtain ⟨W, hW⟩ : ∃ W, (w.alloc (.cells #[.pointer none] 24)).alloc (.cells #[.int .i64 a, .int .i64 b, .int .i64 c, .int .i64 d] 34) = W := ⟨_, rfl⟩
  have HW : Hid ((w.alloc (.cells #[.pointer none] 24)).alloc (.cells #[.int .i64 a, .int .i64 b, .int .i64 c, .int .i64 d] 34) = W) := hW
  have HK : Hid (Kp w W Nul) := by show Kp w W Nul; rw [← hW]; exact ((Kp.refl w Nul).alloc _).alloc _
  have HC : Hid (W.cell? ⟨w.heap.size, 0, none⟩ = some (.pointer none)) := by
    show _ = _
    rw [← hW]
    exact Lib.cell?_alloc_some _ (by rw [World.cell?_alloc_new]; rfl)
  have HL : Hid (w.heap.size < W.heap.size) := by show _ < _; rw [← hW]; simp; omega
  clear hW
  go_enter Tryz.func72, Tryz.ntmps72
  go_wp2_with fail
  rw [HW.out]
  go_ret
  exact ⟨_, _, rfl, HC.out, HL.out, HK.out⟩
set_option maxHeartbeats 2000000 in
theorem nil_seq (gb ab l : Nat) (W : World) (h : W.cell? ⟨gb, 0, none⟩ = some (.pointer none)) : Calls Tryz.prog 121 #[.func (.yield l) #[] #[], .pointer (some ⟨gb, 0, none⟩), .pointer (some ⟨ab, 0, none⟩)] W fun e W' => (∃ v, e = .returned v) ∧ Kp W W' Nul := by
  go_enter Tryz.func121, Tryz.ntmps121
  go_wp2_with fail
  (try simp only [Exit.inBlock, Exit.then])
  refine bodyPost_ret (results_none rfl _ _ _) rfl ?_
  exact ⟨⟨_, rfl⟩, Kp.refl _ _⟩
set_option maxHeartbeats 2000000 in
theorem nil_all (w : World) : Calls Tryz.prog 34 #[.pointer none] w fun e w' => ∃ gb ab, e = .returned (.func (.func 121) #[] #[.pointer (some ⟨gb, 0, none⟩), .pointer (some ⟨ab, 0, none⟩)]) ∧ w'.cell? ⟨gb, 0, none⟩ = some (.pointer none) ∧ gb < w'.heap.size ∧ Kp w w' Nul := by
  have H : Hid (Calls Tryz.prog 72 #[.pointer none, .agg #[.int .i64 1, .int .i64 1, .int .i64 256, .int .i64 4096]] w fun e w' => ∃ gb ab, e = .returned (.func (.func 121) #[] #[.pointer (some ⟨gb, 0, none⟩), .pointer (some ⟨ab, 0, none⟩)]) ∧ w'.cell? ⟨gb, 0, none⟩ = some (.pointer none) ∧ gb < w'.heap.size ∧ Kp w w' Nul) := nil_in 1 1 256 4096 w
  go_enter Tryz.func34, Tryz.ntmps34
  go_wp2_with fail
  refine H.out.mono ?_
  rintro e w1 ⟨gb, ab, rfl, h1, h2, h3⟩
  have HE : Hid (w1.cell? ⟨gb, 0, none⟩ = some (.pointer none) ∧ gb < w1.heap.size ∧ Kp w w1 Nul) := ⟨h1, h2, h3⟩
  clear h1 h2 h3 H
  go_wp2_with fail
  go_ret
  exact ⟨_, _, rfl, HE.out⟩
end Go.Proofs.YtbkcebbddhaifaaGreatDoor
namespace Go.Proofs.YtbkcebbddhaifaaGreatDoor
open Go.RowKit Go.Shelf Go.Maps
attribute [local go_sem] Oper.semAt_some

theorem loadIn_content {F : Fence} {n : Nat} {ops : Array Oper} {rest : List Oper} {o : Oper} {a : Act} {w : World} {Q : Exit → Act → World → Prop} (hgd : Region.wanted o (yielded ops a.tmps) = true) (x : Operand) (ho : o.op = .load 55 x) (g : Nat) (hx : a.eval x = .pointer (some ⟨g, 0, none⟩)) (cs : Array Value) (hg : w.heap[g]? = some (.cells cs 55 (0, 0))) (hcs : cs.size = 21)
    (h : wpListIn F n Tryz.prog ops Q rest (a.put o.dst (.agg cs)) w) : wpListIn F n Tryz.prog ops Q (o :: rest) a w := by
  refine wpListIn_step fun K hK => ?_
  simp only [hgd, if_true]
  unfold Oper.wpIn
  refine ⟨by simp [Oper.about, ho], ?_⟩
  rw [Oper.semAt_plain F _ _ (by rw [ho]; intro c hc'; cases hc')]
  rw [exec_load_content cs ho hx hg hcs]
  exact hK _ _ h
theorem eqIn_nilf (w : World) (d f : Nat) (lb : Array Value) : (Op.equalIn (d + 1) 69 (.func (.func f) #[] lb) .nilFunc).run Tryz.prog w = .ok false w := by
  simp [Op.equalIn, run_underlying Tryz.underlying69]
theorem eq_nilf (f : Nat) (lb : Array Value) (w : World) : (binOp .eql 69 (.func (.func f) #[] lb) .nilFunc).run Tryz.prog w = .ok (.bool false) w := by
  simp only [binOp]
  simp [show Op.equal 69 (.func (.func f) #[] lb) .nilFunc = Op.equalIn (9999 + 1) 69 (.func (.func f) #[] lb) .nilFunc from rfl, eqIn_nilf w 9999 f lb]
end Go.Proofs.YtbkcebbddhaifaaGreatDoor
