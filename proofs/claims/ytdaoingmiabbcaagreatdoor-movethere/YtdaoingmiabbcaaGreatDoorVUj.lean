/- Put: a grid's first content. Get; Put that is refused. -/
import Derived.Test.YtdaoingmiabbcaaGreatDoorVXq
import Derived.Test.YtdaoingmiabbcaaGreatDoorVXv
import Derived.Test.YtdaoingmiabbcaaGreatDoorVDa
namespace Go.Proofs.YtdaoingmiabbcaaGreatDoor
open Go.RowKit Go.Maps

theorem load_content_law {ops : Array Oper} {rest : List Oper} {o : Oper} {a : Act} {w : World} {Q : Exit → Act → World → Prop} (hgd : Region.wanted o (yielded ops a.tmps) = true) (x : Operand) (ho : o.op = .load 51 x) (g : Nat) (hx : a.eval x = .pointer (some ⟨g, 0, none⟩)) (cs : Array Value) (hg : w.heap[g]? = some (.cells cs 51 (0, 0))) (hcs : cs.size = 21)
    (h : wpList Tryz.prog ops Q rest (a.put o.dst (.agg cs)) w) : wpList Tryz.prog ops Q (o :: rest) a w :=
  wpList_step fun K hK => by
    simp only [hgd, if_true]
    exact wp_load_row 51 x ho g hx 51 cs (0, 0) _ hg Tryz.underlying51 rfl (by rw [hcs]; exact infoContent) (hK _ _ h)
end Go.Proofs.YtdaoingmiabbcaaGreatDoor
namespace Go.Proofs.YtdaoingmiabbcaaGreatDoor
open Go.RowKit Go.Maps

set_option maxRecDepth 20000 in
set_option maxHeartbeats 8000000 in
/-- Put of what may not be, and of what may be into no cell. -/
theorem put_no (g : Nat) (c r : Int) (ct : Ct) (sl : Value) (V : Bool) (w : World) (hV : V = true → vC c r = false)
    (hval : ∀ wq, Kp w wq Nul → Calls Tryz.prog 53 #[ct.val sl] wq fun e w' => e = .returned (.bool V) ∧ Kp wq w' Nul) :
    Calls Tryz.prog 26 #[.pointer (some ⟨g, 0, none⟩), .agg #[.int .i64 c, .int .i64 r], ct.val sl] w fun e w' => e = .returned (.int .i64 (if V then 20 else 1)) ∧ Kp w w' Nul := by
  obtain ⟨W1, hW1⟩ : ∃ W1, (w.alloc (.cells #[.int .i64 c, .int .i64 r] 24)).alloc (.cells (ct.cells sl).toArray 51) = W1 := ⟨_, rfl⟩
  have k1 : Kp w W1 Nul := by rw [← hW1]; exact ((Kp.refl w Nul).alloc _).alloc _
  have hA1 : Blk W1 w.heap.size [.int .i64 c, .int .i64 r] 24 := by rw [← hW1]; exact (Blk.new w [.int .i64 c, .int .i64 r] _).alloc _
  have hC1 : Blk W1 (w.heap.size + 1) (ct.cells sl) 51 := by
    have := Blk.new (w.alloc (.cells #[.int .i64 c, .int .i64 r] 24)) (ct.cells sl) 51
    rw [World.size_alloc] at this
    rw [← hW1]; exact this
  have HC1 : Hid (((w.alloc (.cells #[.int .i64 c, .int .i64 r] 24)).alloc (.cells (ct.cells sl).toArray 51)).heap[w.heap.size + 1]? = some (.cells (ct.cells sl).toArray 51 (0, 0))) := by show _ = _; rw [hW1]; exact hC1
  have HW1 : Hid ((w.alloc (.cells #[.int .i64 c, .int .i64 r] 24)).alloc (.cells #[.int .i64 ct.k, .int .i64 ct.v.k, .float .f64 ct.v.x, .string ct.v.s, .bool ct.v.b, .int .i64 ct.v.f, .int .i64 ct.t.hd.k, .int .i64 ct.t.hd.o, .float .f64 ct.t.hd.x, .string ct.t.hd.s, .bool ct.t.hd.b, .int .i64 ct.t.hd.f, .int .i64 ct.t.hd.c1, .int .i64 ct.t.hd.r1, .bool ct.t.hd.p1, .bool ct.t.hd.q1, .int .i64 ct.t.hd.c2, .int .i64 ct.t.hd.r2, .bool ct.t.hd.p2, .bool ct.t.hd.q2, sl] 51) = W1) := hW1
  have HS : Hid (∀ wq, Kp W1 wq Nul → (wq.cell? ⟨w.heap.size, 0, none⟩ = some (.int .i64 c) ∧ wq.cell? ⟨w.heap.size, 1, none⟩ = some (.int .i64 r))) := fun wq k => ⟨(hA1.kp k (fun x => x)).cell rfl, (hA1.kp k (fun x => x)).cell rfl⟩
  have HV : Hid (Calls Tryz.prog 53 #[ct.val sl] W1 fun e w' => e = .returned (.bool V) ∧ Kp W1 w' Nul) := hval W1 k1
  have HA : Hid (V = true → ∀ w, Calls Tryz.prog 44 #[.agg #[.int .i64 c, .int .i64 r]] w fun e w' => e = .returned (.bool false) ∧ Kp w w' Nul) := fun h w => (pValid_at c r w).mono fun e w' ⟨h1, h2⟩ => ⟨by rw [h1, hV h], by rw [h2]; exact (Kp.refl w Nul).alloc _⟩
  have HK1 : Hid (Kp w W1 Nul) := k1
  clear hval hW1 k1 hA1 hC1 hV
  go_enter Tryz.func26, Tryz.ntmps26
  go_wp2_with (first | (refine load_content_law rfl (.tmp 5) rfl (w.heap.size + 1) rfl _ HC1.out rfl ?_) | fail)
  rw [HW1.out]
  refine HV.out.mono ?_
  rintro e w2 ⟨rfl, hk2⟩
  obtain ⟨a1, a2⟩ := HS.out w2 hk2
  have HK2 : Hid (Kp w w2 Nul) := HK1.out.trans hk2
  clear hk2 HV HC1 HW1 HS
  cases V with
  | false =>
    go_wp2_with fail
    go_ret
    exact ⟨rfl, HK2.out⟩
  | true =>
    go_wp2_with fail
    refine (HA.out trivial _).mono ?_
    rintro e w3 ⟨rfl, hk3⟩
    have HK3 : Hid (Kp w w3 Nul) := HK2.out.trans hk3
    clear hk3
    go_wp2_with fail
    go_ret
    exact ⟨rfl, HK3.out⟩
end Go.Proofs.YtdaoingmiabbcaaGreatDoor
