/- What a grid that is none goes over; contents that are zero. GridNil: the walk. -/
import Derived.Test.YtjmbmapanmbnhaaDoorB11
import Derived.Test.YtjmbmapanmbnhaaDoorB22
import Derived.Test.YtjmbmapanmbnhaaDoorB42
import Derived.Test.YtjmbmapanmbnhaaDoorB19
namespace Go.Proofs.YtjmbmapanmbnhaaDoor
open Go.RowKit Go.Maps

set_option maxHeartbeats 2000000 in
theorem nil_in (a b c d : Int) (w : World) : Calls Tryd.prog 26 #[.pointer none, .agg #[.int .i64 a, .int .i64 b, .int .i64 c, .int .i64 d]] w fun e w' => ∃ gb ab, e = .returned (.func (.func 56) #[] #[.pointer (some ⟨gb, 0, none⟩), .pointer (some ⟨ab, 0, none⟩)]) ∧ w'.cell? ⟨gb, 0, none⟩ = some (.pointer none) ∧ gb < w'.heap.size ∧ Kp w w' Nul := by
  obtain ⟨W, hW⟩ : ∃ W, (w.alloc (.cells #[.pointer none] 39)).alloc (.cells #[.int .i64 a, .int .i64 b, .int .i64 c, .int .i64 d] 58) = W := ⟨_, rfl⟩
  have HW : Hid ((w.alloc (.cells #[.pointer none] 39)).alloc (.cells #[.int .i64 a, .int .i64 b, .int .i64 c, .int .i64 d] 58) = W) := hW
  have HK : Hid (Kp w W Nul) := by show Kp w W Nul; rw [← hW]; exact ((Kp.refl w Nul).alloc _).alloc _
  have HC : Hid (W.cell? ⟨w.heap.size, 0, none⟩ = some (.pointer none)) := by
    show _ = _
    rw [← hW]
    exact Lib.cell?_alloc_some _ (by rw [World.cell?_alloc_new]; rfl)
  have HL : Hid (w.heap.size < W.heap.size) := by show _ < _; rw [← hW]; simp; omega
  clear hW
  go_enter Tryd.func26, Tryd.ntmps26
  go_wp2_with fail
  rw [HW.out]
  go_ret
  exact ⟨_, _, rfl, HC.out, HL.out, HK.out⟩
set_option maxHeartbeats 2000000 in
theorem nil_seq (gb ab l : Nat) (W : World) (h : W.cell? ⟨gb, 0, none⟩ = some (.pointer none)) : Calls Tryd.prog 56 #[.func (.yield l) #[] #[], .pointer (some ⟨gb, 0, none⟩), .pointer (some ⟨ab, 0, none⟩)] W fun e W' => (∃ v, e = .returned v) ∧ Kp W W' Nul := by
  go_enter Tryd.func56, Tryd.ntmps56
  go_wp2_with fail
  (try simp only [Exit.inBlock, Exit.then])
  refine bodyPost_ret (results_none rfl _ _ _) rfl ?_
  exact ⟨⟨_, rfl⟩, Kp.refl _ _⟩
set_option maxHeartbeats 2000000 in
theorem nil_all (w : World) : Calls Tryd.prog 23 #[.pointer none] w fun e w' => ∃ gb ab, e = .returned (.func (.func 56) #[] #[.pointer (some ⟨gb, 0, none⟩), .pointer (some ⟨ab, 0, none⟩)]) ∧ w'.cell? ⟨gb, 0, none⟩ = some (.pointer none) ∧ gb < w'.heap.size ∧ Kp w w' Nul := by
  have H : Hid (Calls Tryd.prog 26 #[.pointer none, .agg #[.int .i64 1, .int .i64 1, .int .i64 256, .int .i64 4096]] w fun e w' => ∃ gb ab, e = .returned (.func (.func 56) #[] #[.pointer (some ⟨gb, 0, none⟩), .pointer (some ⟨ab, 0, none⟩)]) ∧ w'.cell? ⟨gb, 0, none⟩ = some (.pointer none) ∧ gb < w'.heap.size ∧ Kp w w' Nul) := nil_in 1 1 256 4096 w
  go_enter Tryd.func23, Tryd.ntmps23
  go_wp2_with fail
  refine H.out.mono ?_
  rintro e w1 ⟨gb, ab, rfl, h1, h2, h3⟩
  have HE : Hid (w1.cell? ⟨gb, 0, none⟩ = some (.pointer none) ∧ gb < w1.heap.size ∧ Kp w w1 Nul) := ⟨h1, h2, h3⟩
  clear h1 h2 h3 H
  go_wp2_with fail
  go_ret
  exact ⟨_, _, rfl, HE.out⟩
end Go.Proofs.YtjmbmapanmbnhaaDoor
namespace Go.Proofs.YtjmbmapanmbnhaaDoor
open Go.RowKit Go.Shelf Go.Maps
attribute [local go_sem] Oper.semAt_some

theorem loadIn_content {F : Fence} {n : Nat} {ops : Array Oper} {rest : List Oper} {o : Oper} {a : Act} {w : World} {Q : Exit → Act → World → Prop} (hgd : Region.wanted o (yielded ops a.tmps) = true) (x : Operand) (ho : o.op = .load 33 x) (g : Nat) (hx : a.eval x = .pointer (some ⟨g, 0, none⟩)) (cs : Array Value) (hg : w.heap[g]? = some (.cells cs 33 (0, 0))) (hcs : cs.size = 21)
    (h : wpListIn F n Tryd.prog ops Q rest (a.put o.dst (.agg cs)) w) : wpListIn F n Tryd.prog ops Q (o :: rest) a w := by
  refine wpListIn_step fun K hK => ?_
  simp only [hgd, if_true]
  unfold Oper.wpIn
  refine ⟨by simp [Oper.about, ho], ?_⟩
  rw [Oper.semAt_plain F _ _ (by rw [ho]; intro c hc'; cases hc')]
  rw [exec_load_content cs ho hx hg hcs]
  exact hK _ _ h
theorem eqIn_nilf (w : World) (d f : Nat) (lb : Array Value) : (Op.equalIn (d + 1) 52 (.func (.func f) #[] lb) .nilFunc).run Tryd.prog w = .ok false w := by
  simp [Op.equalIn, run_underlying Tryd.underlying52]
theorem eq_nilf (f : Nat) (lb : Array Value) (w : World) : (binOp .eql 52 (.func (.func f) #[] lb) .nilFunc).run Tryd.prog w = .ok (.bool false) w := by
  simp only [binOp]
  simp [show Op.equal 52 (.func (.func f) #[] lb) .nilFunc = Op.equalIn (9999 + 1) 52 (.func (.func f) #[] lb) .nilFunc from rfl, eqIn_nilf w 9999 f lb]
set_option maxRecDepth 100000 in
set_option maxHeartbeats 16000000 in
theorem nilG_law (c r : Int) (ct : Ct) (sl : Value) (a b d s : Int) (w : World) (hin : NdIn w (fun _ => True) sl ct.t) :
    Calls Tryd.prog 6 #[.agg #[.int .i64 c, .int .i64 r], ct.val sl, .agg #[.int .i64 a, .int .i64 b, .int .i64 d, .int .i64 s]] w fun e w' => e = .returned (.bool true) ∧ Kp w w' Nul := by
  obtain ⟨W1, hW1⟩ : ∃ W1, ((w.alloc (.cells #[.int .i64 c, .int .i64 r] 26)).alloc (.cells (ct.cells sl).toArray 33)).alloc (.cells #[.int .i64 a, .int .i64 b, .int .i64 d, .int .i64 s] 58) = W1 := ⟨_, rfl⟩
  have k1 : Kp w W1 Nul := by rw [← hW1]; exact (((Kp.refl w Nul).alloc _).alloc _).alloc _
  have hA1 : Blk W1 w.heap.size [.int .i64 c, .int .i64 r] 26 := by rw [← hW1]; exact ((Blk.new w [.int .i64 c, .int .i64 r] _).alloc _).alloc _
  have hC1 : Blk W1 (w.heap.size + 1) (ct.cells sl) 33 := by
    have := (Blk.new (w.alloc (.cells #[.int .i64 c, .int .i64 r] 26)) (ct.cells sl) 33).alloc (.cells #[.int .i64 a, .int .i64 b, .int .i64 d, .int .i64 s] 58)
    rw [World.size_alloc] at this
    rw [← hW1]; exact this
  have hR1 : Blk W1 (w.heap.size + 1 + 1) [.int .i64 a, .int .i64 b, .int .i64 d, .int .i64 s] 58 := by
    have := Blk.new ((w.alloc (.cells #[.int .i64 c, .int .i64 r] 26)).alloc (.cells (ct.cells sl).toArray 33)) [.int .i64 a, .int .i64 b, .int .i64 d, .int .i64 s] 58
    rw [World.size_alloc, World.size_alloc] at this
    rw [← hW1]; exact this
  have HW1 : Hid (((w.alloc (.cells #[.int .i64 c, .int .i64 r] 26)).alloc (.cells #[.int .i64 ct.k, .int .i64 ct.v.k, .float .f64 ct.v.x, .string ct.v.s, .bool ct.v.b, .int .i64 ct.v.f, .int .i64 ct.t.hd.k, .int .i64 ct.t.hd.o, .float .f64 ct.t.hd.x, .string ct.t.hd.s, .bool ct.t.hd.b, .int .i64 ct.t.hd.f, .int .i64 ct.t.hd.c1, .int .i64 ct.t.hd.r1, .bool ct.t.hd.p1, .bool ct.t.hd.q1, .int .i64 ct.t.hd.c2, .int .i64 ct.t.hd.r2, .bool ct.t.hd.p2, .bool ct.t.hd.q2, sl] 33)).alloc (.cells #[.int .i64 a, .int .i64 b, .int .i64 d, .int .i64 s] 58) = W1) := hW1
  have HC : Hid (∀ wq, Kp W1 wq Nul → wq.heap[w.heap.size + 1]? = some (.cells (ct.cells sl).toArray 33 (0, 0))) := fun wq k => hC1.kp k (fun x => x)
  have HAR : Hid (∀ wq, Kp W1 wq Nul → (wq.cell? ⟨w.heap.size, 0, none⟩ = some (.int .i64 c) ∧ wq.cell? ⟨w.heap.size, 1, none⟩ = some (.int .i64 r) ∧ wq.cell? ⟨w.heap.size + 1 + 1, 0, none⟩ = some (.int .i64 a) ∧ wq.cell? ⟨w.heap.size + 1 + 1, 1, none⟩ = some (.int .i64 b) ∧ wq.cell? ⟨w.heap.size + 1 + 1, 2, none⟩ = some (.int .i64 d) ∧ wq.cell? ⟨w.heap.size + 1 + 1, 3, none⟩ = some (.int .i64 s))) := fun wq k => ⟨(hA1.kp k (fun x => x)).cell rfl, (hA1.kp k (fun x => x)).cell rfl, (hR1.kp k (fun x => x)).cell rfl, (hR1.kp k (fun x => x)).cell rfl, (hR1.kp k (fun x => x)).cell rfl, (hR1.kp k (fun x => x)).cell rfl⟩
  have HHv : Hid (∀ wq, Kp W1 wq Nul → Calls Tryd.prog 8 #[ct.val sl] wq fun e w' => ∃ B, e = .returned (.bool B) ∧ Kp wq w' Nul) := fun wq k => (heavy_at ct sl (fun _ => True) wq (hin.kpn (k1.trans k))).mono fun e w' ⟨h1, h2⟩ => ⟨_, h1, Kp.of_gr h2⟩
  have HK1 : Hid (Kp w W1 Nul) := k1
  have HAw : Hid (Calls Tryd.prog 7 #[] W1 fun e w' => e = .returned (.bool true) ∧ Kp W1 w' Nul) := awake17 W1
  clear hW1 k1 hA1 hC1 hR1 hin
  refine (callsIn_wide (n := 12)).1 ?_
  refine callsIn_of_wp_marks Tryd.func6 rfl trivial ?_ rfl
  simp only [Tryd.ntmps6, List.size_toArray, List.length_cons, List.length_nil, Nat.reduceAdd, Nat.reduceSub, Array.replicate_succ, Array.replicate_zero, List.push_toArray, List.append_toArray, List.nil_append, List.cons_append]
  gi_wp2_with (fail)
  rw [HW1.out]
  refine ⟨trivial, (callsIn_wide.2 HAw.out).mono ?_⟩
  rintro e w1 ⟨rfl, hk1⟩
  obtain ⟨W2, hW2⟩ : ∃ W2, w1.alloc (.cells #[.int .i64 0] 3) = W2 := ⟨_, rfl⟩
  have k2 : Kp w1 W2 Nul := by rw [← hW2]; exact (Kp.refl w1 Nul).alloc _
  have hN2 : Blk W2 w1.heap.size [.int .i64 0] 3 := by rw [← hW2]; exact Blk.new w1 [.int .i64 0] _
  have HK2 : Hid (Kp W1 W2 Nul) := hk1.trans k2
  have HN : Hid (∀ wq, Kp W2 wq Nul → wq.cell? ⟨w1.heap.size, 0, none⟩ = some (.int .i64 0)) := fun wq k => (hN2.kp k (fun x => x)).cell rfl
  clear hk1 k2 hN2 HAw HW1
  subst hW2
  gi_wp2_with (first | (refine loadIn_content rfl (.tmp 4) rfl (w.heap.size + 1) rfl _ (HC.out _ HK2.out) rfl ?_) | fail)
  refine ⟨trivial, (callsIn_wide.2 (HHv.out _ HK2.out)).mono ?_⟩
  rintro e w3 ⟨B, rfl, hk3⟩
  have HK3 : Hid (Kp (w1.alloc (.cells #[.int .i64 0] 3)) w3 Nul) := hk3
  clear hk3
  cases B with
  | true =>
    gi_wp2_with (fail)
    exact ⟨_, results_tmp rfl _ _ _, rfl, (HK1.out.trans HK2.out).trans HK3.out⟩
  | false =>
    gi_wp2_with (fail)
    refine ⟨trivial, (callsIn_wide.2 (nil_all _)).mono ?_⟩
    rintro e w4 ⟨gb, ab, rfl, h41, h42, hk4⟩
    obtain ⟨_, _, p0, p1, p2, p3⟩ := HAR.out w4 ((HK2.out.trans HK3.out).trans hk4)
    have HK4 : Hid (Kp (w1.alloc (.cells #[.int .i64 0] 3)) w4 Nul) := HK3.out.trans hk4
    have HG4 : Hid (∀ wq, Kp w4 wq Nul → wq.cell? ⟨gb, 0, none⟩ = some (.pointer none)) := fun wq k => by
      have := k.block gb h42 (fun x => x)
      simp only [World.cell?] at h41 ⊢
      rw [this]; exact h41
    clear hk4 h41 h42
    gi_wp2_with (fail)
    refine ⟨trivial, (callsIn_wide.2 (nil_in _ _ _ _ _)).mono ?_⟩
    rintro e w5 ⟨gb', ab', rfl, h51, h52, hk5⟩
    have HK5 : Hid (Kp (w1.alloc (.cells #[.int .i64 0] 3)) w5 Nul) := HK4.out.trans hk5
    have HG5 : Hid (∀ wq, Kp w5 wq Nul → wq.cell? ⟨gb, 0, none⟩ = some (.pointer none) ∧ wq.cell? ⟨gb', 0, none⟩ = some (.pointer none)) := fun wq k => ⟨HG4.out wq (hk5.trans k), by
      have := k.block gb' h52 (fun x => x)
      simp only [World.cell?] at h51 ⊢
      rw [this]; exact h51⟩
    have hnf := eq_nilf 56
    clear hk5 h51 h52 HG4 p0 p1 p2 p3
    gi_wp2_with (fail)
    rename_i K hKK
    refine wpIn_range_none (by decide) (gf := 56) (lb := #[.pointer (some ⟨gb, 0, none⟩), .pointer (some ⟨ab, 0, none⟩)]) rfl (enters_of Tryd.func56 (by kernel_rfl) rfl) (fun l W k => callsIn_wide.2 (nil_seq gb ab l W (HG5.out W k).1)) ?_
    intro D1 w6 hD1 hk6 hK1
    have HD1 : Hid (w5.heap.size ≤ D1) := hD1
    have HK6 : Hid (Kp w5 w6 Nul) := hk6
    have HX1 : Hid (w6.heap[D1]? = some (.deferred (some []))) := hK1
    clear hD1 hk6 hK1
    refine hKK _ _ ?_
    clear hKK K
    gi_wp2_with (fail)
    rename_i K hKK
    refine wpIn_range_none (by decide) (gf := 56) (lb := #[.pointer (some ⟨gb', 0, none⟩), .pointer (some ⟨ab', 0, none⟩)]) rfl (enters_of Tryd.func56 (by kernel_rfl) rfl) (fun l W k => callsIn_wide.2 (nil_seq gb' ab' l W (HG5.out W (HK6.out.trans k)).2)) ?_
    intro D2 w7 hD2 hk7 hK2
    have HD2 : Hid (w6.heap.size ≤ D2) := hD2
    have HK7 : Hid (Kp w6 w7 Nul) := hk7
    have HX2 : Hid (w7.heap[D2]? = some (.deferred (some []))) := hK2
    have HX1' : Hid (w7.heap[D1]? = some (.deferred (some []))) := (hk7.block D1 (Array.getElem?_eq_some_iff.1 HX1.out).1 (fun x => x)).trans HX1.out
    clear hD2 hk7 hK2
    refine hKK _ _ ?_
    clear hKK K
    gi_wp2_with (fail)
    refine ⟨trivial, (callsIn_wide.2 (nil_bounds _)).mono ?_⟩
    rintro e w8 ⟨rfl, hk8⟩
    have hk28 : Kp (w1.alloc (.cells #[.int .i64 0] 3)) w8 Nul := ((HK5.out.trans HK6.out).trans HK7.out).trans hk8
    obtain ⟨W9, hW9⟩ : ∃ W9, w8.alloc (.cells #[.int .i64 0, .int .i64 0, .int .i64 0, .int .i64 0] 58) = W9 := ⟨_, rfl⟩
    have k89 : Kp w8 W9 Nul := by rw [← hW9]; exact (Kp.refl w8 Nul).alloc _
    have HKA : Hid (Kp (w1.alloc (.cells #[.int .i64 0] 3)) W9 Nul) := hk28.trans k89
    have HKB : Hid (Kp w7 W9 Nul) := hk8.trans k89
    have n9 := HN.out W9 HKA.out
    obtain ⟨q0, q1, _⟩ := HAR.out W9 (HK2.out.trans HKA.out)
    have HC9 : Hid (W9.heap[w.heap.size + 1]? = some (.cells (ct.cells sl).toArray 33 (0, 0))) := HC.out W9 (HK2.out.trans HKA.out)
    clear hk8 hk28 k89
    subst hW9
    gi_wp2_with (first | (refine loadIn_content rfl (.tmp 4) rfl (w.heap.size + 1) rfl _ HC9.out rfl ?_) | fail)
    refine ⟨trivial, (callsIn_wide.2 (nil_put c r ct sl _)).mono ?_⟩
    rintro e w10 ⟨rfl, hk10⟩
    obtain ⟨r0, r1, _⟩ := HAR.out w10 ((HK2.out.trans HKA.out).trans hk10)
    clear q0 q1 n9 HC9
    gi_wp2_with (fail)
    refine ⟨trivial, (callsIn_wide.2 (nil_get _ _ _)).mono ?_⟩
    rintro e w11 ⟨rfl, hk11⟩
    gi_wp2_with (fail)
    refine ⟨trivial, (callsIn_wide.2 (just0 _)).mono ?_⟩
    rintro e w12 ⟨rfl, hk12⟩
    gi_wp2_with (fail)
    refine ⟨trivial, (callsIn_wide.2 (len_nil _)).mono ?_⟩
    rintro e w13 ⟨rfl, hz⟩
    replace hz := hz.symm
    subst hz
    gi_wp2_with (fail)
    refine ⟨trivial, (callsIn_wide.2 (nil_clone _)).mono ?_⟩
    rintro e w14 ⟨rfl, hz⟩
    replace hz := hz.symm
    subst hz
    gi_wp2_with (fail)
    refine ⟨trivial, (callsIn_wide.2 (new_at _)).mono ?_⟩
    rintro e w15 ⟨rfl, hz⟩
    have hk15 : Kp w12 w15 Nul := by rw [hz]; exact (Kp.refl w12 Nul).alloc _
    clear hz
    gi_wp2_with (fail)
    refine ⟨trivial, (callsIn_wide.2 (nil_equal _ _)).mono ?_⟩
    rintro e w16 ⟨rfl, hk16⟩
    gi_wp2_with (fail)
    refine ⟨trivial, (callsIn_wide.2 (new_at _)).mono ?_⟩
    rintro e w17 ⟨rfl, hz⟩
    have hk17 : Kp w16 w17 Nul := by rw [hz]; exact (Kp.refl w16 Nul).alloc _
    clear hz
    gi_wp2_with (fail)
    refine ⟨trivial, (callsIn_wide.2 (nil_puts _ _)).mono ?_⟩
    rintro e w18 ⟨rfl, hz⟩
    replace hz := hz.symm
    subst hz
    have k717 : Kp w7 w17 Nul := (((((HKB.out.trans hk10).trans hk11).trans hk12).trans hk15).trans hk16).trans hk17
    have x2 : w17.heap[D2]? = some (.deferred (some [])) := (k717.block D2 (Array.getElem?_eq_some_iff.1 HX2.out).1 (fun x => x)).trans HX2.out
    have x1 : w17.heap[D1]? = some (.deferred (some [])) := (k717.block D1 (Array.getElem?_eq_some_iff.1 HX1'.out).1 (fun x => x)).trans HX1'.out
    have hd1 : D1 < w6.heap.size := (Array.getElem?_eq_some_iff.1 HX1.out).1
    have hne : D1 ≠ D2 := by have := HD2.out; omega
    have y1 : (w17.putObj D2 (.deferred none)).heap[D1]? = some (.deferred (some [])) := (World.putObj_heap_other hne).trans x1
    have kfin : Kp w w17 Nul := (((((HK1.out.trans HK2.out).trans HK5.out).trans HK6.out).trans HK7.out).trans k717)
    have s5 : w.heap.size ≤ w5.heap.size := ((HK1.out.trans HK2.out).trans HK5.out).size
    have s6 := HK6.out.size
    have HEND : Hid (Kp w ((w17.putObj D2 (.deferred none)).putObj D1 (.deferred none)) Nul) := putObj_kp (putObj_kp kfin (by have := HD2.out; omega)) (by have := HD1.out; omega)
    have HY : Hid (w17.heap[D2]? = some (.deferred (some [])) ∧ (w17.putObj D2 (.deferred none)).heap[D1]? = some (.deferred (some []))) := ⟨x2, y1⟩
    clear hk10 hk11 hk12 hk15 hk16 hk17 k717 x1 x2 hd1 hne y1 kfin s5 s6 r0 r1
    gi_wp2_with (fail)
    refine ⟨by simp, .inl ⟨_, _, rfl, run_takeDeferred HY.out.1, ⟨by simp, .inl ⟨_, _, rfl, run_takeDeferred HY.out.2, ?_⟩⟩⟩⟩
    exact ⟨_, results_tmp rfl _ _ _, rfl, HEND.out⟩
end Go.Proofs.YtjmbmapanmbnhaaDoor
