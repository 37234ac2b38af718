/- The document's Check (quadrilleref12). The document's Valid of a content (quadrilleref17), out of its Check's answer. -/
import Derived.Test.YtbkcebbddhaifaaGreatDoorC28
import Derived.Test.YtbkcebbddhaifaaGreatDoorC25
import Derived.Test.YtbkcebbddhaifaaGreatDoorC24
namespace Go.Proofs.YtbkcebbddhaifaaGreatDoor
open Go.RowKit Go.Lib

set_option maxRecDepth 20000 in
set_option maxHeartbeats 4000000 in
theorem rcheck_at (B : BaresAll) (t : Nd) (sl : Value) (F : Nat → Prop) (w : World) (hsz : t.size ≤ 1048576) (hok : t.ok) (htx : t.txt) (hin : NdIn w F sl t) :
    Calls Tryz.prog 52 #[t.hd.val sl] w fun e w' => e = .returned (.int .i64 (chk t)) ∧ Kp w w' Nul := by
  obtain ⟨W1, hW1⟩ : ∃ W1, w.alloc (.cells (t.hd.cells sl).toArray 44) = W1 := ⟨_, rfl⟩
  have k1 : Kp w W1 Nul := by rw [← hW1]; exact (Kp.refl w Nul).alloc _
  have b1 : Blk W1 w.heap.size (t.hd.cells sl) 44 := by rw [← hW1]; exact Blk.new w _ _
  have HW1 : Hid (w.alloc (.cells #[.int .i64 t.hd.k, .int .i64 t.hd.o, .float .f64 t.hd.x, .string t.hd.s, .bool t.hd.b, .int .i64 t.hd.f, .int .i64 t.hd.c1, .int .i64 t.hd.r1, .bool t.hd.p1, .bool t.hd.q1, .int .i64 t.hd.c2, .int .i64 t.hd.r2, .bool t.hd.p2, .bool t.hd.q2, sl] 44) = W1) := hW1
  have HT : Hid (∀ wq, Kp w wq Nul → Calls Tryz.prog 102 #[t.hd.val sl] wq fun e w' => e = .returned (.int .i64 (t.size : Nat)) ∧ Gr wq w') := fun wq hq => rcount_any t.size t sl F wq (Nat.le_refl _) hsz (hin.kp hq (fun _ _ x => x))
  have HD : Hid (∀ wq, Kp w wq Nul → Calls Tryz.prog 103 #[t.hd.val sl] wq fun e w' => e = .returned (.int .i64 (t.dep : Nat)) ∧ Gr wq w') := fun wq hq => rdepth_any t.size t sl F wq (Nat.le_refl _) hsz (hin.kp hq (fun _ _ x => x))
  have HF : Hid (∀ wq, Kp w wq Nul → Calls Tryz.prog 104 #[t.hd.val sl, .bool false] wq fun e w' => e = .returned (.int .i64 (t.fe false)) ∧ Kp wq w' Nul) := fun wq hq => rfirst_any B t.size t sl F false wq (Nat.le_refl _) hok htx (hin.kp hq (fun _ _ x => x))
  have hE : Hid (chk t = if 256 < t.size then 34 else if 32 < t.dep then 33 else t.fe false) := rfl
  have HB : Hid (∀ wq, Kp W1 wq Nul → wq.heap[w.heap.size]? = some (.cells (t.hd.cells sl).toArray 44 (0, 0))) := fun wq hq => b1.kp hq (fun x => x)
  have HK1 : Hid (Kp w W1 Nul) := k1
  clear hW1 k1 b1 hok hin hsz htx B
  generalize chk t = E at *
  generalize t.size = sz at *
  generalize t.dep = dp at *
  generalize t.fe false = fe at *
  generalize t.hd = h at *
  go_enter Tryz.func52, Tryz.ntmps52
  go_wp2_with fail
  rw [HW1.out]
  refine (HT.out _ HK1.out).mono ?_
  rintro e w1 ⟨rfl, hk1⟩
  have HK2 : Hid (Kp W1 w1 Nul) := Kp.of_gr hk1
  have HB1 : Hid (w1.heap[w.heap.size]? = some (.cells (h.cells sl).toArray 44 (0, 0))) := HB.out w1 HK2.out
  clear hk1 HT HW1
  by_cases h1 : 256 < sz
  · have j : (256 : Int) < (sz : Int) := by omega
    have HE : Hid (E = 34) := by show _ = _; rw [hE.out, if_pos h1]
    go_wp2_with fail
    go_ret
    exact ⟨rInt HE.out.symm, HK1.out.trans HK2.out⟩
  · have j : ¬ (256 : Int) < (sz : Int) := by omega
    have hE2 : Hid (E = if 32 < dp then 33 else fe) := by show _ = _; rw [hE.out, if_neg h1]
    clear hE h1
    go_wp2_with (first | (refine load_node_law rfl (.tmp 1) rfl w.heap.size rfl (h.cells sl).toArray HB1.out rfl ?_) | fail)
    refine (HD.out _ (HK1.out.trans HK2.out)).mono ?_
    rintro e w2 ⟨rfl, hg2⟩
    have HK3 : Hid (Kp W1 w2 Nul) := HK2.out.trans (Kp.of_gr hg2)
    have HB2 : Hid (w2.heap[w.heap.size]? = some (.cells (h.cells sl).toArray 44 (0, 0))) := HB.out w2 HK3.out
    clear hg2 HD HK2 HB1
    by_cases h2 : 32 < dp
    · have j2 : (32 : Int) < (dp : Int) := by omega
      have HE : Hid (E = 33) := by show _ = _; rw [hE2.out, if_pos h2]
      go_wp2_with fail
      go_ret
      exact ⟨rInt HE.out.symm, HK1.out.trans HK3.out⟩
    · have j2 : ¬ (32 : Int) < (dp : Int) := by omega
      have HE : Hid (E = fe) := by show _ = _; rw [hE2.out, if_neg h2]
      go_wp2_with (first | (refine load_node_law rfl (.tmp 1) rfl w.heap.size rfl (h.cells sl).toArray HB2.out rfl ?_) | fail)
      refine (HF.out _ (HK1.out.trans HK3.out)).mono ?_
      rintro e w3 ⟨rfl, hk3⟩
      have HK4 : Hid (Kp w w3 Nul) := (HK1.out.trans HK3.out).trans hk3
      clear hk3 HF
      go_wp2_with fail
      go_ret
      exact ⟨rInt HE.out.symm, HK4.out⟩
end Go.Proofs.YtbkcebbddhaifaaGreatDoor
namespace Go.Proofs.YtbkcebbddhaifaaGreatDoor
open Go.RowKit Go.Lib

set_option maxRecDepth 20000 in
set_option maxHeartbeats 8000000 in
theorem rcValid_at (c : Ct) (sl : Value) (F : Nat → Prop) (ec : Int) (w : World) (hin : NdIn w F sl c.t) (hs : c.v.s.size ≤ 140737488355328)
    (CK : ∀ wq, Kp w wq Nul → Calls Tryz.prog 52 #[c.t.hd.val sl] wq fun e w' => e = .returned (.int .i64 ec) ∧ Kp wq w' Nul) :
    Calls Tryz.prog 62 #[c.val sl] w fun e w' => e = .returned (.bool (validC c (validD c.v.s.data.toList) ec)) ∧ Kp w w' Nul := by
  obtain ⟨a, cc, hsl⟩ : ∃ a cc, sl = .slice a c.t.ts.length cc := by
    obtain ⟨k, v, ⟨hd, ts⟩⟩ := c
    rw [NdIn] at hin
    obtain ⟨a, cc, h, _⟩ := hin
    exact ⟨a, cc, h⟩
  have H1 : Hid (∀ w, Calls Tryz.prog 112 #[c.v.val] w fun e w' => e = .returned (.bool (zeroV c.v)) ∧ Gr w w') := noValue_at c.v
  have H2 : Hid (∀ w, Calls Tryz.prog 113 #[c.t.hd.val sl] w fun e w' => e = .returned (.bool (zeroN c.t)) ∧ Gr w w') := fun w => by
    have := noNode_at c.t.hd c.t.ts.length a cc w
    rw [noN_zero, ← hsl] at this
    exact this
  have H3 : Hid (∀ w, Calls Tryz.prog 114 #[c.v.val] w fun e w' => e = .returned (.bool (validV c.v (validD c.v.s.data.toList))) ∧ Gr w w') := rvValid_at c.v hs
  have HC : Hid (∀ wq, Kp w wq Nul → Calls Tryz.prog 52 #[c.t.hd.val sl] wq fun e w' => e = .returned (.int .i64 ec) ∧ Kp wq w' Nul) := CK
  have hV : Hid (validC c (validD c.v.s.data.toList) ec = ((c.k == 0 && (zeroV c.v && zeroN c.t)) || (c.k == 1 && (c.v.k != 0 && validV c.v (validD c.v.s.data.toList) && zeroN c.t)) || (c.k == 2 && (zeroV c.v && ec == 0)))) := rfl
  generalize validC c (validD c.v.s.data.toList) ec = V at *
  generalize zeroV c.v = Z at *
  generalize zeroN c.t = ZN at *
  generalize validV c.v (validD c.v.s.data.toList) = VV at *
  clear hin hs CK hsl
  obtain ⟨k, ⟨vk, vx, vs, vb, vf⟩, t⟩ := c
  simp only at *
  have GA : Hid (∀ o, Kp w (w.alloc o) Nul) := fun o => (Kp.refl w Nul).alloc _
  go_enter Tryz.func62, Tryz.ntmps62
  go_wp2_with fail
  refine (H1.out _).mono ?_
  rintro e w1 ⟨rfl, hg1⟩
  have hcell := hg1.ext.cell
  have G1 : Hid (Kp w w1 Nul) := (GA.out _).trans (Kp.of_gr hg1)
  have GG1 : Hid (Gr (w.alloc (.cells #[.int .i64 k, .int .i64 vk, .float .f64 vx, .string vs, .bool vb, .int .i64 vf, .int .i64 t.hd.k, .int .i64 t.hd.o, .float .f64 t.hd.x, .string t.hd.s, .bool t.hd.b, .int .i64 t.hd.f, .int .i64 t.hd.c1, .int .i64 t.hd.r1, .bool t.hd.p1, .bool t.hd.q1, .int .i64 t.hd.c2, .int .i64 t.hd.r2, .bool t.hd.p2, .bool t.hd.q2, sl] 55)) w1) := hg1
  clear hg1 H1
  go_wp2_with fail
  refine (H2.out _).mono ?_
  rintro e w2 ⟨rfl, hg2⟩
  have G2 : Hid (Kp w w2 Nul) := G1.out.trans (Kp.of_gr hg2)
  have hcell2 := (GG1.out.trans hg2).ext.cell
  clear hg2 H2 hcell GG1
  by_cases k0 : k = 0
  · subst k0
    clear H3 HC
    go_wp2_with fail
    all_goals
      go_ret
      refine ⟨rBool ?_, G2.out⟩
      rw [hV.out]
      clear hV hcell2
      simp_all
  by_cases k1 : k = 1
  · subst k1
    clear HC
    go_wp2_with fail
    refine (H3.out _).mono ?_
    rintro e w3 ⟨rfl, hg3⟩
    have G3 : Hid (Kp w w3 Nul) := G2.out.trans (Kp.of_gr hg3)
    have hc3 : w3.cell? ⟨w.heap.size, 1, none⟩ = some (.int .i64 vk) := by
      rw [hg3.ext.cell _ (Nat.lt_of_lt_of_le (Nat.lt_succ_self _) (by
        have := G2.out.size
        have h5 := hcell2 ⟨w.heap.size, 0, none⟩ (by simp)
        have h6 : (w2.cell? ⟨w.heap.size, 0, none⟩).isSome = true := by rw [h5, World.cell?_alloc_at _ _ _ _ rfl]; rfl
        obtain ⟨v, hv⟩ := Option.isSome_iff_exists.1 h6
        exact cell_lt hv)), hcell2 _ (by simp), World.cell?_alloc_at _ _ _ _ rfl]
      rfl
    clear hg3 hcell2 H3
    go_wp2_with fail
    all_goals
      go_ret
      refine ⟨rBool ?_, G3.out⟩
      rw [hV.out]
      clear hV hc3
      (try simp_all) <;> (try (rw [Bool.eq_iff_iff]; simp))
  by_cases k2 : k = 2
  · subst k2
    clear H3
    go_wp2_with fail
    refine (HC.out _ G2.out).mono ?_
    rintro e w3 ⟨rfl, hg3⟩
    have G3 : Hid (Kp w w3 Nul) := G2.out.trans hg3
    clear hg3 hcell2 HC
    go_wp2_with fail
    all_goals
      go_ret
      refine ⟨rBool ?_, G3.out⟩
      rw [hV.out]
      clear hV
      (try simp_all) <;> (try (rw [Bool.eq_iff_iff]; simp))
  · have e0 : (k == 0) = false := by simpa using k0
    have e1 : (k == 1) = false := by simpa using k1
    have e2 : (k == 2) = false := by simpa using k2
    have HE : Hid (V = false) := by show _ = _; rw [hV.out, e0, e1, e2]; rfl
    clear H3 HC hV
    go_wp2_with fail
    go_ret
    exact ⟨rBool HE.out.symm, G2.out⟩
end Go.Proofs.YtbkcebbddhaifaaGreatDoor
