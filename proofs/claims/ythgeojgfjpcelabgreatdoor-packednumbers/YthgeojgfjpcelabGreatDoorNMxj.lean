/- Grid.In's own function, for rounds that may leave by return: wip/move/Mvj, by wip/gen_ow3.py. -/
import Derived.Test.YthgeojgfjpcelabGreatDoorNQr
import Derived.Test.YthgeojgfjpcelabGreatDoorNIg
import Derived.Test.YthgeojgfjpcelabGreatDoorNIv
namespace Go.Proofs.YthgeojgfjpcelabGreatDoor
open Go.RowKit Go.Maps Go.Sort Go.Lib Go.Shelf
attribute [local go_sem] Oper.semAt_some

set_option maxRecDepth 100000 in
set_option maxHeartbeats 16000000 in
theorem in1_seq3 (g x0 x1 A : Nat) (L K : List Cc) (w : World) (S : Nat → Prop) (hg : GI 0 w g L) (hF : GridIn w (fun b => b < A) g L) (gL : ∀ x ∈ L, Gd x.2) (hv : ∀ x ∈ L, vC x.1.1 x.1.2 = true) (lL : L.length ≤ 4096)
    (hK : Strict (K.map (·.1))) (hKL : ∀ x, x ∈ K ↔ x ∈ L) (hA : A ≤ w.heap.size) (hS : ∀ i, S i → A ≤ i) (b0 : Blk w x0 [.pointer (some ⟨g, 0, none⟩)] 23) (b1 : Blk w x1 [.int .i64 1, .int .i64 1, .int .i64 256, .int .i64 4096] 125) :
    SeqOw3 Tryz.prog 89 #[.pointer (some ⟨x0, 0, none⟩), .pointer (some ⟨x1, 0, none⟩)] encQ wtQ (TellQ w K) K.length S w := by
  intro J Jx Z W hkw hsz hJ _ hJz hY hj0
  have c0 : W.cell? ⟨x0, 0, none⟩ = some (.pointer (some ⟨g, 0, none⟩)) := (b0.kp hkw (fun x => x)).cell rfl
  have d0 : W.cell? ⟨x1, 0, none⟩ = some (.int .i64 1) := (b1.kp hkw (fun x => x)).cell rfl
  have d1 : W.cell? ⟨x1, 1, none⟩ = some (.int .i64 1) := (b1.kp hkw (fun x => x)).cell rfl
  have d2 : W.cell? ⟨x1, 2, none⟩ = some (.int .i64 256) := (b1.kp hkw (fun x => x)).cell rfl
  have d3 : W.cell? ⟨x1, 3, none⟩ = some (.int .i64 4096) := (b1.kp hkw (fun x => x)).cell rfl
  have HWi : Hid (Calls Tryz.prog 90 #[.pointer (some ⟨g, 0, none⟩), .agg #[.int .i64 1, .int .i64 1, .int .i64 256, .int .i64 4096]] W fun e w' => ∃ b ys, e = .returned (.slice (some ⟨b, 0, none⟩) ys.length ys.length) ∧ WiR W w' (fun b => b < A) L b ys) := within_at g _ L W (hg.kp hkw) (hF.kp hkw) gL hv lL
  have HSZ : Hid (w.heap.size + 2 ≤ W.heap.size) := hsz
  have HJ : Hid (∀ k Z W W', J k Z W → Kp W W' Nul → J k Z W') := hJ
  have HJZ : Hid (∀ k Z W, J k Z W → (∀ i, Z i → i < W.heap.size) ∧ ∀ i, i < w.heap.size → Z i → S i) := hJz
  have HY : Hid (∀ m k x Z W1, k < K.length → J k Z W1 → TellQ w K k x Z W1 → YieldAt Fence.wide m Tryz.prog (w.heap.size + 1) (encQ x) W1 fun e W' => (e = .returned (.bool true) ∧ (∃ Z', J (k + 1) Z' W' ∧ More Z Z' W1) ∧ Kp W1 W' (fun i => (Z i ∨ wtQ x i) ∨ i = w.heap.size + 1)) ∨ (e = .returned (.bool false) ∧ Jx W')) := hY
  have HJ0 : Hid (J 0 Z W) := hj0
  have HGd : Hid (∀ x ∈ L, Gd x.2) := gL
  have HA : Hid (A ≤ w.heap.size) := hA
  have HS : Hid (∀ i, S i → A ≤ i) := hS
  have HKK : Hid (∀ ys : List (Cc × Value), Strict (ys.map (·.1.1)) → (∀ x, x ∈ ys.map (·.1) ↔ x ∈ L) → ys.map (·.1) = K) := fun ys h1 h2 => same_in_order (by rw [List.map_map]; exact h1) hK (fun x => (h2 x).trans (hKL x).symm)
  have HLK : Hid (K.length ≤ 4096) := by
    have hnd : (K.map (·.1)).Nodup := strict_nodup hK
    have := nodup_le _ (L.map (·.1)) hnd (fun x hx => by
      obtain ⟨y, hy, rfl⟩ := List.mem_map.1 hx
      exact List.mem_map.2 ⟨y, (hKL y).1 hy, rfl⟩)
    rw [List.length_map, List.length_map] at this
    show _ ≤ _; omega
  clear hkw hsz hJ hJz hY hj0 hg hF gL hv lL hK hKL hA hS b0 b1
  simp only [List.append_toArray, List.cons_append, List.nil_append]
  refine (callsIn_wide (n := 8)).1 ?_
  refine callsIn_of_wp Tryz.func89 rfl trivial ?_ rfl
  simp only [Tryz.ntmps89, List.size_toArray, List.length_cons, List.length_nil, Nat.reduceAdd, Nat.reduceSub, Array.replicate_succ, Array.replicate_zero, List.push_toArray, List.append_toArray, List.nil_append, List.cons_append]
  gi_wp2_with (fail)
  refine ⟨trivial, (callsIn_wide.2 HWi.out).mono ?_⟩
  rintro e w2 ⟨b, ys, rfl, hwi⟩
  have HW2 : Hid (WiR W w2 (fun b => b < A) L b ys) := hwi
  have HYK : Hid (ys.map (·.1) = K) := HKK.out ys hwi.strict hwi.mem
  have hlen : ys.length = K.length := by rw [← HYK.out, List.length_map]
  clear hwi c0 d0 d1 d2 d3 HKK
  rw [hlen]
  generalize hn : K.length = n at *
  have HLEN : Hid (ys.length = n) := hlen
  have HN : Hid (K.length = n) := hn
  clear hn hlen
  gi_wp2_with (fail)
  gi_loopw [12] (fun i wr => ∃ (q : Nat) (Z : Nat → Prop), q ≤ n ∧ i = .int .i64 q ∧ J q Z wr ∧ InR W A b ys Z wr) (fun i _ => n - (RowKit.intOf i).toNat)
  case atStart =>
    refine ⟨0, Z, Nat.zero_le _, rfl, HJ.out _ _ _ _ HJ0.out HW2.out.kp, ?_⟩
    exact ⟨fun h => by have h1 := (HJZ.out _ _ _ HJ0.out).1 b h; have h2 := HW2.out.low; omega, HW2.out.rng, HW2.out.tree, HW2.out.kp.size⟩
  case round =>
    obtain ⟨q, Zq, hq, rfl, hjq, hin⟩ := hrel
    have HJQ : Hid (J q Zq wr) := hjq
    have HIN : Hid (InR W A b ys Zq wr) := hin
    clear hjq hin
    by_cases hlt : q < n
    · have hqt : q < ys.length := by rw [HLEN.out]; exact hlt
      obtain ⟨⟨⟨⟨c, s⟩, a⟩, sa⟩, hys⟩ : ∃ y, ys[q] = y := ⟨_, rfl⟩
      have hget : ys[q]? = some (((c, s), a), sa) := by rw [List.getElem?_eq_getElem hqt, hys]
      have HR : Hid (wr.rangeAt b (q * 23) (ptCells ((c, s), a) sa)) := HIN.out.rng q _ hget
      have htree : NdIn wr (fun i => i < A) sa a.t := HIN.out.tree _ (List.mem_of_getElem? hget)
      have O1 : Hid (sa.oneCell' = true) := htree.one
      have hKq : K[q]? = some ((c, s), a) := by rw [← HYK.out, List.getElem?_map, hget]; rfl
      have HKQ : Hid (K[q]? = some ((c, s), a)) := hKq
      have hgd : Gd a := HGd.out _ ((HW2.out.mem _).1 (List.mem_map.2 ⟨_, List.mem_of_getElem? hget, rfl⟩))
      have hbl : b < wr.heap.size := rangeAt_lt HR.out
      have HBL : Hid (b < wr.heap.size) := hbl
      have B5 : Blk (wr.alloc (.cells (ptCells ((c, s), a) sa).toArray 69)) wr.heap.size (ptCells ((c, s), a) sa) 69 := Blk.new wr _ _
      have HAt : Hid (∀ wq, Kp (wr.alloc (.cells (ptCells ((c, s), a) sa).toArray 69)) wq Nul → wq.rangeAt wr.heap.size 0 [.int .i64 c, .int .i64 s]) := fun wq k j v hj => by
        match j, hj with
        | 0, hj => cases hj; exact (B5.kp k (fun x => x)).cell rfl
        | 1, hj => cases hj; exact (B5.kp k (fun x => x)).cell rfl
      have HCo : Hid (∀ wq, Kp (wr.alloc (.cells (ptCells ((c, s), a) sa).toArray 69)) wq Nul → wq.rangeAt wr.heap.size 2 (a.cells sa)) := fun wq k j v hj => by
        refine (B5.kp k (fun x => x)).cell ?_
        show (ptCells ((c, s), a) sa)[2 + j]? = some v
        rw [Nat.add_comm 2 j]; exact hj
      have HCp : Hid (∀ wq, Kp (wr.alloc (.cells (ptCells ((c, s), a) sa).toArray 69)) wq Nul → Calls Tryz.prog 55 #[.agg (a.cells sa).toArray] wq fun e w' => ∃ sl', e = .returned (.agg (a.cells sl').toArray) ∧ (∃ fp, Own w' wq.heap.size sl' a.t fp) ∧ Kp wq w' Nul) := fun wq k => by
        have hk : Kp wr wq Nul := ((Kp.refl wr Nul).alloc _).trans k
        refine (gCopy_at a sa (fun i => i < A) wq hgd.x hgd.size hgd.ok (htree.kp hk (fun _ _ x => x))).mono ?_
        rintro e w' ⟨sl', fp, rfl, h1, h2⟩
        rw [hgd.cp] at h1 ⊢
        exact ⟨sl', rfl, ⟨fp, h1⟩, Kp.of_below h2⟩
      have hkb : (q : Int) + 1 ≤ 9223372036854775807 := by have := HLK.out; omega
      have hq0 : (0 : Int) ≤ (q : Int) := by omega
      have hqn : (q : Int) < (n : Int) := by omega
      clear hqt hys hget htree hKq hgd hbl B5
      gi_wp2_with (first
        | (refine loadIn_put rfl (.tmp 14) rfl b (q * 23) rfl (ptCells ((c, s), a) sa) HR.out rfl ?_)
        | (refine storeIn_new' rfl 69 (.tmp 5) (.tmp 15) rfl _ _ _ _ (by first | rfl | simp) rfl rfl rfl infoPut (all_oneCell_toArray (pt_one _ O1.out)) ?_)
        | fail)
      refine regIn_noPanic ?_
      refine wpIn_region_any (by kernel_rfl) ?_
      refine any_take (i := 0) (.func (.yield (w.heap.size + 1)) #[] #[]) (some 16) rfl rfl (by kernel_rfl) (by kernel_rfl) (by kernel_rfl) (fun _ _ _ h => h) rfl (fun _ => rfl) (fun _ => by go_simp) ?_
      simp only [Act.put, List.setIfInBounds_toArray, List.set_cons_zero, List.set_cons_succ]
      refine any_take (i := 1) (.pointer (some ⟨wr.heap.size, 0, none⟩)) (some 17) rfl rfl (by kernel_rfl) (by kernel_rfl) (by kernel_rfl) (fun _ _ _ h => h) rfl (fun _ => rfl) (fun _ => by go_simp) ?_
      simp only [Act.put, List.setIfInBounds_toArray, List.set_cons_zero, List.set_cons_succ]
      refine any_take (i := 3) (.pointer (some ⟨wr.heap.size, 2, none⟩)) (some 19) rfl rfl (by kernel_rfl) (by kernel_rfl) (by kernel_rfl) (fun _ _ _ h => h) rfl (fun _ => rfl) (fun _ => by go_simp) ?_
      simp only [Act.put, List.setIfInBounds_toArray, List.set_cons_zero, List.set_cons_succ]
      refine wpAnyIn_ready (rs := [2, 4]) (by kernel_rfl) (by simp) ?_
      intro i hi
      rcases List.mem_cons.1 hi with rfl | hi
      · clear hi
        refine any_val (v := .agg #[.int .i64 c, .int .i64 s]) (some 18) rfl rfl rfl rfl (fun c h => by cases h) (w' := (wr.alloc (.cells (ptCells ((c, s), a) sa).toArray 69)).drew) (exec_load_row 57 (.tmp 17) rfl wr.heap.size 0 rfl [.int .i64 c, .int .i64 s] _ (HAt.out (wr.alloc (.cells (ptCells ((c, s), a) sa).toArray 69)).drew ((Kp.refl _ _).drew)) Tryz.underlying57 rfl infoAddr2) ?_
        simp only [Act.put, List.setIfInBounds_toArray, List.set_cons_zero, List.set_cons_succ]
        refine wpAnyIn_ready (rs := [4]) (by kernel_rfl) (by simp) ?_
        intro i hi
        obtain rfl := List.mem_singleton.1 hi
        clear hi
        refine any_val (v := .agg (a.cells sa).toArray) (some 20) rfl rfl rfl rfl (fun c h => by cases h) (w' := (wr.alloc (.cells (ptCells ((c, s), a) sa).toArray 69)).drew) (exec_load_row 66 (.tmp 19) rfl wr.heap.size 2 rfl (a.cells sa) _ (HCo.out _ ((Kp.refl _ _).drew)) Tryz.underlying66 rfl infoContent) ?_
        simp only [Act.put, List.setIfInBounds_toArray, List.set_cons_zero, List.set_cons_succ]
        refine wpAnyIn_ready (rs := [5]) (by kernel_rfl) (by simp) ?_
        intro i hi
        obtain rfl := List.mem_singleton.1 hi
        clear hi
        refine any_call (f := 55) (args := #[.agg (a.cells sa).toArray]) (some 21) rfl rfl rfl (by decide) (fun c h => by cases h) (w' := (wr.alloc (.cells (ptCells ((c, s), a) sa).toArray 69)).drew) (by go_simp) ?_
        refine (HCp.out _ ((Kp.refl _ _).drew)).mono ?_
        rintro e w4 ⟨s4, rfl, ⟨f4, ho4⟩, hk4⟩
        refine ⟨_, rfl, ?_⟩
        simp only [Act.put, List.setIfInBounds_toArray, List.set_cons_zero, List.set_cons_succ]
        refine wpAnyIn_ready (rs := [6]) (by kernel_rfl) (by simp) ?_
        intro i hi
        obtain rfl := List.mem_singleton.1 hi
        clear hi
        have hK4 : Kp wr w4 Nul := ((Kp.refl wr Nul).alloc _).drew.trans hk4
        have hs5 : (wr.alloc (.cells (ptCells ((c, s), a) sa).toArray 69)).drew.heap.size = wr.heap.size + 1 := World.size_alloc _ _
        obtain ⟨fn, tms, asg, bod, hy, hR⟩ := HY.out 7 q ((((c, s), a), s4), f4) Zq w4 hlt (HJ.out _ _ _ _ HJQ.out hK4) ⟨HKQ.out, ho4.own, ho4.nodup, fun i hi => by
          have h1 := (ho4.new i hi).1
          have h2 := HSZ.out
          have h3 := HIN.out.size
          exact ⟨by omega, fun hz => by have := (HJZ.out _ _ _ HJQ.out).1 i hz; omega⟩⟩
        refine any_round (l := w.heap.size + 1) (f := fn) (tms := tms) (asg := asg) (bod := bod) (some 22) rfl rfl rfl (by decide) (fun c h => by cases h) (w' := w4) ?_ ?_
        · first
          | (go_simp; done)
          | (go_simp; exact hy)
        refine hR.mono ?_
        rintro e w6 (⟨rfl, ⟨Z6, hj6, hm6⟩, hk6⟩ | ⟨rfl, hx6⟩)
        rotate_left
        · have HX6 : Hid (Jx w6) := hx6
          refine ⟨_, rfl, ?_⟩
          simp only [Act.put, List.setIfInBounds_toArray, List.set_cons_zero, List.set_cons_succ]
          clear hy hR hx6 hk4 ho4 hK4 hs5
          refine wpAnyIn_ready (rs := [7]) (by kernel_rfl) (by simp) ?_
          intro i hi
          obtain rfl := List.mem_singleton.1 hi
          clear hi
          refine any_val (v := .bool true) (some 23) rfl rfl rfl rfl (fun c h => by cases h) (w' := w6) (by go_simp) ?_
          simp only [Act.put, List.setIfInBounds_toArray, List.set_cons_zero, List.set_cons_succ]
          refine wpAnyIn_done (by kernel_rfl) ?_ _
          refine NoPanic.normal ?_
          gi_wp2_with (fail)
          refine bodyPost_ret (res_none rfl _ _) rfl ?_
          exact ⟨⟨_, rfl⟩, .inr HX6.out⟩
        refine ⟨_, rfl, ?_⟩
        simp only [Act.put, List.setIfInBounds_toArray, List.set_cons_zero, List.set_cons_succ]
        have HJ6 : Hid (J (q + 1) Z6 w6) := hj6
        have HIN6 : Hid (InR W A b ys Z6 w6) := by
          have k6 : Kp wr w6 (fun i => (Zq i ∨ i ∈ f4) ∨ i = w.heap.size + 1) := hK4.of_nul.trans hk6
          have hbl := HBL.out
          have hb2 := HW2.out.low
          have hb3 := HSZ.out
          refine ⟨fun hz => ?_, fun i y hy => rangeAt_kp (HIN.out.rng i y hy) k6 (fun e => ?_), fun y hy => (HIN.out.tree y hy).kp k6 (fun i hi e => ?_), Nat.le_trans HIN.out.size k6.size⟩
          · rcases hm6 b hz with h | h
            · exact HIN.out.nz h
            · have h1 := HBL.out
              have h2 := hK4.size
              omega
          · rcases e with (e | e) | e
            · exact HIN.out.nz e
            · have := (ho4.new _ e).1; omega
            · omega
          · have hi' : i < A := hi
            have h1 := HA.out
            rcases e with (e | e) | e
            · have := HS.out i ((HJZ.out _ _ _ HJQ.out).2 i (by omega) e)
              omega
            · have := (ho4.new _ e).1; have := HIN.out.size; omega
            · omega
        clear hy hR hj6 hm6 hk6 hk4 ho4 hK4 hs5
        refine wpAnyIn_ready (rs := [7]) (by kernel_rfl) (by simp) ?_
        intro i hi
        obtain rfl := List.mem_singleton.1 hi
        clear hi
        refine any_val (v := .bool false) (some 23) rfl rfl rfl rfl (fun c h => by cases h) (w' := w6) (by go_simp) ?_
        simp only [Act.put, List.setIfInBounds_toArray, List.set_cons_zero, List.set_cons_succ]
        refine wpAnyIn_done (by kernel_rfl) ?_ _
        refine NoPanic.normal ?_
        gi_wp2_with (fail)
        exact ⟨⟨q + 1, Z6, by omega, by go_num, HJ6.out, HIN6.out⟩, by simp only [RowKit.intOf]; omega⟩
      · obtain rfl := List.mem_singleton.1 hi
        clear hi
        refine any_val (v := .agg (a.cells sa).toArray) (some 20) rfl rfl rfl rfl (fun c h => by cases h) (w' := (wr.alloc (.cells (ptCells ((c, s), a) sa).toArray 69)).drew) (exec_load_row 66 (.tmp 19) rfl wr.heap.size 2 rfl (a.cells sa) _ (HCo.out _ ((Kp.refl _ _).drew)) Tryz.underlying66 rfl infoContent) ?_
        simp only [Act.put, List.setIfInBounds_toArray, List.set_cons_zero, List.set_cons_succ]
        refine wpAnyIn_ready (rs := [2, 5]) (by kernel_rfl) (by simp) ?_
        intro i hi
        rcases List.mem_cons.1 hi with rfl | hi
        · clear hi
          refine any_val (v := .agg #[.int .i64 c, .int .i64 s]) (some 18) rfl rfl rfl rfl (fun c h => by cases h) (w' := (wr.alloc (.cells (ptCells ((c, s), a) sa).toArray 69)).drew) (exec_load_row 57 (.tmp 17) rfl wr.heap.size 0 rfl [.int .i64 c, .int .i64 s] _ (HAt.out (wr.alloc (.cells (ptCells ((c, s), a) sa).toArray 69)).drew ((Kp.refl _ _).drew)) Tryz.underlying57 rfl infoAddr2) ?_
          simp only [Act.put, List.setIfInBounds_toArray, List.set_cons_zero, List.set_cons_succ]
          refine wpAnyIn_ready (rs := [5]) (by kernel_rfl) (by simp) ?_
          intro i hi
          obtain rfl := List.mem_singleton.1 hi
          clear hi
          refine any_call (f := 55) (args := #[.agg (a.cells sa).toArray]) (some 21) rfl rfl rfl (by decide) (fun c h => by cases h) (w' := (wr.alloc (.cells (ptCells ((c, s), a) sa).toArray 69)).drew) (by go_simp) ?_
          refine (HCp.out _ ((Kp.refl _ _).drew)).mono ?_
          rintro e w4 ⟨s4, rfl, ⟨f4, ho4⟩, hk4⟩
          refine ⟨_, rfl, ?_⟩
          simp only [Act.put, List.setIfInBounds_toArray, List.set_cons_zero, List.set_cons_succ]
          refine wpAnyIn_ready (rs := [6]) (by kernel_rfl) (by simp) ?_
          intro i hi
          obtain rfl := List.mem_singleton.1 hi
          clear hi
          have hK4 : Kp wr w4 Nul := ((Kp.refl wr Nul).alloc _).drew.trans hk4
          have hs5 : (wr.alloc (.cells (ptCells ((c, s), a) sa).toArray 69)).drew.heap.size = wr.heap.size + 1 := World.size_alloc _ _
          obtain ⟨fn, tms, asg, bod, hy, hR⟩ := HY.out 7 q ((((c, s), a), s4), f4) Zq w4 hlt (HJ.out _ _ _ _ HJQ.out hK4) ⟨HKQ.out, ho4.own, ho4.nodup, fun i hi => by
            have h1 := (ho4.new i hi).1
            have h2 := HSZ.out
            have h3 := HIN.out.size
            exact ⟨by omega, fun hz => by have := (HJZ.out _ _ _ HJQ.out).1 i hz; omega⟩⟩
          refine any_round (l := w.heap.size + 1) (f := fn) (tms := tms) (asg := asg) (bod := bod) (some 22) rfl rfl rfl (by decide) (fun c h => by cases h) (w' := w4) ?_ ?_
          · first
            | (go_simp; done)
            | (go_simp; exact hy)
          refine hR.mono ?_
          rintro e w6 (⟨rfl, ⟨Z6, hj6, hm6⟩, hk6⟩ | ⟨rfl, hx6⟩)
          rotate_left
          · have HX6 : Hid (Jx w6) := hx6
            refine ⟨_, rfl, ?_⟩
            simp only [Act.put, List.setIfInBounds_toArray, List.set_cons_zero, List.set_cons_succ]
            clear hy hR hx6 hk4 ho4 hK4 hs5
            refine wpAnyIn_ready (rs := [7]) (by kernel_rfl) (by simp) ?_
            intro i hi
            obtain rfl := List.mem_singleton.1 hi
            clear hi
            refine any_val (v := .bool true) (some 23) rfl rfl rfl rfl (fun c h => by cases h) (w' := w6) (by go_simp) ?_
            simp only [Act.put, List.setIfInBounds_toArray, List.set_cons_zero, List.set_cons_succ]
            refine wpAnyIn_done (by kernel_rfl) ?_ _
            refine NoPanic.normal ?_
            gi_wp2_with (fail)
            refine bodyPost_ret (res_none rfl _ _) rfl ?_
            exact ⟨⟨_, rfl⟩, .inr HX6.out⟩
          refine ⟨_, rfl, ?_⟩
          simp only [Act.put, List.setIfInBounds_toArray, List.set_cons_zero, List.set_cons_succ]
          have HJ6 : Hid (J (q + 1) Z6 w6) := hj6
          have HIN6 : Hid (InR W A b ys Z6 w6) := by
            have k6 : Kp wr w6 (fun i => (Zq i ∨ i ∈ f4) ∨ i = w.heap.size + 1) := hK4.of_nul.trans hk6
            have hbl := HBL.out
            have hb2 := HW2.out.low
            have hb3 := HSZ.out
            refine ⟨fun hz => ?_, fun i y hy => rangeAt_kp (HIN.out.rng i y hy) k6 (fun e => ?_), fun y hy => (HIN.out.tree y hy).kp k6 (fun i hi e => ?_), Nat.le_trans HIN.out.size k6.size⟩
            · rcases hm6 b hz with h | h
              · exact HIN.out.nz h
              · have h1 := HBL.out
                have h2 := hK4.size
                omega
            · rcases e with (e | e) | e
              · exact HIN.out.nz e
              · have := (ho4.new _ e).1; omega
              · omega
            · have hi' : i < A := hi
              have h1 := HA.out
              rcases e with (e | e) | e
              · have := HS.out i ((HJZ.out _ _ _ HJQ.out).2 i (by omega) e)
                omega
              · have := (ho4.new _ e).1; have := HIN.out.size; omega
              · omega
          clear hy hR hj6 hm6 hk6 hk4 ho4 hK4 hs5
          refine wpAnyIn_ready (rs := [7]) (by kernel_rfl) (by simp) ?_
          intro i hi
          obtain rfl := List.mem_singleton.1 hi
          clear hi
          refine any_val (v := .bool false) (some 23) rfl rfl rfl rfl (fun c h => by cases h) (w' := w6) (by go_simp) ?_
          simp only [Act.put, List.setIfInBounds_toArray, List.set_cons_zero, List.set_cons_succ]
          refine wpAnyIn_done (by kernel_rfl) ?_ _
          refine NoPanic.normal ?_
          gi_wp2_with (fail)
          exact ⟨⟨q + 1, Z6, by omega, by go_num, HJ6.out, HIN6.out⟩, by simp only [RowKit.intOf]; omega⟩
        · obtain rfl := List.mem_singleton.1 hi
          clear hi
          refine any_call (f := 55) (args := #[.agg (a.cells sa).toArray]) (some 21) rfl rfl rfl (by decide) (fun c h => by cases h) (w' := (wr.alloc (.cells (ptCells ((c, s), a) sa).toArray 69)).drew) (by go_simp) ?_
          refine (HCp.out _ ((Kp.refl _ _).drew)).mono ?_
          rintro e w4 ⟨s4, rfl, ⟨f4, ho4⟩, hk4⟩
          refine ⟨_, rfl, ?_⟩
          simp only [Act.put, List.setIfInBounds_toArray, List.set_cons_zero, List.set_cons_succ]
          refine wpAnyIn_ready (rs := [2]) (by kernel_rfl) (by simp) ?_
          intro i hi
          obtain rfl := List.mem_singleton.1 hi
          clear hi
          refine any_val (v := .agg #[.int .i64 c, .int .i64 s]) (some 18) rfl rfl rfl rfl (fun c h => by cases h) (w' := w4) (exec_load_row 57 (.tmp 17) rfl wr.heap.size 0 rfl [.int .i64 c, .int .i64 s] _ (HAt.out w4 (((Kp.refl _ _).drew).trans hk4)) Tryz.underlying57 rfl infoAddr2) ?_
          simp only [Act.put, List.setIfInBounds_toArray, List.set_cons_zero, List.set_cons_succ]
          refine wpAnyIn_ready (rs := [6]) (by kernel_rfl) (by simp) ?_
          intro i hi
          obtain rfl := List.mem_singleton.1 hi
          clear hi
          have hK4 : Kp wr w4 Nul := ((Kp.refl wr Nul).alloc _).drew.trans hk4
          have hs5 : (wr.alloc (.cells (ptCells ((c, s), a) sa).toArray 69)).drew.heap.size = wr.heap.size + 1 := World.size_alloc _ _
          obtain ⟨fn, tms, asg, bod, hy, hR⟩ := HY.out 7 q ((((c, s), a), s4), f4) Zq w4 hlt (HJ.out _ _ _ _ HJQ.out hK4) ⟨HKQ.out, ho4.own, ho4.nodup, fun i hi => by
            have h1 := (ho4.new i hi).1
            have h2 := HSZ.out
            have h3 := HIN.out.size
            exact ⟨by omega, fun hz => by have := (HJZ.out _ _ _ HJQ.out).1 i hz; omega⟩⟩
          refine any_round (l := w.heap.size + 1) (f := fn) (tms := tms) (asg := asg) (bod := bod) (some 22) rfl rfl rfl (by decide) (fun c h => by cases h) (w' := w4) ?_ ?_
          · first
            | (go_simp; done)
            | (go_simp; exact hy)
          refine hR.mono ?_
          rintro e w6 (⟨rfl, ⟨Z6, hj6, hm6⟩, hk6⟩ | ⟨rfl, hx6⟩)
          rotate_left
          · have HX6 : Hid (Jx w6) := hx6
            refine ⟨_, rfl, ?_⟩
            simp only [Act.put, List.setIfInBounds_toArray, List.set_cons_zero, List.set_cons_succ]
            clear hy hR hx6 hk4 ho4 hK4 hs5
            refine wpAnyIn_ready (rs := [7]) (by kernel_rfl) (by simp) ?_
            intro i hi
            obtain rfl := List.mem_singleton.1 hi
            clear hi
            refine any_val (v := .bool true) (some 23) rfl rfl rfl rfl (fun c h => by cases h) (w' := w6) (by go_simp) ?_
            simp only [Act.put, List.setIfInBounds_toArray, List.set_cons_zero, List.set_cons_succ]
            refine wpAnyIn_done (by kernel_rfl) ?_ _
            refine NoPanic.normal ?_
            gi_wp2_with (fail)
            refine bodyPost_ret (res_none rfl _ _) rfl ?_
            exact ⟨⟨_, rfl⟩, .inr HX6.out⟩
          refine ⟨_, rfl, ?_⟩
          simp only [Act.put, List.setIfInBounds_toArray, List.set_cons_zero, List.set_cons_succ]
          have HJ6 : Hid (J (q + 1) Z6 w6) := hj6
          have HIN6 : Hid (InR W A b ys Z6 w6) := by
            have k6 : Kp wr w6 (fun i => (Zq i ∨ i ∈ f4) ∨ i = w.heap.size + 1) := hK4.of_nul.trans hk6
            have hbl := HBL.out
            have hb2 := HW2.out.low
            have hb3 := HSZ.out
            refine ⟨fun hz => ?_, fun i y hy => rangeAt_kp (HIN.out.rng i y hy) k6 (fun e => ?_), fun y hy => (HIN.out.tree y hy).kp k6 (fun i hi e => ?_), Nat.le_trans HIN.out.size k6.size⟩
            · rcases hm6 b hz with h | h
              · exact HIN.out.nz h
              · have h1 := HBL.out
                have h2 := hK4.size
                omega
            · rcases e with (e | e) | e
              · exact HIN.out.nz e
              · have := (ho4.new _ e).1; omega
              · omega
            · have hi' : i < A := hi
              have h1 := HA.out
              rcases e with (e | e) | e
              · have := HS.out i ((HJZ.out _ _ _ HJQ.out).2 i (by omega) e)
                omega
              · have := (ho4.new _ e).1; have := HIN.out.size; omega
              · omega
          clear hy hR hj6 hm6 hk6 hk4 ho4 hK4 hs5
          refine wpAnyIn_ready (rs := [7]) (by kernel_rfl) (by simp) ?_
          intro i hi
          obtain rfl := List.mem_singleton.1 hi
          clear hi
          refine any_val (v := .bool false) (some 23) rfl rfl rfl rfl (fun c h => by cases h) (w' := w6) (by go_simp) ?_
          simp only [Act.put, List.setIfInBounds_toArray, List.set_cons_zero, List.set_cons_succ]
          refine wpAnyIn_done (by kernel_rfl) ?_ _
          refine NoPanic.normal ?_
          gi_wp2_with (fail)
          exact ⟨⟨q + 1, Z6, by omega, by go_num, HJ6.out, HIN6.out⟩, by simp only [RowKit.intOf]; omega⟩
    · have hqe : q = n := by omega
      subst hqe
      have hqn : ¬ ((q : Int) < (q : Int)) := by omega
      have HJN : Hid (∃ Z', J q Z' wr) := ⟨_, HJQ.out⟩
      gi_wp2_with (fail)
      go_end0
      exact ⟨⟨_, rfl⟩, .inl (by rw [HN.out]; exact HJN.out)⟩
end Go.Proofs.YthgeojgfjpcelabGreatDoor
