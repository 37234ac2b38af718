/- Move: MoveFormula, the walk. -/
import Derived.Test.YtbkcebbddhaifaaGreatDoorC62
import Derived.Test.YtbkcebbddhaifaaGreatDoorC53
namespace Go.Proofs.YtbkcebbddhaifaaGreatDoor
open Go.RowKit

theorem own_slice {w : World} {B : Nat} {sl : Value} {t : Nd} {fp : List Nat} (h : Own w B sl t fp) : ∃ (q : Option Addr) (L c : Nat), sl = .slice q L c ∧ L ≤ c ∧ (∀ i : Nat, i < L → ∃ g, q = some ⟨g, 0, none⟩) ∧ (∀ g o, q = some ⟨g, o, none⟩ → B ≤ g ∧ g < w.heap.size ∧ ∃ cs, w.heap[g]? = some (.cells cs 44 (0, 0)) ∧ cs.size = c * 15) := by
  obtain ⟨hd, ts⟩ := t
  have ho := h.own
  rw [NdOwn] at ho
  rcases ho with ⟨_, rfl, _⟩ | ⟨b, c, fps, cs, rfl, _, h3, _, h5, h6, rfl, _⟩
  · exact ⟨none, 0, 0, rfl, Nat.le_refl _, fun i hi => by omega, fun g o e => by cases e⟩
  · refine ⟨_, _, c, rfl, h3, fun i _ => ⟨b, rfl⟩, fun g o e => ?_⟩
    have eg : b = g := by injection e with e; injection e
    subst eg
    exact ⟨(h.new b (List.mem_cons_self)).1, (h.new b (List.mem_cons_self)).2, cs, h5, h6⟩
theorem own_len {w : World} {B : Nat} {q : Option Addr} {L c : Nat} {t : Nd} {fp : List Nat} (h : Own w B (.slice q L c) t fp) : L ≤ 9223372036854775807 := by
  obtain ⟨hd, ts⟩ := t
  have ho := h.own
  rw [NdOwn] at ho
  rcases ho with ⟨_, e, _⟩ | ⟨b, c', fps, cs, e, _, h3, h4, _⟩
  · injection e with _ e2 _; omega
  · injection e with _ e2 e3; unfold maxLen at h4; omega
set_option maxRecDepth 20000 in
set_option maxHeartbeats 16000000 in
theorem mvf_core (t A1 A2 : Nd) (E : Int) (sl : Value) (cols : Bool) (at' n : Int) (w : World) (hsz : t.size ≤ 1048576) (hok : t.ok) (hin : NdIn w (fun _ => True) sl t) (hv : VS w) (a1 : A1.ok) (a2 : A2.ok) (hs : tsame A1 A2 = true)
    (HFm : Hid (∀ wq, Kp w wq Nul → Calls Tryz.prog 13 #[t.hd.val sl, .bool cols, .int .i64 at', .int .i64 n] wq fun e w' => ∃ sl' fp, e = .returned (.tuple #[A1.hd.val sl', .int .i64 E]) ∧ Own w' wq.heap.size sl' A1 fp ∧ Kp wq w' Nul))
    (HRf : Hid (∀ wq, Kp w wq Nul → Calls Tryz.prog 14 #[t.hd.val sl, .bool cols, .int .i64 at', .int .i64 n] wq fun e w' => ∃ sl' fp, e = .returned (.tuple #[A2.hd.val sl', .int .i64 E]) ∧ Own w' wq.heap.size sl' A2 fp ∧ Kp wq w' Nul)) :
    Calls Tryz.prog 4 #[t.hd.val sl, .bool cols, .int .i64 at', .int .i64 n] w fun e w' => e = .returned (.bool true) ∧ Kp w w' Nul := by
  obtain ⟨W1, hW1⟩ : ∃ W1, w.alloc (.cells (t.hd.cells sl).toArray 44) = W1 := ⟨_, rfl⟩
  have k1 : Kp w W1 Nul := by rw [← hW1]; exact (Kp.refl w Nul).alloc _
  have b1 : Blk W1 w.heap.size (t.hd.cells sl) 44 := by rw [← hW1]; exact Blk.new w _ _
  have HW1 : Hid (w.alloc (.cells #[.int .i64 t.hd.k, .int .i64 t.hd.o, .float .f64 t.hd.x, .string t.hd.s, .bool t.hd.b, .int .i64 t.hd.f, .int .i64 t.hd.c1, .int .i64 t.hd.r1, .bool t.hd.p1, .bool t.hd.q1, .int .i64 t.hd.c2, .int .i64 t.hd.r2, .bool t.hd.p2, .bool t.hd.q2, sl] 44) = W1) := hW1
  have HK1 : Hid (Kp w W1 Nul) := k1
  have HBn : Hid (∀ wq S, Kp W1 wq S → ¬ S w.heap.size → wq.heap[w.heap.size]? = some (.cells (t.hd.cells sl).toArray 44 (0, 0))) := fun wq S hq hs => b1.kp hq hs
  have HCp : Hid (∀ wq, Kp w wq Nul → Calls Tryz.prog 12 #[t.hd.val sl] wq fun e w' => ∃ sl' fp, e = .returned ((cpy t).hd.val sl') ∧ Own w' wq.heap.size sl' (cpy t) fp ∧ Kp wq w' Nul) := fun wq k => (copy_at t sl (fun _ => True) wq hsz hok (hin.kp k (fun _ _ x => x))).mono (by
    rintro e w' ⟨sl', fp, h1, h2, h3⟩
    exact ⟨sl', fp, h1, h2, Kp.of_below h3⟩)
  have HSA : Hid (∀ wq s1 s2 f1 f2, NdOwn wq s1 A1 f1 → NdOwn wq s2 A2 f2 → Calls Tryz.prog 15 #[A1.hd.val s1, A2.hd.val s2] wq fun e w' => e = .returned (.bool true) ∧ Kp wq w' Nul) := fun wq s1 s2 f1 f2 q1 q2 => by
    have h := tsame_at A1 A2 s1 s2 (fun _ => True) (fun _ => True) wq a1 a2 (q1.isIn (fun _ _ => trivial)) (q2.isIn (fun _ _ => trivial))
    rw [hs] at h
    exact h.mono fun e w' h => ⟨h.1, Kp.of_gr h.2⟩
  have HSN : Hid (∀ wq s2 f2, Kp w wq Nul → NdOwn wq s2 (cpy t) f2 → Calls Tryz.prog 15 #[t.hd.val sl, (cpy t).hd.val s2] wq fun e w' => e = .returned (.bool true) ∧ Kp wq w' Nul) := fun wq s2 f2 k q2 => by
    have h := tsame_at t (cpy t) sl s2 (fun _ => True) (fun _ => True) wq hok (cpy_ok t hok) (hin.kp k (fun _ _ x => x)) (q2.isIn (fun _ _ => trivial))
    have e : tsame t (cpy t) = true := by rw [← tsame_cpy, tsame_refl]
    rw [e] at h
    exact h.mono fun e w' h => ⟨h.1, Kp.of_gr h.2⟩
  have HKn : Hid (∀ wq, Kp w wq Nul → Calls Tryz.prog 9 #[] wq fun e w' => e = .returned (.bool true) ∧ Kp wq w' Nul) := fun wq k => known22 wq (hv.kp k)
  clear hW1 k1 b1 hsz hok hin hv a1 a2 hs
  generalize hC : cpy t = C at *
  clear hC
  obtain ⟨hc, hhc⟩ : ∃ hc, C.hd = hc := ⟨_, rfl⟩
  obtain ⟨h1, hh1⟩ : ∃ h1, A1.hd = h1 := ⟨_, rfl⟩
  obtain ⟨h2, hh2⟩ : ∃ h2, A2.hd = h2 := ⟨_, rfl⟩
  rw [hhc] at HCp HSN
  rw [hh1] at HFm HSA
  rw [hh2] at HRf HSA
  clear hhc hh1 hh2
  generalize t.hd = h at *
  go_enter Tryz.func4, Tryz.ntmps4
  go_wp2_with (first | (rw [HW1.out]; refine load_node_law rfl (.tmp 4) rfl w.heap.size rfl (h.cells sl).toArray (HBn.out _ Nul (Kp.refl _ _) (fun x => x)) rfl ?_) | fail)
  refine (HCp.out _ HK1.out).mono ?_
  rintro e w2 ⟨slw, fpw, rfl, hown, hk2⟩
  have HOW : Hid (Own w2 W1.heap.size slw C fpw) := hown
  have K2 : Hid (Kp W1 w2 Nul) := hk2
  have ONW : Hid (slw.oneCell' = true) := hown.own.one
  clear hown hk2 HCp HW1
  go_wp2_with (first
    | (refine wpList_store_new rfl 44 (.tmp 9) (.tmp 18) rfl _ _ _ _ _ (by first | rfl | simp) rfl rfl rfl infoNode (Hd.one hc ONW.out) ?_; generalize hW3 : w2.alloc (Obj.cells _ 44) = W3; have K3 : Hid (Kp w2 W3 Nul) := (by show Kp _ _ _; rw [← hW3]; exact (Kp.refl _ _).alloc _); have HB3 : Hid (Blk W3 w2.heap.size (hc.cells slw) 44) := (by show Blk _ _ _ _; rw [← hW3]; exact Blk.new w2 _ _); have HS3 : Hid (W3.heap.size = w2.heap.size + 1) := (by show _ = _; rw [← hW3, World.size_alloc]); clear hW3)
    | (refine load_node_law rfl (.tmp 4) rfl w.heap.size rfl (h.cells sl).toArray (HBn.out _ Nul (K2.out.trans K3.out) (fun x => x)) rfl ?_)
    | fail)
  refine (HFm.out _ (HK1.out.trans (K2.out.trans K3.out))).mono ?_
  rintro e w4 ⟨sl1, fp1, rfl, hown1, hk4⟩
  have HO1 : Hid (Own w4 W3.heap.size sl1 A1 fp1) := hown1
  have K4 : Hid (Kp W3 w4 Nul) := hk4
  have ON1 : Hid (sl1.oneCell' = true) := hown1.own.one
  have HL : Hid (∃ (q : Option Addr) (L c : Nat), sl1 = .slice q L c ∧ L ≤ c ∧ (∀ i : Nat, i < L → ∃ g, q = some ⟨g, 0, none⟩) ∧ (∀ g o, q = some ⟨g, o, none⟩ → W3.heap.size ≤ g ∧ g < w4.heap.size ∧ ∃ cs, w4.heap[g]? = some (.cells cs 44 (0, 0)) ∧ cs.size = c * 15)) := own_slice hown1
  clear hown1 hk4
  have K14 : Hid (Kp W1 w4 Nul) := (K2.out.trans K3.out).trans K4.out
  go_wp2_with (first
    | (refine wpList_store_new rfl 44 (.tmp 10) (.tmp 25) rfl _ _ _ _ _ (by first | rfl | simp) rfl rfl rfl infoNode (Hd.one h1 ON1.out) ?_; generalize hW5 : w4.alloc (Obj.cells _ 44) = W5; have K5 : Hid (Kp w4 W5 Nul) := (by show Kp _ _ _; rw [← hW5]; exact (Kp.refl _ _).alloc _); have HB5 : Hid (Blk W5 w4.heap.size (h1.cells sl1) 44) := (by show Blk _ _ _ _; rw [← hW5]; exact Blk.new w4 _ _); have HS5 : Hid (W5.heap.size = w4.heap.size + 1) := (by show _ = _; rw [← hW5, World.size_alloc]); clear hW5)
    | (refine load_node_law rfl (.tmp 4) rfl w.heap.size rfl (h.cells sl).toArray (HBn.out _ Nul (K14.out.trans K5.out) (fun x => x)) rfl ?_)
    | fail)
  refine (HRf.out _ (HK1.out.trans (K14.out.trans K5.out))).mono ?_
  rintro e w6 ⟨sl2, fp2, rfl, hown2, hk6⟩
  have HO2 : Hid (Own w6 W5.heap.size sl2 A2 fp2) := hown2
  have K6 : Hid (Kp W5 w6 Nul) := hk6
  have ON2 : Hid (sl2.oneCell' = true) := hown2.own.one
  clear hown2 hk6 HRf
  go_wp2_with (first
    | (refine wpList_store_new rfl 44 (.tmp 12) (.tmp 33) rfl _ _ _ _ _ (by first | rfl | simp) rfl rfl rfl infoNode (Hd.one h2 ON2.out) ?_; generalize hW7 : w6.alloc (Obj.cells _ 44) = W7; have K7 : Hid (Kp w6 W7 Nul) := (by show Kp _ _ _; rw [← hW7]; exact (Kp.refl _ _).alloc _); have HB7 : Hid (Blk W7 w6.heap.size (h2.cells sl2) 44) := (by show Blk _ _ _ _; rw [← hW7]; exact Blk.new w6 _ _); have HS7 : Hid (W7.heap.size = w6.heap.size + 1) := (by show _ = _; rw [← hW7, World.size_alloc]); clear hW7)
    | (refine load_node_law rfl (.tmp 10) rfl w4.heap.size rfl (h1.cells sl1).toArray (HB5.out.kp (K6.out.trans K7.out) (fun x => x)) rfl ?_)
    | (refine load_node_law rfl (.tmp 12) rfl w6.heap.size rfl (h2.cells sl2).toArray HB7.out rfl ?_)
    | fail)
  have K47 : Hid (Kp w4 W7 Nul) := (K5.out.trans K6.out).trans K7.out
  refine (HSA.out W7 sl1 sl2 fp1 fp2 (HO1.out.own.mono (fun i hi => K47.out.block i (node_lt (HO1.out.own.node i hi)) (fun x => x))) (HO2.out.own.mono (fun i hi => K7.out.block i (node_lt (HO2.out.own.node i hi)) (fun x => x)))).mono ?_
  rintro e w8 ⟨rfl, hk8⟩
  have K8 : Hid (Kp W7 w8 Nul) := hk8
  clear hk8
  have K18 : Hid (Kp W1 w8 Nul) := (K14.out.trans K47.out).trans K8.out
  have K28 : Hid (Kp w2 w8 Nul) := ((K3.out.trans K4.out).trans K47.out).trans K8.out
  go_wp2_with (first
    | (refine load_node_law rfl (.tmp 4) rfl w.heap.size rfl (h.cells sl).toArray (HBn.out _ Nul K18.out (fun x => x)) rfl ?_)
    | (refine load_node_law rfl (.tmp 9) rfl w2.heap.size rfl (hc.cells slw).toArray (HB3.out.kp ((K4.out.trans K47.out).trans K8.out) (fun x => x)) rfl ?_)
    | fail)
  refine (HSN.out w8 slw fpw (HK1.out.trans K18.out) (HOW.out.own.mono (fun i hi => K28.out.block i (node_lt (HOW.out.own.node i hi)) (fun x => x)))).mono ?_
  rintro e w9 ⟨rfl, hk9⟩
  have K9 : Hid (Kp w8 w9 Nul) := hk9
  clear hk9
  obtain ⟨q, L, c, hsl, hLc, hq, hG⟩ := HL.out
  subst hsl
  have HQ : Hid (∀ i : Nat, i < L → ∃ g, q = some ⟨g, 0, none⟩) := hq
  have HG : Hid (∀ g o, q = some ⟨g, o, none⟩ → W3.heap.size ≤ g ∧ g < w4.heap.size ∧ ∃ cs, w4.heap[g]? = some (.cells cs 44 (0, 0)) ∧ cs.size = c * 15) := hG
  have K49 : Hid (Kp w4 w9 Nul) := (K47.out.trans K8.out).trans K9.out
  have K19 : Hid (Kp W1 w9 Nul) := K18.out.trans K9.out
  have HB9 : Hid (Blk w9 w4.heap.size (h1.cells (.slice q L c)) 44) := HB5.out.kp (((K6.out.trans K7.out).trans K8.out).trans K9.out) (fun x => x)
  have HLc : Hid (L ≤ c) := hLc
  have HLm : Hid (L ≤ 9223372036854775807) := own_len HO1.out
  clear hq hG hLc HL
  go_wp2_with fail
  go_loopw [14] (fun i wr => ∃ j : Nat, j ≤ L ∧ i = .int .i64 j ∧ Kp w9 wr (fun b => ∃ o, q = some ⟨b, o, none⟩) ∧ ∀ g o, q = some ⟨g, o, none⟩ → ∃ cs, wr.heap[g]? = some (.cells cs 44 (0, 0)) ∧ cs.size = c * 15) (fun i _ => L - (intOf i).toNat)
  case atStart =>
    refine ⟨0, Nat.zero_le _, rfl, Kp.refl _ _, fun g o e => ?_⟩
    obtain ⟨_, z2, cs, z3, z4⟩ := HG.out g o e
    exact ⟨cs, (K49.out.block g z2 (fun x => x)).trans z3, z4⟩
  case round =>
    obtain ⟨j, hj, rfl, hk, hcs⟩ := hrel
    have HKr : Hid (Kp w9 wr (fun b => ∃ o, q = some ⟨b, o, none⟩)) := hk
    have HCS : Hid (∀ g o, q = some ⟨g, o, none⟩ → ∃ cs, wr.heap[g]? = some (.cells cs 44 (0, 0)) ∧ cs.size = c * 15) := hcs
    have HNG : Hid (∀ b, (b < W3.heap.size ∨ w4.heap.size ≤ b) → ¬ ∃ o, q = some ⟨b, o, none⟩) := fun b hb ⟨o, e⟩ => by have := HG.out b o e; omega
    have HBr : Hid (Blk wr w4.heap.size (h1.cells (.slice q L c)) 44) := HB9.out.kp hk (HNG.out _ (.inr (Nat.le_refl _)))
    have x14 : wr.cell? ⟨w4.heap.size, 14, none⟩ = some (.slice q L c) := HBr.out.cell rfl
    clear hk hcs
    by_cases hlt : j < L
    · obtain ⟨g, rfl⟩ := HQ.out j hlt
      obtain ⟨cs, hcs, hcz⟩ := HCS.out g 0 rfl
      have TH : Hid (wr.there g (j * 15) 15) := there_of_block hcs _ _ (by have := HLc.out; have : (j + 1) * 15 ≤ c * 15 := Nat.mul_le_mul_right _ (by omega); omega)
      obtain ⟨W', hW'⟩ : ∃ W', wr.setCells g (j * 15) (Hd.cells { zHd with k := 99 } (.slice none 0 0)) = W' := ⟨_, rfl⟩
      have HW' : Hid (wr.setCells g (j * 15) (Hd.cells { zHd with k := 99 } (.slice none 0 0)) = W') := hW'
      have HKW : Hid (Kp wr W' (fun b => b = g)) := by show Kp _ _ _; rw [← hW']; exact setCells_kp (fun b => b = g) rfl _ _ _
      have HCW : Hid (∃ cs', W'.heap[g]? = some (.cells cs' 44 (0, 0)) ∧ cs'.size = c * 15) := by
        refine ⟨_, by rw [← hW']; exact heap_setCells_at _ _ _ _ hcs, ?_⟩
        rw [setAll_size]; exact hcz
      clear hcs hcz hW'
      have hj0 : (0 : Int) ≤ (j : Int) := by omega
      have hjl : (j : Int) < (L : Int) := by omega
      have hjm : (j : Int) + 1 ≤ 9223372036854775807 := by have := HLm.out; omega
      go_wp2_with (first | (refine wpList_store_to rfl 44 (.tmp 61) (.tmp 60) rfl g (j * 15) (Hd.cells { zHd with k := 99 } (.slice none 0 0)).toArray rfl rfl TH.out infoNode (Hd.one { zHd with k := 99 } rfl) W' HW'.out ?_) | fail)
      go_roundw
      case rel =>
        refine ⟨j + 1, by omega, by go_num, HKr.out.trans (HKW.out.mono (fun b _ e => ⟨0, by rw [show b = g from e]⟩)), fun g' o e => ?_⟩
        have eg : g = g' := by injection e with e; injection e
        subst eg
        exact HCW.out
      case measure => simp only [intOf]; omega
    · have hje : j = L := by omega
      subst hje
      have hjn : ¬ ((j : Int) < (j : Int)) := by omega
      have HS34 : Hid (w.heap.size < W3.heap.size ∧ w2.heap.size < W3.heap.size ∧ w4.heap.size < W5.heap.size ∧ W3.heap.size ≤ w4.heap.size) := ⟨by have := (HBn.out W1 Nul (Kp.refl _ _) (fun x => x)); have h1 := (Array.getElem?_eq_some_iff.1 this).1; have := K2.out.size; have := K3.out.size; omega, by have := HS3.out; omega, by have := HS5.out; omega, K4.out.size⟩
      have KWr : Hid (Kp w wr Nul) := (HK1.out.trans K19.out).trans' HKr.out (fun b hb e => HNG.out b (.inl (by have := HS34.out.1; omega)) e)
      go_wp2_with (first | (refine load_node_law rfl (.tmp 4) rfl w.heap.size rfl (h.cells sl).toArray (HBn.out _ (fun b => ∃ o, q = some ⟨b, o, none⟩) (K19.out.of_nul.trans HKr.out) (HNG.out _ (.inl HS34.out.1))) rfl ?_) | fail)
      refine (HFm.out _ KWr.out).mono ?_
      rintro e wa ⟨sl3, fp3, rfl, hown3, hka⟩
      have HO3 : Hid (Own wa wr.heap.size sl3 A1 fp3) := hown3
      have Ka : Hid (Kp wr wa Nul) := hka
      have ON3 : Hid (sl3.oneCell' = true) := hown3.own.one
      clear hown3 hka
      have K7a : Hid (Kp W7 wa (fun b => ∃ o, q = some ⟨b, o, none⟩)) := ((K8.out.trans K9.out).of_nul.trans HKr.out).trans Ka.out.of_nul
      have KG1 : Hid (Kp W1 wa (fun b => ∃ o, q = some ⟨b, o, none⟩)) := (K19.out.of_nul.trans HKr.out).trans Ka.out.of_nul
      have KG2 : Hid (Kp w2 wa (fun b => ∃ o, q = some ⟨b, o, none⟩)) := ((K28.out.trans K9.out).of_nul.trans HKr.out).trans Ka.out.of_nul
      have KG3 : Hid (Kp W3 wa (fun b => ∃ o, q = some ⟨b, o, none⟩)) := ((K4.out.trans K49.out).of_nul.trans HKr.out).trans Ka.out.of_nul
      have HN6 : Hid (w4.heap.size ≤ w6.heap.size) := by show _ ≤ _; have := K5.out.size; have := K6.out.size; omega
      go_wp2_with (first
        | (refine wpList_store_new rfl 44 (.tmp 15) (.tmp 68) rfl _ _ _ _ _ (by first | rfl | simp) rfl rfl rfl infoNode (Hd.one h1 ON3.out) ?_; generalize hWc : wa.alloc (Obj.cells _ 44) = Wc; have Kc : Hid (Kp wa Wc Nul) := (by show Kp _ _ _; rw [← hWc]; exact (Kp.refl _ _).alloc _); have HBc : Hid (Blk Wc wa.heap.size (h1.cells sl3) 44) := (by show Blk _ _ _ _; rw [← hWc]; exact Blk.new wa _ _); clear hWc)
        | (refine load_node_law rfl (.tmp 15) rfl wa.heap.size rfl (h1.cells sl3).toArray HBc.out rfl ?_)
        | (refine load_node_law rfl (.tmp 12) rfl w6.heap.size rfl (h2.cells sl2).toArray (HB7.out.kp (K7a.out.trans Kc.out.of_nul) (HNG.out _ (.inr HN6.out))) rfl ?_)
        | fail)
      refine (HSA.out Wc sl3 sl2 fp3 fp2 (HO3.out.own.mono (fun i hi => Kc.out.block i (node_lt (HO3.out.own.node i hi)) (fun x => x))) (HO2.out.own.mono (fun i hi => (K7.out.of_nul.trans (K7a.out.trans Kc.out.of_nul)).block i (node_lt (HO2.out.own.node i hi)) (HNG.out i (.inr (by have := (HO2.out.new i hi).1; have := HS34.out.2.2.1; omega)))))).mono ?_
      rintro e wd ⟨rfl, hkd⟩
      have Kd : Hid (Kp wa wd Nul) := Kc.out.trans hkd
      clear hkd
      go_wp2_with (first
        | (refine load_node_law rfl (.tmp 4) rfl w.heap.size rfl (h.cells sl).toArray (HBn.out _ _ (KG1.out.trans Kd.out.of_nul) (HNG.out _ (.inl HS34.out.1))) rfl ?_)
        | (refine load_node_law rfl (.tmp 9) rfl w2.heap.size rfl (hc.cells slw).toArray (HB3.out.kp (KG3.out.trans Kd.out.of_nul) (HNG.out _ (.inl HS34.out.2.1))) rfl ?_)
        | fail)
      refine (HSN.out wd slw fpw (KWr.out.trans (Ka.out.trans Kd.out)) (HOW.out.own.mono (fun i hi => (KG2.out.trans Kd.out.of_nul).block i (node_lt (HOW.out.own.node i hi)) (HNG.out i (.inl (by have := node_lt (HOW.out.own.node i hi); have := HS34.out.2.1; omega)))))).mono ?_
      rintro e we ⟨rfl, hke⟩
      have Ke : Hid (Kp wa we Nul) := Kd.out.trans hke
      clear hke
      go_wp2_with fail
      refine (HKn.out we (KWr.out.trans (Ka.out.trans Ke.out))).mono ?_
      rintro e wf ⟨rfl, hkf⟩
      have Kf : Hid (Kp wa wf Nul) := Ke.out.trans hkf
      clear hkf
      go_wp2_with fail
      go_ret
      exact ⟨rfl, KWr.out.trans (Ka.out.trans Kf.out)⟩
theorem zNd_own (w : World) (B : Nat) : Own w B (.slice none 0 0) zNd [] := ⟨by unfold zNd; rw [NdOwn]; exact .inl ⟨rfl, rfl, rfl⟩, List.nodup_nil, fun b hb => by simp at hb⟩
/-- MoveFormula is true of every formula of at most so many nodes. -/
theorem formula_law22 (t : Nd) (sl : Value) (cols : Bool) (at' n : Int) (w : World) (hsz : t.size ≤ 1048576) (hok : t.ok) (htx : t.txt) (hin : NdIn w (fun _ => True) sl t) (hv : VS w) :
    Calls Tryz.prog 4 #[t.hd.val sl, .bool cols, .int .i64 at', .int .i64 n] w fun e w' => e = .returned (.bool true) ∧ Kp w w' Nul := by
  by_cases hg : chk t = 0 ∧ lnOk cols at' n
  · refine mvf_core t (alN (lnF cols at' n) (cpy t)) (alN (lnF cols at' n) t) 0 sl cols at' n w hsz hok hin hv (alN_ok _ _ (cpy_ok t hok)) (alN_ok _ _ hok) (al_same _ t) (fun wq k => ?_) (fun wq k => ?_)
    · refine (mform_at t sl (fun _ => True) cols at' n wq hok (hin.kp k (fun _ _ x => x)) (hv.kp k)).mono ?_
      rintro e w' ⟨v, rfl, h⟩
      cases h with
      | err er he h kk =>
        rcases h with h | h
        · exact absurd hg.1 h.1
        · exact absurd hg.2 h.2.1
      | ok hc hl sl' fp' ho kk => exact ⟨sl', fp', rfl, ho, kk⟩
    · refine (rform_at t sl (fun _ => True) cols at' n wq hsz hok htx (hin.kp k (fun _ _ x => x))).mono ?_
      rintro e w' ⟨v, rfl, h⟩
      cases h with
      | err er he h kk =>
        rcases h with h | h
        · exact absurd hg.1 h.1
        · exact absurd hg.2 h.2.1
      | ok hc hl sl' fp' ho kk => exact ⟨sl', fp', rfl, ho, kk⟩
  · obtain ⟨E, hE⟩ : ∃ E, ∀ er : Int, (chk t ≠ 0 ∧ er = chk t ∨ chk t = 0 ∧ ¬ lnOk cols at' n ∧ er = 1) → er = E := by
      by_cases q : chk t = 0
      · exact ⟨1, fun er h => by rcases h with h | h; exact absurd q h.1; exact h.2.2⟩
      · exact ⟨chk t, fun er h => by rcases h with h | h; exact h.2; exact absurd h.1 q⟩
    refine mvf_core t zNd zNd E sl cols at' n w hsz hok hin hv zNd_ok zNd_ok (tsame_refl _) (fun wq k => ?_) (fun wq k => ?_)
    · refine (mform_at t sl (fun _ => True) cols at' n wq hok (hin.kp k (fun _ _ x => x)) (hv.kp k)).mono ?_
      rintro e w' ⟨v, rfl, h⟩
      cases h with
      | err er he h kk => exact ⟨.slice none 0 0, [], by rw [hE er h]; rfl, zNd_own _ _, kk⟩
      | ok hc hl sl' fp' ho kk => exact absurd ⟨hc, hl⟩ hg
    · refine (rform_at t sl (fun _ => True) cols at' n wq hsz hok htx (hin.kp k (fun _ _ x => x))).mono ?_
      rintro e w' ⟨v, rfl, h⟩
      cases h with
      | err er he h kk => exact ⟨.slice none 0 0, [], by rw [hE er h]; rfl, zNd_own _ _, kk⟩
      | ok hc hl sl' fp' ho kk => exact absurd ⟨hc, hl⟩ hg
end Go.Proofs.YtbkcebbddhaifaaGreatDoor
