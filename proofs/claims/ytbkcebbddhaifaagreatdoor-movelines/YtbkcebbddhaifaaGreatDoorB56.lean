/- Move: MoveLines, the walk. -/
import Derived.Test.YtbkcebbddhaifaaGreatDoorB55
namespace Go.Proofs.YtbkcebbddhaifaaGreatDoor
open Go.RowKit Go.Maps Go.Sort Go.Lib Go.Shelf
attribute [local go_sem] Oper.semAt_some

theorem ct_row {w : World} {b : Nat} {a : Ct} {sl : Value} {t : TypeId} (h : Blk w b (a.cells sl) t) : w.rangeAt b 6 (a.t.hd.cells sl) := rangeAt_mid (pre := [.int .i64 a.k, .int .i64 a.v.k, .float .f64 a.v.x, .string a.v.s, .bool a.v.b, .int .i64 a.v.f]) (l := a.t.hd.cells sl) (post := []) (by unfold Blk at h; rw [h]; rfl)
theorem gd_cpy {a : Ct} (h : Gd a) : cpy a.t = a.t := congrArg Ct.t h.cp
theorem gd_kind {a : Ct} (h : Gd a) : a.k = 1 ∨ a.k = 2 := by
  have hv := h.val
  have hk := h.k
  unfold gv validC at hv
  simp only [Bool.or_eq_true, Bool.and_eq_true, beq_iff_eq] at hv
  rcases hv with (q | q) | q
  · exact absurd q.1 hk
  · exact .inl q.1
  · exact .inr q.1
theorem gd_chk {a : Ct} (h : Gd a) (h2 : a.k = 2) : chk a.t = 0 := by
  have hv := h.val
  unfold gv validC at hv
  simp only [Bool.or_eq_true, Bool.and_eq_true, beq_iff_eq] at hv
  rcases hv with (q | q) | q
  · omega
  · omega
  · exact q.2.2

set_option maxRecDepth 20000 in
set_option maxHeartbeats 40000000 in
theorem lines_law22 (vl : Value) (xl : List (Cc × Value)) (cols : Bool) (line n : Int) (w : World) (hl : PutsIn w vl xl) (hline : I64 line) (hn : I64 n) (hv : VS w) :
    Calls Tryz.prog 7 #[vl, .bool cols, .int .i64 line, .int .i64 n] w fun e w' => e = .returned (.bool true) ∧ Kp w w' Nul := by
  have HMade : Hid (∀ wq, Kp w wq Nul → Calls Tryz.prog 18 #[vl] wq fun e w' => ∃ g L, e = .returned (.pointer (some ⟨g, 0, none⟩)) ∧ GI wq.heap.size w' g L ∧ Ok17 L ∧ Kp wq w' Nul) := fun wq k => made22 vl xl wq (hl.kp k) (hv.kp k)
  have HKn : Hid (∀ wq, Kp w wq Nul → Calls Tryz.prog 9 #[] wq fun e w' => e = .returned (.bool true) ∧ Kp wq w' Nul) := fun wq k => known22 wq (hv.kp k)
  have HPl : Hid (∀ wq, Calls Tryz.prog 19 #[.bool cols, .int .i64 line] wq fun e w' => (∃ k : Int, e = .returned (.int .i64 k) ∧ 1 ≤ k ∧ k ≤ (if cols then 256 else 4096)) ∧ w' = wq) := fun wq => place22 cols line hline wq
  have HPk : Hid (∀ wq, Calls Tryz.prog 20 #[.int .i64 n, .int .i64 81] wq fun e w' => (∃ r : Int, e = .returned (.int .i64 r) ∧ 0 ≤ r ∧ r < 81) ∧ w' = wq) := fun wq => (pick22 n 81 hn (by decide) wq).mono fun e w' ⟨q1, q2⟩ => ⟨⟨_, q1, by omega, (pkf_val n 81 (by decide)).2⟩, q2⟩
  have HLn : Hid (∀ g L (k p : Int) wq, GI 0 wq g L → Ok17 L → Kp w wq Nul → Calls Tryz.prog 21 #[.pointer (some ⟨g, 0, none⟩), .bool cols, .int .i64 k, .int .i64 p] wq fun e w' => ∃ v u, e = .returned (.tuple #[v, u]) ∧ LnR cols k p L wq w' (.tuple #[v, u])) := fun g L k p wq h1 h2 h3 => lines22 cols k p g L wq h1 h2 (hv.kp h3)
  have HV : Hid (VS w) := hv
  clear hl hline hn hv
  refine (callsIn_wide (n := 12)).1 ?_
  refine callsIn_of_wp_marks Tryz.func7 rfl trivial ?_ rfl
  simp only [Tryz.ntmps7, List.size_toArray, List.length_cons, List.length_nil, Nat.reduceAdd, Nat.reduceSub, Array.replicate_succ, Array.replicate_zero, List.push_toArray, List.append_toArray, List.nil_append, List.cons_append]
  refine wpIn_wide.2 ?_
  go_wp2_with fail
  obtain ⟨W0, hW0⟩ : ∃ W0, (w.alloc (.cells #[.bool cols] 4)).alloc (.cells #[.bool false] 4) = W0 := ⟨_, rfl⟩
  rw [hW0]
  have s0 : W0.heap.size = w.heap.size + 2 := by rw [← hW0, World.size_alloc, World.size_alloc]
  have k0 : Kp w W0 Nul := by rw [← hW0]; exact ((Kp.refl w Nul).alloc _).alloc _
  have b5 : Blk W0 w.heap.size [.bool cols] 4 := by rw [← hW0]; exact (Blk.new w _ _).alloc _
  have b8 : Blk W0 (w.heap.size + 1) [.bool false] 4 := by
    rw [← hW0]
    have := Blk.new (w.alloc (.cells #[.bool cols] 4)) [.bool false] 4
    rw [World.size_alloc] at this
    exact this
  clear hW0
  refine (HMade.out W0 k0).mono ?_
  rintro e w1 ⟨g, L, rfl, hg1, hL, hk1⟩
  have HS : Hid (W0.heap.size = w.heap.size + 2) := s0
  have HB5 : Hid (∀ wq, Kp w1 wq Nul → Blk wq w.heap.size [.bool cols] 4) := fun wq k => (b5.kp hk1 (fun x => x)).kp k (fun x => x)
  have HB8 : Hid (∀ wq, Kp w1 wq Nul → Blk wq (w.heap.size + 1) [.bool false] 4) := fun wq k => (b8.kp hk1 (fun x => x)).kp k (fun x => x)
  have HG1 : Hid (GI 0 w1 g L) := GridIn.mono hg1 (fun _ _ => Nat.zero_le _)
  have HOk : Hid (Ok17 L) := hL
  have HK1 : Hid (Kp w w1 Nul) := k0.trans hk1
  clear s0 k0 b5 b8 hg1 hL hk1 HMade
  generalize hp8 : w.heap.size + 1 = p8 at *
  have HP8 : Hid (w.heap.size + 1 = p8) := hp8
  clear hp8
  go_wp2_with fail
  refine (HKn.out w1 HK1.out).mono ?_
  rintro e w2 ⟨rfl, hk2⟩
  have K2 : Hid (Kp w1 w2 Nul) := hk2
  have l5 : w2.cell? ⟨w.heap.size, 0, none⟩ = some (.bool cols) := (HB5.out w2 hk2).cell rfl
  clear hk2 HKn
  go_wp2_with fail
  refine (HPl.out w2).mono ?_
  rintro e w2' ⟨⟨k, rfl, hk1, hk2⟩, hw⟩
  subst hw
  clear l5 HPl
  go_wp2_with fail
  refine (HPk.out _).mono ?_
  rintro e w3' ⟨⟨r, rfl, hr0, hr1⟩, hw⟩
  subst hw
  clear HPk
  obtain ⟨p, hp⟩ : ∃ p, r - 40 = p := ⟨_, rfl⟩
  have hpl : -40 ≤ p ∧ p ≤ 40 := by omega
  obtain ⟨W3, hW3⟩ : ∃ W3, (w2'.alloc (.cells #[.int .i64 k] 3)).alloc (.cells #[.int .i64 p] 3) = W3 := ⟨_, rfl⟩
  have k23 : Kp w2' W3 Nul := by rw [← hW3]; exact ((Kp.refl _ _).alloc _).alloc _
  have b10 : Blk W3 w2'.heap.size [.int .i64 k] 3 := by rw [← hW3]; exact (Blk.new w2' _ _).alloc _
  have b11 : Blk W3 (w2'.heap.size + 1) [.int .i64 p] 3 := by
    rw [← hW3]
    have := Blk.new (w2'.alloc (.cells #[.int .i64 k] 3)) [.int .i64 p] 3
    rw [World.size_alloc] at this
    exact this
  have HOL : Hid (lnOk cols k p) := by
    show lnOk cols k p
    unfold lnOk
    cases cols
    · exact ⟨hk1, hk2, by simp; omega, by simp; omega⟩
    · exact ⟨hk1, hk2, by simp; omega, by simp; omega⟩
  have HKB : Hid (1 ≤ k ∧ k ≤ 4096 ∧ -40 ≤ p ∧ p ≤ 40) := ⟨hk1, by cases cols <;> simp at hk2 <;> omega, hpl⟩
  have K3 : Hid (Kp w1 W3 Nul) := K2.out.trans k23
  have HB10 : Hid (∀ wq, Kp W3 wq Nul → Blk wq w2'.heap.size [.int .i64 k] 3) := fun wq k => b10.kp k (fun x => x)
  have HB11 : Hid (∀ wq, Kp W3 wq Nul → Blk wq (w2'.heap.size + 1) [.int .i64 p] 3) := fun wq k => b11.kp k (fun x => x)
  have HS2 : Hid (w1.heap.size ≤ w2'.heap.size ∧ W3.heap.size = w2'.heap.size + 2) := ⟨K2.out.size, by rw [← hW3, World.size_alloc, World.size_alloc]⟩
  have l5 : ((w2'.alloc (.cells #[.int .i64 k] 3)).alloc (.cells #[.int .i64 p] 3)).cell? ⟨w.heap.size, 0, none⟩ = some (.bool cols) := by rw [hW3]; exact (HB5.out _ K3.out).cell rfl
  have HW3 : Hid ((w2'.alloc (.cells #[.int .i64 k] 3)).alloc (.cells #[.int .i64 p] 3) = W3) := hW3
  have hp1 : -40 ≤ p := hpl.1
  have hp2 : p ≤ 40 := hpl.2
  clear hk1 hk2 hpl k23 b10 b11 hW3
  go_wp2_with fail
  rw [HW3.out] at l5 ⊢
  clear l5 HW3
  refine (HLn.out g L k p W3 (HG1.out.kp K3.out) HOk.out (HK1.out.trans K3.out)).mono ?_
  rintro e w4 ⟨v, u, rfl, hR⟩
  clear HLn
  cases hR with
  | bad h _ => exact absurd HOL.out h
  | off _ hn _ k4 =>
    have K4 : Hid (Kp w1 w4 Nul) := K3.out.trans k4
    have l11 : (w4.alloc (.cells #[.pointer none] 24)).cell? ⟨w2'.heap.size + 1, 0, none⟩ = some (.int .i64 p) := (HB11.out _ (k4.alloc _)).cell rfl
    clear k4
    go_wp2_with (first | (refine wpList_store_var rfl 4 (.tmp 8) (.tmp 51) rfl p8 rfl (.bool true) rfl rfl 4 (.bool false) (HB8.out _ (K4.out.alloc _)) (by kernel_rfl) ?_; intro w5 hb5 hk5) | fail)
    refine ⟨_, results_bool rfl rfl hb5, rfl, ?_⟩
    exact ((HK1.out.trans K4.out).alloc _).trans' hk5 (fun i hi e => by have e' : i = p8 := e; have := HP8.out; omega)
  | ok _ hlo g2 M hb =>
    have K4 : Hid (Kp w1 w4 Nul) := K3.out.trans hb.kp
    have HBr : Hid (BrR (lnF cols k p) L W3 w4 g2 M) := hb
    have HLo : Hid (¬ (0 < p ∧ lostB (lnF cols k p) L = true)) := hlo
    obtain ⟨W5, hW5⟩ : ∃ W5, (w4.alloc (.cells #[.pointer (some ⟨g2, 0, none⟩)] 24)).alloc (.cells #[.int .i64 0] 3) = W5 := ⟨_, rfl⟩
    have k45 : Kp w4 W5 Nul := by rw [← hW5]; exact ((Kp.refl _ _).alloc _).alloc _
    have b12 : Blk W5 w4.heap.size [.pointer (some ⟨g2, 0, none⟩)] 24 := by rw [← hW5]; exact (Blk.new w4 _ _).alloc _
    have b14 : Blk W5 (w4.heap.size + 1) [.int .i64 0] 3 := by
      rw [← hW5]
      have := Blk.new (w4.alloc (.cells #[.pointer (some ⟨g2, 0, none⟩)] 24)) [.int .i64 0] 3
      rw [World.size_alloc] at this
      exact this
    have HW5 : Hid ((w4.alloc (.cells #[.pointer (some ⟨g2, 0, none⟩)] 24)).alloc (.cells #[.int .i64 0] 3) = W5) := hW5
    have HS5 : Hid (W5.heap.size = w4.heap.size + 2) := by show _ = _; rw [← hW5, World.size_alloc, World.size_alloc]
    have K45 : Hid (Kp w4 W5 Nul) := k45
    have HB12 : Hid (∀ wq, Kp W5 wq Nul → Blk wq w4.heap.size [.pointer (some ⟨g2, 0, none⟩)] 24) := fun wq k => b12.kp k (fun x => x)
    have HB14 : Hid (∀ wq, Kp W5 wq Nul → Blk wq (w4.heap.size + 1) [.int .i64 0] 3) := fun wq k => b14.kp k (fun x => x)
    have HAll : Hid (Calls Tryz.prog 26 #[.pointer (some ⟨g, 0, none⟩)] W5 fun e w' => ∃ x0 x1, e = .returned (.func (.func 121) #[] #[.pointer (some ⟨x0, 0, none⟩), .pointer (some ⟨x1, 0, none⟩)]) ∧ Blk w' x0 [.pointer (some ⟨g, 0, none⟩)] 24 ∧ Blk w' x1 [.int .i64 1, .int .i64 1, .int .i64 256, .int .i64 4096] 34 ∧ Kp W5 w' Nul) := all22 g W5
    clear hb hlo hW5 k45 b12 b14
    go_wp2_with fail
    rw [HW5.out]
    clear HW5
    refine HAll.out.mono ?_
    rintro e w6 ⟨x0, x1, rfl, hb0, hb1, hk6⟩
    have K6 : Hid (Kp W5 w6 Nul) := hk6
    have HX0 : Hid (Blk w6 x0 [.pointer (some ⟨g, 0, none⟩)] 24) := hb0
    have HX1 : Hid (Blk w6 x1 [.int .i64 1, .int .i64 1, .int .i64 256, .int .i64 4096] 34) := hb1
    clear hb0 hb1 hk6 HAll
    go_wp2_with fail
    obtain ⟨K, hKs, hKm⟩ := in_order HG1.out.once
    have hKl : K.length ≤ 4096 := by
      have := nodup_le _ (L.map (·.1)) (strict_nodup hKs) (fun x hx => by
        obtain ⟨y, hy, rfl⟩ := List.mem_map.1 hx
        exact List.mem_map.2 ⟨y, (hKm y).1 hy, rfl⟩)
      rw [List.length_map, List.length_map] at this
      have := HOk.out.len
      omega
    have HKl : Hid (K.length ≤ 4096) := hKl
    clear hKl
    have HKs : Hid (Strict (K.map (·.1))) := hKs
    have HKm : Hid (∀ x, x ∈ K ↔ x ∈ L) := hKm
    have K16 : Hid (Kp w1 w6 Nul) := (K4.out.trans K45.out).trans K6.out
    have HKP : Hid (Kp w w6 Nul) := HK1.out.trans K16.out
    have hgA : GridIn w6 (fun b => b < w1.heap.size) g L := HG1.out.low.kp K16.out
    have HI0 : MlI (lnF cols k p) cols k p w w6.heap.size ⟨w.heap.size, p8, w2'.heap.size, w2'.heap.size + 1, w4.heap.size, w4.heap.size + 1⟩ g2 K M 0 (fun i => i = w4.heap.size + 1) w6 := by
      have k36 : Kp W3 w6 Nul := (HBr.out.kp.trans K45.out).trans K6.out
      have s3 := HS2.out.2; have s1 := HS2.out.1; have s0 := HK1.out.size; have s4 := HBr.out.kp.size; have s5 := HS5.out; have s6 := K6.out.size; have e8 := HP8.out
      have c8 := HB8.out w6 K16.out
      have z1 : w.heap.size + 2 ≤ w1.heap.size := by have := (HB8.out w1 (Kp.refl _ _)).lt; omega
      exact ⟨HB5.out w6 K16.out, c8, HB10.out w6 k36, HB11.out w6 k36, HB12.out w6 K6.out, by show Blk _ _ _ _; simp [brL]; exact HB14.out w6 K6.out, ((HBr.out.gi.lows.mono (G := fun i => i < w6.heap.size ∧ i ≠ w4.heap.size + 1) (fun i hi => ⟨by omega, by omega⟩)).kp K45.out).kp K6.out, HKP.out, fun i => Iff.rfl, ⟨by show w.heap.size < _; omega, by show p8 < _; omega, by show w2'.heap.size < _; omega, by show w2'.heap.size + 1 < _; omega, by show w4.heap.size < _; omega, by show w4.heap.size + 1 < _; omega, by omega⟩, ⟨by show w.heap.size ≠ w4.heap.size + 1; omega, by show p8 ≠ w4.heap.size + 1; omega, by show w2'.heap.size ≠ w4.heap.size + 1; omega, by show w2'.heap.size + 1 ≠ w4.heap.size + 1; omega, by show w4.heap.size ≠ w4.heap.size + 1; omega, by show _ ≤ w4.heap.size + 1; omega⟩⟩
    have HI : Hid (MlI (lnF cols k p) cols k p w w6.heap.size ⟨w.heap.size, p8, w2'.heap.size, w2'.heap.size + 1, w4.heap.size, w4.heap.size + 1⟩ g2 K M 0 (fun i => i = w4.heap.size + 1) w6) := HI0
    have HGA : Hid (GridIn w6 (fun b => b < w1.heap.size) g L) := hgA
    have HA : Hid (w1.heap.size ≤ w4.heap.size ∧ w4.heap.size + 1 < w6.heap.size) := ⟨K4.out.size, HI0.lt.2.2.2.2.2.1⟩
    have HOkM : Hid (Ok17 M) := HBr.out.ok
    have HMem : Hid (∀ y, y ∈ M ↔ y ∈ brL (lnF cols k p) L) := HBr.out.mem
    have HB8c : Hid (∀ wq, Kp w1 wq Nul → Blk wq p8 [.bool false] 4) := HB8.out
    clear hgA HI0 hKs hKm HB5 HB8 HB10 HB11 HB12 HB14 HBr K45 K6 K4 K3 HS5 HS2
    have hA1 := HA.out.1
    have hA2 := HA.out.2
    generalize hact : Act.mk _ _ = a0
    refine wp_range_ow2 (α := (Cc × Value) × List Nat) (N := K.length) (gf := 121) (lb := #[.pointer (some ⟨x0, 0, none⟩), .pointer (some ⟨x1, 0, none⟩)]) (by rw [← hact]; rfl) (enters_of Tryz.func121 (by kernel_rfl) rfl) (encs := encQ) wtQ (fun _ => rfl) (TellQ w6 K) ?hT (fun i => i = w4.heap.size + 1) ?hseq (fun j Z W => MlI (lnF cols k p) cols k p w w6.heap.size ⟨w.heap.size, p8, w2'.heap.size, w2'.heap.size + 1, w4.heap.size, w4.heap.size + 1⟩ g2 K M j Z W) ?hZ ?hZl ?hI (fun i => i = w4.heap.size + 1) ?h0 ?hround ?hdone
    case hT => rintro k x Z W ⟨_, _, _, h⟩; exact ⟨fun q => by have := (h _ q).1; omega, fun q => by have := (h _ q).1; omega⟩
    case hseq => exact in1_seq2 g x0 x1 w1.heap.size L K w6 _ (HG1.out.kp K16.out) HGA.out HOk.out.gd HOk.out.at' HOk.out.len HKs.out HKm.out K16.out.size (fun i e => by have e' : i = w4.heap.size + 1 := e; omega) HX0.out HX1.out
    case hZ =>
      intro j Z W h
      exact ⟨fun q => by have := (h.z _).1 q; simp only at this; omega, fun q => by have := (h.z _).1 q; simp only at this; omega⟩
    case hZl =>
      intro j Z W h
      exact ⟨fun i hi => by have := (h.z _).1 hi; have h2 := h.c14.lt; simp only at this h2; omega, fun i _ hi => (h.z _).1 hi⟩
    case hI =>
      intro j Z W W' h q
      exact h.far q (fun i hi e => by rcases e with e | e <;> omega)
    case h0 => exact HI.out
    case hround =>
      subst hact
      rintro j ⟨⟨⟨⟨c, s⟩, a⟩, sl⟩, fp⟩ Z W KK hkN hsW hI ⟨hKk, hown, hnd, hfz⟩ hcont
      have HIj : Hid (MlI (lnF cols k p) cols k p w w6.heap.size ⟨w.heap.size, p8, w2'.heap.size, w2'.heap.size + 1, w4.heap.size, w4.heap.size + 1⟩ g2 K M j Z W) := hI
      have HKk : Hid (K[j]? = some ((c, s), a)) := hKk
      have HOwn : Hid (NdOwn W sl a.t fp) := hown
      have HFz : Hid (∀ i ∈ fp, w6.heap.size + 2 ≤ i ∧ ¬ Z i) := hfz
      have HSW : Hid (w6.heap.size + 2 ≤ W.heap.size) := hsW
      have O1 : Hid (sl.oneCell' = true) := hown.one
      have hmem : ((c, s), a) ∈ L := (HKm.out _).1 (List.mem_of_getElem? hKk)
      have HGd : Hid (Gd a) := HOk.out.gd _ hmem
      have HVc : Hid (vC c s = true) := HOk.out.at' _ hmem
      have HMm : Hid (((c, s), a) ∈ L) := hmem
      clear hI hKk hown hnd hfz hsW hmem HX0 HX1 HI
      simp only [List.zip_toArray, List.zip_cons_cons, List.zip_nil_right, List.foldl_toArray', List.foldl_cons, List.foldl_nil]
      gi_wp2_with (first
        | (refine storeIn_new' rfl 55 (.tmp 16) (.tmp 57) rfl _ _ _ _ (by first | rfl | simp) rfl rfl rfl infoContent (a.one O1.out) ?_)
        | fail)
      refine hcont _ _ (((Kp.refl W Nul).alloc _).alloc _) (fun V hV => ?_)
      have hW2 : Kp W ((W.alloc (.cells #[.int .i64 c, .int .i64 s] 32)).alloc (.cells (a.cells sl).toArray 55)) Nul := ((Kp.refl W Nul).alloc _).alloc _
      have hWV : Kp W V (fun i => i = w6.heap.size + 1) := (hW2.mono (fun _ _ q => q.elim)).trans hV
      have HIV : Hid (MlI (lnF cols k p) cols k p w w6.heap.size ⟨w.heap.size, p8, w2'.heap.size, w2'.heap.size + 1, w4.heap.size, w4.heap.size + 1⟩ g2 K M j Z V) := HIj.out.far hWV (fun i hi e => by have e' : i = w6.heap.size + 1 := e; omega)
      have HbA : Hid (Blk V W.heap.size [.int .i64 c, .int .i64 s] 32) := ((Blk.new W [.int .i64 c, .int .i64 s] 32).alloc _).kp hV (fun e => by have e' : W.heap.size = w6.heap.size + 1 := e; have := HSW.out; omega)
      have HbC : Hid (Blk V (W.heap.size + 1) (a.cells sl) 55) := by
        have h1 := Blk.new (W.alloc (.cells #[.int .i64 c, .int .i64 s] 32)) (a.cells sl) 55
        rw [World.size_alloc] at h1
        exact h1.kp hV (fun e => by have e' : W.heap.size + 1 = w6.heap.size + 1 := e; have := HSW.out; omega)
      have HOwnV : Hid (NdOwn V sl a.t fp) := HOwn.out.mono (fun i hi => hWV.block i (node_lt (HOwn.out.node i hi)) (fun e => by have e' : i = w6.heap.size + 1 := e; have := (HFz.out i hi).1; omega))
      clear hcont hV hW2 hWV HIj
      have hvb := HVc.out
      rw [vC_iff] at hvb
      obtain ⟨hc1, hc2, hs1, hs2⟩ := hvb
      have hk1 := HKB.out.1
      have hk2 := HKB.out.2.1
      have l10 : V.cell? ⟨w2'.heap.size, 0, none⟩ = some (.int .i64 k) := HIV.out.c10.cell rfl
      have l11 : V.cell? ⟨w2'.heap.size + 1, 0, none⟩ = some (.int .i64 p) := HIV.out.c11.cell rfl
      have l5 : V.cell? ⟨w.heap.size, 0, none⟩ = some (.bool cols) := HIV.out.c5.cell rfl
      have lA0 : V.cell? ⟨W.heap.size, 0, none⟩ = some (.int .i64 c) := HbA.out.cell rfl
      have lA1 : V.cell? ⟨W.heap.size, 1, none⟩ = some (.int .i64 s) := HbA.out.cell rfl
      have HAt : Hid (∀ x y w, Calls Tryz.prog 29 #[.int .i64 x, .int .i64 y] w fun e w' => e = .returned (.agg #[.int .i64 x, .int .i64 y]) ∧ Kp w w' Nul) := at22
      cases cols
      · by_cases hgone : lnGone false k p c s
        · have hg := hgone
          unfold lnGone lnZ at hg
          simp only [Bool.false_eq_true, if_false] at hg
          obtain ⟨g1, g2', g3⟩ := hg
          have hno : lnF false k p ((c, s), (c, s)) = none := ln_gone HOL.out HVc.out hgone
          have HEND := HIV.out.skip HKk.out hno
          clear hgone hno
          gi_wp2_with fail
          first
          | exact ⟨rfl, Kp.refl _ _, Z, HEND, fun i hi => .inl hi⟩
          | exact ⟨Kp.refl _ _, Z, HEND, fun i hi => .inl hi⟩
        · have hnn : p ≤ 0 ∨ lnF false k p ((c, s), (c, s)) ≠ none := by
            by_cases q : p ≤ 0
            · exact .inl q
            · refine .inr (lost_some (x := ((c, s), a)) ?_ HMm.out)
              cases hlb : lostB (lnF false k p) L with
              | false => rfl
              | true => exact absurd ⟨by omega, hlb⟩ HLo.out
          have hst := ln_stay HOL.out HVc.out hgone hnn
          have hg : ¬ (p < 0 ∧ k ≤ s ∧ s < k - p) := hgone
          clear hgone hnn
          unfold lnTo at hst
          simp only [Bool.false_eq_true, if_false] at hst
          have e5 : Hid (∀ wq, Kp V wq Nul → wq.cell? ⟨w.heap.size, 0, none⟩ = some (.bool false) ∧ wq.cell? ⟨w2'.heap.size, 0, none⟩ = some (.int .i64 k) ∧ wq.cell? ⟨w2'.heap.size + 1, 0, none⟩ = some (.int .i64 p) ∧ wq.cell? ⟨w4.heap.size, 0, none⟩ = some (.pointer (some ⟨g2, 0, none⟩)) ∧ wq.cell? ⟨W.heap.size, 0, none⟩ = some (.int .i64 c) ∧ wq.cell? ⟨W.heap.size, 1, none⟩ = some (.int .i64 s) ∧ wq.cell? ⟨W.heap.size + 1, 0, none⟩ = some (.int .i64 a.k)) := fun wq q => ⟨(HIV.out.c5.kp q (fun x => x)).cell rfl, (HIV.out.c10.kp q (fun x => x)).cell rfl, (HIV.out.c11.kp q (fun x => x)).cell rfl, (HIV.out.c12.kp q (fun x => x)).cell rfl, (HbA.out.kp q (fun x => x)).cell rfl, (HbA.out.kp q (fun x => x)).cell rfl, (HbC.out.kp q (fun x => x)).cell rfl⟩
          have HFm : Hid (∀ wq, Kp V wq Nul → Calls Tryz.prog 13 #[.agg (a.t.hd.cells sl).toArray, .bool false, .int .i64 k, .int .i64 p] wq fun e w' => ∃ (H : Hd) (sl' : Value) (er : Int), e = .returned (.tuple #[H.val sl', .int .i64 er]) ∧ sl'.oneCell' = true ∧ Kp wq w' Nul ∧ (a.k = 2 → er = 0 ∧ H = (alN (lnF false k p) a.t).hd ∧ NdIn w' (fun _ => True) sl' (alN (lnF false k p) a.t))) := fun wq q => (mform_at a.t sl (fun _ => True) false k p wq HGd.out.ok ((HOwnV.out.mono (fun i hi => q.block i (node_lt (HOwnV.out.node i hi)) (fun x => x))).isIn (fun _ _ => trivial)) (HV.out.kp (HIV.out.kp.trans q))).mono (by
            rintro e w' ⟨v, rfl, h⟩
            cases h with
            | err er he h kk =>
              refine ⟨zHd, .slice none 0 0, er, rfl, rfl, kk, fun h2 => ?_⟩
              rcases h with h | h
              · exact absurd (gd_chk HGd.out h2) h.1
              · exact absurd HOL.out h.2.1
            | ok hc hl sl' fp' ho kk =>
              refine ⟨_, sl', 0, rfl, ho.own.one, kk, fun h2 => ?_⟩
              rw [gd_cpy HGd.out] at ho ⊢
              exact ⟨rfl, rfl, ho.own.isIn (fun _ _ => trivial)⟩)
          have hak : a.k = 1 ∨ a.k = 2 := gd_kind HGd.out
          clear l5 l10 l11 lA0 lA1
          by_cases hkz : k ≤ s
          · have ez : lnAt k p s = s + p := by unfold lnAt; rw [if_pos hkz]
            rw [ez] at hst
            clear ez
            by_cases hpn : p < 0
            · have hsz : ¬ s < k - p := fun q => hg ⟨hpn, hkz, q⟩
              clear hg
              have hMy : ((c, s + p), alC (lnF false k p) a) ∈ M := (HMem.out _).2 (brL_mem.2 ⟨_, HMm.out, _, hst, rfl⟩)
              have hvy : vC (c) (s + p) = true := HOkM.out.at' _ hMy
              have hne : lnF false k p ((c, s), (c, s)) ≠ none := by rw [hst]; exact fun q => by cases q
              have HNe : Hid (lnF false k p ((c, s), (c, s)) ≠ none) := hne
              have HVal : Hid (∀ w, Calls Tryz.prog 30 #[.agg #[.int .i64 (c), .int .i64 (s + p)]] w fun e w' => e = .returned (.bool true) ∧ Kp w w' Nul) := fun w => (pValid_at (c) (s + p) w).mono fun e w' ⟨h1, h2⟩ => ⟨by rw [h1, hvy], by rw [h2]; exact (Kp.refl _ _).alloc _⟩
              obtain ⟨D, hD⟩ : ∃ D, alC (lnF false k p) a = D := ⟨_, rfl⟩
              have hDk : D.k = a.k := by rw [← hD]; rfl
              have hDt : D.t = alN (lnF false k p) a.t := by rw [← hD]; rfl
              rw [hD] at hMy
              have HGdD : Hid (Gd D) := HOkM.out.gd _ hMy
              have HDS : Hid (a.k = 1 → csame a D = true) := fun q => by show csame a D = true; rw [← hD, alC_plain _ HGd.out.val (by omega)]; exact csame_refl a
              have HGet : Hid (∀ wq, Kp V wq Nul → Calls Tryz.prog 27 #[.pointer (some ⟨g2, 0, none⟩), .agg #[.int .i64 (c), .int .i64 (s + p)]] wq fun e w' => ∃ slD fpD, e = .returned (D.val slD) ∧ Own w' wq.heap.size slD D.t fpD ∧ Kp wq w' Nul) := fun wq q => get_in g2 M wq (GridIn.mono (HIV.out.gi.kp q) (fun _ _ => Nat.zero_le _)) HOkM.out (c) (s + p) (by rw [vC_iff] at hvy; unfold I64; omega) (by rw [vC_iff] at hvy; unfold I64; omega) D hMy
              have HDk : Hid (D.k = a.k) := hDk
              have HDt : Hid (D.t = alN (lnF false k p) a.t) := hDt
              clear hD hDk hDt hMy hvy hne hst
              have f5 := e5.out V (Kp.refl _ _)
              obtain ⟨l5, l10, l11, l12, lA0, lA1, lC0⟩ := f5
              gi_wp2_with fail
              refine ⟨trivial, CallsIn.inRound _ ((callsIn_wide.2 (HAt.out _ _ _)).mono ?_)⟩
              rintro e v1 ⟨rfl, hk1'⟩
              clear l5 l10 l11 l12 lA0 lA1 lC0
              have KV1 : Hid (Kp V v1 Nul) := hk1'
              clear hk1'
              have f5 := e5.out _ (KV1.out.alloc (.cells #[.int .i64 c, .int .i64 (s + p)] 32))
              obtain ⟨l5, l10, l11, l12, lA0, lA1, lC0⟩ := f5
              obtain ⟨X, hX⟩ : ∃ X, v1.alloc (.cells #[.int .i64 c, .int .i64 (s + p)] 32) = X := ⟨_, rfl⟩
              have KX : Hid (Kp V X Nul) := by show Kp _ _ _; rw [← hX]; exact KV1.out.alloc _
              have HBY : Hid (∀ wq, Kp X wq Nul → wq.cell? ⟨v1.heap.size, 0, none⟩ = some (.int .i64 (c)) ∧ wq.cell? ⟨v1.heap.size, 1, none⟩ = some (.int .i64 (s + p))) := fun wq q => by
                have b : Blk X v1.heap.size [.int .i64 c, .int .i64 (s + p)] 32 := by rw [← hX]; exact Blk.new v1 _ _
                exact ⟨(b.kp q (fun x => x)).cell rfl, (b.kp q (fun x => x)).cell rfl⟩
              have HX : Hid (v1.alloc (.cells #[.int .i64 c, .int .i64 (s + p)] 32) = X) := hX
              clear hX
              gi_wp2_with fail
              rw [HX.out]
              clear HX l5 l10 l11 l12 lA0 lA1 lC0
              refine ⟨trivial, CallsIn.inRound _ ((callsIn_wide.2 (HGet.out _ KX.out)).mono ?_)⟩
              rintro e w8 ⟨slD, fpD, rfl, hownD, hk8⟩
              have K8 : Hid (Kp X w8 Nul) := hk8
              have HOwD : Hid (Own w8 X.heap.size slD D.t fpD) := hownD
              have OND : Hid (slD.oneCell' = true) := hownD.own.one
              clear hk8 hownD HGet
              gi_wp2_with (first
                | (refine storeIn_new' rfl 55 (.tmp 19) (.tmp 94) rfl _ _ _ _ (by first | rfl | simp) rfl rfl rfl infoContent (D.one OND.out) ?_; generalize hW9 : w8.alloc (Obj.cells _ 55) = W9; have K9 : Hid (Kp w8 W9 Nul) := (by show Kp _ _ _; rw [← hW9]; exact (Kp.refl _ _).alloc _); have HB9 : Hid (Blk W9 w8.heap.size (D.cells slD) 55) := (by show Blk _ _ _ _; rw [← hW9]; exact Blk.new w8 _ _); have y0 := (HBY.out W9 (K8.out.trans K9.out)).1; have y1 := (HBY.out W9 (K8.out.trans K9.out)).2; clear hW9)
                | fail)
              clear y0 y1
              refine ⟨trivial, CallsIn.inRound _ ((callsIn_wide.2 (HVal.out _)).mono ?_)⟩
              rintro e w10 ⟨rfl, hk10⟩
              have K10 : Hid (Kp W9 w10 Nul) := hk10
              have KV10 : Hid (Kp V w10 Nul) := ((KX.out.trans K8.out).trans K9.out).trans hk10
              clear hk10 HVal HBY
              have f5 := e5.out w10 KV10.out
              obtain ⟨l5, l10, l11, l12, lA0, lA1, lC0⟩ := f5
              have lD0 : w10.cell? ⟨w8.heap.size, 0, none⟩ = some (.int .i64 a.k) := by rw [← HDk.out]; exact (HB9.out.kp K10.out (fun x => x)).cell rfl
              have HBC10 : Hid (∀ wq, Kp w10 wq Nul → Blk wq (W.heap.size + 1) (a.cells sl) 55) := fun wq q => HbC.out.kp (KV10.out.trans q) (fun x => x)
              have HBD10 : Hid (∀ wq, Kp w10 wq Nul → Blk wq w8.heap.size (D.cells slD) 55) := fun wq q => HB9.out.kp (K10.out.trans q) (fun x => x)
              clear hak
              have hlN : (brL (lnF false k p) (K.take j)).length ≤ 4096 := by
                have h1 := brL_le (lnF false k p) (K.take j)
                have h2 := HKl.out
                rw [List.length_take] at h1
                omega
              obtain ⟨N, hN⟩ : ∃ N, (brL (lnF false k p) (K.take j)).length = N := ⟨_, rfl⟩
              rw [hN] at hlN
              have HN : Hid ((brL (lnF false k p) (K.take j)).length = N) := hN
              have HB14 : Hid (∀ wq, Kp V wq Nul → Blk wq (w4.heap.size + 1) [.int .i64 N] 3) := fun wq q => by have h := HIV.out.c14.kp q (fun x => x); rw [hN] at h; exact h
              have HC14 : Hid (∀ wq, Kp V wq Nul → wq.cell? ⟨w4.heap.size + 1, 0, none⟩ = some (.int .i64 N)) := fun wq q => (HB14.out wq q).cell rfl
              clear hN
              have hN0 : (0 : Int) ≤ (N : Int) := by omega
              have hN1 : (N : Int) ≤ 4096 := by omega
              rcases gd_kind HGd.out with hak | hak
              · rw [hak] at lC0 lD0
                have HSm : Hid (∀ wq, Kp w10 wq Nul → Calls Tryz.prog 28 #[.agg (a.cells sl).toArray, .agg (D.cells slD).toArray] wq fun e w' => e = .returned (.bool true) ∧ Kp wq w' Nul) := fun wq q => by
                  have h := gSame_at a D sl slD (fun _ => True) (fun _ => True) wq HGd.out.x HGdD.out.x HGd.out.ok HGdD.out.ok ((HOwnV.out.mono (fun i hi => (KV10.out.trans q).block i (node_lt (HOwnV.out.node i hi)) (fun x => x))).isIn (fun _ _ => trivial)) ((HOwD.out.own.mono (fun i hi => ((K9.out.trans K10.out).trans q).block i (node_lt (HOwD.out.own.node i hi)) (fun x => x))).isIn (fun _ _ => trivial))
                  rw [HDS.out hak] at h
                  exact h
                gi_wp2_with (first
                  | (refine loadIn_content rfl (.tmp 16) rfl (W.heap.size + 1) rfl (a.cells sl).toArray (HBC10.out _ (Kp.refl _ _)) rfl ?_)
                  | (refine loadIn_content rfl (.tmp 19) rfl w8.heap.size rfl (D.cells slD).toArray (HBD10.out _ (Kp.refl _ _)) rfl ?_)
                  | fail)
                refine ⟨trivial, CallsIn.inRound _ ((callsIn_wide.2 (HSm.out _ (Kp.refl _ _))).mono ?_)⟩
                rintro e w11 ⟨rfl, hk11⟩
                have K11 : Hid (Kp w10 w11 Nul) := hk11
                clear hk11 HSm l5 l10 l11 l12 lA0 lA1 lC0 lD0
                have lD0 : True := trivial
                have f5 := e5.out w11 (KV10.out.trans K11.out)
                obtain ⟨l5, l10, l11, l12, lA0, lA1, lC0⟩ := f5
                rw [hak] at lC0
                gi_wp2_with (first
                  | (refine loadIn_row rfl 44 (.tmp 117) rfl (W.heap.size + 1) 6 rfl (a.t.hd.cells sl) _ (ct_row (HBC10.out _ K11.out)) Tryz.underlying44 rfl infoNode ?_)
                  | fail)
                refine ⟨trivial, CallsIn.inRound _ ((callsIn_wide.2 (HFm.out _ (KV10.out.trans K11.out))).mono ?_)⟩
                rintro e w12 ⟨H, sl', er, rfl, hon, hk12, h2⟩
                have K12 : Hid (Kp w10 w12 Nul) := K11.out.trans hk12
                have ONH : Hid (sl'.oneCell' = true) := hon
                have HH2 : Hid (a.k = 2 → er = 0 ∧ H = (alN (lnF false k p) a.t).hd ∧ NdIn w12 (fun _ => True) sl' (alN (lnF false k p) a.t)) := h2
                clear hon hk12 h2 l5 l10 l11 l12 lA0 lA1 lC0 lD0
                gi_wp2_with (first
                  | (refine storeIn_new' rfl 44 (.tmp 20) (.tmp 123) rfl _ _ _ _ (by first | rfl | simp) rfl rfl rfl infoNode (Hd.one H ONH.out) ?_; generalize hW13 : w12.alloc (Obj.cells _ 44) = W13; have K13 : Hid (Kp w12 W13 Nul) := (by show Kp _ _ _; rw [← hW13]; exact (Kp.refl _ _).alloc _); have HB13 : Hid (Blk W13 w12.heap.size (H.cells sl') 44) := (by show Blk _ _ _ _; rw [← hW13]; exact Blk.new w12 _ _); have lC0 := (e5.out W13 ((KV10.out.trans K12.out).trans K13.out)).2.2.2.2.2.2; rw [hak] at lC0; have l14 := HC14.out W13 ((KV10.out.trans K12.out).trans K13.out); clear hW13)
                  | fail)
                all_goals first
                  | (exfalso; rename_i hu _; revert hu; unfold undef; simp; done)
                  | skip
                refine ⟨trivial, ?_⟩
                gi_wp2_with (first
                  | (refine storeIn_var rfl 3 (.tmp 14) (.tmp 140) rfl (w4.heap.size + 1) rfl (.int .i64 ((N : Int) + 1)) rfl rfl 3 (.int .i64 N) (HB14.out _ ((KV10.out.trans K12.out).trans K13.out)) (by kernel_rfl) ?_; intro Y hbY hkY)
                  | fail)
                have HKY : Kp V Y (fun i => (Z i ∨ i ∈ fp) ∨ W.heap.size ≤ i) := ((((KV10.out.trans K12.out).trans K13.out) : Kp V _ Nul).mono (fun _ _ q => q.elim)).trans (hkY.mono (fun i _ e => .inl (.inl ((HIV.out.z i).2 e))))
                have HEND := (HIV.out.nul ((KV10.out.trans K12.out).trans K13.out)).next HKk.out HNe.out hkY (by rw [HN.out]; exact hbY)
                first
                | exact ⟨rfl, HKY, Z, HEND, fun i hi => .inl hi⟩
                | exact ⟨HKY, Z, HEND, fun i hi => .inl hi⟩
              · rw [hak] at lC0 lD0
                gi_wp2_with fail
                refine ⟨trivial, ?_⟩
                gi_wp2_with (first
                  | (refine loadIn_row rfl 44 (.tmp 117) rfl (W.heap.size + 1) 6 rfl (a.t.hd.cells sl) _ (ct_row (HBC10.out _ (Kp.refl w10 Nul))) Tryz.underlying44 rfl infoNode ?_)
                  | fail)
                refine ⟨trivial, CallsIn.inRound _ ((callsIn_wide.2 (HFm.out _ (KV10.out.trans (Kp.refl w10 Nul)))).mono ?_)⟩
                rintro e w12 ⟨H, sl', er, rfl, hon, hk12, h2⟩
                have K12 : Hid (Kp w10 w12 Nul) := (Kp.refl w10 Nul).trans hk12
                have ONH : Hid (sl'.oneCell' = true) := hon
                have HH2 : Hid (a.k = 2 → er = 0 ∧ H = (alN (lnF false k p) a.t).hd ∧ NdIn w12 (fun _ => True) sl' (alN (lnF false k p) a.t)) := h2
                clear hon hk12 h2 l5 l10 l11 l12 lA0 lA1 lC0 lD0
                obtain ⟨rfl, rfl, hinH⟩ := HH2.out hak
                have HFS : Hid (∀ wq, Kp w12 wq Nul → Calls Tryz.prog 15 #[.agg ((alN (lnF false k p) a.t).hd.cells sl').toArray, .agg (D.t.hd.cells slD).toArray] wq fun e w' => e = .returned (.bool true) ∧ Kp wq w' Nul) := fun wq q => by
                  have h := tsame_at (alN (lnF false k p) a.t) D.t sl' slD (fun _ => True) (fun _ => True) wq (by rw [← HDt.out]; exact HGdD.out.ok) HGdD.out.ok (hinH.kp q (fun _ _ x => x)) ((HOwD.out.own.mono (fun i hi => (((K9.out.trans K10.out).trans K12.out).trans q).block i (node_lt (HOwD.out.own.node i hi)) (fun x => x))).isIn (fun _ _ => trivial))
                  rw [HDt.out, tsame_refl] at h
                  rw [HDt.out]
                  exact h.mono fun e w' h => ⟨h.1, Kp.of_gr h.2⟩
                clear hinH HH2
                obtain ⟨H, hH⟩ : ∃ H, (alN (lnF false k p) a.t).hd = H := ⟨_, rfl⟩
                rw [hH] at HFS ⊢
                clear hH
                gi_wp2_with (first
                  | (refine storeIn_new' rfl 44 (.tmp 20) (.tmp 123) rfl _ _ _ _ (by first | rfl | simp) rfl rfl rfl infoNode (Hd.one H ONH.out) ?_; generalize hW13 : w12.alloc (Obj.cells _ 44) = W13; have K13 : Hid (Kp w12 W13 Nul) := (by show Kp _ _ _; rw [← hW13]; exact (Kp.refl _ _).alloc _); have HB13 : Hid (Blk W13 w12.heap.size (H.cells sl') 44) := (by show Blk _ _ _ _; rw [← hW13]; exact Blk.new w12 _ _); have lC0 := (e5.out W13 ((KV10.out.trans K12.out).trans K13.out)).2.2.2.2.2.2; rw [hak] at lC0; have l14 := HC14.out W13 ((KV10.out.trans K12.out).trans K13.out); clear hW13)
                  | (refine loadIn_row rfl 44 (.tmp 20) rfl w12.heap.size 0 rfl (H.cells sl') _ (rangeAt_blk HB13.out) Tryz.underlying44 rfl infoNode ?_)
                  | (refine loadIn_row rfl 44 (.tmp 133) rfl w8.heap.size 6 rfl (D.t.hd.cells slD) _ (ct_row (HBD10.out _ (K12.out.trans K13.out))) Tryz.underlying44 rfl infoNode ?_)
                  | fail)
                refine ⟨trivial, CallsIn.inRound _ ((callsIn_wide.2 (HFS.out _ K13.out)).mono ?_)⟩
                rintro e w14 ⟨rfl, hk14⟩
                have K14 : Hid (Kp W13 w14 Nul) := hk14
                clear hk14 HFS l14 lC0
                have l14 := HC14.out w14 (((KV10.out.trans K12.out).trans K13.out).trans K14.out)
                gi_wp2_with (first
                  | (refine storeIn_var rfl 3 (.tmp 14) (.tmp 140) rfl (w4.heap.size + 1) rfl (.int .i64 ((N : Int) + 1)) rfl rfl 3 (.int .i64 N) (HB14.out _ (((KV10.out.trans K12.out).trans K13.out).trans K14.out)) (by kernel_rfl) ?_; intro Y hbY hkY)
                  | fail)
                have HKY : Kp V Y (fun i => (Z i ∨ i ∈ fp) ∨ W.heap.size ≤ i) := (((((KV10.out.trans K12.out).trans K13.out).trans K14.out) : Kp V _ Nul).mono (fun _ _ q => q.elim)).trans (hkY.mono (fun i _ e => .inl (.inl ((HIV.out.z i).2 e))))
                have HEND := (HIV.out.nul (((KV10.out.trans K12.out).trans K13.out).trans K14.out)).next HKk.out HNe.out hkY (by rw [HN.out]; exact hbY)
                first
                | exact ⟨rfl, HKY, Z, HEND, fun i hi => .inl hi⟩
                | exact ⟨HKY, Z, HEND, fun i hi => .inl hi⟩
            · clear hg
              have hMy : ((c, s + p), alC (lnF false k p) a) ∈ M := (HMem.out _).2 (brL_mem.2 ⟨_, HMm.out, _, hst, rfl⟩)
              have hvy : vC (c) (s + p) = true := HOkM.out.at' _ hMy
              have hne : lnF false k p ((c, s), (c, s)) ≠ none := by rw [hst]; exact fun q => by cases q
              have HNe : Hid (lnF false k p ((c, s), (c, s)) ≠ none) := hne
              have HVal : Hid (∀ w, Calls Tryz.prog 30 #[.agg #[.int .i64 (c), .int .i64 (s + p)]] w fun e w' => e = .returned (.bool true) ∧ Kp w w' Nul) := fun w => (pValid_at (c) (s + p) w).mono fun e w' ⟨h1, h2⟩ => ⟨by rw [h1, hvy], by rw [h2]; exact (Kp.refl _ _).alloc _⟩
              obtain ⟨D, hD⟩ : ∃ D, alC (lnF false k p) a = D := ⟨_, rfl⟩
              have hDk : D.k = a.k := by rw [← hD]; rfl
              have hDt : D.t = alN (lnF false k p) a.t := by rw [← hD]; rfl
              rw [hD] at hMy
              have HGdD : Hid (Gd D) := HOkM.out.gd _ hMy
              have HDS : Hid (a.k = 1 → csame a D = true) := fun q => by show csame a D = true; rw [← hD, alC_plain _ HGd.out.val (by omega)]; exact csame_refl a
              have HGet : Hid (∀ wq, Kp V wq Nul → Calls Tryz.prog 27 #[.pointer (some ⟨g2, 0, none⟩), .agg #[.int .i64 (c), .int .i64 (s + p)]] wq fun e w' => ∃ slD fpD, e = .returned (D.val slD) ∧ Own w' wq.heap.size slD D.t fpD ∧ Kp wq w' Nul) := fun wq q => get_in g2 M wq (GridIn.mono (HIV.out.gi.kp q) (fun _ _ => Nat.zero_le _)) HOkM.out (c) (s + p) (by rw [vC_iff] at hvy; unfold I64; omega) (by rw [vC_iff] at hvy; unfold I64; omega) D hMy
              have HDk : Hid (D.k = a.k) := hDk
              have HDt : Hid (D.t = alN (lnF false k p) a.t) := hDt
              clear hD hDk hDt hMy hvy hne hst
              have f5 := e5.out V (Kp.refl _ _)
              obtain ⟨l5, l10, l11, l12, lA0, lA1, lC0⟩ := f5
              gi_wp2_with fail
              refine ⟨trivial, CallsIn.inRound _ ((callsIn_wide.2 (HAt.out _ _ _)).mono ?_)⟩
              rintro e v1 ⟨rfl, hk1'⟩
              clear l5 l10 l11 l12 lA0 lA1 lC0
              have KV1 : Hid (Kp V v1 Nul) := hk1'
              clear hk1'
              have f5 := e5.out _ (KV1.out.alloc (.cells #[.int .i64 c, .int .i64 (s + p)] 32))
              obtain ⟨l5, l10, l11, l12, lA0, lA1, lC0⟩ := f5
              obtain ⟨X, hX⟩ : ∃ X, v1.alloc (.cells #[.int .i64 c, .int .i64 (s + p)] 32) = X := ⟨_, rfl⟩
              have KX : Hid (Kp V X Nul) := by show Kp _ _ _; rw [← hX]; exact KV1.out.alloc _
              have HBY : Hid (∀ wq, Kp X wq Nul → wq.cell? ⟨v1.heap.size, 0, none⟩ = some (.int .i64 (c)) ∧ wq.cell? ⟨v1.heap.size, 1, none⟩ = some (.int .i64 (s + p))) := fun wq q => by
                have b : Blk X v1.heap.size [.int .i64 c, .int .i64 (s + p)] 32 := by rw [← hX]; exact Blk.new v1 _ _
                exact ⟨(b.kp q (fun x => x)).cell rfl, (b.kp q (fun x => x)).cell rfl⟩
              have HX : Hid (v1.alloc (.cells #[.int .i64 c, .int .i64 (s + p)] 32) = X) := hX
              clear hX
              gi_wp2_with fail
              rw [HX.out]
              clear HX l5 l10 l11 l12 lA0 lA1 lC0
              refine ⟨trivial, CallsIn.inRound _ ((callsIn_wide.2 (HGet.out _ KX.out)).mono ?_)⟩
              rintro e w8 ⟨slD, fpD, rfl, hownD, hk8⟩
              have K8 : Hid (Kp X w8 Nul) := hk8
              have HOwD : Hid (Own w8 X.heap.size slD D.t fpD) := hownD
              have OND : Hid (slD.oneCell' = true) := hownD.own.one
              clear hk8 hownD HGet
              gi_wp2_with (first
                | (refine storeIn_new' rfl 55 (.tmp 19) (.tmp 94) rfl _ _ _ _ (by first | rfl | simp) rfl rfl rfl infoContent (D.one OND.out) ?_; generalize hW9 : w8.alloc (Obj.cells _ 55) = W9; have K9 : Hid (Kp w8 W9 Nul) := (by show Kp _ _ _; rw [← hW9]; exact (Kp.refl _ _).alloc _); have HB9 : Hid (Blk W9 w8.heap.size (D.cells slD) 55) := (by show Blk _ _ _ _; rw [← hW9]; exact Blk.new w8 _ _); have y0 := (HBY.out W9 (K8.out.trans K9.out)).1; have y1 := (HBY.out W9 (K8.out.trans K9.out)).2; clear hW9)
                | fail)
              clear y0 y1
              refine ⟨trivial, CallsIn.inRound _ ((callsIn_wide.2 (HVal.out _)).mono ?_)⟩
              rintro e w10 ⟨rfl, hk10⟩
              have K10 : Hid (Kp W9 w10 Nul) := hk10
              have KV10 : Hid (Kp V w10 Nul) := ((KX.out.trans K8.out).trans K9.out).trans hk10
              clear hk10 HVal HBY
              have f5 := e5.out w10 KV10.out
              obtain ⟨l5, l10, l11, l12, lA0, lA1, lC0⟩ := f5
              have lD0 : w10.cell? ⟨w8.heap.size, 0, none⟩ = some (.int .i64 a.k) := by rw [← HDk.out]; exact (HB9.out.kp K10.out (fun x => x)).cell rfl
              have HBC10 : Hid (∀ wq, Kp w10 wq Nul → Blk wq (W.heap.size + 1) (a.cells sl) 55) := fun wq q => HbC.out.kp (KV10.out.trans q) (fun x => x)
              have HBD10 : Hid (∀ wq, Kp w10 wq Nul → Blk wq w8.heap.size (D.cells slD) 55) := fun wq q => HB9.out.kp (K10.out.trans q) (fun x => x)
              clear hak
              have hlN : (brL (lnF false k p) (K.take j)).length ≤ 4096 := by
                have h1 := brL_le (lnF false k p) (K.take j)
                have h2 := HKl.out
                rw [List.length_take] at h1
                omega
              obtain ⟨N, hN⟩ : ∃ N, (brL (lnF false k p) (K.take j)).length = N := ⟨_, rfl⟩
              rw [hN] at hlN
              have HN : Hid ((brL (lnF false k p) (K.take j)).length = N) := hN
              have HB14 : Hid (∀ wq, Kp V wq Nul → Blk wq (w4.heap.size + 1) [.int .i64 N] 3) := fun wq q => by have h := HIV.out.c14.kp q (fun x => x); rw [hN] at h; exact h
              have HC14 : Hid (∀ wq, Kp V wq Nul → wq.cell? ⟨w4.heap.size + 1, 0, none⟩ = some (.int .i64 N)) := fun wq q => (HB14.out wq q).cell rfl
              clear hN
              have hN0 : (0 : Int) ≤ (N : Int) := by omega
              have hN1 : (N : Int) ≤ 4096 := by omega
              rcases gd_kind HGd.out with hak | hak
              · rw [hak] at lC0 lD0
                have HSm : Hid (∀ wq, Kp w10 wq Nul → Calls Tryz.prog 28 #[.agg (a.cells sl).toArray, .agg (D.cells slD).toArray] wq fun e w' => e = .returned (.bool true) ∧ Kp wq w' Nul) := fun wq q => by
                  have h := gSame_at a D sl slD (fun _ => True) (fun _ => True) wq HGd.out.x HGdD.out.x HGd.out.ok HGdD.out.ok ((HOwnV.out.mono (fun i hi => (KV10.out.trans q).block i (node_lt (HOwnV.out.node i hi)) (fun x => x))).isIn (fun _ _ => trivial)) ((HOwD.out.own.mono (fun i hi => ((K9.out.trans K10.out).trans q).block i (node_lt (HOwD.out.own.node i hi)) (fun x => x))).isIn (fun _ _ => trivial))
                  rw [HDS.out hak] at h
                  exact h
                gi_wp2_with (first
                  | (refine loadIn_content rfl (.tmp 16) rfl (W.heap.size + 1) rfl (a.cells sl).toArray (HBC10.out _ (Kp.refl _ _)) rfl ?_)
                  | (refine loadIn_content rfl (.tmp 19) rfl w8.heap.size rfl (D.cells slD).toArray (HBD10.out _ (Kp.refl _ _)) rfl ?_)
                  | fail)
                refine ⟨trivial, CallsIn.inRound _ ((callsIn_wide.2 (HSm.out _ (Kp.refl _ _))).mono ?_)⟩
                rintro e w11 ⟨rfl, hk11⟩
                have K11 : Hid (Kp w10 w11 Nul) := hk11
                clear hk11 HSm l5 l10 l11 l12 lA0 lA1 lC0 lD0
                have lD0 : True := trivial
                have f5 := e5.out w11 (KV10.out.trans K11.out)
                obtain ⟨l5, l10, l11, l12, lA0, lA1, lC0⟩ := f5
                rw [hak] at lC0
                gi_wp2_with (first
                  | (refine loadIn_row rfl 44 (.tmp 117) rfl (W.heap.size + 1) 6 rfl (a.t.hd.cells sl) _ (ct_row (HBC10.out _ K11.out)) Tryz.underlying44 rfl infoNode ?_)
                  | fail)
                refine ⟨trivial, CallsIn.inRound _ ((callsIn_wide.2 (HFm.out _ (KV10.out.trans K11.out))).mono ?_)⟩
                rintro e w12 ⟨H, sl', er, rfl, hon, hk12, h2⟩
                have K12 : Hid (Kp w10 w12 Nul) := K11.out.trans hk12
                have ONH : Hid (sl'.oneCell' = true) := hon
                have HH2 : Hid (a.k = 2 → er = 0 ∧ H = (alN (lnF false k p) a.t).hd ∧ NdIn w12 (fun _ => True) sl' (alN (lnF false k p) a.t)) := h2
                clear hon hk12 h2 l5 l10 l11 l12 lA0 lA1 lC0 lD0
                gi_wp2_with (first
                  | (refine storeIn_new' rfl 44 (.tmp 20) (.tmp 123) rfl _ _ _ _ (by first | rfl | simp) rfl rfl rfl infoNode (Hd.one H ONH.out) ?_; generalize hW13 : w12.alloc (Obj.cells _ 44) = W13; have K13 : Hid (Kp w12 W13 Nul) := (by show Kp _ _ _; rw [← hW13]; exact (Kp.refl _ _).alloc _); have HB13 : Hid (Blk W13 w12.heap.size (H.cells sl') 44) := (by show Blk _ _ _ _; rw [← hW13]; exact Blk.new w12 _ _); have lC0 := (e5.out W13 ((KV10.out.trans K12.out).trans K13.out)).2.2.2.2.2.2; rw [hak] at lC0; have l14 := HC14.out W13 ((KV10.out.trans K12.out).trans K13.out); clear hW13)
                  | fail)
                all_goals first
                  | (exfalso; rename_i hu _; revert hu; unfold undef; simp; done)
                  | skip
                refine ⟨trivial, ?_⟩
                gi_wp2_with (first
                  | (refine storeIn_var rfl 3 (.tmp 14) (.tmp 140) rfl (w4.heap.size + 1) rfl (.int .i64 ((N : Int) + 1)) rfl rfl 3 (.int .i64 N) (HB14.out _ ((KV10.out.trans K12.out).trans K13.out)) (by kernel_rfl) ?_; intro Y hbY hkY)
                  | fail)
                have HKY : Kp V Y (fun i => (Z i ∨ i ∈ fp) ∨ W.heap.size ≤ i) := ((((KV10.out.trans K12.out).trans K13.out) : Kp V _ Nul).mono (fun _ _ q => q.elim)).trans (hkY.mono (fun i _ e => .inl (.inl ((HIV.out.z i).2 e))))
                have HEND := (HIV.out.nul ((KV10.out.trans K12.out).trans K13.out)).next HKk.out HNe.out hkY (by rw [HN.out]; exact hbY)
                first
                | exact ⟨rfl, HKY, Z, HEND, fun i hi => .inl hi⟩
                | exact ⟨HKY, Z, HEND, fun i hi => .inl hi⟩
              · rw [hak] at lC0 lD0
                gi_wp2_with fail
                refine ⟨trivial, ?_⟩
                gi_wp2_with (first
                  | (refine loadIn_row rfl 44 (.tmp 117) rfl (W.heap.size + 1) 6 rfl (a.t.hd.cells sl) _ (ct_row (HBC10.out _ (Kp.refl w10 Nul))) Tryz.underlying44 rfl infoNode ?_)
                  | fail)
                refine ⟨trivial, CallsIn.inRound _ ((callsIn_wide.2 (HFm.out _ (KV10.out.trans (Kp.refl w10 Nul)))).mono ?_)⟩
                rintro e w12 ⟨H, sl', er, rfl, hon, hk12, h2⟩
                have K12 : Hid (Kp w10 w12 Nul) := (Kp.refl w10 Nul).trans hk12
                have ONH : Hid (sl'.oneCell' = true) := hon
                have HH2 : Hid (a.k = 2 → er = 0 ∧ H = (alN (lnF false k p) a.t).hd ∧ NdIn w12 (fun _ => True) sl' (alN (lnF false k p) a.t)) := h2
                clear hon hk12 h2 l5 l10 l11 l12 lA0 lA1 lC0 lD0
                obtain ⟨rfl, rfl, hinH⟩ := HH2.out hak
                have HFS : Hid (∀ wq, Kp w12 wq Nul → Calls Tryz.prog 15 #[.agg ((alN (lnF false k p) a.t).hd.cells sl').toArray, .agg (D.t.hd.cells slD).toArray] wq fun e w' => e = .returned (.bool true) ∧ Kp wq w' Nul) := fun wq q => by
                  have h := tsame_at (alN (lnF false k p) a.t) D.t sl' slD (fun _ => True) (fun _ => True) wq (by rw [← HDt.out]; exact HGdD.out.ok) HGdD.out.ok (hinH.kp q (fun _ _ x => x)) ((HOwD.out.own.mono (fun i hi => (((K9.out.trans K10.out).trans K12.out).trans q).block i (node_lt (HOwD.out.own.node i hi)) (fun x => x))).isIn (fun _ _ => trivial))
                  rw [HDt.out, tsame_refl] at h
                  rw [HDt.out]
                  exact h.mono fun e w' h => ⟨h.1, Kp.of_gr h.2⟩
                clear hinH HH2
                obtain ⟨H, hH⟩ : ∃ H, (alN (lnF false k p) a.t).hd = H := ⟨_, rfl⟩
                rw [hH] at HFS ⊢
                clear hH
                gi_wp2_with (first
                  | (refine storeIn_new' rfl 44 (.tmp 20) (.tmp 123) rfl _ _ _ _ (by first | rfl | simp) rfl rfl rfl infoNode (Hd.one H ONH.out) ?_; generalize hW13 : w12.alloc (Obj.cells _ 44) = W13; have K13 : Hid (Kp w12 W13 Nul) := (by show Kp _ _ _; rw [← hW13]; exact (Kp.refl _ _).alloc _); have HB13 : Hid (Blk W13 w12.heap.size (H.cells sl') 44) := (by show Blk _ _ _ _; rw [← hW13]; exact Blk.new w12 _ _); have lC0 := (e5.out W13 ((KV10.out.trans K12.out).trans K13.out)).2.2.2.2.2.2; rw [hak] at lC0; have l14 := HC14.out W13 ((KV10.out.trans K12.out).trans K13.out); clear hW13)
                  | (refine loadIn_row rfl 44 (.tmp 20) rfl w12.heap.size 0 rfl (H.cells sl') _ (rangeAt_blk HB13.out) Tryz.underlying44 rfl infoNode ?_)
                  | (refine loadIn_row rfl 44 (.tmp 133) rfl w8.heap.size 6 rfl (D.t.hd.cells slD) _ (ct_row (HBD10.out _ (K12.out.trans K13.out))) Tryz.underlying44 rfl infoNode ?_)
                  | fail)
                refine ⟨trivial, CallsIn.inRound _ ((callsIn_wide.2 (HFS.out _ K13.out)).mono ?_)⟩
                rintro e w14 ⟨rfl, hk14⟩
                have K14 : Hid (Kp W13 w14 Nul) := hk14
                clear hk14 HFS l14 lC0
                have l14 := HC14.out w14 (((KV10.out.trans K12.out).trans K13.out).trans K14.out)
                gi_wp2_with (first
                  | (refine storeIn_var rfl 3 (.tmp 14) (.tmp 140) rfl (w4.heap.size + 1) rfl (.int .i64 ((N : Int) + 1)) rfl rfl 3 (.int .i64 N) (HB14.out _ (((KV10.out.trans K12.out).trans K13.out).trans K14.out)) (by kernel_rfl) ?_; intro Y hbY hkY)
                  | fail)
                have HKY : Kp V Y (fun i => (Z i ∨ i ∈ fp) ∨ W.heap.size ≤ i) := (((((KV10.out.trans K12.out).trans K13.out).trans K14.out) : Kp V _ Nul).mono (fun _ _ q => q.elim)).trans (hkY.mono (fun i _ e => .inl (.inl ((HIV.out.z i).2 e))))
                have HEND := (HIV.out.nul (((KV10.out.trans K12.out).trans K13.out).trans K14.out)).next HKk.out HNe.out hkY (by rw [HN.out]; exact hbY)
                first
                | exact ⟨rfl, HKY, Z, HEND, fun i hi => .inl hi⟩
                | exact ⟨HKY, Z, HEND, fun i hi => .inl hi⟩
          · have ez : lnAt k p s = s := by unfold lnAt; rw [if_neg hkz]
            rw [ez] at hst
            clear ez
            by_cases hpn : p < 0
            · clear hg
              have hMy : ((c, s), alC (lnF false k p) a) ∈ M := (HMem.out _).2 (brL_mem.2 ⟨_, HMm.out, _, hst, rfl⟩)
              have hvy : vC (c) (s) = true := HOkM.out.at' _ hMy
              have hne : lnF false k p ((c, s), (c, s)) ≠ none := by rw [hst]; exact fun q => by cases q
              have HNe : Hid (lnF false k p ((c, s), (c, s)) ≠ none) := hne
              have HVal : Hid (∀ w, Calls Tryz.prog 30 #[.agg #[.int .i64 (c), .int .i64 (s)]] w fun e w' => e = .returned (.bool true) ∧ Kp w w' Nul) := fun w => (pValid_at (c) (s) w).mono fun e w' ⟨h1, h2⟩ => ⟨by rw [h1, hvy], by rw [h2]; exact (Kp.refl _ _).alloc _⟩
              obtain ⟨D, hD⟩ : ∃ D, alC (lnF false k p) a = D := ⟨_, rfl⟩
              have hDk : D.k = a.k := by rw [← hD]; rfl
              have hDt : D.t = alN (lnF false k p) a.t := by rw [← hD]; rfl
              rw [hD] at hMy
              have HGdD : Hid (Gd D) := HOkM.out.gd _ hMy
              have HDS : Hid (a.k = 1 → csame a D = true) := fun q => by show csame a D = true; rw [← hD, alC_plain _ HGd.out.val (by omega)]; exact csame_refl a
              have HGet : Hid (∀ wq, Kp V wq Nul → Calls Tryz.prog 27 #[.pointer (some ⟨g2, 0, none⟩), .agg #[.int .i64 (c), .int .i64 (s)]] wq fun e w' => ∃ slD fpD, e = .returned (D.val slD) ∧ Own w' wq.heap.size slD D.t fpD ∧ Kp wq w' Nul) := fun wq q => get_in g2 M wq (GridIn.mono (HIV.out.gi.kp q) (fun _ _ => Nat.zero_le _)) HOkM.out (c) (s) (by rw [vC_iff] at hvy; unfold I64; omega) (by rw [vC_iff] at hvy; unfold I64; omega) D hMy
              have HDk : Hid (D.k = a.k) := hDk
              have HDt : Hid (D.t = alN (lnF false k p) a.t) := hDt
              clear hD hDk hDt hMy hvy hne hst
              have f5 := e5.out V (Kp.refl _ _)
              obtain ⟨l5, l10, l11, l12, lA0, lA1, lC0⟩ := f5
              gi_wp2_with fail
              refine ⟨trivial, CallsIn.inRound _ ((callsIn_wide.2 (HAt.out _ _ _)).mono ?_)⟩
              rintro e v1 ⟨rfl, hk1'⟩
              clear l5 l10 l11 l12 lA0 lA1 lC0
              have KV1 : Hid (Kp V v1 Nul) := hk1'
              clear hk1'
              have f5 := e5.out _ (KV1.out.alloc (.cells #[.int .i64 c, .int .i64 (s)] 32))
              obtain ⟨l5, l10, l11, l12, lA0, lA1, lC0⟩ := f5
              obtain ⟨X, hX⟩ : ∃ X, v1.alloc (.cells #[.int .i64 c, .int .i64 (s)] 32) = X := ⟨_, rfl⟩
              have KX : Hid (Kp V X Nul) := by show Kp _ _ _; rw [← hX]; exact KV1.out.alloc _
              have HBY : Hid (∀ wq, Kp X wq Nul → wq.cell? ⟨v1.heap.size, 0, none⟩ = some (.int .i64 (c)) ∧ wq.cell? ⟨v1.heap.size, 1, none⟩ = some (.int .i64 (s))) := fun wq q => by
                have b : Blk X v1.heap.size [.int .i64 c, .int .i64 (s)] 32 := by rw [← hX]; exact Blk.new v1 _ _
                exact ⟨(b.kp q (fun x => x)).cell rfl, (b.kp q (fun x => x)).cell rfl⟩
              have HX : Hid (v1.alloc (.cells #[.int .i64 c, .int .i64 (s)] 32) = X) := hX
              clear hX
              gi_wp2_with fail
              rw [HX.out]
              clear HX l5 l10 l11 l12 lA0 lA1 lC0
              refine ⟨trivial, CallsIn.inRound _ ((callsIn_wide.2 (HGet.out _ KX.out)).mono ?_)⟩
              rintro e w8 ⟨slD, fpD, rfl, hownD, hk8⟩
              have K8 : Hid (Kp X w8 Nul) := hk8
              have HOwD : Hid (Own w8 X.heap.size slD D.t fpD) := hownD
              have OND : Hid (slD.oneCell' = true) := hownD.own.one
              clear hk8 hownD HGet
              gi_wp2_with (first
                | (refine storeIn_new' rfl 55 (.tmp 19) (.tmp 94) rfl _ _ _ _ (by first | rfl | simp) rfl rfl rfl infoContent (D.one OND.out) ?_; generalize hW9 : w8.alloc (Obj.cells _ 55) = W9; have K9 : Hid (Kp w8 W9 Nul) := (by show Kp _ _ _; rw [← hW9]; exact (Kp.refl _ _).alloc _); have HB9 : Hid (Blk W9 w8.heap.size (D.cells slD) 55) := (by show Blk _ _ _ _; rw [← hW9]; exact Blk.new w8 _ _); have y0 := (HBY.out W9 (K8.out.trans K9.out)).1; have y1 := (HBY.out W9 (K8.out.trans K9.out)).2; clear hW9)
                | fail)
              clear y0 y1
              refine ⟨trivial, CallsIn.inRound _ ((callsIn_wide.2 (HVal.out _)).mono ?_)⟩
              rintro e w10 ⟨rfl, hk10⟩
              have K10 : Hid (Kp W9 w10 Nul) := hk10
              have KV10 : Hid (Kp V w10 Nul) := ((KX.out.trans K8.out).trans K9.out).trans hk10
              clear hk10 HVal HBY
              have f5 := e5.out w10 KV10.out
              obtain ⟨l5, l10, l11, l12, lA0, lA1, lC0⟩ := f5
              have lD0 : w10.cell? ⟨w8.heap.size, 0, none⟩ = some (.int .i64 a.k) := by rw [← HDk.out]; exact (HB9.out.kp K10.out (fun x => x)).cell rfl
              have HBC10 : Hid (∀ wq, Kp w10 wq Nul → Blk wq (W.heap.size + 1) (a.cells sl) 55) := fun wq q => HbC.out.kp (KV10.out.trans q) (fun x => x)
              have HBD10 : Hid (∀ wq, Kp w10 wq Nul → Blk wq w8.heap.size (D.cells slD) 55) := fun wq q => HB9.out.kp (K10.out.trans q) (fun x => x)
              clear hak
              have hlN : (brL (lnF false k p) (K.take j)).length ≤ 4096 := by
                have h1 := brL_le (lnF false k p) (K.take j)
                have h2 := HKl.out
                rw [List.length_take] at h1
                omega
              obtain ⟨N, hN⟩ : ∃ N, (brL (lnF false k p) (K.take j)).length = N := ⟨_, rfl⟩
              rw [hN] at hlN
              have HN : Hid ((brL (lnF false k p) (K.take j)).length = N) := hN
              have HB14 : Hid (∀ wq, Kp V wq Nul → Blk wq (w4.heap.size + 1) [.int .i64 N] 3) := fun wq q => by have h := HIV.out.c14.kp q (fun x => x); rw [hN] at h; exact h
              have HC14 : Hid (∀ wq, Kp V wq Nul → wq.cell? ⟨w4.heap.size + 1, 0, none⟩ = some (.int .i64 N)) := fun wq q => (HB14.out wq q).cell rfl
              clear hN
              have hN0 : (0 : Int) ≤ (N : Int) := by omega
              have hN1 : (N : Int) ≤ 4096 := by omega
              rcases gd_kind HGd.out with hak | hak
              · rw [hak] at lC0 lD0
                have HSm : Hid (∀ wq, Kp w10 wq Nul → Calls Tryz.prog 28 #[.agg (a.cells sl).toArray, .agg (D.cells slD).toArray] wq fun e w' => e = .returned (.bool true) ∧ Kp wq w' Nul) := fun wq q => by
                  have h := gSame_at a D sl slD (fun _ => True) (fun _ => True) wq HGd.out.x HGdD.out.x HGd.out.ok HGdD.out.ok ((HOwnV.out.mono (fun i hi => (KV10.out.trans q).block i (node_lt (HOwnV.out.node i hi)) (fun x => x))).isIn (fun _ _ => trivial)) ((HOwD.out.own.mono (fun i hi => ((K9.out.trans K10.out).trans q).block i (node_lt (HOwD.out.own.node i hi)) (fun x => x))).isIn (fun _ _ => trivial))
                  rw [HDS.out hak] at h
                  exact h
                gi_wp2_with (first
                  | (refine loadIn_content rfl (.tmp 16) rfl (W.heap.size + 1) rfl (a.cells sl).toArray (HBC10.out _ (Kp.refl _ _)) rfl ?_)
                  | (refine loadIn_content rfl (.tmp 19) rfl w8.heap.size rfl (D.cells slD).toArray (HBD10.out _ (Kp.refl _ _)) rfl ?_)
                  | fail)
                refine ⟨trivial, CallsIn.inRound _ ((callsIn_wide.2 (HSm.out _ (Kp.refl _ _))).mono ?_)⟩
                rintro e w11 ⟨rfl, hk11⟩
                have K11 : Hid (Kp w10 w11 Nul) := hk11
                clear hk11 HSm l5 l10 l11 l12 lA0 lA1 lC0 lD0
                have lD0 : True := trivial
                have f5 := e5.out w11 (KV10.out.trans K11.out)
                obtain ⟨l5, l10, l11, l12, lA0, lA1, lC0⟩ := f5
                rw [hak] at lC0
                gi_wp2_with (first
                  | (refine loadIn_row rfl 44 (.tmp 117) rfl (W.heap.size + 1) 6 rfl (a.t.hd.cells sl) _ (ct_row (HBC10.out _ K11.out)) Tryz.underlying44 rfl infoNode ?_)
                  | fail)
                refine ⟨trivial, CallsIn.inRound _ ((callsIn_wide.2 (HFm.out _ (KV10.out.trans K11.out))).mono ?_)⟩
                rintro e w12 ⟨H, sl', er, rfl, hon, hk12, h2⟩
                have K12 : Hid (Kp w10 w12 Nul) := K11.out.trans hk12
                have ONH : Hid (sl'.oneCell' = true) := hon
                have HH2 : Hid (a.k = 2 → er = 0 ∧ H = (alN (lnF false k p) a.t).hd ∧ NdIn w12 (fun _ => True) sl' (alN (lnF false k p) a.t)) := h2
                clear hon hk12 h2 l5 l10 l11 l12 lA0 lA1 lC0 lD0
                gi_wp2_with (first
                  | (refine storeIn_new' rfl 44 (.tmp 20) (.tmp 123) rfl _ _ _ _ (by first | rfl | simp) rfl rfl rfl infoNode (Hd.one H ONH.out) ?_; generalize hW13 : w12.alloc (Obj.cells _ 44) = W13; have K13 : Hid (Kp w12 W13 Nul) := (by show Kp _ _ _; rw [← hW13]; exact (Kp.refl _ _).alloc _); have HB13 : Hid (Blk W13 w12.heap.size (H.cells sl') 44) := (by show Blk _ _ _ _; rw [← hW13]; exact Blk.new w12 _ _); have lC0 := (e5.out W13 ((KV10.out.trans K12.out).trans K13.out)).2.2.2.2.2.2; rw [hak] at lC0; have l14 := HC14.out W13 ((KV10.out.trans K12.out).trans K13.out); clear hW13)
                  | fail)
                all_goals first
                  | (exfalso; rename_i hu _; revert hu; unfold undef; simp; done)
                  | skip
                refine ⟨trivial, ?_⟩
                gi_wp2_with (first
                  | (refine storeIn_var rfl 3 (.tmp 14) (.tmp 140) rfl (w4.heap.size + 1) rfl (.int .i64 ((N : Int) + 1)) rfl rfl 3 (.int .i64 N) (HB14.out _ ((KV10.out.trans K12.out).trans K13.out)) (by kernel_rfl) ?_; intro Y hbY hkY)
                  | fail)
                have HKY : Kp V Y (fun i => (Z i ∨ i ∈ fp) ∨ W.heap.size ≤ i) := ((((KV10.out.trans K12.out).trans K13.out) : Kp V _ Nul).mono (fun _ _ q => q.elim)).trans (hkY.mono (fun i _ e => .inl (.inl ((HIV.out.z i).2 e))))
                have HEND := (HIV.out.nul ((KV10.out.trans K12.out).trans K13.out)).next HKk.out HNe.out hkY (by rw [HN.out]; exact hbY)
                first
                | exact ⟨rfl, HKY, Z, HEND, fun i hi => .inl hi⟩
                | exact ⟨HKY, Z, HEND, fun i hi => .inl hi⟩
              · rw [hak] at lC0 lD0
                gi_wp2_with fail
                refine ⟨trivial, ?_⟩
                gi_wp2_with (first
                  | (refine loadIn_row rfl 44 (.tmp 117) rfl (W.heap.size + 1) 6 rfl (a.t.hd.cells sl) _ (ct_row (HBC10.out _ (Kp.refl w10 Nul))) Tryz.underlying44 rfl infoNode ?_)
                  | fail)
                refine ⟨trivial, CallsIn.inRound _ ((callsIn_wide.2 (HFm.out _ (KV10.out.trans (Kp.refl w10 Nul)))).mono ?_)⟩
                rintro e w12 ⟨H, sl', er, rfl, hon, hk12, h2⟩
                have K12 : Hid (Kp w10 w12 Nul) := (Kp.refl w10 Nul).trans hk12
                have ONH : Hid (sl'.oneCell' = true) := hon
                have HH2 : Hid (a.k = 2 → er = 0 ∧ H = (alN (lnF false k p) a.t).hd ∧ NdIn w12 (fun _ => True) sl' (alN (lnF false k p) a.t)) := h2
                clear hon hk12 h2 l5 l10 l11 l12 lA0 lA1 lC0 lD0
                obtain ⟨rfl, rfl, hinH⟩ := HH2.out hak
                have HFS : Hid (∀ wq, Kp w12 wq Nul → Calls Tryz.prog 15 #[.agg ((alN (lnF false k p) a.t).hd.cells sl').toArray, .agg (D.t.hd.cells slD).toArray] wq fun e w' => e = .returned (.bool true) ∧ Kp wq w' Nul) := fun wq q => by
                  have h := tsame_at (alN (lnF false k p) a.t) D.t sl' slD (fun _ => True) (fun _ => True) wq (by rw [← HDt.out]; exact HGdD.out.ok) HGdD.out.ok (hinH.kp q (fun _ _ x => x)) ((HOwD.out.own.mono (fun i hi => (((K9.out.trans K10.out).trans K12.out).trans q).block i (node_lt (HOwD.out.own.node i hi)) (fun x => x))).isIn (fun _ _ => trivial))
                  rw [HDt.out, tsame_refl] at h
                  rw [HDt.out]
                  exact h.mono fun e w' h => ⟨h.1, Kp.of_gr h.2⟩
                clear hinH HH2
                obtain ⟨H, hH⟩ : ∃ H, (alN (lnF false k p) a.t).hd = H := ⟨_, rfl⟩
                rw [hH] at HFS ⊢
                clear hH
                gi_wp2_with (first
                  | (refine storeIn_new' rfl 44 (.tmp 20) (.tmp 123) rfl _ _ _ _ (by first | rfl | simp) rfl rfl rfl infoNode (Hd.one H ONH.out) ?_; generalize hW13 : w12.alloc (Obj.cells _ 44) = W13; have K13 : Hid (Kp w12 W13 Nul) := (by show Kp _ _ _; rw [← hW13]; exact (Kp.refl _ _).alloc _); have HB13 : Hid (Blk W13 w12.heap.size (H.cells sl') 44) := (by show Blk _ _ _ _; rw [← hW13]; exact Blk.new w12 _ _); have lC0 := (e5.out W13 ((KV10.out.trans K12.out).trans K13.out)).2.2.2.2.2.2; rw [hak] at lC0; have l14 := HC14.out W13 ((KV10.out.trans K12.out).trans K13.out); clear hW13)
                  | (refine loadIn_row rfl 44 (.tmp 20) rfl w12.heap.size 0 rfl (H.cells sl') _ (rangeAt_blk HB13.out) Tryz.underlying44 rfl infoNode ?_)
                  | (refine loadIn_row rfl 44 (.tmp 133) rfl w8.heap.size 6 rfl (D.t.hd.cells slD) _ (ct_row (HBD10.out _ (K12.out.trans K13.out))) Tryz.underlying44 rfl infoNode ?_)
                  | fail)
                refine ⟨trivial, CallsIn.inRound _ ((callsIn_wide.2 (HFS.out _ K13.out)).mono ?_)⟩
                rintro e w14 ⟨rfl, hk14⟩
                have K14 : Hid (Kp W13 w14 Nul) := hk14
                clear hk14 HFS l14 lC0
                have l14 := HC14.out w14 (((KV10.out.trans K12.out).trans K13.out).trans K14.out)
                gi_wp2_with (first
                  | (refine storeIn_var rfl 3 (.tmp 14) (.tmp 140) rfl (w4.heap.size + 1) rfl (.int .i64 ((N : Int) + 1)) rfl rfl 3 (.int .i64 N) (HB14.out _ (((KV10.out.trans K12.out).trans K13.out).trans K14.out)) (by kernel_rfl) ?_; intro Y hbY hkY)
                  | fail)
                have HKY : Kp V Y (fun i => (Z i ∨ i ∈ fp) ∨ W.heap.size ≤ i) := (((((KV10.out.trans K12.out).trans K13.out).trans K14.out) : Kp V _ Nul).mono (fun _ _ q => q.elim)).trans (hkY.mono (fun i _ e => .inl (.inl ((HIV.out.z i).2 e))))
                have HEND := (HIV.out.nul (((KV10.out.trans K12.out).trans K13.out).trans K14.out)).next HKk.out HNe.out hkY (by rw [HN.out]; exact hbY)
                first
                | exact ⟨rfl, HKY, Z, HEND, fun i hi => .inl hi⟩
                | exact ⟨HKY, Z, HEND, fun i hi => .inl hi⟩
            · clear hg
              have hMy : ((c, s), alC (lnF false k p) a) ∈ M := (HMem.out _).2 (brL_mem.2 ⟨_, HMm.out, _, hst, rfl⟩)
              have hvy : vC (c) (s) = true := HOkM.out.at' _ hMy
              have hne : lnF false k p ((c, s), (c, s)) ≠ none := by rw [hst]; exact fun q => by cases q
              have HNe : Hid (lnF false k p ((c, s), (c, s)) ≠ none) := hne
              have HVal : Hid (∀ w, Calls Tryz.prog 30 #[.agg #[.int .i64 (c), .int .i64 (s)]] w fun e w' => e = .returned (.bool true) ∧ Kp w w' Nul) := fun w => (pValid_at (c) (s) w).mono fun e w' ⟨h1, h2⟩ => ⟨by rw [h1, hvy], by rw [h2]; exact (Kp.refl _ _).alloc _⟩
              obtain ⟨D, hD⟩ : ∃ D, alC (lnF false k p) a = D := ⟨_, rfl⟩
              have hDk : D.k = a.k := by rw [← hD]; rfl
              have hDt : D.t = alN (lnF false k p) a.t := by rw [← hD]; rfl
              rw [hD] at hMy
              have HGdD : Hid (Gd D) := HOkM.out.gd _ hMy
              have HDS : Hid (a.k = 1 → csame a D = true) := fun q => by show csame a D = true; rw [← hD, alC_plain _ HGd.out.val (by omega)]; exact csame_refl a
              have HGet : Hid (∀ wq, Kp V wq Nul → Calls Tryz.prog 27 #[.pointer (some ⟨g2, 0, none⟩), .agg #[.int .i64 (c), .int .i64 (s)]] wq fun e w' => ∃ slD fpD, e = .returned (D.val slD) ∧ Own w' wq.heap.size slD D.t fpD ∧ Kp wq w' Nul) := fun wq q => get_in g2 M wq (GridIn.mono (HIV.out.gi.kp q) (fun _ _ => Nat.zero_le _)) HOkM.out (c) (s) (by rw [vC_iff] at hvy; unfold I64; omega) (by rw [vC_iff] at hvy; unfold I64; omega) D hMy
              have HDk : Hid (D.k = a.k) := hDk
              have HDt : Hid (D.t = alN (lnF false k p) a.t) := hDt
              clear hD hDk hDt hMy hvy hne hst
              have f5 := e5.out V (Kp.refl _ _)
              obtain ⟨l5, l10, l11, l12, lA0, lA1, lC0⟩ := f5
              gi_wp2_with fail
              refine ⟨trivial, CallsIn.inRound _ ((callsIn_wide.2 (HAt.out _ _ _)).mono ?_)⟩
              rintro e v1 ⟨rfl, hk1'⟩
              clear l5 l10 l11 l12 lA0 lA1 lC0
              have KV1 : Hid (Kp V v1 Nul) := hk1'
              clear hk1'
              have f5 := e5.out _ (KV1.out.alloc (.cells #[.int .i64 c, .int .i64 (s)] 32))
              obtain ⟨l5, l10, l11, l12, lA0, lA1, lC0⟩ := f5
              obtain ⟨X, hX⟩ : ∃ X, v1.alloc (.cells #[.int .i64 c, .int .i64 (s)] 32) = X := ⟨_, rfl⟩
              have KX : Hid (Kp V X Nul) := by show Kp _ _ _; rw [← hX]; exact KV1.out.alloc _
              have HBY : Hid (∀ wq, Kp X wq Nul → wq.cell? ⟨v1.heap.size, 0, none⟩ = some (.int .i64 (c)) ∧ wq.cell? ⟨v1.heap.size, 1, none⟩ = some (.int .i64 (s))) := fun wq q => by
                have b : Blk X v1.heap.size [.int .i64 c, .int .i64 (s)] 32 := by rw [← hX]; exact Blk.new v1 _ _
                exact ⟨(b.kp q (fun x => x)).cell rfl, (b.kp q (fun x => x)).cell rfl⟩
              have HX : Hid (v1.alloc (.cells #[.int .i64 c, .int .i64 (s)] 32) = X) := hX
              clear hX
              gi_wp2_with fail
              rw [HX.out]
              clear HX l5 l10 l11 l12 lA0 lA1 lC0
              refine ⟨trivial, CallsIn.inRound _ ((callsIn_wide.2 (HGet.out _ KX.out)).mono ?_)⟩
              rintro e w8 ⟨slD, fpD, rfl, hownD, hk8⟩
              have K8 : Hid (Kp X w8 Nul) := hk8
              have HOwD : Hid (Own w8 X.heap.size slD D.t fpD) := hownD
              have OND : Hid (slD.oneCell' = true) := hownD.own.one
              clear hk8 hownD HGet
              gi_wp2_with (first
                | (refine storeIn_new' rfl 55 (.tmp 19) (.tmp 94) rfl _ _ _ _ (by first | rfl | simp) rfl rfl rfl infoContent (D.one OND.out) ?_; generalize hW9 : w8.alloc (Obj.cells _ 55) = W9; have K9 : Hid (Kp w8 W9 Nul) := (by show Kp _ _ _; rw [← hW9]; exact (Kp.refl _ _).alloc _); have HB9 : Hid (Blk W9 w8.heap.size (D.cells slD) 55) := (by show Blk _ _ _ _; rw [← hW9]; exact Blk.new w8 _ _); have y0 := (HBY.out W9 (K8.out.trans K9.out)).1; have y1 := (HBY.out W9 (K8.out.trans K9.out)).2; clear hW9)
                | fail)
              clear y0 y1
              refine ⟨trivial, CallsIn.inRound _ ((callsIn_wide.2 (HVal.out _)).mono ?_)⟩
              rintro e w10 ⟨rfl, hk10⟩
              have K10 : Hid (Kp W9 w10 Nul) := hk10
              have KV10 : Hid (Kp V w10 Nul) := ((KX.out.trans K8.out).trans K9.out).trans hk10
              clear hk10 HVal HBY
              have f5 := e5.out w10 KV10.out
              obtain ⟨l5, l10, l11, l12, lA0, lA1, lC0⟩ := f5
              have lD0 : w10.cell? ⟨w8.heap.size, 0, none⟩ = some (.int .i64 a.k) := by rw [← HDk.out]; exact (HB9.out.kp K10.out (fun x => x)).cell rfl
              have HBC10 : Hid (∀ wq, Kp w10 wq Nul → Blk wq (W.heap.size + 1) (a.cells sl) 55) := fun wq q => HbC.out.kp (KV10.out.trans q) (fun x => x)
              have HBD10 : Hid (∀ wq, Kp w10 wq Nul → Blk wq w8.heap.size (D.cells slD) 55) := fun wq q => HB9.out.kp (K10.out.trans q) (fun x => x)
              clear hak
              have hlN : (brL (lnF false k p) (K.take j)).length ≤ 4096 := by
                have h1 := brL_le (lnF false k p) (K.take j)
                have h2 := HKl.out
                rw [List.length_take] at h1
                omega
              obtain ⟨N, hN⟩ : ∃ N, (brL (lnF false k p) (K.take j)).length = N := ⟨_, rfl⟩
              rw [hN] at hlN
              have HN : Hid ((brL (lnF false k p) (K.take j)).length = N) := hN
              have HB14 : Hid (∀ wq, Kp V wq Nul → Blk wq (w4.heap.size + 1) [.int .i64 N] 3) := fun wq q => by have h := HIV.out.c14.kp q (fun x => x); rw [hN] at h; exact h
              have HC14 : Hid (∀ wq, Kp V wq Nul → wq.cell? ⟨w4.heap.size + 1, 0, none⟩ = some (.int .i64 N)) := fun wq q => (HB14.out wq q).cell rfl
              clear hN
              have hN0 : (0 : Int) ≤ (N : Int) := by omega
              have hN1 : (N : Int) ≤ 4096 := by omega
              rcases gd_kind HGd.out with hak | hak
              · rw [hak] at lC0 lD0
                have HSm : Hid (∀ wq, Kp w10 wq Nul → Calls Tryz.prog 28 #[.agg (a.cells sl).toArray, .agg (D.cells slD).toArray] wq fun e w' => e = .returned (.bool true) ∧ Kp wq w' Nul) := fun wq q => by
                  have h := gSame_at a D sl slD (fun _ => True) (fun _ => True) wq HGd.out.x HGdD.out.x HGd.out.ok HGdD.out.ok ((HOwnV.out.mono (fun i hi => (KV10.out.trans q).block i (node_lt (HOwnV.out.node i hi)) (fun x => x))).isIn (fun _ _ => trivial)) ((HOwD.out.own.mono (fun i hi => ((K9.out.trans K10.out).trans q).block i (node_lt (HOwD.out.own.node i hi)) (fun x => x))).isIn (fun _ _ => trivial))
                  rw [HDS.out hak] at h
                  exact h
                gi_wp2_with (first
                  | (refine loadIn_content rfl (.tmp 16) rfl (W.heap.size + 1) rfl (a.cells sl).toArray (HBC10.out _ (Kp.refl _ _)) rfl ?_)
                  | (refine loadIn_content rfl (.tmp 19) rfl w8.heap.size rfl (D.cells slD).toArray (HBD10.out _ (Kp.refl _ _)) rfl ?_)
                  | fail)
                refine ⟨trivial, CallsIn.inRound _ ((callsIn_wide.2 (HSm.out _ (Kp.refl _ _))).mono ?_)⟩
                rintro e w11 ⟨rfl, hk11⟩
                have K11 : Hid (Kp w10 w11 Nul) := hk11
                clear hk11 HSm l5 l10 l11 l12 lA0 lA1 lC0 lD0
                have lD0 : True := trivial
                have f5 := e5.out w11 (KV10.out.trans K11.out)
                obtain ⟨l5, l10, l11, l12, lA0, lA1, lC0⟩ := f5
                rw [hak] at lC0
                gi_wp2_with (first
                  | (refine loadIn_row rfl 44 (.tmp 117) rfl (W.heap.size + 1) 6 rfl (a.t.hd.cells sl) _ (ct_row (HBC10.out _ K11.out)) Tryz.underlying44 rfl infoNode ?_)
                  | fail)
                refine ⟨trivial, CallsIn.inRound _ ((callsIn_wide.2 (HFm.out _ (KV10.out.trans K11.out))).mono ?_)⟩
                rintro e w12 ⟨H, sl', er, rfl, hon, hk12, h2⟩
                have K12 : Hid (Kp w10 w12 Nul) := K11.out.trans hk12
                have ONH : Hid (sl'.oneCell' = true) := hon
                have HH2 : Hid (a.k = 2 → er = 0 ∧ H = (alN (lnF false k p) a.t).hd ∧ NdIn w12 (fun _ => True) sl' (alN (lnF false k p) a.t)) := h2
                clear hon hk12 h2 l5 l10 l11 l12 lA0 lA1 lC0 lD0
                gi_wp2_with (first
                  | (refine storeIn_new' rfl 44 (.tmp 20) (.tmp 123) rfl _ _ _ _ (by first | rfl | simp) rfl rfl rfl infoNode (Hd.one H ONH.out) ?_; generalize hW13 : w12.alloc (Obj.cells _ 44) = W13; have K13 : Hid (Kp w12 W13 Nul) := (by show Kp _ _ _; rw [← hW13]; exact (Kp.refl _ _).alloc _); have HB13 : Hid (Blk W13 w12.heap.size (H.cells sl') 44) := (by show Blk _ _ _ _; rw [← hW13]; exact Blk.new w12 _ _); have lC0 := (e5.out W13 ((KV10.out.trans K12.out).trans K13.out)).2.2.2.2.2.2; rw [hak] at lC0; have l14 := HC14.out W13 ((KV10.out.trans K12.out).trans K13.out); clear hW13)
                  | fail)
                all_goals first
                  | (exfalso; rename_i hu _; revert hu; unfold undef; simp; done)
                  | skip
                refine ⟨trivial, ?_⟩
                gi_wp2_with (first
                  | (refine storeIn_var rfl 3 (.tmp 14) (.tmp 140) rfl (w4.heap.size + 1) rfl (.int .i64 ((N : Int) + 1)) rfl rfl 3 (.int .i64 N) (HB14.out _ ((KV10.out.trans K12.out).trans K13.out)) (by kernel_rfl) ?_; intro Y hbY hkY)
                  | fail)
                have HKY : Kp V Y (fun i => (Z i ∨ i ∈ fp) ∨ W.heap.size ≤ i) := ((((KV10.out.trans K12.out).trans K13.out) : Kp V _ Nul).mono (fun _ _ q => q.elim)).trans (hkY.mono (fun i _ e => .inl (.inl ((HIV.out.z i).2 e))))
                have HEND := (HIV.out.nul ((KV10.out.trans K12.out).trans K13.out)).next HKk.out HNe.out hkY (by rw [HN.out]; exact hbY)
                first
                | exact ⟨rfl, HKY, Z, HEND, fun i hi => .inl hi⟩
                | exact ⟨HKY, Z, HEND, fun i hi => .inl hi⟩
              · rw [hak] at lC0 lD0
                gi_wp2_with fail
                refine ⟨trivial, ?_⟩
                gi_wp2_with (first
                  | (refine loadIn_row rfl 44 (.tmp 117) rfl (W.heap.size + 1) 6 rfl (a.t.hd.cells sl) _ (ct_row (HBC10.out _ (Kp.refl w10 Nul))) Tryz.underlying44 rfl infoNode ?_)
                  | fail)
                refine ⟨trivial, CallsIn.inRound _ ((callsIn_wide.2 (HFm.out _ (KV10.out.trans (Kp.refl w10 Nul)))).mono ?_)⟩
                rintro e w12 ⟨H, sl', er, rfl, hon, hk12, h2⟩
                have K12 : Hid (Kp w10 w12 Nul) := (Kp.refl w10 Nul).trans hk12
                have ONH : Hid (sl'.oneCell' = true) := hon
                have HH2 : Hid (a.k = 2 → er = 0 ∧ H = (alN (lnF false k p) a.t).hd ∧ NdIn w12 (fun _ => True) sl' (alN (lnF false k p) a.t)) := h2
                clear hon hk12 h2 l5 l10 l11 l12 lA0 lA1 lC0 lD0
                obtain ⟨rfl, rfl, hinH⟩ := HH2.out hak
                have HFS : Hid (∀ wq, Kp w12 wq Nul → Calls Tryz.prog 15 #[.agg ((alN (lnF false k p) a.t).hd.cells sl').toArray, .agg (D.t.hd.cells slD).toArray] wq fun e w' => e = .returned (.bool true) ∧ Kp wq w' Nul) := fun wq q => by
                  have h := tsame_at (alN (lnF false k p) a.t) D.t sl' slD (fun _ => True) (fun _ => True) wq (by rw [← HDt.out]; exact HGdD.out.ok) HGdD.out.ok (hinH.kp q (fun _ _ x => x)) ((HOwD.out.own.mono (fun i hi => (((K9.out.trans K10.out).trans K12.out).trans q).block i (node_lt (HOwD.out.own.node i hi)) (fun x => x))).isIn (fun _ _ => trivial))
                  rw [HDt.out, tsame_refl] at h
                  rw [HDt.out]
                  exact h.mono fun e w' h => ⟨h.1, Kp.of_gr h.2⟩
                clear hinH HH2
                obtain ⟨H, hH⟩ : ∃ H, (alN (lnF false k p) a.t).hd = H := ⟨_, rfl⟩
                rw [hH] at HFS ⊢
                clear hH
                gi_wp2_with (first
                  | (refine storeIn_new' rfl 44 (.tmp 20) (.tmp 123) rfl _ _ _ _ (by first | rfl | simp) rfl rfl rfl infoNode (Hd.one H ONH.out) ?_; generalize hW13 : w12.alloc (Obj.cells _ 44) = W13; have K13 : Hid (Kp w12 W13 Nul) := (by show Kp _ _ _; rw [← hW13]; exact (Kp.refl _ _).alloc _); have HB13 : Hid (Blk W13 w12.heap.size (H.cells sl') 44) := (by show Blk _ _ _ _; rw [← hW13]; exact Blk.new w12 _ _); have lC0 := (e5.out W13 ((KV10.out.trans K12.out).trans K13.out)).2.2.2.2.2.2; rw [hak] at lC0; have l14 := HC14.out W13 ((KV10.out.trans K12.out).trans K13.out); clear hW13)
                  | (refine loadIn_row rfl 44 (.tmp 20) rfl w12.heap.size 0 rfl (H.cells sl') _ (rangeAt_blk HB13.out) Tryz.underlying44 rfl infoNode ?_)
                  | (refine loadIn_row rfl 44 (.tmp 133) rfl w8.heap.size 6 rfl (D.t.hd.cells slD) _ (ct_row (HBD10.out _ (K12.out.trans K13.out))) Tryz.underlying44 rfl infoNode ?_)
                  | fail)
                refine ⟨trivial, CallsIn.inRound _ ((callsIn_wide.2 (HFS.out _ K13.out)).mono ?_)⟩
                rintro e w14 ⟨rfl, hk14⟩
                have K14 : Hid (Kp W13 w14 Nul) := hk14
                clear hk14 HFS l14 lC0
                have l14 := HC14.out w14 (((KV10.out.trans K12.out).trans K13.out).trans K14.out)
                gi_wp2_with (first
                  | (refine storeIn_var rfl 3 (.tmp 14) (.tmp 140) rfl (w4.heap.size + 1) rfl (.int .i64 ((N : Int) + 1)) rfl rfl 3 (.int .i64 N) (HB14.out _ (((KV10.out.trans K12.out).trans K13.out).trans K14.out)) (by kernel_rfl) ?_; intro Y hbY hkY)
                  | fail)
                have HKY : Kp V Y (fun i => (Z i ∨ i ∈ fp) ∨ W.heap.size ≤ i) := (((((KV10.out.trans K12.out).trans K13.out).trans K14.out) : Kp V _ Nul).mono (fun _ _ q => q.elim)).trans (hkY.mono (fun i _ e => .inl (.inl ((HIV.out.z i).2 e))))
                have HEND := (HIV.out.nul (((KV10.out.trans K12.out).trans K13.out).trans K14.out)).next HKk.out HNe.out hkY (by rw [HN.out]; exact hbY)
                first
                | exact ⟨rfl, HKY, Z, HEND, fun i hi => .inl hi⟩
                | exact ⟨HKY, Z, HEND, fun i hi => .inl hi⟩
      · by_cases hgone : lnGone true k p c s
        · have hg := hgone
          unfold lnGone lnZ at hg
          simp only [if_true] at hg
          obtain ⟨g1, g2', g3⟩ := hg
          have hno : lnF true k p ((c, s), (c, s)) = none := ln_gone HOL.out HVc.out hgone
          have HEND := HIV.out.skip HKk.out hno
          clear hgone hno
          gi_wp2_with fail
          first
          | exact ⟨rfl, Kp.refl _ _, Z, HEND, fun i hi => .inl hi⟩
          | exact ⟨Kp.refl _ _, Z, HEND, fun i hi => .inl hi⟩
        · have hnn : p ≤ 0 ∨ lnF true k p ((c, s), (c, s)) ≠ none := by
            by_cases q : p ≤ 0
            · exact .inl q
            · refine .inr (lost_some (x := ((c, s), a)) ?_ HMm.out)
              cases hlb : lostB (lnF true k p) L with
              | false => rfl
              | true => exact absurd ⟨by omega, hlb⟩ HLo.out
          have hst := ln_stay HOL.out HVc.out hgone hnn
          have hg : ¬ (p < 0 ∧ k ≤ c ∧ c < k - p) := hgone
          clear hgone hnn
          unfold lnTo at hst
          simp only [if_true] at hst
          have e5 : Hid (∀ wq, Kp V wq Nul → wq.cell? ⟨w.heap.size, 0, none⟩ = some (.bool true) ∧ wq.cell? ⟨w2'.heap.size, 0, none⟩ = some (.int .i64 k) ∧ wq.cell? ⟨w2'.heap.size + 1, 0, none⟩ = some (.int .i64 p) ∧ wq.cell? ⟨w4.heap.size, 0, none⟩ = some (.pointer (some ⟨g2, 0, none⟩)) ∧ wq.cell? ⟨W.heap.size, 0, none⟩ = some (.int .i64 c) ∧ wq.cell? ⟨W.heap.size, 1, none⟩ = some (.int .i64 s) ∧ wq.cell? ⟨W.heap.size + 1, 0, none⟩ = some (.int .i64 a.k)) := fun wq q => ⟨(HIV.out.c5.kp q (fun x => x)).cell rfl, (HIV.out.c10.kp q (fun x => x)).cell rfl, (HIV.out.c11.kp q (fun x => x)).cell rfl, (HIV.out.c12.kp q (fun x => x)).cell rfl, (HbA.out.kp q (fun x => x)).cell rfl, (HbA.out.kp q (fun x => x)).cell rfl, (HbC.out.kp q (fun x => x)).cell rfl⟩
          have HFm : Hid (∀ wq, Kp V wq Nul → Calls Tryz.prog 13 #[.agg (a.t.hd.cells sl).toArray, .bool true, .int .i64 k, .int .i64 p] wq fun e w' => ∃ (H : Hd) (sl' : Value) (er : Int), e = .returned (.tuple #[H.val sl', .int .i64 er]) ∧ sl'.oneCell' = true ∧ Kp wq w' Nul ∧ (a.k = 2 → er = 0 ∧ H = (alN (lnF true k p) a.t).hd ∧ NdIn w' (fun _ => True) sl' (alN (lnF true k p) a.t))) := fun wq q => (mform_at a.t sl (fun _ => True) true k p wq HGd.out.ok ((HOwnV.out.mono (fun i hi => q.block i (node_lt (HOwnV.out.node i hi)) (fun x => x))).isIn (fun _ _ => trivial)) (HV.out.kp (HIV.out.kp.trans q))).mono (by
            rintro e w' ⟨v, rfl, h⟩
            cases h with
            | err er he h kk =>
              refine ⟨zHd, .slice none 0 0, er, rfl, rfl, kk, fun h2 => ?_⟩
              rcases h with h | h
              · exact absurd (gd_chk HGd.out h2) h.1
              · exact absurd HOL.out h.2.1
            | ok hc hl sl' fp' ho kk =>
              refine ⟨_, sl', 0, rfl, ho.own.one, kk, fun h2 => ?_⟩
              rw [gd_cpy HGd.out] at ho ⊢
              exact ⟨rfl, rfl, ho.own.isIn (fun _ _ => trivial)⟩)
          have hak : a.k = 1 ∨ a.k = 2 := gd_kind HGd.out
          clear l5 l10 l11 lA0 lA1
          by_cases hkz : k ≤ c
          · have ez : lnAt k p c = c + p := by unfold lnAt; rw [if_pos hkz]
            rw [ez] at hst
            clear ez
            by_cases hpn : p < 0
            · have hsz : ¬ c < k - p := fun q => hg ⟨hpn, hkz, q⟩
              clear hg
              have hMy : ((c + p, s), alC (lnF true k p) a) ∈ M := (HMem.out _).2 (brL_mem.2 ⟨_, HMm.out, _, hst, rfl⟩)
              have hvy : vC (c + p) (s) = true := HOkM.out.at' _ hMy
              have hne : lnF true k p ((c, s), (c, s)) ≠ none := by rw [hst]; exact fun q => by cases q
              have HNe : Hid (lnF true k p ((c, s), (c, s)) ≠ none) := hne
              have HVal : Hid (∀ w, Calls Tryz.prog 30 #[.agg #[.int .i64 (c + p), .int .i64 (s)]] w fun e w' => e = .returned (.bool true) ∧ Kp w w' Nul) := fun w => (pValid_at (c + p) (s) w).mono fun e w' ⟨h1, h2⟩ => ⟨by rw [h1, hvy], by rw [h2]; exact (Kp.refl _ _).alloc _⟩
              obtain ⟨D, hD⟩ : ∃ D, alC (lnF true k p) a = D := ⟨_, rfl⟩
              have hDk : D.k = a.k := by rw [← hD]; rfl
              have hDt : D.t = alN (lnF true k p) a.t := by rw [← hD]; rfl
              rw [hD] at hMy
              have HGdD : Hid (Gd D) := HOkM.out.gd _ hMy
              have HDS : Hid (a.k = 1 → csame a D = true) := fun q => by show csame a D = true; rw [← hD, alC_plain _ HGd.out.val (by omega)]; exact csame_refl a
              have HGet : Hid (∀ wq, Kp V wq Nul → Calls Tryz.prog 27 #[.pointer (some ⟨g2, 0, none⟩), .agg #[.int .i64 (c + p), .int .i64 (s)]] wq fun e w' => ∃ slD fpD, e = .returned (D.val slD) ∧ Own w' wq.heap.size slD D.t fpD ∧ Kp wq w' Nul) := fun wq q => get_in g2 M wq (GridIn.mono (HIV.out.gi.kp q) (fun _ _ => Nat.zero_le _)) HOkM.out (c + p) (s) (by rw [vC_iff] at hvy; unfold I64; omega) (by rw [vC_iff] at hvy; unfold I64; omega) D hMy
              have HDk : Hid (D.k = a.k) := hDk
              have HDt : Hid (D.t = alN (lnF true k p) a.t) := hDt
              clear hD hDk hDt hMy hvy hne hst
              have f5 := e5.out V (Kp.refl _ _)
              obtain ⟨l5, l10, l11, l12, lA0, lA1, lC0⟩ := f5
              gi_wp2_with fail
              refine ⟨trivial, CallsIn.inRound _ ((callsIn_wide.2 (HAt.out _ _ _)).mono ?_)⟩
              rintro e v1 ⟨rfl, hk1'⟩
              clear l5 l10 l11 l12 lA0 lA1 lC0
              have KV1 : Hid (Kp V v1 Nul) := hk1'
              clear hk1'
              have f5 := e5.out _ (KV1.out.alloc (.cells #[.int .i64 c, .int .i64 (c + p)] 32))
              obtain ⟨l5, l10, l11, l12, lA0, lA1, lC0⟩ := f5
              obtain ⟨X0, hX0⟩ : ∃ X0, v1.alloc (.cells #[.int .i64 c, .int .i64 (c + p)] 32) = X0 := ⟨_, rfl⟩
              have B0 : Blk X0 v1.heap.size [.int .i64 c, .int .i64 (c + p)] 32 := by rw [← hX0]; exact Blk.new v1 _ _
              have KX0 : Hid (Kp V X0 Nul) := by show Kp _ _ _; rw [← hX0]; exact KV1.out.alloc _
              have HX0 : Hid (v1.alloc (.cells #[.int .i64 c, .int .i64 (c + p)] 32) = X0) := hX0
              clear hX0
              gi_wp2_with fail
              rw [HX0.out]
              clear HX0 l5 l10 l11 l12 lA0 lA1 lC0
              refine ⟨trivial, CallsIn.inRound _ ((callsIn_wide.2 (HAt.out _ _ _)).mono ?_)⟩
              rintro e v2 ⟨rfl, hk2'⟩
              have B2 : Hid (Blk v2 v1.heap.size [.int .i64 c, .int .i64 (c + p)] 32) := B0.kp hk2' (fun x => x)
              have KV2 : Hid (Kp V v2 Nul) := KX0.out.trans hk2'
              clear B0 KX0 hk2'
              gi_wp2_with (first
                | (refine storeIn_part rfl 32 (.tmp 18) (.tmp 91) rfl v1.heap.size 0 [] [.int .i64 c, .int .i64 (c + p)] [] [.int .i64 (c + p), .int .i64 (s)] 32 B2.out rfl rfl rfl rfl infoAddr2 (by simp [Value.oneCell']) ?_; intro X hbX hkX; have KX : Hid (Kp V X Nul) := KV2.out.trans' hkX (fun i hi e => by have e' : i = v1.heap.size := e; have := KV1.out.size; omega); have HBY : Hid (∀ wq, Kp X wq Nul → wq.cell? ⟨v1.heap.size, 0, none⟩ = some (.int .i64 (c + p)) ∧ wq.cell? ⟨v1.heap.size, 1, none⟩ = some (.int .i64 (s))) := (fun wq q => ⟨(hbX.kp q (fun x => x)).cell rfl, (hbX.kp q (fun x => x)).cell rfl⟩); have l12 := (e5.out X KX.out).2.2.2.1; have y0 := (HBY.out X (Kp.refl _ _)).1; have y1 := (HBY.out X (Kp.refl _ _)).2; clear hbX hkX)
                | fail)
              clear l12 y0 y1
              refine ⟨trivial, CallsIn.inRound _ ((callsIn_wide.2 (HGet.out _ KX.out)).mono ?_)⟩
              rintro e w8 ⟨slD, fpD, rfl, hownD, hk8⟩
              have K8 : Hid (Kp X w8 Nul) := hk8
              have HOwD : Hid (Own w8 X.heap.size slD D.t fpD) := hownD
              have OND : Hid (slD.oneCell' = true) := hownD.own.one
              clear hk8 hownD HGet
              gi_wp2_with (first
                | (refine storeIn_new' rfl 55 (.tmp 19) (.tmp 94) rfl _ _ _ _ (by first | rfl | simp) rfl rfl rfl infoContent (D.one OND.out) ?_; generalize hW9 : w8.alloc (Obj.cells _ 55) = W9; have K9 : Hid (Kp w8 W9 Nul) := (by show Kp _ _ _; rw [← hW9]; exact (Kp.refl _ _).alloc _); have HB9 : Hid (Blk W9 w8.heap.size (D.cells slD) 55) := (by show Blk _ _ _ _; rw [← hW9]; exact Blk.new w8 _ _); have y0 := (HBY.out W9 (K8.out.trans K9.out)).1; have y1 := (HBY.out W9 (K8.out.trans K9.out)).2; clear hW9)
                | fail)
              clear y0 y1
              refine ⟨trivial, CallsIn.inRound _ ((callsIn_wide.2 (HVal.out _)).mono ?_)⟩
              rintro e w10 ⟨rfl, hk10⟩
              have K10 : Hid (Kp W9 w10 Nul) := hk10
              have KV10 : Hid (Kp V w10 Nul) := ((KX.out.trans K8.out).trans K9.out).trans hk10
              clear hk10 HVal HBY
              have f5 := e5.out w10 KV10.out
              obtain ⟨l5, l10, l11, l12, lA0, lA1, lC0⟩ := f5
              have lD0 : w10.cell? ⟨w8.heap.size, 0, none⟩ = some (.int .i64 a.k) := by rw [← HDk.out]; exact (HB9.out.kp K10.out (fun x => x)).cell rfl
              have HBC10 : Hid (∀ wq, Kp w10 wq Nul → Blk wq (W.heap.size + 1) (a.cells sl) 55) := fun wq q => HbC.out.kp (KV10.out.trans q) (fun x => x)
              have HBD10 : Hid (∀ wq, Kp w10 wq Nul → Blk wq w8.heap.size (D.cells slD) 55) := fun wq q => HB9.out.kp (K10.out.trans q) (fun x => x)
              clear hak
              have hlN : (brL (lnF true k p) (K.take j)).length ≤ 4096 := by
                have h1 := brL_le (lnF true k p) (K.take j)
                have h2 := HKl.out
                rw [List.length_take] at h1
                omega
              obtain ⟨N, hN⟩ : ∃ N, (brL (lnF true k p) (K.take j)).length = N := ⟨_, rfl⟩
              rw [hN] at hlN
              have HN : Hid ((brL (lnF true k p) (K.take j)).length = N) := hN
              have HB14 : Hid (∀ wq, Kp V wq Nul → Blk wq (w4.heap.size + 1) [.int .i64 N] 3) := fun wq q => by have h := HIV.out.c14.kp q (fun x => x); rw [hN] at h; exact h
              have HC14 : Hid (∀ wq, Kp V wq Nul → wq.cell? ⟨w4.heap.size + 1, 0, none⟩ = some (.int .i64 N)) := fun wq q => (HB14.out wq q).cell rfl
              clear hN
              have hN0 : (0 : Int) ≤ (N : Int) := by omega
              have hN1 : (N : Int) ≤ 4096 := by omega
              rcases gd_kind HGd.out with hak | hak
              · rw [hak] at lC0 lD0
                have HSm : Hid (∀ wq, Kp w10 wq Nul → Calls Tryz.prog 28 #[.agg (a.cells sl).toArray, .agg (D.cells slD).toArray] wq fun e w' => e = .returned (.bool true) ∧ Kp wq w' Nul) := fun wq q => by
                  have h := gSame_at a D sl slD (fun _ => True) (fun _ => True) wq HGd.out.x HGdD.out.x HGd.out.ok HGdD.out.ok ((HOwnV.out.mono (fun i hi => (KV10.out.trans q).block i (node_lt (HOwnV.out.node i hi)) (fun x => x))).isIn (fun _ _ => trivial)) ((HOwD.out.own.mono (fun i hi => ((K9.out.trans K10.out).trans q).block i (node_lt (HOwD.out.own.node i hi)) (fun x => x))).isIn (fun _ _ => trivial))
                  rw [HDS.out hak] at h
                  exact h
                gi_wp2_with (first
                  | (refine loadIn_content rfl (.tmp 16) rfl (W.heap.size + 1) rfl (a.cells sl).toArray (HBC10.out _ (Kp.refl _ _)) rfl ?_)
                  | (refine loadIn_content rfl (.tmp 19) rfl w8.heap.size rfl (D.cells slD).toArray (HBD10.out _ (Kp.refl _ _)) rfl ?_)
                  | fail)
                refine ⟨trivial, CallsIn.inRound _ ((callsIn_wide.2 (HSm.out _ (Kp.refl _ _))).mono ?_)⟩
                rintro e w11 ⟨rfl, hk11⟩
                have K11 : Hid (Kp w10 w11 Nul) := hk11
                clear hk11 HSm l5 l10 l11 l12 lA0 lA1 lC0 lD0
                have lD0 : True := trivial
                have f5 := e5.out w11 (KV10.out.trans K11.out)
                obtain ⟨l5, l10, l11, l12, lA0, lA1, lC0⟩ := f5
                rw [hak] at lC0
                gi_wp2_with (first
                  | (refine loadIn_row rfl 44 (.tmp 117) rfl (W.heap.size + 1) 6 rfl (a.t.hd.cells sl) _ (ct_row (HBC10.out _ K11.out)) Tryz.underlying44 rfl infoNode ?_)
                  | fail)
                refine ⟨trivial, CallsIn.inRound _ ((callsIn_wide.2 (HFm.out _ (KV10.out.trans K11.out))).mono ?_)⟩
                rintro e w12 ⟨H, sl', er, rfl, hon, hk12, h2⟩
                have K12 : Hid (Kp w10 w12 Nul) := K11.out.trans hk12
                have ONH : Hid (sl'.oneCell' = true) := hon
                have HH2 : Hid (a.k = 2 → er = 0 ∧ H = (alN (lnF true k p) a.t).hd ∧ NdIn w12 (fun _ => True) sl' (alN (lnF true k p) a.t)) := h2
                clear hon hk12 h2 l5 l10 l11 l12 lA0 lA1 lC0 lD0
                gi_wp2_with (first
                  | (refine storeIn_new' rfl 44 (.tmp 20) (.tmp 123) rfl _ _ _ _ (by first | rfl | simp) rfl rfl rfl infoNode (Hd.one H ONH.out) ?_; generalize hW13 : w12.alloc (Obj.cells _ 44) = W13; have K13 : Hid (Kp w12 W13 Nul) := (by show Kp _ _ _; rw [← hW13]; exact (Kp.refl _ _).alloc _); have HB13 : Hid (Blk W13 w12.heap.size (H.cells sl') 44) := (by show Blk _ _ _ _; rw [← hW13]; exact Blk.new w12 _ _); have lC0 := (e5.out W13 ((KV10.out.trans K12.out).trans K13.out)).2.2.2.2.2.2; rw [hak] at lC0; have l14 := HC14.out W13 ((KV10.out.trans K12.out).trans K13.out); clear hW13)
                  | fail)
                all_goals first
                  | (exfalso; rename_i hu _; revert hu; unfold undef; simp; done)
                  | skip
                refine ⟨trivial, ?_⟩
                gi_wp2_with (first
                  | (refine storeIn_var rfl 3 (.tmp 14) (.tmp 140) rfl (w4.heap.size + 1) rfl (.int .i64 ((N : Int) + 1)) rfl rfl 3 (.int .i64 N) (HB14.out _ ((KV10.out.trans K12.out).trans K13.out)) (by kernel_rfl) ?_; intro Y hbY hkY)
                  | fail)
                have HKY : Kp V Y (fun i => (Z i ∨ i ∈ fp) ∨ W.heap.size ≤ i) := ((((KV10.out.trans K12.out).trans K13.out) : Kp V _ Nul).mono (fun _ _ q => q.elim)).trans (hkY.mono (fun i _ e => .inl (.inl ((HIV.out.z i).2 e))))
                have HEND := (HIV.out.nul ((KV10.out.trans K12.out).trans K13.out)).next HKk.out HNe.out hkY (by rw [HN.out]; exact hbY)
                first
                | exact ⟨rfl, HKY, Z, HEND, fun i hi => .inl hi⟩
                | exact ⟨HKY, Z, HEND, fun i hi => .inl hi⟩
              · rw [hak] at lC0 lD0
                gi_wp2_with fail
                refine ⟨trivial, ?_⟩
                gi_wp2_with (first
                  | (refine loadIn_row rfl 44 (.tmp 117) rfl (W.heap.size + 1) 6 rfl (a.t.hd.cells sl) _ (ct_row (HBC10.out _ (Kp.refl w10 Nul))) Tryz.underlying44 rfl infoNode ?_)
                  | fail)
                refine ⟨trivial, CallsIn.inRound _ ((callsIn_wide.2 (HFm.out _ (KV10.out.trans (Kp.refl w10 Nul)))).mono ?_)⟩
                rintro e w12 ⟨H, sl', er, rfl, hon, hk12, h2⟩
                have K12 : Hid (Kp w10 w12 Nul) := (Kp.refl w10 Nul).trans hk12
                have ONH : Hid (sl'.oneCell' = true) := hon
                have HH2 : Hid (a.k = 2 → er = 0 ∧ H = (alN (lnF true k p) a.t).hd ∧ NdIn w12 (fun _ => True) sl' (alN (lnF true k p) a.t)) := h2
                clear hon hk12 h2 l5 l10 l11 l12 lA0 lA1 lC0 lD0
                obtain ⟨rfl, rfl, hinH⟩ := HH2.out hak
                have HFS : Hid (∀ wq, Kp w12 wq Nul → Calls Tryz.prog 15 #[.agg ((alN (lnF true k p) a.t).hd.cells sl').toArray, .agg (D.t.hd.cells slD).toArray] wq fun e w' => e = .returned (.bool true) ∧ Kp wq w' Nul) := fun wq q => by
                  have h := tsame_at (alN (lnF true k p) a.t) D.t sl' slD (fun _ => True) (fun _ => True) wq (by rw [← HDt.out]; exact HGdD.out.ok) HGdD.out.ok (hinH.kp q (fun _ _ x => x)) ((HOwD.out.own.mono (fun i hi => (((K9.out.trans K10.out).trans K12.out).trans q).block i (node_lt (HOwD.out.own.node i hi)) (fun x => x))).isIn (fun _ _ => trivial))
                  rw [HDt.out, tsame_refl] at h
                  rw [HDt.out]
                  exact h.mono fun e w' h => ⟨h.1, Kp.of_gr h.2⟩
                clear hinH HH2
                obtain ⟨H, hH⟩ : ∃ H, (alN (lnF true k p) a.t).hd = H := ⟨_, rfl⟩
                rw [hH] at HFS ⊢
                clear hH
                gi_wp2_with (first
                  | (refine storeIn_new' rfl 44 (.tmp 20) (.tmp 123) rfl _ _ _ _ (by first | rfl | simp) rfl rfl rfl infoNode (Hd.one H ONH.out) ?_; generalize hW13 : w12.alloc (Obj.cells _ 44) = W13; have K13 : Hid (Kp w12 W13 Nul) := (by show Kp _ _ _; rw [← hW13]; exact (Kp.refl _ _).alloc _); have HB13 : Hid (Blk W13 w12.heap.size (H.cells sl') 44) := (by show Blk _ _ _ _; rw [← hW13]; exact Blk.new w12 _ _); have lC0 := (e5.out W13 ((KV10.out.trans K12.out).trans K13.out)).2.2.2.2.2.2; rw [hak] at lC0; have l14 := HC14.out W13 ((KV10.out.trans K12.out).trans K13.out); clear hW13)
                  | (refine loadIn_row rfl 44 (.tmp 20) rfl w12.heap.size 0 rfl (H.cells sl') _ (rangeAt_blk HB13.out) Tryz.underlying44 rfl infoNode ?_)
                  | (refine loadIn_row rfl 44 (.tmp 133) rfl w8.heap.size 6 rfl (D.t.hd.cells slD) _ (ct_row (HBD10.out _ (K12.out.trans K13.out))) Tryz.underlying44 rfl infoNode ?_)
                  | fail)
                refine ⟨trivial, CallsIn.inRound _ ((callsIn_wide.2 (HFS.out _ K13.out)).mono ?_)⟩
                rintro e w14 ⟨rfl, hk14⟩
                have K14 : Hid (Kp W13 w14 Nul) := hk14
                clear hk14 HFS l14 lC0
                have l14 := HC14.out w14 (((KV10.out.trans K12.out).trans K13.out).trans K14.out)
                gi_wp2_with (first
                  | (refine storeIn_var rfl 3 (.tmp 14) (.tmp 140) rfl (w4.heap.size + 1) rfl (.int .i64 ((N : Int) + 1)) rfl rfl 3 (.int .i64 N) (HB14.out _ (((KV10.out.trans K12.out).trans K13.out).trans K14.out)) (by kernel_rfl) ?_; intro Y hbY hkY)
                  | fail)
                have HKY : Kp V Y (fun i => (Z i ∨ i ∈ fp) ∨ W.heap.size ≤ i) := (((((KV10.out.trans K12.out).trans K13.out).trans K14.out) : Kp V _ Nul).mono (fun _ _ q => q.elim)).trans (hkY.mono (fun i _ e => .inl (.inl ((HIV.out.z i).2 e))))
                have HEND := (HIV.out.nul (((KV10.out.trans K12.out).trans K13.out).trans K14.out)).next HKk.out HNe.out hkY (by rw [HN.out]; exact hbY)
                first
                | exact ⟨rfl, HKY, Z, HEND, fun i hi => .inl hi⟩
                | exact ⟨HKY, Z, HEND, fun i hi => .inl hi⟩
            · clear hg
              have hMy : ((c + p, s), alC (lnF true k p) a) ∈ M := (HMem.out _).2 (brL_mem.2 ⟨_, HMm.out, _, hst, rfl⟩)
              have hvy : vC (c + p) (s) = true := HOkM.out.at' _ hMy
              have hne : lnF true k p ((c, s), (c, s)) ≠ none := by rw [hst]; exact fun q => by cases q
              have HNe : Hid (lnF true k p ((c, s), (c, s)) ≠ none) := hne
              have HVal : Hid (∀ w, Calls Tryz.prog 30 #[.agg #[.int .i64 (c + p), .int .i64 (s)]] w fun e w' => e = .returned (.bool true) ∧ Kp w w' Nul) := fun w => (pValid_at (c + p) (s) w).mono fun e w' ⟨h1, h2⟩ => ⟨by rw [h1, hvy], by rw [h2]; exact (Kp.refl _ _).alloc _⟩
              obtain ⟨D, hD⟩ : ∃ D, alC (lnF true k p) a = D := ⟨_, rfl⟩
              have hDk : D.k = a.k := by rw [← hD]; rfl
              have hDt : D.t = alN (lnF true k p) a.t := by rw [← hD]; rfl
              rw [hD] at hMy
              have HGdD : Hid (Gd D) := HOkM.out.gd _ hMy
              have HDS : Hid (a.k = 1 → csame a D = true) := fun q => by show csame a D = true; rw [← hD, alC_plain _ HGd.out.val (by omega)]; exact csame_refl a
              have HGet : Hid (∀ wq, Kp V wq Nul → Calls Tryz.prog 27 #[.pointer (some ⟨g2, 0, none⟩), .agg #[.int .i64 (c + p), .int .i64 (s)]] wq fun e w' => ∃ slD fpD, e = .returned (D.val slD) ∧ Own w' wq.heap.size slD D.t fpD ∧ Kp wq w' Nul) := fun wq q => get_in g2 M wq (GridIn.mono (HIV.out.gi.kp q) (fun _ _ => Nat.zero_le _)) HOkM.out (c + p) (s) (by rw [vC_iff] at hvy; unfold I64; omega) (by rw [vC_iff] at hvy; unfold I64; omega) D hMy
              have HDk : Hid (D.k = a.k) := hDk
              have HDt : Hid (D.t = alN (lnF true k p) a.t) := hDt
              clear hD hDk hDt hMy hvy hne hst
              have f5 := e5.out V (Kp.refl _ _)
              obtain ⟨l5, l10, l11, l12, lA0, lA1, lC0⟩ := f5
              gi_wp2_with fail
              refine ⟨trivial, CallsIn.inRound _ ((callsIn_wide.2 (HAt.out _ _ _)).mono ?_)⟩
              rintro e v1 ⟨rfl, hk1'⟩
              clear l5 l10 l11 l12 lA0 lA1 lC0
              have KV1 : Hid (Kp V v1 Nul) := hk1'
              clear hk1'
              have f5 := e5.out _ (KV1.out.alloc (.cells #[.int .i64 c, .int .i64 (c + p)] 32))
              obtain ⟨l5, l10, l11, l12, lA0, lA1, lC0⟩ := f5
              obtain ⟨X0, hX0⟩ : ∃ X0, v1.alloc (.cells #[.int .i64 c, .int .i64 (c + p)] 32) = X0 := ⟨_, rfl⟩
              have B0 : Blk X0 v1.heap.size [.int .i64 c, .int .i64 (c + p)] 32 := by rw [← hX0]; exact Blk.new v1 _ _
              have KX0 : Hid (Kp V X0 Nul) := by show Kp _ _ _; rw [← hX0]; exact KV1.out.alloc _
              have HX0 : Hid (v1.alloc (.cells #[.int .i64 c, .int .i64 (c + p)] 32) = X0) := hX0
              clear hX0
              gi_wp2_with fail
              rw [HX0.out]
              clear HX0 l5 l10 l11 l12 lA0 lA1 lC0
              refine ⟨trivial, CallsIn.inRound _ ((callsIn_wide.2 (HAt.out _ _ _)).mono ?_)⟩
              rintro e v2 ⟨rfl, hk2'⟩
              have B2 : Hid (Blk v2 v1.heap.size [.int .i64 c, .int .i64 (c + p)] 32) := B0.kp hk2' (fun x => x)
              have KV2 : Hid (Kp V v2 Nul) := KX0.out.trans hk2'
              clear B0 KX0 hk2'
              gi_wp2_with (first
                | (refine storeIn_part rfl 32 (.tmp 18) (.tmp 91) rfl v1.heap.size 0 [] [.int .i64 c, .int .i64 (c + p)] [] [.int .i64 (c + p), .int .i64 (s)] 32 B2.out rfl rfl rfl rfl infoAddr2 (by simp [Value.oneCell']) ?_; intro X hbX hkX; have KX : Hid (Kp V X Nul) := KV2.out.trans' hkX (fun i hi e => by have e' : i = v1.heap.size := e; have := KV1.out.size; omega); have HBY : Hid (∀ wq, Kp X wq Nul → wq.cell? ⟨v1.heap.size, 0, none⟩ = some (.int .i64 (c + p)) ∧ wq.cell? ⟨v1.heap.size, 1, none⟩ = some (.int .i64 (s))) := (fun wq q => ⟨(hbX.kp q (fun x => x)).cell rfl, (hbX.kp q (fun x => x)).cell rfl⟩); have l12 := (e5.out X KX.out).2.2.2.1; have y0 := (HBY.out X (Kp.refl _ _)).1; have y1 := (HBY.out X (Kp.refl _ _)).2; clear hbX hkX)
                | fail)
              clear l12 y0 y1
              refine ⟨trivial, CallsIn.inRound _ ((callsIn_wide.2 (HGet.out _ KX.out)).mono ?_)⟩
              rintro e w8 ⟨slD, fpD, rfl, hownD, hk8⟩
              have K8 : Hid (Kp X w8 Nul) := hk8
              have HOwD : Hid (Own w8 X.heap.size slD D.t fpD) := hownD
              have OND : Hid (slD.oneCell' = true) := hownD.own.one
              clear hk8 hownD HGet
              gi_wp2_with (first
                | (refine storeIn_new' rfl 55 (.tmp 19) (.tmp 94) rfl _ _ _ _ (by first | rfl | simp) rfl rfl rfl infoContent (D.one OND.out) ?_; generalize hW9 : w8.alloc (Obj.cells _ 55) = W9; have K9 : Hid (Kp w8 W9 Nul) := (by show Kp _ _ _; rw [← hW9]; exact (Kp.refl _ _).alloc _); have HB9 : Hid (Blk W9 w8.heap.size (D.cells slD) 55) := (by show Blk _ _ _ _; rw [← hW9]; exact Blk.new w8 _ _); have y0 := (HBY.out W9 (K8.out.trans K9.out)).1; have y1 := (HBY.out W9 (K8.out.trans K9.out)).2; clear hW9)
                | fail)
              clear y0 y1
              refine ⟨trivial, CallsIn.inRound _ ((callsIn_wide.2 (HVal.out _)).mono ?_)⟩
              rintro e w10 ⟨rfl, hk10⟩
              have K10 : Hid (Kp W9 w10 Nul) := hk10
              have KV10 : Hid (Kp V w10 Nul) := ((KX.out.trans K8.out).trans K9.out).trans hk10
              clear hk10 HVal HBY
              have f5 := e5.out w10 KV10.out
              obtain ⟨l5, l10, l11, l12, lA0, lA1, lC0⟩ := f5
              have lD0 : w10.cell? ⟨w8.heap.size, 0, none⟩ = some (.int .i64 a.k) := by rw [← HDk.out]; exact (HB9.out.kp K10.out (fun x => x)).cell rfl
              have HBC10 : Hid (∀ wq, Kp w10 wq Nul → Blk wq (W.heap.size + 1) (a.cells sl) 55) := fun wq q => HbC.out.kp (KV10.out.trans q) (fun x => x)
              have HBD10 : Hid (∀ wq, Kp w10 wq Nul → Blk wq w8.heap.size (D.cells slD) 55) := fun wq q => HB9.out.kp (K10.out.trans q) (fun x => x)
              clear hak
              have hlN : (brL (lnF true k p) (K.take j)).length ≤ 4096 := by
                have h1 := brL_le (lnF true k p) (K.take j)
                have h2 := HKl.out
                rw [List.length_take] at h1
                omega
              obtain ⟨N, hN⟩ : ∃ N, (brL (lnF true k p) (K.take j)).length = N := ⟨_, rfl⟩
              rw [hN] at hlN
              have HN : Hid ((brL (lnF true k p) (K.take j)).length = N) := hN
              have HB14 : Hid (∀ wq, Kp V wq Nul → Blk wq (w4.heap.size + 1) [.int .i64 N] 3) := fun wq q => by have h := HIV.out.c14.kp q (fun x => x); rw [hN] at h; exact h
              have HC14 : Hid (∀ wq, Kp V wq Nul → wq.cell? ⟨w4.heap.size + 1, 0, none⟩ = some (.int .i64 N)) := fun wq q => (HB14.out wq q).cell rfl
              clear hN
              have hN0 : (0 : Int) ≤ (N : Int) := by omega
              have hN1 : (N : Int) ≤ 4096 := by omega
              rcases gd_kind HGd.out with hak | hak
              · rw [hak] at lC0 lD0
                have HSm : Hid (∀ wq, Kp w10 wq Nul → Calls Tryz.prog 28 #[.agg (a.cells sl).toArray, .agg (D.cells slD).toArray] wq fun e w' => e = .returned (.bool true) ∧ Kp wq w' Nul) := fun wq q => by
                  have h := gSame_at a D sl slD (fun _ => True) (fun _ => True) wq HGd.out.x HGdD.out.x HGd.out.ok HGdD.out.ok ((HOwnV.out.mono (fun i hi => (KV10.out.trans q).block i (node_lt (HOwnV.out.node i hi)) (fun x => x))).isIn (fun _ _ => trivial)) ((HOwD.out.own.mono (fun i hi => ((K9.out.trans K10.out).trans q).block i (node_lt (HOwD.out.own.node i hi)) (fun x => x))).isIn (fun _ _ => trivial))
                  rw [HDS.out hak] at h
                  exact h
                gi_wp2_with (first
                  | (refine loadIn_content rfl (.tmp 16) rfl (W.heap.size + 1) rfl (a.cells sl).toArray (HBC10.out _ (Kp.refl _ _)) rfl ?_)
                  | (refine loadIn_content rfl (.tmp 19) rfl w8.heap.size rfl (D.cells slD).toArray (HBD10.out _ (Kp.refl _ _)) rfl ?_)
                  | fail)
                refine ⟨trivial, CallsIn.inRound _ ((callsIn_wide.2 (HSm.out _ (Kp.refl _ _))).mono ?_)⟩
                rintro e w11 ⟨rfl, hk11⟩
                have K11 : Hid (Kp w10 w11 Nul) := hk11
                clear hk11 HSm l5 l10 l11 l12 lA0 lA1 lC0 lD0
                have lD0 : True := trivial
                have f5 := e5.out w11 (KV10.out.trans K11.out)
                obtain ⟨l5, l10, l11, l12, lA0, lA1, lC0⟩ := f5
                rw [hak] at lC0
                gi_wp2_with (first
                  | (refine loadIn_row rfl 44 (.tmp 117) rfl (W.heap.size + 1) 6 rfl (a.t.hd.cells sl) _ (ct_row (HBC10.out _ K11.out)) Tryz.underlying44 rfl infoNode ?_)
                  | fail)
                refine ⟨trivial, CallsIn.inRound _ ((callsIn_wide.2 (HFm.out _ (KV10.out.trans K11.out))).mono ?_)⟩
                rintro e w12 ⟨H, sl', er, rfl, hon, hk12, h2⟩
                have K12 : Hid (Kp w10 w12 Nul) := K11.out.trans hk12
                have ONH : Hid (sl'.oneCell' = true) := hon
                have HH2 : Hid (a.k = 2 → er = 0 ∧ H = (alN (lnF true k p) a.t).hd ∧ NdIn w12 (fun _ => True) sl' (alN (lnF true k p) a.t)) := h2
                clear hon hk12 h2 l5 l10 l11 l12 lA0 lA1 lC0 lD0
                gi_wp2_with (first
                  | (refine storeIn_new' rfl 44 (.tmp 20) (.tmp 123) rfl _ _ _ _ (by first | rfl | simp) rfl rfl rfl infoNode (Hd.one H ONH.out) ?_; generalize hW13 : w12.alloc (Obj.cells _ 44) = W13; have K13 : Hid (Kp w12 W13 Nul) := (by show Kp _ _ _; rw [← hW13]; exact (Kp.refl _ _).alloc _); have HB13 : Hid (Blk W13 w12.heap.size (H.cells sl') 44) := (by show Blk _ _ _ _; rw [← hW13]; exact Blk.new w12 _ _); have lC0 := (e5.out W13 ((KV10.out.trans K12.out).trans K13.out)).2.2.2.2.2.2; rw [hak] at lC0; have l14 := HC14.out W13 ((KV10.out.trans K12.out).trans K13.out); clear hW13)
                  | fail)
                all_goals first
                  | (exfalso; rename_i hu _; revert hu; unfold undef; simp; done)
                  | skip
                refine ⟨trivial, ?_⟩
                gi_wp2_with (first
                  | (refine storeIn_var rfl 3 (.tmp 14) (.tmp 140) rfl (w4.heap.size + 1) rfl (.int .i64 ((N : Int) + 1)) rfl rfl 3 (.int .i64 N) (HB14.out _ ((KV10.out.trans K12.out).trans K13.out)) (by kernel_rfl) ?_; intro Y hbY hkY)
                  | fail)
                have HKY : Kp V Y (fun i => (Z i ∨ i ∈ fp) ∨ W.heap.size ≤ i) := ((((KV10.out.trans K12.out).trans K13.out) : Kp V _ Nul).mono (fun _ _ q => q.elim)).trans (hkY.mono (fun i _ e => .inl (.inl ((HIV.out.z i).2 e))))
                have HEND := (HIV.out.nul ((KV10.out.trans K12.out).trans K13.out)).next HKk.out HNe.out hkY (by rw [HN.out]; exact hbY)
                first
                | exact ⟨rfl, HKY, Z, HEND, fun i hi => .inl hi⟩
                | exact ⟨HKY, Z, HEND, fun i hi => .inl hi⟩
              · rw [hak] at lC0 lD0
                gi_wp2_with fail
                refine ⟨trivial, ?_⟩
                gi_wp2_with (first
                  | (refine loadIn_row rfl 44 (.tmp 117) rfl (W.heap.size + 1) 6 rfl (a.t.hd.cells sl) _ (ct_row (HBC10.out _ (Kp.refl w10 Nul))) Tryz.underlying44 rfl infoNode ?_)
                  | fail)
                refine ⟨trivial, CallsIn.inRound _ ((callsIn_wide.2 (HFm.out _ (KV10.out.trans (Kp.refl w10 Nul)))).mono ?_)⟩
                rintro e w12 ⟨H, sl', er, rfl, hon, hk12, h2⟩
                have K12 : Hid (Kp w10 w12 Nul) := (Kp.refl w10 Nul).trans hk12
                have ONH : Hid (sl'.oneCell' = true) := hon
                have HH2 : Hid (a.k = 2 → er = 0 ∧ H = (alN (lnF true k p) a.t).hd ∧ NdIn w12 (fun _ => True) sl' (alN (lnF true k p) a.t)) := h2
                clear hon hk12 h2 l5 l10 l11 l12 lA0 lA1 lC0 lD0
                obtain ⟨rfl, rfl, hinH⟩ := HH2.out hak
                have HFS : Hid (∀ wq, Kp w12 wq Nul → Calls Tryz.prog 15 #[.agg ((alN (lnF true k p) a.t).hd.cells sl').toArray, .agg (D.t.hd.cells slD).toArray] wq fun e w' => e = .returned (.bool true) ∧ Kp wq w' Nul) := fun wq q => by
                  have h := tsame_at (alN (lnF true k p) a.t) D.t sl' slD (fun _ => True) (fun _ => True) wq (by rw [← HDt.out]; exact HGdD.out.ok) HGdD.out.ok (hinH.kp q (fun _ _ x => x)) ((HOwD.out.own.mono (fun i hi => (((K9.out.trans K10.out).trans K12.out).trans q).block i (node_lt (HOwD.out.own.node i hi)) (fun x => x))).isIn (fun _ _ => trivial))
                  rw [HDt.out, tsame_refl] at h
                  rw [HDt.out]
                  exact h.mono fun e w' h => ⟨h.1, Kp.of_gr h.2⟩
                clear hinH HH2
                obtain ⟨H, hH⟩ : ∃ H, (alN (lnF true k p) a.t).hd = H := ⟨_, rfl⟩
                rw [hH] at HFS ⊢
                clear hH
                gi_wp2_with (first
                  | (refine storeIn_new' rfl 44 (.tmp 20) (.tmp 123) rfl _ _ _ _ (by first | rfl | simp) rfl rfl rfl infoNode (Hd.one H ONH.out) ?_; generalize hW13 : w12.alloc (Obj.cells _ 44) = W13; have K13 : Hid (Kp w12 W13 Nul) := (by show Kp _ _ _; rw [← hW13]; exact (Kp.refl _ _).alloc _); have HB13 : Hid (Blk W13 w12.heap.size (H.cells sl') 44) := (by show Blk _ _ _ _; rw [← hW13]; exact Blk.new w12 _ _); have lC0 := (e5.out W13 ((KV10.out.trans K12.out).trans K13.out)).2.2.2.2.2.2; rw [hak] at lC0; have l14 := HC14.out W13 ((KV10.out.trans K12.out).trans K13.out); clear hW13)
                  | (refine loadIn_row rfl 44 (.tmp 20) rfl w12.heap.size 0 rfl (H.cells sl') _ (rangeAt_blk HB13.out) Tryz.underlying44 rfl infoNode ?_)
                  | (refine loadIn_row rfl 44 (.tmp 133) rfl w8.heap.size 6 rfl (D.t.hd.cells slD) _ (ct_row (HBD10.out _ (K12.out.trans K13.out))) Tryz.underlying44 rfl infoNode ?_)
                  | fail)
                refine ⟨trivial, CallsIn.inRound _ ((callsIn_wide.2 (HFS.out _ K13.out)).mono ?_)⟩
                rintro e w14 ⟨rfl, hk14⟩
                have K14 : Hid (Kp W13 w14 Nul) := hk14
                clear hk14 HFS l14 lC0
                have l14 := HC14.out w14 (((KV10.out.trans K12.out).trans K13.out).trans K14.out)
                gi_wp2_with (first
                  | (refine storeIn_var rfl 3 (.tmp 14) (.tmp 140) rfl (w4.heap.size + 1) rfl (.int .i64 ((N : Int) + 1)) rfl rfl 3 (.int .i64 N) (HB14.out _ (((KV10.out.trans K12.out).trans K13.out).trans K14.out)) (by kernel_rfl) ?_; intro Y hbY hkY)
                  | fail)
                have HKY : Kp V Y (fun i => (Z i ∨ i ∈ fp) ∨ W.heap.size ≤ i) := (((((KV10.out.trans K12.out).trans K13.out).trans K14.out) : Kp V _ Nul).mono (fun _ _ q => q.elim)).trans (hkY.mono (fun i _ e => .inl (.inl ((HIV.out.z i).2 e))))
                have HEND := (HIV.out.nul (((KV10.out.trans K12.out).trans K13.out).trans K14.out)).next HKk.out HNe.out hkY (by rw [HN.out]; exact hbY)
                first
                | exact ⟨rfl, HKY, Z, HEND, fun i hi => .inl hi⟩
                | exact ⟨HKY, Z, HEND, fun i hi => .inl hi⟩
          · have ez : lnAt k p c = c := by unfold lnAt; rw [if_neg hkz]
            rw [ez] at hst
            clear ez
            by_cases hpn : p < 0
            · clear hg
              have hMy : ((c, s), alC (lnF true k p) a) ∈ M := (HMem.out _).2 (brL_mem.2 ⟨_, HMm.out, _, hst, rfl⟩)
              have hvy : vC (c) (s) = true := HOkM.out.at' _ hMy
              have hne : lnF true k p ((c, s), (c, s)) ≠ none := by rw [hst]; exact fun q => by cases q
              have HNe : Hid (lnF true k p ((c, s), (c, s)) ≠ none) := hne
              have HVal : Hid (∀ w, Calls Tryz.prog 30 #[.agg #[.int .i64 (c), .int .i64 (s)]] w fun e w' => e = .returned (.bool true) ∧ Kp w w' Nul) := fun w => (pValid_at (c) (s) w).mono fun e w' ⟨h1, h2⟩ => ⟨by rw [h1, hvy], by rw [h2]; exact (Kp.refl _ _).alloc _⟩
              obtain ⟨D, hD⟩ : ∃ D, alC (lnF true k p) a = D := ⟨_, rfl⟩
              have hDk : D.k = a.k := by rw [← hD]; rfl
              have hDt : D.t = alN (lnF true k p) a.t := by rw [← hD]; rfl
              rw [hD] at hMy
              have HGdD : Hid (Gd D) := HOkM.out.gd _ hMy
              have HDS : Hid (a.k = 1 → csame a D = true) := fun q => by show csame a D = true; rw [← hD, alC_plain _ HGd.out.val (by omega)]; exact csame_refl a
              have HGet : Hid (∀ wq, Kp V wq Nul → Calls Tryz.prog 27 #[.pointer (some ⟨g2, 0, none⟩), .agg #[.int .i64 (c), .int .i64 (s)]] wq fun e w' => ∃ slD fpD, e = .returned (D.val slD) ∧ Own w' wq.heap.size slD D.t fpD ∧ Kp wq w' Nul) := fun wq q => get_in g2 M wq (GridIn.mono (HIV.out.gi.kp q) (fun _ _ => Nat.zero_le _)) HOkM.out (c) (s) (by rw [vC_iff] at hvy; unfold I64; omega) (by rw [vC_iff] at hvy; unfold I64; omega) D hMy
              have HDk : Hid (D.k = a.k) := hDk
              have HDt : Hid (D.t = alN (lnF true k p) a.t) := hDt
              clear hD hDk hDt hMy hvy hne hst
              have f5 := e5.out V (Kp.refl _ _)
              obtain ⟨l5, l10, l11, l12, lA0, lA1, lC0⟩ := f5
              gi_wp2_with fail
              refine ⟨trivial, CallsIn.inRound _ ((callsIn_wide.2 (HAt.out _ _ _)).mono ?_)⟩
              rintro e v1 ⟨rfl, hk1'⟩
              clear l5 l10 l11 l12 lA0 lA1 lC0
              have KV1 : Hid (Kp V v1 Nul) := hk1'
              clear hk1'
              have f5 := e5.out _ (KV1.out.alloc (.cells #[.int .i64 c, .int .i64 (c)] 32))
              obtain ⟨l5, l10, l11, l12, lA0, lA1, lC0⟩ := f5
              obtain ⟨X0, hX0⟩ : ∃ X0, v1.alloc (.cells #[.int .i64 c, .int .i64 (c)] 32) = X0 := ⟨_, rfl⟩
              have B0 : Blk X0 v1.heap.size [.int .i64 c, .int .i64 (c)] 32 := by rw [← hX0]; exact Blk.new v1 _ _
              have KX0 : Hid (Kp V X0 Nul) := by show Kp _ _ _; rw [← hX0]; exact KV1.out.alloc _
              have HX0 : Hid (v1.alloc (.cells #[.int .i64 c, .int .i64 (c)] 32) = X0) := hX0
              clear hX0
              gi_wp2_with fail
              rw [HX0.out]
              clear HX0 l5 l10 l11 l12 lA0 lA1 lC0
              refine ⟨trivial, CallsIn.inRound _ ((callsIn_wide.2 (HAt.out _ _ _)).mono ?_)⟩
              rintro e v2 ⟨rfl, hk2'⟩
              have B2 : Hid (Blk v2 v1.heap.size [.int .i64 c, .int .i64 (c)] 32) := B0.kp hk2' (fun x => x)
              have KV2 : Hid (Kp V v2 Nul) := KX0.out.trans hk2'
              clear B0 KX0 hk2'
              gi_wp2_with (first
                | (refine storeIn_part rfl 32 (.tmp 18) (.tmp 91) rfl v1.heap.size 0 [] [.int .i64 c, .int .i64 (c)] [] [.int .i64 (c), .int .i64 (s)] 32 B2.out rfl rfl rfl rfl infoAddr2 (by simp [Value.oneCell']) ?_; intro X hbX hkX; have KX : Hid (Kp V X Nul) := KV2.out.trans' hkX (fun i hi e => by have e' : i = v1.heap.size := e; have := KV1.out.size; omega); have HBY : Hid (∀ wq, Kp X wq Nul → wq.cell? ⟨v1.heap.size, 0, none⟩ = some (.int .i64 (c)) ∧ wq.cell? ⟨v1.heap.size, 1, none⟩ = some (.int .i64 (s))) := (fun wq q => ⟨(hbX.kp q (fun x => x)).cell rfl, (hbX.kp q (fun x => x)).cell rfl⟩); have l12 := (e5.out X KX.out).2.2.2.1; have y0 := (HBY.out X (Kp.refl _ _)).1; have y1 := (HBY.out X (Kp.refl _ _)).2; clear hbX hkX)
                | fail)
              clear l12 y0 y1
              refine ⟨trivial, CallsIn.inRound _ ((callsIn_wide.2 (HGet.out _ KX.out)).mono ?_)⟩
              rintro e w8 ⟨slD, fpD, rfl, hownD, hk8⟩
              have K8 : Hid (Kp X w8 Nul) := hk8
              have HOwD : Hid (Own w8 X.heap.size slD D.t fpD) := hownD
              have OND : Hid (slD.oneCell' = true) := hownD.own.one
              clear hk8 hownD HGet
              gi_wp2_with (first
                | (refine storeIn_new' rfl 55 (.tmp 19) (.tmp 94) rfl _ _ _ _ (by first | rfl | simp) rfl rfl rfl infoContent (D.one OND.out) ?_; generalize hW9 : w8.alloc (Obj.cells _ 55) = W9; have K9 : Hid (Kp w8 W9 Nul) := (by show Kp _ _ _; rw [← hW9]; exact (Kp.refl _ _).alloc _); have HB9 : Hid (Blk W9 w8.heap.size (D.cells slD) 55) := (by show Blk _ _ _ _; rw [← hW9]; exact Blk.new w8 _ _); have y0 := (HBY.out W9 (K8.out.trans K9.out)).1; have y1 := (HBY.out W9 (K8.out.trans K9.out)).2; clear hW9)
                | fail)
              clear y0 y1
              refine ⟨trivial, CallsIn.inRound _ ((callsIn_wide.2 (HVal.out _)).mono ?_)⟩
              rintro e w10 ⟨rfl, hk10⟩
              have K10 : Hid (Kp W9 w10 Nul) := hk10
              have KV10 : Hid (Kp V w10 Nul) := ((KX.out.trans K8.out).trans K9.out).trans hk10
              clear hk10 HVal HBY
              have f5 := e5.out w10 KV10.out
              obtain ⟨l5, l10, l11, l12, lA0, lA1, lC0⟩ := f5
              have lD0 : w10.cell? ⟨w8.heap.size, 0, none⟩ = some (.int .i64 a.k) := by rw [← HDk.out]; exact (HB9.out.kp K10.out (fun x => x)).cell rfl
              have HBC10 : Hid (∀ wq, Kp w10 wq Nul → Blk wq (W.heap.size + 1) (a.cells sl) 55) := fun wq q => HbC.out.kp (KV10.out.trans q) (fun x => x)
              have HBD10 : Hid (∀ wq, Kp w10 wq Nul → Blk wq w8.heap.size (D.cells slD) 55) := fun wq q => HB9.out.kp (K10.out.trans q) (fun x => x)
              clear hak
              have hlN : (brL (lnF true k p) (K.take j)).length ≤ 4096 := by
                have h1 := brL_le (lnF true k p) (K.take j)
                have h2 := HKl.out
                rw [List.length_take] at h1
                omega
              obtain ⟨N, hN⟩ : ∃ N, (brL (lnF true k p) (K.take j)).length = N := ⟨_, rfl⟩
              rw [hN] at hlN
              have HN : Hid ((brL (lnF true k p) (K.take j)).length = N) := hN
              have HB14 : Hid (∀ wq, Kp V wq Nul → Blk wq (w4.heap.size + 1) [.int .i64 N] 3) := fun wq q => by have h := HIV.out.c14.kp q (fun x => x); rw [hN] at h; exact h
              have HC14 : Hid (∀ wq, Kp V wq Nul → wq.cell? ⟨w4.heap.size + 1, 0, none⟩ = some (.int .i64 N)) := fun wq q => (HB14.out wq q).cell rfl
              clear hN
              have hN0 : (0 : Int) ≤ (N : Int) := by omega
              have hN1 : (N : Int) ≤ 4096 := by omega
              rcases gd_kind HGd.out with hak | hak
              · rw [hak] at lC0 lD0
                have HSm : Hid (∀ wq, Kp w10 wq Nul → Calls Tryz.prog 28 #[.agg (a.cells sl).toArray, .agg (D.cells slD).toArray] wq fun e w' => e = .returned (.bool true) ∧ Kp wq w' Nul) := fun wq q => by
                  have h := gSame_at a D sl slD (fun _ => True) (fun _ => True) wq HGd.out.x HGdD.out.x HGd.out.ok HGdD.out.ok ((HOwnV.out.mono (fun i hi => (KV10.out.trans q).block i (node_lt (HOwnV.out.node i hi)) (fun x => x))).isIn (fun _ _ => trivial)) ((HOwD.out.own.mono (fun i hi => ((K9.out.trans K10.out).trans q).block i (node_lt (HOwD.out.own.node i hi)) (fun x => x))).isIn (fun _ _ => trivial))
                  rw [HDS.out hak] at h
                  exact h
                gi_wp2_with (first
                  | (refine loadIn_content rfl (.tmp 16) rfl (W.heap.size + 1) rfl (a.cells sl).toArray (HBC10.out _ (Kp.refl _ _)) rfl ?_)
                  | (refine loadIn_content rfl (.tmp 19) rfl w8.heap.size rfl (D.cells slD).toArray (HBD10.out _ (Kp.refl _ _)) rfl ?_)
                  | fail)
                refine ⟨trivial, CallsIn.inRound _ ((callsIn_wide.2 (HSm.out _ (Kp.refl _ _))).mono ?_)⟩
                rintro e w11 ⟨rfl, hk11⟩
                have K11 : Hid (Kp w10 w11 Nul) := hk11
                clear hk11 HSm l5 l10 l11 l12 lA0 lA1 lC0 lD0
                have lD0 : True := trivial
                have f5 := e5.out w11 (KV10.out.trans K11.out)
                obtain ⟨l5, l10, l11, l12, lA0, lA1, lC0⟩ := f5
                rw [hak] at lC0
                gi_wp2_with (first
                  | (refine loadIn_row rfl 44 (.tmp 117) rfl (W.heap.size + 1) 6 rfl (a.t.hd.cells sl) _ (ct_row (HBC10.out _ K11.out)) Tryz.underlying44 rfl infoNode ?_)
                  | fail)
                refine ⟨trivial, CallsIn.inRound _ ((callsIn_wide.2 (HFm.out _ (KV10.out.trans K11.out))).mono ?_)⟩
                rintro e w12 ⟨H, sl', er, rfl, hon, hk12, h2⟩
                have K12 : Hid (Kp w10 w12 Nul) := K11.out.trans hk12
                have ONH : Hid (sl'.oneCell' = true) := hon
                have HH2 : Hid (a.k = 2 → er = 0 ∧ H = (alN (lnF true k p) a.t).hd ∧ NdIn w12 (fun _ => True) sl' (alN (lnF true k p) a.t)) := h2
                clear hon hk12 h2 l5 l10 l11 l12 lA0 lA1 lC0 lD0
                gi_wp2_with (first
                  | (refine storeIn_new' rfl 44 (.tmp 20) (.tmp 123) rfl _ _ _ _ (by first | rfl | simp) rfl rfl rfl infoNode (Hd.one H ONH.out) ?_; generalize hW13 : w12.alloc (Obj.cells _ 44) = W13; have K13 : Hid (Kp w12 W13 Nul) := (by show Kp _ _ _; rw [← hW13]; exact (Kp.refl _ _).alloc _); have HB13 : Hid (Blk W13 w12.heap.size (H.cells sl') 44) := (by show Blk _ _ _ _; rw [← hW13]; exact Blk.new w12 _ _); have lC0 := (e5.out W13 ((KV10.out.trans K12.out).trans K13.out)).2.2.2.2.2.2; rw [hak] at lC0; have l14 := HC14.out W13 ((KV10.out.trans K12.out).trans K13.out); clear hW13)
                  | fail)
                all_goals first
                  | (exfalso; rename_i hu _; revert hu; unfold undef; simp; done)
                  | skip
                refine ⟨trivial, ?_⟩
                gi_wp2_with (first
                  | (refine storeIn_var rfl 3 (.tmp 14) (.tmp 140) rfl (w4.heap.size + 1) rfl (.int .i64 ((N : Int) + 1)) rfl rfl 3 (.int .i64 N) (HB14.out _ ((KV10.out.trans K12.out).trans K13.out)) (by kernel_rfl) ?_; intro Y hbY hkY)
                  | fail)
                have HKY : Kp V Y (fun i => (Z i ∨ i ∈ fp) ∨ W.heap.size ≤ i) := ((((KV10.out.trans K12.out).trans K13.out) : Kp V _ Nul).mono (fun _ _ q => q.elim)).trans (hkY.mono (fun i _ e => .inl (.inl ((HIV.out.z i).2 e))))
                have HEND := (HIV.out.nul ((KV10.out.trans K12.out).trans K13.out)).next HKk.out HNe.out hkY (by rw [HN.out]; exact hbY)
                first
                | exact ⟨rfl, HKY, Z, HEND, fun i hi => .inl hi⟩
                | exact ⟨HKY, Z, HEND, fun i hi => .inl hi⟩
              · rw [hak] at lC0 lD0
                gi_wp2_with fail
                refine ⟨trivial, ?_⟩
                gi_wp2_with (first
                  | (refine loadIn_row rfl 44 (.tmp 117) rfl (W.heap.size + 1) 6 rfl (a.t.hd.cells sl) _ (ct_row (HBC10.out _ (Kp.refl w10 Nul))) Tryz.underlying44 rfl infoNode ?_)
                  | fail)
                refine ⟨trivial, CallsIn.inRound _ ((callsIn_wide.2 (HFm.out _ (KV10.out.trans (Kp.refl w10 Nul)))).mono ?_)⟩
                rintro e w12 ⟨H, sl', er, rfl, hon, hk12, h2⟩
                have K12 : Hid (Kp w10 w12 Nul) := (Kp.refl w10 Nul).trans hk12
                have ONH : Hid (sl'.oneCell' = true) := hon
                have HH2 : Hid (a.k = 2 → er = 0 ∧ H = (alN (lnF true k p) a.t).hd ∧ NdIn w12 (fun _ => True) sl' (alN (lnF true k p) a.t)) := h2
                clear hon hk12 h2 l5 l10 l11 l12 lA0 lA1 lC0 lD0
                obtain ⟨rfl, rfl, hinH⟩ := HH2.out hak
                have HFS : Hid (∀ wq, Kp w12 wq Nul → Calls Tryz.prog 15 #[.agg ((alN (lnF true k p) a.t).hd.cells sl').toArray, .agg (D.t.hd.cells slD).toArray] wq fun e w' => e = .returned (.bool true) ∧ Kp wq w' Nul) := fun wq q => by
                  have h := tsame_at (alN (lnF true k p) a.t) D.t sl' slD (fun _ => True) (fun _ => True) wq (by rw [← HDt.out]; exact HGdD.out.ok) HGdD.out.ok (hinH.kp q (fun _ _ x => x)) ((HOwD.out.own.mono (fun i hi => (((K9.out.trans K10.out).trans K12.out).trans q).block i (node_lt (HOwD.out.own.node i hi)) (fun x => x))).isIn (fun _ _ => trivial))
                  rw [HDt.out, tsame_refl] at h
                  rw [HDt.out]
                  exact h.mono fun e w' h => ⟨h.1, Kp.of_gr h.2⟩
                clear hinH HH2
                obtain ⟨H, hH⟩ : ∃ H, (alN (lnF true k p) a.t).hd = H := ⟨_, rfl⟩
                rw [hH] at HFS ⊢
                clear hH
                gi_wp2_with (first
                  | (refine storeIn_new' rfl 44 (.tmp 20) (.tmp 123) rfl _ _ _ _ (by first | rfl | simp) rfl rfl rfl infoNode (Hd.one H ONH.out) ?_; generalize hW13 : w12.alloc (Obj.cells _ 44) = W13; have K13 : Hid (Kp w12 W13 Nul) := (by show Kp _ _ _; rw [← hW13]; exact (Kp.refl _ _).alloc _); have HB13 : Hid (Blk W13 w12.heap.size (H.cells sl') 44) := (by show Blk _ _ _ _; rw [← hW13]; exact Blk.new w12 _ _); have lC0 := (e5.out W13 ((KV10.out.trans K12.out).trans K13.out)).2.2.2.2.2.2; rw [hak] at lC0; have l14 := HC14.out W13 ((KV10.out.trans K12.out).trans K13.out); clear hW13)
                  | (refine loadIn_row rfl 44 (.tmp 20) rfl w12.heap.size 0 rfl (H.cells sl') _ (rangeAt_blk HB13.out) Tryz.underlying44 rfl infoNode ?_)
                  | (refine loadIn_row rfl 44 (.tmp 133) rfl w8.heap.size 6 rfl (D.t.hd.cells slD) _ (ct_row (HBD10.out _ (K12.out.trans K13.out))) Tryz.underlying44 rfl infoNode ?_)
                  | fail)
                refine ⟨trivial, CallsIn.inRound _ ((callsIn_wide.2 (HFS.out _ K13.out)).mono ?_)⟩
                rintro e w14 ⟨rfl, hk14⟩
                have K14 : Hid (Kp W13 w14 Nul) := hk14
                clear hk14 HFS l14 lC0
                have l14 := HC14.out w14 (((KV10.out.trans K12.out).trans K13.out).trans K14.out)
                gi_wp2_with (first
                  | (refine storeIn_var rfl 3 (.tmp 14) (.tmp 140) rfl (w4.heap.size + 1) rfl (.int .i64 ((N : Int) + 1)) rfl rfl 3 (.int .i64 N) (HB14.out _ (((KV10.out.trans K12.out).trans K13.out).trans K14.out)) (by kernel_rfl) ?_; intro Y hbY hkY)
                  | fail)
                have HKY : Kp V Y (fun i => (Z i ∨ i ∈ fp) ∨ W.heap.size ≤ i) := (((((KV10.out.trans K12.out).trans K13.out).trans K14.out) : Kp V _ Nul).mono (fun _ _ q => q.elim)).trans (hkY.mono (fun i _ e => .inl (.inl ((HIV.out.z i).2 e))))
                have HEND := (HIV.out.nul (((KV10.out.trans K12.out).trans K13.out).trans K14.out)).next HKk.out HNe.out hkY (by rw [HN.out]; exact hbY)
                first
                | exact ⟨rfl, HKY, Z, HEND, fun i hi => .inl hi⟩
                | exact ⟨HKY, Z, HEND, fun i hi => .inl hi⟩
            · clear hg
              have hMy : ((c, s), alC (lnF true k p) a) ∈ M := (HMem.out _).2 (brL_mem.2 ⟨_, HMm.out, _, hst, rfl⟩)
              have hvy : vC (c) (s) = true := HOkM.out.at' _ hMy
              have hne : lnF true k p ((c, s), (c, s)) ≠ none := by rw [hst]; exact fun q => by cases q
              have HNe : Hid (lnF true k p ((c, s), (c, s)) ≠ none) := hne
              have HVal : Hid (∀ w, Calls Tryz.prog 30 #[.agg #[.int .i64 (c), .int .i64 (s)]] w fun e w' => e = .returned (.bool true) ∧ Kp w w' Nul) := fun w => (pValid_at (c) (s) w).mono fun e w' ⟨h1, h2⟩ => ⟨by rw [h1, hvy], by rw [h2]; exact (Kp.refl _ _).alloc _⟩
              obtain ⟨D, hD⟩ : ∃ D, alC (lnF true k p) a = D := ⟨_, rfl⟩
              have hDk : D.k = a.k := by rw [← hD]; rfl
              have hDt : D.t = alN (lnF true k p) a.t := by rw [← hD]; rfl
              rw [hD] at hMy
              have HGdD : Hid (Gd D) := HOkM.out.gd _ hMy
              have HDS : Hid (a.k = 1 → csame a D = true) := fun q => by show csame a D = true; rw [← hD, alC_plain _ HGd.out.val (by omega)]; exact csame_refl a
              have HGet : Hid (∀ wq, Kp V wq Nul → Calls Tryz.prog 27 #[.pointer (some ⟨g2, 0, none⟩), .agg #[.int .i64 (c), .int .i64 (s)]] wq fun e w' => ∃ slD fpD, e = .returned (D.val slD) ∧ Own w' wq.heap.size slD D.t fpD ∧ Kp wq w' Nul) := fun wq q => get_in g2 M wq (GridIn.mono (HIV.out.gi.kp q) (fun _ _ => Nat.zero_le _)) HOkM.out (c) (s) (by rw [vC_iff] at hvy; unfold I64; omega) (by rw [vC_iff] at hvy; unfold I64; omega) D hMy
              have HDk : Hid (D.k = a.k) := hDk
              have HDt : Hid (D.t = alN (lnF true k p) a.t) := hDt
              clear hD hDk hDt hMy hvy hne hst
              have f5 := e5.out V (Kp.refl _ _)
              obtain ⟨l5, l10, l11, l12, lA0, lA1, lC0⟩ := f5
              gi_wp2_with fail
              refine ⟨trivial, CallsIn.inRound _ ((callsIn_wide.2 (HAt.out _ _ _)).mono ?_)⟩
              rintro e v1 ⟨rfl, hk1'⟩
              clear l5 l10 l11 l12 lA0 lA1 lC0
              have KV1 : Hid (Kp V v1 Nul) := hk1'
              clear hk1'
              have f5 := e5.out _ (KV1.out.alloc (.cells #[.int .i64 c, .int .i64 (c)] 32))
              obtain ⟨l5, l10, l11, l12, lA0, lA1, lC0⟩ := f5
              obtain ⟨X0, hX0⟩ : ∃ X0, v1.alloc (.cells #[.int .i64 c, .int .i64 (c)] 32) = X0 := ⟨_, rfl⟩
              have B0 : Blk X0 v1.heap.size [.int .i64 c, .int .i64 (c)] 32 := by rw [← hX0]; exact Blk.new v1 _ _
              have KX0 : Hid (Kp V X0 Nul) := by show Kp _ _ _; rw [← hX0]; exact KV1.out.alloc _
              have HX0 : Hid (v1.alloc (.cells #[.int .i64 c, .int .i64 (c)] 32) = X0) := hX0
              clear hX0
              gi_wp2_with fail
              rw [HX0.out]
              clear HX0 l5 l10 l11 l12 lA0 lA1 lC0
              refine ⟨trivial, CallsIn.inRound _ ((callsIn_wide.2 (HAt.out _ _ _)).mono ?_)⟩
              rintro e v2 ⟨rfl, hk2'⟩
              have B2 : Hid (Blk v2 v1.heap.size [.int .i64 c, .int .i64 (c)] 32) := B0.kp hk2' (fun x => x)
              have KV2 : Hid (Kp V v2 Nul) := KX0.out.trans hk2'
              clear B0 KX0 hk2'
              gi_wp2_with (first
                | (refine storeIn_part rfl 32 (.tmp 18) (.tmp 91) rfl v1.heap.size 0 [] [.int .i64 c, .int .i64 (c)] [] [.int .i64 (c), .int .i64 (s)] 32 B2.out rfl rfl rfl rfl infoAddr2 (by simp [Value.oneCell']) ?_; intro X hbX hkX; have KX : Hid (Kp V X Nul) := KV2.out.trans' hkX (fun i hi e => by have e' : i = v1.heap.size := e; have := KV1.out.size; omega); have HBY : Hid (∀ wq, Kp X wq Nul → wq.cell? ⟨v1.heap.size, 0, none⟩ = some (.int .i64 (c)) ∧ wq.cell? ⟨v1.heap.size, 1, none⟩ = some (.int .i64 (s))) := (fun wq q => ⟨(hbX.kp q (fun x => x)).cell rfl, (hbX.kp q (fun x => x)).cell rfl⟩); have l12 := (e5.out X KX.out).2.2.2.1; have y0 := (HBY.out X (Kp.refl _ _)).1; have y1 := (HBY.out X (Kp.refl _ _)).2; clear hbX hkX)
                | fail)
              clear l12 y0 y1
              refine ⟨trivial, CallsIn.inRound _ ((callsIn_wide.2 (HGet.out _ KX.out)).mono ?_)⟩
              rintro e w8 ⟨slD, fpD, rfl, hownD, hk8⟩
              have K8 : Hid (Kp X w8 Nul) := hk8
              have HOwD : Hid (Own w8 X.heap.size slD D.t fpD) := hownD
              have OND : Hid (slD.oneCell' = true) := hownD.own.one
              clear hk8 hownD HGet
              gi_wp2_with (first
                | (refine storeIn_new' rfl 55 (.tmp 19) (.tmp 94) rfl _ _ _ _ (by first | rfl | simp) rfl rfl rfl infoContent (D.one OND.out) ?_; generalize hW9 : w8.alloc (Obj.cells _ 55) = W9; have K9 : Hid (Kp w8 W9 Nul) := (by show Kp _ _ _; rw [← hW9]; exact (Kp.refl _ _).alloc _); have HB9 : Hid (Blk W9 w8.heap.size (D.cells slD) 55) := (by show Blk _ _ _ _; rw [← hW9]; exact Blk.new w8 _ _); have y0 := (HBY.out W9 (K8.out.trans K9.out)).1; have y1 := (HBY.out W9 (K8.out.trans K9.out)).2; clear hW9)
                | fail)
              clear y0 y1
              refine ⟨trivial, CallsIn.inRound _ ((callsIn_wide.2 (HVal.out _)).mono ?_)⟩
              rintro e w10 ⟨rfl, hk10⟩
              have K10 : Hid (Kp W9 w10 Nul) := hk10
              have KV10 : Hid (Kp V w10 Nul) := ((KX.out.trans K8.out).trans K9.out).trans hk10
              clear hk10 HVal HBY
              have f5 := e5.out w10 KV10.out
              obtain ⟨l5, l10, l11, l12, lA0, lA1, lC0⟩ := f5
              have lD0 : w10.cell? ⟨w8.heap.size, 0, none⟩ = some (.int .i64 a.k) := by rw [← HDk.out]; exact (HB9.out.kp K10.out (fun x => x)).cell rfl
              have HBC10 : Hid (∀ wq, Kp w10 wq Nul → Blk wq (W.heap.size + 1) (a.cells sl) 55) := fun wq q => HbC.out.kp (KV10.out.trans q) (fun x => x)
              have HBD10 : Hid (∀ wq, Kp w10 wq Nul → Blk wq w8.heap.size (D.cells slD) 55) := fun wq q => HB9.out.kp (K10.out.trans q) (fun x => x)
              clear hak
              have hlN : (brL (lnF true k p) (K.take j)).length ≤ 4096 := by
                have h1 := brL_le (lnF true k p) (K.take j)
                have h2 := HKl.out
                rw [List.length_take] at h1
                omega
              obtain ⟨N, hN⟩ : ∃ N, (brL (lnF true k p) (K.take j)).length = N := ⟨_, rfl⟩
              rw [hN] at hlN
              have HN : Hid ((brL (lnF true k p) (K.take j)).length = N) := hN
              have HB14 : Hid (∀ wq, Kp V wq Nul → Blk wq (w4.heap.size + 1) [.int .i64 N] 3) := fun wq q => by have h := HIV.out.c14.kp q (fun x => x); rw [hN] at h; exact h
              have HC14 : Hid (∀ wq, Kp V wq Nul → wq.cell? ⟨w4.heap.size + 1, 0, none⟩ = some (.int .i64 N)) := fun wq q => (HB14.out wq q).cell rfl
              clear hN
              have hN0 : (0 : Int) ≤ (N : Int) := by omega
              have hN1 : (N : Int) ≤ 4096 := by omega
              rcases gd_kind HGd.out with hak | hak
              · rw [hak] at lC0 lD0
                have HSm : Hid (∀ wq, Kp w10 wq Nul → Calls Tryz.prog 28 #[.agg (a.cells sl).toArray, .agg (D.cells slD).toArray] wq fun e w' => e = .returned (.bool true) ∧ Kp wq w' Nul) := fun wq q => by
                  have h := gSame_at a D sl slD (fun _ => True) (fun _ => True) wq HGd.out.x HGdD.out.x HGd.out.ok HGdD.out.ok ((HOwnV.out.mono (fun i hi => (KV10.out.trans q).block i (node_lt (HOwnV.out.node i hi)) (fun x => x))).isIn (fun _ _ => trivial)) ((HOwD.out.own.mono (fun i hi => ((K9.out.trans K10.out).trans q).block i (node_lt (HOwD.out.own.node i hi)) (fun x => x))).isIn (fun _ _ => trivial))
                  rw [HDS.out hak] at h
                  exact h
                gi_wp2_with (first
                  | (refine loadIn_content rfl (.tmp 16) rfl (W.heap.size + 1) rfl (a.cells sl).toArray (HBC10.out _ (Kp.refl _ _)) rfl ?_)
                  | (refine loadIn_content rfl (.tmp 19) rfl w8.heap.size rfl (D.cells slD).toArray (HBD10.out _ (Kp.refl _ _)) rfl ?_)
                  | fail)
                refine ⟨trivial, CallsIn.inRound _ ((callsIn_wide.2 (HSm.out _ (Kp.refl _ _))).mono ?_)⟩
                rintro e w11 ⟨rfl, hk11⟩
                have K11 : Hid (Kp w10 w11 Nul) := hk11
                clear hk11 HSm l5 l10 l11 l12 lA0 lA1 lC0 lD0
                have lD0 : True := trivial
                have f5 := e5.out w11 (KV10.out.trans K11.out)
                obtain ⟨l5, l10, l11, l12, lA0, lA1, lC0⟩ := f5
                rw [hak] at lC0
                gi_wp2_with (first
                  | (refine loadIn_row rfl 44 (.tmp 117) rfl (W.heap.size + 1) 6 rfl (a.t.hd.cells sl) _ (ct_row (HBC10.out _ K11.out)) Tryz.underlying44 rfl infoNode ?_)
                  | fail)
                refine ⟨trivial, CallsIn.inRound _ ((callsIn_wide.2 (HFm.out _ (KV10.out.trans K11.out))).mono ?_)⟩
                rintro e w12 ⟨H, sl', er, rfl, hon, hk12, h2⟩
                have K12 : Hid (Kp w10 w12 Nul) := K11.out.trans hk12
                have ONH : Hid (sl'.oneCell' = true) := hon
                have HH2 : Hid (a.k = 2 → er = 0 ∧ H = (alN (lnF true k p) a.t).hd ∧ NdIn w12 (fun _ => True) sl' (alN (lnF true k p) a.t)) := h2
                clear hon hk12 h2 l5 l10 l11 l12 lA0 lA1 lC0 lD0
                gi_wp2_with (first
                  | (refine storeIn_new' rfl 44 (.tmp 20) (.tmp 123) rfl _ _ _ _ (by first | rfl | simp) rfl rfl rfl infoNode (Hd.one H ONH.out) ?_; generalize hW13 : w12.alloc (Obj.cells _ 44) = W13; have K13 : Hid (Kp w12 W13 Nul) := (by show Kp _ _ _; rw [← hW13]; exact (Kp.refl _ _).alloc _); have HB13 : Hid (Blk W13 w12.heap.size (H.cells sl') 44) := (by show Blk _ _ _ _; rw [← hW13]; exact Blk.new w12 _ _); have lC0 := (e5.out W13 ((KV10.out.trans K12.out).trans K13.out)).2.2.2.2.2.2; rw [hak] at lC0; have l14 := HC14.out W13 ((KV10.out.trans K12.out).trans K13.out); clear hW13)
                  | fail)
                all_goals first
                  | (exfalso; rename_i hu _; revert hu; unfold undef; simp; done)
                  | skip
                refine ⟨trivial, ?_⟩
                gi_wp2_with (first
                  | (refine storeIn_var rfl 3 (.tmp 14) (.tmp 140) rfl (w4.heap.size + 1) rfl (.int .i64 ((N : Int) + 1)) rfl rfl 3 (.int .i64 N) (HB14.out _ ((KV10.out.trans K12.out).trans K13.out)) (by kernel_rfl) ?_; intro Y hbY hkY)
                  | fail)
                have HKY : Kp V Y (fun i => (Z i ∨ i ∈ fp) ∨ W.heap.size ≤ i) := ((((KV10.out.trans K12.out).trans K13.out) : Kp V _ Nul).mono (fun _ _ q => q.elim)).trans (hkY.mono (fun i _ e => .inl (.inl ((HIV.out.z i).2 e))))
                have HEND := (HIV.out.nul ((KV10.out.trans K12.out).trans K13.out)).next HKk.out HNe.out hkY (by rw [HN.out]; exact hbY)
                first
                | exact ⟨rfl, HKY, Z, HEND, fun i hi => .inl hi⟩
                | exact ⟨HKY, Z, HEND, fun i hi => .inl hi⟩
              · rw [hak] at lC0 lD0
                gi_wp2_with fail
                refine ⟨trivial, ?_⟩
                gi_wp2_with (first
                  | (refine loadIn_row rfl 44 (.tmp 117) rfl (W.heap.size + 1) 6 rfl (a.t.hd.cells sl) _ (ct_row (HBC10.out _ (Kp.refl w10 Nul))) Tryz.underlying44 rfl infoNode ?_)
                  | fail)
                refine ⟨trivial, CallsIn.inRound _ ((callsIn_wide.2 (HFm.out _ (KV10.out.trans (Kp.refl w10 Nul)))).mono ?_)⟩
                rintro e w12 ⟨H, sl', er, rfl, hon, hk12, h2⟩
                have K12 : Hid (Kp w10 w12 Nul) := (Kp.refl w10 Nul).trans hk12
                have ONH : Hid (sl'.oneCell' = true) := hon
                have HH2 : Hid (a.k = 2 → er = 0 ∧ H = (alN (lnF true k p) a.t).hd ∧ NdIn w12 (fun _ => True) sl' (alN (lnF true k p) a.t)) := h2
                clear hon hk12 h2 l5 l10 l11 l12 lA0 lA1 lC0 lD0
                obtain ⟨rfl, rfl, hinH⟩ := HH2.out hak
                have HFS : Hid (∀ wq, Kp w12 wq Nul → Calls Tryz.prog 15 #[.agg ((alN (lnF true k p) a.t).hd.cells sl').toArray, .agg (D.t.hd.cells slD).toArray] wq fun e w' => e = .returned (.bool true) ∧ Kp wq w' Nul) := fun wq q => by
                  have h := tsame_at (alN (lnF true k p) a.t) D.t sl' slD (fun _ => True) (fun _ => True) wq (by rw [← HDt.out]; exact HGdD.out.ok) HGdD.out.ok (hinH.kp q (fun _ _ x => x)) ((HOwD.out.own.mono (fun i hi => (((K9.out.trans K10.out).trans K12.out).trans q).block i (node_lt (HOwD.out.own.node i hi)) (fun x => x))).isIn (fun _ _ => trivial))
                  rw [HDt.out, tsame_refl] at h
                  rw [HDt.out]
                  exact h.mono fun e w' h => ⟨h.1, Kp.of_gr h.2⟩
                clear hinH HH2
                obtain ⟨H, hH⟩ : ∃ H, (alN (lnF true k p) a.t).hd = H := ⟨_, rfl⟩
                rw [hH] at HFS ⊢
                clear hH
                gi_wp2_with (first
                  | (refine storeIn_new' rfl 44 (.tmp 20) (.tmp 123) rfl _ _ _ _ (by first | rfl | simp) rfl rfl rfl infoNode (Hd.one H ONH.out) ?_; generalize hW13 : w12.alloc (Obj.cells _ 44) = W13; have K13 : Hid (Kp w12 W13 Nul) := (by show Kp _ _ _; rw [← hW13]; exact (Kp.refl _ _).alloc _); have HB13 : Hid (Blk W13 w12.heap.size (H.cells sl') 44) := (by show Blk _ _ _ _; rw [← hW13]; exact Blk.new w12 _ _); have lC0 := (e5.out W13 ((KV10.out.trans K12.out).trans K13.out)).2.2.2.2.2.2; rw [hak] at lC0; have l14 := HC14.out W13 ((KV10.out.trans K12.out).trans K13.out); clear hW13)
                  | (refine loadIn_row rfl 44 (.tmp 20) rfl w12.heap.size 0 rfl (H.cells sl') _ (rangeAt_blk HB13.out) Tryz.underlying44 rfl infoNode ?_)
                  | (refine loadIn_row rfl 44 (.tmp 133) rfl w8.heap.size 6 rfl (D.t.hd.cells slD) _ (ct_row (HBD10.out _ (K12.out.trans K13.out))) Tryz.underlying44 rfl infoNode ?_)
                  | fail)
                refine ⟨trivial, CallsIn.inRound _ ((callsIn_wide.2 (HFS.out _ K13.out)).mono ?_)⟩
                rintro e w14 ⟨rfl, hk14⟩
                have K14 : Hid (Kp W13 w14 Nul) := hk14
                clear hk14 HFS l14 lC0
                have l14 := HC14.out w14 (((KV10.out.trans K12.out).trans K13.out).trans K14.out)
                gi_wp2_with (first
                  | (refine storeIn_var rfl 3 (.tmp 14) (.tmp 140) rfl (w4.heap.size + 1) rfl (.int .i64 ((N : Int) + 1)) rfl rfl 3 (.int .i64 N) (HB14.out _ (((KV10.out.trans K12.out).trans K13.out).trans K14.out)) (by kernel_rfl) ?_; intro Y hbY hkY)
                  | fail)
                have HKY : Kp V Y (fun i => (Z i ∨ i ∈ fp) ∨ W.heap.size ≤ i) := (((((KV10.out.trans K12.out).trans K13.out).trans K14.out) : Kp V _ Nul).mono (fun _ _ q => q.elim)).trans (hkY.mono (fun i _ e => .inl (.inl ((HIV.out.z i).2 e))))
                have HEND := (HIV.out.nul (((KV10.out.trans K12.out).trans K13.out).trans K14.out)).next HKk.out HNe.out hkY (by rw [HN.out]; exact hbY)
                first
                | exact ⟨rfl, HKY, Z, HEND, fun i hi => .inl hi⟩
                | exact ⟨HKY, Z, HEND, fun i hi => .inl hi⟩
    case hdone =>
      subst hact
      intro D Z W hD hI hdef
      have HIe : Hid (MlI (lnF cols k p) cols k p w w6.heap.size ⟨w.heap.size, p8, w2'.heap.size, w2'.heap.size + 1, w4.heap.size, w4.heap.size + 1⟩ g2 K M K.length Z W) := hI
      have HDf : Hid (W.heap[D]? = some (.deferred (some []))) := hdef
      have HDD : Hid (D = w6.heap.size) := hD
      have HLe : Hid ((brL (lnF cols k p) (K.take K.length)).length = M.length) := by
        show _ = _
        rw [List.take_length]
        exact brL_len (lnF_inj cols k p) HOk.out.at' ((List.pairwise_map.1 (strict_nodup HKs.out)).imp (fun {x y} q e => q e)) HKm.out hI.gi.once' HMem.out
      clear hI hdef hD
      go_wp2_with fail
      have HP8n : Hid (p8 < w6.heap.size ∧ p8 ≠ w4.heap.size + 1 ∧ p8 ≠ w4.heap.size ∧ w.heap.size ≤ p8) := ⟨HIe.out.lt.2.1, HIe.out.ne.2.1, by show p8 ≠ _; have := HP8.out; have := (HB8c.out w1 (Kp.refl _ _)).lt; omega, by have := HP8.out; omega⟩
      have HN8 : Hid (Blk W p8 [.bool false] 4) := HIe.out.c8
      have HLn : Hid (∀ wq, Kp W wq Nul → Calls Tryz.prog 22 #[.pointer (some ⟨g2, 0, none⟩)] wq fun e w' => e = .returned (.int .i64 M.length) ∧ w' = wq) := fun wq k => len_at wq _ g2 M (HIe.out.gi.kp k)
      have HC12 : Hid (∀ wq, Kp W wq (fun i => i = p8) → wq.cell? ⟨w4.heap.size, 0, none⟩ = some (.pointer (some ⟨g2, 0, none⟩))) := fun wq k => (HIe.out.c12.kp k (fun e => HP8n.out.2.2.1 (Eq.symm e))).cell rfl
      have HC14 : Hid (∀ wq, Kp W wq (fun i => i = p8) → wq.cell? ⟨w4.heap.size + 1, 0, none⟩ = some (.int .i64 M.length)) := fun wq k => by
        have h := (HIe.out.c14.kp k (fun e => HP8n.out.2.1 (Eq.symm e))).cell (i := 0) rfl
        rw [HLe.out] at h
        exact h
      refine wp_region_noPanic ?_
      refine wp_region_hel (fun w' : World => Kp W w' (fun i => i = p8)) (by kernel_rfl) ((Kp.refl _ _).drew) (fun hHeld => ?_)
      refine wpH_takes (i := 0) (v := .pointer (some ⟨g2, 0, none⟩)) (some 141) rfl rfl (by kernel_rfl) (by kernel_rfl) (by kernel_rfl) (fun _ _ _ h => h) (Or.inl ⟨by rfl, ?_⟩) hHeld ?_
      · intro w' hSw; have s0 := HC12.out w' hSw; clear hSw; go_simp
      simp only [Act.put, List.setIfInBounds_toArray, List.set_cons_zero, List.set_cons_succ]
      refine wpH_takes (i := 2) (v := .int .i64 M.length) (some 143) rfl rfl (by kernel_rfl) (by kernel_rfl) (by kernel_rfl) (fun _ _ _ h => h) (Or.inl ⟨by rfl, ?_⟩) hHeld ?_
      · intro w' hSw; have s0 := HC14.out w' hSw; clear hSw; go_simp
      simp only [Act.put, List.setIfInBounds_toArray, List.set_cons_zero, List.set_cons_succ]
      refine wpH_step (i := 1) (by kernel_rfl) rfl rfl (fun K hK => ?_)
      go_simp
      refine (HLn.out _ ((Kp.refl W Nul).drew)).mono ?_
      rintro e wz ⟨rfl, hwz⟩
      subst hwz
      refine hK.out _ _ hHeld (fun hHeld => ?_)
      clear hK K
      (try simp only [Act.put, List.setIfInBounds_toArray, List.set_cons_zero, List.set_cons_succ])
      refine wpH_takes (i := 3) (v := .bool true) (some 144) rfl rfl (by kernel_rfl) (by kernel_rfl) (by kernel_rfl) (fun _ _ _ h => h) (Or.inl ⟨by rfl, ?_⟩) hHeld ?_
      · intro w' hSw; clear hSw; go_simp
      (try simp only [Act.put, List.setIfInBounds_toArray, List.set_cons_zero, List.set_cons_succ])
      refine wpH_step (i := 4) (by kernel_rfl) rfl rfl (fun K hK => ?_)
      refine wp_store_var 4 (.tmp 8) (.tmp 144) rfl p8 rfl (.bool true) rfl rfl 4 (.bool false) (HN8.out.drewN 1) (by kernel_rfl) ?_
      intro X hbX hkX
      have HBX : Hid (Blk X p8 [.bool true] 4) := hbX
      have HKX : Hid (Kp W X (fun i => i = p8)) := (Kp.refl W _).drew.trans hkX
      refine hK.out _ _ HKX.out (fun _ => ?_)
      clear hK K hbX hkX hHeld
      (try simp only [Act.put])
      refine wpAnyH_done (by kernel_rfl) ?_ _
      refine NoPanic.normal ?_
      go_wp2_with fail
      have hne : ¬ p8 = D := by have := HDD.out; have := HP8n.out.1; omega
      have hD2 : X.heap[D]? = some (.deferred (some [])) := (HKX.out.block D (Array.getElem?_eq_some_iff.1 HDf.out).1 (fun e => hne (Eq.symm e))).trans HDf.out
      refine ⟨by simp, .inl ⟨_, _, rfl, run_takeDeferred hD2, ?_⟩⟩
      have q1 : Blk (X.putObj D (.deferred none)) p8 [.bool true] 4 := HBX.out.kp putObj_self (fun e => hne e)
      refine ⟨_, results_bool rfl rfl q1, rfl, ?_⟩
      exact putObj_kp (HIe.out.kp.trans' HKX.out (fun i hi e => by have e' : i = p8 := e; have := HP8n.out.2.2.2; omega)) (by have := HDD.out; have := HIe.out.lt.2.2.2.2.2.2; omega)
end Go.Proofs.YtbkcebbddhaifaaGreatDoor
