/- MoveThere: the walk. By wip/gen_myn.py. -/
import Derived.Test.YtdaoingmiabbcaaGreatDoorVMxe
import Derived.Test.YtdaoingmiabbcaaGreatDoorVMyk
import Derived.Test.YtdaoingmiabbcaaGreatDoorVMyj
import Derived.Test.YtdaoingmiabbcaaGreatDoorVMye
import Derived.Test.YtdaoingmiabbcaaGreatDoorVMvn
import Derived.Deep.CutRange
namespace Go.Proofs.YtdaoingmiabbcaaGreatDoor
open Go.RowKit Go.Maps Go.Sort Go.Lib Go.Shelf
attribute [local go_sem] Oper.semAt_some

theorem br_of' {f : Fate} {L M : List Cc} {w w' : World} {g : Nat} (h : BrR f L w w' g M) : Br f L M := ⟨h.ok, h.gi.once', h.mem⟩
/-- The variables of the law, in their blocks. -/
structure MtS (w W : World) (p5 p6 p7 p8 p9 p10 p11 g ga : Nat) (a1 a2 a3 a4 u1 u2 dc dr b3 b4 : Int) (L M : List Cc) : Prop where
  c4 : Blk W (w.heap.size + 1) [.bool false] 4
  c5 : Blk W p5 [.pointer (some ⟨g, 0, none⟩)] 29
  c6 : Blk W p6 [.int .i64 a1, .int .i64 a2, .int .i64 a3, .int .i64 a4] 26
  c7 : Blk W p7 [.int .i64 u1, .int .i64 u2] 24
  c8 : Blk W p8 [.int .i64 dc] 3
  c9 : Blk W p9 [.int .i64 dr] 3
  c10 : Blk W p10 [.int .i64 u1, .int .i64 u2, .int .i64 b3, .int .i64 b4] 26
  c11 : Blk W p11 [.pointer (some ⟨ga, 0, none⟩)] 29
  gi : GI 0 W g L
  gm : GI 0 W ga M
  kp : Kp w W Nul
theorem MtS.nul {w W V : World} {p5 p6 p7 p8 p9 p10 p11 g ga : Nat} {a1 a2 a3 a4 u1 u2 dc dr b3 b4 : Int} {L M : List Cc} (h : MtS w W p5 p6 p7 p8 p9 p10 p11 g ga a1 a2 a3 a4 u1 u2 dc dr b3 b4 L M) (k : Kp W V Nul) : MtS w V p5 p6 p7 p8 p9 p10 p11 g ga a1 a2 a3 a4 u1 u2 dc dr b3 b4 L M :=
  ⟨h.c4.kp k (fun x => x), h.c5.kp k (fun x => x), h.c6.kp k (fun x => x), h.c7.kp k (fun x => x), h.c8.kp k (fun x => x), h.c9.kp k (fun x => x), h.c10.kp k (fun x => x), h.c11.kp k (fun x => x), h.gi.kp k, h.gm.kp k, h.kp.trans k⟩
theorem storeIn_blk {F : Fence} {n : Nat} {ops : Array Oper} {rest : List Oper} {o : Oper} {a : Act} {w : World} {Q : Exit → Act → World → Prop} (hgd : Region.wanted o (yielded ops a.tmps) = true) (ty : TypeId) (x y : Operand) (ho : o.op = .store ty x y)
    (b : Nat) (old cs : List Value) (t : TypeId) (hb : Blk w b old t) (hml : old.length = cs.length) (hx : a.eval x = .pointer (some ⟨b, 0, none⟩)) (hy : a.eval y = .agg cs.toArray)
    (hi : (Tryz.prog.info? ty).map (·.size) = some cs.length) (h1 : cs.toArray.all (·.oneCell') = true)
    (h : ∀ W, Blk W b cs t → Kp w W (fun i => i = b) → wpListIn F n Tryz.prog ops Q rest (a.put o.dst undef) W) : wpListIn F n Tryz.prog ops Q (o :: rest) a w := by
  have hb' : w.heap[b]? = some (.cells old.toArray t (0, 0)) := hb
  have hs := run_storeVar_mid (P := Tryz.prog) w b 0 ty cs.toArray (there_of_block hb' _ _ (by simp; omega)) (by rw [hi]; simp) h1
  refine wpInS hgd (by simp [Oper.about, ho]) (fun c hc' => by rw [ho] at hc'; cases hc') (w' := w.setCells b 0 cs.toArray.toList) ?_ (h _ ?_ (setCells_kp (fun i => i = b) rfl _ _ _))
  · unfold execOp
    simp only [ho, hx, hy, Instr.storeAt, Instr.sureAddr, Sem.run_bind, Sem.run_pure, Result.andThen_ok, hs]
  · exact heap_setCells_whole hb' (by simpa using hml)
theorem blk_ne {w : World} {a b : Nat} {p : Value} {q : Bool} (h1 : Blk w a [p] 29) (h2 : Blk w b [.bool q] 4) : ¬ a = b := fun e => by
  subst e
  have h := h1.symm.trans h2
  simp at h
theorem dif_wrap {a b : Int} (h1 : 1 ≤ a) (h2 : a ≤ 7) (h3 : 1 ≤ b) (h4 : b ≤ 8) : wrap64 (a - b) = a - b := by unfold wrap64; omega
theorem nil_ptr'' (g : Nat) (w : World) : (binOp .eql 29 (.pointer (some ⟨g, 0, none⟩)) (.pointer none)).run Tryz.prog w = .ok (.bool false) w := by
  simp [go_sem]
theorem ne_ptr'' (g : Nat) (w : World) : (binOp .neq 29 (.pointer (some ⟨g, 0, none⟩)) (.pointer none)).run Tryz.prog w = .ok (.bool true) w := by
  simp [go_sem]
set_option maxRecDepth 40000 in
set_option maxHeartbeats 80000000 in
theorem there22 (vl : Value) (xl : List (Cc × Value)) (x0 x1 x2 f1 f2 g1 g2 t1 t2 : Int) (w : World) (hl : PutsIn w vl xl) (h1 : I64 f1) (h2 : I64 f2) (h3 : I64 g1) (h4 : I64 g2) (h5 : I64 t1) (h6 : I64 t2) (hv : VS w) :
    Calls Tryz.prog 4 #[vl, .agg #[.int .i64 x0, .int .i64 x1, .int .i64 x2, .int .i64 f1, .int .i64 f2, .int .i64 g1, .int .i64 g2, .int .i64 t1, .int .i64 t2]] w fun e w' => e = .returned (.bool true) ∧ Kp w w' Nul := by
  have HMade : Hid (∀ wq, Kp w wq Nul → Calls Tryz.prog 6 #[vl] wq fun e w' => ∃ g L, e = .returned (.pointer (some ⟨g, 0, none⟩)) ∧ GI wq.heap.size w' g L ∧ Ok17 L ∧ Kp wq w' Nul) := fun wq k => made22 vl xl wq (hl.kp k) (hv.kp k)
  have HKn : Hid (∀ wq, Kp w wq Nul → Calls Tryz.prog 7 #[] wq fun e w' => e = .returned (.bool true) ∧ Kp wq w' Nul) := fun wq k => known22 wq (hv.kp k)
  have HSm : Hid (∀ wq, Calls Tryz.prog 8 #[.agg #[.int .i64 x0, .int .i64 x1, .int .i64 x2, .int .i64 f1, .int .i64 f2, .int .i64 g1, .int .i64 g2, .int .i64 t1, .int .i64 t2]] wq fun e w' => ∃ (A : Ar4) (t : Int × Int), e = .returned (.tuple #[.agg #[.int .i64 A.1.1, .int .i64 A.1.2, .int .i64 A.2.1, .int .i64 A.2.2], .agg #[.int .i64 t.1, .int .i64 t.2]]) ∧ Ar4.ok A = true ∧ (A.2.1 ≤ 8 ∧ A.2.2 ≤ 8 ∧ A.2.1 ≤ A.1.1 + 2 ∧ A.2.2 ≤ A.1.2 + 2) ∧ (1 ≤ t.1 ∧ t.1 ≤ 7 ∧ 1 ≤ t.2 ∧ t.2 ≤ 7) ∧ Kp wq w' Nul) := fun wq => small22 x0 x1 x2 f1 f2 g1 g2 t1 t2 wq h1 h2 h3 h4 h5 h6
  have HSh : Hid (∀ c s x y wq, I64 (c + x) → I64 (s + y) → Calls Tryz.prog 9 #[.agg #[.int .i64 c, .int .i64 s], .int .i64 x, .int .i64 y] wq fun e w' => e = .returned (.agg #[.int .i64 (c + x), .int .i64 (s + y)]) ∧ Kp wq w' Nul) := fun c s x y wq q1 q2 => shifted22 c s x y wq q1 q2
  have HMv : Hid (∀ g L (A : Ar4) (t : Int × Int) wq, GI 0 wq g L → Ok17 L → Kp w wq Nul → Calls Tryz.prog 21 #[.pointer (some ⟨g, 0, none⟩), .agg #[.int .i64 A.1.1, .int .i64 A.1.2, .int .i64 A.2.1, .int .i64 A.2.2], .agg #[.int .i64 t.1, .int .i64 t.2]] wq fun e w' => ∃ v u, e = .returned (.tuple #[v, u]) ∧ MvR A t L wq w' (.tuple #[v, u])) := fun g L A t wq q1 q2 q3 => move_at g L A t wq q1 q2 (hv.kp q3)
  have HAt : Hid (∀ x y w, Calls Tryz.prog 12 #[.int .i64 x, .int .i64 y] w fun e w' => e = .returned (.agg #[.int .i64 x, .int .i64 y]) ∧ Kp w w' Nul) := at22
  have HCl : Hid (∀ wq, Calls Tryz.prog 11 #[.agg #[.int .i64 1, .int .i64 1, .int .i64 12, .int .i64 12]] wq fun e w' => ∃ p, e = .returned (.func (.func 59) #[] #[.pointer (some ⟨p, 0, none⟩)]) ∧ Blk w' p [.int .i64 1, .int .i64 1, .int .i64 12, .int .i64 12] 26 ∧ Kp wq w' Nul) := fun wq => cellsL 1 1 12 12 wq
  obtain ⟨W0, hW0⟩ : ∃ W0, (w.alloc (.cells #[.int .i64 x0, .int .i64 x1, .int .i64 x2, .int .i64 f1, .int .i64 f2, .int .i64 g1, .int .i64 g2, .int .i64 t1, .int .i64 t2] 28)).alloc (.cells #[.bool false] 4) = W0 := ⟨_, rfl⟩
  have HW0 : Hid ((w.alloc (.cells #[.int .i64 x0, .int .i64 x1, .int .i64 x2, .int .i64 f1, .int .i64 f2, .int .i64 g1, .int .i64 g2, .int .i64 t1, .int .i64 t2] 28)).alloc (.cells #[.bool false] 4) = W0) := hW0
  have k0 : Kp w W0 Nul := by rw [← hW0]; exact ((Kp.refl w Nul).alloc _).alloc _
  have HB0 : Hid (∀ wq, Kp W0 wq Nul → Blk wq w.heap.size [.int .i64 x0, .int .i64 x1, .int .i64 x2, .int .i64 f1, .int .i64 f2, .int .i64 g1, .int .i64 g2, .int .i64 t1, .int .i64 t2] 28) := fun wq k => by
    have : Blk W0 w.heap.size [.int .i64 x0, .int .i64 x1, .int .i64 x2, .int .i64 f1, .int .i64 f2, .int .i64 g1, .int .i64 g2, .int .i64 t1, .int .i64 t2] 28 := by rw [← hW0]; exact (Blk.new w [.int .i64 x0, .int .i64 x1, .int .i64 x2, .int .i64 f1, .int .i64 f2, .int .i64 g1, .int .i64 g2, .int .i64 t1, .int .i64 t2] _).alloc _
    exact this.kp k (fun x => x)
  have HB1 : Hid (∀ wq, Kp W0 wq Nul → Blk wq (w.heap.size + 1) [.bool false] 4) := fun wq k => by
    have : Blk W0 (w.heap.size + 1) [.bool false] 4 := by rw [← hW0]; exact blk2
    exact this.kp k (fun x => x)
  have HK0 : Hid (Kp w W0 Nul) := k0
  clear hl h1 h2 h3 h4 h5 h6 hv hW0 k0
  refine (callsIn_wide (n := 12)).1 ?_
  refine callsIn_of_wp_marks Tryz.func4 rfl trivial ?_ rfl
  simp only [Tryz.ntmps4, List.size_toArray, List.length_cons, List.length_nil, Nat.reduceAdd, Nat.reduceSub, Array.replicate_succ, Array.replicate_zero, List.push_toArray, List.append_toArray, List.nil_append, List.cons_append]
  refine wpIn_wide.2 ?_
  go_wp2_with (first | (rw [HW0.out]) | fail)
  refine (HMade.out W0 HK0.out).mono ?_
  rintro e w1 ⟨g, L, rfl, hg1, hL, hk1⟩
  have HOn : Hid (L.Pairwise (fun x y => x.1 ≠ y.1)) := hg1.once
  have HOk : Hid (Ok17 L) := hL
  obtain ⟨V1, hV1⟩ : ∃ V1, w1.alloc (.cells #[.pointer (some ⟨g, 0, none⟩)] 29) = V1 := ⟨_, rfl⟩
  have HV1 : Hid (w1.alloc (.cells #[.pointer (some ⟨g, 0, none⟩)] 29) = V1) := hV1
  have kv1 : Kp w1 V1 Nul := by rw [← hV1]; exact (Kp.refl _ _).alloc _
  have HG : Hid (∀ wq, Kp V1 wq Nul → GI 0 wq g L) := fun wq k => (GridIn.mono hg1 (fun _ _ => Nat.zero_le _)).kp (kv1.trans k)
  have HB5 : Hid (∀ wq, Kp V1 wq Nul → Blk wq w1.heap.size [.pointer (some ⟨g, 0, none⟩)] 29) := fun wq k => by
    have : Blk V1 w1.heap.size [.pointer (some ⟨g, 0, none⟩)] 29 := by rw [← hV1]; exact Blk.new w1 _ _
    exact this.kp k (fun x => x)
  have K1 : Hid (Kp W0 V1 Nul) := hk1.trans kv1
  clear hg1 hL hk1 kv1 hV1 HMade HW0
  have hnp := nil_ptr'' g
  have l5 := (HB5.out V1 (Kp.refl _ _)).cell (i := 0) rfl
  go_wp2_with (first | (rw [HV1.out]) | fail)
  refine (HKn.out V1 (HK0.out.trans K1.out)).mono ?_
  rintro e w2 ⟨rfl, hk2⟩
  have K2 : Hid (Kp V1 w2 Nul) := hk2
  clear hk2 l5 HV1
  have HX := HB0.out w2 (K1.out.trans K2.out)
  have m0 := HX.cell (i := 0) rfl
  have m1 := HX.cell (i := 1) rfl
  have m2 := HX.cell (i := 2) rfl
  have m3 := HX.cell (i := 3) rfl
  have m4 := HX.cell (i := 4) rfl
  have m5 := HX.cell (i := 5) rfl
  have m6 := HX.cell (i := 6) rfl
  have m7 := HX.cell (i := 7) rfl
  have m8 := HX.cell (i := 8) rfl
  go_wp2_with fail
  clear m0 m1 m2 m3 m4 m5 m6 m7 m8 HX
  refine (HSm.out w2).mono ?_
  rintro e w3 ⟨⟨⟨a1, a2⟩, ⟨a3, a4⟩⟩, ⟨u1, u2⟩, rfl, hAok, hAb, htb, hk3⟩
  have hAo := (ar_ok _).1 hAok
  simp only at hAb htb hAo
  have HF : Hid ((1 ≤ a1 ∧ a1 ≤ a3 ∧ 1 ≤ a2 ∧ a2 ≤ a4) ∧ (a3 ≤ 8 ∧ a4 ≤ 8 ∧ a3 ≤ a1 + 2 ∧ a4 ≤ a2 + 2) ∧ (1 ≤ u1 ∧ u1 ≤ 7 ∧ 1 ≤ u2 ∧ u2 ≤ 7)) := ⟨by omega, hAb, htb⟩
  have HAok : Hid (Ar4.ok ((a1, a2), (a3, a4)) = true) := hAok
  obtain ⟨dc, hdc⟩ : ∃ dc : Int, u1 - a1 = dc := ⟨_, rfl⟩
  obtain ⟨dr, hdr⟩ : ∃ dr : Int, u2 - a2 = dr := ⟨_, rfl⟩
  have hwc : wrap64 (u1 - a1) = dc := by rw [dif_wrap (by omega) (by omega) (by omega) (by omega)]; exact hdc
  have hwr : wrap64 (u2 - a2) = dr := by rw [dif_wrap (by omega) (by omega) (by omega) (by omega)]; exact hdr
  have HD : Hid (dc = u1 - a1 ∧ dr = u2 - a2) := ⟨hdc.symm, hdr.symm⟩
  have K3 : Hid (Kp V1 w3 Nul) := K2.out.trans hk3
  clear hk3 hAok hAb htb hAo hdc hdr K2 HKn HSm
  simp only
  go_upto_region 7 with fail
  obtain ⟨W4, hW4⟩ : ∃ W4, (((w3.alloc (.cells #[.int .i64 a1, .int .i64 a2, .int .i64 a3, .int .i64 a4] 26)).alloc (.cells #[.int .i64 u1, .int .i64 u2] 24)).alloc (.cells #[.int .i64 dc] 3)).alloc (.cells #[.int .i64 dr] 3) = W4 := ⟨_, rfl⟩
  rw [hW4]
  have k34 : Kp w3 W4 Nul := by rw [← hW4]; exact ((((Kp.refl w3 Nul).alloc _).alloc _).alloc _).alloc _
  have HC6 : Hid (∀ wq, Kp W4 wq Nul → Blk wq w3.heap.size [.int .i64 a1, .int .i64 a2, .int .i64 a3, .int .i64 a4] 26) := fun wq k => by
    have : Blk W4 w3.heap.size [.int .i64 a1, .int .i64 a2, .int .i64 a3, .int .i64 a4] 26 := by rw [← hW4]; exact (((Blk.new w3 [.int .i64 a1, .int .i64 a2, .int .i64 a3, .int .i64 a4] _).alloc _).alloc _).alloc _
    exact this.kp k (fun x => x)
  have HC7 : Hid (∀ wq, Kp W4 wq Nul → Blk wq (w3.heap.size + 1) [.int .i64 u1, .int .i64 u2] 24) := fun wq k => by
    have : Blk W4 (w3.heap.size + 1) [.int .i64 u1, .int .i64 u2] 24 := by rw [← hW4]; exact ((blk2 (cs := [.int .i64 u1, .int .i64 u2])).alloc _).alloc _
    exact this.kp k (fun x => x)
  have HC8 : Hid (∀ wq, Kp W4 wq Nul → Blk wq (w3.heap.size + 1 + 1) [.int .i64 dc] 3) := fun wq k => by
    have : Blk W4 (w3.heap.size + 1 + 1) [.int .i64 dc] 3 := by rw [← hW4]; exact (blk3 (cs := [.int .i64 dc])).alloc _
    exact this.kp k (fun x => x)
  have HC9 : Hid (∀ wq, Kp W4 wq Nul → Blk wq (w3.heap.size + 1 + 1 + 1) [.int .i64 dr] 3) := fun wq k => by
    have : Blk W4 (w3.heap.size + 1 + 1 + 1) [.int .i64 dr] 3 := by
      have h := Blk.new (((w3.alloc (.cells #[.int .i64 a1, .int .i64 a2, .int .i64 a3, .int .i64 a4] 26)).alloc (.cells #[.int .i64 u1, .int .i64 u2] 24)).alloc (.cells #[.int .i64 dc] 3)) [.int .i64 dr] 3
      rw [World.size_alloc, World.size_alloc, World.size_alloc] at h
      rw [← hW4]; exact h
    exact this.kp k (fun x => x)
  have K4 : Hid (Kp V1 W4 Nul) := K3.out.trans k34
  obtain ⟨b3, hb3⟩ : ∃ b3 : Int, a3 + dc = b3 := ⟨_, rfl⟩
  obtain ⟨b4, hb4⟩ : ∃ b4 : Int, a4 + dr = b4 := ⟨_, rfl⟩
  have HSh1 : Hid (∀ wq, Calls Tryz.prog 9 #[.agg #[.int .i64 a3, .int .i64 a4], .int .i64 dc, .int .i64 dr] wq fun e w' => e = .returned (.agg #[.int .i64 b3, .int .i64 b4]) ∧ Kp wq w' Nul) := fun wq => by
    have hF := HF.out
    have hD := HD.out
    have h := HSh.out a3 a4 dc dr wq (by unfold I64; omega) (by unfold I64; omega)
    rw [hb3, hb4] at h
    exact h
  have HBB : Hid (b3 = a3 + u1 - a1 ∧ b4 = a4 + u2 - a2) := ⟨by have := HD.out; omega, by have := HD.out; omega⟩
  clear hW4 k34 K3 hb3 hb4 hwc hwr
  go_cut [10] from 43 to 49 (fun s wz => ∃ b, s = .pointer (some ⟨b, 0, none⟩) ∧ Blk wz b [.int .i64 u1, .int .i64 u2, .int .i64 b3, .int .i64 b4] 26 ∧ Kp W4 wz Nul)
  case first =>
    refine wp_region_noPanic ?_
    refine wp_region_hel (fun w' : World => Kp W4 w' Nul) (by kernel_rfl) ((Kp.refl _ _).drew) (fun hHeld => ?_)
    refine wpH_takes (i := 0) (v := .agg #[.int .i64 u1, .int .i64 u2]) (some 43) rfl rfl (by kernel_rfl) (by kernel_rfl) (by kernel_rfl) (fun _ _ _ h => h) (Or.inl ⟨by rfl, fun w' hSw => exec_load_row 24 (.tmp 7) rfl (w3.heap.size + 1) 0 rfl [.int .i64 u1, .int .i64 u2] _ (blk_range (HC7.out w' hSw)) Tryz.underlying24 rfl infoAddr2'⟩) hHeld ?_
    simp only [Act.put, List.setIfInBounds_toArray, List.set_cons_zero, List.set_cons_succ]
    refine wpH_takes (i := 1) (v := .pointer (some ⟨w3.heap.size, 2, none⟩)) (some 44) rfl rfl (by kernel_rfl) (by kernel_rfl) (by kernel_rfl) (fun _ _ _ h => h) (Or.inl ⟨by rfl, ?_⟩) hHeld ?_
    · intro w' hSw; clear hSw; go_simp
    simp only [Act.put, List.setIfInBounds_toArray, List.set_cons_zero, List.set_cons_succ]
    refine wpH_takes (i := 2) (v := .agg #[.int .i64 a3, .int .i64 a4]) (some 45) rfl rfl (by kernel_rfl) (by kernel_rfl) (by kernel_rfl) (fun _ _ _ h => h) (Or.inl ⟨by rfl, fun w' hSw => exec_load_row 24 (.tmp 44) rfl w3.heap.size 2 rfl [.int .i64 a3, .int .i64 a4] _ (Blk.range (pre := [.int .i64 a1, .int .i64 a2]) (l := [.int .i64 a3, .int .i64 a4]) (post := []) (HC6.out w' hSw)) Tryz.underlying24 rfl infoAddr2'⟩) hHeld ?_
    simp only [Act.put, List.setIfInBounds_toArray, List.set_cons_zero, List.set_cons_succ]
    refine wpH_takes (i := 3) (v := .int .i64 dc) (some 46) rfl rfl (by kernel_rfl) (by kernel_rfl) (by kernel_rfl) (fun _ _ _ h => h) (Or.inl ⟨by rfl, ?_⟩) hHeld ?_
    · intro w' hSw; have s0 := (HC8.out w' hSw).cell (i := 0) rfl; clear hSw; go_simp
    simp only [Act.put, List.setIfInBounds_toArray, List.set_cons_zero, List.set_cons_succ]
    refine wpH_takes (i := 4) (v := .int .i64 dr) (some 47) rfl rfl (by kernel_rfl) (by kernel_rfl) (by kernel_rfl) (fun _ _ _ h => h) (Or.inl ⟨by rfl, ?_⟩) hHeld ?_
    · intro w' hSw; have s0 := (HC9.out w' hSw).cell (i := 0) rfl; clear hSw; go_simp
    simp only [Act.put, List.setIfInBounds_toArray, List.set_cons_zero, List.set_cons_succ]
    refine wpH_fork (i := 5) (j := 7) (by kernel_rfl) rfl rfl rfl rfl (fun K hK => ?_) (fun K hK => ?_)
    · go_simp
      refine (HSh1.out _).mono ?_
      rintro e v1 ⟨rfl, hk2⟩
      have L1 : Hid (Kp W4 v1 Nul) := ((Kp.refl W4 Nul).drew).trans hk2
      refine hK.out _ _ L1.out (fun hHeld => ?_)
      clear hK K hk2
      (try simp only [Act.put, List.setIfInBounds_toArray, List.set_cons_zero, List.set_cons_succ])
      refine wpH_takes (i := 6) (v := .agg #[.int .i64 u1, .int .i64 u2, .int .i64 b3, .int .i64 b4]) (some 49) rfl rfl (by kernel_rfl) (by kernel_rfl) (by kernel_rfl) (fun _ _ _ h => h) (Or.inl ⟨by rfl, ?_⟩) hHeld ?_
      · intro w' hSw; clear hSw; go_simp
      simp only [Act.put, List.setIfInBounds_toArray, List.set_cons_zero, List.set_cons_succ]
      refine wpH_step (i := 7) (by kernel_rfl) rfl rfl (fun K hK => ?_)
      go_simp
      have BSZ : Hid (W4.heap.size ≤ v1.heap.size) := L1.out.size
      have N1 : Hid (Blk (v1.alloc (.cells #[.int .i64 0, .int .i64 0, .int .i64 0, .int .i64 0] 26)) v1.heap.size [.int .i64 0, .int .i64 0, .int .i64 0, .int .i64 0] 26) := Blk.new v1 [.int .i64 0, .int .i64 0, .int .i64 0, .int .i64 0] 26
      have L2 : Hid (Kp W4 (v1.alloc (.cells #[.int .i64 0, .int .i64 0, .int .i64 0, .int .i64 0] 26)) Nul) := L1.out.alloc _
      refine hK.out _ _ L2.out (fun hHeld => ?_)
      clear hK K
      (try simp only [Act.put, List.setIfInBounds_toArray, List.set_cons_zero, List.set_cons_succ])
      refine wpH_step (i := 8) (by kernel_rfl) rfl rfl (fun K hK => ?_)
      refine wp_store_blk 26 (.tmp 10) (.tmp 49) rfl _ _ [.int .i64 u1, .int .i64 u2, .int .i64 b3, .int .i64 b4] _ N1.out rfl rfl rfl infoArea (ints4 _ _ _ _) ?_
      intro Y hbY hkY
      have LY : Hid (Kp W4 Y Nul) := L2.out.trans' hkY (fun i hi e => Nat.lt_irrefl _ (Nat.lt_of_lt_of_le (show i < _ from hi) (Nat.le_trans BSZ.out (Nat.le_of_eq (Eq.symm e)))))
      refine hK.out _ _ LY.out (fun hHeld => ?_)
      clear hK K
      (try simp only [Act.put])
      refine wpAnyH_done (by kernel_rfl) ?_ _
      refine NoPanic.normal ?_
      go_wp2_with fail
      go_meet
      case rel => exact ⟨_, rfl, hbY, LY.out⟩
    · go_simp
      have BSZ : Hid (W4.heap.size ≤ W4.drew.heap.size) := Nat.le_refl _
      have N1 : Hid (∀ wq, Kp (W4.drew.alloc (.cells #[.int .i64 0, .int .i64 0, .int .i64 0, .int .i64 0] 26)) wq Nul → Blk wq W4.drew.heap.size [.int .i64 0, .int .i64 0, .int .i64 0, .int .i64 0] 26) := fun wq k => (Blk.new W4.drew [.int .i64 0, .int .i64 0, .int .i64 0, .int .i64 0] 26).kp k (fun x => x)
      have J1 : Hid (Kp W4 (W4.drew.alloc (.cells #[.int .i64 0, .int .i64 0, .int .i64 0, .int .i64 0] 26)) Nul) := ((Kp.refl W4 Nul).drew).alloc _
      refine hK.out _ _ J1.out (fun hHeld => ?_)
      clear hK K
      (try simp only [Act.put, List.setIfInBounds_toArray, List.set_cons_zero, List.set_cons_succ])
      refine wpH_step (i := 5) (by kernel_rfl) rfl rfl (fun K hK => ?_)
      go_simp
      refine (HSh1.out _).mono ?_
      rintro e v2 ⟨rfl, hk2⟩
      have L1 : Hid (Kp W4 v2 Nul) := J1.out.trans hk2
      have I1 : Hid (Kp (W4.drew.alloc (.cells #[.int .i64 0, .int .i64 0, .int .i64 0, .int .i64 0] 26)) v2 Nul) := hk2
      refine hK.out _ _ L1.out (fun hHeld => ?_)
      clear hK K hk2
      (try simp only [Act.put, List.setIfInBounds_toArray, List.set_cons_zero, List.set_cons_succ])
      refine wpH_takes (i := 6) (v := .agg #[.int .i64 u1, .int .i64 u2, .int .i64 b3, .int .i64 b4]) (some 49) rfl rfl (by kernel_rfl) (by kernel_rfl) (by kernel_rfl) (fun _ _ _ h => h) (Or.inl ⟨by rfl, ?_⟩) hHeld ?_
      · intro w' hSw; clear hSw; go_simp
      simp only [Act.put, List.setIfInBounds_toArray, List.set_cons_zero, List.set_cons_succ]
      refine wpH_step (i := 8) (by kernel_rfl) rfl rfl (fun K hK => ?_)
      refine wp_store_blk 26 (.tmp 10) (.tmp 49) rfl _ _ [.int .i64 u1, .int .i64 u2, .int .i64 b3, .int .i64 b4] _ (N1.out _ I1.out) rfl rfl rfl infoArea (ints4 _ _ _ _) ?_
      intro Y hbY hkY
      have LY : Hid (Kp W4 Y Nul) := L1.out.trans' hkY (fun i hi e => Nat.lt_irrefl _ (Nat.lt_of_lt_of_le (show i < _ from hi) (Nat.le_trans BSZ.out (Nat.le_of_eq (Eq.symm e)))))
      refine hK.out _ _ LY.out (fun hHeld => ?_)
      clear hK K
      (try simp only [Act.put])
      refine wpAnyH_done (by kernel_rfl) ?_ _
      refine NoPanic.normal ?_
      go_wp2_with fail
      go_meet
      case rel => exact ⟨_, rfl, hbY, LY.out⟩
  case rest =>
    obtain ⟨p10, rfl, hb10, hk10⟩ := hcut
    rename World => w5
    have K5 : Hid (Kp V1 w5 Nul) := K4.out.trans hk10
    have HC10 : Hid (∀ wq, Kp w5 wq Nul → Blk wq p10 [.int .i64 u1, .int .i64 u2, .int .i64 b3, .int .i64 b4] 26) := fun wq k => hb10.kp k (fun x => x)
    have HMv1 : Hid (Calls Tryz.prog 21 #[.pointer (some ⟨g, 0, none⟩), .agg #[.int .i64 a1, .int .i64 a2, .int .i64 a3, .int .i64 a4], .agg #[.int .i64 u1, .int .i64 u2]] w5 fun e w' => ∃ v u, e = .returned (.tuple #[v, u]) ∧ MvR ((a1, a2), (a3, a4)) (u1, u2) L w5 w' (.tuple #[v, u])) := HMv.out g L ((a1, a2), (a3, a4)) (u1, u2) w5 (HG.out w5 K5.out) HOk.out (HK0.out.trans (K1.out.trans K5.out))
    have HK45 : Hid (Kp W4 w5 Nul) := hk10
    have l5 := (HB5.out w5 K5.out).cell (i := 0) rfl
    have X6 := HC6.out w5 hk10
    have q0 := X6.cell (i := 0) rfl
    have q1 := X6.cell (i := 1) rfl
    have q2 := X6.cell (i := 2) rfl
    have q3 := X6.cell (i := 3) rfl
    have X7 := HC7.out w5 hk10
    have r0 := X7.cell (i := 0) rfl
    have r1 := X7.cell (i := 1) rfl
    clear hb10 hk10 X6 X7 HSh1
    go_wp2_with fail
    clear l5 q0 q1 q2 q3 r0 r1
    refine HMv1.out.mono ?_
    rintro e w6 ⟨v, u, rfl, hR⟩
    have hfit : fits ((a1, a2), (a3, a4)) (u1, u2) = true := by
      have hF := HF.out
      unfold fits
      rw [ar_ok]
      unfold mvTo
      simp only
      omega
    have hTo : mvTo ((a1, a2), (a3, a4)) (u1, u2) = ((u1, u2), (b3, b4)) := by
      have hB := HBB.out
      unfold mvTo
      simp only
      rw [hB.1, hB.2]
    cases hR with
    | bad h _ => exact absurd HAok.out h
    | off _ h _ => exact absurd hfit h
    | ok _ _ ga M hbr =>
    have HBr : Hid (Br (mvF ((a1, a2), (a3, a4)) ((u1, u2), (b3, b4))) L M) := by have h := br_of' hbr; rw [hTo] at h; exact h
    have HMO : Hid (mvOk ((a1, a2), (a3, a4)) ((u1, u2), (b3, b4))) := by have h := fits_ok HAok.out hfit; rw [hTo] at h; exact h
    obtain ⟨w7, hw7⟩ : ∃ w7, w6.alloc (.cells #[.pointer (some ⟨ga, 0, none⟩)] 29) = w7 := ⟨_, rfl⟩
    have HW7 : Hid (w6.alloc (.cells #[.pointer (some ⟨ga, 0, none⟩)] 29) = w7) := hw7
    have k67 : Kp w6 w7 Nul := by rw [← hw7]; exact (Kp.refl _ _).alloc _
    have k57 : Kp w5 w7 Nul := hbr.kp.trans k67
    have HST : Hid (MtS w w7 w1.heap.size w3.heap.size (w3.heap.size + 1) (w3.heap.size + 1 + 1) (w3.heap.size + 1 + 1 + 1) p10 w6.heap.size g ga a1 a2 a3 a4 u1 u2 dc dr b3 b4 L M) :=
      ⟨HB1.out w7 (K1.out.trans (K5.out.trans k57)), HB5.out w7 (K5.out.trans k57), HC6.out w7 (HK45.out.trans k57), HC7.out w7 (HK45.out.trans k57), HC8.out w7 (HK45.out.trans k57), HC9.out w7 (HK45.out.trans k57), HC10.out w7 k57, (by rw [← hw7]; exact Blk.new w6 _ _), HG.out w7 (K5.out.trans k57), (GridIn.mono hbr.gi (fun _ _ => Nat.zero_le _)).kp k67, HK0.out.trans (K1.out.trans (K5.out.trans k57))⟩
    have HOM : Hid (Ok17 M) := hbr.ok
    clear hbr hw7 k67 k57 HMv1 HC6 HC7 HC8 HC9 HC10 HG HB5 HB1 HB0 K1 K4 K5 HK45 HK0 hfit hTo
    have hnm := nil_ptr'' ga
    have l11 := HST.out.c11.cell (i := 0) rfl
    go_wp2_with (first | (rw [HW7.out]) | fail)
    clear l11
    refine (HAt.out _ _ _).mono ?_
    rintro e w8 ⟨rfl, k8⟩
    have K8 : Hid (Kp w7 w8 Nul) := k8
    clear k8 HW7
    go_wp2_with fail
    refine (HAt.out _ _ _).mono ?_
    rintro e w9 ⟨rfl, k9⟩
    have K9 : Hid (Kp w7 w9 Nul) := K8.out.trans k9
    clear k9 K8
    go_wp2_with fail
    refine (HCl.out _).mono ?_
    rintro e w10 ⟨pc, rfl, hbc, k10⟩
    have HS : Hid (MtS w w10 w1.heap.size w3.heap.size (w3.heap.size + 1) (w3.heap.size + 1 + 1) (w3.heap.size + 1 + 1 + 1) p10 w6.heap.size g ga a1 a2 a3 a4 u1 u2 dc dr b3 b4 L M) := HST.out.nul (K9.out.trans k10)
    have HBC : Hid (Blk w10 pc [.int .i64 1, .int .i64 1, .int .i64 12, .int .i64 12] 26) := hbc
    clear hbc k10 K9 HST HCl
    go_wp2_with fail
    generalize hact : Act.mk _ _ = a0
    refine wp_range_own (α := Int × Int) (N := 144) (gf := 59) (lb := #[.pointer (some ⟨pc, 0, none⟩)]) (by rw [← hact]; rfl) (enters_of Tryz.func59 (by kernel_rfl) rfl) (encs := encX) (fun _ => rfl) Tell12 (fun _ => False) ?hseq (fun _ Z W => (∀ i, ¬ Z i) ∧ Kp w10 W Nul) ?hZ ?hZl ?hI (fun _ => False) ?h0 ?hround ?hdone
    case hseq => exact cells12_own pc w10 HBC.out (fun _ => False) (fun h => h)
    case hZ => rintro k Z W ⟨h, _⟩; exact ⟨h _, h _⟩
    case hZl => rintro k Z W ⟨h, _⟩; exact ⟨fun i hi => absurd hi (h i), fun i _ hi => absurd hi (h i)⟩
    case hI => rintro k Z W W' ⟨h, q⟩ r; exact ⟨h, q.trans' r (fun i hi e => by rcases e with e | e <;> omega)⟩
    case h0 => exact ⟨fun _ h => h, Kp.refl _ _⟩
    case hround =>
      subst hact
      rintro k ⟨c, s⟩ Z W KK hkN hsW ⟨hZ, hKW⟩ hT hcont
      have hT' : (c, s) = c12 k := hT
      have HCS : Hid (1 ≤ c ∧ c ≤ 12 ∧ 1 ≤ s ∧ s ≤ 12) := by
        unfold c12 at hT'
        injection hT' with e1 e2
        show _ ∧ _
        omega
      have HZN : Hid (∀ i, ¬ Z i) := hZ
      have HWS : Hid (w10.heap.size + 2 ≤ W.heap.size) := hsW
      have HKW : Hid (Kp w10 W Nul) := hKW
      clear hT hT' hkN hsW hZ hKW HBC HAt HMv
      simp only [List.zip_toArray, List.zip_cons_cons, List.zip_nil_right, List.foldl_toArray', List.foldl_cons, List.foldl_nil]
      gi_wp2_with fail
      refine hcont _ _ ((Kp.refl W Nul).alloc _) (fun V hV => ?_)
      have hKV : Kp w10 V Nul := (HKW.out.alloc (.cells #[.int .i64 c, .int .i64 s] 24)).trans' hV (fun i hi e => by have e' : i = w10.heap.size + 1 := e; omega)
      have HSV : Hid (MtS w V w1.heap.size w3.heap.size (w3.heap.size + 1) (w3.heap.size + 1 + 1) (w3.heap.size + 1 + 1 + 1) p10 w6.heap.size g ga a1 a2 a3 a4 u1 u2 dc dr b3 b4 L M) := HS.out.nul hKV
      have HKV : Hid (Kp w10 V Nul) := hKV
      have HBV : Hid (∀ wq, Kp V wq Nul → Blk wq W.heap.size [.int .i64 c, .int .i64 s] 24) := fun wq k => by
        have h := (Blk.new W [.int .i64 c, .int .i64 s] 24).kp hV (fun e => by have e' : W.heap.size = w10.heap.size + 1 := e; have := HWS.out; omega)
        exact h.kp k (fun x => x)
      obtain ⟨ua, hua, hax, hao, hGa⟩ := get_any g L V HSV.out.gi HOk.out c s (by have := HCS.out; unfold I64; omega) (by have := HCS.out; unfold I64; omega)
      obtain ⟨un, hun, hnx, hno, hGn⟩ := get_any ga M V HSV.out.gm HOM.out c s (by have := HCS.out; unfold I64; omega) (by have := HCS.out; unfold I64; omega)
      have HGa : Hid (∀ wq, Kp V wq Nul → Calls Tryz.prog 13 #[.pointer (some ⟨g, 0, none⟩), .agg #[.int .i64 c, .int .i64 s]] wq fun e w' => ∃ sl' fp, e = .returned (ua.val sl') ∧ Own w' wq.heap.size sl' ua.t fp ∧ Kp wq w' Nul) := hGa
      have HGn : Hid (∀ wq, Kp V wq Nul → Calls Tryz.prog 13 #[.pointer (some ⟨ga, 0, none⟩), .agg #[.int .i64 c, .int .i64 s]] wq fun e w' => ∃ sl' fp, e = .returned (un.val sl') ∧ Own w' wq.heap.size sl' un.t fp ∧ Kp wq w' Nul) := hGn
      obtain ⟨qB, hqB⟩ : ∃ q, inB ((u1, u2), (b3, b4)) (c, s) = q := ⟨_, rfl⟩
      obtain ⟨qA, hqA⟩ : ∃ q, inB ((a1, a2), (a3, a4)) (c, s) = q := ⟨_, rfl⟩
      have HInB : Hid (∀ wq, Calls Tryz.prog 14 #[.agg #[.int .i64 u1, .int .i64 u2, .int .i64 b3, .int .i64 b4], .agg #[.int .i64 c, .int .i64 s]] wq fun e w' => e = .returned (.bool qB) ∧ Kp wq w' Nul) := fun wq => (pIn_any u1 u2 b3 b4 c s wq).mono fun e w' h => ⟨by rw [h.1, ← hqB]; rfl, Kp.of_gr h.2⟩
      have HInA : Hid (∀ wq, Calls Tryz.prog 14 #[.agg #[.int .i64 a1, .int .i64 a2, .int .i64 a3, .int .i64 a4], .agg #[.int .i64 c, .int .i64 s]] wq fun e w' => e = .returned (.bool qA) ∧ Kp wq w' Nul) := fun wq => (pIn_any a1 a2 a3 a4 c s wq).mono fun e w' h => ⟨by rw [h.1, ← hqA]; rfl, Kp.of_gr h.2⟩
      have HNW : Hid (∀ was, (if qB = true then Rd L (mvP ((u1, u2), (b3, b4)) ((a1, a2), (a3, a4)) (c, s)) was else if qA = true then was = ct0 else Rd L (c, s) was) → un.k = was.k ∧ (was.k = 1 → Gd was ∧ Gd un ∧ csame un was = true)) := fun was h => now_was HMO.out HOk.out HBr.out (c, s) was un hun (by rw [hqB, hqA]; exact h)
      have HUa : Hid (Rd L (c, s) ua) := hua
      have HEnd : Hid (∀ X, Kp V X Nul → Kp V X Z ∧ ∃ Z', ((∀ i, ¬ Z' i) ∧ Kp w10 X Nul) ∧ More Z Z' W) := fun X k => ⟨k.of_nul, Z, ⟨HZN.out, HKV.out.trans k⟩, fun i hi => .inl hi⟩
      have l5 := HSV.out.c5.cell (i := 0) rfl
      have XV := HBV.out V (Kp.refl _ _)
      have y0 := XV.cell (i := 0) rfl
      have y1 := XV.cell (i := 1) rfl
      clear hV hKV hua hax hao hGa hun hnx hno hGn hqB hqA HKW HS XV hcont
      gi_wp2_with fail
      clear l5 y0 y1
      refine ⟨trivial, CallsIn.inRound _ ((callsIn_wide.2 (HGa.out _ (Kp.refl _ _))).mono ?_)⟩
      rintro e v1 ⟨sl1, fp1, rfl, ho1, k1⟩
      have KV1 : Hid (Kp V v1 Nul) := k1
      have HO1 : Hid (Own v1 V.heap.size sl1 ua.t fp1) := ho1
      have O1 : Hid (sl1.oneCell' = true) := ho1.own.one
      clear k1 ho1 HGa
      gi_wp2_with (first
        | (refine storeIn_new' rfl 51 (.tmp 14) (.tmp 70) rfl _ _ _ _ (by first | rfl | simp) rfl rfl rfl infoContent (ua.one O1.out) ?_; generalize hV2 : v1.alloc (Obj.cells _ 51) = V2; have K12 : Hid (Kp v1 V2 Nul) := (by show Kp _ _ _; rw [← hV2]; exact (Kp.refl _ _).alloc _); have HB14 : Hid (Blk V2 v1.heap.size (ua.cells sl1) 51) := (by show Blk _ _ _ _; rw [← hV2]; exact Blk.new v1 _ _); have KV2 : Hid (Kp V V2 Nul) := KV1.out.trans K12.out; have z10 := (HSV.out.nul KV2.out).c10; have z0 := z10.cell (i := 0) rfl; have z1 := z10.cell (i := 1) rfl; have z2 := z10.cell (i := 2) rfl; have z3 := z10.cell (i := 3) rfl; have zc := HBV.out V2 KV2.out; have y0 := zc.cell (i := 0) rfl; have y1 := zc.cell (i := 1) rfl; clear hV2 z10 zc)
        | fail)
      clear z0 z1 z2 z3 y0 y1
      refine ⟨trivial, CallsIn.inRound _ ((callsIn_wide.2 (HInB.out _)).mono ?_)⟩
      rintro e v3 ⟨rfl, k3⟩
      have KV3 : Hid (Kp V v3 Nul) := KV2.out.trans k3
      have HB14' : Hid (Blk v3 v1.heap.size (ua.cells sl1) 51) := HB14.out.kp k3 (fun x => x)
      have HNd : Hid (NdIn v3 (fun _ => True) sl1 ua.t) := ((HO1.out.isIn.kp K12.out (fun _ _ x => x)).kp k3 (fun _ _ x => x)).mono (fun b hb hl => ⟨rfl, trivial⟩)
      have HL14 : Hid (V.heap.size ≤ v1.heap.size) := KV1.out.size
      clear k3 HB14 K12 KV2 HInB
      cases qB with
      | true =>
        have HNg : Hid (IntKind.i64.wrap (-dc) = -dc ∧ IntKind.i64.wrap (-dr) = -dr) := by
          have hF := HF.out
          have hD := HD.out
          exact ⟨by rw [IntKind.wrap_i64]; omega, by rw [IntKind.wrap_i64]; omega⟩
        obtain ⟨e1, he1⟩ : ∃ e1 : Int, c + -dc = e1 := ⟨_, rfl⟩
        obtain ⟨e2, he2⟩ : ∃ e2 : Int, s + -dr = e2 := ⟨_, rfl⟩
        have HE12 : Hid ((e1, e2) = mvP ((u1, u2), (b3, b4)) ((a1, a2), (a3, a4)) (c, s)) := by
          have hD := HD.out
          show _ = _
          unfold mvP
          simp only [Prod.mk.injEq]
          omega
        have HI12 : Hid (I64 e1 ∧ I64 e2) := by
          have hF := HF.out
          have hD := HD.out
          have hC := HCS.out
          exact ⟨by unfold I64; omega, by unfold I64; omega⟩
        have HSh2 : Hid (∀ wq, Calls Tryz.prog 9 #[.agg #[.int .i64 c, .int .i64 s], .int .i64 (-dc), .int .i64 (-dr)] wq fun e w' => e = .returned (.agg #[.int .i64 e1, .int .i64 e2]) ∧ Kp wq w' Nul) := fun wq => by
          have h := HSh.out c s (-dc) (-dr) wq (by rw [he1]; exact HI12.out.1) (by rw [he2]; exact HI12.out.2)
          rw [he1, he2] at h
          exact h
        obtain ⟨ub, hub, _, _, hGb⟩ := get_any g L V HSV.out.gi HOk.out e1 e2 HI12.out.1 HI12.out.2
        have HUb : Hid (Rd L (e1, e2) ub) := hub
        have HGb : Hid (∀ wq, Kp V wq Nul → Calls Tryz.prog 13 #[.pointer (some ⟨g, 0, none⟩), .agg #[.int .i64 e1, .int .i64 e2]] wq fun e w' => ∃ sl' fp, e = .returned (ub.val sl') ∧ Own w' wq.heap.size sl' ub.t fp ∧ Kp wq w' Nul) := hGb
        clear hub hGb he1 he2
        gi_wp2_with fail
        refine regIn_noPanic ?_
        refine regIn_held (fun w' : World => Kp V w' Nul) (by kernel_rfl) (by kernel_rfl) (noPanic_lets (fun a w h => Exit.noConfusion (And.left h))) (KV3.out.drew) (fun hHeld => ?_)
        refine wpH_takes (i := 0) (v := .pointer (some ⟨g, 0, none⟩)) (some 75) rfl rfl (by kernel_rfl) (by kernel_rfl) (by kernel_rfl) (fun _ _ _ h => h) (Or.inl ⟨by rfl, ?_⟩) hHeld ?_
        · intro w' hSw; have s0 := (HSV.out.nul hSw).c5.cell (i := 0) rfl; clear hSw; go_simp
        simp only [Act.put, List.setIfInBounds_toArray, List.set_cons_zero, List.set_cons_succ]
        refine wpH_takes (i := 1) (v := .agg #[.int .i64 c, .int .i64 s]) (some 76) rfl rfl (by kernel_rfl) (by kernel_rfl) (by kernel_rfl) (fun _ _ _ h => h) (Or.inl ⟨by rfl, fun w' hSw => exec_load_row 24 (.tmp 13) rfl W.heap.size 0 rfl [.int .i64 c, .int .i64 s] _ (blk_range (HBV.out w' hSw)) Tryz.underlying24 rfl infoAddr2'⟩) hHeld ?_
        simp only [Act.put, List.setIfInBounds_toArray, List.set_cons_zero, List.set_cons_succ]
        refine wpH_takes (i := 2) (v := .int .i64 dc) (some 77) rfl rfl (by kernel_rfl) (by kernel_rfl) (by kernel_rfl) (fun _ _ _ h => h) (Or.inl ⟨by rfl, ?_⟩) hHeld ?_
        · intro w' hSw; have s0 := (HSV.out.nul hSw).c8.cell (i := 0) rfl; clear hSw; go_simp
        simp only [Act.put, List.setIfInBounds_toArray, List.set_cons_zero, List.set_cons_succ]
        refine wpH_takes (i := 3) (v := .int .i64 (-dc)) (some 78) rfl rfl (by kernel_rfl) (by kernel_rfl) (by kernel_rfl) (fun _ _ _ h => h) (Or.inl ⟨by rfl, ?_⟩) hHeld ?_
        · intro w' hSw; have s1 := HNg.out.1; clear hSw; go_simp
        simp only [Act.put, List.setIfInBounds_toArray, List.set_cons_zero, List.set_cons_succ]
        refine wpH_takes (i := 4) (v := .int .i64 dr) (some 79) rfl rfl (by kernel_rfl) (by kernel_rfl) (by kernel_rfl) (fun _ _ _ h => h) (Or.inl ⟨by rfl, ?_⟩) hHeld ?_
        · intro w' hSw; have s0 := (HSV.out.nul hSw).c9.cell (i := 0) rfl; clear hSw; go_simp
        simp only [Act.put, List.setIfInBounds_toArray, List.set_cons_zero, List.set_cons_succ]
        refine wpH_takes (i := 5) (v := .int .i64 (-dr)) (some 80) rfl rfl (by kernel_rfl) (by kernel_rfl) (by kernel_rfl) (fun _ _ _ h => h) (Or.inl ⟨by rfl, ?_⟩) hHeld ?_
        · intro w' hSw; have s1 := HNg.out.2; clear hSw; go_simp
        simp only [Act.put, List.setIfInBounds_toArray, List.set_cons_zero, List.set_cons_succ]
        refine wpH_step (i := 6) (by kernel_rfl) rfl rfl (fun K hK => ?_)
        go_simp
        refine (HSh2.out _).mono ?_
        rintro e s1 ⟨rfl, hk2⟩
        have S1 : Hid (Kp v3 s1 Nul) := ((Kp.refl v3 Nul).drew).trans hk2
        refine hK.out _ _ (KV3.out.trans S1.out) (fun hHeld => ?_)
        clear hK K hk2
        (try simp only [Act.put, List.setIfInBounds_toArray, List.set_cons_zero, List.set_cons_succ])
        refine wpH_step (i := 7) (by kernel_rfl) rfl rfl (fun K hK => ?_)
        go_simp
        refine (HGb.out _ (KV3.out.trans S1.out)).mono ?_
        rintro e s2 ⟨slb, fpb, rfl, hob, hk2⟩
        have S2 : Hid (Kp v3 s2 Nul) := S1.out.trans hk2
        have HOb : Hid (Own s2 s1.heap.size slb ub.t fpb) := hob
        have Ob : Hid (slb.oneCell' = true) := hob.own.one
        have HS1 : Hid (v1.heap.size < s1.heap.size) := Nat.lt_of_lt_of_le HB14'.out.lt S1.out.size
        refine hK.out _ _ (KV3.out.trans S2.out) (fun hHeld => ?_)
        clear hK K hk2 hob
        (try simp only [Act.put, List.setIfInBounds_toArray, List.set_cons_zero, List.set_cons_succ])
        refine wpH_step (i := 8) (by kernel_rfl) rfl rfl (fun K hK => ?_)
        refine wp_store_blk 51 (.tmp 14) (.tmp 82) rfl v1.heap.size _ (ub.cells slb) _ (HB14'.out.kp S2.out (fun x => x)) rfl rfl rfl infoContent (ub.one Ob.out) ?_
        intro Y hbY hkY
        have LY : Hid (Kp V Y Nul) := (KV3.out.trans S2.out).trans' hkY (fun i hi e => by have e' : i = v1.heap.size := e; have := HL14.out; omega)
        have HBY : Hid (Blk Y v1.heap.size (ub.cells slb) 51) := hbY
        have HNY : Hid (NdIn Y (fun _ => True) slb ub.t) := (HOb.out.isIn.kp hkY (fun i hi e => by have e' : i = v1.heap.size := e; have := HS1.out; omega)).mono (fun b hb hl => ⟨rfl, trivial⟩)
        refine hK.out _ _ LY.out (fun hHeld => ?_)
        clear hK K hbY hkY hHeld
        (try simp only [Act.put])
        refine wpAnyH_done (by kernel_rfl) ?_ _
        refine NoPanic.normal ?_
        have T14 : Hid (∀ wq, Kp Y wq Nul → Blk wq v1.heap.size (ub.cells slb) 51) := fun wq k => HBY.out.kp k (fun x => x)
        have TNd : Hid (∀ wq, Kp Y wq Nul → NdIn wq (fun _ => True) slb ub.t) := fun wq k => HNY.out.kp k (fun _ _ x => x)
        have TK : Hid (Kp V Y Nul) := LY.out
        have TO : Hid (slb.oneCell' = true) := Ob.out
        have TW : Hid (un.k = ub.k ∧ (ub.k = 1 → Gd ub ∧ Gd un ∧ csame un ub = true)) := (HNW.out ub (by first | (rw [if_pos rfl, ← HE12.out]; exact HUb.out) | (rw [if_pos trivial, ← HE12.out]; exact HUb.out)))
        obtain ⟨wk, hwk⟩ : ∃ wk, ub.k = wk := ⟨_, rfl⟩
        rw [hwk] at TW
        have HWK : Hid (ub.k = wk) := hwk
        clear hwk
        have l11 := (HSV.out.nul TK.out).c11.cell (i := 0) rfl
        have zc := HBV.out _ TK.out
        have y0 := zc.cell (i := 0) rfl
        have y1 := zc.cell (i := 1) rfl
        clear zc
        gi_wp2_with fail
        clear l11 y0 y1
        refine ⟨trivial, CallsIn.inRound _ ((callsIn_wide.2 (HGn.out _ TK.out)).mono ?_)⟩
        rintro e v5 ⟨sl5, fp5, rfl, ho5, k5⟩
        have K5' : Hid (Kp Y v5 Nul) := k5
        have HO5 : Hid (Own v5 Y.heap.size sl5 un.t fp5) := ho5
        have O5 : Hid (sl5.oneCell' = true) := ho5.own.one
        clear k5 ho5
        by_cases hw1 : wk = 1
        · subst hw1
          gi_wp2_with (first
            | (refine storeIn_new' rfl 51 (.tmp 15) (.tmp 90) rfl _ _ _ _ (by first | rfl | simp) rfl rfl rfl infoContent (un.one O5.out) ?_; generalize hV6 : v5.alloc (Obj.cells _ 51) = V6; have K56 : Hid (Kp v5 V6 Nul) := (by show Kp _ _ _; rw [← hV6]; exact (Kp.refl _ _).alloc _); have HB15 : Hid (Blk V6 v5.heap.size (un.cells sl5) 51) := (by show Blk _ _ _ _; rw [← hV6]; exact Blk.new v5 _ _); have KX6 : Hid (Kp Y V6 Nul) := K5'.out.trans K56.out; have lN0 : V6.cell? ⟨v5.heap.size, 0, none⟩ = some (.int .i64 1) := (by rw [← TW.out.1]; exact HB15.out.cell rfl); have lW0 : V6.cell? ⟨v1.heap.size, 0, none⟩ = some (.int .i64 1) := (by rw [← HWK.out]; exact (T14.out _ KX6.out).cell rfl); clear hV6)
            | (refine loadIn_content rfl (.tmp 15) rfl v5.heap.size rfl (un.cells sl5).toArray HB15.out rfl ?_)
            | (refine loadIn_content rfl (.tmp 14) rfl v1.heap.size rfl (ub.cells slb).toArray (T14.out _ KX6.out) rfl ?_)
            | fail)
          have HSa : Hid (Calls Tryz.prog 15 #[.agg (un.cells sl5).toArray, .agg (ub.cells slb).toArray] V6 fun e w' => e = .returned (.bool true) ∧ Kp V6 w' Nul) := by
            obtain ⟨q1, q2, q3⟩ := TW.out.2 (by trivial)
            have h := gSame_at un ub sl5 slb (fun _ => True) (fun _ => True) V6 q2.x q1.x q2.ok q1.ok ((HO5.out.isIn.kp K56.out (fun _ _ x => x)).mono (fun b hb hl => ⟨rfl, trivial⟩)) (TNd.out _ KX6.out)
            rw [q3] at h
            exact h
          refine ⟨trivial, CallsIn.inRound _ ((callsIn_wide.2 HSa.out).mono ?_)⟩
          rintro e v7 ⟨rfl, k7⟩
          have KE : Hid (Kp V v7 Nul) := (TK.out.trans KX6.out).trans k7
          clear k7 lN0 lW0 HSa
          gi_wp2_with fail
          first
          | exact ⟨rfl, HEnd.out _ KE.out⟩
          | exact HEnd.out _ KE.out
        · have hwb : (wk == 1) = false := by simpa using hw1
          gi_wp2_with (first
            | (refine storeIn_new' rfl 51 (.tmp 15) (.tmp 90) rfl _ _ _ _ (by first | rfl | simp) rfl rfl rfl infoContent (un.one O5.out) ?_; generalize hV6 : v5.alloc (Obj.cells _ 51) = V6; have K56 : Hid (Kp v5 V6 Nul) := (by show Kp _ _ _; rw [← hV6]; exact (Kp.refl _ _).alloc _); have HB15 : Hid (Blk V6 v5.heap.size (un.cells sl5) 51) := (by show Blk _ _ _ _; rw [← hV6]; exact Blk.new v5 _ _); have KX6 : Hid (Kp Y V6 Nul) := K5'.out.trans K56.out; have lN0 : V6.cell? ⟨v5.heap.size, 0, none⟩ = some (.int .i64 wk) := (by rw [← TW.out.1]; exact HB15.out.cell rfl); have lW0 : V6.cell? ⟨v1.heap.size, 0, none⟩ = some (.int .i64 wk) := (by rw [← HWK.out]; exact (T14.out _ KX6.out).cell rfl); clear hV6)
            | fail)
          refine ⟨trivial, ?_⟩
          have KE : Hid (Kp V V6 Nul) := TK.out.trans KX6.out
          gi_wp2_with fail
          first
          | exact ⟨rfl, HEnd.out _ KE.out⟩
          | exact HEnd.out _ KE.out
      | false =>
        have z6 := (HSV.out.nul KV3.out).c6
        have z0 := z6.cell (i := 0) rfl
        have z1 := z6.cell (i := 1) rfl
        have z2 := z6.cell (i := 2) rfl
        have z3 := z6.cell (i := 3) rfl
        have zc := HBV.out v3 KV3.out
        have y0 := zc.cell (i := 0) rfl
        have y1 := zc.cell (i := 1) rfl
        clear z6 zc
        gi_wp2_with fail
        clear z0 z1 z2 z3 y0 y1
        refine ⟨trivial, CallsIn.inRound _ ((callsIn_wide.2 (HInA.out _)).mono ?_)⟩
        rintro e v4 ⟨rfl, k4⟩
        have KV4 : Hid (Kp V v4 Nul) := KV3.out.trans k4
        have HB4 : Hid (Blk v4 v1.heap.size (ua.cells sl1) 51) := HB14'.out.kp k4 (fun x => x)
        have HN4 : Hid (NdIn v4 (fun _ => True) sl1 ua.t) := HNd.out.kp k4 (fun _ _ x => x)
        clear k4 HB14' HNd HInA
        cases qA with
        | true =>
          gi_wp2_with (first
            | (refine storeIn_blk rfl 51 (.tmp 14) (.tmp 87) rfl v1.heap.size _ (ct0.cells (.slice none 0 0)) _ HB4.out rfl rfl rfl infoContent (ct0.one rfl) ?_; intro Y hbY hkY; have LY : Hid (Kp V Y Nul) := KV4.out.trans' hkY (fun i hi e => (by have e' : i = v1.heap.size := e; have := HL14.out; omega)); have HBY : Hid (Blk Y v1.heap.size (ct0.cells (.slice none 0 0)) 51) := hbY; have l11 := (HSV.out.nul LY.out).c11.cell (i := 0) rfl; have zc := HBV.out _ LY.out; have y0 := zc.cell (i := 0) rfl; have y1 := zc.cell (i := 1) rfl; clear zc hbY hkY)
            | fail)
          have T14 : Hid (∀ wq, Kp Y wq Nul → Blk wq v1.heap.size (ct0.cells (Value.slice none 0 0)) 51) := fun wq k => HBY.out.kp k (fun x => x)
          have TNd : Hid (∀ wq, Kp Y wq Nul → NdIn wq (fun _ => True) (Value.slice none 0 0) ct0.t) := fun wq k => (zNd_in Y (fun _ => True)).kp k (fun _ _ x => x)
          have TK : Hid (Kp V Y Nul) := LY.out
          have TO : Hid ((Value.slice none 0 0).oneCell' = true) := rfl
          have TW : Hid (un.k = ct0.k ∧ (ct0.k = 1 → Gd ct0 ∧ Gd un ∧ csame un ct0 = true)) := (HNW.out ct0 (by first | (rw [if_neg (by decide), if_pos rfl]) | simp))
          obtain ⟨wk, hwk⟩ : ∃ wk, ct0.k = wk := ⟨_, rfl⟩
          rw [hwk] at TW
          have HWK : Hid (ct0.k = wk) := hwk
          clear hwk
          clear l11 y0 y1
          refine ⟨trivial, CallsIn.inRound _ ((callsIn_wide.2 (HGn.out _ TK.out)).mono ?_)⟩
          rintro e v5 ⟨sl5, fp5, rfl, ho5, k5⟩
          have K5' : Hid (Kp Y v5 Nul) := k5
          have HO5 : Hid (Own v5 Y.heap.size sl5 un.t fp5) := ho5
          have O5 : Hid (sl5.oneCell' = true) := ho5.own.one
          clear k5 ho5
          by_cases hw1 : wk = 1
          · subst hw1
            gi_wp2_with (first
              | (refine storeIn_new' rfl 51 (.tmp 15) (.tmp 90) rfl _ _ _ _ (by first | rfl | simp) rfl rfl rfl infoContent (un.one O5.out) ?_; generalize hV6 : v5.alloc (Obj.cells _ 51) = V6; have K56 : Hid (Kp v5 V6 Nul) := (by show Kp _ _ _; rw [← hV6]; exact (Kp.refl _ _).alloc _); have HB15 : Hid (Blk V6 v5.heap.size (un.cells sl5) 51) := (by show Blk _ _ _ _; rw [← hV6]; exact Blk.new v5 _ _); have KX6 : Hid (Kp Y V6 Nul) := K5'.out.trans K56.out; have lN0 : V6.cell? ⟨v5.heap.size, 0, none⟩ = some (.int .i64 1) := (by rw [← TW.out.1]; exact HB15.out.cell rfl); have lW0 : V6.cell? ⟨v1.heap.size, 0, none⟩ = some (.int .i64 1) := (by rw [← HWK.out]; exact (T14.out _ KX6.out).cell rfl); clear hV6)
              | (refine loadIn_content rfl (.tmp 15) rfl v5.heap.size rfl (un.cells sl5).toArray HB15.out rfl ?_)
              | (refine loadIn_content rfl (.tmp 14) rfl v1.heap.size rfl (ct0.cells (Value.slice none 0 0)).toArray (T14.out _ KX6.out) rfl ?_)
              | fail)
            have HSa : Hid (Calls Tryz.prog 15 #[.agg (un.cells sl5).toArray, .agg (ct0.cells (Value.slice none 0 0)).toArray] V6 fun e w' => e = .returned (.bool true) ∧ Kp V6 w' Nul) := by
              obtain ⟨q1, q2, q3⟩ := TW.out.2 (by trivial)
              have h := gSame_at un ct0 sl5 (Value.slice none 0 0) (fun _ => True) (fun _ => True) V6 q2.x q1.x q2.ok q1.ok ((HO5.out.isIn.kp K56.out (fun _ _ x => x)).mono (fun b hb hl => ⟨rfl, trivial⟩)) (TNd.out _ KX6.out)
              rw [q3] at h
              exact h
            refine ⟨trivial, CallsIn.inRound _ ((callsIn_wide.2 HSa.out).mono ?_)⟩
            rintro e v7 ⟨rfl, k7⟩
            have KE : Hid (Kp V v7 Nul) := (TK.out.trans KX6.out).trans k7
            clear k7 lN0 lW0 HSa
            gi_wp2_with fail
            first
            | exact ⟨rfl, HEnd.out _ KE.out⟩
            | exact HEnd.out _ KE.out
          · have hwb : (wk == 1) = false := by simpa using hw1
            gi_wp2_with (first
              | (refine storeIn_new' rfl 51 (.tmp 15) (.tmp 90) rfl _ _ _ _ (by first | rfl | simp) rfl rfl rfl infoContent (un.one O5.out) ?_; generalize hV6 : v5.alloc (Obj.cells _ 51) = V6; have K56 : Hid (Kp v5 V6 Nul) := (by show Kp _ _ _; rw [← hV6]; exact (Kp.refl _ _).alloc _); have HB15 : Hid (Blk V6 v5.heap.size (un.cells sl5) 51) := (by show Blk _ _ _ _; rw [← hV6]; exact Blk.new v5 _ _); have KX6 : Hid (Kp Y V6 Nul) := K5'.out.trans K56.out; have lN0 : V6.cell? ⟨v5.heap.size, 0, none⟩ = some (.int .i64 wk) := (by rw [← TW.out.1]; exact HB15.out.cell rfl); have lW0 : V6.cell? ⟨v1.heap.size, 0, none⟩ = some (.int .i64 wk) := (by rw [← HWK.out]; exact (T14.out _ KX6.out).cell rfl); clear hV6)
              | fail)
            refine ⟨trivial, ?_⟩
            have KE : Hid (Kp V V6 Nul) := TK.out.trans KX6.out
            gi_wp2_with fail
            first
            | exact ⟨rfl, HEnd.out _ KE.out⟩
            | exact HEnd.out _ KE.out
        | false =>
          have T14 : Hid (∀ wq, Kp v4 wq Nul → Blk wq v1.heap.size (ua.cells sl1) 51) := fun wq k => HB4.out.kp k (fun x => x)
          have TNd : Hid (∀ wq, Kp v4 wq Nul → NdIn wq (fun _ => True) sl1 ua.t) := fun wq k => HN4.out.kp k (fun _ _ x => x)
          have TK : Hid (Kp V v4 Nul) := KV4.out
          have TO : Hid (sl1.oneCell' = true) := O1.out
          have TW : Hid (un.k = ua.k ∧ (ua.k = 1 → Gd ua ∧ Gd un ∧ csame un ua = true)) := (HNW.out ua (by first | (rw [if_neg (by decide), if_neg (by decide)]; exact HUa.out) | (simp only [if_false]; exact HUa.out) | (simp; exact HUa.out)))
          obtain ⟨wk, hwk⟩ : ∃ wk, ua.k = wk := ⟨_, rfl⟩
          rw [hwk] at TW
          have HWK : Hid (ua.k = wk) := hwk
          clear hwk
          have l11 := (HSV.out.nul TK.out).c11.cell (i := 0) rfl
          have zc := HBV.out _ TK.out
          have y0 := zc.cell (i := 0) rfl
          have y1 := zc.cell (i := 1) rfl
          clear zc
          gi_wp2_with fail
          clear l11 y0 y1
          refine ⟨trivial, CallsIn.inRound _ ((callsIn_wide.2 (HGn.out _ TK.out)).mono ?_)⟩
          rintro e v5 ⟨sl5, fp5, rfl, ho5, k5⟩
          have K5' : Hid (Kp v4 v5 Nul) := k5
          have HO5 : Hid (Own v5 v4.heap.size sl5 un.t fp5) := ho5
          have O5 : Hid (sl5.oneCell' = true) := ho5.own.one
          clear k5 ho5
          by_cases hw1 : wk = 1
          · subst hw1
            gi_wp2_with (first
              | (refine storeIn_new' rfl 51 (.tmp 15) (.tmp 90) rfl _ _ _ _ (by first | rfl | simp) rfl rfl rfl infoContent (un.one O5.out) ?_; generalize hV6 : v5.alloc (Obj.cells _ 51) = V6; have K56 : Hid (Kp v5 V6 Nul) := (by show Kp _ _ _; rw [← hV6]; exact (Kp.refl _ _).alloc _); have HB15 : Hid (Blk V6 v5.heap.size (un.cells sl5) 51) := (by show Blk _ _ _ _; rw [← hV6]; exact Blk.new v5 _ _); have KX6 : Hid (Kp v4 V6 Nul) := K5'.out.trans K56.out; have lN0 : V6.cell? ⟨v5.heap.size, 0, none⟩ = some (.int .i64 1) := (by rw [← TW.out.1]; exact HB15.out.cell rfl); have lW0 : V6.cell? ⟨v1.heap.size, 0, none⟩ = some (.int .i64 1) := (by rw [← HWK.out]; exact (T14.out _ KX6.out).cell rfl); clear hV6)
              | (refine loadIn_content rfl (.tmp 15) rfl v5.heap.size rfl (un.cells sl5).toArray HB15.out rfl ?_)
              | (refine loadIn_content rfl (.tmp 14) rfl v1.heap.size rfl (ua.cells sl1).toArray (T14.out _ KX6.out) rfl ?_)
              | fail)
            have HSa : Hid (Calls Tryz.prog 15 #[.agg (un.cells sl5).toArray, .agg (ua.cells sl1).toArray] V6 fun e w' => e = .returned (.bool true) ∧ Kp V6 w' Nul) := by
              obtain ⟨q1, q2, q3⟩ := TW.out.2 (by trivial)
              have h := gSame_at un ua sl5 sl1 (fun _ => True) (fun _ => True) V6 q2.x q1.x q2.ok q1.ok ((HO5.out.isIn.kp K56.out (fun _ _ x => x)).mono (fun b hb hl => ⟨rfl, trivial⟩)) (TNd.out _ KX6.out)
              rw [q3] at h
              exact h
            refine ⟨trivial, CallsIn.inRound _ ((callsIn_wide.2 HSa.out).mono ?_)⟩
            rintro e v7 ⟨rfl, k7⟩
            have KE : Hid (Kp V v7 Nul) := (TK.out.trans KX6.out).trans k7
            clear k7 lN0 lW0 HSa
            gi_wp2_with fail
            first
            | exact ⟨rfl, HEnd.out _ KE.out⟩
            | exact HEnd.out _ KE.out
          · have hwb : (wk == 1) = false := by simpa using hw1
            gi_wp2_with (first
              | (refine storeIn_new' rfl 51 (.tmp 15) (.tmp 90) rfl _ _ _ _ (by first | rfl | simp) rfl rfl rfl infoContent (un.one O5.out) ?_; generalize hV6 : v5.alloc (Obj.cells _ 51) = V6; have K56 : Hid (Kp v5 V6 Nul) := (by show Kp _ _ _; rw [← hV6]; exact (Kp.refl _ _).alloc _); have HB15 : Hid (Blk V6 v5.heap.size (un.cells sl5) 51) := (by show Blk _ _ _ _; rw [← hV6]; exact Blk.new v5 _ _); have KX6 : Hid (Kp v4 V6 Nul) := K5'.out.trans K56.out; have lN0 : V6.cell? ⟨v5.heap.size, 0, none⟩ = some (.int .i64 wk) := (by rw [← TW.out.1]; exact HB15.out.cell rfl); have lW0 : V6.cell? ⟨v1.heap.size, 0, none⟩ = some (.int .i64 wk) := (by rw [← HWK.out]; exact (T14.out _ KX6.out).cell rfl); clear hV6)
              | fail)
            refine ⟨trivial, ?_⟩
            have KE : Hid (Kp V V6 Nul) := TK.out.trans KX6.out
            gi_wp2_with fail
            first
            | exact ⟨rfl, HEnd.out _ KE.out⟩
            | exact HEnd.out _ KE.out
    case hdone =>
      subst hact
      rintro D Z W hD ⟨_, hKW⟩ hdef
      have HSW : Hid (MtS w W w1.heap.size w3.heap.size (w3.heap.size + 1) (w3.heap.size + 1 + 1) (w3.heap.size + 1 + 1 + 1) p10 w6.heap.size g ga a1 a2 a3 a4 u1 u2 dc dr b3 b4 L M) := HS.out.nul hKW
      have HDf : Hid (W.heap[D]? = some (.deferred (some []))) := hdef
      have HDD : Hid (w10.heap.size ≤ D ∧ w.heap.size + 1 < w10.heap.size ∧ w.heap.size ≤ w10.heap.size) := ⟨hD, HS.out.c4.lt, HS.out.kp.size⟩
      have HLM : Hid (∀ wq, Kp W wq Nul → Calls Tryz.prog 22 #[.pointer (some ⟨ga, 0, none⟩)] wq fun e w' => e = .returned (.int .i64 (flS M : Nat)) ∧ Kp wq w' Nul) := fun wq k => lost22_at ga M wq (HSW.out.gm.kp k) HOM.out
      have HLL : Hid (∀ wq, Kp W wq Nul → Calls Tryz.prog 22 #[.pointer (some ⟨g, 0, none⟩)] wq fun e w' => e = .returned (.int .i64 (flS L : Nat)) ∧ Kp wq w' Nul) := fun wq k => lost22_at g L wq (HSW.out.gi.kp k) HOk.out
      have HNM : Hid (∀ wq, Kp W wq Nul → Calls Tryz.prog 20 #[.pointer (some ⟨ga, 0, none⟩)] wq fun e w' => e = .returned (.int .i64 M.length) ∧ Kp wq w' Nul) := fun wq k => (len_at wq _ ga M (HSW.out.gm.kp k)).mono fun e w' h => ⟨h.1, by rw [h.2]; exact Kp.refl _ _⟩
      have HNL : Hid (∀ wq, Kp W wq Nul → Calls Tryz.prog 20 #[.pointer (some ⟨g, 0, none⟩)] wq fun e w' => e = .returned (.int .i64 L.length) ∧ Kp wq w' Nul) := fun wq k => (len_at wq _ g L (HSW.out.gi.kp k)).mono fun e w' h => ⟨h.1, by rw [h.2]; exact Kp.refl _ _⟩
      have HLe : Hid (M.length = L.length → flS L ≤ flS M) := fun q => move_lost HMO.out HOk.out HOn.out HBr.out q
      have HKW : Hid (Kp w10 W Nul) := hKW
      clear hD hKW hdef HBC HS
      obtain ⟨n1, hn1⟩ : ∃ n1, flS M = n1 := ⟨_, rfl⟩
      obtain ⟨n2, hn2⟩ : ∃ n2, flS L = n2 := ⟨_, rfl⟩
      obtain ⟨k1, hk1⟩ : ∃ k1, M.length = k1 := ⟨_, rfl⟩
      obtain ⟨k2, hk2⟩ : ∃ k2, L.length = k2 := ⟨_, rfl⟩
      rw [hn1] at HLM HLe
      rw [hn2] at HLL HLe
      rw [hk1] at HNM HLe
      rw [hk2] at HNL HLe
      have HNN : Hid (flS M = n1 ∧ flS L = n2) := ⟨hn1, hn2⟩
      clear hn1 hn2 hk1 hk2
      go_upto_region 21 with fail
      go_cut [118] from 107 to 118 (fun x wx => x = .bool false ∧ Kp W wx Nul)
      case first =>
        refine wp_region_noPanic ?_
        refine wp_region_hel (fun w' : World => Kp W w' Nul) (by kernel_rfl) ((Kp.refl _ _).drew) (fun hHeld => ?_)
        by_cases hq : n1 < n2
        · have hq' : (n1 : Int) < (n2 : Int) := by omega
          have hqe : ((k1 : Int) == (k2 : Int)) = false := by
            have := HLe.out
            simp
            omega
          refine wpH_takes (i := 0) (v := .pointer (some ⟨ga, 0, none⟩)) (some 107) rfl rfl (by kernel_rfl) (by kernel_rfl) (by kernel_rfl) (fun _ _ _ h => h) (Or.inl ⟨by rfl, ?_⟩) hHeld ?_
          · intro w' hSw; have s0 := (HSW.out.nul hSw).c11.cell (i := 0) rfl; clear hSw; go_simp
          simp only [Act.put, List.setIfInBounds_toArray, List.set_cons_zero, List.set_cons_succ]
          refine wpH_takes (i := 2) (v := .pointer (some ⟨g, 0, none⟩)) (some 109) rfl rfl (by kernel_rfl) (by kernel_rfl) (by kernel_rfl) (fun _ _ _ h => h) (Or.inl ⟨by rfl, ?_⟩) hHeld ?_
          · intro w' hSw; have s0 := (HSW.out.nul hSw).c5.cell (i := 0) rfl; clear hSw; go_simp
          simp only [Act.put, List.setIfInBounds_toArray, List.set_cons_zero, List.set_cons_succ]
          refine wpH_step (i := 1) (by kernel_rfl) rfl rfl (fun K hK => ?_)
          go_simp
          refine (HLM.out _ (Kp.refl W Nul).drew).mono ?_
          rintro e x1 ⟨rfl, hk2⟩
          have E1 : Hid (Kp W x1 Nul) := (Kp.refl W Nul).drew.trans hk2
          refine hK.out _ _ (E1.out) (fun hHeld => ?_)
          clear hK K hk2
          (try simp only [Act.put, List.setIfInBounds_toArray, List.set_cons_zero, List.set_cons_succ])
          refine wpH_step (i := 3) (by kernel_rfl) rfl rfl (fun K hK => ?_)
          go_simp
          refine (HLL.out _ E1.out).mono ?_
          rintro e x2 ⟨rfl, hk2⟩
          have E2 : Hid (Kp W x2 Nul) := E1.out.trans hk2
          refine hK.out _ _ (E2.out) (fun hHeld => ?_)
          clear hK K hk2
          (try simp only [Act.put, List.setIfInBounds_toArray, List.set_cons_zero, List.set_cons_succ])
          refine wpH_takes (i := 4) (v := .bool true) (some 111) rfl rfl (by kernel_rfl) (by kernel_rfl) (by kernel_rfl) (fun _ _ _ h => h) (Or.inl ⟨by rfl, ?_⟩) hHeld ?_
          · intro w' hSw; clear hSw; go_simp
          simp only [Act.put, List.setIfInBounds_toArray, List.set_cons_zero, List.set_cons_succ]
          refine wpH_takes (i := 5) (v := .bool true) (some 112) rfl rfl (by kernel_rfl) (by kernel_rfl) (by kernel_rfl) (fun _ _ _ h => h) (Or.inl ⟨by rfl, ?_⟩) hHeld ?_
          · intro w' hSw; clear hSw; go_simp
          simp only [Act.put, List.setIfInBounds_toArray, List.set_cons_zero, List.set_cons_succ]
          refine wpH_takes (i := 6) (v := .pointer (some ⟨ga, 0, none⟩)) (some 113) rfl rfl (by kernel_rfl) (by kernel_rfl) (by kernel_rfl) (fun _ _ _ h => h) (Or.inl ⟨by rfl, ?_⟩) hHeld ?_
          · intro w' hSw; have s0 := (HSW.out.nul hSw).c11.cell (i := 0) rfl; clear hSw; go_simp
          simp only [Act.put, List.setIfInBounds_toArray, List.set_cons_zero, List.set_cons_succ]
          refine wpH_takes (i := 8) (v := .pointer (some ⟨g, 0, none⟩)) (some 115) rfl rfl (by kernel_rfl) (by kernel_rfl) (by kernel_rfl) (fun _ _ _ h => h) (Or.inl ⟨by rfl, ?_⟩) hHeld ?_
          · intro w' hSw; have s0 := (HSW.out.nul hSw).c5.cell (i := 0) rfl; clear hSw; go_simp
          simp only [Act.put, List.setIfInBounds_toArray, List.set_cons_zero, List.set_cons_succ]
          refine wpH_stepG (i := 7) (by kernel_rfl) rfl (by rfl) (fun K hK => ?_)
          go_simp
          refine (HNM.out _ E2.out).mono ?_
          rintro e x3 ⟨rfl, hk2⟩
          have E3 : Hid (Kp W x3 Nul) := E2.out.trans hk2
          refine hK.out _ _ (E3.out) (fun hHeld => ?_)
          clear hK K hk2
          (try simp only [Act.put, List.setIfInBounds_toArray, List.set_cons_zero, List.set_cons_succ])
          refine wpH_stepG (i := 9) (by kernel_rfl) rfl (by rfl) (fun K hK => ?_)
          go_simp
          refine (HNL.out _ E3.out).mono ?_
          rintro e x4 ⟨rfl, hk2⟩
          have E4 : Hid (Kp W x4 Nul) := E3.out.trans hk2
          refine hK.out _ _ (E4.out) (fun hHeld => ?_)
          clear hK K hk2
          (try simp only [Act.put, List.setIfInBounds_toArray, List.set_cons_zero, List.set_cons_succ])
          refine wpH_takes (i := 10) (v := .bool false) (some 117) rfl rfl (by kernel_rfl) (by kernel_rfl) (by kernel_rfl) (fun _ _ _ h => h) (Or.inl ⟨by rfl, ?_⟩) hHeld ?_
          · intro w' hSw; clear hSw; go_simp
          simp only [Act.put, List.setIfInBounds_toArray, List.set_cons_zero, List.set_cons_succ]
          refine wpH_takes (i := 11) (v := .bool false) (some 118) rfl rfl (by kernel_rfl) (by kernel_rfl) (by kernel_rfl) (fun _ _ _ h => h) (Or.inl ⟨by rfl, ?_⟩) hHeld ?_
          · intro w' hSw; clear hSw; go_simp
          simp only [Act.put, List.setIfInBounds_toArray, List.set_cons_zero, List.set_cons_succ]
          refine wpAnyH_done (by kernel_rfl) ?_ _
          refine NoPanic.normal ?_
          go_wp2_with fail
          go_meet
          case rel => exact ⟨rfl, E4.out⟩
        · have hq' : ¬ (n1 : Int) < (n2 : Int) := by omega
          refine wpH_takes (i := 0) (v := .pointer (some ⟨ga, 0, none⟩)) (some 107) rfl rfl (by kernel_rfl) (by kernel_rfl) (by kernel_rfl) (fun _ _ _ h => h) (Or.inl ⟨by rfl, ?_⟩) hHeld ?_
          · intro w' hSw; have s0 := (HSW.out.nul hSw).c11.cell (i := 0) rfl; clear hSw; go_simp
          simp only [Act.put, List.setIfInBounds_toArray, List.set_cons_zero, List.set_cons_succ]
          refine wpH_takes (i := 2) (v := .pointer (some ⟨g, 0, none⟩)) (some 109) rfl rfl (by kernel_rfl) (by kernel_rfl) (by kernel_rfl) (fun _ _ _ h => h) (Or.inl ⟨by rfl, ?_⟩) hHeld ?_
          · intro w' hSw; have s0 := (HSW.out.nul hSw).c5.cell (i := 0) rfl; clear hSw; go_simp
          simp only [Act.put, List.setIfInBounds_toArray, List.set_cons_zero, List.set_cons_succ]
          refine wpH_step (i := 1) (by kernel_rfl) rfl rfl (fun K hK => ?_)
          go_simp
          refine (HLM.out _ (Kp.refl W Nul).drew).mono ?_
          rintro e x1 ⟨rfl, hk2⟩
          have E1 : Hid (Kp W x1 Nul) := (Kp.refl W Nul).drew.trans hk2
          refine hK.out _ _ (E1.out) (fun hHeld => ?_)
          clear hK K hk2
          (try simp only [Act.put, List.setIfInBounds_toArray, List.set_cons_zero, List.set_cons_succ])
          refine wpH_step (i := 3) (by kernel_rfl) rfl rfl (fun K hK => ?_)
          go_simp
          refine (HLL.out _ E1.out).mono ?_
          rintro e x2 ⟨rfl, hk2⟩
          have E2 : Hid (Kp W x2 Nul) := E1.out.trans hk2
          refine hK.out _ _ (E2.out) (fun hHeld => ?_)
          clear hK K hk2
          (try simp only [Act.put, List.setIfInBounds_toArray, List.set_cons_zero, List.set_cons_succ])
          refine wpH_takes (i := 4) (v := .bool false) (some 111) rfl rfl (by kernel_rfl) (by kernel_rfl) (by kernel_rfl) (fun _ _ _ h => h) (Or.inl ⟨by rfl, ?_⟩) hHeld ?_
          · intro w' hSw; clear hSw; go_simp
          simp only [Act.put, List.setIfInBounds_toArray, List.set_cons_zero, List.set_cons_succ]
          refine wpH_takes (i := 5) (v := .bool false) (some 112) rfl rfl (by kernel_rfl) (by kernel_rfl) (by kernel_rfl) (fun _ _ _ h => h) (Or.inl ⟨by rfl, ?_⟩) hHeld ?_
          · intro w' hSw; clear hSw; go_simp
          simp only [Act.put, List.setIfInBounds_toArray, List.set_cons_zero, List.set_cons_succ]
          refine wpH_takes (i := 6) (v := undef) (some 113) rfl rfl (by kernel_rfl) (by kernel_rfl) (by kernel_rfl) (fun _ _ _ h => h) (Or.inr ⟨by rfl, rfl⟩) hHeld ?_
          simp only [Act.put, List.setIfInBounds_toArray, List.set_cons_zero, List.set_cons_succ]
          refine wpH_takes (i := 7) (v := undef) (some 114) rfl rfl (by kernel_rfl) (by kernel_rfl) (by kernel_rfl) (fun _ _ _ h => h) (Or.inr ⟨by rfl, rfl⟩) hHeld ?_
          simp only [Act.put, List.setIfInBounds_toArray, List.set_cons_zero, List.set_cons_succ]
          refine wpH_takes (i := 8) (v := undef) (some 115) rfl rfl (by kernel_rfl) (by kernel_rfl) (by kernel_rfl) (fun _ _ _ h => h) (Or.inr ⟨by rfl, rfl⟩) hHeld ?_
          simp only [Act.put, List.setIfInBounds_toArray, List.set_cons_zero, List.set_cons_succ]
          refine wpH_takes (i := 9) (v := undef) (some 116) rfl rfl (by kernel_rfl) (by kernel_rfl) (by kernel_rfl) (fun _ _ _ h => h) (Or.inr ⟨by rfl, rfl⟩) hHeld ?_
          simp only [Act.put, List.setIfInBounds_toArray, List.set_cons_zero, List.set_cons_succ]
          refine wpH_takes (i := 10) (v := undef) (some 117) rfl rfl (by kernel_rfl) (by kernel_rfl) (by kernel_rfl) (fun _ _ _ h => h) (Or.inr ⟨by rfl, rfl⟩) hHeld ?_
          simp only [Act.put, List.setIfInBounds_toArray, List.set_cons_zero, List.set_cons_succ]
          refine wpH_takes (i := 11) (v := .bool false) (some 118) rfl rfl (by kernel_rfl) (by kernel_rfl) (by kernel_rfl) (fun _ _ _ h => h) (Or.inl ⟨by rfl, ?_⟩) hHeld ?_
          · intro w' hSw; clear hSw; go_simp
          simp only [Act.put, List.setIfInBounds_toArray, List.set_cons_zero, List.set_cons_succ]
          refine wpAnyH_done (by kernel_rfl) ?_ _
          refine NoPanic.normal ?_
          go_wp2_with fail
          go_meet
          case rel => exact ⟨rfl, E2.out⟩
      case rest =>
        obtain ⟨rfl, hkx⟩ := hcut
        rename World => wX
        have HSX : Hid (MtS w wX w1.heap.size w3.heap.size (w3.heap.size + 1) (w3.heap.size + 1 + 1) (w3.heap.size + 1 + 1 + 1) p10 w6.heap.size g ga a1 a2 a3 a4 u1 u2 dc dr b3 b4 L M) := HSW.out.nul hkx
        have HDX : Hid (wX.heap[D]? = some (.deferred (some []))) := (hkx.block D (Array.getElem?_eq_some_iff.1 HDf.out).1 (fun x => x)).trans HDf.out
        obtain ⟨E, hE⟩ : ∃ E, emptyS ((u1, u2), (b3, b4)) L = E := ⟨_, rfl⟩
        have HEm : Hid (Calls Tryz.prog 23 #[.pointer (some ⟨g, 0, none⟩), .agg #[.int .i64 u1, .int .i64 u2, .int .i64 b3, .int .i64 b4]] wX fun e w' => e = .returned (.bool E) ∧ Kp wX w' Nul) := by have h := empty22_at g L ((u1, u2), (b3, b4)) wX HSX.out.gi HOk.out; rw [hE] at h; exact h
        have HEE : Hid (emptyS ((u1, u2), (b3, b4)) L = E) := hE
        have l5 := HSX.out.c5.cell (i := 0) rfl
        have z0 := HSX.out.c10.cell (i := 0) rfl
        have z1 := HSX.out.c10.cell (i := 1) rfl
        have z2 := HSX.out.c10.cell (i := 2) rfl
        have z3 := HSX.out.c10.cell (i := 3) rfl
        clear hkx hE HSW HDf HLM HLL HNM HNL HLe HKW
        go_wp2_with fail
        clear l5 z0 z1 z2 z3
        refine HEm.out.mono ?_
        rintro e w11 ⟨rfl, k11⟩
        have HSY : Hid (MtS w w11 w1.heap.size w3.heap.size (w3.heap.size + 1) (w3.heap.size + 1 + 1) (w3.heap.size + 1 + 1 + 1) p10 w6.heap.size g ga a1 a2 a3 a4 u1 u2 dc dr b3 b4 L M) := HSX.out.nul k11
        have HDf : Hid (w11.heap[D]? = some (.deferred (some []))) := (k11.block D (Array.getElem?_eq_some_iff.1 HDX.out).1 (fun x => x)).trans HDX.out
        clear k11 HEm HSX HDX
        cases E with
        | false =>
          go_wp2_with (first | (refine wpList_store_var rfl 4 (.tmp 4) (.const (.bool true)) rfl (w.heap.size + 1) rfl (.bool true) rfl rfl 4 (.bool false) HSY.out.c4 (by kernel_rfl) ?_; intro Y hbY hkY) | fail)
          have HSV0 : Hid (Kp w w11 Nul) := HSY.out.kp
          have hne : ¬ w.heap.size + 1 = D := by have := HDD.out; omega
          have hD2 : Y.heap[D]? = some (.deferred (some [])) := (hkY.block D (Array.getElem?_eq_some_iff.1 HDf.out).1 (fun e => hne (Eq.symm e))).trans HDf.out
          refine ⟨by simp, .inl ⟨_, _, rfl, run_takeDeferred hD2, ?_⟩⟩
          have q1 : Blk (Y.putObj D (.deferred none)) (w.heap.size + 1) [.bool true] 4 := hbY.kp putObj_self (fun e => hne e)
          refine ⟨_, results_bool rfl rfl q1, rfl, ?_⟩
          exact putObj_kp (HSV0.out.trans' hkY (fun i hi e => by have e' : i = w.heap.size + 1 := e; omega)) (by have := HDD.out; omega)
        | true =>
          have HMv2 : Hid (Calls Tryz.prog 21 #[.pointer (some ⟨ga, 0, none⟩), .agg #[.int .i64 u1, .int .i64 u2, .int .i64 b3, .int .i64 b4], .agg #[.int .i64 a1, .int .i64 a2]] w11 fun e w' => ∃ v u, e = .returned (.tuple #[v, u]) ∧ MvR ((u1, u2), (b3, b4)) (a1, a2) M w11 w' (.tuple #[v, u])) := HMv.out ga M ((u1, u2), (b3, b4)) (a1, a2) w11 HSY.out.gm HOM.out HSY.out.kp
          have l11 := HSY.out.c11.cell (i := 0) rfl
          have z0 := HSY.out.c10.cell (i := 0) rfl
          have z1 := HSY.out.c10.cell (i := 1) rfl
          have z2 := HSY.out.c10.cell (i := 2) rfl
          have z3 := HSY.out.c10.cell (i := 3) rfl
          have q0 := HSY.out.c6.cell (i := 0) rfl
          have q1 := HSY.out.c6.cell (i := 1) rfl
          go_wp2_with fail
          clear l11 z0 z1 z2 z3 q0 q1
          refine HMv2.out.mono ?_
          rintro e w12 ⟨v, u, rfl, hR⟩
          have hTo : mvTo ((u1, u2), (b3, b4)) (a1, a2) = ((a1, a2), (a3, a4)) := by
            have hB := HBB.out
            unfold mvTo
            simp only [Prod.mk.injEq, true_and]
            omega
          have hfit : fits ((u1, u2), (b3, b4)) (a1, a2) = true := by unfold fits; rw [hTo]; exact HAok.out
          cases hR with
          | bad h _ => exact absurd HMO.out.b h
          | off _ h _ => exact absurd hfit h
          | ok _ _ gb N hbr =>
          have HBr2 : Br (mvF ((u1, u2), (b3, b4)) ((a1, a2), (a3, a4))) M N := by have h := br_of' hbr; rw [hTo] at h; exact h
          have hEq := eqC_true (there_eq HMO.out HOk.out HOn.out HEE.out HBr.out HBr2)
          have hLo := there_lost HMO.out HOk.out HOn.out HEE.out HBr.out HBr2
          have KM : Kp w11 w12 Nul := hbr.kp
          have HSZ : Hid (MtS w w12 w1.heap.size w3.heap.size (w3.heap.size + 1) (w3.heap.size + 1 + 1) (w3.heap.size + 1 + 1 + 1) p10 w6.heap.size g ga a1 a2 a3 a4 u1 u2 dc dr b3 b4 L M) := HSY.out.nul KM
          have HGB : Hid (GI 0 w12 gb N) := GridIn.mono hbr.gi (fun _ _ => Nat.zero_le _)
          have HOB : Hid (Ok17 N) := hbr.ok
          have HDZ : Hid (w12.heap[D]? = some (.deferred (some []))) := (KM.block D (Array.getElem?_eq_some_iff.1 HDf.out).1 (fun x => x)).trans HDf.out
          clear HDf
          have HDf : Hid (w12.heap[D]? = some (.deferred (some []))) := HDZ.out
          have hn5 : ¬ w1.heap.size = w.heap.size + 1 := blk_ne HSZ.out.c5 HSZ.out.c4
          have hn11 : ¬ w6.heap.size = w.heap.size + 1 := blk_ne HSZ.out.c11 HSZ.out.c4
          have HR5 : Hid (∀ wq, Kp w12 wq (fun i => i = w.heap.size + 1) → wq.cell? ⟨w1.heap.size, 0, none⟩ = some (.pointer (some ⟨g, 0, none⟩))) := fun wq k => (HSZ.out.c5.kp k (fun e => hn5 e)).cell rfl
          have HR11 : Hid (∀ wq, Kp w12 wq (fun i => i = w.heap.size + 1) → wq.cell? ⟨w6.heap.size, 0, none⟩ = some (.pointer (some ⟨ga, 0, none⟩))) := fun wq k => (HSZ.out.c11.kp k (fun e => hn11 e)).cell rfl
          have HNb : Hid (∀ wq, (binOp .neq 29 (.pointer (some ⟨gb, 0, none⟩)) (.pointer none)).run Tryz.prog wq = .ok (.bool true) wq) := ne_ptr'' gb
          have HEq : Hid (∀ wq, Kp w12 wq Nul → Calls Tryz.prog 18 #[.pointer (some ⟨gb, 0, none⟩), .pointer (some ⟨g, 0, none⟩)] wq fun e w' => e = .returned (.bool true) ∧ Kp wq w' Nul) := fun wq k => by
            have h := equal_at gb g N L wq (HGB.out.kp k) (HSZ.out.gi.kp k) HOB.out.okC HOk.out.okC
            rw [hEq] at h
            exact h
          have HLM : Hid (∀ wq, Kp w12 wq Nul → Calls Tryz.prog 22 #[.pointer (some ⟨ga, 0, none⟩)] wq fun e w' => e = .returned (.int .i64 (n2 : Nat)) ∧ Kp wq w' Nul) := fun wq k => by have h := lost22_at ga M wq (HSZ.out.gm.kp k) HOM.out; rw [hLo, HNN.out.2] at h; exact h
          have HLL : Hid (∀ wq, Kp w12 wq Nul → Calls Tryz.prog 22 #[.pointer (some ⟨g, 0, none⟩)] wq fun e w' => e = .returned (.int .i64 (n2 : Nat)) ∧ Kp wq w' Nul) := fun wq k => by have h := lost22_at g L wq (HSZ.out.gi.kp k) HOk.out; rw [HNN.out.2] at h; exact h
          have HB4 : Hid (Blk w12 (w.heap.size + 1) [.bool false] 4) := HSZ.out.c4
          have HSV0 : Hid (Kp w w12 Nul) := HSZ.out.kp
          clear hn5 hn11 HBr2 hEq hLo KM HSZ HGB HOB HDZ hbr hTo hfit HSY HMv HMv2
          go_wp2_with fail
          refine wp_region_noPanic ?_
          refine wp_region_hel (fun w' : World => Kp w12 w' (fun i => i = w.heap.size + 1)) (by kernel_rfl) ((Kp.refl _ _).drew) (fun hHeld => ?_)
          refine wpH_takes (i := 0) (v := .int .i64 0) (some 131) rfl rfl (by kernel_rfl) (by kernel_rfl) (by kernel_rfl) (fun _ _ _ h => h) (Or.inl ⟨by rfl, ?_⟩) hHeld ?_
          · intro w' hSw; clear hSw; go_simp
          simp only [Act.put, List.setIfInBounds_toArray, List.set_cons_zero, List.set_cons_succ]
          refine wpH_takes (i := 1) (v := .bool true) (some 132) rfl rfl (by kernel_rfl) (by kernel_rfl) (by kernel_rfl) (fun _ _ _ h => h) (Or.inl ⟨by rfl, ?_⟩) hHeld ?_
          · intro w' hSw; clear hSw; go_simp
          simp only [Act.put, List.setIfInBounds_toArray, List.set_cons_zero, List.set_cons_succ]
          refine wpH_takes (i := 2) (v := .bool true) (some 133) rfl rfl (by kernel_rfl) (by kernel_rfl) (by kernel_rfl) (fun _ _ _ h => h) (Or.inl ⟨by rfl, ?_⟩) hHeld ?_
          · intro w' hSw; clear hSw; go_simp
          simp only [Act.put, List.setIfInBounds_toArray, List.set_cons_zero, List.set_cons_succ]
          refine wpH_takes (i := 3) (v := .pointer (some ⟨gb, 0, none⟩)) (some 134) rfl rfl (by kernel_rfl) (by kernel_rfl) (by kernel_rfl) (fun _ _ _ h => h) (Or.inl ⟨by rfl, ?_⟩) hHeld ?_
          · intro w' hSw; clear hSw; go_simp
          simp only [Act.put, List.setIfInBounds_toArray, List.set_cons_zero, List.set_cons_succ]
          refine wpH_takes (i := 4) (v := .bool true) (some 135) rfl rfl (by kernel_rfl) (by kernel_rfl) (by kernel_rfl) (fun _ _ _ h => h) (Or.inl ⟨by rfl, ?_⟩) hHeld ?_
          · intro w' hSw; have s0 := HNb.out; clear hSw; go_simp
          simp only [Act.put, List.setIfInBounds_toArray, List.set_cons_zero, List.set_cons_succ]
          refine wpH_takes (i := 5) (v := .bool true) (some 136) rfl rfl (by kernel_rfl) (by kernel_rfl) (by kernel_rfl) (fun _ _ _ h => h) (Or.inl ⟨by rfl, ?_⟩) hHeld ?_
          · intro w' hSw; clear hSw; go_simp
          simp only [Act.put, List.setIfInBounds_toArray, List.set_cons_zero, List.set_cons_succ]
          refine wpH_takes (i := 6) (v := .bool true) (some 137) rfl rfl (by kernel_rfl) (by kernel_rfl) (by kernel_rfl) (fun _ _ _ h => h) (Or.inl ⟨by rfl, ?_⟩) hHeld ?_
          · intro w' hSw; clear hSw; go_simp
          simp only [Act.put, List.setIfInBounds_toArray, List.set_cons_zero, List.set_cons_succ]
          refine wpH_takes (i := 7) (v := .pointer (some ⟨gb, 0, none⟩)) (some 138) rfl rfl (by kernel_rfl) (by kernel_rfl) (by kernel_rfl) (fun _ _ _ h => h) (Or.inl ⟨by rfl, ?_⟩) hHeld ?_
          · intro w' hSw; clear hSw; go_simp
          simp only [Act.put, List.setIfInBounds_toArray, List.set_cons_zero, List.set_cons_succ]
          refine wpH_takes (i := 8) (v := .pointer (some ⟨g, 0, none⟩)) (some 139) rfl rfl (by kernel_rfl) (by kernel_rfl) (by kernel_rfl) (fun _ _ _ h => h) (Or.inl ⟨by rfl, ?_⟩) hHeld ?_
          · intro w' hSw; have s0 := HR5.out w' hSw; clear hSw; go_simp
          simp only [Act.put, List.setIfInBounds_toArray, List.set_cons_zero, List.set_cons_succ]
          refine wpH_stepG (i := 9) (by kernel_rfl) rfl (by rfl) (fun K hK => ?_)
          go_simp
          refine (HEq.out _ (Kp.refl w12 Nul).drew).mono ?_
          rintro e x1 ⟨rfl, hk2⟩
          have E1 : Hid (Kp w12 x1 Nul) := (Kp.refl w12 Nul).drew.trans hk2
          refine hK.out _ _ ((E1.out).of_nul) (fun hHeld => ?_)
          clear hK K hk2
          (try simp only [Act.put, List.setIfInBounds_toArray, List.set_cons_zero, List.set_cons_succ])
          refine wpH_takes (i := 10) (v := .bool true) (some 141) rfl rfl (by kernel_rfl) (by kernel_rfl) (by kernel_rfl) (fun _ _ _ h => h) (Or.inl ⟨by rfl, ?_⟩) hHeld ?_
          · intro w' hSw; clear hSw; go_simp
          simp only [Act.put, List.setIfInBounds_toArray, List.set_cons_zero, List.set_cons_succ]
          refine wpH_takes (i := 11) (v := .bool true) (some 142) rfl rfl (by kernel_rfl) (by kernel_rfl) (by kernel_rfl) (fun _ _ _ h => h) (Or.inl ⟨by rfl, ?_⟩) hHeld ?_
          · intro w' hSw; clear hSw; go_simp
          simp only [Act.put, List.setIfInBounds_toArray, List.set_cons_zero, List.set_cons_succ]
          refine wpH_takes (i := 12) (v := .pointer (some ⟨ga, 0, none⟩)) (some 143) rfl rfl (by kernel_rfl) (by kernel_rfl) (by kernel_rfl) (fun _ _ _ h => h) (Or.inl ⟨by rfl, ?_⟩) hHeld ?_
          · intro w' hSw; have s0 := HR11.out w' hSw; clear hSw; go_simp
          simp only [Act.put, List.setIfInBounds_toArray, List.set_cons_zero, List.set_cons_succ]
          refine wpH_takes (i := 14) (v := .pointer (some ⟨g, 0, none⟩)) (some 145) rfl rfl (by kernel_rfl) (by kernel_rfl) (by kernel_rfl) (fun _ _ _ h => h) (Or.inl ⟨by rfl, ?_⟩) hHeld ?_
          · intro w' hSw; have s0 := HR5.out w' hSw; clear hSw; go_simp
          simp only [Act.put, List.setIfInBounds_toArray, List.set_cons_zero, List.set_cons_succ]
          refine wpH_stepG (i := 13) (by kernel_rfl) rfl (by rfl) (fun K hK => ?_)
          go_simp
          refine (HLM.out _ E1.out).mono ?_
          rintro e x2 ⟨rfl, hk2⟩
          have E2 : Hid (Kp w12 x2 Nul) := E1.out.trans hk2
          refine hK.out _ _ ((E2.out).of_nul) (fun hHeld => ?_)
          clear hK K hk2
          (try simp only [Act.put, List.setIfInBounds_toArray, List.set_cons_zero, List.set_cons_succ])
          refine wpH_stepG (i := 15) (by kernel_rfl) rfl (by rfl) (fun K hK => ?_)
          go_simp
          refine (HLL.out _ E2.out).mono ?_
          rintro e x3 ⟨rfl, hk2⟩
          have E3 : Hid (Kp w12 x3 Nul) := E2.out.trans hk2
          refine hK.out _ _ ((E3.out).of_nul) (fun hHeld => ?_)
          clear hK K hk2
          (try simp only [Act.put, List.setIfInBounds_toArray, List.set_cons_zero, List.set_cons_succ])
          refine wpH_takes (i := 16) (v := .bool true) (some 147) rfl rfl (by kernel_rfl) (by kernel_rfl) (by kernel_rfl) (fun _ _ _ h => h) (Or.inl ⟨by rfl, ?_⟩) hHeld ?_
          · intro w' hSw; clear hSw; go_simp
          simp only [Act.put, List.setIfInBounds_toArray, List.set_cons_zero, List.set_cons_succ]
          refine wpH_takes (i := 17) (v := .bool true) (some 148) rfl rfl (by kernel_rfl) (by kernel_rfl) (by kernel_rfl) (fun _ _ _ h => h) (Or.inl ⟨by rfl, ?_⟩) hHeld ?_
          · intro w' hSw; clear hSw; go_simp
          simp only [Act.put, List.setIfInBounds_toArray, List.set_cons_zero, List.set_cons_succ]
          refine wpH_step (i := 18) (by kernel_rfl) rfl rfl (fun K hK => ?_)
          refine wp_store_var 4 (.tmp 4) (.tmp 148) rfl (w.heap.size + 1) rfl (.bool true) rfl rfl 4 (.bool false) (HB4.out.kp E3.out (fun x => x)) (by kernel_rfl) ?_
          intro Y hbY hkY
          have HBY : Hid (Blk Y (w.heap.size + 1) [.bool true] 4) := hbY
          have HKY : Hid (Kp w12 Y (fun i => i = w.heap.size + 1)) := E3.out.of_nul.trans hkY
          refine hK.out _ _ HKY.out (fun _ => ?_)
          clear hK K hbY hkY hHeld
          (try simp only [Act.put])
          refine wpAnyH_done (by kernel_rfl) ?_ _
          refine NoPanic.normal ?_
          go_wp2_with fail
          have hne : ¬ w.heap.size + 1 = D := by have := HDD.out; omega
          have hD2 : Y.heap[D]? = some (.deferred (some [])) := (HKY.out.block D (Array.getElem?_eq_some_iff.1 HDf.out).1 (fun e => hne (Eq.symm e))).trans HDf.out
          refine ⟨by simp, .inl ⟨_, _, rfl, run_takeDeferred hD2, ?_⟩⟩
          have q1 : Blk (Y.putObj D (.deferred none)) (w.heap.size + 1) [.bool true] 4 := HBY.out.kp putObj_self (fun e => hne e)
          refine ⟨_, results_bool rfl rfl q1, rfl, ?_⟩
          exact putObj_kp (HSV0.out.trans' HKY.out (fun i hi e => by have e' : i = w.heap.size + 1 := e; omega)) (by have := HDD.out; omega)
end Go.Proofs.YtdaoingmiabbcaaGreatDoor
