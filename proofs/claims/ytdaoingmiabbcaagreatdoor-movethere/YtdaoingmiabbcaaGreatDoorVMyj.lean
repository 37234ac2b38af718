/- The law's empty: has a grid nothing in an area, and does no formula name one of its cells? -/
import Derived.Test.YtdaoingmiabbcaaGreatDoorVMxe
import Derived.Test.YtdaoingmiabbcaaGreatDoorVDd
namespace Go.Proofs.YtdaoingmiabbcaaGreatDoor
open Go.RowKit Go.Maps Go.Sort Go.Lib Go.Shelf
attribute [local go_sem] Oper.semAt_some

mutual
theorem hit_pre (B : Ar4) : ∀ t : Nd, hitN B t = (preN t).any (hitH B)
  | .mk h ts => by rw [hitN, preN, List.any_cons, hitL_pre B ts]
theorem hitL_pre (B : Ar4) : ∀ ts : List Nd, hitL B ts = (preL ts).any (hitH B)
  | [] => by rw [hitL, preL]; rfl
  | t :: ts => by rw [hitL, preL, List.any_append, hit_pre B t, hitL_pre B ts]
end
mutual
theorem hit_cpy (B : Ar4) : ∀ t : Nd, hitN B (cpy t) = hitN B t
  | .mk h ts => by rw [cpy, hitN, hitN, hitL_cpy B ts]; rfl
theorem hitL_cpy (B : Ar4) : ∀ ts : List Nd, hitL B (cpyL ts) = hitL B ts
  | [] => by rw [cpyL]
  | t :: ts => by rw [cpyL, hitL, hitL, hit_cpy B t, hitL_cpy B ts]
end
theorem hit_none {B : Ar4} {t : Nd} (h : ∀ x ∈ (preN (cpy t)).take t.size, hitH B x = false) : hitN B t = false := by
  rw [← hit_cpy, hit_pre]
  rw [List.take_of_length_le (by rw [preN_len, cpy_size]; exact Nat.le_refl _)] at h
  rw [List.any_eq_false]
  intro x hx q
  rw [h x hx] at q
  cases q
theorem hit_some {B : Ar4} {t : Nd} {k : Nat} {x : Hd} (hx : (preN (cpy t))[k]? = some x) (h : hitH B x = true) : hitN B t = true := by
  rw [← hit_cpy, hit_pre, List.any_eq_true]
  exact ⟨x, List.mem_of_getElem? hx, h⟩
/-- Where the variables lie: the area, the result. -/
structure EmC (w V : World) (B : Ar4) (r : Bool) : Prop where
  c : Blk V w.heap.size [.int .i64 B.1.1, .int .i64 B.1.2, .int .i64 B.2.1, .int .i64 B.2.2] 26
  r' : Blk V (w.heap.size + 1) [.bool r] 4
theorem EmC.kp {w V V' : World} {B : Ar4} {r : Bool} {S : Nat → Prop} (h : EmC w V B r) (k : Kp V V' S) (hS : ∀ i, w.heap.size ≤ i → i ≤ w.heap.size + 1 → ¬ S i) : EmC w V' B r :=
  ⟨h.c.kp k (hS _ (by omega) (by omega)), h.r'.kp k (hS _ (by omega) (by omega))⟩
structure EmI (w : World) (B : Ar4) (K : List Cc) (j : Nat) (Z : Nat → Prop) (V : World) : Prop where
  cs : EmC w V B false
  z : ∀ i, Z i ↔ i = w.heap.size + 1
  kp : Kp w V Nul
  no : ∀ x ∈ K.take j, inB B x.1 = false ∧ hitN B x.2.t = false
theorem meet_val (a b c d a' b' c' d' : Int) : ∃ m1 m2 m3 m4 : Int, mtV a b c d a' b' c' d' = .agg #[.int .i64 m1, .int .i64 m2, .int .i64 m3, .int .i64 m4] := by
  unfold mtV areaV
  split
  · exact ⟨_, _, _, _, rfl⟩
  · exact ⟨_, _, _, _, rfl⟩
set_option maxRecDepth 20000 in
set_option maxHeartbeats 16000000 in
theorem empty22_at (g : Nat) (L : List Cc) (B : Ar4) (w : World) (hg : GI 0 w g L) (hok : Ok17 L) :
    Calls Tryz.prog 23 #[.pointer (some ⟨g, 0, none⟩), .agg #[.int .i64 B.1.1, .int .i64 B.1.2, .int .i64 B.2.1, .int .i64 B.2.2]] w fun e w' => e = .returned (.bool (emptyS B L)) ∧ Kp w w' Nul := by
  obtain ⟨W1, hW1⟩ : ∃ W1, (w.alloc (.cells #[.int .i64 B.1.1, .int .i64 B.1.2, .int .i64 B.2.1, .int .i64 B.2.2] 26)).alloc (.cells #[.bool false] 4) = W1 := ⟨_, rfl⟩
  have k1 : Kp w W1 Nul := by rw [← hW1]; exact ((Kp.refl w Nul).alloc _).alloc _
  have s1 : W1.heap.size = w.heap.size + 2 := by rw [← hW1, World.size_alloc, World.size_alloc]
  have c1 : EmC w W1 B false := ⟨by rw [← hW1]; exact (Blk.new w [.int .i64 B.1.1, .int .i64 B.1.2, .int .i64 B.2.1, .int .i64 B.2.2] _).alloc _, by rw [← hW1]; exact blk2⟩
  have HW1 : Hid ((w.alloc (.cells #[.int .i64 B.1.1, .int .i64 B.1.2, .int .i64 B.2.1, .int .i64 B.2.2] 26)).alloc (.cells #[.bool false] 4) = W1) := hW1
  have HAll : Hid (Calls Tryz.prog 19 #[.pointer (some ⟨g, 0, none⟩)] W1 fun e w' => ∃ x0 x1, e = .returned (.func (.func 61) #[] #[.pointer (some ⟨x0, 0, none⟩), .pointer (some ⟨x1, 0, none⟩)]) ∧ Blk w' x0 [.pointer (some ⟨g, 0, none⟩)] 29 ∧ Blk w' x1 [.int .i64 1, .int .i64 1, .int .i64 256, .int .i64 4096] 26 ∧ Kp W1 w' Nul) := all22 g W1
  have HIn : Hid (∀ c s wq, Calls Tryz.prog 14 #[.agg #[.int .i64 B.1.1, .int .i64 B.1.2, .int .i64 B.2.1, .int .i64 B.2.2], .agg #[.int .i64 c, .int .i64 s]] wq fun e w' => e = .returned (.bool (inB B (c, s))) ∧ Kp wq w' Nul) := fun c s wq => (pIn_any _ _ _ _ c s wq).mono fun e w' h => ⟨h.1, Kp.of_gr h.2⟩
  have HMt : Hid (∀ c r d s wq, Calls Tryz.prog 51 #[.agg #[.int .i64 B.1.1, .int .i64 B.1.2, .int .i64 B.2.1, .int .i64 B.2.2], .agg #[.int .i64 c, .int .i64 r, .int .i64 d, .int .i64 s]] wq fun e w' => ∃ m1 m2 m3 m4 : Int, e = .returned (.tuple #[.agg #[.int .i64 m1, .int .i64 m2, .int .i64 m3, .int .i64 m4], .bool (mtO B.1.1 B.1.2 B.2.1 B.2.2 c r d s)]) ∧ Kp wq w' Nul) := fun c r d s wq => (pMeet_any _ _ _ _ c r d s wq).mono fun e w' h => by
    obtain ⟨m1, m2, m3, m4, hm⟩ := meet_val B.1.1 B.1.2 B.2.1 B.2.2 c r d s
    refine ⟨m1, m2, m3, m4, ?_, Kp.of_gr h.2⟩
    rw [h.1, hm]
  have HOk : Hid (Ok17 L) := hok
  have HG : Hid (GI 0 w g L) := hg
  clear hW1 hg hok
  refine (callsIn_wide (n := 12)).1 ?_
  refine callsIn_of_wp_marks Tryz.func23 rfl trivial ?_ rfl
  simp only [Tryz.ntmps23, List.size_toArray, List.length_cons, List.length_nil, Nat.reduceAdd, Nat.reduceSub, Array.replicate_succ, Array.replicate_zero, List.push_toArray, List.append_toArray, List.nil_append, List.cons_append]
  refine wpIn_wide.2 ?_
  go_wp2_with fail
  rw [HW1.out]
  clear HW1
  refine HAll.out.mono ?_
  rintro e w6 ⟨x0, x1, rfl, hb0, hb1, hk6⟩
  have c6 : EmC w w6 B false := c1.kp hk6 (fun _ _ _ x => x)
  have k6 : Kp w w6 Nul := k1.trans hk6
  have hs6 : w.heap.size + 2 ≤ w6.heap.size := by have := hk6.size; omega
  have HX0 : Hid (Blk w6 x0 [.pointer (some ⟨g, 0, none⟩)] 29) := hb0
  have HX1 : Hid (Blk w6 x1 [.int .i64 1, .int .i64 1, .int .i64 256, .int .i64 4096] 26) := hb1
  clear hb0 hb1 hk6 HAll c1 k1 s1
  go_wp2_with fail
  obtain ⟨K, hKs, hKm⟩ := in_order HG.out.once
  have HKm : Hid (∀ x, x ∈ K ↔ x ∈ L) := hKm
  have HKs : Hid (Strict (K.map (·.1))) := hKs
  have HI0 : EmI w B K 0 (fun i => i = w.heap.size + 1) w6 := ⟨c6, fun i => Iff.rfl, k6, fun x hx => by rw [List.take_zero] at hx; simp at hx⟩
  have hgA : GridIn w6 (fun b => b < w.heap.size) g L := HG.out.low.kp k6
  clear hKs hKm c6
  generalize hact : Act.mk _ _ = a0
  refine wp_range_ow3 (α := (Cc × Value) × List Nat) (N := K.length) (gf := 61) (lb := #[.pointer (some ⟨x0, 0, none⟩), .pointer (some ⟨x1, 0, none⟩)]) (by rw [← hact]; rfl) (enters_of Tryz.func61 (by kernel_rfl) rfl) (encs := encQ) wtQ (fun _ => rfl) (TellQ w6 K) ?hT (fun i => i = w.heap.size + 1) ?hseq (fun j Z W => EmI w B K j Z W) ?hZ ?hZl ?hI (fun V => Blk V (w.heap.size + 1) [.bool false] 4 ∧ Kp w V Nul ∧ emptyS B L = false) ?hIx (fun i => i = w.heap.size + 1) ?h0 ?hround ?hdone ?hstop
  case hT => rintro k x Z W ⟨_, _, _, h⟩; exact ⟨fun q => by have := (h _ q).1; omega, fun q => by have := (h _ q).1; omega⟩
  case hseq => exact in1_seq3 g x0 x1 w.heap.size L K w6 _ (HG.out.kp k6) hgA HOk.out.gd HOk.out.at' HOk.out.len HKs.out HKm.out k6.size (fun i e => by have e' : i = w.heap.size + 1 := e; omega) HX0.out HX1.out
  case hZ =>
    intro j Z W h
    exact ⟨fun q => by have := (h.z _).1 q; omega, fun q => by have := (h.z _).1 q; omega⟩
  case hZl =>
    intro j Z W h
    exact ⟨fun i hi => by have := (h.z _).1 hi; have h2 := h.cs.r'.lt; omega, fun i _ hi => (h.z _).1 hi⟩
  case hI =>
    intro j Z W W' h q
    exact ⟨h.cs.kp q (fun i h1 h2 e => by rcases e with e | e <;> omega), h.z, h.kp.trans' q (fun i hi e => by rcases e with e | e <;> omega), h.no⟩
  case hIx =>
    rintro W W' ⟨h1, h2, h3⟩ q
    exact ⟨h1.kp q (fun e => by rcases e with e | e <;> omega), h2.trans' q (fun i hi e => by rcases e with e | e <;> omega), h3⟩
  case h0 => exact HI0
  case hround =>
    subst hact
    rintro j ⟨⟨⟨⟨c, s⟩, a⟩, sl⟩, fp⟩ Z W KK hkN hsW hI ⟨hKk, hown, hnd, hfz⟩ hcont
    have O1 : Hid (sl.oneCell' = true) := hown.one
    have hmem : ((c, s), a) ∈ L := (HKm.out _).1 (List.mem_of_getElem? hKk)
    have HGd : Hid (Gd a) := HOk.out.gd _ hmem
    have HMm : Hid (((c, s), a) ∈ L) := hmem
    have HKk : Hid (K[j]? = some ((c, s), a)) := hKk
    have HIj : Hid (EmI w B K j Z W) := hI
    have HOwn : Hid (NdOwn W sl a.t fp) := hown
    have HFz : Hid (∀ i ∈ fp, w6.heap.size + 2 ≤ i ∧ ¬ Z i) := hfz
    have HSW : Hid (w6.heap.size + 2 ≤ W.heap.size ∧ w.heap.size + 2 ≤ w6.heap.size) := ⟨hsW, hs6⟩
    clear hI hKk hown hnd hfz hmem HX0 HX1 HI0 hgA k6 HG
    simp only [List.zip_toArray, List.zip_cons_cons, List.zip_nil_right, List.foldl_toArray', List.foldl_cons, List.foldl_nil]
    gi_wp2_with (first
      | (refine storeIn_new' rfl 51 (.tmp 6) (.tmp 13) rfl _ _ _ _ (by first | rfl | simp) rfl rfl rfl infoContent (a.one O1.out) ?_)
      | fail)
    refine hcont _ _ (((Kp.refl W Nul).alloc _).alloc _) (fun V0 hV hloop => ?_)
    have hW2 : Kp W ((W.alloc (.cells #[.int .i64 c, .int .i64 s] 24)).alloc (.cells (a.cells sl).toArray 51)) Nul := ((Kp.refl W Nul).alloc _).alloc _
    have hWV : Kp W V0 (fun i => i = w6.heap.size + 1) := (hW2.mono (fun _ _ q => q.elim)).trans hV
    have HC0 : Hid (EmC w V0 B false) := HIj.out.cs.kp hWV (fun i h1 h2 e => by have e' : i = w6.heap.size + 1 := e; omega)
    have HK0 : Hid (Kp w V0 Nul) := HIj.out.kp.trans' hWV (fun i hi e => by have e' : i = w6.heap.size + 1 := e; omega)
    have HbA : Hid (Blk V0 W.heap.size [.int .i64 c, .int .i64 s] 24) := ((Blk.new W [.int .i64 c, .int .i64 s] 24).alloc _).kp hV (fun e => by have e' : W.heap.size = w6.heap.size + 1 := e; have := HSW.out; omega)
    have HbC0 : Hid (Blk V0 (W.heap.size + 1) (a.cells sl) 51) := blk2.kp hV (fun e => by have e' : W.heap.size + 1 = w6.heap.size + 1 := e; have := HSW.out; omega)
    have HOwn0 : Hid (NdOwn V0 sl a.t fp) := HOwn.out.mono (fun i hi => hWV.block i (node_lt (HOwn.out.node i hi)) (fun e => by have e' : i = w6.heap.size + 1 := e; have := (HFz.out i hi).1; omega))
    obtain ⟨rl, hrl⟩ := hloop
    have HLp0 : Hid (V0.heap[w6.heap.size + 1]? = some (.loop rl)) := hrl
    have y0 : V0.cell? ⟨w.heap.size, 0, none⟩ = some (.int .i64 B.1.1) := HC0.out.c.cell rfl
    have y1 : V0.cell? ⟨w.heap.size, 1, none⟩ = some (.int .i64 B.1.2) := HC0.out.c.cell rfl
    have y2 : V0.cell? ⟨w.heap.size, 2, none⟩ = some (.int .i64 B.2.1) := HC0.out.c.cell rfl
    have y3 : V0.cell? ⟨w.heap.size, 3, none⟩ = some (.int .i64 B.2.2) := HC0.out.c.cell rfl
    have z0 : V0.cell? ⟨W.heap.size, 0, none⟩ = some (.int .i64 c) := HbA.out.cell rfl
    have z1 : V0.cell? ⟨W.heap.size, 1, none⟩ = some (.int .i64 s) := HbA.out.cell rfl
    clear hcont hV hWV hW2 hrl hsW
    gi_wp2_with fail
    refine ⟨trivial, CallsIn.inRound _ ((callsIn_wide.2 (HIn.out c s V0)).mono ?_)⟩
    rintro e V ⟨rfl, hkV⟩
    have HV0 : Hid (Kp V0 V Nul) := hkV
    have HCV : Hid (EmC w V B false) := HC0.out.kp hkV (fun _ _ _ x => x)
    have HKV : Hid (Kp w V Nul) := HK0.out.trans hkV
    have HbC : Hid (Blk V (W.heap.size + 1) (a.cells sl) 51) := HbC0.out.kp hkV (fun x => x)
    have HOwnV : Hid (NdOwn V sl a.t fp) := HOwn0.out.mono (fun i hi => hkV.block i (node_lt (HOwn0.out.node i hi)) (fun x => x))
    have HLp : Hid (V.heap[w6.heap.size + 1]? = some (.loop rl)) := (hkV.block _ (Array.getElem?_eq_some_iff.1 HLp0.out).1 (fun x => x)).trans HLp0.out
    have HWs : Hid (W.heap.size + 1 < V.heap.size) := HbC.out.lt
    clear hkV y0 y1 y2 y3 z0 z1 HC0 HK0 HbA HbC0 HOwn0 HLp0
    have HNd : Hid (Calls Tryz.prog 50 #[.agg (a.t.hd.cells sl).toArray] V fun e w' => ∃ nb sl' fp, e = .returned (.func (.func 57) #[] #[.pointer (some ⟨nb, 0, none⟩)]) ∧ NdsK V w' a.t nb sl' fp) := lNodes_at a.t sl (fun _ => True) V (by have := HGd.out.size; omega) HGd.out.ok (HOwnV.out.isIn (fun _ _ => trivial))
    obtain ⟨ib, hib⟩ : ∃ ib, inB B (c, s) = ib := ⟨_, rfl⟩
    have HIb : Hid (inB B (c, s) = ib) := hib
    rw [hib]
    clear hib
    cases ib
    rotate_left
    · have y6 : V.cell? ⟨w.heap.size + 1, 0, none⟩ = some (.bool false) := HCV.out.r'.cell rfl
      have f6 : V.frozen? ⟨w.heap.size + 1, 0, none⟩ = false := HCV.out.r'.froz _
      have HEm : Hid (emptyS B L = false) := by
        show _ = _
        unfold emptyS
        simp only [Bool.not_eq_false']
        rw [List.any_eq_true]
        exact ⟨_, HMm.out, by rw [HIb.out]; rfl⟩
      have HEnd : Hid ((Kp V0 (V.setCell ⟨w.heap.size + 1, 0, none⟩ (.bool false)) (fun i => (Z i ∨ wtQ ((((c, s), a), sl), fp) i) ∨ W.heap.size ≤ i)) ∧ Blk (V.setCell ⟨w.heap.size + 1, 0, none⟩ (.bool false)) (w.heap.size + 1) [.bool false] 4 ∧ Kp w (V.setCell ⟨w.heap.size + 1, 0, none⟩ (.bool false)) Nul ∧ emptyS B L = false) := ⟨(HV0.out.of_nul.setCell _ _ (.inr (.inl (.inl ((HIj.out.z _).2 rfl))))), HCV.out.r'.set 0 _, HKV.out.setCell _ _ (.inl (by show w.heap.size ≤ w.heap.size + 1; omega)), HEm.out⟩
      gi_wp2_with fail
      first
      | exact HEnd.out
      | exact .inr HEnd.out
      | (trace_state; sorry)
    gi_wp2_with (first
      | (refine loadIn_row rfl 49 (.tmp 17) rfl (W.heap.size + 1) 6 rfl (a.t.hd.cells sl) _ (ct_row6 HbC.out) Tryz.underlying49 rfl infoNode ?_)
      | fail)
    refine ⟨trivial, CallsIn.inRound _ ((callsIn_wide.2 HNd.out).mono ?_)⟩
    rintro e wi ⟨nb, sl', fp', rfl, hNK⟩
    gi_wp2_with (fail)
    have hVi : V.heap.size ≤ wi.heap.size := hNK.kp.size
    have hWs := HWs.out
    have hSW := HSW.out
    have hCi : EmC w wi B false := HCV.out.kp hNK.kp (fun _ _ _ x => x)
    have hl0 : wi.heap[w6.heap.size + 1]? = some (.loop rl) := (hNK.kp.block _ (Array.getElem?_eq_some_iff.1 HLp.out).1 (fun x => x)).trans HLp.out
    generalize hact2 : Act.mk _ _ = a1
    refine wpIn_range_in hl0 (by decide) (α := Hd) (N := a.t.size) (gf := 57) (lb := #[.pointer (some ⟨nb, 0, none⟩)]) (by rw [← hact2]; rfl) (enters_of Tryz.func57 (by kernel_rfl) rfl)
      (encs := fun x => #[x.val (.slice none 0 0)]) (fun _ => rfl) (fun k x => (preN (cpy a.t))[k]? = some x) (fun i => i = w.heap.size + 1) (fun i h => by have h' : i = w.heap.size + 1 := h; omega)
      ?hseq2
      (fun k U => EmC w U B false ∧ Kp V U Nul ∧ ∀ y ∈ (preN (cpy a.t)).take k, hitH B y = false)
      (fun U => Blk U (w.heap.size + 1) [.bool false] 4 ∧ Kp V U (fun i => i = w.heap.size + 1) ∧ hitN B a.t = true)
      ?hI2 ?hIx2 ⟨hCi, hNK.kp, fun y hy => by rw [List.take_zero] at hy; simp at hy⟩ ?hround2 ?hdone2 ?hstop2
    case hseq2 =>
      intro J Jx Wq hk' hsz' hJ' hJx' hY' h0'
      exact nodes1_seq wi.heap.size (wi.heap.size + 1) a.t nb sl' fp' wi hNK.blk hNK.own.own (fun i => i = w.heap.size + 1) (fun i h => by have h' : i = w.heap.size + 1 := h; omega) (fun b hb e => by
        have e' : b = w.heap.size + 1 := e
        rcases hb with hb | hb
        · have := hNK.new; omega
        · have := (hNK.own.new b hb).1; omega) (Nat.le_refl _) (Nat.lt_succ_self _) J Jx Wq hk' hsz' hJ' hJx' hY' h0'
    case hI2 =>
      rintro k U U' ⟨q1, q2, q3⟩ hk
      exact ⟨q1.kp hk (fun i h1 h2 e => by have e' : wi.heap.size ≤ i := e; omega), q2.trans' hk (fun i hi e => by have e' : wi.heap.size ≤ i := e; omega), q3⟩
    case hIx2 =>
      rintro U U' ⟨q1, q2, q3⟩ hk
      exact ⟨q1.kp hk (fun e => by have e' : wi.heap.size ≤ w.heap.size + 1 := e; omega), q2.trans' hk (fun i hi e => by have e' : wi.heap.size ≤ i := e; omega), q3⟩
    case hround2 =>
      subst hact2
      rintro k x U K' hsU hkN2 hpk ⟨q1, q2, q3⟩ hK'
      simp only [List.zip_toArray, List.zip_cons_cons, List.zip_nil_right, List.foldl_toArray', List.foldl_cons, List.foldl_nil]
      gi_wp2_with (first
        | (refine storeIn_new' rfl 49 (.tmp 7) (.tmp 20) rfl _ _ _ _ (by first | rfl | simp) rfl rfl rfl infoNode (x.one rfl) ?_)
        | fail)
      refine hK' _ _ ((Kp.refl U Nul).alloc _) (fun X hX => ?_)
      have bm : Blk X U.heap.size (x.cells (.slice none 0 0)) 49 := (Blk.new U _ _).kp hX (by show ¬ U.heap.size = wi.heap.size; omega)
      have kUX : Kp U X (fun i => i = wi.heap.size) := ((Kp.refl U _).alloc _).trans hX
      have cX : EmC w X B false := q1.kp kUX (fun i h1 h2 e => by have e' : i = wi.heap.size := e; omega)
      have kX : Kp V X Nul := q2.trans' kUX (fun i hi e => by have e' : i = wi.heap.size := e; omega)
      have HFs : Hid (∀ Y, Kp X Y Nul → (Y.cell? ⟨U.heap.size, 0, none⟩ = some (.int .i64 x.k) ∧ Y.cell? ⟨U.heap.size, 6, none⟩ = some (.int .i64 x.c1) ∧ Y.cell? ⟨U.heap.size, 7, none⟩ = some (.int .i64 x.r1) ∧ Y.cell? ⟨U.heap.size, 10, none⟩ = some (.int .i64 x.c2) ∧ Y.cell? ⟨U.heap.size, 11, none⟩ = some (.int .i64 x.r2)) ∧ (Y.cell? ⟨w.heap.size, 0, none⟩ = some (.int .i64 B.1.1) ∧ Y.cell? ⟨w.heap.size, 1, none⟩ = some (.int .i64 B.1.2) ∧ Y.cell? ⟨w.heap.size, 2, none⟩ = some (.int .i64 B.2.1) ∧ Y.cell? ⟨w.heap.size, 3, none⟩ = some (.int .i64 B.2.2)) ∧ Y.cell? ⟨w.heap.size + 1, 0, none⟩ = some (.bool false) ∧ Y.frozen? ⟨w.heap.size + 1, 0, none⟩ = false) := fun Y q =>
        ⟨⟨(bm.kp q (fun x => x)).cell rfl, (bm.kp q (fun x => x)).cell rfl, (bm.kp q (fun x => x)).cell rfl, (bm.kp q (fun x => x)).cell rfl, (bm.kp q (fun x => x)).cell rfl⟩, ⟨(cX.c.kp q (fun x => x)).cell rfl, (cX.c.kp q (fun x => x)).cell rfl, (cX.c.kp q (fun x => x)).cell rfl, (cX.c.kp q (fun x => x)).cell rfl⟩, (cX.r'.kp q (fun x => x)).cell rfl, (cX.r'.kp q (fun x => x)).froz _⟩
      have HNo : Hid (hitH B x = false → ∀ Y, Kp X Y Nul → Kp X Y (fun i => i = w.heap.size + 1 ∨ U.heap.size ≤ i) ∧ EmC w Y B false ∧ Kp V Y Nul ∧ ∀ y ∈ (preN (cpy a.t)).take (k + 1), hitH B y = false) := fun hq Y q => ⟨q.of_nul, cX.kp q (fun _ _ _ x => x), kX.trans q, take_more hpk q3 hq⟩
      have HYes : Hid (hitH B x = true → ∀ Y, Kp X Y Nul → Kp X (Y.setCell ⟨w.heap.size + 1, 0, none⟩ (.bool false)) (fun i => i = w.heap.size + 1 ∨ U.heap.size ≤ i) ∧ Blk (Y.setCell ⟨w.heap.size + 1, 0, none⟩ (.bool false)) (w.heap.size + 1) [.bool false] 4 ∧ Kp V (Y.setCell ⟨w.heap.size + 1, 0, none⟩ (.bool false)) (fun i => i = w.heap.size + 1) ∧ hitN B a.t = true) := fun hq Y q => ⟨q.of_nul.setCell _ _ (.inr (.inl rfl)), (cX.r'.kp q (fun x => x)).set 0 _, (kX.trans q).of_nul.setCell _ _ (.inr rfl), hit_some hpk hq⟩
      have HLH : Hid (hitH B x = ((x.k == 5 && inB B (x.c1, x.r1)) || (x.k == 6 && mtO B.1.1 B.1.2 B.2.1 B.2.2 x.c1 x.r1 x.c2 x.r2))) := rfl
      clear hK' hX bm kUX cX kX q1 q2 q3 hpk hCi hl0 hNK
      generalize hitH B x = lh at *
      generalize x.k = xk at *
      generalize x.c1 = xc1 at *
      generalize x.r1 = xr1 at *
      generalize x.c2 = xc at *
      generalize x.r2 = xr at *
      have HI5 := HIn.out xc1 xr1
      have HM5 := HMt.out xc1 xr1 xc xr
      generalize inB B (xc1, xr1) = i5 at *
      generalize mtO B.1.1 B.1.2 B.2.1 B.2.2 xc1 xr1 xc xr = m6 at *
      have HI6 : Hid (∀ wq, Calls Tryz.prog 14 #[.agg #[.int .i64 B.1.1, .int .i64 B.1.2, .int .i64 B.2.1, .int .i64 B.2.2], .agg #[.int .i64 xc1, .int .i64 xr1]] wq fun e w' => e = .returned (.bool i5) ∧ Kp wq w' Nul) := HI5
      have HM6 : Hid (∀ wq, Calls Tryz.prog 51 #[.agg #[.int .i64 B.1.1, .int .i64 B.1.2, .int .i64 B.2.1, .int .i64 B.2.2], .agg #[.int .i64 xc1, .int .i64 xr1, .int .i64 xc, .int .i64 xr]] wq fun e w' => ∃ m1 m2 m3 m4 : Int, e = .returned (.tuple #[.agg #[.int .i64 m1, .int .i64 m2, .int .i64 m3, .int .i64 m4], .bool m6]) ∧ Kp wq w' Nul) := HM5
      clear HI5 HM5 HIn HMt
      obtain ⟨⟨e0, e6, e7, e10, e11⟩, ⟨y0, y1, y2, y3⟩, y6, f6⟩ := HFs.out X (Kp.refl _ _)
      by_cases h5 : xk = 5
      · subst h5
        gi_wp2_with fail
        refine ⟨trivial, CallsIn.inRound _ ((callsIn_wide.2 (HI6.out X)).mono ?_)⟩
        rintro e X1 ⟨rfl, hkX1⟩
        have KX1 : Hid (Kp X X1 Nul) := hkX1
        clear hkX1 e0 e6 e7 e10 e11 y0 y1 y2 y3 y6 f6
        obtain ⟨⟨e0, e6, e7, e10, e11⟩, ⟨y0, y1, y2, y3⟩, y6, f6⟩ := HFs.out X1 KX1.out
        cases i5
        · have hlh : lh = false := by rw [HLH.out]; simp
          gi_wp2_with fail
          refine ⟨trivial, CallsIn.inRound _ ((callsIn_wide.2 (HM6.out X1)).mono ?_)⟩
          rintro e X2 ⟨m1, m2, m3, m4, rfl, hkX2⟩
          have KX2 : Hid (Kp X X2 Nul) := KX1.out.trans hkX2
          clear hkX2 e0 e6 e7 e10 e11 y0 y1 y2 y3 y6 f6
          have e0 := (HFs.out (X2.alloc (.cells #[.int .i64 m1, .int .i64 m2, .int .i64 m3, .int .i64 m4] 26)) (KX2.out.alloc _)).1.1
          gi_wp2_with fail
          exact HNo.out hlh _ (KX2.out.alloc _)
        · have hlh : lh = true := by rw [HLH.out]; simp
          gi_wp2_with fail
          exact HYes.out hlh _ KX1.out
      · gi_wp2_with fail
        refine ⟨trivial, ?_⟩
        gi_wp2_with fail
        refine ⟨trivial, CallsIn.inRound _ ((callsIn_wide.2 (HM6.out X)).mono ?_)⟩
        rintro e X2 ⟨m1, m2, m3, m4, rfl, hkX2⟩
        have KX2 : Hid (Kp X X2 Nul) := hkX2
        clear hkX2 e0 e6 e7 e10 e11 y0 y1 y2 y3 y6 f6
        obtain ⟨⟨e0, _⟩, _, y6, f6⟩ := HFs.out (X2.alloc (.cells #[.int .i64 m1, .int .i64 m2, .int .i64 m3, .int .i64 m4] 26)) (KX2.out.alloc _)
        by_cases h6 : xk = 6
        · subst h6
          cases m6
          · have hlh : lh = false := by rw [HLH.out]; simp
            gi_wp2_with fail
            exact HNo.out hlh _ (KX2.out.alloc _)
          · have hlh : lh = true := by rw [HLH.out]; simp
            gi_wp2_with fail
            exact HYes.out hlh _ (KX2.out.alloc _)
        · have hlh : lh = false := by rw [HLH.out]; simp [h5, h6]
          gi_wp2_with fail
          exact HNo.out hlh _ (KX2.out.alloc _)
    case hdone2 =>
      subst hact2
      rintro U ⟨q1, q2, q3⟩
      have hEnd : (Kp V0 U (fun i => (Z i ∨ wtQ ((((c, s), a), sl), fp) i) ∨ W.heap.size ≤ i)) ∧ ∃ Z', EmI w B K (j + 1) Z' U ∧ More Z Z' W := ⟨(HV0.out.trans q2).of_nul, Z, ⟨q1, HIj.out.z, HKV.out.trans q2, take_more HKk.out HIj.out.no ⟨HIb.out, hit_none q3⟩⟩, fun i hi => .inl hi⟩
      exact .inl ⟨rfl, hEnd⟩
    case hstop2 =>
      subst hact2
      rintro U ⟨q1, q2, q3⟩
      have hEnd : (Kp V0 U (fun i => (Z i ∨ wtQ ((((c, s), a), sl), fp) i) ∨ W.heap.size ≤ i)) ∧ Blk U (w.heap.size + 1) [.bool false] 4 ∧ Kp w U Nul ∧ emptyS B L = false := ⟨HV0.out.of_nul.trans (q2.mono (fun i _ e => .inl (.inl ((HIj.out.z i).2 e)))), q1, HKV.out.trans' q2 (fun i hi e => by have e' : i = w.heap.size + 1 := e; omega), by
        unfold emptyS
        simp only [Bool.not_eq_false']
        rw [List.any_eq_true]
        exact ⟨_, HMm.out, by rw [q3, Bool.or_true]⟩⟩
      gi_wp2_with (fail)
  case hdone =>
    subst hact
    intro D Z W hD hI hdef
    have HDf : Hid (W.heap[D]? = some (.deferred (some []))) := hdef
    have HIe : Hid (EmI w B K K.length Z W) := hI
    have HDD : Hid (w6.heap.size = D ∧ w.heap.size + 2 ≤ w6.heap.size) := ⟨hD.symm, hs6⟩
    have HLS : Hid (emptyS B L = true) := by
      show _ = _
      unfold emptyS
      simp only [Bool.not_eq_true']
      rw [List.any_eq_false]
      intro x hx q
      have := hI.no x (by rw [List.take_length]; exact (HKm.out x).2 hx)
      rw [this.1, this.2] at q
      cases q
    have y6 : W.cell? ⟨w.heap.size + 1, 0, none⟩ = some (.bool false) := hI.cs.r'.cell rfl
    have f6 : W.frozen? ⟨w.heap.size + 1, 0, none⟩ = false := hI.cs.r'.froz _
    clear hI hdef hD HI0 hgA k6
    go_wp2_with fail
    have hX2 : (W.setCell ⟨w.heap.size + 1, 0, none⟩ (.bool true)).heap[D]? = some (.deferred (some [])) := (heap_setCell_other _ _ _ _ (by show D ≠ w.heap.size + 1; have := HDD.out; omega)).trans HDf.out
    have hB2 : Blk (W.setCell ⟨w.heap.size + 1, 0, none⟩ (.bool true)) (w.heap.size + 1) [.bool true] 4 := HIe.out.cs.r'.set 0 _
    refine ⟨by simp, .inl ⟨_, _, rfl, run_takeDeferred hX2, ?_⟩⟩
    refine ⟨_, results_bool rfl rfl (hB2.kp putObj_self (by show ¬ w.heap.size + 1 = D; have := HDD.out; omega)), by rw [HLS.out], ?_⟩
    exact putObj_kp (HIe.out.kp.setCell _ _ (.inl (by show w.heap.size ≤ w.heap.size + 1; omega))) (by have := HDD.out; omega)
  case hstop =>
    subst hact
    rintro D W hD ⟨h1, h2, h3⟩ hdef
    have HDf : Hid (W.heap[D]? = some (.deferred (some []))) := hdef
    have H1 : Hid (Blk W (w.heap.size + 1) [.bool false] 4) := h1
    have H2 : Hid (Kp w W Nul) := h2
    have HDD : Hid (w6.heap.size = D ∧ w.heap.size + 2 ≤ w6.heap.size) := ⟨hD.symm, hs6⟩
    have HLS : Hid (emptyS B L = false) := h3
    clear h1 h2 h3 hdef hD HI0 hgA k6
    go_wp2_with fail
    refine ⟨by simp, .inl ⟨_, _, rfl, run_takeDeferred HDf.out, ?_⟩⟩
    refine ⟨_, results_bool rfl rfl (H1.out.kp putObj_self (by show ¬ w.heap.size + 1 = D; have := HDD.out; omega)), by rw [HLS.out], ?_⟩
    exact putObj_kp H2.out (by have := HDD.out; omega)
end Go.Proofs.YtdaoingmiabbcaaGreatDoor
