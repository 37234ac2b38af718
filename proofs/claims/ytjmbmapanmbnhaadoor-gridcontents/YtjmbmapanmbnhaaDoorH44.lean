/- GridContents: for every two contents the call returns true, and what was handed in reads as it did; no condition (a tied card: two tables of unicode/utf8 stand as the program lays them). -/
import Derived.Test.YtjmbmapanmbnhaaDoorH2
import Derived.Test.YtjmbmapanmbnhaaDoorH23
import Derived.Test.YtjmbmapanmbnhaaDoorH43
import Derived.Test.YtjmbmapanmbnhaaDoorCards
import Derived.Test.YtjmbmapanmbnhaaDoorTie
import Derived.ProofKit
import Derived.SizedLaws
import Derived.ChangeSame
import Derived.LaidMore
import Derived.Lay
import Derived.LaidOnce
import Derived.OpenShut
import Derived.Carry
import Derived.Stop.Joined
import Derived.Lib.LaidU8T
namespace Go.Proofs.YtjmbmapanmbnhaaDoor
open Go.ChangeShapes Go.WideShapes Go.RowKit Go.Deep

theorem f64_lt {b : Nat} (h : (Lit.float .f64 b).wf = true) : b < 18446744073709551616 := by
  simpa [Lit.wf] using h
theorem okL_of : ∀ {ts : List Nd}, (∀ (i : Nat) (t : Nd), ts[i]? = some t → t.ok) → okL ts
  | [], _ => by rw [okL]; trivial
  | t :: ts, h => by
    rw [okL]
    exact ⟨h 0 t rfl, okL_of fun i u hu => h (i + 1) u (by simpa using hu)⟩
theorem txtL_of : ∀ {ts : List Nd}, (∀ (i : Nat) (t : Nd), ts[i]? = some t → t.txt) → txtL ts
  | [], _ => by rw [txtL]; trivial
  | t :: ts, h => by
    rw [txtL]
    exact ⟨h 0 t rfl, txtL_of fun i u hu => h (i + 1) u (by simpa using hu)⟩
section
variable {H : Type} {P : Program}
theorem weights_agg {t : TypeId} {fs : Array Field} (hu : P.underlying t = some (.struct fs)) {parts : List (DataW H)} {j : Nat} {f : TypeId} {d : DataW H} (hf : (fs.toList.map (·.type))[j]? = some f) (hd : parts[j]? = some d) : ∀ n ∈ d.weights P f, n ∈ DataW.weights P t (.agg parts) := by
  intro n hn
  rw [DataW.weights, hu]
  exact DataW.weights_mem_each hf hd n hn
theorem weights_all {e : TypeId} : ∀ {ds : List (DataW H)} {d : DataW H}, d ∈ ds → ∀ n ∈ d.weights P e, n ∈ DataW.weightsAll P e ds
  | [], _, h, _, _ => by simp at h
  | x :: xs, d, h, n, hn => by
    rw [DataW.weightsAll, List.mem_append]
    rcases List.mem_cons.1 h with rfl | h
    · exact .inl hn
    · exact .inr (weights_all h n hn)
theorem weights_slice {t e : TypeId} (hu : P.underlying t = some (.slice e)) {elems spare : List (DataW H)} {d : DataW H} (hd : d ∈ elems) : ∀ n ∈ d.weights P e, n ∈ DataW.weights P t (.slice elems spare) := by
  intro n hn
  rw [DataW.weights, hu]
  exact List.mem_cons_of_mem _ (List.mem_append_left _ (weights_all hd n hn))
end
section
variable {H : Type} {enc : TypeId × Value → H} {w : World} {base : Nat}
theorem open_nodes3 {m : Nat} (ih : ∀ n, n < m → ∀ (cs : List Value) (x : DataW H × List MemPlace), DataW.trod enc Tryd.prog w base (fun _ => true) true n 31 cs = some x → (∀ n ∈ x.1.weights Tryd.prog 31, n ≤ reachBytes) → ∃ (t : Nd) (sl : Value), cs = t.hd.cells sl ∧ NdIn w (fun _ => True) sl t ∧ t.ok ∧ t.txt)
    {v : Value} {x : DataW H × List MemPlace} (h : DataW.trod enc Tryd.prog w base (fun _ => true) true m 29 [v] = some x) (hw : ∀ n ∈ x.1.weights Tryd.prog 29, n ≤ reachBytes) : ∃ ts : List Nd, (∀ hd : Hd, NdIn w (fun _ => True) v (.mk hd ts)) ∧ okL ts ∧ txtL ts := by
  rcases DataW.trod_slice Tryd.underlying29 h with ⟨hcs, _⟩ | ⟨a, len, cap, elems, rest, n, rfl, hcs, hxe, _, hl, hm, hel, hx, _, _⟩
  · have hv : v = .slice none 0 0 := by simpa using hcs
    subst hv
    refine ⟨[], fun hd => ?_, by rw [okL]; trivial, by rw [txtL]; trivial⟩
    rw [NdIn]
    exact ⟨none, 0, rfl, Nat.le_refl _, by decide, .inl ⟨rfl, .inl rfl⟩⟩
  · have hv : v = .slice (some a) len cap := by simpa using hcs
    subst hv
    rw [cellsNode] at hx
    have each : ∀ i, i < len → ∃ t : Nd, ∃ cs', ∃ sl, w.cells? base (a.add (i * 15)) 15 = some cs' ∧ cs' = t.hd.cells sl ∧ NdIn w (fun _ => True) sl t ∧ t.ok ∧ t.txt := fun i hi => by
      have h1 := hx i hi
      rw [List.getElem?_eq_getElem (by omega)] at h1
      obtain ⟨cs', e1, e2⟩ := Option.bind_eq_some_iff.1 h1
      obtain ⟨t, sl, e3, e4⟩ := ih n (by omega) cs' _ e2 (fun m hm => hw m (by rw [hxe]; exact weights_slice Tryd.underlying29 (List.mem_map_of_mem (List.getElem_mem _)) m hm))
      exact ⟨t, cs', sl, e1, e3, e4⟩
    rcases Nat.eq_zero_or_pos len with h0 | h0
    · subst h0
      refine ⟨[], fun hd => ?_, by rw [okL]; trivial, by rw [txtL]; trivial⟩
      rw [NdIn]
      exact ⟨some a, cap, rfl, Nat.zero_le _, hm, .inl ⟨rfl, .inr (by simp)⟩⟩
    · have hsp : a.spot = none := by
        obtain ⟨t, cs', sl, e1, e2, _⟩ := each 0 h0
        obtain ⟨_, hlen, hcell⟩ := World.cells?_some e1
        have := hcell 0 (by omega)
        rw [List.getElem?_eq_getElem (by omega)] at this
        simpa [Addr.add] using World.cell?_spot this
      obtain ⟨b, o, sp⟩ := a
      simp only at hsp
      subst hsp
      obtain ⟨ts, hts, hat⟩ := by_each each
      refine ⟨ts, fun hd => ?_, okL_of fun i t ht => by obtain ⟨_, _, _, _, _, q, _⟩ := hat i t ht; exact q, txtL_of fun i t ht => by obtain ⟨_, _, _, _, _, _, q⟩ := hat i t ht; exact q⟩
      rw [NdIn]
      refine ⟨some ⟨b, o, none⟩, cap, by rw [hts], by omega, hm, .inr ⟨b, o, rfl, trivial, nds_of ts o (fun i t ht => ?_)⟩⟩
      obtain ⟨cs', sl, e1, e2, e3, _⟩ := hat i t ht
      obtain ⟨_, hlen, hcell⟩ := World.cells?_some e1
      refine ⟨sl, fun j u hu => ?_, e3⟩
      rw [← e2] at hu
      have hj : j < 15 := by rw [← hlen]; exact (List.getElem?_eq_some_iff.1 hu).1
      have := hcell j hj
      rw [add_plain, add_plain, hu] at this
      exact this
set_option maxRecDepth 100000 in
theorem open_node3 (fuel : Nat) : ∀ (cs : List Value) (x : DataW H × List MemPlace), DataW.trod enc Tryd.prog w base (fun _ => true) true fuel 31 cs = some x → (∀ n ∈ x.1.weights Tryd.prog 31, n ≤ reachBytes) → ∃ (t : Nd) (sl : Value), cs = t.hd.cells sl ∧ NdIn w (fun _ => True) sl t ∧ t.ok ∧ t.txt := by
  induction fuel using Nat.strongRecOn with
  | _ fuel ih =>
    intro cs x h hw
    obtain ⟨xs, n, rfl, hxe, hl, hlen, hf⟩ := DataW.trod_struct Tryd.underlying31 h
    rw [cellsNode] at hl
    match xs, hlen, cs, hl with
    | [y0, y1, y2, y3, y4, y5, y6, y7, y8], _, [v0, v1, v2, v3, v4, v5, v6, v7, v8, v9, v10, v11, v12, v13, v14], _ =>
      have g0 : DataW.trod enc Tryd.prog w base (fun _ => true) true n 3 [v0] = some y0 := by simpa [cellsInt] using hf 0 _ rfl
      have g1 : DataW.trod enc Tryd.prog w base (fun _ => true) true n 3 [v1] = some y1 := by simpa [cellsInt] using hf 1 _ rfl
      have g2 : DataW.trod enc Tryd.prog w base (fun _ => true) true n 22 [v2] = some y2 := by simpa [cellsF64] using hf 2 _ rfl
      have g3 : DataW.trod enc Tryd.prog w base (fun _ => true) true n 9 [v3] = some y3 := by simpa [cellsStr] using hf 3 _ rfl
      have g4 : DataW.trod enc Tryd.prog w base (fun _ => true) true n 4 [v4] = some y4 := by simpa [cellsBool] using hf 4 _ rfl
      have g5 : DataW.trod enc Tryd.prog w base (fun _ => true) true n 3 [v5] = some y5 := by simpa [cellsInt] using hf 5 _ rfl
      have g6 : DataW.trod enc Tryd.prog w base (fun _ => true) true n 28 [v6, v7, v8, v9] = some y6 := by simpa [cellsRef] using hf 6 _ rfl
      have g7 : DataW.trod enc Tryd.prog w base (fun _ => true) true n 28 [v10, v11, v12, v13] = some y7 := by simpa [cellsRef] using hf 7 _ rfl
      have g8 : DataW.trod enc Tryd.prog w base (fun _ => true) true n 29 [v14] = some y8 := by simpa [cellsNodes] using hf 8 _ rfl
      obtain ⟨k, rfl⟩ := trod_int1 g0
      obtain ⟨o, rfl⟩ := trod_int1 g1
      obtain ⟨xx, e2, wf2⟩ := trod_f64 g2
      obtain ⟨s, e3, x3, _⟩ := DataW.trod_string Tryd.underlying9 g3
      obtain ⟨b, e4, _⟩ := DataW.trod_bool Tryd.underlying4 g4
      obtain ⟨f, rfl⟩ := trod_int1 g5
      obtain ⟨c1, r1, p1, q1, rfl, rfl, rfl, rfl⟩ := trod_ref g6
      obtain ⟨c2, r2, p2, q2, rfl, rfl, rfl, rfl⟩ := trod_ref g7
      obtain ⟨ts, hts, hok, htx⟩ := open_nodes3 (m := n) (fun n' hn' => ih n' (by omega)) g8 (fun m hm => hw m (by rw [hxe]; exact weights_agg (j := 8) Tryd.underlying31 rfl rfl m hm))
      have hs3 : s.size ≤ 140737488355328 := by
        have := hw s.data.toList.length (by rw [hxe]; exact weights_agg (j := 3) (f := 9) (d := y3.1) Tryd.underlying31 rfl rfl _ (by rw [x3, DataW.weights]; simp))
        have h2 : s.size = s.data.toList.length := by simp
        rw [h2]; unfold reachBytes at this; omega
      have f2 : v2 = .float .f64 xx := by simpa using e2
      have f3 : v3 = .string s := by simpa using e3
      have f4 : v4 = .bool b := by simpa using e4
      subst f2 f3 f4
      exact ⟨.mk ⟨k, o, xx, s, b, f, c1, r1, p1, q1, c2, r2, p2, q2⟩ ts, v14, rfl, hts _, by rw [Nd.ok]; exact ⟨f64_lt wf2, hok⟩, by rw [Nd.txt]; exact ⟨hs3, htx⟩⟩
set_option maxRecDepth 100000 in
theorem open_content3 {rr : Reach} {b0 : Nat} {v : Value} {d : DataW H} {p : List MemPlace} (hv : Value.okWide Tryd.prog w rr b0 33 v) (h : DataW.Trod enc Tryd.prog w base (fun _ => true) true 33 v d p) (hw : ∀ n ∈ d.weights Tryd.prog 33, n ≤ reachBytes) :
    ∃ (c : Ct) (sl : Value), v = c.val sl ∧ Cn w c sl ∧ c.t.txt ∧ c.v.s.size ≤ 140737488355328 := by
  obtain ⟨⟨l⟩, rfl, hsz⟩ := okWide_struct Tryd.underlying33 hv
  have hl21 : l.length = 21 := hsz.trans cellsContent
  obtain ⟨fuel, hf⟩ := h
  have hf' : DataW.trod enc Tryd.prog w base (fun _ => true) true fuel 33 l = some (d, p) := by simpa [Value.cells] using hf
  obtain ⟨xs, n, rfl, hxe, _, hlen, hg⟩ := DataW.trod_struct Tryd.underlying33 hf'
  have hde : d = .agg (xs.map (·.1)) := congrArg Prod.fst hxe
  clear hxe
  match xs, hlen, l, hl21, hde, hg with
  | [y0, y1, y2], _, [v0, v1, v2, v3, v4, v5, u0, u1, u2, u3, u4, u5, u6, u7, u8, u9, u10, u11, u12, u13, u14], _, hde, hg =>
    have g0 : DataW.trod enc Tryd.prog w base (fun _ => true) true n 3 [v0] = some y0 := by simpa [cellsInt] using hg 0 _ rfl
    have g1' : DataW.trod enc Tryd.prog w base (fun _ => true) true n 24 [v1, v2, v3, v4, v5] = some y1 := by simpa [cellsValue] using hg 1 _ rfl
    have g2' : DataW.trod enc Tryd.prog w base (fun _ => true) true n 31 [u0, u1, u2, u3, u4, u5, u6, u7, u8, u9, u10, u11, u12, u13, u14] = some y2 := by simpa [cellsNode] using hg 2 _ rfl
    obtain ⟨k, rfl⟩ := trod_int1 g0
    obtain ⟨zs, n2, _, hze, _, hlen2, hz⟩ := DataW.trod_struct Tryd.underlying24 g1'
    match zs, hlen2, hze, hz with
    | [z0, z1, z2, z3, z4], _, hze, hz =>
      have k0 : DataW.trod enc Tryd.prog w base (fun _ => true) true n2 3 [v1] = some z0 := by simpa [cellsInt] using hz 0 _ rfl
      have k1 : DataW.trod enc Tryd.prog w base (fun _ => true) true n2 22 [v2] = some z1 := by simpa [cellsF64] using hz 1 _ rfl
      have k2 : DataW.trod enc Tryd.prog w base (fun _ => true) true n2 9 [v3] = some z2 := by simpa [cellsStr] using hz 2 _ rfl
      have k3 : DataW.trod enc Tryd.prog w base (fun _ => true) true n2 4 [v4] = some z3 := by simpa [cellsBool] using hz 3 _ rfl
      have k4 : DataW.trod enc Tryd.prog w base (fun _ => true) true n2 3 [v5] = some z4 := by simpa [cellsInt] using hz 4 _ rfl
      obtain ⟨vk, rfl⟩ := trod_int1 k0
      obtain ⟨vx, e1, wf1⟩ := trod_f64 k1
      obtain ⟨vs, e2, x2, _⟩ := DataW.trod_string Tryd.underlying9 k2
      have hs2 : vs.size ≤ 140737488355328 := by
        have := hw vs.data.toList.length (by rw [hde]; exact weights_agg (j := 1) (f := 24) (d := y1.1) Tryd.underlying33 rfl rfl _ (by rw [hze]; exact weights_agg (j := 2) (f := 9) (d := z2.1) Tryd.underlying24 rfl rfl _ (by rw [x2, DataW.weights]; simp)))
        have h2 : vs.size = vs.data.toList.length := by simp
        rw [h2]; unfold reachBytes at this; omega
      obtain ⟨vb, e3, _⟩ := DataW.trod_bool Tryd.underlying4 k3
      obtain ⟨vf, rfl⟩ := trod_int1 k4
      have f1 : v2 = .float .f64 vx := by simpa using e1
      have f2 : v3 = .string vs := by simpa using e2
      have f3 : v4 = .bool vb := by simpa using e3
      subst f1 f2 f3
      obtain ⟨t, sl, e, hin, hok, htx⟩ := open_node3 n _ _ g2' (fun m hm => hw m (by rw [hde]; exact weights_agg (j := 2) Tryd.underlying33 rfl rfl m hm))
      simp only [Hd.cells, List.cons.injEq, and_true] at e
      obtain ⟨rfl, rfl, rfl, rfl, rfl, rfl, rfl, rfl, rfl, rfl, rfl, rfl, rfl, rfl, rfl⟩ := e
      exact ⟨⟨k, ⟨vk, vx, vs, vb, vf⟩, t⟩, u14, rfl, ⟨hok, f64_lt wf1, hin⟩, htx, hs2⟩
end
end Go.Proofs.YtjmbmapanmbnhaaDoor
namespace Go.Proofs.YtjmbmapanmbnhaaDoor
open Go.ChangeShapes Go.WideShapes Go.ChangeAt Go.RowKit

theorem ownK : ownKnob Tryd.prog.godebug = none := by kernel_rfl
theorem laidK : laidOutB Tryd.prog = true := by kernel_rfl
def laidTwo : List (String × DataW Unit) := [("unicode/utf8.acceptRanges", Rows.laid_unicode_utf8_acceptRanges), ("unicode/utf8.first", Rows.laid_unicode_utf8_first)]
theorem first_is : Rows.laid_unicode_utf8_first = Lib.firstData := by kernel_rfl
theorem accept_is : (Rows.laid_unicode_utf8_acceptRanges : DataW Unit) = Lib.acceptData := by kernel_rfl
theorem u8x : U8Extra Tryd.prog Tryd.laysValid_ren := ⟨by kernel_rfl, by kernel_rfl, by kernel_rfl, by kernel_rfl, by kernel_rfl, by kernel_rfl, by kernel_rfl⟩
theorem tabs_of {W : World} (h : laidMetH Tryd.prog laidTwo W) : Lib.Utf8Tabs (Tryd.laysValid_ren.g 3) (Tryd.laysValid_ren.g 4) W := by
  have h' : laidMet Tryd.prog laidTwo W := by rw [MakeChecks.laidMetH_plain _ _ _ (by kernel_rfl)] at h; exact h
  obtain ⟨ps, hl, _, _⟩ := h'
  refine utf8Tabs_of_readsT (U8Types.of196 Tryd.laysValid) u8x ?_ ?_
  · rw [← first_is]; exact Lib.LaidVars_reads hl _ _ (by simp [laidTwo])
  · rw [← accept_is]; exact Lib.LaidVars_reads hl _ _ (by simp [laidTwo])
set_option maxRecDepth 100000 in
theorem cont_lifted (os : Os) (started : os.Started) (H : Type) (enc : TypeId × Value → H) :
    ReturnsInHanded {} Tryd.checked os 3 .any (fun w args => (Rows.gridContentsSpec.pre enc Tryd.prog Tryd.f3 [] false w args ∧ laidMetH Tryd.prog laidTwo w) ∧ sizedMet enc Tryd.prog Tryd.f3 (OpenSpec.ofChange Rows.gridContentsSpec) false w args)
      (Rows.gridContentsSpec.post enc Tryd.prog Tryd.f3 false true false false) := by
  refine returnsInHanded_of_change_and (C := Tryd.checked) (X := fun w _ => laidMetH Tryd.prog laidTwo w) (fun _ _ _ hh h => h.of_heap hh) ownK started (by kernel_rfl) Tryd.func3
    (ChangeSpec.witness_shaped (enc := enc) (C := Tryd.checked) (os := os) (X := fun w _ => laidMetH Tryd.prog laidTwo w) false (World.laidAll Tryd.prog os laidTwo) #[zCv, zCv] 8 (World.laidAll_os _ _ _) (World.shaped_of_ZipB (by kernel_rfl) (by kernel_rfl)) (by kernel_rfl) (by kernel_rfl) (by kernel_rfl) (by rw [MakeChecks.laidMetH_plain _ _ _ (by kernel_rfl)]; exact laidMet_laidAll _ (by kernel_rfl) (by kernel_rfl))) ?_
  intro W base args ds gs before hval0 hW _ hsized hL _
  have hval : ∀ (j : Nat) t v, Tryd.f3.params[j]? = some t → args[j]? = some v → Value.okWide Tryd.prog W .any base t v := hval0
  have hW' := hW
  obtain ⟨p, q, hA0, hV, rfl, hfz, hnd⟩ := hW
  have hA : DataW.TrodAll enc Tryd.prog W 0 (fun _ => true) true Tryd.f3.params.toList args.toList ds p := hA0
  rw [Tryd.params3] at hA hval
  obtain ⟨v1, v2, d1, d2, p1, p2, rfl, rfl, rfl, h1, h2⟩ := trodAll_two hA
  obtain ⟨rfl, rfl⟩ := trodVars_none hV
  have h1k := h1
  have h2k := h2
  have hw : ∀ (j : Nat) (t : TypeId) (d : DataW H), (Tryd.f3.params.toList ++ Rows.gridContentsSpec.plain.varTypes Tryd.prog)[j]? = some t → ([d1, d2] ++ ([] : List (DataW H)))[j]? = some d → ∀ n ∈ d.weights Tryd.prog t, n ≤ reachBytes := fun j t d ht hd n hn => by
    have := List.all_eq_true.1 hsized _ (DataW.weights_mem_each ht hd n hn)
    simpa using this
  obtain ⟨ct, sl, rfl, hc1, htx, hsx⟩ := open_content3 (hval 0 _ v1 rfl rfl) h1 (hw 0 _ d1 rfl rfl)
  obtain ⟨du, sl2, rfl, hc2, _, _⟩ := open_content3 (hval 1 _ v2 rfl rfl) h2 (hw 1 _ d2 rfl rfl)
  clear hA0 hval0
  simp only [List.append_nil] at hW'
  have hlt : ∀ x ∈ p1 ++ p2, x.block < W.heap.size := fun x hx => by
    have := hW'.lt x (by simpa using hx)
    simpa using this
  have k1 : ∀ (W' : World), Below W.heap.size W W' → DataW.Trod enc Tryd.prog W' 0 (fun b => decide (b < W.heap.size)) true 33 (ct.val sl) d1 p1 := fun W' hn => Below.trod laidK (by kernel_rfl) (of_decide_eq_true (by kernel_rfl)) h1k hn (fun x hx => hlt x (by simp [hx]))
  have k2 : ∀ (W' : World), Below W.heap.size W W' → DataW.Trod enc Tryd.prog W' 0 (fun b => decide (b < W.heap.size)) true 33 (du.val sl2) d2 p2 := fun W' hn => Below.trod laidK (by kernel_rfl) (of_decide_eq_true (by kernel_rfl)) h2k hn (fun x hx => hlt x (by simp [hx]))
  refine (contents17 ct du sl sl2 W hc1 hc2 htx hsx (vs_of (tabs_of hL))).mono ?_
  rintro e W' ⟨rfl, hk⟩
  have hnx := hk.below
  exact ⟨_, rfl, _, _, _, [], _, [], hW', trodAll_mk1 (shut_bool Tryd.underlying4 _), trodAll_mk2 (k1 _ hnx) (k2 _ hnx), rfl, hnx.frame _, fun h => by cases h⟩

theorem cont_said : Rows.GridContentsSaid :=
  OpenClaim.holds_of_wide 3 Tryd.f3 rfl rfl rfl rfl rfl rfl rfl ⟨rfl, rfl, rfl, rfl, rfl⟩ rfl rfl rfl rfl rfl (by kernel_rfl) Tryd.func3 (by kernel_rfl)
    (of_decide_eq_true (by kernel_rfl)) (by unfold Func.isWrapper; first | (rw [if_pos (by decide +kernel)]; kernel_rfl) | (rw [if_neg (by decide +kernel)]; exact ⟨rfl, rfl⟩))
    (fun os started H enc _ => cont_lifted os started H enc)

theorem cont_plain (f : FuncId) (fn : Func) (hf : Tryd.pinned.checked.prog.funcNamed Tryd.f3.name = some f) (hfn : Tryd.pinned.checked.prog.funcs[f]? = some fn) :
    false = Tryd.pinned.checked.prog.looks [] ∧ ∀ (j : Nat) t, fn.params[j]? = some t → Tryd.pinned.checked.prog.wantsStandIn t = false := by
  obtain rfl : f = 3 := Option.some.inj ((show Tryd.prog.funcNamed Tryd.f3.name = some 3 by kernel_rfl).symm.trans hf) |>.symm
  obtain rfl : fn = Tryd.f3 := (Option.some.inj (Tryd.func3.symm.trans hfn)).symm
  refine ⟨by kernel_rfl, fun j t ht => ?_⟩
  rw [Tryd.params3] at ht
  have hm : t ∈ [33, 33] := by simpa using Array.mem_of_getElem? ht
  have hall : ([33, 33].all fun u => !Tryd.prog.wantsStandIn u) = true := by kernel_rfl
  exact (show Tryd.prog.wantsStandIn t = false by simpa using List.all_eq_true.1 hall t hm)

theorem cont_card : Rows.GridContentsCardSaid :=
  Claim7.holds_tied_plain_at .later [] _ _ _ _ cont_said (fun _ h => by cases h) (by kernel_rfl) (fun _ h => by cases h) gridContents_row_tie rfl ⟨rfl, rfl⟩ (by kernel_rfl) rfl cont_plain (by kernel_rfl)
#print axioms cont_card
end Go.Proofs.YtjmbmapanmbnhaaDoor
