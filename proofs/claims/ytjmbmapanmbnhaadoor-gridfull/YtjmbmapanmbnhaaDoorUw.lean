/- Contents that came in, opened; their numbers are binary64's. GridFull: for every number and contents the call returns true, and what was handed in reads as it did; no condition (a tied card: two tables of unicode/utf8 stand as the program lays them). -/
import Derived.Test.YtjmbmapanmbnhaaDoorUb
import Derived.Test.YtjmbmapanmbnhaaDoorQl
import Derived.Test.YtjmbmapanmbnhaaDoorQy
import Derived.Test.YtjmbmapanmbnhaaDoorCards
import Derived.Test.YtjmbmapanmbnhaaDoorTie
import Derived.ProofKit
import Derived.SizedLaws
import Derived.ChangeSame
import Derived.LaidMore
import Derived.Lay
import Derived.LaidOnce
import Derived.OpenShut
import Derived.Carry
import Derived.Stop.Joined
import Derived.Lib.LaidU8T
namespace Go.Proofs.YtjmbmapanmbnhaaDoor
open Go.ChangeShapes Go.WideShapes Go.RowKit Go.Deep

theorem f64_lt {b : Nat} (h : (Lit.float .f64 b).wf = true) : b < 18446744073709551616 := by
  simpa [Lit.wf] using h
theorem okL_of : ∀ {ts : List Nd}, (∀ (i : Nat) (t : Nd), ts[i]? = some t → t.ok) → okL ts
  | [], _ => by rw [okL]; trivial
  | t :: ts, h => by
    rw [okL]
    exact ⟨h 0 t rfl, okL_of fun i u hu => h (i + 1) u (by simpa using hu)⟩
section
variable {H : Type} {enc : TypeId × Value → H} {w : World} {base : Nat}
theorem open_nodes2 {m : Nat} (ih : ∀ n, n < m → ∀ (cs : List Value) (x : DataW H × List MemPlace), DataW.trod enc Tryd.prog w base (fun _ => true) true n 31 cs = some x → ∃ (t : Nd) (sl : Value), cs = t.hd.cells sl ∧ NdIn w (fun _ => True) sl t ∧ t.ok)
    {v : Value} {x : DataW H × List MemPlace} (h : DataW.trod enc Tryd.prog w base (fun _ => true) true m 29 [v] = some x) : ∃ ts : List Nd, (∀ hd : Hd, NdIn w (fun _ => True) v (.mk hd ts)) ∧ okL ts := by
  rcases DataW.trod_slice Tryd.underlying29 h with ⟨hcs, _⟩ | ⟨a, len, cap, elems, rest, n, rfl, hcs, _, _, hl, hm, hel, hx, _, _⟩
  · have hv : v = .slice none 0 0 := by simpa using hcs
    subst hv
    refine ⟨[], fun hd => ?_, by rw [okL]; trivial⟩
    rw [NdIn]
    exact ⟨none, 0, rfl, Nat.le_refl _, by decide, .inl ⟨rfl, .inl rfl⟩⟩
  · have hv : v = .slice (some a) len cap := by simpa using hcs
    subst hv
    rw [cellsNode] at hx
    have each : ∀ i, i < len → ∃ t : Nd, ∃ cs', ∃ sl, w.cells? base (a.add (i * 15)) 15 = some cs' ∧ cs' = t.hd.cells sl ∧ NdIn w (fun _ => True) sl t ∧ t.ok := fun i hi => by
      have h1 := hx i hi
      rw [List.getElem?_eq_getElem (by omega)] at h1
      obtain ⟨cs', e1, e2⟩ := Option.bind_eq_some_iff.1 h1
      obtain ⟨t, sl, e3, e4⟩ := ih n (by omega) cs' _ e2
      exact ⟨t, cs', sl, e1, e3, e4⟩
    rcases Nat.eq_zero_or_pos len with h0 | h0
    · subst h0
      refine ⟨[], fun hd => ?_, by rw [okL]; trivial⟩
      rw [NdIn]
      exact ⟨some a, cap, rfl, Nat.zero_le _, hm, .inl ⟨rfl, .inr (by simp)⟩⟩
    · have hsp : a.spot = none := by
        obtain ⟨t, cs', sl, e1, e2, _⟩ := each 0 h0
        obtain ⟨_, hlen, hcell⟩ := World.cells?_some e1
        have := hcell 0 (by omega)
        rw [List.getElem?_eq_getElem (by omega)] at this
        simpa [Addr.add] using World.cell?_spot this
      obtain ⟨b, o, sp⟩ := a
      simp only at hsp
      subst hsp
      obtain ⟨ts, hts, hat⟩ := by_each each
      refine ⟨ts, fun hd => ?_, okL_of fun i t ht => by obtain ⟨_, _, _, _, _, q⟩ := hat i t ht; exact q⟩
      rw [NdIn]
      refine ⟨some ⟨b, o, none⟩, cap, by rw [hts], by omega, hm, .inr ⟨b, o, rfl, trivial, nds_of ts o (fun i t ht => ?_)⟩⟩
      obtain ⟨cs', sl, e1, e2, e3, _⟩ := hat i t ht
      obtain ⟨_, hlen, hcell⟩ := World.cells?_some e1
      refine ⟨sl, fun j u hu => ?_, e3⟩
      rw [← e2] at hu
      have hj : j < 15 := by rw [← hlen]; exact (List.getElem?_eq_some_iff.1 hu).1
      have := hcell j hj
      rw [add_plain, add_plain, hu] at this
      exact this
set_option maxRecDepth 100000 in
theorem open_node2 (fuel : Nat) : ∀ (cs : List Value) (x : DataW H × List MemPlace), DataW.trod enc Tryd.prog w base (fun _ => true) true fuel 31 cs = some x → ∃ (t : Nd) (sl : Value), cs = t.hd.cells sl ∧ NdIn w (fun _ => True) sl t ∧ t.ok := by
  induction fuel using Nat.strongRecOn with
  | _ fuel ih =>
    intro cs x h
    obtain ⟨xs, n, rfl, _, hl, hlen, hf⟩ := DataW.trod_struct Tryd.underlying31 h
    rw [cellsNode] at hl
    match xs, hlen, cs, hl with
    | [y0, y1, y2, y3, y4, y5, y6, y7, y8], _, [v0, v1, v2, v3, v4, v5, v6, v7, v8, v9, v10, v11, v12, v13, v14], _ =>
      have g0 : DataW.trod enc Tryd.prog w base (fun _ => true) true n 3 [v0] = some y0 := by simpa [cellsInt] using hf 0 _ rfl
      have g1 : DataW.trod enc Tryd.prog w base (fun _ => true) true n 3 [v1] = some y1 := by simpa [cellsInt] using hf 1 _ rfl
      have g2 : DataW.trod enc Tryd.prog w base (fun _ => true) true n 22 [v2] = some y2 := by simpa [cellsF64] using hf 2 _ rfl
      have g3 : DataW.trod enc Tryd.prog w base (fun _ => true) true n 9 [v3] = some y3 := by simpa [cellsStr] using hf 3 _ rfl
      have g4 : DataW.trod enc Tryd.prog w base (fun _ => true) true n 4 [v4] = some y4 := by simpa [cellsBool] using hf 4 _ rfl
      have g5 : DataW.trod enc Tryd.prog w base (fun _ => true) true n 3 [v5] = some y5 := by simpa [cellsInt] using hf 5 _ rfl
      have g6 : DataW.trod enc Tryd.prog w base (fun _ => true) true n 28 [v6, v7, v8, v9] = some y6 := by simpa [cellsRef] using hf 6 _ rfl
      have g7 : DataW.trod enc Tryd.prog w base (fun _ => true) true n 28 [v10, v11, v12, v13] = some y7 := by simpa [cellsRef] using hf 7 _ rfl
      have g8 : DataW.trod enc Tryd.prog w base (fun _ => true) true n 29 [v14] = some y8 := by simpa [cellsNodes] using hf 8 _ rfl
      obtain ⟨k, rfl⟩ := trod_int1 g0
      obtain ⟨o, rfl⟩ := trod_int1 g1
      obtain ⟨xx, e2, wf2⟩ := trod_f64 g2
      obtain ⟨s, e3, _⟩ := DataW.trod_string Tryd.underlying9 g3
      obtain ⟨b, e4, _⟩ := DataW.trod_bool Tryd.underlying4 g4
      obtain ⟨f, rfl⟩ := trod_int1 g5
      obtain ⟨c1, r1, p1, q1, rfl, rfl, rfl, rfl⟩ := trod_ref g6
      obtain ⟨c2, r2, p2, q2, rfl, rfl, rfl, rfl⟩ := trod_ref g7
      obtain ⟨ts, hts, hok⟩ := open_nodes2 (m := n) (fun n' hn' => ih n' (by omega)) g8
      have f2 : v2 = .float .f64 xx := by simpa using e2
      have f3 : v3 = .string s := by simpa using e3
      have f4 : v4 = .bool b := by simpa using e4
      subst f2 f3 f4
      exact ⟨.mk ⟨k, o, xx, s, b, f, c1, r1, p1, q1, c2, r2, p2, q2⟩ ts, v14, rfl, hts _, by rw [Nd.ok]; exact ⟨f64_lt wf2, hok⟩⟩
set_option maxRecDepth 100000 in
theorem open_content2 {rr : Reach} {b0 : Nat} {v : Value} {d : DataW H} {p : List MemPlace} (hv : Value.okWide Tryd.prog w rr b0 33 v) (h : DataW.Trod enc Tryd.prog w base (fun _ => true) true 33 v d p) :
    ∃ (c : Ct) (sl : Value), v = c.val sl ∧ Cn w c sl := by
  obtain ⟨⟨l⟩, rfl, hsz⟩ := okWide_struct Tryd.underlying33 hv
  have hl21 : l.length = 21 := hsz.trans cellsContent
  obtain ⟨fuel, hf⟩ := h
  have hf' : DataW.trod enc Tryd.prog w base (fun _ => true) true fuel 33 l = some (d, p) := by simpa [Value.cells] using hf
  obtain ⟨xs, n, rfl, _, _, hlen, hg⟩ := DataW.trod_struct Tryd.underlying33 hf'
  match xs, hlen, l, hl21 with
  | [y0, y1, y2], _, [v0, v1, v2, v3, v4, v5, u0, u1, u2, u3, u4, u5, u6, u7, u8, u9, u10, u11, u12, u13, u14], _ =>
    have g0 : DataW.trod enc Tryd.prog w base (fun _ => true) true n 3 [v0] = some y0 := by simpa [cellsInt] using hg 0 _ rfl
    have g1' : DataW.trod enc Tryd.prog w base (fun _ => true) true n 24 [v1, v2, v3, v4, v5] = some y1 := by simpa [cellsValue] using hg 1 _ rfl
    have g2' : DataW.trod enc Tryd.prog w base (fun _ => true) true n 31 [u0, u1, u2, u3, u4, u5, u6, u7, u8, u9, u10, u11, u12, u13, u14] = some y2 := by simpa [cellsNode] using hg 2 _ rfl
    obtain ⟨k, rfl⟩ := trod_int1 g0
    obtain ⟨zs, n2, _, _, _, hlen2, hz⟩ := DataW.trod_struct Tryd.underlying24 g1'
    match zs, hlen2 with
    | [z0, z1, z2, z3, z4], _ =>
      have k0 : DataW.trod enc Tryd.prog w base (fun _ => true) true n2 3 [v1] = some z0 := by simpa [cellsInt] using hz 0 _ rfl
      have k1 : DataW.trod enc Tryd.prog w base (fun _ => true) true n2 22 [v2] = some z1 := by simpa [cellsF64] using hz 1 _ rfl
      have k2 : DataW.trod enc Tryd.prog w base (fun _ => true) true n2 9 [v3] = some z2 := by simpa [cellsStr] using hz 2 _ rfl
      have k3 : DataW.trod enc Tryd.prog w base (fun _ => true) true n2 4 [v4] = some z3 := by simpa [cellsBool] using hz 3 _ rfl
      have k4 : DataW.trod enc Tryd.prog w base (fun _ => true) true n2 3 [v5] = some z4 := by simpa [cellsInt] using hz 4 _ rfl
      obtain ⟨vk, rfl⟩ := trod_int1 k0
      obtain ⟨vx, e1, wf1⟩ := trod_f64 k1
      obtain ⟨vs, e2, _⟩ := DataW.trod_string Tryd.underlying9 k2
      obtain ⟨vb, e3, _⟩ := DataW.trod_bool Tryd.underlying4 k3
      obtain ⟨vf, rfl⟩ := trod_int1 k4
      have f1 : v2 = .float .f64 vx := by simpa using e1
      have f2 : v3 = .string vs := by simpa using e2
      have f3 : v4 = .bool vb := by simpa using e3
      subst f1 f2 f3
      obtain ⟨t, sl, e, hin, hok⟩ := open_node2 n _ _ g2'
      simp only [Hd.cells, List.cons.injEq, and_true] at e
      obtain ⟨rfl, rfl, rfl, rfl, rfl, rfl, rfl, rfl, rfl, rfl, rfl, rfl, rfl, rfl, rfl⟩ := e
      exact ⟨⟨k, ⟨vk, vx, vs, vb, vf⟩, t⟩, u14, rfl, ⟨hok, f64_lt wf1, hin⟩⟩
end
end Go.Proofs.YtjmbmapanmbnhaaDoor
namespace Go.Proofs.YtjmbmapanmbnhaaDoor
open Go.ChangeShapes Go.WideShapes Go.ChangeAt Go.RowKit

theorem ownK : ownKnob Tryd.prog.godebug = none := by kernel_rfl
theorem laidK : laidOutB Tryd.prog = true := by kernel_rfl
def laidTwo : List (String × DataW Unit) := [("unicode/utf8.acceptRanges", Rows.laid_unicode_utf8_acceptRanges), ("unicode/utf8.first", Rows.laid_unicode_utf8_first)]
theorem first_is : Rows.laid_unicode_utf8_first = Lib.firstData := by kernel_rfl
theorem accept_is : (Rows.laid_unicode_utf8_acceptRanges : DataW Unit) = Lib.acceptData := by kernel_rfl
theorem u8x : U8Extra Tryd.prog Tryd.laysValid_ren := ⟨by kernel_rfl, by kernel_rfl, by kernel_rfl, by kernel_rfl, by kernel_rfl, by kernel_rfl, by kernel_rfl⟩
theorem tabs_of {W : World} (h : laidMetH Tryd.prog laidTwo W) : Lib.Utf8Tabs (Tryd.laysValid_ren.g 3) (Tryd.laysValid_ren.g 4) W := by
  have h' : laidMet Tryd.prog laidTwo W := by rw [MakeChecks.laidMetH_plain _ _ _ (by kernel_rfl)] at h; exact h
  obtain ⟨ps, hl, _, _⟩ := h'
  refine utf8Tabs_of_readsT (U8Types.of196 Tryd.laysValid) u8x ?_ ?_
  · rw [← first_is]; exact Lib.LaidVars_reads hl _ _ (by simp [laidTwo])
  · rw [← accept_is]; exact Lib.LaidVars_reads hl _ _ (by simp [laidTwo])
set_option maxRecDepth 100000 in
theorem full_lifted (os : Os) (started : os.Started) (H : Type) (enc : TypeId × Value → H) :
    ReturnsInHanded {} Tryd.checked os 4 .any (fun w args => (Rows.gridFullSpec.pre enc Tryd.prog Tryd.f4 [] false w args ∧ laidMetH Tryd.prog laidTwo w) ∧ sizedMet enc Tryd.prog Tryd.f4 (OpenSpec.ofChange Rows.gridFullSpec) false w args)
      (Rows.gridFullSpec.post enc Tryd.prog Tryd.f4 false true false false) := by
  refine returnsInHanded_of_change_and (C := Tryd.checked) (X := fun w _ => laidMetH Tryd.prog laidTwo w) (fun _ _ _ hh h => h.of_heap hh) ownK started (by kernel_rfl) Tryd.func4
    (ChangeSpec.witness_shaped (enc := enc) (C := Tryd.checked) (os := os) (X := fun w _ => laidMetH Tryd.prog laidTwo w) false (World.laidAll Tryd.prog os laidTwo) #[.int .i64 0, zCv, zCv] 8 (World.laidAll_os _ _ _) (World.shaped_of_ZipB (by kernel_rfl) (by kernel_rfl)) (by kernel_rfl) (by kernel_rfl) (by kernel_rfl) (by rw [MakeChecks.laidMetH_plain _ _ _ (by kernel_rfl)]; exact laidMet_laidAll _ (by kernel_rfl) (by kernel_rfl))) ?_
  intro W base args ds gs before hval0 hW _ _ hL _
  have hval : ∀ (j : Nat) t v, Tryd.f4.params[j]? = some t → args[j]? = some v → Value.okWide Tryd.prog W .any base t v := hval0
  have hW' := hW
  obtain ⟨p, q, hA0, hV, rfl, hfz, hnd⟩ := hW
  have hA : DataW.TrodAll enc Tryd.prog W 0 (fun _ => true) true Tryd.f4.params.toList args.toList ds p := hA0
  rw [Tryd.params4] at hA hval
  obtain ⟨v0, v1, v2, d0, d1, d2, p0, p1, p2, rfl, rfl, rfl, h0, h1, h2⟩ := trodAll_three hA
  obtain ⟨rfl, rfl⟩ := trodVars_none hV
  have h0k := h0
  have h1k := h1
  have h2k := h2
  obtain ⟨rows, hv0, _, _, wr0⟩ := open_int Tryd.underlying3 (hval 0 3 v0 rfl rfl) h0
  subst hv0
  have hrows : I64 rows := by have := bounds_i64 wr0; unfold I64; omega
  obtain ⟨ct, sl, rfl, hc1⟩ := open_content2 (hval 1 _ v1 rfl rfl) h1
  obtain ⟨du, sl2, rfl, hc2⟩ := open_content2 (hval 2 _ v2 rfl rfl) h2
  clear hA0 hval0
  simp only [List.append_nil] at hW'
  have hlt : ∀ x ∈ p0 ++ (p1 ++ p2), x.block < W.heap.size := fun x hx => by
    have := hW'.lt x (by simpa using hx)
    simpa using this
  have k0 : ∀ (W' : World), Below W.heap.size W W' → DataW.Trod enc Tryd.prog W' 0 (fun b => decide (b < W.heap.size)) true 3 (.int .i64 rows) d0 p0 := fun W' hn => Below.trod laidK (by kernel_rfl) (of_decide_eq_true (by kernel_rfl)) h0k hn (fun x hx => hlt x (by simp [hx]))
  have k1 : ∀ (W' : World), Below W.heap.size W W' → DataW.Trod enc Tryd.prog W' 0 (fun b => decide (b < W.heap.size)) true 33 (ct.val sl) d1 p1 := fun W' hn => Below.trod laidK (by kernel_rfl) (of_decide_eq_true (by kernel_rfl)) h1k hn (fun x hx => hlt x (by simp [hx]))
  have k2 : ∀ (W' : World), Below W.heap.size W W' → DataW.Trod enc Tryd.prog W' 0 (fun b => decide (b < W.heap.size)) true 33 (du.val sl2) d2 p2 := fun W' hn => Below.trod laidK (by kernel_rfl) (of_decide_eq_true (by kernel_rfl)) h2k hn (fun x hx => hlt x (by simp [hx]))
  refine (full17 rows hrows ct sl du sl2 W hc1 hc2 (vs_of (tabs_of hL))).mono ?_
  rintro e W' ⟨rfl, hk⟩
  have hnx := hk.below
  exact ⟨_, rfl, _, _, _, [], _, [], hW', trodAll_mk1 (shut_bool Tryd.underlying4 _), trodAll_mk3 (k0 _ hnx) (k1 _ hnx) (k2 _ hnx), rfl, hnx.frame _, fun h => by cases h⟩

theorem full_said : Rows.GridFullSaid :=
  OpenClaim.holds_of_wide 4 Tryd.f4 rfl rfl rfl rfl rfl rfl rfl ⟨rfl, rfl, rfl, rfl, rfl⟩ rfl rfl rfl rfl rfl (by kernel_rfl) Tryd.func4 (by kernel_rfl)
    (of_decide_eq_true (by kernel_rfl)) (by unfold Func.isWrapper; first | (rw [if_pos (by decide +kernel)]; kernel_rfl) | (rw [if_neg (by decide +kernel)]; exact ⟨rfl, rfl⟩))
    (fun os started H enc _ => full_lifted os started H enc)

theorem full_plain (f : FuncId) (fn : Func) (hf : Tryd.pinned.checked.prog.funcNamed Tryd.f4.name = some f) (hfn : Tryd.pinned.checked.prog.funcs[f]? = some fn) :
    false = Tryd.pinned.checked.prog.looks [] ∧ ∀ (j : Nat) t, fn.params[j]? = some t → Tryd.pinned.checked.prog.wantsStandIn t = false := by
  obtain rfl : f = 4 := Option.some.inj ((show Tryd.prog.funcNamed Tryd.f4.name = some 4 by kernel_rfl).symm.trans hf) |>.symm
  obtain rfl : fn = Tryd.f4 := (Option.some.inj (Tryd.func4.symm.trans hfn)).symm
  refine ⟨by kernel_rfl, fun j t ht => ?_⟩
  rw [Tryd.params4] at ht
  have hm : t ∈ [3, 33, 33] := by simpa using Array.mem_of_getElem? ht
  have hall : ([3, 33, 33].all fun u => !Tryd.prog.wantsStandIn u) = true := by kernel_rfl
  exact (show Tryd.prog.wantsStandIn t = false by simpa using List.all_eq_true.1 hall t hm)

theorem full_card : Rows.GridFullCardSaid :=
  Claim7.holds_tied_plain_at .later [] _ _ _ _ full_said (fun _ h => by cases h) (by kernel_rfl) (fun _ h => by cases h) gridFull_row_tie rfl ⟨rfl, rfl⟩ (by kernel_rfl) rfl full_plain (by kernel_rfl)
#print axioms full_card
end Go.Proofs.YtjmbmapanmbnhaaDoor
