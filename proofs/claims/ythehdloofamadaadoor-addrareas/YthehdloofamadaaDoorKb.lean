/- Cells, refs and areas that came in, opened. -/
import Derived.Test.YthehdloofamadaaDoorKa
namespace Go.Proofs.YthehdloofamadaaDoor
open Go.ChangeShapes Go.WideShapes Go.ChangeAt Go.RowKit Go.Joins Go.ChangeMaps Go.Deep

theorem cellsInt : Tryd.prog.cellsOf 3 = 1 := by kernel_rfl
theorem cellsBool : Tryd.prog.cellsOf 4 = 1 := by kernel_rfl
theorem cellsAddr : Tryd.prog.cellsOf 23 = 2 := by kernel_rfl
theorem cellsRef : Tryd.prog.cellsOf 25 = 4 := by kernel_rfl
theorem cellsArea : Tryd.prog.cellsOf 38 = 4 := by kernel_rfl

section
variable {H : Type} {enc : TypeId × Value → H} {w : World} {base : Nat} {spare : Nat → Bool} {held : Bool}

theorem trodAll_five {P : Program} {t t1 t2 t3 t4 : TypeId} {args : Array Value} {ds : List (DataW H)} {ps : List MemPlace} (h : DataW.TrodAll enc P w base spare held [t, t1, t2, t3, t4] args.toList ds ps) :
    ∃ v v1 v2 v3 v4 d d1 d2 d3 d4 p p1 p2 p3 p4, args = #[v, v1, v2, v3, v4] ∧ ds = [d, d1, d2, d3, d4] ∧ ps = p ++ (p1 ++ p2 ++ p3 ++ p4) ∧ DataW.Trod enc P w base spare held t v d p ∧ DataW.Trod enc P w base spare held t1 v1 d1 p1 ∧ DataW.Trod enc P w base spare held t2 v2 d2 p2 ∧ DataW.Trod enc P w base spare held t3 v3 d3 p3 ∧ DataW.Trod enc P w base spare held t4 v4 d4 p4 := by
  obtain ⟨v, vs, d, ds', p, q, hargs, rfl, rfl, hd, hrest⟩ := trodAll_cons h
  obtain ⟨v1, v2, v3, v4, d1, d2, d3, d4, p1, p2, p3, p4, e, rfl, rfl, h1, h2, h3, h4⟩ := trodAll_four (args := vs.toArray) (by simpa using hrest)
  refine ⟨v, v1, v2, v3, v4, d, d1, d2, d3, d4, p, p1, p2, p3, p4, ?_, rfl, rfl, hd, h1, h2, h3, h4⟩
  obtain ⟨l⟩ := args
  have hv : vs = [v1, v2, v3, v4] := congrArg Array.toList e
  have hl : l = v :: vs := hargs
  rw [hl, hv]
theorem trod_addr {fuel : Nat} {v0 v1 : Value} {x : DataW H × List MemPlace} (h : DataW.trod enc Tryd.prog w base spare held fuel 23 [v0, v1] = some x) :
    ∃ c r : Int, v0 = .int .i64 c ∧ v1 = .int .i64 r := by
  obtain ⟨y0, y1, n, _, _, h0, h1⟩ := trod_struct2 Tryd.underlying23 h
  simp only [cellsInt, List.drop_zero, List.take_succ_cons, List.take_zero, List.drop_succ_cons] at h0 h1
  obtain ⟨c, e0, _, _⟩ := DataW.trod_int Tryd.underlying3 h0
  obtain ⟨r, e1, _, _⟩ := DataW.trod_int Tryd.underlying3 h1
  simp at e0 e1
  exact ⟨c, r, e0, e1⟩
theorem open_addr {rr : Reach} {b0 : Nat} {v : Value} {d : DataW H} {p : List MemPlace} (hv : Value.okWide Tryd.prog w rr b0 23 v) (h : DataW.Trod enc Tryd.prog w base spare held 23 v d p) :
    ∃ c r : Int, v = .agg #[.int .i64 c, .int .i64 r] := by
  obtain ⟨cs, rfl, hsz⟩ := okWide_struct Tryd.underlying23 hv
  obtain ⟨c0, c1, rfl⟩ := array2 (hsz.trans cellsAddr)
  obtain ⟨fuel, hf⟩ := h
  obtain ⟨c, r, rfl, rfl⟩ := trod_addr (by simpa [Value.cells] using hf)
  exact ⟨c, r, rfl⟩
theorem open_ref {rr : Reach} {b0 : Nat} {v : Value} {d : DataW H} {p : List MemPlace} (hv : Value.okWide Tryd.prog w rr b0 25 v) (h : DataW.Trod enc Tryd.prog w base spare held 25 v d p) :
    ∃ (c r : Int) (cf rf : Bool), v = .agg #[.int .i64 c, .int .i64 r, .bool cf, .bool rf] := by
  obtain ⟨cs, rfl, hsz⟩ := okWide_struct Tryd.underlying25 hv
  obtain ⟨c0, c1, c2, c3, rfl⟩ := array4 (hsz.trans cellsRef)
  obtain ⟨fuel, hf⟩ := h
  obtain ⟨y0, y1, y2, n, _, _, h0, h1, h2⟩ := trod_struct3 Tryd.underlying25 hf
  simp only [cellsAddr, cellsBool, Value.cells] at h0 h1 h2
  obtain ⟨c, r, rfl, rfl⟩ := trod_addr (by simpa using h0)
  obtain ⟨cf, e1, _⟩ := DataW.trod_bool Tryd.underlying4 h1
  obtain ⟨rf, e2, _⟩ := DataW.trod_bool Tryd.underlying4 h2
  simp at e1 e2
  exact ⟨c, r, cf, rf, by rw [e1, e2]⟩
theorem open_area {rr : Reach} {b0 : Nat} {v : Value} {d : DataW H} {p : List MemPlace} (hv : Value.okWide Tryd.prog w rr b0 38 v) (h : DataW.Trod enc Tryd.prog w base spare held 38 v d p) :
    ∃ c r d' s : Int, v = .agg #[.int .i64 c, .int .i64 r, .int .i64 d', .int .i64 s] := by
  obtain ⟨cs, rfl, hsz⟩ := okWide_struct Tryd.underlying38 hv
  obtain ⟨c0, c1, c2, c3, rfl⟩ := array4 (hsz.trans cellsArea)
  obtain ⟨fuel, hf⟩ := h
  obtain ⟨y0, y1, n, _, _, h0, h1⟩ := trod_struct2 Tryd.underlying38 hf
  simp only [cellsAddr, Value.cells] at h0 h1
  obtain ⟨c, r, rfl, rfl⟩ := trod_addr (by simpa using h0)
  obtain ⟨d', s, rfl, rfl⟩ := trod_addr (by simpa using h1)
  exact ⟨c, r, d', s, rfl⟩
end
end Go.Proofs.YthehdloofamadaaDoor
