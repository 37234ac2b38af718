/- weight and heavy: how many nodes. Contents as data; heavy. Contents that came in, with all their nodes, opened. A map by cells: its keys; its elements as they stand (raw). -/
import Derived.Test.YtbkcebbddhaifaaGreatDoorC1
import Derived.Deep.Slices
import Derived.ChangeSame
import Derived.OpenShut
import Derived.Maps.OwnSet
import Derived.Maps.RangeWalk
import Derived.Maps.Ext
import Derived.DeepKeys4
namespace Go.Proofs.YtbkcebbddhaifaaGreatDoor
open Go.RowKit

theorem infoNode : (Tryz.prog.info? 44).map (·.size) = some 15 := by kernel_rfl

/-- As many nodes as there are, m + 1 of more. -/
def wgt (n : Nat) (m : Int) : Int := if (n : Int) ≤ m then n else m + 1

end Go.Proofs.YtbkcebbddhaifaaGreatDoor
namespace Go.Proofs.YtbkcebbddhaifaaGreatDoor
open Go.RowKit

/-- A value's fields. -/
structure Vl where
  k : Int
  x : Nat
  s : ByteArray
  b : Bool
  f : Int
/-- A content. -/
structure Ct where
  k : Int
  v : Vl
  t : Nd
abbrev Vl.cells (v : Vl) : List Value := [.int .i64 v.k, .float .f64 v.x, .string v.s, .bool v.b, .int .i64 v.f]
abbrev Vl.val (v : Vl) : Value := .agg #[.int .i64 v.k, .float .f64 v.x, .string v.s, .bool v.b, .int .i64 v.f]
/-- Twenty-one cells: a content's, sl its node's list. -/
abbrev Ct.cells (c : Ct) (sl : Value) : List Value := [.int .i64 c.k, .int .i64 c.v.k, .float .f64 c.v.x, .string c.v.s, .bool c.v.b, .int .i64 c.v.f,
  .int .i64 c.t.hd.k, .int .i64 c.t.hd.o, .float .f64 c.t.hd.x, .string c.t.hd.s, .bool c.t.hd.b, .int .i64 c.t.hd.f, .int .i64 c.t.hd.c1, .int .i64 c.t.hd.r1, .bool c.t.hd.p1, .bool c.t.hd.q1, .int .i64 c.t.hd.c2, .int .i64 c.t.hd.r2, .bool c.t.hd.p2, .bool c.t.hd.q2, sl]
abbrev Ct.val (c : Ct) (sl : Value) : Value := .agg #[.int .i64 c.k, .int .i64 c.v.k, .float .f64 c.v.x, .string c.v.s, .bool c.v.b, .int .i64 c.v.f,
  .int .i64 c.t.hd.k, .int .i64 c.t.hd.o, .float .f64 c.t.hd.x, .string c.t.hd.s, .bool c.t.hd.b, .int .i64 c.t.hd.f, .int .i64 c.t.hd.c1, .int .i64 c.t.hd.r1, .bool c.t.hd.p1, .bool c.t.hd.q1, .int .i64 c.t.hd.c2, .int .i64 c.t.hd.r2, .bool c.t.hd.p2, .bool c.t.hd.q2, sl]

end Go.Proofs.YtbkcebbddhaifaaGreatDoor
namespace Go.Proofs.YtbkcebbddhaifaaGreatDoor
open Go.ChangeShapes Go.WideShapes Go.RowKit Go.Deep

theorem cellsInt : Tryz.prog.cellsOf 3 = 1 := by kernel_rfl
theorem cellsBool : Tryz.prog.cellsOf 4 = 1 := by kernel_rfl
theorem cellsF64 : Tryz.prog.cellsOf 39 = 1 := by kernel_rfl
theorem cellsStr : Tryz.prog.cellsOf 9 = 1 := by kernel_rfl
theorem cellsAddr : Tryz.prog.cellsOf 32 = 2 := by kernel_rfl
theorem cellsRef : Tryz.prog.cellsOf 41 = 4 := by kernel_rfl
theorem cellsNode : Tryz.prog.cellsOf 44 = 15 := by kernel_rfl
theorem cellsNodes : Tryz.prog.cellsOf 42 = 1 := by kernel_rfl
theorem cellsValue : Tryz.prog.cellsOf 53 = 5 := by kernel_rfl
theorem cellsContent : Tryz.prog.cellsOf 55 = 21 := by kernel_rfl

section
variable {H : Type} {enc : TypeId × Value → H} {w : World} {base : Nat}

set_option maxRecDepth 100000 in
theorem trod_f64 {fuel : Nat} {cs : List Value} {x : DataW H × List MemPlace} (h : DataW.trod enc Tryz.prog w base (fun _ => true) true fuel 39 cs = some x) : ∃ b : Nat, cs = [.float .f64 b] ∧ (Lit.float .f64 b).wf = true := by
  have ht := Tryz.underlying39
  cases fuel with
  | zero => simp [DataW.trod] at h
  | succ n =>
    unfold DataW.trod at h
    rw [ht] at h
    split at h <;> simp_all
theorem trod_int1 {fuel : Nat} {v : Value} {x : DataW H × List MemPlace} (h : DataW.trod enc Tryz.prog w base (fun _ => true) true fuel 3 [v] = some x) : ∃ c : Int, v = .int .i64 c := by
  obtain ⟨c, e, _, _⟩ := DataW.trod_int Tryz.underlying3 h
  exact ⟨c, by simpa using e⟩
theorem trod_addr {fuel : Nat} {v0 v1 : Value} {x : DataW H × List MemPlace} (h : DataW.trod enc Tryz.prog w base (fun _ => true) true fuel 32 [v0, v1] = some x) :
    ∃ c r : Int, v0 = .int .i64 c ∧ v1 = .int .i64 r := by
  obtain ⟨y0, y1, n, _, _, h0, h1⟩ := trod_struct2 Tryz.underlying32 h
  simp only [cellsInt, List.drop_zero, List.take_succ_cons, List.take_zero, List.drop_succ_cons] at h0 h1
  obtain ⟨c, rfl⟩ := trod_int1 h0
  obtain ⟨r, rfl⟩ := trod_int1 h1
  exact ⟨c, r, rfl, rfl⟩
theorem trod_ref {fuel : Nat} {v0 v1 v2 v3 : Value} {x : DataW H × List MemPlace} (h : DataW.trod enc Tryz.prog w base (fun _ => true) true fuel 41 [v0, v1, v2, v3] = some x) :
    ∃ (c r : Int) (p q : Bool), v0 = .int .i64 c ∧ v1 = .int .i64 r ∧ v2 = .bool p ∧ v3 = .bool q := by
  obtain ⟨xs, n, _, _, _, hlen, hf⟩ := DataW.trod_struct Tryz.underlying41 h
  match xs, hlen with
  | [y0, y1, y2], _ =>
    have g0 : DataW.trod enc Tryz.prog w base (fun _ => true) true n 32 [v0, v1] = some y0 := by simpa [cellsAddr] using hf 0 _ rfl
    have g1 : DataW.trod enc Tryz.prog w base (fun _ => true) true n 4 [v2] = some y1 := by simpa [cellsBool] using hf 1 _ rfl
    have g2 : DataW.trod enc Tryz.prog w base (fun _ => true) true n 4 [v3] = some y2 := by simpa [cellsBool] using hf 2 _ rfl
    obtain ⟨c, r, rfl, rfl⟩ := trod_addr g0
    obtain ⟨p, e1, _⟩ := DataW.trod_bool Tryz.underlying4 g1
    obtain ⟨q, e2, _⟩ := DataW.trod_bool Tryz.underlying4 g2
    exact ⟨c, r, p, q, rfl, rfl, by simpa using e1, by simpa using e2⟩
theorem nds_of {F : Nat → Prop} {b : Nat} : ∀ (ts : List Nd) (o : Nat), (∀ (i : Nat) (t : Nd), ts[i]? = some t → ∃ sl, w.rangeAt b (o + i * 15) (t.hd.cells sl) ∧ NdIn w F sl t) → NdsIn w F b o ts
  | [], _, _ => by rw [NdsIn]; trivial
  | t :: ts, o, h => by
    rw [NdsIn]
    refine ⟨?_, nds_of ts (o + 15) (fun i u hu => ?_)⟩
    · have := h 0 t rfl
      rw [Nat.zero_mul, Nat.add_zero] at this
      exact this
    · have := h (i + 1) u (by simpa using hu)
      rw [show o + (i + 1) * 15 = o + 15 + i * 15 by omega] at this
      exact this
instance : Inhabited Nd := ⟨.mk ⟨0, 0, 0, ⟨#[]⟩, false, 0, 0, 0, false, false, 0, 0, false, false⟩ []⟩
theorem by_each {α : Type} [Inhabited α] {len : Nat} {p : Nat → α → Prop} (h : ∀ i, i < len → ∃ x, p i x) : ∃ A : List α, A.length = len ∧ ∀ (i : Nat) (x : α), A[i]? = some x → p i x := by
  obtain ⟨f, hf⟩ := choose_lt h
  refine ⟨(List.range len).map f, by simp, fun i x hx => ?_⟩
  rw [List.getElem?_map] at hx
  rcases Nat.lt_or_ge i len with hi | hi
  · rw [List.getElem?_range hi] at hx
    simp only [Option.map_some, Option.some.injEq] at hx
    rw [← hx]; exact hf i hi
  · rw [List.getElem?_eq_none (by simpa using hi)] at hx; cases hx
theorem open_nodes {m : Nat} (ih : ∀ n, n < m → ∀ (cs : List Value) (x : DataW H × List MemPlace), DataW.trod enc Tryz.prog w base (fun _ => true) true n 44 cs = some x → ∃ (t : Nd) (sl : Value), cs = t.hd.cells sl ∧ NdIn w (fun _ => True) sl t)
    {v : Value} {x : DataW H × List MemPlace} (h : DataW.trod enc Tryz.prog w base (fun _ => true) true m 42 [v] = some x) : ∃ ts : List Nd, ∀ hd : Hd, NdIn w (fun _ => True) v (.mk hd ts) := by
  rcases DataW.trod_slice Tryz.underlying42 h with ⟨hcs, _⟩ | ⟨a, len, cap, elems, rest, n, rfl, hcs, _, _, hl, hm, hel, hx, _, _⟩
  · have hv : v = .slice none 0 0 := by simpa using hcs
    subst hv
    refine ⟨[], fun hd => ?_⟩
    rw [NdIn]
    exact ⟨none, 0, rfl, Nat.le_refl _, by decide, .inl ⟨rfl, .inl rfl⟩⟩
  · have hv : v = .slice (some a) len cap := by simpa using hcs
    subst hv
    rw [cellsNode] at hx
    have each : ∀ i, i < len → ∃ t : Nd, ∃ cs', ∃ sl, w.cells? base (a.add (i * 15)) 15 = some cs' ∧ cs' = t.hd.cells sl ∧ NdIn w (fun _ => True) sl t := fun i hi => by
      have h1 := hx i hi
      rw [List.getElem?_eq_getElem (by omega)] at h1
      obtain ⟨cs', e1, e2⟩ := Option.bind_eq_some_iff.1 h1
      obtain ⟨t, sl, e3, e4⟩ := ih n (by omega) cs' _ e2
      exact ⟨t, cs', sl, e1, e3, e4⟩
    rcases Nat.eq_zero_or_pos len with h0 | h0
    · subst h0
      refine ⟨[], fun hd => ?_⟩
      rw [NdIn]
      exact ⟨some a, cap, rfl, Nat.zero_le _, hm, .inl ⟨rfl, .inr (by simp)⟩⟩
    · have hsp : a.spot = none := by
        obtain ⟨t, cs', sl, e1, e2, _⟩ := each 0 h0
        obtain ⟨_, hlen, hcell⟩ := World.cells?_some e1
        have := hcell 0 (by omega)
        rw [List.getElem?_eq_getElem (by omega)] at this
        simpa [Addr.add] using World.cell?_spot this
      obtain ⟨b, o, sp⟩ := a
      simp only at hsp
      subst hsp
      obtain ⟨ts, hts, hat⟩ := by_each each
      refine ⟨ts, fun hd => ?_⟩
      rw [NdIn]
      refine ⟨some ⟨b, o, none⟩, cap, by rw [hts], by omega, hm, .inr ⟨b, o, rfl, trivial, nds_of ts o (fun i t ht => ?_)⟩⟩
      obtain ⟨cs', sl, e1, e2, e3⟩ := hat i t ht
      obtain ⟨_, hlen, hcell⟩ := World.cells?_some e1
      refine ⟨sl, fun j u hu => ?_, e3⟩
      rw [← e2] at hu
      have hj : j < 15 := by rw [← hlen]; exact (List.getElem?_eq_some_iff.1 hu).1
      have := hcell j hj
      rw [add_plain, add_plain, hu] at this
      exact this
set_option maxRecDepth 100000 in
theorem open_node (fuel : Nat) : ∀ (cs : List Value) (x : DataW H × List MemPlace), DataW.trod enc Tryz.prog w base (fun _ => true) true fuel 44 cs = some x → ∃ (t : Nd) (sl : Value), cs = t.hd.cells sl ∧ NdIn w (fun _ => True) sl t := by
  induction fuel using Nat.strongRecOn with
  | _ fuel ih =>
    intro cs x h
    obtain ⟨xs, n, rfl, _, hl, hlen, hf⟩ := DataW.trod_struct Tryz.underlying44 h
    rw [cellsNode] at hl
    match xs, hlen, cs, hl with
    | [y0, y1, y2, y3, y4, y5, y6, y7, y8], _, [v0, v1, v2, v3, v4, v5, v6, v7, v8, v9, v10, v11, v12, v13, v14], _ =>
      have g0 : DataW.trod enc Tryz.prog w base (fun _ => true) true n 3 [v0] = some y0 := by simpa [cellsInt] using hf 0 _ rfl
      have g1 : DataW.trod enc Tryz.prog w base (fun _ => true) true n 3 [v1] = some y1 := by simpa [cellsInt] using hf 1 _ rfl
      have g2 : DataW.trod enc Tryz.prog w base (fun _ => true) true n 39 [v2] = some y2 := by simpa [cellsF64] using hf 2 _ rfl
      have g3 : DataW.trod enc Tryz.prog w base (fun _ => true) true n 9 [v3] = some y3 := by simpa [cellsStr] using hf 3 _ rfl
      have g4 : DataW.trod enc Tryz.prog w base (fun _ => true) true n 4 [v4] = some y4 := by simpa [cellsBool] using hf 4 _ rfl
      have g5 : DataW.trod enc Tryz.prog w base (fun _ => true) true n 3 [v5] = some y5 := by simpa [cellsInt] using hf 5 _ rfl
      have g6 : DataW.trod enc Tryz.prog w base (fun _ => true) true n 41 [v6, v7, v8, v9] = some y6 := by simpa [cellsRef] using hf 6 _ rfl
      have g7 : DataW.trod enc Tryz.prog w base (fun _ => true) true n 41 [v10, v11, v12, v13] = some y7 := by simpa [cellsRef] using hf 7 _ rfl
      have g8 : DataW.trod enc Tryz.prog w base (fun _ => true) true n 42 [v14] = some y8 := by simpa [cellsNodes] using hf 8 _ rfl
      obtain ⟨k, rfl⟩ := trod_int1 g0
      obtain ⟨o, rfl⟩ := trod_int1 g1
      obtain ⟨xx, e2, _⟩ := trod_f64 g2
      obtain ⟨s, e3, _⟩ := DataW.trod_string Tryz.underlying9 g3
      obtain ⟨b, e4, _⟩ := DataW.trod_bool Tryz.underlying4 g4
      obtain ⟨f, rfl⟩ := trod_int1 g5
      obtain ⟨c1, r1, p1, q1, rfl, rfl, rfl, rfl⟩ := trod_ref g6
      obtain ⟨c2, r2, p2, q2, rfl, rfl, rfl, rfl⟩ := trod_ref g7
      obtain ⟨ts, hts⟩ := open_nodes (m := n) (fun n' hn' => ih n' (by omega)) g8
      have f2 : v2 = .float .f64 xx := by simpa using e2
      have f3 : v3 = .string s := by simpa using e3
      have f4 : v4 = .bool b := by simpa using e4
      subst f2 f3 f4
      exact ⟨.mk ⟨k, o, xx, s, b, f, c1, r1, p1, q1, c2, r2, p2, q2⟩ ts, v14, rfl, hts _⟩
set_option maxRecDepth 100000 in
theorem open_content {rr : Reach} {b0 : Nat} {v : Value} {d : DataW H} {p : List MemPlace} (hv : Value.okWide Tryz.prog w rr b0 55 v) (h : DataW.Trod enc Tryz.prog w base (fun _ => true) true 55 v d p) :
    ∃ (c : Ct) (sl : Value), v = c.val sl ∧ NdIn w (fun _ => True) sl c.t := by
  obtain ⟨⟨l⟩, rfl, hsz⟩ := okWide_struct Tryz.underlying55 hv
  have hl21 : l.length = 21 := hsz.trans cellsContent
  obtain ⟨fuel, hf⟩ := h
  have hf' : DataW.trod enc Tryz.prog w base (fun _ => true) true fuel 55 l = some (d, p) := by simpa [Value.cells] using hf
  obtain ⟨xs, n, rfl, _, _, hlen, hg⟩ := DataW.trod_struct Tryz.underlying55 hf'
  match xs, hlen, l, hl21 with
  | [y0, y1, y2], _, [v0, v1, v2, v3, v4, v5, u0, u1, u2, u3, u4, u5, u6, u7, u8, u9, u10, u11, u12, u13, u14], _ =>
    have g0 : DataW.trod enc Tryz.prog w base (fun _ => true) true n 3 [v0] = some y0 := by simpa [cellsInt] using hg 0 _ rfl
    have g1' : DataW.trod enc Tryz.prog w base (fun _ => true) true n 53 [v1, v2, v3, v4, v5] = some y1 := by simpa [cellsValue] using hg 1 _ rfl
    have g2' : DataW.trod enc Tryz.prog w base (fun _ => true) true n 44 [u0, u1, u2, u3, u4, u5, u6, u7, u8, u9, u10, u11, u12, u13, u14] = some y2 := by simpa [cellsNode] using hg 2 _ rfl
    obtain ⟨k, rfl⟩ := trod_int1 g0
    obtain ⟨zs, n2, _, _, _, hlen2, hz⟩ := DataW.trod_struct Tryz.underlying53 g1'
    match zs, hlen2 with
    | [z0, z1, z2, z3, z4], _ =>
      have k0 : DataW.trod enc Tryz.prog w base (fun _ => true) true n2 3 [v1] = some z0 := by simpa [cellsInt] using hz 0 _ rfl
      have k1 : DataW.trod enc Tryz.prog w base (fun _ => true) true n2 39 [v2] = some z1 := by simpa [cellsF64] using hz 1 _ rfl
      have k2 : DataW.trod enc Tryz.prog w base (fun _ => true) true n2 9 [v3] = some z2 := by simpa [cellsStr] using hz 2 _ rfl
      have k3 : DataW.trod enc Tryz.prog w base (fun _ => true) true n2 4 [v4] = some z3 := by simpa [cellsBool] using hz 3 _ rfl
      have k4 : DataW.trod enc Tryz.prog w base (fun _ => true) true n2 3 [v5] = some z4 := by simpa [cellsInt] using hz 4 _ rfl
      obtain ⟨vk, rfl⟩ := trod_int1 k0
      obtain ⟨vx, e1, _⟩ := trod_f64 k1
      obtain ⟨vs, e2, _⟩ := DataW.trod_string Tryz.underlying9 k2
      obtain ⟨vb, e3, _⟩ := DataW.trod_bool Tryz.underlying4 k3
      obtain ⟨vf, rfl⟩ := trod_int1 k4
      have f1 : v2 = .float .f64 vx := by simpa using e1
      have f2 : v3 = .string vs := by simpa using e2
      have f3 : v4 = .bool vb := by simpa using e3
      subst f1 f2 f3
      obtain ⟨t, sl, e, hin⟩ := open_node n _ _ g2'
      simp only [Hd.cells, List.cons.injEq, and_true] at e
      obtain ⟨rfl, rfl, rfl, rfl, rfl, rfl, rfl, rfl, rfl, rfl, rfl, rfl, rfl, rfl, rfl⟩ := e
      exact ⟨⟨k, ⟨vk, vx, vs, vb, vf⟩, t⟩, u14, rfl, hin⟩
end
end Go.Proofs.YtbkcebbddhaifaaGreatDoor
namespace Go.Proofs.YtbkcebbddhaifaaGreatDoor
open Go.RowKit Go.Maps

theorem laidOutP : laidOutB Tryz.prog = true := by kernel_rfl
theorem rowAddr : (32 : TypeId) < Tryz.prog.types.size := of_decide_eq_true (by kernel_rfl)
theorem cellsAddr2 : Tryz.prog.cellsOf 32 = 2 := by kernel_rfl
theorem cellsInt1 : Tryz.prog.cellsOf 3 = 1 := by kernel_rfl
theorem wideAddr : (match Tryz.prog.underlying 32 with | some (.array _ _) | some (.struct _) => true | _ => false) = true := by rw [Tryz.underlying32]
set_option maxRecDepth 20000 in
theorem keyAtAddr : Tryz.prog.keyTypeAt 2 32 = true := by kernel_rfl
set_option maxRecDepth 20000 in
theorem lawAddr : Keyed Tryz.prog 32 := Keyed.of_law (deep_law_laid laidOutP (m := 2) (by decide) rowAddr keyAtAddr wideAddr)
theorem keyTypeAddr : Tryz.prog.keyType 32 = true := by kernel_rfl
theorem formedAddr {c0 c1 : Value} : (Value.agg #[c0, c1]).formed Tryz.prog 32 = true := by simp [Value.formed, Tryz.underlying32, cellsAddr2]

/-- Between the least and the greatest int. -/
def I64 (x : Int) : Prop := -9223372036854775808 ≤ x ∧ x ≤ 9223372036854775807
theorem I64.wf {x : Int} (h : I64 x) : (Lit.int .i64 x).wf = true := by
  obtain ⟨h1, h2⟩ := h
  exact WalkArith.wf_i64 (by omega)
theorem keyOf_addr (c r : Int) (hc : I64 c) (hr : I64 r) : ∃ l, keyOf Tryz.prog 32 (.agg #[.int .i64 c, .int .i64 r]) = some l := by
  unfold keyOf
  rw [Tryz.underlying32]
  simp only [keyTypeAddr, formedAddr, Bool.and_self, if_true]
  obtain ⟨n, hn⟩ : ∃ n, Tryz.prog.types.size = n + 1 := by
    have h := rowAddr
    generalize Tryz.prog.types.size = s at h
    cases s with
    | zero => exact absurd h (Nat.not_lt_zero _)
    | succ n => exact ⟨n, rfl⟩
  rw [hn]
  simp [Program.keyLits, Tryz.underlying32, Tryz.underlying3, Value.cells, cellsInt1, cellsAddr2, hc.wf, hr.wf]
end Go.Proofs.YtbkcebbddhaifaaGreatDoor
