/- The kit's contract of utf8.ValidString, laid over this dump (by wip/shelfv.py: the numbers are this seat's). GridFull: how a grid is filled; puts into it. GridFull: the puts behind the loop. -/
import Derived.Shelf.Unicode.ValidAny
import Derived.Test.YtbkcebbddhaifaaGreatDoorProg
import Derived.Test.YtbkcebbddhaifaaGreatDoorC21
import Derived.Test.YtbkcebbddhaifaaGreatDoorC12
namespace Go.Proofs
open Go.Shelf
def Tryz.laysValid_ren : Go.Shelf.Ren := ⟨fun | 196 => 141 | 259 => 164 | n => n, fun | 9 => 9 | 4 => 4 | 3 => 3 | 5 => 5 | 12 => 12 | 119 => 182 | 0 => 0 | 46 => 186 | 139 => 185 | 138 => 184 | 53 => 161 | n => n, fun | 3 => 1 | 4 => 2 | n => n⟩
theorem Tryz.laysValid : Go.Proofs.Lays.n196 Tryz.prog Tryz.laysValid_ren := {
  mixed := by kernel_rfl
  f196 := Tryz.func141.trans (congrArg some (by kernel_rfl))
  f259 := Tryz.func164.trans (congrArg some (by kernel_rfl))
  t0 := Tryz.underlying0
  a0 := Tryz.isAgg0
  z0 := Tryz.sizeOf0
  v0 := Tryz.zeroValue0
  t3 := Tryz.underlying3
  a3 := Tryz.isAgg3
  z3 := Tryz.sizeOf3
  v3 := Tryz.zeroValue3
  t4 := Tryz.underlying4
  a4 := Tryz.isAgg4
  z4 := Tryz.sizeOf4
  v4 := Tryz.zeroValue4
  t5 := Tryz.underlying5
  a5 := Tryz.isAgg5
  z5 := Tryz.sizeOf5
  v5 := Tryz.zeroValue5
  t9 := Tryz.underlying9
  a9 := Tryz.isAgg9
  z9 := Tryz.sizeOf9
  v9 := Tryz.zeroValue9
  t12 := Tryz.underlying12
  a12 := Tryz.isAgg12
  z12 := Tryz.sizeOf12
  v12 := Tryz.zeroValue12
  t46 := Tryz.underlying186
  a46 := Tryz.isAgg186
  z46 := Tryz.sizeOf186
  v46 := Tryz.zeroValue186
  t53 := Tryz.underlying161
  a53 := Tryz.isAgg161
  z53 := Tryz.sizeOf161
  v53 := Tryz.zeroValue161
  t119 := Tryz.underlying182
  a119 := Tryz.isAgg182
  z119 := Tryz.sizeOf182
  t138 := Tryz.underlying184
  a138 := Tryz.isAgg184
  z138 := Tryz.sizeOf184
  v138 := Tryz.zeroValue184
  t139 := Tryz.underlying185
  a139 := Tryz.isAgg185
  z139 := Tryz.sizeOf185
  v139 := Tryz.zeroValue185
  g3 := by kernel_rfl
  g4 := by kernel_rfl }
end Go.Proofs
namespace Go.Proofs.YtbkcebbddhaifaaGreatDoor
open Go.RowKit Go.Maps

theorem vs_of {w : World} (hT : Lib.Utf8Tabs (Tryz.laysValid_ren.g 3) (Tryz.laysValid_ren.g 4) w) : VS w := fun s wq hs hk => by
  have hc : ∀ {b j : Nat} {v : Value}, w.cell? ⟨b, j, none⟩ = some v → wq.cell? ⟨b, j, none⟩ = some v := fun {b j v} h => by
    have := hk.block b (cell_lt h) (fun x => x)
    simp only [World.cell?] at h ⊢
    rw [this]; exact h
  have hT' : Lib.Utf8Tabs (Tryz.laysValid_ren.g 3) (Tryz.laysValid_ren.g 4) wq := ⟨fun c h => hc (hT.1 c h), fun i h => ⟨hc (hT.2 i h).1, hc (hT.2 i h).2⟩⟩
  refine (Any.utf8_ValidString Tryz.laysValid s wq (by omega) hT').mono ?_
  rintro e w' ⟨h1, h2⟩
  exact ⟨h1, Kp.of_below h2⟩
/-- The first k cells of rows of wd cells have contents. -/
def Fills (wd k : Nat) (L : List Cc) : Prop := L.length = k ∧ ∀ c r : Int, (∃ ct, ((c, r), ct) ∈ L) ↔ ∃ a b : Nat, c = (b : Int) + 1 ∧ r = (a : Int) + 1 ∧ b < wd ∧ a * wd + b < k
theorem fills_zero (wd : Nat) : Fills wd 0 [] := ⟨rfl, fun c r => ⟨fun ⟨ct, h⟩ => absurd h List.not_mem_nil, fun ⟨a, b, _, _, _, h⟩ => absurd h (by omega)⟩⟩
theorem cell_one {wd a b a' b' : Nat} (h : a * wd + b = a' * wd + b') (hb : b < wd) (hb' : b' < wd) : a = a' ∧ b = b' := by
  rcases Nat.lt_trichotomy a a' with g | g | g
  · have := Nat.mul_le_mul_right wd g
    rw [Nat.succ_mul] at this
    omega
  · subst g; exact ⟨rfl, by omega⟩
  · have := Nat.mul_le_mul_right wd g
    rw [Nat.succ_mul] at this
    omega
theorem Fills.new {wd k a b : Nat} {L : List Cc} (h : Fills wd k L) (hb : b < wd) (hk : a * wd + b = k) : ∀ ct, (((b : Int) + 1, (a : Int) + 1), ct) ∉ L := fun ct hct => by
  obtain ⟨a', b', e1, e2, e3, e4⟩ := (h.2 _ _).1 ⟨ct, hct⟩
  have e1' : b' = b := by omega
  have e2' : a' = a := by omega
  subst e1' e2'
  omega
theorem Fills.step {wd k a b : Nat} {L : List Cc} {ct : Ct} (h : Fills wd k L) (hb : b < wd) (hk : a * wd + b = k) : Fills wd (k + 1) (putL L ((b : Int) + 1, (a : Int) + 1) ct) := by
  refine ⟨by rw [putL_out (h.new hb hk), h.1], fun c r => ?_⟩
  constructor
  · rintro ⟨ct', hm⟩
    rcases (putL_mem _).1 hm with e | ⟨e, _⟩
    · cases e
      exact ⟨a, b, rfl, rfl, hb, by omega⟩
    · obtain ⟨a', b', e1, e2, e3, e4⟩ := (h.2 _ _).1 ⟨ct', e⟩
      exact ⟨a', b', e1, e2, e3, by omega⟩
  · rintro ⟨a', b', rfl, rfl, e3, e4⟩
    by_cases hlt : a' * wd + b' < k
    · obtain ⟨ct', hm⟩ := (h.2 _ _).2 ⟨a', b', rfl, rfl, e3, hlt⟩
      exact ⟨ct', (putL_mem _).2 (.inr ⟨hm, fun e => h.new hb hk ct' (by rw [← e]; exact hm)⟩)⟩
    · obtain ⟨rfl, rfl⟩ := cell_one (show a' * wd + b' = a * wd + b by omega) e3 hb
      exact ⟨ct, (putL_mem _).2 (.inl rfl)⟩

/-- A content that came in. -/
structure Cn (w : World) (ct : Ct) (sl : Value) : Prop where
  ok : ct.t.ok
  vx : ct.v.x < 18446744073709551616
  inn : NdIn w (fun _ => True) sl ct.t
def ct0 : Ct := ⟨0, ⟨0, 0, ⟨#[]⟩, false, 0⟩, zNd⟩
theorem cn0 (w : World) : Cn w ct0 (.slice none 0 0) := ⟨zNd_ok, by decide, zNd_in w _⟩
theorem gv0 : gv ct0 = true := by
  have h1 : zeroV ct0.v = true := by simp [zeroV, bareV, ct0]
  have h2 : zeroN ct0.t = true := zeroN_z
  unfold gv validC
  rw [h1, h2]
  rfl
theorem Cn.val {w u : World} {ct : Ct} {sl : Value} (h : Cn w ct sl) (hv : VS w) (hg : gv ct = true) (hk : Kp w u Nul) : ∀ wq, Kp u wq Nul → Calls Tryz.prog 58 #[ct.val sl] wq fun e w' => e = .returned (.bool true) ∧ Kp wq w' Nul := fun wq hq => by
  have := gv_at ct sl (fun _ => True) wq h.ok (h.inn.kp (hk.trans hq) (fun _ _ x => x)) (hv.kp (hk.trans hq))
  rw [hg] at this
  exact this
theorem Cn.cp {w u : World} {ct : Ct} {sl : Value} (h : Cn w ct sl) (hs : ct.t.size ≤ 1048576) (hk : Kp w u Nul) : ∀ wq, Kp u wq Nul → Calls Tryz.prog 61 #[ct.val sl] wq fun e w' => ∃ sl' fp, e = .returned ((cpC ct).val sl') ∧ Own w' wq.heap.size sl' (cpC ct).t fp ∧ Kp wq w' Nul := fun wq hq => by
  refine (gCopy_at ct sl (fun _ => True) wq h.vx hs h.ok (h.inn.kp (hk.trans hq) (fun _ _ x => x))).mono ?_
  rintro e w' ⟨sl', fp, h1, h2, h3⟩
  exact ⟨sl', fp, h1, h2, Kp.of_below h3⟩
/-- How it stands: the grid has L; w2: the world as it was laid. -/
structure FS (w w2 : World) (g : Nat) (L : List Cc) (u : World) : Prop where
  gi : GI w.heap.size u g L
  kg : Kg w.heap.size g w2 u
  kw : Kp w u Nul
section
variable {w w2 u u' : World} {g : Nat} {L L' : List Cc}
theorem FS.kp (h : FS w w2 g L u) (hk : Kp u u' Nul) : FS w w2 g L u' := ⟨h.gi.kp hk, h.kg.trans (Kg.of_nul hk), h.kw.trans hk⟩
theorem FS.step (h : FS w w2 g L u) (hg : GI w.heap.size u' g L') (hk : Kg w.heap.size g u u') : FS w w2 g L' u' :=
  ⟨hg, h.kg.trans hk, h.kw.trans' hk (fun i hi e => by
    have hB : w.heap.size ≤ g := h.gi.1
    rcases e with e | e
    · omega
    · omega)⟩
theorem fs_ok (h : FS w w2 g L u) {ct : Ct} {sl : Value} (hc : Cn w ct sl) (hv : VS w) (hg : gv ct = true) (hs : ct.t.size ≤ 1048576) (hk : ct.k ≠ 0) {c r : Int} (hx : vC c r = true) (hl : L.length ≤ 4096) (hroom : L.length < 4096 ∨ ∃ c', ((c, r), c') ∈ L) :
    Calls Tryz.prog 16 #[.pointer (some ⟨g, 0, none⟩), .agg #[.int .i64 c, .int .i64 r], ct.val sl] u fun e w' => e = .returned (.int .i64 0) ∧ FS w w2 g (putL L (c, r) (cpC ct)) w' := by
  refine (put_ok w.heap.size g c r hx ct hk sl L u h.gi hl hroom (hc.val hv hg h.kw) (hc.cp hs h.kw)).mono ?_
  rintro e w' ⟨rfl, h1, h2⟩
  exact ⟨rfl, h.step h1 h2⟩
theorem fs_full (h : FS w w2 g L u) {ct : Ct} {sl : Value} (hc : Cn w ct sl) (hv : VS w) (hg : gv ct = true) (hk : ct.k ≠ 0) {c r : Int} (hx : vC c r = true) (hl : 4096 ≤ L.length) (hno : ∀ c', ((c, r), c') ∉ L) :
    Calls Tryz.prog 16 #[.pointer (some ⟨g, 0, none⟩), .agg #[.int .i64 c, .int .i64 r], ct.val sl] u fun e w' => e = .returned (.int .i64 41) ∧ FS w w2 g L w' := by
  refine (put_full w.heap.size g c r hx ct hk sl L u h.gi hl hno (hc.val hv hg h.kw)).mono ?_
  rintro e w' ⟨rfl, h1⟩
  exact ⟨rfl, h.kp h1⟩
theorem fs_del (h : FS w w2 g L u) {ct : Ct} {sl : Value} (hc : Cn w ct sl) (hv : VS w) (hg : gv ct = true) (hk : ct.k = 0) {c r : Int} (hx : vC c r = true) :
    Calls Tryz.prog 16 #[.pointer (some ⟨g, 0, none⟩), .agg #[.int .i64 c, .int .i64 r], ct.val sl] u fun e w' => e = .returned (.int .i64 0) ∧ FS w w2 g (delL L (c, r)) w' := by
  refine (put_del w.heap.size g c r hx ct hk sl L u h.gi (hc.val hv hg h.kw)).mono ?_
  rintro e w' ⟨rfl, h1, h2⟩
  exact ⟨rfl, h.step h1 h2⟩
end
end Go.Proofs.YtbkcebbddhaifaaGreatDoor
namespace Go.Proofs.YtbkcebbddhaifaaGreatDoor
open Go.RowKit Go.Maps

/-- How it stands behind the loop: the grid, two cells' own blocks. -/
structure TS (w w2 : World) (g p1 p2 : Nat) (x y : Int) (L : List Cc) (u : World) : Prop where
  fs : FS w w2 g L u
  b1 : Blk u p1 [.int .i64 x, .int .i64 y] 32
  b2 : Blk u p2 [.int .i64 1, .int .i64 1] 32
  n1 : p1 ≠ g
  n2 : p2 ≠ g
section
variable {w w2 u u' : World} {g p1 p2 : Nat} {x y : Int} {L L' : List Cc}
theorem TS.step (h : TS w w2 g p1 p2 x y L u) (hg : GI w.heap.size u' g L') (hk : Kg w.heap.size g u u') : TS w w2 g p1 p2 x y L' u' :=
  ⟨h.fs.step hg hk, hk.blk h.b1 h.n1, hk.blk h.b2 h.n2, h.n1, h.n2⟩
theorem TS.kp (h : TS w w2 g p1 p2 x y L u) (hk : Kp u u' Nul) : TS w w2 g p1 p2 x y L u' :=
  ⟨h.fs.kp hk, h.b1.kp hk (fun x => x), h.b2.kp hk (fun x => x), h.n1, h.n2⟩
theorem ts_full (h : TS w w2 g p1 p2 x y L u) {ct : Ct} {sl : Value} (hc : Cn w ct sl) (hv : VS w) (hg : gv ct = true) (hk : ct.k ≠ 0) (hx : vC x y = true) (hl : L.length = 4096) (hno : ∀ c', ((x, y), c') ∉ L) :
    Calls Tryz.prog 16 #[.pointer (some ⟨g, 0, none⟩), .agg #[.int .i64 x, .int .i64 y], ct.val sl] u fun e w' => e = .returned (.int .i64 41) ∧ TS w w2 g p1 p2 x y L w' := by
  refine (put_full w.heap.size g x y hx ct hk sl L u h.fs.gi (by omega) hno (hc.val hv hg h.fs.kw)).mono ?_
  rintro e w' ⟨rfl, h1⟩
  exact ⟨rfl, h.kp h1⟩
theorem ts_none (h : TS w w2 g p1 p2 x y L u) (hv : VS w) (hx : vC x y = true) (hno : ∀ c', ((x, y), c') ∉ L) :
    Calls Tryz.prog 16 #[.pointer (some ⟨g, 0, none⟩), .agg #[.int .i64 x, .int .i64 y], zCv] u fun e w' => e = .returned (.int .i64 0) ∧ TS w w2 g p1 p2 x y L w' := by
  refine (put_del w.heap.size g x y hx ct0 rfl (.slice none 0 0) L u h.fs.gi ((cn0 w).val hv gv0 h.fs.kw)).mono ?_
  rintro e w' ⟨rfl, h1, h2⟩
  rw [delL_out hno] at h1
  exact ⟨rfl, h.step h1 h2⟩
theorem ts_gone (h : TS w w2 g p1 p2 x y L u) (hv : VS w) :
    Calls Tryz.prog 16 #[.pointer (some ⟨g, 0, none⟩), .agg #[.int .i64 1, .int .i64 1], zCv] u fun e w' => e = .returned (.int .i64 0) ∧ TS w w2 g p1 p2 x y (delL L (1, 1)) w' := by
  refine (put_del w.heap.size g 1 1 (by decide) ct0 rfl (.slice none 0 0) L u h.fs.gi ((cn0 w).val hv gv0 h.fs.kw)).mono ?_
  rintro e w' ⟨rfl, h1, h2⟩
  exact ⟨rfl, h.step h1 h2⟩
theorem ts_other (h : TS w w2 g p1 p2 x y L u) {ct : Ct} {sl : Value} (hc : Cn w ct sl) (hv : VS w) (hg : gv ct = true) (hs : ct.t.size ≤ 1048576) (hl : L.length = 4096) (hin : ∃ c', (((1 : Int), (1 : Int)), c') ∈ L) (hno : ∀ c', ((x, y), c') ∉ L) :
    Calls Tryz.prog 16 #[.pointer (some ⟨g, 0, none⟩), .agg #[.int .i64 1, .int .i64 1], ct.val sl] u fun e w' => e = .returned (.int .i64 0) ∧ ∃ L', TS w w2 g p1 p2 x y L' w' ∧ (delL L' (1, 1)).length = 4095 ∧ ∀ c', ((x, y), c') ∉ delL L' (1, 1) := by
  have ho := h.fs.gi.once
  have hne : (x, y) ≠ ((1 : Int), (1 : Int)) := fun e => by
    obtain ⟨c', hc'⟩ := hin
    rw [← e] at hc'
    exact hno c' hc'
  have h1 := delL_in ho hin
  by_cases hk : ct.k = 0
  · refine (put_del w.heap.size g 1 1 (by decide) ct hk sl L u h.fs.gi (hc.val hv hg h.fs.kw)).mono ?_
    rintro e w' ⟨rfl, q1, q2⟩
    refine ⟨rfl, _, h.step q1 q2, ?_, fun c' hc' => hno c' ((delL_mem _).1 ((delL_mem _).1 hc').1).1⟩
    rw [delL_out (fun c' hc' => ((delL_mem _).1 hc').2 rfl)]
    omega
  · refine (put_ok w.heap.size g 1 1 (by decide) ct hk sl L u h.fs.gi (by omega) (.inr hin) (hc.val hv hg h.fs.kw) (hc.cp hs h.fs.kw)).mono ?_
    rintro e w' ⟨rfl, q1, q2⟩
    have ho' := q1.once
    have h2 := delL_in (k := (1, 1)) ho' ⟨_, (putL_mem _).2 (.inl rfl)⟩
    have h3 := putL_in (ct := cpC ct) ho hin
    refine ⟨rfl, _, h.step q1 q2, by omega, fun c' hc' => ?_⟩
    rcases (putL_mem _).1 ((delL_mem _).1 hc').1 with e | e
    · exact hne (congrArg Prod.fst e)
    · exact hno c' e.1
theorem ts_again (h : TS w w2 g p1 p2 x y L u) {ct : Ct} {sl : Value} (hc : Cn w ct sl) (hv : VS w) (hg : gv ct = true) (hs : ct.t.size ≤ 1048576) (hk : ct.k ≠ 0) (hx : vC x y = true) (hl : L.length = 4095) (hno : ∀ c', ((x, y), c') ∉ L) :
    Calls Tryz.prog 16 #[.pointer (some ⟨g, 0, none⟩), .agg #[.int .i64 x, .int .i64 y], ct.val sl] u fun e w' => e = .returned (.int .i64 0) ∧ ∃ L', TS w w2 g p1 p2 x y L' w' ∧ L'.length = 4096 := by
  refine (put_ok w.heap.size g x y hx ct hk sl L u h.fs.gi (by omega) (.inl (by omega)) (hc.val hv hg h.fs.kw) (hc.cp hs h.fs.kw)).mono ?_
  rintro e w' ⟨rfl, q1, q2⟩
  exact ⟨rfl, _, h.step q1 q2, by rw [putL_out hno, hl]⟩
end
mutual
theorem NdIn.monoR {w w' : World} {F F' : Nat → Prop} (hF : ∀ b, F b → (∃ o h sl, w.rangeAt b o (Hd.cells h sl)) → w'.heap[b]? = w.heap[b]? ∧ F' b) {sl : Value} : ∀ {t : Nd}, NdIn w F sl t → NdIn w' F' sl t
  | .mk _ ts, h => by
    rw [NdIn] at h ⊢
    obtain ⟨a, c, h1, h2, h3, h4⟩ := h
    refine ⟨a, c, h1, h2, h3, ?_⟩
    rcases h4 with h4 | ⟨b, o, h4, h5, h6⟩
    · exact .inl h4
    · cases ts with
      | nil =>
        subst h4
        exact .inl ⟨rfl, .inr (by simp)⟩
      | cons t ts =>
        have hb : ∃ o h sl, w.rangeAt b o (Hd.cells h sl) := by
          rw [NdsIn] at h6
          obtain ⟨⟨_, h7, _⟩, _⟩ := h6
          exact ⟨o, _, _, h7⟩
        exact .inr ⟨b, o, h4, (hF b h5 hb).2, NdsIn.monoR hF (hF b h5 hb).1 h6⟩
theorem NdsIn.monoR {w w' : World} {F F' : Nat → Prop} (hF : ∀ b, F b → (∃ o h sl, w.rangeAt b o (Hd.cells h sl)) → w'.heap[b]? = w.heap[b]? ∧ F' b) {b : Nat} (hb : w'.heap[b]? = w.heap[b]?) : ∀ {ts : List Nd} {o : Nat}, NdsIn w F b o ts → NdsIn w' F' b o ts
  | [], _, _ => by rw [NdsIn]; trivial
  | t :: ts, o, h => by
    rw [NdsIn] at h ⊢
    obtain ⟨⟨sl, h1, h2⟩, h3⟩ := h
    exact ⟨⟨sl, rangeAt_block h1 hb, NdIn.monoR hF h2⟩, NdsIn.monoR hF hb h3⟩
end
/-- A cell's own block is none of a grid's. -/
theorem GI.set {B : Nat} {w w' : World} {g p : Nat} {L : List Cc} {v0 v1 : Value} (h : GI B w g L) (hp : Blk w p [v0, v1] 32) (k : Kp w w' (fun i => i = p)) : GI B w' g L := by
  have hnd : ∀ sl t, NdIn w (fun i => B ≤ i) sl t → NdIn w' (fun i => B ≤ i) sl t := fun sl t ht => ht.monoR fun b hb hr => by
    obtain ⟨o, hh, sl', hr⟩ := hr
    refine ⟨k.block b (rangeAt_lt hr) (fun e => ?_), hb⟩
    have e' : b = p := e
    subst e'
    have h2 := hr 2 _ rfl
    rw [hp.at'] at h2
    simp at h2
  obtain ⟨hg, ⟨hb, rfl⟩ | ⟨m, D, hb, hFm, hne, hown, hm⟩⟩ := h
  · have hbg : Blk w g [.map none] 113 := hb
    exact ⟨hg, .inl ⟨hbg.kp k (fun e => hbg.ne hp (by decide) e), rfl⟩⟩
  · have hbg : Blk w g [.map (some m)] 113 := hb
    have hmp : m ≠ p := fun e => by
      obtain ⟨es, clock, e1, _⟩ := hown
      subst e
      unfold Blk at hp
      rw [e1] at hp
      cases hp
    refine ⟨hg, .inr ⟨m, D, hbg.kp k (fun e => hbg.ne hp (by decide) e), hFm, hne, ownsMap_block hown (k.block m hown.lt hmp), ⟨hm.size, hm.rng, hm.keys, fun c' r' ct' h' => ?_, hm.once⟩⟩⟩
    obtain ⟨sl, e1, e2⟩ := hm.vals c' r' ct' h'
    exact ⟨sl, e1, hnd _ _ e2⟩
/-- The cell that is held to be the last one is another one. -/
theorem TS.set {w w2 u : World} {g p1 p2 : Nat} {x y : Int} {L : List Cc} (h : TS w w2 g p1 p2 x y L u) (x' y' : Int) (hp : w2.heap.size ≤ p1) (hw : w.heap.size ≤ w2.heap.size) (h12 : p1 ≠ p2) : TS w w2 g p1 p2 x' y' L ((u.setCell ⟨p1, 0, none⟩ (.int .i64 x')).setCell ⟨p1, 1, none⟩ (.int .i64 y')) := by
  obtain ⟨u', hu'⟩ : ∃ u', (u.setCell ⟨p1, 0, none⟩ (.int .i64 x')).setCell ⟨p1, 1, none⟩ (.int .i64 y') = u' := ⟨_, rfl⟩
  have k : Kp u u' (fun i => i = p1) := by
    rw [← hu']
    exact (Kp.setCell (Kp.setCell (Kp.refl u (fun i => i = p1)) ⟨p1, 0, none⟩ _ (.inr rfl)) ⟨p1, 1, none⟩ _ (.inr rfl))
  have b1 : Blk u' p1 [.int .i64 x', .int .i64 y'] 32 := by
    rw [← hu']
    exact (h.b1.set 0 (.int .i64 x')).set 1 (.int .i64 y')
  rw [hu']
  refine ⟨⟨h.fs.gi.set h.b1 k, ?_, ?_⟩, b1, h.b2.kp k (fun e => h12 e.symm), h.n1, h.n2⟩
  · exact h.fs.kg.trans' k (fun i hi e => by have : i = p1 := e; omega)
  · exact h.fs.kw.trans' k (fun i hi e => by have : i = p1 := e; omega)
/-- The last cell has nothing, the first one has. -/
theorem Fills.last {q : Nat} {L : List Cc} (h : Fills (q + 1) 4096 L) (_hq : 0 < q) : ∀ c', (((256 : Int), (4096 : Int)), c') ∉ L := fun c' hc' => by
  obtain ⟨a, b, e1, e2, e3, e4⟩ := (h.2 _ _).1 ⟨c', hc'⟩
  have ha : a = 4095 := by omega
  subst ha
  have := Nat.mul_le_mul_left 4095 (show 2 ≤ q + 1 by omega)
  omega
theorem Fills.last0 {L : List Cc} (h : Fills (0 + 1) 4096 L) : ∀ c', (((2 : Int), (1 : Int)), c') ∉ L := fun c' hc' => by
  obtain ⟨a, b, e1, e2, e3, e4⟩ := (h.2 _ _).1 ⟨c', hc'⟩
  omega
theorem Fills.first {q : Nat} {L : List Cc} (h : Fills (q + 1) 4096 L) : ∃ c', (((1 : Int), (1 : Int)), c') ∈ L := (h.2 1 1).2 ⟨0, 0, rfl, rfl, by omega, by omega⟩
end Go.Proofs.YtbkcebbddhaifaaGreatDoor
