/- The kit's contract of utf8.ValidString, laid over this dump (by wip/shelfv.py: the numbers are this seat's). GridFull: how a grid is filled; puts into it. GridFull: the puts behind the loop. append onto a list in memory of its own, and in which block the new one lies; a tree that grows by a node. No function of the program here. A region that draws its order and whose last operation, number z, writes a cell that others of it read: what is read may be taken first, for z waits for it. The condition S need not hold behind z. No function of the program here. A list of nodes that a function makes by append, round by round. No function of the program here. -/
import Derived.Shelf.Unicode.ValidAny
import Derived.Test.YtjmbmapanmbnhaaDoorProg
import Derived.Test.YtjmbmapanmbnhaaDoorH21
import Derived.Test.YtjmbmapanmbnhaaDoorH22
import Derived.Test.YtjmbmapanmbnhaaDoorH6
import Derived.ArgAppend
import Derived.Test.YtjmbmapanmbnhaaDoorH4
import Derived.Deep.RegionHeld3
import Derived.Test.YtjmbmapanmbnhaaDoorH8
namespace Go.Proofs
open Go.Shelf
def Tryd.laysValid_ren : Go.Shelf.Ren := ⟨fun | 196 => 59 | 259 => 81 | n => n, fun | 9 => 9 | 4 => 4 | 3 => 3 | 5 => 5 | 12 => 12 | 119 => 100 | 0 => 0 | 46 => 104 | 139 => 103 | 138 => 102 | 53 => 73 | n => n, fun | 3 => 0 | 4 => 1 | n => n⟩
theorem Tryd.laysValid : Go.Proofs.Lays.n196 Tryd.prog Tryd.laysValid_ren := {
  mixed := by kernel_rfl
  f196 := Tryd.func59.trans (congrArg some (by kernel_rfl))
  f259 := Tryd.func81.trans (congrArg some (by kernel_rfl))
  t0 := Tryd.underlying0
  a0 := Tryd.isAgg0
  z0 := Tryd.sizeOf0
  v0 := Tryd.zeroValue0
  t3 := Tryd.underlying3
  a3 := Tryd.isAgg3
  z3 := Tryd.sizeOf3
  v3 := Tryd.zeroValue3
  t4 := Tryd.underlying4
  a4 := Tryd.isAgg4
  z4 := Tryd.sizeOf4
  v4 := Tryd.zeroValue4
  t5 := Tryd.underlying5
  a5 := Tryd.isAgg5
  z5 := Tryd.sizeOf5
  v5 := Tryd.zeroValue5
  t9 := Tryd.underlying9
  a9 := Tryd.isAgg9
  z9 := Tryd.sizeOf9
  v9 := Tryd.zeroValue9
  t12 := Tryd.underlying12
  a12 := Tryd.isAgg12
  z12 := Tryd.sizeOf12
  v12 := Tryd.zeroValue12
  t46 := Tryd.underlying104
  a46 := Tryd.isAgg104
  z46 := Tryd.sizeOf104
  v46 := Tryd.zeroValue104
  t53 := Tryd.underlying73
  a53 := Tryd.isAgg73
  z53 := Tryd.sizeOf73
  v53 := Tryd.zeroValue73
  t119 := Tryd.underlying100
  a119 := Tryd.isAgg100
  z119 := Tryd.sizeOf100
  t138 := Tryd.underlying102
  a138 := Tryd.isAgg102
  z138 := Tryd.sizeOf102
  v138 := Tryd.zeroValue102
  t139 := Tryd.underlying103
  a139 := Tryd.isAgg103
  z139 := Tryd.sizeOf103
  v139 := Tryd.zeroValue103
  g3 := by kernel_rfl
  g4 := by kernel_rfl }
end Go.Proofs
namespace Go.Proofs.YtjmbmapanmbnhaaDoor
open Go.RowKit Go.Maps

theorem vs_of {w : World} (hT : Lib.Utf8Tabs (Tryd.laysValid_ren.g 3) (Tryd.laysValid_ren.g 4) w) : VS w := fun s wq hs hk => by
  have hc : ∀ {b j : Nat} {v : Value}, w.cell? ⟨b, j, none⟩ = some v → wq.cell? ⟨b, j, none⟩ = some v := fun {b j v} h => by
    have := hk.block b (cell_lt h) (fun x => x)
    simp only [World.cell?] at h ⊢
    rw [this]; exact h
  have hT' : Lib.Utf8Tabs (Tryd.laysValid_ren.g 3) (Tryd.laysValid_ren.g 4) wq := ⟨fun c h => hc (hT.1 c h), fun i h => ⟨hc (hT.2 i h).1, hc (hT.2 i h).2⟩⟩
  refine (Any.utf8_ValidString Tryd.laysValid s wq (by omega) hT').mono ?_
  rintro e w' ⟨h1, h2⟩
  exact ⟨h1, Kp.of_below h2⟩
/-- The first k cells of rows of wd cells have contents. -/
def Fills (wd k : Nat) (L : List Cc) : Prop := L.length = k ∧ ∀ c r : Int, (∃ ct, ((c, r), ct) ∈ L) ↔ ∃ a b : Nat, c = (b : Int) + 1 ∧ r = (a : Int) + 1 ∧ b < wd ∧ a * wd + b < k
theorem fills_zero (wd : Nat) : Fills wd 0 [] := ⟨rfl, fun c r => ⟨fun ⟨ct, h⟩ => absurd h List.not_mem_nil, fun ⟨a, b, _, _, _, h⟩ => absurd h (by omega)⟩⟩
theorem cell_one {wd a b a' b' : Nat} (h : a * wd + b = a' * wd + b') (hb : b < wd) (hb' : b' < wd) : a = a' ∧ b = b' := by
  rcases Nat.lt_trichotomy a a' with g | g | g
  · have := Nat.mul_le_mul_right wd g
    rw [Nat.succ_mul] at this
    omega
  · subst g; exact ⟨rfl, by omega⟩
  · have := Nat.mul_le_mul_right wd g
    rw [Nat.succ_mul] at this
    omega
theorem Fills.new {wd k a b : Nat} {L : List Cc} (h : Fills wd k L) (hb : b < wd) (hk : a * wd + b = k) : ∀ ct, (((b : Int) + 1, (a : Int) + 1), ct) ∉ L := fun ct hct => by
  obtain ⟨a', b', e1, e2, e3, e4⟩ := (h.2 _ _).1 ⟨ct, hct⟩
  have e1' : b' = b := by omega
  have e2' : a' = a := by omega
  subst e1' e2'
  omega
theorem Fills.step {wd k a b : Nat} {L : List Cc} {ct : Ct} (h : Fills wd k L) (hb : b < wd) (hk : a * wd + b = k) : Fills wd (k + 1) (putL L ((b : Int) + 1, (a : Int) + 1) ct) := by
  refine ⟨by rw [putL_out (h.new hb hk), h.1], fun c r => ?_⟩
  constructor
  · rintro ⟨ct', hm⟩
    rcases (putL_mem _).1 hm with e | ⟨e, _⟩
    · cases e
      exact ⟨a, b, rfl, rfl, hb, by omega⟩
    · obtain ⟨a', b', e1, e2, e3, e4⟩ := (h.2 _ _).1 ⟨ct', e⟩
      exact ⟨a', b', e1, e2, e3, by omega⟩
  · rintro ⟨a', b', rfl, rfl, e3, e4⟩
    by_cases hlt : a' * wd + b' < k
    · obtain ⟨ct', hm⟩ := (h.2 _ _).2 ⟨a', b', rfl, rfl, e3, hlt⟩
      exact ⟨ct', (putL_mem _).2 (.inr ⟨hm, fun e => h.new hb hk ct' (by rw [← e]; exact hm)⟩)⟩
    · obtain ⟨rfl, rfl⟩ := cell_one (show a' * wd + b' = a * wd + b by omega) e3 hb
      exact ⟨ct, (putL_mem _).2 (.inl rfl)⟩

/-- A content that came in. -/
structure Cn (w : World) (ct : Ct) (sl : Value) : Prop where
  ok : ct.t.ok
  vx : ct.v.x < 18446744073709551616
  inn : NdIn w (fun _ => True) sl ct.t
def ct0 : Ct := ⟨0, ⟨0, 0, ⟨#[]⟩, false, 0⟩, zNd⟩
theorem cn0 (w : World) : Cn w ct0 (.slice none 0 0) := ⟨zNd_ok, by decide, zNd_in w _⟩
theorem gv0 : gv ct0 = true := by
  have h1 : zeroV ct0.v = true := by simp [zeroV, bareV, ct0]
  have h2 : zeroN ct0.t = true := zeroN_z
  unfold gv validC
  rw [h1, h2]
  rfl
theorem Cn.val {w u : World} {ct : Ct} {sl : Value} (h : Cn w ct sl) (hv : VS w) (hg : gv ct = true) (hk : Kp w u Nul) : ∀ wq, Kp u wq Nul → Calls Tryd.prog 9 #[ct.val sl] wq fun e w' => e = .returned (.bool true) ∧ Kp wq w' Nul := fun wq hq => by
  have := gv_at ct sl (fun _ => True) wq h.ok (h.inn.kp (hk.trans hq) (fun _ _ x => x)) (hv.kp (hk.trans hq))
  rw [hg] at this
  exact this
theorem Cn.cp {w u : World} {ct : Ct} {sl : Value} (h : Cn w ct sl) (hs : ct.t.size ≤ 1048576) (hk : Kp w u Nul) : ∀ wq, Kp u wq Nul → Calls Tryd.prog 14 #[ct.val sl] wq fun e w' => ∃ sl' fp, e = .returned ((cpC ct).val sl') ∧ Own w' wq.heap.size sl' (cpC ct).t fp ∧ Kp wq w' Nul := fun wq hq => by
  refine (gCopy_at ct sl (fun _ => True) wq h.vx hs h.ok (h.inn.kp (hk.trans hq) (fun _ _ x => x))).mono ?_
  rintro e w' ⟨sl', fp, h1, h2, h3⟩
  exact ⟨sl', fp, h1, h2, Kp.of_below h3⟩
/-- How it stands: the grid has L; w2: the world as it was laid. -/
structure FS (w w2 : World) (g : Nat) (L : List Cc) (u : World) : Prop where
  gi : GI w.heap.size u g L
  kg : Kg w.heap.size g w2 u
  kw : Kp w u Nul
section
variable {w w2 u u' : World} {g : Nat} {L L' : List Cc}
theorem FS.kp (h : FS w w2 g L u) (hk : Kp u u' Nul) : FS w w2 g L u' := ⟨h.gi.kp hk, h.kg.trans (Kg.of_nul hk), h.kw.trans hk⟩
theorem FS.step (h : FS w w2 g L u) (hg : GI w.heap.size u' g L') (hk : Kg w.heap.size g u u') : FS w w2 g L' u' :=
  ⟨hg, h.kg.trans hk, h.kw.trans' hk (fun i hi e => by
    have hB : w.heap.size ≤ g := h.gi.1
    rcases e with e | e
    · omega
    · omega)⟩
theorem fs_ok (h : FS w w2 g L u) {ct : Ct} {sl : Value} (hc : Cn w ct sl) (hv : VS w) (hg : gv ct = true) (hs : ct.t.size ≤ 1048576) (hk : ct.k ≠ 0) {c r : Int} (hx : vC c r = true) (hl : L.length ≤ 4096) (hroom : L.length < 4096 ∨ ∃ c', ((c, r), c') ∈ L) :
    Calls Tryd.prog 20 #[.pointer (some ⟨g, 0, none⟩), .agg #[.int .i64 c, .int .i64 r], ct.val sl] u fun e w' => e = .returned (.int .i64 0) ∧ FS w w2 g (putL L (c, r) (cpC ct)) w' := by
  refine (put_ok w.heap.size g c r hx ct hk sl L u h.gi hl hroom (hc.val hv hg h.kw) (hc.cp hs h.kw)).mono ?_
  rintro e w' ⟨rfl, h1, h2⟩
  exact ⟨rfl, h.step h1 h2⟩
theorem fs_full (h : FS w w2 g L u) {ct : Ct} {sl : Value} (hc : Cn w ct sl) (hv : VS w) (hg : gv ct = true) (hk : ct.k ≠ 0) {c r : Int} (hx : vC c r = true) (hl : 4096 ≤ L.length) (hno : ∀ c', ((c, r), c') ∉ L) :
    Calls Tryd.prog 20 #[.pointer (some ⟨g, 0, none⟩), .agg #[.int .i64 c, .int .i64 r], ct.val sl] u fun e w' => e = .returned (.int .i64 41) ∧ FS w w2 g L w' := by
  refine (put_full w.heap.size g c r hx ct hk sl L u h.gi hl hno (hc.val hv hg h.kw)).mono ?_
  rintro e w' ⟨rfl, h1⟩
  exact ⟨rfl, h.kp h1⟩
theorem fs_del (h : FS w w2 g L u) {ct : Ct} {sl : Value} (hc : Cn w ct sl) (hv : VS w) (hg : gv ct = true) (hk : ct.k = 0) {c r : Int} (hx : vC c r = true) :
    Calls Tryd.prog 20 #[.pointer (some ⟨g, 0, none⟩), .agg #[.int .i64 c, .int .i64 r], ct.val sl] u fun e w' => e = .returned (.int .i64 0) ∧ FS w w2 g (delL L (c, r)) w' := by
  refine (put_del w.heap.size g c r hx ct hk sl L u h.gi (hc.val hv hg h.kw)).mono ?_
  rintro e w' ⟨rfl, h1, h2⟩
  exact ⟨rfl, h.step h1 h2⟩
end
set_option maxHeartbeats 1000000 in
theorem pick_at (c : Int) (hc : I64 c) (w : World) : Calls Tryd.prog 19 #[.int .i64 c, .int .i64 256] w fun e w' => (∃ q : Nat, e = .returned (.int .i64 q) ∧ q < 256) ∧ w' = w := by
  have HC : Hid (-9223372036854775808 ≤ c ∧ c ≤ 9223372036854775807) := by unfold I64 at hc; exact hc
  clear hc
  by_cases h : c < 0
  · go_enter Tryd.func19, Tryd.ntmps19
    go_wp2
    have hX : wrap64 (-wrap64 (c + 1)) = -(c + 1) := by have := HC.out; unfold wrap64; omega
    have hY : (-(c + 1)).tmod 256 = (-(c + 1)) % 256 := Int.tmod_eq_emod_of_nonneg (by omega)
    go_ret
    exact ⟨⟨((-(c + 1)) % 256).toNat, rInt (by rw [hX, hY]; omega), by omega⟩, rfl⟩
  · go_enter Tryd.func19, Tryd.ntmps19
    go_wp2
    go_ret
    exact ⟨⟨(c % 256).toNat, rInt (by omega), by omega⟩, rfl⟩
end Go.Proofs.YtjmbmapanmbnhaaDoor
namespace Go.Proofs.YtjmbmapanmbnhaaDoor
open Go.RowKit Go.Maps

/-- How it stands behind the loop: the grid, two cells' own blocks. -/
structure TS (w w2 : World) (g p1 p2 : Nat) (x y : Int) (L : List Cc) (u : World) : Prop where
  fs : FS w w2 g L u
  b1 : Blk u p1 [.int .i64 x, .int .i64 y] 26
  b2 : Blk u p2 [.int .i64 1, .int .i64 1] 26
  n1 : p1 ≠ g
  n2 : p2 ≠ g
section
variable {w w2 u u' : World} {g p1 p2 : Nat} {x y : Int} {L L' : List Cc}
theorem TS.step (h : TS w w2 g p1 p2 x y L u) (hg : GI w.heap.size u' g L') (hk : Kg w.heap.size g u u') : TS w w2 g p1 p2 x y L' u' :=
  ⟨h.fs.step hg hk, hk.blk h.b1 h.n1, hk.blk h.b2 h.n2, h.n1, h.n2⟩
theorem TS.kp (h : TS w w2 g p1 p2 x y L u) (hk : Kp u u' Nul) : TS w w2 g p1 p2 x y L u' :=
  ⟨h.fs.kp hk, h.b1.kp hk (fun x => x), h.b2.kp hk (fun x => x), h.n1, h.n2⟩
theorem ts_full (h : TS w w2 g p1 p2 x y L u) {ct : Ct} {sl : Value} (hc : Cn w ct sl) (hv : VS w) (hg : gv ct = true) (hk : ct.k ≠ 0) (hx : vC x y = true) (hl : L.length = 4096) (hno : ∀ c', ((x, y), c') ∉ L) :
    Calls Tryd.prog 20 #[.pointer (some ⟨g, 0, none⟩), .agg #[.int .i64 x, .int .i64 y], ct.val sl] u fun e w' => e = .returned (.int .i64 41) ∧ TS w w2 g p1 p2 x y L w' := by
  refine (put_full w.heap.size g x y hx ct hk sl L u h.fs.gi (by omega) hno (hc.val hv hg h.fs.kw)).mono ?_
  rintro e w' ⟨rfl, h1⟩
  exact ⟨rfl, h.kp h1⟩
theorem ts_none (h : TS w w2 g p1 p2 x y L u) (hv : VS w) (hx : vC x y = true) (hno : ∀ c', ((x, y), c') ∉ L) :
    Calls Tryd.prog 20 #[.pointer (some ⟨g, 0, none⟩), .agg #[.int .i64 x, .int .i64 y], zCv] u fun e w' => e = .returned (.int .i64 0) ∧ TS w w2 g p1 p2 x y L w' := by
  refine (put_del w.heap.size g x y hx ct0 rfl (.slice none 0 0) L u h.fs.gi ((cn0 w).val hv gv0 h.fs.kw)).mono ?_
  rintro e w' ⟨rfl, h1, h2⟩
  rw [delL_out hno] at h1
  exact ⟨rfl, h.step h1 h2⟩
theorem ts_gone (h : TS w w2 g p1 p2 x y L u) (hv : VS w) :
    Calls Tryd.prog 20 #[.pointer (some ⟨g, 0, none⟩), .agg #[.int .i64 1, .int .i64 1], zCv] u fun e w' => e = .returned (.int .i64 0) ∧ TS w w2 g p1 p2 x y (delL L (1, 1)) w' := by
  refine (put_del w.heap.size g 1 1 (by decide) ct0 rfl (.slice none 0 0) L u h.fs.gi ((cn0 w).val hv gv0 h.fs.kw)).mono ?_
  rintro e w' ⟨rfl, h1, h2⟩
  exact ⟨rfl, h.step h1 h2⟩
theorem ts_other (h : TS w w2 g p1 p2 x y L u) {ct : Ct} {sl : Value} (hc : Cn w ct sl) (hv : VS w) (hg : gv ct = true) (hs : ct.t.size ≤ 1048576) (hl : L.length = 4096) (hin : ∃ c', (((1 : Int), (1 : Int)), c') ∈ L) (hno : ∀ c', ((x, y), c') ∉ L) :
    Calls Tryd.prog 20 #[.pointer (some ⟨g, 0, none⟩), .agg #[.int .i64 1, .int .i64 1], ct.val sl] u fun e w' => e = .returned (.int .i64 0) ∧ ∃ L', TS w w2 g p1 p2 x y L' w' ∧ (delL L' (1, 1)).length = 4095 ∧ ∀ c', ((x, y), c') ∉ delL L' (1, 1) := by
  have ho := h.fs.gi.once
  have hne : (x, y) ≠ ((1 : Int), (1 : Int)) := fun e => by
    obtain ⟨c', hc'⟩ := hin
    rw [← e] at hc'
    exact hno c' hc'
  have h1 := delL_in ho hin
  by_cases hk : ct.k = 0
  · refine (put_del w.heap.size g 1 1 (by decide) ct hk sl L u h.fs.gi (hc.val hv hg h.fs.kw)).mono ?_
    rintro e w' ⟨rfl, q1, q2⟩
    refine ⟨rfl, _, h.step q1 q2, ?_, fun c' hc' => hno c' ((delL_mem _).1 ((delL_mem _).1 hc').1).1⟩
    rw [delL_out (fun c' hc' => ((delL_mem _).1 hc').2 rfl)]
    omega
  · refine (put_ok w.heap.size g 1 1 (by decide) ct hk sl L u h.fs.gi (by omega) (.inr hin) (hc.val hv hg h.fs.kw) (hc.cp hs h.fs.kw)).mono ?_
    rintro e w' ⟨rfl, q1, q2⟩
    have ho' := q1.once
    have h2 := delL_in (k := (1, 1)) ho' ⟨_, (putL_mem _).2 (.inl rfl)⟩
    have h3 := putL_in (ct := cpC ct) ho hin
    refine ⟨rfl, _, h.step q1 q2, by omega, fun c' hc' => ?_⟩
    rcases (putL_mem _).1 ((delL_mem _).1 hc').1 with e | e
    · exact hne (congrArg Prod.fst e)
    · exact hno c' e.1
theorem ts_again (h : TS w w2 g p1 p2 x y L u) {ct : Ct} {sl : Value} (hc : Cn w ct sl) (hv : VS w) (hg : gv ct = true) (hs : ct.t.size ≤ 1048576) (hk : ct.k ≠ 0) (hx : vC x y = true) (hl : L.length = 4095) (hno : ∀ c', ((x, y), c') ∉ L) :
    Calls Tryd.prog 20 #[.pointer (some ⟨g, 0, none⟩), .agg #[.int .i64 x, .int .i64 y], ct.val sl] u fun e w' => e = .returned (.int .i64 0) ∧ ∃ L', TS w w2 g p1 p2 x y L' w' ∧ L'.length = 4096 := by
  refine (put_ok w.heap.size g x y hx ct hk sl L u h.fs.gi (by omega) (.inl (by omega)) (hc.val hv hg h.fs.kw) (hc.cp hs h.fs.kw)).mono ?_
  rintro e w' ⟨rfl, q1, q2⟩
  exact ⟨rfl, _, h.step q1 q2, by rw [putL_out hno, hl]⟩
end
mutual
theorem NdIn.monoR {w w' : World} {F F' : Nat → Prop} (hF : ∀ b, F b → (∃ o h sl, w.rangeAt b o (Hd.cells h sl)) → w'.heap[b]? = w.heap[b]? ∧ F' b) {sl : Value} : ∀ {t : Nd}, NdIn w F sl t → NdIn w' F' sl t
  | .mk _ ts, h => by
    rw [NdIn] at h ⊢
    obtain ⟨a, c, h1, h2, h3, h4⟩ := h
    refine ⟨a, c, h1, h2, h3, ?_⟩
    rcases h4 with h4 | ⟨b, o, h4, h5, h6⟩
    · exact .inl h4
    · cases ts with
      | nil =>
        subst h4
        exact .inl ⟨rfl, .inr (by simp)⟩
      | cons t ts =>
        have hb : ∃ o h sl, w.rangeAt b o (Hd.cells h sl) := by
          rw [NdsIn] at h6
          obtain ⟨⟨_, h7, _⟩, _⟩ := h6
          exact ⟨o, _, _, h7⟩
        exact .inr ⟨b, o, h4, (hF b h5 hb).2, NdsIn.monoR hF (hF b h5 hb).1 h6⟩
theorem NdsIn.monoR {w w' : World} {F F' : Nat → Prop} (hF : ∀ b, F b → (∃ o h sl, w.rangeAt b o (Hd.cells h sl)) → w'.heap[b]? = w.heap[b]? ∧ F' b) {b : Nat} (hb : w'.heap[b]? = w.heap[b]?) : ∀ {ts : List Nd} {o : Nat}, NdsIn w F b o ts → NdsIn w' F' b o ts
  | [], _, _ => by rw [NdsIn]; trivial
  | t :: ts, o, h => by
    rw [NdsIn] at h ⊢
    obtain ⟨⟨sl, h1, h2⟩, h3⟩ := h
    exact ⟨⟨sl, rangeAt_block h1 hb, NdIn.monoR hF h2⟩, NdsIn.monoR hF hb h3⟩
end
/-- A cell's own block is none of a grid's. -/
theorem GI.set {B : Nat} {w w' : World} {g p : Nat} {L : List Cc} {v0 v1 : Value} (h : GI B w g L) (hp : Blk w p [v0, v1] 26) (k : Kp w w' (fun i => i = p)) : GI B w' g L := by
  have hnd : ∀ sl t, NdIn w (fun i => B ≤ i) sl t → NdIn w' (fun i => B ≤ i) sl t := fun sl t ht => ht.monoR fun b hb hr => by
    obtain ⟨o, hh, sl', hr⟩ := hr
    refine ⟨k.block b (rangeAt_lt hr) (fun e => ?_), hb⟩
    have e' : b = p := e
    subst e'
    have h2 := hr 2 _ rfl
    rw [hp.at'] at h2
    simp at h2
  obtain ⟨hg, ⟨hb, rfl⟩ | ⟨m, D, hb, hFm, hne, hown, hm⟩⟩ := h
  · have hbg : Blk w g [.map none] 77 := hb
    exact ⟨hg, .inl ⟨hbg.kp k (fun e => hbg.ne hp (by decide) e), rfl⟩⟩
  · have hbg : Blk w g [.map (some m)] 77 := hb
    have hmp : m ≠ p := fun e => by
      obtain ⟨es, clock, e1, _⟩ := hown
      subst e
      unfold Blk at hp
      rw [e1] at hp
      cases hp
    refine ⟨hg, .inr ⟨m, D, hbg.kp k (fun e => hbg.ne hp (by decide) e), hFm, hne, ownsMap_block hown (k.block m hown.lt hmp), ⟨hm.size, hm.rng, hm.keys, fun c' r' ct' h' => ?_, hm.once⟩⟩⟩
    obtain ⟨sl, e1, e2⟩ := hm.vals c' r' ct' h'
    exact ⟨sl, e1, hnd _ _ e2⟩
/-- The cell that is held to be the last one is another one. -/
theorem TS.set {w w2 u : World} {g p1 p2 : Nat} {x y : Int} {L : List Cc} (h : TS w w2 g p1 p2 x y L u) (x' y' : Int) (hp : w2.heap.size ≤ p1) (hw : w.heap.size ≤ w2.heap.size) (h12 : p1 ≠ p2) : TS w w2 g p1 p2 x' y' L ((u.setCell ⟨p1, 0, none⟩ (.int .i64 x')).setCell ⟨p1, 1, none⟩ (.int .i64 y')) := by
  obtain ⟨u', hu'⟩ : ∃ u', (u.setCell ⟨p1, 0, none⟩ (.int .i64 x')).setCell ⟨p1, 1, none⟩ (.int .i64 y') = u' := ⟨_, rfl⟩
  have k : Kp u u' (fun i => i = p1) := by
    rw [← hu']
    exact (Kp.setCell (Kp.setCell (Kp.refl u (fun i => i = p1)) ⟨p1, 0, none⟩ _ (.inr rfl)) ⟨p1, 1, none⟩ _ (.inr rfl))
  have b1 : Blk u' p1 [.int .i64 x', .int .i64 y'] 26 := by
    rw [← hu']
    exact (h.b1.set 0 (.int .i64 x')).set 1 (.int .i64 y')
  rw [hu']
  refine ⟨⟨h.fs.gi.set h.b1 k, ?_, ?_⟩, b1, h.b2.kp k (fun e => h12 e.symm), h.n1, h.n2⟩
  · exact h.fs.kg.trans' k (fun i hi e => by have : i = p1 := e; omega)
  · exact h.fs.kw.trans' k (fun i hi e => by have : i = p1 := e; omega)
/-- The last cell has nothing, the first one has. -/
theorem Fills.last {q : Nat} {L : List Cc} (h : Fills (q + 1) 4096 L) (_hq : 0 < q) : ∀ c', (((256 : Int), (4096 : Int)), c') ∉ L := fun c' hc' => by
  obtain ⟨a, b, e1, e2, e3, e4⟩ := (h.2 _ _).1 ⟨c', hc'⟩
  have ha : a = 4095 := by omega
  subst ha
  have := Nat.mul_le_mul_left 4095 (show 2 ≤ q + 1 by omega)
  omega
theorem Fills.last0 {L : List Cc} (h : Fills (0 + 1) 4096 L) : ∀ c', (((2 : Int), (1 : Int)), c') ∉ L := fun c' hc' => by
  obtain ⟨a, b, e1, e2, e3, e4⟩ := (h.2 _ _).1 ⟨c', hc'⟩
  omega
theorem Fills.first {q : Nat} {L : List Cc} (h : Fills (q + 1) 4096 L) : ∃ c', (((1 : Int), (1 : Int)), c') ∈ L := (h.2 1 1).2 ⟨0, 0, rfl, rfl, by omega, by omega⟩
end Go.Proofs.YtjmbmapanmbnhaaDoor
namespace Go.Proofs.YtjmbmapanmbnhaaDoor
open Go.RowKit

/-- append onto a row of one's own: behind it the row lies where it lay, or in a new block. -/
theorem run_append_tell {P : Program} (w : World) (base : Nat) (t ty e : TypeId) (i : TypeInfo) (z : Value) (size bytes : Nat) (h1 : P.underlying t = some (.slice e)) (h2 : P.info? e = some i) (h3 : i.zero = some z) (h4 : i.size = size) (h5 : i.bytes = bytes) (h6 : z.cells.size = size) (h7 : 0 < size)
    (v : Value) (n : Nat) (xs : List Value) (hown : w.ownsRow base e size v n xs)
    (ad : Addr) (m c : Nat) (news : List Value) (hn : news.length = m * size) (hc : ∀ j u, news[j]? = some u → w.cell? (ad.add j) = some u) (h1c : ∀ u ∈ news, u.oneCell' = true)
    (hm : 0 < m) (b1 : n + m ≤ maxLen) (b2 : (n + m) * bytes ≤ 140737488355328) (hbase : base ≤ w.heap.size) :
    ∃ g c' w', (Builtin.append_ #[t, t] ty #[v, .slice (some ad) m c]).run P w = .ok (.slice (some ⟨g, 0, none⟩) (n + m) c') w' ∧ w'.ownsRow base e size (.slice (some ⟨g, 0, none⟩) (n + m) c') (n + m) (xs ++ news) ∧ w.grownBy w' v.ownBlock ∧ (v.ownBlock = some g ∨ w.heap.size ≤ g) := by
  have fin : ∀ v' w', (Builtin.append_ #[t, t] ty #[v, .slice (some ad) m c]).run P w = .ok v' w' → w'.ownsRow w.heap.size e size v' (n + m) (xs ++ news) → w.grownBy w' none →
      ∃ g c' w', (Builtin.append_ #[t, t] ty #[v, .slice (some ad) m c]).run P w = .ok (.slice (some ⟨g, 0, none⟩) (n + m) c') w' ∧ w'.ownsRow base e size (.slice (some ⟨g, 0, none⟩) (n + m) c') (n + m) (xs ++ news) ∧ w.grownBy w' v.ownBlock ∧ (v.ownBlock = some g ∨ w.heap.size ≤ g) := by
    intro v' w' hrun ho hgr
    rcases ho.2 with ⟨_, h0⟩ | ⟨g, c', cur, rfl, hbg, r⟩
    · omega
    · exact ⟨g, c', w', hrun, ⟨ho.1, .inr ⟨g, c', cur, rfl, Nat.le_trans hbase hbg, r⟩⟩, ⟨hgr.os, hgr.tape, hgr.output, hgr.size, fun k hk _ => hgr.block k hk (by simp)⟩, .inr hbg⟩
  have hown' := hown
  rcases hown with ⟨hxl, ⟨rfl, rfl⟩ | ⟨g, cap, cur, rfl, hb, hgg, hnc, hcm, hcs, htk⟩⟩
  · have hxs : xs = [] := List.length_eq_zero_iff.1 (by rw [hxl]; simp)
    subst hxs
    obtain ⟨v', w', hrun, r1, r2, _⟩ := run_append_own (P := P) w w.heap.size t ty e i z size bytes h1 h2 h3 h4 h5 h6 h7 (.slice none 0 0) 0 [] (World.ownsRow_nil w _ e size) ad m c news hn hc h1c b1 b2 (Nat.le_refl _)
    exact fin v' w' hrun r1 r2
  · by_cases hfit : n + m ≤ cap
    · obtain ⟨w', hrun, r1, r2⟩ := run_append_fits (P := P) w base t ty e i size h1 h2 h4 g n cap xs hown' ad m c news hn hc h1c hfit
      exact ⟨g, cap, w', hrun, r1, r2, .inl rfl⟩
    · obtain ⟨v', w', hrun, r1, r2⟩ := run_append_arg_grows (P := P) w t ty e i z size bytes h1 h2 h3 h4 h5 h6 h7 ⟨g, 0, none⟩ n cap xs hxl (hown'.cells rfl) ad m c news hn hc (by omega) b1 b2
      exact fin v' w' hrun r1 r2
theorem wp_append_tell {P : Program} (w : World) {o : Oper} {a : Act} {K : Act → World → Prop} {Q : Exit → Act → World → Prop} (s x : Operand) (t : TypeId) (ho : o.op = Op.call { callee := Callee.builtin Builtin.append, args := #[s, x], argTypes := #[t, t] })
    (base : Nat) (e : TypeId) (i : TypeInfo) (z : Value) (size bytes : Nat) (h1 : P.underlying t = some (.slice e)) (h2 : P.info? e = some i) (h3 : i.zero = some z) (h4 : i.size = size) (h5 : i.bytes = bytes) (h6 : z.cells.size = size) (h7 : 0 < size)
    (v : Value) (n : Nat) (xs : List Value) (hs : a.eval s = v) (hown : w.ownsRow base e size v n xs)
    (ad : Addr) (m c : Nat) (news : List Value) (hx : a.eval x = .slice (some ad) m c) (hn : news.length = m * size) (hc : ∀ j u, news[j]? = some u → w.cell? (ad.add j) = some u) (h1c : ∀ u ∈ news, u.oneCell' = true)
    (hm : 0 < m) (b1 : n + m ≤ maxLen) (b2 : (n + m) * bytes ≤ 140737488355328) (hbase : base ≤ w.heap.size)
    (h : ∀ g c' w', w'.ownsRow base e size (.slice (some ⟨g, 0, none⟩) (n + m) c') (n + m) (xs ++ news) → w.grownBy w' v.ownBlock → (v.ownBlock = some g ∨ w.heap.size ≤ g) → K (a.put o.dst (.slice (some ⟨g, 0, none⟩) (n + m) c')) w') : o.wp P a w K Q := by
  obtain ⟨g, c', w', hr, h2', h3', h4'⟩ := run_append_tell (P := P) w base t o.type e i z size bytes h1 h2 h3 h4 h5 h6 h7 v n xs hown ad m c news hn hc h1c hm b1 b2 hbase
  unfold Oper.wp execOp
  simp only [ho, resolve, invoke, builtin, Sem.run_bind, Sem.run_pure, Result.andThen_ok, List.map_toArray, List.map_cons, List.map_nil, hs, hx, hr]
  exact h g c' w' h2' h3' h4'
theorem wpList_append_tell {P : Program} (w : World) {ops : Array Oper} {rest : List Oper} {o : Oper} {a : Act} {Q : Exit → Act → World → Prop}
    (hgd : o.guard = none) (s x : Operand) (t : TypeId) (ho : o.op = Op.call { callee := Callee.builtin Builtin.append, args := #[s, x], argTypes := #[t, t] })
    (base : Nat) (e : TypeId) (i : TypeInfo) (z : Value) (size bytes : Nat) (h1 : P.underlying t = some (.slice e)) (h2 : P.info? e = some i) (h3 : i.zero = some z) (h4 : i.size = size) (h5 : i.bytes = bytes) (h6 : z.cells.size = size) (h7 : 0 < size)
    (v : Value) (n : Nat) (xs : List Value) (hs : a.eval s = v) (hown : w.ownsRow base e size v n xs)
    (ad : Addr) (m c : Nat) (news : List Value) (hx : a.eval x = .slice (some ad) m c) (hn : news.length = m * size) (hc : ∀ j u, news[j]? = some u → w.cell? (ad.add j) = some u) (h1c : ∀ u ∈ news, u.oneCell' = true)
    (hm : 0 < m) (b1 : n + m ≤ maxLen) (b2 : (n + m) * bytes ≤ 140737488355328) (hbase : base ≤ w.heap.size)
    (h : ∀ g c' w', w'.ownsRow base e size (.slice (some ⟨g, 0, none⟩) (n + m) c') (n + m) (xs ++ news) → w.grownBy w' v.ownBlock → (v.ownBlock = some g ∨ w.heap.size ≤ g) → wpList P ops Q rest (a.put o.dst (.slice (some ⟨g, 0, none⟩) (n + m) c')) w') :
    wpList P ops Q (o :: rest) a w :=
  wpList_plain hgd fun _ hK => wp_append_tell w s x t ho base e i z size bytes h1 h2 h3 h4 h5 h6 h7 v n xs hs hown ad m c news hx hn hc h1c hm b1 b2 hbase fun g c' w' r1 r2 r3 => hK _ _ (h g c' w' r1 r2 r3)

theorem NdsOwn.move {w w' : World} {b b' : Nat} : ∀ {ts : List Nd} {o : Nat} {fp : List Nat}, NdsOwn w b o ts fp → (∀ o' cs, o ≤ o' → o' + cs.length ≤ o + ts.length * 15 → w.rangeAt b o' cs → w'.rangeAt b' o' cs) → (∀ b ∈ fp, w'.heap[b]? = w.heap[b]?) → NdsOwn w' b' o ts fp
  | [], _, _, h, _, _ => by rw [NdsOwn] at h ⊢; exact h
  | t :: ts, o, fp, h, hr, hF => by
    rw [NdsOwn] at h ⊢
    obtain ⟨sl, f1, f2, h1, h2, rfl, h4⟩ := h
    refine ⟨sl, f1, f2, hr o _ (Nat.le_refl _) (by simp; omega) h1, NdOwn.mono h2 (fun b hb => hF b (List.mem_append_left _ hb)), rfl, ?_⟩
    exact NdsOwn.move h4 (fun o' cs g1 g2 g3 => hr o' cs (by omega) (by simp at g2 ⊢; omega) g3) (fun b hb => hF b (List.mem_append_right _ hb))

theorem Own.row {w : World} {B : Nat} {v : Value} {h : Hd} {us : List Nd} {fp : List Nat} (q : Own w B v (.mk h us) fp) : ∃ xs, w.ownsRow B 31 15 v us.length xs := by
  have q1 := q.own
  rw [NdOwn] at q1
  rcases q1 with ⟨rfl, rfl, _⟩ | ⟨b, c, fps, cs, rfl, h2, h3, h4, h5, h6, rfl, h8⟩
  · exact ⟨[], World.ownsRow_nil _ _ _ _⟩
  · refine ⟨cs.toList.take (us.length * 15), ?_, .inr ⟨b, c, cs, rfl, (q.new b (List.mem_cons_self)).1, h5, h3, h4, h6, rfl⟩⟩
    have hl : cs.toList.length = c * 15 := by simpa using h6
    rw [List.length_take, hl]
    exact Nat.min_eq_left (Nat.mul_le_mul_right 15 h3)

theorem addr_at (b off i : Nat) : (⟨b, off, none⟩ : Addr).add i = ⟨b, off + i, none⟩ := by unfold Addr.add; split <;> simp_all

theorem Own.grow {w w' : World} {B : Nat} {v : Value} {h : Hd} {us : List Nd} {fp : List Nat} {xs : List Value} (q : Own w B v (.mk h us) fp) (hx : w.ownsRow B 31 15 v us.length xs)
    {sl : Value} {u : Nd} {f : List Nat} (hu : Own w B sl u f) (hd : ∀ b ∈ f, b ∉ fp) {g c : Nat}
    (ho : w'.ownsRow B 31 15 (.slice (some ⟨g, 0, none⟩) (us.length + 1) c) (us.length + 1) (xs ++ u.hd.cells sl)) (hg : w.grownBy w' v.ownBlock) (ht : v.ownBlock = some g ∨ w.heap.size ≤ g) (h' : Hd) :
    ∃ fp', Own w' B (.slice (some ⟨g, 0, none⟩) (us.length + 1) c) (.mk h' (us ++ [u])) fp' := by
  have hcell : ∀ j x, (xs ++ u.hd.cells sl)[j]? = some x → w'.cell? ⟨g, j, none⟩ = some x := fun j x hj => by
    have := ho.cells (g := g) rfl j x hj
    rw [addr_at, Nat.zero_add] at this; exact this
  have hrow : ∃ cur, w'.heap[g]? = some (.cells cur 31 (0, 0)) ∧ B ≤ g ∧ us.length + 1 ≤ c ∧ c ≤ maxLen ∧ cur.size = c * 15 := by
    rcases ho.2 with ⟨e, _⟩ | ⟨g', c', cur, e, hbg, hgg, hnc, hcm, hcs, _⟩
    · cases e
    · simp only [Value.slice.injEq, Option.some.injEq, Addr.mk.injEq] at e
      obtain ⟨⟨rfl, _⟩, _, rfl⟩ := e
      exact ⟨cur, hgg, hbg, hnc, hcm, hcs⟩
  obtain ⟨cur, hgg, hbg, hnc, hcm, hcs⟩ := hrow
  have hgl : g < w'.heap.size := (Array.getElem?_eq_some_iff.1 hgg).1
  have hxl : xs.length = us.length * 15 := hx.1
  have hru : w'.rangeAt g (0 + us.length * 15) (u.hd.cells sl) := by
    intro j x hj
    refine hcell _ _ ?_
    rw [List.getElem?_append_right (by omega), show 0 + us.length * 15 + j - xs.length = j by omega]
    exact hj
  have q1 := q.own
  rw [NdOwn] at q1
  rcases q1 with ⟨rfl, rfl, rfl⟩ | ⟨b, c0, fps, cs, rfl, h2, h3, h4, h5, h6, rfl, h8⟩
  · have hu' : NdOwn w' sl u f := hu.own.mono (fun b hb => hg.block b (hu.new b hb).2 (by simp [Value.ownBlock]))
    have hgn : w.heap.size ≤ g := by
      rcases ht with e | e
      · simp [Value.ownBlock] at e
      · exact e
    refine ⟨g :: f, ?_, ?_, ?_⟩
    · rw [NdOwn]
      refine .inr ⟨g, c, f, cur, by simp, by simp, by simpa using hnc, hcm, hgg, hcs, rfl, ?_⟩
      have := NdsOwn.snoc (b := g) (us := []) (o := 0) (fps := []) hu' (by rw [NdsOwn]) hru
      simpa using this
    · rw [List.nodup_cons]
      exact ⟨fun hb => by have := (hu.new g hb).2; omega, hu.nodup⟩
    · intro b hb
      rcases List.mem_cons.1 hb with rfl | hb
      · exact ⟨hbg, hgl⟩
      · exact ⟨(hu.new b hb).1, Nat.lt_of_lt_of_le (hu.new b hb).2 hg.size⟩
  · have hnd := q.nodup
    rw [List.nodup_cons] at hnd
    have hblk : ∀ k, k < w.heap.size → k ≠ b → w'.heap[k]? = w.heap[k]? := fun k hk hne => hg.block k hk (by simpa [Value.ownBlock] using hne)
    have hfb : ∀ k ∈ f, k ≠ b := fun k hk e => hd k hk (e ▸ List.mem_cons_self)
    have hpb : ∀ k ∈ fps, k ≠ b := fun k hk e => hnd.1 (e ▸ hk)
    have hu' : NdOwn w' sl u f := hu.own.mono (fun k hk => hblk k (hu.new k hk).2 (hfb k hk))
    have hxc : ∀ j, j < us.length * 15 → xs[j]? = w.cell? ⟨b, j, none⟩ := by
      intro j hj
      rcases hx.2 with ⟨e, _⟩ | ⟨g', c', cur', e, _, hgg', _, _, _, htk⟩
      · cases e
      · simp only [Value.slice.injEq, Option.some.injEq, Addr.mk.injEq] at e
        obtain ⟨⟨rfl, _⟩, _⟩ := e
        rw [cell_of_row w b j cur' _ _ hgg', ← htk, List.getElem?_take_of_lt hj]; simp
    have hus : NdsOwn w' g 0 us fps := by
      refine h8.move (fun o' cs' _ h10 hr => ?_) (fun k hk => hblk k (q.new k (List.mem_cons_of_mem _ hk)).2 (hpb k hk))
      intro j x hj
      have hjl : j < cs'.length := (List.getElem?_eq_some_iff.1 hj).1
      refine hcell _ _ ?_
      rw [List.getElem?_append_left (by omega), hxc _ (by omega)]
      exact hr j x hj
    have hgn : g = b ∨ w.heap.size ≤ g := by
      rcases ht with e | e
      · simp [Value.ownBlock] at e; exact .inl e.symm
      · exact .inr e
    refine ⟨g :: (fps ++ f), ?_, ?_, ?_⟩
    · rw [NdOwn]
      refine .inr ⟨g, c, fps ++ f, cur, by simp, by simp, by simpa using hnc, hcm, hgg, hcs, rfl, NdsOwn.snoc hu' hus hru⟩
    · rw [List.nodup_cons]
      refine ⟨fun hb => ?_, ?_⟩
      · rcases List.mem_append.1 hb with hb | hb
        · rcases hgn with e | e
          · exact hpb g hb e
          · have := (q.new g (List.mem_cons_of_mem _ hb)).2; omega
        · rcases hgn with e | e
          · exact hfb g hb e
          · have := (hu.new g hb).2; omega
      · rw [List.nodup_append]
        exact ⟨hnd.2, hu.nodup, fun k hk k' hk' e => hd k' hk' (e ▸ List.mem_cons_of_mem _ hk)⟩
    · intro k hk
      rcases List.mem_cons.1 hk with rfl | hk
      · exact ⟨hbg, hgl⟩
      · rcases List.mem_append.1 hk with hk | hk
        · exact ⟨(q.new k (List.mem_cons_of_mem _ hk)).1, Nat.lt_of_lt_of_le (q.new k (List.mem_cons_of_mem _ hk)).2 hg.size⟩
        · exact ⟨(hu.new k hk).1, Nat.lt_of_lt_of_le (hu.new k hk).2 hg.size⟩
end Go.Proofs.YtjmbmapanmbnhaaDoor
namespace Go.Proofs.YtjmbmapanmbnhaaDoor
open Go.RowKit

section
variable {P : Program} {ops : Array Oper} {Q : Exit → Act → World → Prop} {md : Region.Mode} {S : World → Prop} {z : Nat}

/-- Whatever order is picked from here on; S holds behind each operation but z. -/
def wpBut (P : Program) (md : Region.Mode) (ops : Array Oper) (Q : Exit → Act → World → Prop) (S : World → Prop) (z : Nat) : Nat → Array Bool → Act → World → Prop
  | 0, on, a, w => Region.ready md ops on = [] ∧ Q .normal a w
  | n + 1, on, a, w => (Region.ready md ops on = [] → Q .normal a w) ∧
      ∀ i ∈ Region.ready md ops on, wpOp P ops Q i (fun a' w' => (i ≠ z → S w') ∧ wpBut P md ops Q S z n (on.setIfInBounds i true) a' w') a w
theorem wpBut_any : ∀ (n : Nat) (on : Array Bool) (a : Act) (w : World), wpBut P md ops Q S z n on a w → wpAny P md ops Q n on a w
  | 0, _, _, _, h => h
  | n + 1, _, _, _, h => ⟨h.1, fun i hi => wpOp_mono (fun a' w' h' => wpBut_any n _ a' w' h'.2) (h.2 i hi)⟩
/-- z waits for i. -/
def zWaits (md : Region.Mode) (ops : Array Oper) (z i : Nat) : Bool := match ops[z]? with | some o => o.after.any (fun e => Region.binds md e && e.on == i) | none => false
theorem not_ready_of_waits {on : Array Bool} {i : Nat} (h : zWaits md ops z i = true) (hi : on.getD i false = false) : z ∉ Region.ready md ops on := by
  intro hz
  obtain ⟨_, o, ho, hall⟩ := mem_ready.1 hz
  unfold zWaits at h
  rw [ho] at h
  obtain ⟨e, he, hb⟩ := Array.any_eq_true'.1 h
  simp only [Bool.and_eq_true, beq_iff_eq] at hb
  have := hall e he hb.1
  rw [hb.2, hi] at this
  cases this
theorem getD_swap {on : Array Bool} {i : Nat} (h : on.getD i true = false) : on.getD i false = false := by
  rcases Nat.lt_or_ge i on.size with hl | hl
  · simp [hl] at h ⊢; exact h
  · simp [Nat.not_lt.2 hl] at h
theorem wpBut_front {i : Nat} {oi : Oper} {v : Value} (hi : ops[i]? = some oi) (hsel : ∀ (j : Nat) (o : Oper) cs b, ops[j]? = some o → o.op ≠ .select cs b) (hzi : zWaits md ops z i = true)
    (hQ : ∀ c a w, Q (.panic c) (a.put oi.dst v) w → Q (.panic c) a w) (n : Nat) :
    ∀ (on : Array Bool) (a : Act) (w : World),
      (∀ j oj, ops[j]? = some oj → j ≠ i → on.getD j true = false → (∀ e ∈ oj.after, Region.binds md e = true → e.on ≠ i) → oi.apart ops oj = true) →
      i ∈ Region.ready md ops on → YieldsIf P ops S oi v a → S w → wpBut P md ops Q S z n (on.setIfInBounds i true) (a.put oi.dst v) w → wpBut P md ops Q S z (n + 1) on a w := by
  have hiz : ∀ on : Array Bool, i ∈ Region.ready md ops on → z ∉ Region.ready md ops on := fun on hr => not_ready_of_waits hzi (getD_swap (mem_ready.1 hr).1)
  induction n with
  | zero =>
    intro on a w _ hr hy hS H
    refine ⟨fun h => (by rw [h] at hr; cases hr), fun j hj => ?_⟩
    rcases Decidable.em (j = i) with rfl | hji
    · exact hy.wpOp hi hS ⟨fun _ => hS, H⟩
    · have hc := ready_mono hj hji
      rw [H.1] at hc
      cases hc
  | succ n ih =>
    intro on a w hfree hr hy hS H
    refine ⟨fun h => (by rw [h] at hr; cases hr), fun j hj => ?_⟩
    rcases Decidable.em (j = i) with rfl | hji
    · exact hy.wpOp hi hS ⟨fun _ => hS, H⟩
    · have hjz : j ≠ z := fun e => hiz on hr (e ▸ hj)
      obtain ⟨hjun, oj, hoj, hall⟩ := mem_ready.1 hj
      have hun := getD_swap (mem_ready.1 hr).1
      have hno : ∀ e ∈ oj.after, Region.binds md e = true → e.on ≠ i := fun e he hb heq => by
        have h1 := hall e he hb
        rw [heq, hun] at h1
        cases h1
      have h2 := wpOp_putIf hoj (hfree j oj hoj hji hjun hno) (fun cs b => hsel i oi cs b hi) (fun cs b => hsel j oj cs b hoj) hQ hy (H.2 j (ready_mono hj hji))
      refine wpOp_mono (fun a' w' h3 => ⟨fun _ => h3.2.1 hjz, ih (on.setIfInBounds j true) a' w' ?_ (ready_mono hr (Ne.symm hji)) h3.1 (h3.2.1 hjz) ?_⟩) h2
      · intro k ok hk hki hkun hkno
        refine hfree k ok hk hki ?_ hkno
        rcases Decidable.em (j = k) with rfl | hjk
        · exact hjun
        · rw [getD_set_ne true hjk] at hkun; exact hkun
      · rw [Array.setIfInBounds_comm _ _ hji]
        exact h3.2.2
theorem wpBut_take {i : Nat} {oi : Oper} {v : Value} {n : Nat} {on : Array Bool} {a : Act} {w : World} (hi : ops[i]? = some oi) (hs : Region.noSelect ops = true) (hf : Region.free md ops on i = true) (hr : (Region.ready md ops on).contains i = true) (hz : zWaits md ops z i = true)
    (hQ : ∀ c a w, Q (.panic c) (a.put oi.dst v) w → Q (.panic c) a w) (hy : YieldsIf P ops S oi v a) (hS : S w) (h : wpBut P md ops Q S z n (on.setIfInBounds i true) (a.put oi.dst v) w) : wpBut P md ops Q S z (n + 1) on a w :=
  wpBut_front hi (Region.noSelect_spec hs) hz hQ n on a w (Region.free_spec hi hf) (by simpa using hr) hy hS h
/-- The same, the slot that it writes told. -/
theorem wpBut_takes {i : Nat} {oi : Oper} {v : Value} {n : Nat} {on : Array Bool} {a : Act} {w : World} (d : Option Tmp) (hi : ops[i]? = some oi) (hd : oi.dst = d) (hs : Region.noSelect ops = true) (hf : Region.free md ops on i = true) (hr : (Region.ready md ops on).contains i = true) (hz : zWaits md ops z i = true)
    (hQ : ∀ c a w, Q (.panic c) (a.put d v) w → Q (.panic c) a w) (hy : YieldsIf P ops S oi v a) (hS : S w) (h : wpBut P md ops Q S z n (on.setIfInBounds i true) (a.put d v) w) : wpBut P md ops Q S z (n + 1) on a w := by
  subst hd
  exact wpBut_take hi hs hf hr hz hQ hy hS h
/-- The one that comes up. -/
theorem wpBut_one {i : Nat} {n : Nat} {on : Array Bool} {a : Act} {w : World} (hr : Region.ready md ops on = [i]) (h : wpOp P ops Q i (fun a' w' => (i ≠ z → S w') ∧ wpBut P md ops Q S z n (on.setIfInBounds i true) a' w') a w) : wpBut P md ops Q S z (n + 1) on a w :=
  ⟨fun h0 => (by rw [hr] at h0; cases h0), fun j hj => (by rw [hr] at hj; obtain rfl := List.mem_singleton.1 hj; exact h)⟩
theorem wpBut_done {n : Nat} {on : Array Bool} {a : Act} {w : World} (hr : Region.ready md ops on = []) (h : Q .normal a w) : wpBut P md ops Q S z n on a w := by
  cases n with
  | zero => exact ⟨hr, h⟩
  | succ n => exact ⟨fun _ => h, by rw [hr]; simp⟩
/-- The step is handed over behind a 'for every K'. -/
theorem wpBut_step {i : Nat} {o : Oper} {n : Nat} {on : Array Bool} {a : Act} {w : World} (hr : Region.ready md ops on = [i]) (ho : ops[i]? = some o) (hg : o.guard = none)
    (h : ∀ K' : Act → World → Prop, Hid (∀ a w, (i ≠ z → S w) → ((i ≠ z → S w) → wpBut P md ops Q S z n (on.setIfInBounds i true) a w) → K' a w) → o.wp P a w K' Q) : wpBut P md ops Q S z (n + 1) on a w := by
  refine wpBut_one hr ?_
  unfold wpOp
  rw [ho]
  simp only [Region.wanted, hg, if_true]
  exact .inl (h _ (fun a w hS hW => ⟨hS, hW hS⟩))
theorem wp_region_but {id : Nat} {a : Act} {w : World} (S : World → Prop) (z : Nat) (hm : P.follows .mixedOrders = true) (hS : S w.drew) (h : S w.drew → wpBut P .any ops Q S z ops.size (Array.replicate ops.size false) a w.drew) : (Code.region id ops true).wp P Q a w :=
  wp_region_any hm (wpBut_any _ _ _ _ (h hS))
end
end Go.Proofs.YtjmbmapanmbnhaaDoor
namespace Go.Proofs.YtjmbmapanmbnhaaDoor
open Go.RowKit

theorem exec_node_at {o : Oper} {a : Act} {x : Operand} {b p : Nat} {w : World} (cs : List Value) (ho : o.op = .load 31 x) (hx : a.eval x = .pointer (some ⟨b, p, none⟩)) (hc : w.rangeAt b p cs) (hcs : cs.length = 15) : (execOp a.eval o).run Tryd.prog w = .ok (.value (.agg cs.toArray)) w := by
  unfold execOp
  simp only [ho, hx, Instr.loadAt, Instr.sureAddr, Sem.run_bind, Sem.run_pure, Result.andThen_ok, run_loadVar_mid w b p 31 cs _ hc Tryd.underlying31 rfl (by rw [hcs]; exact infoNode)]
theorem infoNodeI : ∃ i, Tryd.prog.info? 31 = some i ∧ i.zero = some (.agg #[.int .i64 0, .int .i64 0, .float .f64 0, .string ⟨#[]⟩, .bool false, .int .i64 0, .int .i64 0, .int .i64 0, .bool false, .bool false, .int .i64 0, .int .i64 0, .bool false, .bool false, .slice none 0 0]) ∧ i.size = 15 ∧ i.bytes = 128 := by
  have := infoNodeZ
  cases h : Tryd.prog.info? 31 with
  | none => rw [h] at this; cases this
  | some i =>
    rw [h] at this
    have := Option.some.inj this
    simp only [Prod.mk.injEq] at this
    exact ⟨i, rfl, this.1, this.2.1, this.2.2⟩
/-- What has been done behind some rounds: us the nodes that were appended, v their list. -/
structure OwAt (w wr : World) (ps zs : List Value) (h : Hd) (us : List Nd) (v : Value) (fp : List Nat) : Prop where
  bel : Below w.heap.size w wr
  b1 : Blk wr w.heap.size ps 31
  b2 : Blk wr (w.heap.size + 1) zs 31
  b3 : Blk wr (w.heap.size + 2) (h.cells v) 31
  own : Own wr (w.heap.size + 3) v (.mk h us) fp
theorem OwAt.start {w : World} (ps zs : List Value) (h : Hd) : OwAt w (((w.alloc (.cells ps.toArray 31)).alloc (.cells zs.toArray 31)).alloc (.cells (h.cells (.slice none 0 0)).toArray 31)) ps zs h [] (.slice none 0 0) [] := by
  refine ⟨?_, ?_, ?_, ?_, ?_, ?_, ?_⟩
  · exact (((Below.refl _ _).alloc (Nat.le_refl _) _).alloc (by simp [World.size_alloc]) _).alloc (by simp [World.size_alloc]; omega) _
  · exact ((Blk.new w ps _).alloc _).alloc _
  · have := Blk.new (w.alloc (.cells ps.toArray 31)) zs 31
    rw [World.size_alloc] at this
    exact this.alloc _
  · have := Blk.new ((w.alloc (.cells ps.toArray 31)).alloc (.cells zs.toArray 31)) (h.cells (.slice none 0 0)) 31
    rw [World.size_alloc, World.size_alloc] at this
    exact this
  · rw [NdOwn]; exact .inl ⟨rfl, rfl, rfl⟩
  · exact List.nodup_nil
  · intro b hb; simp at hb
theorem OwAt.lt {w wr : World} {ps zs : List Value} {h : Hd} {us : List Nd} {v : Value} {fp : List Nat} (q : OwAt w wr ps zs h us v fp) : w.heap.size + 3 ≤ wr.heap.size := q.b3.lt
/-- One more: the node u, made in w2, is laid into a block of its own and appended. -/
theorem OwAt.step {w wr w2 w4 : World} {ps zs : List Value} {h : Hd} {us : List Nd} {v : Value} {fp : List Nat} (q : OwAt w wr ps zs h us v fp) (hg : Below wr.heap.size wr w2) {B : Nat} (hB : wr.heap.size ≤ B) {sl : Value} {u : Nd} {f : List Nat} (hu : Own w2 B sl u f) {xs : List Value}
    (hx : (w2.alloc (.cells (u.hd.cells sl).toArray 31)).ownsRow (w.heap.size + 3) 31 15 v us.length xs) {g c : Nat}
    (ho : w4.ownsRow (w.heap.size + 3) 31 15 (.slice (some ⟨g, 0, none⟩) (us.length + 1) c) (us.length + 1) (xs ++ u.hd.cells sl)) (hgr : (w2.alloc (.cells (u.hd.cells sl).toArray 31)).grownBy w4 v.ownBlock) (ht : v.ownBlock = some g ∨ (w2.alloc (.cells (u.hd.cells sl).toArray 31)).heap.size ≤ g) :
    ∃ fp', OwAt w (w4.setCell ⟨w.heap.size + 2, 14, none⟩ (.slice (some ⟨g, 0, none⟩) (us.length + 1) c)) ps zs h (us ++ [u]) (.slice (some ⟨g, 0, none⟩) (us.length + 1) c) fp' := by
  have hlt := q.lt
  have hg3 : Below wr.heap.size wr (w2.alloc (.cells (u.hd.cells sl).toArray 31)) := hg.alloc hg.size _
  have own3 : Own (w2.alloc (.cells (u.hd.cells sl).toArray 31)) (w.heap.size + 3) v (.mk h us) fp := q.own.below hg3
  have hu3 : Own (w2.alloc (.cells (u.hd.cells sl).toArray 31)) (w.heap.size + 3) sl u f := (hu.below ((Below.refl _ _).alloc (Nat.le_refl _) _)).le (by omega)
  have hd : ∀ b ∈ f, b ∉ fp := fun b hb hb' => by
    have := (hu.new b hb).1
    have := (q.own.new b hb').2
    omega
  obtain ⟨fp', ow4⟩ := own3.grow hx hu3 hd ho hgr ht h
  have hrow : ∀ i, v.ownBlock = some i → w.heap.size + 3 ≤ i := fun i hi => (hx.lt i hi).1
  have hb4 : ∀ i, i < w.heap.size + 3 → w4.heap[i]? = wr.heap[i]? := fun i hi => by
    rw [hgr.block i (by have := hg3.size; omega) (fun e => by have := hrow i e.symm; omega)]
    exact hg3.block i (by omega)
  have ne : ∀ i, i ≠ w.heap.size + 2 → (w4.setCell ⟨w.heap.size + 2, 14, none⟩ (.slice (some ⟨g, 0, none⟩) (us.length + 1) c)).heap[i]? = w4.heap[i]? := fun i hi => heap_setCell_other w4 _ i _ hi
  have sz : (w4.setCell ⟨w.heap.size + 2, 14, none⟩ (.slice (some ⟨g, 0, none⟩) (us.length + 1) c)).heap.size = w4.heap.size := by
    show (w4.heap.modify _ _).size = _
    simp
  have b3' : Blk w4 (w.heap.size + 2) (h.cells v) 31 := (hb4 _ (by omega)).trans q.b3
  refine ⟨fp', ⟨?_, ?_, ?_, ?_, ?_⟩⟩
  · refine ⟨?_, ?_, ?_, ?_, ?_⟩
    · exact hgr.os.trans (hg3.os.trans q.bel.os)
    · exact hgr.tape.trans (hg3.tape.trans q.bel.tape)
    · exact hgr.output.trans (hg3.output.trans q.bel.output)
    · rw [sz]; have := hgr.size; have := hg3.size; omega
    · intro i hi
      rw [ne i (by omega), hb4 i (by omega)]
      exact q.bel.block i hi
  · exact (ne _ (by omega)).trans ((hb4 _ (by omega)).trans q.b1)
  · exact (ne _ (by omega)).trans ((hb4 _ (by omega)).trans q.b2)
  · exact b3'.set 14 _
  · refine ⟨ow4.own.mono (fun b hb => ne b (by have := (ow4.new b hb).1; omega)), ow4.nodup, fun b hb => ?_⟩
    rw [sz]; exact ow4.new b hb
end Go.Proofs.YtjmbmapanmbnhaaDoor
