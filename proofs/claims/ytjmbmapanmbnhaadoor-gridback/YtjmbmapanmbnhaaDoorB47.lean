/- GridBack: the list 'all' while its entries change places and a grid gets them. GridBack: the two turns of the way. No function of the program here. Two reads of a drawn region that come up together: one walk serves both orders. No function of the program here. -/
import Derived.Test.YtjmbmapanmbnhaaDoorB46
import Derived.Test.YtjmbmapanmbnhaaDoorB8
namespace Go.Proofs.YtjmbmapanmbnhaaDoor
open Go.RowKit Go.Maps Go.Sort Go.Lib Go.Shelf

/-- A grid outlives what is done to other blocks. -/
theorem GridIn.far {w w' : World} {F S : Nat → Prop} {g : Nat} {L : List Cc} (h : GridIn w F g L) (k : Kp w w' S) (hS : ∀ i, F i → ¬ S i) : GridIn w' F g L := by
  obtain ⟨hg, ⟨hb, rfl⟩ | ⟨m, D, hb, hFm, hne, hown, hm⟩⟩ := h
  · exact ⟨hg, .inl ⟨(k.block g (Array.getElem?_eq_some_iff.1 hb).1 (hS g hg)).trans hb, rfl⟩⟩
  · exact ⟨hg, .inr ⟨m, D, (k.block g (Array.getElem?_eq_some_iff.1 hb).1 (hS g hg)).trans hb, hFm, hne, ownsMap_block hown (k.block m hown.lt (hS m hFm)), ⟨hm.size, hm.rng, hm.keys, fun c r ct hc => by obtain ⟨sl, e1, e2⟩ := hm.vals c r ct hc; exact ⟨sl, e1, e2.kp k (fun i hi => hS i hi)⟩, hm.once⟩⟩⟩
theorem Mine.far {w W W' : World} {F S : Nat → Prop} {g : Nat} {L : List Cc} (h : Mine w W F g L) (k : Kp W W' S) (hS : ∀ i, F i → ¬ S i) : Mine w W' F g L := by
  have hg : F g := h.gi.1
  exact ⟨h.gi.far k hS, h.ok, h.lo, fun m hm => h.mp m (by rw [← k.block g h.lt (hS g hg)]; exact hm)⟩
theorem Apart.keeps {w w' : World} {S : Nat → Prop} {g g' : Nat} (ha : Apart w g g') (k : Kp w w' S) (hg : g < w.heap.size) (hg' : g' < w.heap.size) (h1 : ¬ S g) (h2 : ¬ S g') : Apart w' g g' :=
  ⟨ha.1, fun m q1 q2 => ha.2 m (by rw [← k.block g hg h1]; exact q1) (by rw [← k.block g' hg' h2]; exact q2)⟩
theorem St3.far {F S : Nat → Prop} {w W W' : World} {g1 g2 g3 : Nat} {L1 L2 L3 : List Cc} (h : St3 F F F w W g1 L1 g2 L2 g3 L3) (k : Kp W W' S) (hS : ∀ i, F i → ¬ S i) (hw : ∀ i, i < w.heap.size → ¬ S i) : St3 F F F w W' g1 L1 g2 L2 g3 L3 :=
  ⟨h.m1.far k hS, h.m2.far k hS, h.m3.far k hS, h.a12.keeps k h.m1.lt h.m2.lt (hS _ h.m1.gi.1) (hS _ h.m2.gi.1), h.a23.keeps k h.m2.lt h.m3.lt (hS _ h.m2.gi.1) (hS _ h.m3.gi.1), h.a31.keeps k h.m3.lt h.m1.lt (hS _ h.m3.gi.1) (hS _ h.m1.gi.1), h.kp.trans' k (fun i hi e => (hw i hi e).elim)⟩
theorem St3.mono {F1 F2 F3 G1 G2 G3 : Nat → Prop} {w W : World} {g1 g2 g3 : Nat} {L1 L2 L3 : List Cc} (h : St3 F1 F2 F3 w W g1 L1 g2 L2 g3 L3) (h1 : ∀ i, F1 i → G1 i) (h2 : ∀ i, F2 i → G2 i) (h3 : ∀ i, F3 i → G3 i) : St3 G1 G2 G3 w W g1 L1 g2 L2 g3 L3 :=
  ⟨h.m1.mono h1, h.m2.mono h2, h.m3.mono h3, h.a12, h.a23, h.a31, h.kp⟩
theorem St3.low {F1 F2 F3 : Nat → Prop} {w W : World} {g1 g2 g3 : Nat} {L1 L2 L3 : List Cc} (h : St3 F1 F2 F3 w W g1 L1 g2 L2 g3 L3) : St3 (fun i => i < W.heap.size) (fun i => i < W.heap.size) (fun i => i < W.heap.size) w W g1 L1 g2 L2 g3 L3 :=
  ⟨⟨h.m1.g0.low, h.m1.ok, h.m1.lo, h.m1.mp⟩, ⟨h.m2.g0.low, h.m2.ok, h.m2.lo, h.m2.mp⟩, ⟨h.m3.g0.low, h.m3.ok, h.m3.lo, h.m3.mp⟩, h.a12, h.a23, h.a31, h.kp⟩
/-- A block that is neither cells nor a map outlives a step on a grid. -/
theorem Mine.keeps {w W W' : World} {F : Nat → Prop} {g D : Nat} {L : List Cc} {x : Option (List Deferred)} (h : Mine w W F g L) (k : Km g W W') (hd : W.heap[D]? = some (.deferred x)) : W'.heap[D]? = some (.deferred x) := by
  refine (k.kp.block D (Array.getElem?_eq_some_iff.1 hd).1 (fun q => ?_)).trans hd
  obtain ⟨_, ⟨hb, _⟩ | ⟨m, Dm, hb, _, hne, hown, _⟩⟩ := h.gi
  · rcases q with rfl | ⟨q, _⟩
    · rw [hb] at hd; cases hd
    · rw [hb] at q; simp at q
  · rcases q with rfl | ⟨q, _⟩
    · rw [hb] at hd; cases hd
    · rw [hb] at q
      have e : m = D := by simpa using q
      subst e
      obtain ⟨es, clock, h1, _⟩ := hown
      rw [h1] at hd; cases hd
/-- A block of cells, not the grid's own, outlives it. -/
theorem Km.cells {g b : Nat} {W W' : World} (k : Km g W W') {cs : Array Value} {t : TypeId} {f : Nat × Nat} (hb : W.heap[b]? = some (.cells cs t f)) (hne : b ≠ g) : W'.heap[b]? = W.heap[b]? :=
  k.kp.block b (Array.getElem?_eq_some_iff.1 hb).1 (fun q => by
    rcases q with q | q
    · exact hne q
    · exact q.2 _ _ _ hb)
/-- The list, n puts in block r (if there are any), its variable in block x; a deferred block D. -/
structure Rw (W : World) (x : Nat) (p : Option Addr) (r n cap D : Nat) (zs : List (Cc × Value)) : Prop where
  len : zs.length = n
  box : Blk W x [.slice p n cap] 47
  ne : x ≠ r
  rng : ∀ (i : Nat) y, zs[i]? = some y → W.rangeAt r (i * 23) (ptCells y.1 y.2)
  row : 0 < n → p = some ⟨r, 0, none⟩ ∧ ∃ cs : Array Value, W.heap[r]? = some (.cells cs 50 (0, 0)) ∧ n * 23 ≤ cs.size
  tree : ∀ y ∈ zs, NdIn W (fun i => i ≠ r) y.2 y.1.2.t
  dd : W.heap[D]? = some (.deferred (some []))
theorem Rw.pos {W : World} {x : Nat} {p : Option Addr} {r n cap D : Nat} {zs : List (Cc × Value)} (h : Rw W x p r n cap D zs) {i : Nat} {y : Cc × Value} (hy : zs[i]? = some y) : i < n := by
  have := (List.getElem?_eq_some_iff.1 hy).1
  rw [h.len] at this; exact this
theorem Rw.there {W : World} {x : Nat} {p : Option Addr} {r n cap D : Nat} {zs : List (Cc × Value)} (h : Rw W x p r n cap D zs) {i : Nat} (hi : i < n) : W.there r (i * 23) 23 := by
  obtain ⟨_, cs, h1, h2⟩ := h.row (by omega)
  exact there_of_block h1 _ _ (by omega)
theorem Rw.nul {W W' : World} {x : Nat} {p : Option Addr} {r n cap D : Nat} {zs : List (Cc × Value)} (h : Rw W x p r n cap D zs) (k : Kp W W' Nul) : Rw W' x p r n cap D zs :=
  ⟨h.len, h.box.kp k (fun x => x), h.ne, fun i y hy => rangeAt_kp (h.rng i y hy) k (fun x => x), fun hn => by
    obtain ⟨hp, cs, h1, h2⟩ := h.row hn
    exact ⟨hp, cs, (k.block r (Array.getElem?_eq_some_iff.1 h1).1 (fun x => x)).trans h1, h2⟩, fun y hy => (h.tree y hy).kp k (fun _ _ x => x), (k.block D (Array.getElem?_eq_some_iff.1 h.dd).1 (fun x => x)).trans h.dd⟩
/-- A step on a grid leaves it. -/
theorem Rw.km {w W W' : World} {F : Nat → Prop} {g : Nat} {L : List Cc} {x : Nat} {p : Option Addr} {r n cap D : Nat} {zs : List (Cc × Value)} (h : Rw W x p r n cap D zs) (m : Mine w W F g L) (k : Km g W W') : Rw W' x p r n cap D zs := by
  obtain ⟨mv, bg⟩ := m.g0.blk
  have hxg : x ≠ g := Blk.ne h.box bg (by decide)
  have er : 0 < n → W'.heap[r]? = W.heap[r]? := fun hn => by
    obtain ⟨_, cs, h1, h2⟩ := h.row hn
    refine k.cells h1 (fun e => ?_)
    subst e
    unfold Blk at bg
    rw [bg] at h1
    simp at h1
  exact ⟨h.len, k.blk h.box hxg, h.ne, fun i y hy => rangeAt_block (h.rng i y hy) (er (by have := h.pos hy; omega)), fun hn => by
    obtain ⟨hp, cs, h1, h2⟩ := h.row hn
    exact ⟨hp, cs, (er hn).trans h1, h2⟩, fun y hy => (h.tree y hy).km k bg, m.keeps k h.dd⟩
theorem setCells_row {b : Nat} {t : TypeId} : ∀ (vs : List Value) (o : Nat) (w : World) (cs : Array Value), w.heap[b]? = some (.cells cs t (0, 0)) → ∃ cs' : Array Value, (w.setCells b o vs).heap[b]? = some (.cells cs' t (0, 0)) ∧ cs'.size = cs.size
  | [], _, w, cs, h => ⟨cs, h, rfl⟩
  | v :: vs, o, w, cs, h => by
    have h1 := heap_setCell_same w b o cs t v h
    obtain ⟨cs', h2, h3⟩ := setCells_row vs (o + 1) _ _ h1
    exact ⟨cs', h2, by rw [h3]; simp⟩
/-- Two of its entries change places. -/
theorem Rw.swap {W X : World} {x : Nat} {p : Option Addr} {r n cap D i j : Nat} {zs : List (Cc × Value)} {yi yj : Cc × Value} (h : Rw W x p r n cap D zs) (hi : zs[i]? = some yi) (hj : zs[j]? = some yj)
    (hX : (W.setCells r (i * 23) (ptCells yj.1 yj.2)).setCells r (j * 23) (ptCells yi.1 yi.2) = X) : Rw X x p r n cap D ((zs.set i yj).set j yi) ∧ Kp W X (fun b => b = r) := by
  have li := (List.getElem?_eq_some_iff.1 hi).1
  have lj := (List.getElem?_eq_some_iff.1 hj).1
  have hlen := h.len
  obtain ⟨X1, hX1⟩ : ∃ X1, W.setCells r (i * 23) (ptCells yj.1 yj.2) = X1 := ⟨_, rfl⟩
  rw [hX1] at hX
  have k1 : Kp W X1 (fun b => b = r) := hX1 ▸ setCells_kp (fun b => b = r) rfl _ _ _
  have k2 : Kp X1 X (fun b => b = r) := hX ▸ setCells_kp (fun b => b = r) rfl _ _ _
  have k : Kp W X (fun b => b = r) := k1.trans k2
  have t1 : W.there r (i * 23) 23 := h.there (by omega)
  have t2 : X1.there r (j * 23) 23 := by rw [← hX1]; exact World.there_setCells (h.there (by omega)) _ _ _
  obtain ⟨hp, cs, c1, c2⟩ := h.row (by omega)
  have hDr : D ≠ r := fun e => by
    subst e
    have := h.dd
    rw [c1] at this; cases this
  refine ⟨⟨by rw [List.length_set, List.length_set]; exact hlen, h.box.kp k h.ne, h.ne, fun t y hy => ?_, ?_, fun y hy => ((h.tree y ((swap_mem hi hj y).1 hy)).kp k (fun b hb e => hb e)), (k.block D (Array.getElem?_eq_some_iff.1 h.dd).1 hDr).trans h.dd⟩, k⟩
  · rw [swap_get hi hj] at hy
    by_cases e1 : t = j
    · subst e1
      rw [if_pos rfl] at hy
      obtain rfl := Option.some.inj hy
      rw [← hX]
      exact World.rangeAt_setCells_same _ _ _ _ (by rw [pt_len]; exact t2)
    · rw [if_neg e1] at hy
      have hap : ∀ u : Nat, t ≠ u → t * 23 + 23 ≤ u * 23 ∨ u * 23 + 23 ≤ t * 23 := fun u hu => by omega
      have hX' : X1.rangeAt r (t * 23) (ptCells y.1 y.2) → X.rangeAt r (t * 23) (ptCells y.1 y.2) := fun q => by
        rw [← hX]
        exact World.rangeAt_setCells_apart q _ _ _ (.inr (by rw [pt_len, pt_len]; exact hap j e1))
      by_cases e2 : t = i
      · subst e2
        rw [if_pos rfl] at hy
        obtain rfl := Option.some.inj hy
        refine hX' ?_
        rw [← hX1]
        exact World.rangeAt_setCells_same _ _ _ _ (by rw [pt_len]; exact t1)
      · rw [if_neg e2] at hy
        refine hX' ?_
        rw [← hX1]
        exact World.rangeAt_setCells_apart (h.rng t y hy) _ _ _ (.inr (by rw [pt_len, pt_len]; exact hap i e2))
  · obtain ⟨cs1, d1, d2⟩ := setCells_row (ptCells yj.1 yj.2) (i * 23) W cs c1
    rw [hX1] at d1
    obtain ⟨cs2, d3, d4⟩ := setCells_row (ptCells yi.1 yi.2) (j * 23) X1 cs1 d1
    rw [hX] at d3
    exact fun _ => ⟨hp, cs2, d3, by omega⟩
/-- The list as the range left it. -/
theorem AllR.rw {w5 w6 W : World} {K : List Cc} {Z : Nat → Prop} {v : Value} {zs : List (Cc × Value)} {D : Nat} (h : AllR w5 w6 K K.length Z W v zs) (h6 : w6.heap.size = w5.heap.size + 1) (hd : W.heap[D]? = some (.deferred (some []))) : ∃ p r cap, w5.heap.size < r ∧ (0 < K.length → r < W.heap.size) ∧ v = .slice p K.length cap ∧ zs.map (·.1) = K ∧ Rw W w5.heap.size p r K.length cap D zs := by
  have hm : zs.map (·.1) = K := by rw [h.map, List.take_length]
  have hl := h.len
  rcases h.pts.row.2 with ⟨ev, e⟩ | ⟨r, cap, cur, e1, e2, e3, e4, e5, e6, e7⟩
  · have hz : zs = [] := List.length_eq_zero_iff.1 e
    subst hz
    have hk : K.length = 0 := by rw [← hl]; rfl
    refine ⟨none, w5.heap.size + 1, 0, by omega, fun q => by omega, by rw [ev, hk], hm, hl, by rw [hk, ← ev]; exact h.box, by omega, fun i y hy => by simp at hy, fun q => by omega, fun y hy => by simp at hy, hd⟩
  · refine ⟨some ⟨r, 0, none⟩, r, cap, by omega, fun _ => (Array.getElem?_eq_some_iff.1 e3).1, by rw [e1, hl], hm, hl, by rw [← hl, ← e1]; exact h.box, by omega, fun i y hy => ?_, fun _ => ⟨rfl, cur, e3, ?_⟩, fun y hy => (h.pts.tree y hy).mono (fun i hi _ => ⟨rfl, fun e => hi.2 (by rw [e1, e]; rfl)⟩), hd⟩
    · obtain ⟨p, c, q1, q2⟩ := h.pts.slice
      obtain ⟨b, q3, _, q4⟩ := q2 (by have := (List.getElem?_eq_some_iff.1 hy).1; omega)
      rw [e1] at q1
      have : b = r := by
        rw [q3] at q1
        simp at q1
        exact q1.1.symm
      subst this
      exact q4 i y hy
    · have : (rowP zs).length ≤ cur.toList.length := by rw [← e7, List.length_take]; exact Nat.min_le_right _ _
      rw [rowP_len, hl] at this
      simpa using this
end Go.Proofs.YtjmbmapanmbnhaaDoor
namespace Go.Proofs.YtjmbmapanmbnhaaDoor
open Go.RowKit

/-- Within a turn. -/
def WayJ (j : Nat) (L ys : List Cc) (q : Nat) (M : List Cc) : Prop := (j = 0 → Way0 L ys q M) ∧ (j = 1 → Way1 L ys q M)
/-- Between the turns. -/
def WayT (j : Nat) (L ys M : List Cc) : Prop := (j = 0 → M = L) ∧ (j = 1 → Way1 L ys 0 M) ∧ (j = 2 → Way1 L ys ys.length M)
theorem WayT.start {j : Nat} {L ys M : List Cc} (h : WayT j L ys M) : WayJ j L ys 0 M := ⟨fun e => by rw [h.1 e]; exact way0_zero _ _, h.2.1⟩
theorem WayJ.fin {j : Nat} {L ys M : List Cc} (h : WayJ j L ys ys.length M) : WayT (j + 1) L ys M := ⟨fun e => by omega, fun e => way0_end (h.1 (by omega)), fun e => h.2 (by omega)⟩
theorem WayJ.skip {j q : Nat} {L ys M : List Cc} {y : Cc} (h : WayJ j L ys q M) (hy : ys[q]? = some y) (hk : y.2.k = 0 ↔ ¬ j = 0) : WayJ j L ys (q + 1) M :=
  ⟨fun e => way0_skip (h.1 e) hy (fun k0 => hk.1 k0 e), fun e => way1_skip (h.2 e) hy (hk.2 (by omega))⟩
structure PutY (a : Ct) : Prop where
  val : gv a = true
  ok : a.t.ok
  x : a.v.x < 18446744073709551616
  size : a.t.size ≤ 1048576
  cp : a.k ≠ 0 → cpC a = a
theorem put_y {B : List Cc} (gB : ∀ x ∈ B, Gd x.2) {y : Cc} (h : PutOf B y) : PutY y.2 := by
  rcases h with h | ⟨h, _⟩
  · have g := gB _ h
    exact ⟨g.val, g.ok, g.x, g.size, fun _ => g.cp⟩
  · rw [h]
    exact ⟨gv0, zNd_ok, by decide, by show zNd.size ≤ _; rw [zsize]; decide, fun q => absurd rfl q⟩
/-- A put of the way. -/
theorem WayJ.go {j q : Nat} {L B ys M L' : List Cc} {c s er : Int} {a : Ct} (h : WayJ j L ys q M) (hj : j < 2) (hw : WayP L B ys) (hy : ys[q]? = some ((c, s), a)) (hk : a.k = 0 ↔ j = 0) (hv : vC c s = true) (hg : PutY a) (oM : M.Pairwise (fun x y => x.1 ≠ y.1)) (lB : B.length ≤ 4096) (hp : PutR M c s a er L') : er = 0 ∧ WayJ j L ys (q + 1) L' := by
  by_cases hk0 : a.k = 0
  · have hj0 := hk.1 hk0
    obtain ⟨e, rfl⟩ := hp.del hv hg.val hk0
    exact ⟨e, fun _ => way0_del (h.1 hj0) hy hk0, fun e => by omega⟩
  · have hj1 : j = 1 := by
      have : ¬ j = 0 := fun e => hk0 (hk.2 e)
      omega
    have w1 := h.2 hj1
    obtain ⟨e, hL⟩ := hp.put hv hg.val hk0 (hw.room w1 oM lB (List.mem_of_getElem? hy) hk0)
    rw [hg.cp hk0] at hL
    subst hL
    exact ⟨e, fun e => by omega, fun _ => way1_put hw.once w1 hy hk0⟩
end Go.Proofs.YtjmbmapanmbnhaaDoor
namespace Go.Proofs.YtjmbmapanmbnhaaDoor
open Go.RowKit

section
variable {P : Program} {ops : Array Oper} {Q : Exit → Act → World → Prop} {md : Region.Mode} {S : World → Prop}
theorem op_val {i : Nat} {o : Oper} {a : Act} {w : World} {K : Act → World → Prop} {v : Value} {d : Option Tmp} (ho : ops[i]? = some o) (hd : o.dst = d) (hg : o.guard = none) (he : (execOp a.eval o).run P w = .ok (.value v) w) (h : K (a.put d v) w) : wpOp P ops Q i K a w := by
  subst hd
  unfold wpOp
  rw [ho]
  simp only [Region.wanted, hg, if_true]
  refine .inl ?_
  unfold Oper.wp
  rw [he]
  exact h
theorem wpH_pair {i j : Nat} {oi oj : Oper} {n : Nat} {on : Array Bool} {a : Act} {w : World} (vi vj : Value) (di dj : Option Tmp) (hr : Region.ready md ops on = [i, j]) (hri : Region.ready md ops (on.setIfInBounds i true) = [j]) (hrj : Region.ready md ops (on.setIfInBounds j true) = [i])
    (hoi : ops[i]? = some oi) (hoj : ops[j]? = some oj) (hdi : oi.dst = di) (hdj : oj.dst = dj) (hgi : oi.guard = none) (hgj : oj.guard = none) (hS : S w) (hij : i ≠ j)
    (ei : (execOp a.eval oi).run P w = .ok (.value vi) w) (ej' : (execOp (a.put di vi).eval oj).run P w = .ok (.value vj) w) (ej : (execOp a.eval oj).run P w = .ok (.value vj) w) (ei' : (execOp (a.put dj vj).eval oi).run P w = .ok (.value vi) w) (hput : (a.put dj vj).put di vi = (a.put di vi).put dj vj)
    (h : wpAnyH P md ops Q S n ((on.setIfInBounds i true).setIfInBounds j true) ((a.put di vi).put dj vj) w) : wpAnyH P md ops Q S (n + 1 + 1) on a w := by
  have one : ∀ {k : Nat} {on' : Array Bool} {a' : Act}, Region.ready md ops on' = [k] → wpOp P ops Q k (fun a2 w2 => S w2 ∧ wpAnyH P md ops Q S n (on'.setIfInBounds k true) a2 w2) a' w → wpAnyH P md ops Q S (n + 1) on' a' w := fun hk q =>
    ⟨fun h0 => (by rw [hk] at h0; cases h0), fun l hl => (by rw [hk] at hl; obtain rfl := List.mem_singleton.1 hl; exact q)⟩
  refine ⟨fun h0 => (by rw [hr] at h0; cases h0), fun k hk => ?_⟩
  rw [hr] at hk
  rcases List.mem_cons.1 hk with rfl | hk
  · exact op_val hoi hdi hgi ei ⟨hS, one hri (op_val hoj hdj hgj ej' ⟨hS, h⟩)⟩
  · obtain rfl := List.mem_singleton.1 hk
    refine op_val hoj hdj hgj ej ⟨hS, one hrj (op_val hoi hdi hgi ei' ⟨hS, ?_⟩)⟩
    rw [Array.setIfInBounds_comm _ _ hij.symm, hput]
    exact h
end
end Go.Proofs.YtjmbmapanmbnhaaDoor
