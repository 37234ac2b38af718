/- Trees in memory of their own: each list in a block of its own, none twice. No function of the program here. Copy: a tree of nodes in new memory. Copy: the walk. Copy: a node with nodes below it; any tree. Copy of a node with nodes below it: the walk. -/
import Derived.Test.YtbkcebbddhaifaaGreatDoorC4
import Derived.Test.YtbkcebbddhaifaaGreatDoorC5
import Derived.Deep.RegionHeld3
namespace Go.Proofs.YtbkcebbddhaifaaGreatDoor
open Go.RowKit

mutual
/-- The list sl has the nodes below t, each list of them in a block of its own: fp. -/
def NdOwn (w : World) (sl : Value) : Nd → List Nat → Prop
  | .mk _ ts, fp => (ts = [] ∧ sl = .slice none 0 0 ∧ fp = []) ∨
    ∃ b c fps cs, sl = .slice (some ⟨b, 0, none⟩) ts.length c ∧ ts ≠ [] ∧ ts.length ≤ c ∧ c ≤ maxLen ∧ w.heap[b]? = some (.cells cs 44 (0, 0)) ∧ cs.size = c * 15 ∧ fp = b :: fps ∧ NdsOwn w b 0 ts fps
def NdsOwn (w : World) (b o : Nat) : List Nd → List Nat → Prop
  | [], fp => fp = []
  | t :: ts, fp => ∃ sl f1 f2, w.rangeAt b o (t.hd.cells sl) ∧ NdOwn w sl t f1 ∧ fp = f1 ++ f2 ∧ NdsOwn w b (o + 15) ts f2
end

mutual
theorem NdOwn.mono {w w' : World} {sl : Value} : ∀ {t : Nd} {fp : List Nat}, NdOwn w sl t fp → (∀ b ∈ fp, w'.heap[b]? = w.heap[b]?) → NdOwn w' sl t fp
  | .mk _ ts, fp, h, hF => by
    rw [NdOwn] at h ⊢
    rcases h with h | ⟨b, c, fps, cs, h1, h2, h3, h4, h5, h6, rfl, h8⟩
    · exact .inl h
    · refine .inr ⟨b, c, fps, cs, h1, h2, h3, h4, (hF b (List.mem_cons_self)).trans h5, h6, rfl, ?_⟩
      exact NdsOwn.mono h8 (fun o' cs' _ _ hr => rangeAt_block hr (hF b (List.mem_cons_self))) (fun b' hb' => hF b' (List.mem_cons_of_mem _ hb'))
theorem NdsOwn.mono {w w' : World} {b : Nat} : ∀ {ts : List Nd} {o : Nat} {fp : List Nat}, NdsOwn w b o ts fp → (∀ o' cs, o ≤ o' → o' + cs.length ≤ o + ts.length * 15 → w.rangeAt b o' cs → w'.rangeAt b o' cs) → (∀ b ∈ fp, w'.heap[b]? = w.heap[b]?) → NdsOwn w' b o ts fp
  | [], _, _, h, _, _ => by rw [NdsOwn] at h ⊢; exact h
  | t :: ts, o, fp, h, hr, hF => by
    rw [NdsOwn] at h ⊢
    obtain ⟨sl, f1, f2, h1, h2, rfl, h4⟩ := h
    refine ⟨sl, f1, f2, hr o _ (Nat.le_refl _) (by simp; omega) h1, NdOwn.mono h2 (fun b hb => hF b (List.mem_append_left _ hb)), rfl, ?_⟩
    exact NdsOwn.mono h4 (fun o' cs g1 g2 g3 => hr o' cs (by omega) (by simp at g2 ⊢; omega) g3) (fun b hb => hF b (List.mem_append_right _ hb))
end
theorem NdsOwn.snoc {w : World} {b : Nat} {u : Nd} {f : List Nat} {sl : Value} (hu : NdOwn w sl u f) : ∀ {us : List Nd} {o : Nat} {fps : List Nat}, NdsOwn w b o us fps → w.rangeAt b (o + us.length * 15) (u.hd.cells sl) → NdsOwn w b o (us ++ [u]) (fps ++ f)
  | [], o, fps, h, hr => by
    rw [NdsOwn] at h
    subst h
    rw [List.nil_append, NdsOwn]
    exact ⟨sl, f, [], by simpa using hr, hu, by simp, by rw [NdsOwn]⟩
  | t :: us, o, fps, h, hr => by
    rw [NdsOwn] at h
    obtain ⟨s1, f1, f2, h1, h2, rfl, h4⟩ := h
    rw [List.cons_append, NdsOwn]
    refine ⟨s1, f1, f2 ++ f, h1, h2, by rw [List.append_assoc], NdsOwn.snoc hu h4 ?_⟩
    rw [show o + 15 + us.length * 15 = o + (t :: us).length * 15 by simp; omega]
    exact hr

mutual
theorem NdOwn.isIn {w : World} {sl : Value} : ∀ {t : Nd} {fp : List Nat} {F : Nat → Prop}, NdOwn w sl t fp → (∀ b ∈ fp, F b) → NdIn w F sl t
  | .mk _ ts, fp, F, h, hF => by
    rw [NdOwn] at h
    rw [NdIn]
    rcases h with ⟨rfl, rfl, rfl⟩ | ⟨b, c, fps, cs, rfl, h2, h3, h4, h5, h6, rfl, h8⟩
    · exact ⟨none, 0, rfl, by simp, by unfold maxLen; omega, .inl ⟨rfl, .inl rfl⟩⟩
    · refine ⟨_, c, rfl, h3, h4, .inr ⟨b, 0, rfl, hF b (List.mem_cons_self), ?_⟩⟩
      exact NdsOwn.isIn h8 (fun b' hb' => hF b' (List.mem_cons_of_mem _ hb'))
theorem NdsOwn.isIn {w : World} {b : Nat} : ∀ {ts : List Nd} {o : Nat} {fp : List Nat} {F : Nat → Prop}, NdsOwn w b o ts fp → (∀ b ∈ fp, F b) → NdsIn w F b o ts
  | [], _, _, _, _, _ => by rw [NdsIn]; trivial
  | t :: ts, o, fp, F, h, hF => by
    rw [NdsOwn] at h
    obtain ⟨sl, f1, f2, h1, h2, rfl, h4⟩ := h
    rw [NdsIn]
    exact ⟨⟨sl, h1, NdOwn.isIn h2 (fun b hb => hF b (List.mem_append_left _ hb))⟩, NdsOwn.isIn h4 (fun b hb => hF b (List.mem_append_right _ hb))⟩
end
theorem NdOwn.one {w : World} {sl : Value} {t : Nd} {fp : List Nat} (h : NdOwn w sl t fp) : sl.oneCell' = true := (h.isIn (F := fun _ => True) (fun _ _ => trivial)).one
/-- The tree lies in new memory: that of blocks from B on. -/
structure Own (w : World) (B : Nat) (sl : Value) (t : Nd) (fp : List Nat) : Prop where
  own : NdOwn w sl t fp
  nodup : fp.Nodup
  new : ∀ b ∈ fp, B ≤ b ∧ b < w.heap.size
theorem Own.below {w w' : World} {B : Nat} {sl : Value} {t : Nd} {fp : List Nat} (h : Own w B sl t fp) (g : Below w.heap.size w w') : Own w' B sl t fp :=
  ⟨h.own.mono (fun b hb => g.block b (h.new b hb).2), h.nodup, fun b hb => ⟨(h.new b hb).1, Nat.lt_of_lt_of_le (h.new b hb).2 g.size⟩⟩
theorem Own.le {w : World} {B B' : Nat} {sl : Value} {t : Nd} {fp : List Nat} (h : Own w B sl t fp) (hB : B' ≤ B) : Own w B' sl t fp :=
  ⟨h.own, h.nodup, fun b hb => ⟨Nat.le_trans hB (h.new b hb).1, (h.new b hb).2⟩⟩
theorem Own.isIn {w : World} {B : Nat} {sl : Value} {t : Nd} {fp : List Nat} (h : Own w B sl t fp) : NdIn w (fun b => B ≤ b ∧ b < w.heap.size) sl t := h.own.isIn h.new
end Go.Proofs.YtbkcebbddhaifaaGreatDoor
namespace Go.Proofs.YtbkcebbddhaifaaGreatDoor
open Go.RowKit

mutual
/-- A tree with the NaN in the place of every other one. -/
def cpy : Nd → Nd
  | .mk h ts => .mk { h with x := one h.x } (cpyL ts)
def cpyL : List Nd → List Nd
  | [] => []
  | t :: ts => cpy t :: cpyL ts
end
theorem cpyL_map : ∀ ts : List Nd, cpyL ts = ts.map cpy
  | [] => by rw [cpyL]; rfl
  | t :: ts => by rw [cpyL, cpyL_map ts]; rfl
theorem cpyL_len (ts : List Nd) : (cpyL ts).length = ts.length := by rw [cpyL_map, List.length_map]
theorem cpyL_take (ts : List Nd) (k : Nat) (h : k < ts.length) : cpyL (ts.take (k + 1)) = cpyL (ts.take k) ++ [cpy ts[k]] := by
  rw [cpyL_map, cpyL_map, List.take_add_one, List.getElem?_eq_getElem h, List.map_append]; rfl
theorem cpy_hd (t : Nd) : (cpy t).hd = { t.hd with x := one t.hd.x } := by cases t; rw [cpy]; rfl
theorem cpy_ts (t : Nd) : (cpy t).ts = cpyL t.ts := by cases t; rw [cpy]; rfl
mutual
theorem cpy_size : ∀ t : Nd, (cpy t).size = t.size
  | .mk h ts => by rw [cpy, Nd.size, Nd.size, cpyL_size ts]
theorem cpyL_size : ∀ ts : List Nd, sizeL (cpyL ts) = sizeL ts
  | [] => by rw [cpyL]
  | t :: ts => by rw [cpyL, sizeL, sizeL, cpy_size t, cpyL_size ts]
end
mutual
theorem cpy_ok : ∀ t : Nd, t.ok → (cpy t).ok
  | .mk h ts, q => by rw [Nd.ok] at q; rw [cpy, Nd.ok]; exact ⟨one_lt _ q.1, cpyL_ok ts q.2⟩
theorem cpyL_ok : ∀ ts : List Nd, okL ts → okL (cpyL ts)
  | [], _ => by rw [cpyL, okL]; trivial
  | t :: ts, q => by rw [okL] at q; rw [cpyL, okL]; exact ⟨cpy_ok t q.1, cpyL_ok ts q.2⟩
end

theorem infoNodeZ : (Tryz.prog.info? 44).map (fun i => (i.zero, i.size, i.bytes)) = some (some (.agg #[.int .i64 0, .int .i64 0, .float .f64 0, .string ⟨#[]⟩, .bool false, .int .i64 0, .int .i64 0, .int .i64 0, .bool false, .bool false, .int .i64 0, .int .i64 0, .bool false, .bool false, .slice none 0 0]), 15, 128) := by kernel_rfl
/-- make of so many nodes. -/
theorem make_nodes (n : Nat) (hn : n ≤ 1048576) (w : World) : ∃ cs : Array Value, cs.size = n * 15 ∧
    (Instr.makeSlice 42 (.int .i64 (n : Int)) (.int .i64 (n : Int))).run Tryz.prog w = .ok (.slice (some ⟨w.heap.size, 0, none⟩) n n) (w.alloc (.cells cs 44)) := by
  obtain ⟨i, hi, h1⟩ : ∃ i, Tryz.prog.info? 44 = some i ∧ (i.zero, i.size, i.bytes) = (some (.agg #[.int .i64 0, .int .i64 0, .float .f64 0, .string ⟨#[]⟩, .bool false, .int .i64 0, .int .i64 0, .int .i64 0, .bool false, .bool false, .int .i64 0, .int .i64 0, .bool false, .bool false, .slice none 0 0]), 15, 128) := by
    have := infoNodeZ
    cases h : Tryz.prog.info? 44 with
    | none => rw [h] at this; cases this
    | some i => rw [h] at this; exact ⟨i, rfl, Option.some.inj this⟩
  simp only [Prod.mk.injEq] at h1
  obtain ⟨hz, hs, hb⟩ := h1
  have := run_make (P := Tryz.prog) w 42 44 i _ Tryz.underlying42 hi hz .i64 .i64 n n (by omega) (Int.le_refl _) (by rw [hb]; omega) (by omega)
  rw [Int.toNat_natCast] at this
  exact ⟨_, by rw [size_madeCells, hs], this⟩

theorem rangeAt_alloc_new (w : World) (cs : Array Value) (t : TypeId) : (w.alloc (.cells cs t)).rangeAt w.heap.size 0 cs.toList := by
  intro j v hj
  rw [World.cell?_alloc_at _ _ _ _ rfl, Nat.zero_add]
  simpa using hj
theorem there_of_block {w : World} {b : Nat} {cs : Array Value} {t : TypeId} (hb : w.heap[b]? = some (.cells cs t (0, 0))) (o n : Nat) (h : o + n ≤ cs.size) : w.there b o n := by
  intro j hj
  constructor
  · rw [cell_of_row w b (o + j) cs t (0, 0) hb, Array.getElem?_eq_getElem (by omega)]; rfl
  · simp [World.frozen?, hb]
end Go.Proofs.YtbkcebbddhaifaaGreatDoor
namespace Go.Proofs.YtbkcebbddhaifaaGreatDoor
open Go.RowKit

theorem gr_below {w w' : World} (h : Gr w w') : Below w.heap.size w w' := ⟨h.ext.os, h.ext.tape, h.ext.output, h.ext.size, h.ext.block⟩
theorem structNode : ∃ d, Tryz.prog.underlying 44 = some d ∧ d.isRow = true := ⟨_, Tryz.underlying44, rfl⟩

set_option maxRecDepth 20000 in
set_option maxHeartbeats 8000000 in
theorem copy_none (h : Hd) (hx : h.x < 18446744073709551616) (a : Option Addr) (c : Nat) (w : World) :
    Calls Tryz.prog 12 #[h.val (.slice a 0 c)] w fun e w' => e = .returned (({ h with x := one h.x } : Hd).val (.slice none 0 0)) ∧ Below w.heap.size w w' := by
  have H1 : Hid (∀ w, Calls Tryz.prog 48 #[.float .f64 h.x] w fun e w' => e = .returned (.float .f64 (one h.x)) ∧ w' = w) := one_any h.x hx
  generalize one h.x = y at *
  obtain ⟨k, o, x, s, b, f, c1, r1, p1, q1, c2, r2, p2, q2⟩ := h
  simp only at *
  go_enter Tryz.func12, Tryz.ntmps12
  go_wp2_with (go_at_call 48; refine (H1.out _).mono ?_; rintro e w' ⟨rfl, rfl⟩)
  generalize hW : ((w.alloc (.cells #[.int .i64 k, .int .i64 o, .float .f64 y, .string s, .bool b, .int .i64 f, .int .i64 c1, .int .i64 r1, .bool p1, .bool q1, .int .i64 c2, .int .i64 r2, .bool p2, .bool q2, .slice none 0 0] 44)).alloc _) = W
  have HW : Hid (W = _) := hW.symm
  clear hW
  go_loopw [22] (fun i wr => i = .int .i64 0 ∧ wr = W) (fun _ _ => 0)
  case atStart => exact ⟨rfl, rfl⟩
  case round =>
    obtain ⟨rfl, rfl⟩ := hrel
    rw [HW.out]
    go_wp2_with (refine wpList_store_new rfl 44 (.tmp 2) (.tmp 34) rfl _ _ _ _ _ (by simp) rfl rfl rfl infoNode (Hd.one ⟨k, o, y, s, b, f, c1, r1, p1, q1, c2, r2, p2, q2⟩ rfl) ?_)
    refine bodyPost_ret (results_cell_row rfl _ _ (w.heap.size + 1) 44 _ (0, 0) _ rfl (heap_alloc2_new _ _ _) Tryz.underlying44 rfl infoNode) rfl ?_
    exact ⟨rfl, ((Below.refl _ _).alloc (Nat.le_refl _) _).alloc (by simp) _⟩
end Go.Proofs.YtbkcebbddhaifaaGreatDoor
namespace Go.Proofs.YtbkcebbddhaifaaGreatDoor
open Go.RowKit

/-- What Copy has done behind k rounds: W0 the world when the loop began, A the new list's block. -/
structure CpAt (W0 wr : World) (A n k : Nat) (us : List Nd) (fps : List Nat) : Prop where
  below : Below A W0 wr
  lt : A < wr.heap.size
  row : ∃ cs, wr.heap[A]? = some (.cells cs 44 (0, 0)) ∧ cs.size = n * 15
  len : us.length = k
  own : NdsOwn wr A 0 us fps
  nodup : fps.Nodup
  new : ∀ b ∈ fps, A < b ∧ b < wr.heap.size

theorem CpAt.step {W0 wr w1 : World} {A n k : Nat} {us : List Nd} {fps : List Nat} (h : CpAt W0 wr A n k us fps) (hk : k < n) {B : Nat} (hB : wr.heap.size ≤ B) (hg : Below wr.heap.size wr w1) {sl : Value} {u : Nd} {f : List Nat} (hu : Own w1 B sl u f) :
    CpAt W0 (w1.setCells A (k * 15) (u.hd.cells sl)) A n (k + 1) (us ++ [u]) (fps ++ f) := by
  obtain ⟨cs, h1, h2⟩ := h.row
  have hA : w1.heap[A]? = some (.cells cs 44 (0, 0)) := (hg.block A h.lt).trans h1
  have hth : w1.there A (k * 15) 15 := there_of_block hA _ _ (by omega)
  have hne : ∀ b, b ≠ A → (w1.setCells A (k * 15) (u.hd.cells sl)).heap[b]? = w1.heap[b]? := fun b hb => heap_setCells_ne hb _ _ _
  refine ⟨?_, ?_, ?_, ?_, ?_, ?_, ?_⟩
  · exact setCells_below (h.below.trans (hg.mono (Nat.le_of_lt h.lt))) (Nat.le_refl _) _ _
  · rw [size_setCells]; exact Nat.lt_of_lt_of_le h.lt hg.size
  · exact ⟨_, heap_setCells_at _ _ _ _ hA, by rw [setAll_size, h2]⟩
  · rw [List.length_append, h.len]; rfl
  · have o1 : NdsOwn w1 A 0 us fps := h.own.mono (fun o' cs' _ _ hr => rangeAt_block hr (hg.block A h.lt)) (fun b hb => hg.block b (h.new b hb).2)
    have o2 : NdsOwn (w1.setCells A (k * 15) (u.hd.cells sl)) A 0 us fps := by
      refine o1.mono (fun o' cs' _ q hr => ?_) (fun b hb => hne b (by have := (h.new b hb).1; omega))
      exact World.rangeAt_setCells_apart hr _ _ _ (.inr (.inl (by rw [h.len] at q; omega)))
    refine NdsOwn.snoc (sl := sl) (hu.own.mono (fun b hb => hne b (by have := (hu.new b hb).1; have := h.lt; omega))) o2 ?_
    rw [h.len, Nat.zero_add]
    exact World.rangeAt_setCells_same _ _ _ _ (by simpa using hth)
  · rw [List.nodup_append]
    refine ⟨h.nodup, hu.nodup, fun b hb b' hb' e => ?_⟩
    subst e
    have := (h.new b hb).2
    have := (hu.new b hb').1
    omega
  · intro b hb
    rw [size_setCells]
    rcases List.mem_append.1 hb with hb | hb
    · exact ⟨(h.new b hb).1, Nat.lt_of_lt_of_le (h.new b hb).2 hg.size⟩
    · exact ⟨by have := (hu.new b hb).1; have := h.lt; omega, (hu.new b hb).2⟩
theorem CpAt.done {W0 wr : World} {A n : Nat} {us : List Nd} {fps : List Nat} (h : CpAt W0 wr A n n us fps) (hn : 0 < n) (hm : n ≤ 1048576) (g : Hd) : Own wr A (.slice (some ⟨A, 0, none⟩) n n) (.mk g us) (A :: fps) := by
  obtain ⟨cs, h1, h2⟩ := h.row
  refine ⟨?_, ?_, ?_⟩
  · rw [NdOwn]
    refine .inr ⟨A, n, fps, cs, by rw [h.len], fun e => by have := h.len; rw [e] at this; simp at this; omega, by rw [h.len]; exact Nat.le_refl _, by unfold maxLen; omega, h1, h2, rfl, h.own⟩
  · rw [List.nodup_cons]
    exact ⟨fun hb => by have := (h.new A hb).1; omega, h.nodup⟩
  · intro b hb
    rcases List.mem_cons.1 hb with rfl | hb
    · exact ⟨Nat.le_refl _, h.lt⟩
    · exact ⟨Nat.le_of_lt (h.new b hb).1, (h.new b hb).2⟩
end Go.Proofs.YtbkcebbddhaifaaGreatDoor
namespace Go.Proofs.YtbkcebbddhaifaaGreatDoor
open Go.RowKit

theorem ndOwn_slice {w : World} {sl : Value} {t : Nd} {fp : List Nat} (h : NdOwn w sl t fp) : ∃ p l c, sl = .slice p l c := by
  cases t; rw [NdOwn] at h
  rcases h with ⟨_, rfl, _⟩ | ⟨b, c, _, _, rfl, _⟩
  · exact ⟨_, _, _, rfl⟩
  · exact ⟨_, _, _, rfl⟩
/-- All cells below B lie as they lay in X, but for those of block A. -/
def Kc (X : World) (B A : Nat) (w' : World) : Prop := ∀ a : Addr, a.block < B → a.block ≠ A → w'.cell? a = X.cell? a
theorem Kc.set {X w' : World} {B A : Nat} (h : Kc X B A w') (j : Nat) (v : Value) : Kc X B A (w'.setCell ⟨A, j, none⟩ v) := fun a h1 h2 => by
  rw [World.cell?_setCell_other _ _ _ _ (fun e => h2 (by rw [← e]))]; exact h a h1 h2
theorem Kc.below {X w' : World} {B A : Nat} (h : Below B X w') : Kc X B A w' := fun _ h1 _ => h.cell h1
theorem Kc.sets {X w' : World} {B A : Nat} (h : Kc X B A w') (o : Nat) (vs : List Value) : Kc X B A (w'.setCells A o vs) := fun a h1 h2 => by
  rw [World.cell?_setCells_out A vs o w' a (fun e => absurd e h2)]; exact h a h1 h2
theorem there15 {w : World} {b o : Nat} (h : w.there b o 15) : ∃ y0 y1 y2 y3 y4 y5 y6 y7 y8 y9 y10 y11 y12 y13 y14, w.cell? ⟨b, o, none⟩ = some y0 ∧ w.cell? ⟨b, o + 1, none⟩ = some y1 ∧ w.cell? ⟨b, o + 2, none⟩ = some y2 ∧ w.cell? ⟨b, o + 3, none⟩ = some y3 ∧ w.cell? ⟨b, o + 4, none⟩ = some y4 ∧ w.cell? ⟨b, o + 5, none⟩ = some y5 ∧ w.cell? ⟨b, o + 6, none⟩ = some y6 ∧ w.cell? ⟨b, o + 7, none⟩ = some y7 ∧ w.cell? ⟨b, o + 8, none⟩ = some y8 ∧ w.cell? ⟨b, o + 9, none⟩ = some y9 ∧ w.cell? ⟨b, o + 10, none⟩ = some y10 ∧ w.cell? ⟨b, o + 11, none⟩ = some y11 ∧ w.cell? ⟨b, o + 12, none⟩ = some y12 ∧ w.cell? ⟨b, o + 13, none⟩ = some y13 ∧ w.cell? ⟨b, o + 14, none⟩ = some y14 ∧ w.frozen? ⟨b, o, none⟩ = false ∧ w.frozen? ⟨b, o + 1, none⟩ = false ∧ w.frozen? ⟨b, o + 2, none⟩ = false ∧ w.frozen? ⟨b, o + 3, none⟩ = false ∧ w.frozen? ⟨b, o + 4, none⟩ = false ∧ w.frozen? ⟨b, o + 5, none⟩ = false ∧ w.frozen? ⟨b, o + 6, none⟩ = false ∧ w.frozen? ⟨b, o + 7, none⟩ = false ∧ w.frozen? ⟨b, o + 8, none⟩ = false ∧ w.frozen? ⟨b, o + 9, none⟩ = false ∧ w.frozen? ⟨b, o + 10, none⟩ = false ∧ w.frozen? ⟨b, o + 11, none⟩ = false ∧ w.frozen? ⟨b, o + 12, none⟩ = false ∧ w.frozen? ⟨b, o + 13, none⟩ = false ∧ w.frozen? ⟨b, o + 14, none⟩ = false := by
  obtain ⟨y0, t0⟩ := Option.isSome_iff_exists.1 (h 0 (by decide)).1
  obtain ⟨y1, t1⟩ := Option.isSome_iff_exists.1 (h 1 (by decide)).1
  obtain ⟨y2, t2⟩ := Option.isSome_iff_exists.1 (h 2 (by decide)).1
  obtain ⟨y3, t3⟩ := Option.isSome_iff_exists.1 (h 3 (by decide)).1
  obtain ⟨y4, t4⟩ := Option.isSome_iff_exists.1 (h 4 (by decide)).1
  obtain ⟨y5, t5⟩ := Option.isSome_iff_exists.1 (h 5 (by decide)).1
  obtain ⟨y6, t6⟩ := Option.isSome_iff_exists.1 (h 6 (by decide)).1
  obtain ⟨y7, t7⟩ := Option.isSome_iff_exists.1 (h 7 (by decide)).1
  obtain ⟨y8, t8⟩ := Option.isSome_iff_exists.1 (h 8 (by decide)).1
  obtain ⟨y9, t9⟩ := Option.isSome_iff_exists.1 (h 9 (by decide)).1
  obtain ⟨y10, t10⟩ := Option.isSome_iff_exists.1 (h 10 (by decide)).1
  obtain ⟨y11, t11⟩ := Option.isSome_iff_exists.1 (h 11 (by decide)).1
  obtain ⟨y12, t12⟩ := Option.isSome_iff_exists.1 (h 12 (by decide)).1
  obtain ⟨y13, t13⟩ := Option.isSome_iff_exists.1 (h 13 (by decide)).1
  obtain ⟨y14, t14⟩ := Option.isSome_iff_exists.1 (h 14 (by decide)).1
  exact ⟨y0, y1, y2, y3, y4, y5, y6, y7, y8, y9, y10, y11, y12, y13, y14, t0, t1, t2, t3, t4, t5, t6, t7, t8, t9, t10, t11, t12, t13, t14, (h 0 (by decide)).2, (h 1 (by decide)).2, (h 2 (by decide)).2, (h 3 (by decide)).2, (h 4 (by decide)).2, (h 5 (by decide)).2, (h 6 (by decide)).2, (h 7 (by decide)).2, (h 8 (by decide)).2, (h 9 (by decide)).2, (h 10 (by decide)).2, (h 11 (by decide)).2, (h 12 (by decide)).2, (h 13 (by decide)).2, (h 14 (by decide)).2⟩
theorem setCells15 (w : World) (b o : Nat) (h : Hd) (sl : Value) : w.setCells b o (h.cells sl) = ((((((((((((((w.setCell ⟨b, o, none⟩ (.int .i64 h.k)).setCell ⟨b, o + 1, none⟩ (.int .i64 h.o)).setCell ⟨b, o + 2, none⟩ (.float .f64 h.x)).setCell ⟨b, o + 3, none⟩ (.string h.s)).setCell ⟨b, o + 4, none⟩ (.bool h.b)).setCell ⟨b, o + 5, none⟩ (.int .i64 h.f)).setCell ⟨b, o + 6, none⟩ (.int .i64 h.c1)).setCell ⟨b, o + 7, none⟩ (.int .i64 h.r1)).setCell ⟨b, o + 8, none⟩ (.bool h.p1)).setCell ⟨b, o + 9, none⟩ (.bool h.q1)).setCell ⟨b, o + 10, none⟩ (.int .i64 h.c2)).setCell ⟨b, o + 11, none⟩ (.int .i64 h.r2)).setCell ⟨b, o + 12, none⟩ (.bool h.p2)).setCell ⟨b, o + 13, none⟩ (.bool h.q2)).setCell ⟨b, o + 14, none⟩ sl := rfl
theorem run_store_node (w : World) (b o : Nat) (h : Hd) (p : Option Addr) (l c : Nat) (ht : w.there b o 15) :
    (Instr.storeAt 44 (.pointer (some ⟨b, o, none⟩)) (.agg #[.int .i64 h.k, .int .i64 h.o, .float .f64 h.x, .string h.s, .bool h.b, .int .i64 h.f, .int .i64 h.c1, .int .i64 h.r1, .bool h.p1, .bool h.q1, .int .i64 h.c2, .int .i64 h.r2, .bool h.p2, .bool h.q2, .slice p l c])).run Tryz.prog w = .ok () (w.setCells b o (h.cells (.slice p l c))) :=
  run_storeAt_mid w b o 44 _ ht infoNode (h.one rfl)

set_option maxRecDepth 20000 in
set_option maxHeartbeats 8000000 in
theorem copy_some (h : Hd) (hx : h.x < 18446744073709551616) (ts : List Nd) (n : Nat) (hts : ts.length = n) (hn : 0 < n) (hm : n ≤ 1048576) (b o c : Nat) (F : Nat → Prop) (w : World) (hns : NdsIn w F b o ts)
    (H : Hid (∀ i, (hi : i < ts.length) → ∀ (s1 : Value) (wq : World), NdIn wq F s1 ts[i] → Calls Tryz.prog 12 #[(ts[i]).hd.val s1] wq fun e w' =>
      ∃ sl' fp, e = .returned ((cpy ts[i]).hd.val sl') ∧ Own w' wq.heap.size sl' (cpy ts[i]) fp ∧ Below wq.heap.size wq w')) :
    Calls Tryz.prog 12 #[h.val (.slice (some ⟨b, o, none⟩) n c)] w fun e w' =>
      ∃ sl' fp, e = .returned (({ h with x := one h.x } : Hd).val sl') ∧ Own w' w.heap.size sl' (.mk { h with x := one h.x } (cpyL ts)) fp ∧ Below w.heap.size w w' := by
  have H1 : Hid (∀ w, Calls Tryz.prog 48 #[.float .f64 h.x] w fun e w' => e = .returned (.float .f64 (one h.x)) ∧ w' = w) := one_any h.x hx
  generalize one h.x = y at *
  have HTS : Hid (ts.length = n) := hts
  have HNS : Hid (NdsIn w F b o ts) := hns
  have HM : Hid (n ≤ 1048576) := hm
  have hb : Hid (b < w.heap.size) := by
    show _ < _
    obtain ⟨sl, hr, _⟩ := hns.get 0 (by omega)
    exact rangeAt_lt hr
  clear hns hts
  obtain ⟨k, o', x, s, bb, f, c1, r1, p1, q1, c2, r2, p2, q2⟩ := h
  simp only at *
  obtain ⟨cs, hcs, hmk⟩ := make_nodes n hm (((w.alloc (.cells #[.int .i64 k, .int .i64 o', .float .f64 y, .string s, .bool bb, .int .i64 f, .int .i64 c1, .int .i64 r1, .bool p1, .bool q1, .int .i64 c2, .int .i64 r2, .bool p2, .bool q2, .slice none 0 0] 44))).alloc (.cells #[.int .i64 0, .int .i64 0, .float .f64 0, .string ⟨#[]⟩, .bool false, .int .i64 0, .int .i64 0, .int .i64 0, .bool false, .bool false, .int .i64 0, .int .i64 0, .bool false, .bool false, .slice none 0 0] 44))
  have HCS : Hid (cs.size = n * 15) := hcs
  clear hcs hm
  have hn' : (0 : Int) < (n : Int) := by omega
  go_enter Tryz.func12, Tryz.ntmps12
  go_wp2_with (go_at_call 48; refine (H1.out _).mono ?_; rintro e w' ⟨rfl, rfl⟩)
  clear hmk H1
  generalize hA : w.heap.size + 1 + 1 = A at *
  generalize hW : (((w.alloc (.cells #[.int .i64 k, .int .i64 o', .float .f64 y, .string s, .bool bb, .int .i64 f, .int .i64 c1, .int .i64 r1, .bool p1, .bool q1, .int .i64 c2, .int .i64 r2, .bool p2, .bool q2, .slice (some ⟨A, 0, none⟩) n n] 44)).alloc (.cells #[.int .i64 0, .int .i64 0, .float .f64 0, .string ⟨#[]⟩, .bool false, .int .i64 0, .int .i64 0, .int .i64 0, .bool false, .bool false, .int .i64 0, .int .i64 0, .bool false, .bool false, .slice none 0 0] 44)).alloc (.cells cs 44)) = W0 at *
  have HAq : Hid (w.heap.size + 2 = A) := hA
  have SZ : Hid (W0.heap.size = A + 1) := by show _ = _; rw [← hW]; simp [World.size_alloc]; omega
  have B0 : Hid (W0.heap[w.heap.size]? = some (.cells #[.int .i64 k, .int .i64 o', .float .f64 y, .string s, .bool bb, .int .i64 f, .int .i64 c1, .int .i64 r1, .bool p1, .bool q1, .int .i64 c2, .int .i64 r2, .bool p2, .bool q2, .slice (some ⟨A, 0, none⟩) n n] 44 (0, 0))) := by
    show _ = _
    rw [← hW, Below.heap_alloc _ _ _ (by simp [World.size_alloc] <;> omega), heap_alloc2_old]
  have B1 : Hid (W0.heap[w.heap.size + 1]? = some (.cells #[.int .i64 0, .int .i64 0, .float .f64 0, .string ⟨#[]⟩, .bool false, .int .i64 0, .int .i64 0, .int .i64 0, .bool false, .bool false, .int .i64 0, .int .i64 0, .bool false, .bool false, .slice none 0 0] 44 (0, 0))) := by
    show _ = _
    rw [← hW, Below.heap_alloc _ _ _ (by simp [World.size_alloc] <;> omega), heap_alloc2_new]
  have B2 : Hid (W0.heap[A]? = some (.cells cs 44 (0, 0))) := by
    show _ = _
    rw [← hW, ← hA]
    have := heap_alloc_new ((w.alloc (.cells #[.int .i64 k, .int .i64 o', .float .f64 y, .string s, .bool bb, .int .i64 f, .int .i64 c1, .int .i64 r1, .bool p1, .bool q1, .int .i64 c2, .int .i64 r2, .bool p2, .bool q2, .slice (some ⟨A, 0, none⟩) n n] 44)).alloc (.cells #[.int .i64 0, .int .i64 0, .float .f64 0, .string ⟨#[]⟩, .bool false, .int .i64 0, .int .i64 0, .int .i64 0, .bool false, .bool false, .int .i64 0, .int .i64 0, .bool false, .bool false, .slice none 0 0] 44)) (.cells cs 44)
    rw [World.size_alloc, World.size_alloc] at this
    rw [hA] at this ⊢
    exact this
  have G0 : Hid (Below w.heap.size w W0) := by
    show Below _ _ _
    rw [← hW]
    exact (((Below.refl _ _).alloc (Nat.le_refl _) _).alloc (by simp [World.size_alloc]) _).alloc (by simp [World.size_alloc]; omega) _
  clear hW hA
  go_loopw [22] (fun i wr => ∃ (q : Nat) (fps : List Nat), q ≤ n ∧ i = .int .i64 q ∧ CpAt W0 wr A n q (cpyL (ts.take q)) fps) (fun i _ => n - (intOf i).toNat)
  case atStart =>
    refine ⟨0, [], Nat.zero_le _, rfl, Below.refl _ _, by rw [SZ.out]; omega, ⟨cs, B2.out, HCS.out⟩, by simp [cpyL], by simp [cpyL, NdsOwn], List.nodup_nil, fun b hb => by simp at hb⟩
  case round =>
    obtain ⟨q, fps, hq, rfl, hcp⟩ := hrel
    have CP : Hid (CpAt W0 wr A n q (cpyL (ts.take q)) fps) := hcp
    have GW : Hid (Below w.heap.size w wr) := G0.out.trans (hcp.below.mono (by have := HAq.out; omega))
    have D0 : Hid (wr.heap[w.heap.size]? = some (.cells #[.int .i64 k, .int .i64 o', .float .f64 y, .string s, .bool bb, .int .i64 f, .int .i64 c1, .int .i64 r1, .bool p1, .bool q1, .int .i64 c2, .int .i64 r2, .bool p2, .bool q2, .slice (some ⟨A, 0, none⟩) n n] 44 (0, 0))) := (hcp.below.block _ (by have := HAq.out; omega)).trans B0.out
    have D1 : Hid (wr.heap[w.heap.size + 1]? = _) := (hcp.below.block _ (by have := HAq.out; omega)).trans B1.out
    clear hcp
    by_cases hlt : q < n
    · have hqt : q < ts.length := by rw [HTS.out]; exact hlt
      obtain ⟨s1, r1', n1⟩ := HNS.out.get q hqt
      have c14 : wr.cell? ⟨w.heap.size, 14, none⟩ = some (.slice (some ⟨A, 0, none⟩) n n) := cell_of_row wr _ 14 _ _ _ D0.out
      have R1 : Hid (wr.rangeAt b (o + q * 15) ((ts[q]).hd.cells s1)) := rangeAt_block r1' (GW.out.block b hb.out)
      have N1 : Hid (∀ wq, Below wr.heap.size wr wq → NdIn wq F s1 ts[q]) := fun wq hq => n1.mono fun b hb hlt => ⟨(hq.block b (Nat.lt_of_lt_of_le hlt GW.out.size)).trans (GW.out.block b hlt), hb⟩
      have HC : Hid (∀ wq, Below wr.heap.size wr wq → Calls Tryz.prog 12 #[(ts[q]).hd.val s1] wq fun e w' =>
        ∃ sl' fp, e = .returned ((cpy ts[q]).hd.val sl') ∧ Own w' wq.heap.size sl' (cpy ts[q]) fp ∧ Below wq.heap.size wq w') := fun wq hq => H.out q hqt s1 wq (N1.out wq hq)
      have O1 : Hid (s1.oneCell' = true) := n1.one
      have HT : Hid (cpyL (ts.take (q + 1)) = cpyL (ts.take q) ++ [cpy ts[q]]) := cpyL_take ts q hqt
      have HQB : Hid ((q : Int) + 1 ≤ 9223372036854775807) := by show _ ≤ _; have := HM.out; omega
      have hq0 : (0 : Int) ≤ (q : Int) := by omega
      have hqn : (q : Int) < (n : Int) := by omega
      clear r1' n1 N1 H
      generalize cpy ts[q] = u at *
      generalize (ts[q]).hd = ha at *
      go_wp2_with (first | (refine wpList_load_mid rfl 44 (.tmp 25) rfl b (o + q * 15) rfl (ha.cells s1) _ R1.out Tryz.underlying44 rfl infoNode ?_) | (refine wpList_store_new rfl 44 (.tmp 5) (.tmp 26) rfl _ _ _ _ _ (by first | rfl | simp) rfl rfl rfl infoNode (ha.one O1.out) ?_))
      go_frame
      have KS : Hid (∀ w', Kc (wr.alloc (.cells (ha.cells s1).toArray 44)) (wr.heap.size + 1) A w' → w'.cell? ⟨w.heap.size, 14, none⟩ = some (.slice (some ⟨A, 0, none⟩) n n) ∧ w'.cell? ⟨wr.heap.size, 0, none⟩ = some (.int .i64 ha.k) ∧ w'.cell? ⟨wr.heap.size, 1, none⟩ = some (.int .i64 ha.o) ∧ w'.cell? ⟨wr.heap.size, 2, none⟩ = some (.float .f64 ha.x) ∧ w'.cell? ⟨wr.heap.size, 3, none⟩ = some (.string ha.s) ∧ w'.cell? ⟨wr.heap.size, 4, none⟩ = some (.bool ha.b) ∧ w'.cell? ⟨wr.heap.size, 5, none⟩ = some (.int .i64 ha.f) ∧ w'.cell? ⟨wr.heap.size, 6, none⟩ = some (.int .i64 ha.c1) ∧ w'.cell? ⟨wr.heap.size, 7, none⟩ = some (.int .i64 ha.r1) ∧ w'.cell? ⟨wr.heap.size, 8, none⟩ = some (.bool ha.p1) ∧ w'.cell? ⟨wr.heap.size, 9, none⟩ = some (.bool ha.q1) ∧ w'.cell? ⟨wr.heap.size, 10, none⟩ = some (.int .i64 ha.c2) ∧ w'.cell? ⟨wr.heap.size, 11, none⟩ = some (.int .i64 ha.r2) ∧ w'.cell? ⟨wr.heap.size, 12, none⟩ = some (.bool ha.p2) ∧ w'.cell? ⟨wr.heap.size, 13, none⟩ = some (.bool ha.q2) ∧ w'.cell? ⟨wr.heap.size, 14, none⟩ = some s1) := by
        intro w' hb'
        have hc : ∀ j v, ((ha.cells s1).toArray)[j]? = some v → w'.cell? ⟨wr.heap.size, j, none⟩ = some v := by
          intro j v hj
          rw [hb' _ (Nat.lt_succ_self _) (by show wr.heap.size ≠ A; have := CP.out.lt; omega), World.cell?_alloc_at _ _ _ _ rfl]; exact hj
        exact ⟨by rw [hb' _ (by show w.heap.size < _; have := cell_lt c14; omega) (by show w.heap.size ≠ A; have := HAq.out; omega), World.cell?_alloc_lt _ _ _ (cell_lt c14)]; exact c14, hc 0 _ rfl, hc 1 _ rfl, hc 2 _ rfl, hc 3 _ rfl, hc 4 _ rfl, hc 5 _ rfl, hc 6 _ rfl, hc 7 _ rfl, hc 8 _ rfl, hc 9 _ rfl, hc 10 _ rfl, hc 11 _ rfl, hc 12 _ rfl, hc 13 _ rfl, hc 14 _ rfl⟩
      have ST : Hid (∀ w', Below (wr.heap.size + 1) (wr.alloc (.cells (ha.cells s1).toArray 44)) w' → w'.there A (q * 15) 15) := by
        intro w' hb'
        obtain ⟨cs', e1, e2⟩ := CP.out.row
        have hA := CP.out.lt
        refine there_of_block (cs := cs') (t := 44) ?_ _ _ (by omega)
        rw [hb'.block A (by omega), Below.heap_alloc _ _ _ hA]; exact e1
      have hS0 := KS.out _ (Kc.below ((Below.refl _ _).drew))
      go_region_held3 (fun w' => w'.cell? ⟨w.heap.size, 14, none⟩ = some (.slice (some ⟨A, 0, none⟩) n n) ∧ w'.cell? ⟨wr.heap.size, 0, none⟩ = some (.int .i64 ha.k) ∧ w'.cell? ⟨wr.heap.size, 1, none⟩ = some (.int .i64 ha.o) ∧ w'.cell? ⟨wr.heap.size, 2, none⟩ = some (.float .f64 ha.x) ∧ w'.cell? ⟨wr.heap.size, 3, none⟩ = some (.string ha.s) ∧ w'.cell? ⟨wr.heap.size, 4, none⟩ = some (.bool ha.b) ∧ w'.cell? ⟨wr.heap.size, 5, none⟩ = some (.int .i64 ha.f) ∧ w'.cell? ⟨wr.heap.size, 6, none⟩ = some (.int .i64 ha.c1) ∧ w'.cell? ⟨wr.heap.size, 7, none⟩ = some (.int .i64 ha.r1) ∧ w'.cell? ⟨wr.heap.size, 8, none⟩ = some (.bool ha.p1) ∧ w'.cell? ⟨wr.heap.size, 9, none⟩ = some (.bool ha.q1) ∧ w'.cell? ⟨wr.heap.size, 10, none⟩ = some (.int .i64 ha.c2) ∧ w'.cell? ⟨wr.heap.size, 11, none⟩ = some (.int .i64 ha.r2) ∧ w'.cell? ⟨wr.heap.size, 12, none⟩ = some (.bool ha.p2) ∧ w'.cell? ⟨wr.heap.size, 13, none⟩ = some (.bool ha.q2) ∧ w'.cell? ⟨wr.heap.size, 14, none⟩ = some s1) (first | with_reducible exact hS0 | with_reducible exact hS2 | (rw [← setCells15]; exact KS.out _ (Kc.sets (Kc.below hbl) _ _))) (first | (go_at_call 12; refine (HC.out _ (((Below.refl _ _).alloc (Nat.le_refl _) _).drew)).mono ?_; rintro e w2 ⟨sl', fp, rfl, hown, hbw⟩; obtain ⟨pp, ll, cc, rfl⟩ := ndOwn_slice hown.own; have hbl : Below (wr.heap.size + 1) (wr.alloc (.cells (ha.cells s1).toArray 44)) w2 := (((Below.refl _ _).drew).trans (hbw.mono (by simp [World.size_alloc]))); obtain ⟨y0, y1, y2, y3, y4, y5, y6, y7, y8, y9, y10, y11, y12, y13, y14, t0, t1, t2, t3, t4, t5, t6, t7, t8, t9, t10, t11, t12, t13, t14, f0, f1, f2, f3, f4, f5, f6, f7, f8, f9, f10, f11, f12, f13, f14⟩ := there15 (ST.out _ hbl); have hS2 := KS.out _ (Kc.below hbl)))
      have GB : Hid (Below wr.heap.size wr w2) := ((Below.refl _ _).alloc (Nat.le_refl _) _).trans (hbl.mono (Nat.le_succ _))
      have HO : Hid (Own w2 (wr.heap.size + 1) (.slice pp ll cc) u fp) := by
        have := hown
        rw [show ((wr.alloc (.cells (ha.cells s1).toArray 44)).drew).heap.size = wr.heap.size + 1 from by simp [World.size_alloc]] at this
        exact this
      have CN : Hid (CpAt W0 (w2.setCells A (q * 15) (u.hd.cells (.slice pp ll cc))) A n (q + 1) (cpyL (ts.take (q + 1))) (fps ++ fp)) := by
        show CpAt _ _ _ _ _ _ _
        rw [HT.out]
        exact CP.out.step hlt (Nat.le_succ _) GB.out HO.out
      rw [setCells15] at CN
      have hqb := HQB.out
      clear hS0 hS2 hown hbw hbl KS ST t0 t1 t2 t3 t4 t5 t6 t7 t8 t9 t10 t11 t12 t13 t14 f0 f1 f2 f3 f4 f5 f6 f7 f8 f9 f10 f11 f12 f13 f14 c14
      go_wp2_with fail
      go_roundw
      case rel => exact ⟨q + 1, fps ++ fp, by omega, by go_num, CN.out⟩
      case measure => simp only [intOf]; omega
    · have hqe : q = n := by omega
      subst hqe
      have hqn : ¬ ((q : Int) < (q : Int)) := by omega
      have DN : Hid (Own wr A (.slice (some ⟨A, 0, none⟩) q q) (.mk ⟨k, o', y, s, bb, f, c1, r1, p1, q1, c2, r2, p2, q2⟩ (cpyL ts)) (A :: fps)) := by
        have := CP.out.done hn HM.out ⟨k, o', y, s, bb, f, c1, r1, p1, q1, c2, r2, p2, q2⟩
        rw [List.take_of_length_le (by rw [HTS.out]; exact Nat.le_refl _)] at this
        exact this
      have R0 : Hid (wr.rangeAt w.heap.size 0 (Hd.cells ⟨k, o', y, s, bb, f, c1, r1, p1, q1, c2, r2, p2, q2⟩ (.slice (some ⟨A, 0, none⟩) q q))) := by
        intro j v hj
        rw [cell_of_row wr _ _ _ _ _ D0.out, Nat.zero_add]
        simpa using hj
      have T1 : Hid (wr.there (w.heap.size + 1) 0 15) := there_of_block D1.out _ _ (by simp)
      have E1 : Hid ((wr.setCells (w.heap.size + 1) 0 (Hd.cells ⟨k, o', y, s, bb, f, c1, r1, p1, q1, c2, r2, p2, q2⟩ (.slice (some ⟨A, 0, none⟩) q q))).heap[w.heap.size + 1]? = some (.cells (Hd.cells ⟨k, o', y, s, bb, f, c1, r1, p1, q1, c2, r2, p2, q2⟩ (.slice (some ⟨A, 0, none⟩) q q)).toArray 44 (0, 0))) :=
        heap_setCells_whole (cs := (Hd.cells ⟨k, o', y, s, bb, f, c1, r1, p1, q1, c2, r2, p2, q2⟩ (.slice (some ⟨A, 0, none⟩) q q)).toArray) D1.out (by simp)
      have OW : Hid (Own (wr.setCells (w.heap.size + 1) 0 (Hd.cells ⟨k, o', y, s, bb, f, c1, r1, p1, q1, c2, r2, p2, q2⟩ (.slice (some ⟨A, 0, none⟩) q q))) w.heap.size (.slice (some ⟨A, 0, none⟩) q q) (.mk ⟨k, o', y, s, bb, f, c1, r1, p1, q1, c2, r2, p2, q2⟩ (cpyL ts)) (A :: fps)) := by
        have hA := HAq.out
        refine ⟨DN.out.own.mono (fun b hb => heap_setCells_ne (by have := (DN.out.new b hb).1; omega) _ _ _), DN.out.nodup, fun b hb => ?_⟩
        rw [size_setCells]
        exact ⟨by have := (DN.out.new b hb).1; omega, (DN.out.new b hb).2⟩
      have BW : Hid (Below w.heap.size w (wr.setCells (w.heap.size + 1) 0 (Hd.cells ⟨k, o', y, s, bb, f, c1, r1, p1, q1, c2, r2, p2, q2⟩ (.slice (some ⟨A, 0, none⟩) q q)))) := setCells_below GW.out (Nat.le_succ _) _ _
      clear H CP HNS D0 D1 B0 B1 B2 DN G0 GW
      go_wp2_with (first | (refine wpList_load_mid rfl 44 (.tmp 1) rfl w.heap.size 0 rfl (Hd.cells ⟨k, o', y, s, bb, f, c1, r1, p1, q1, c2, r2, p2, q2⟩ (.slice (some ⟨A, 0, none⟩) q q)) _ R0.out Tryz.underlying44 rfl infoNode ?_) | (refine wpList_store_mid rfl 44 (.tmp 2) (.tmp 34) rfl (w.heap.size + 1) 0 _ rfl rfl T1.out infoNode (Hd.one ⟨k, o', y, s, bb, f, c1, r1, p1, q1, c2, r2, p2, q2⟩ rfl) ?_))
      refine bodyPost_ret (results_cell_row rfl _ _ (w.heap.size + 1) 44 _ (0, 0) _ rfl E1.out Tryz.underlying44 rfl infoNode) rfl ?_
      exact ⟨_, rfl, ⟨_, OW.out⟩, BW.out⟩

theorem copy_any (N : Nat) : ∀ (t : Nd) (sl : Value) (F : Nat → Prop) (w : World), t.size ≤ N → t.size ≤ 1048576 → t.ok → NdIn w F sl t →
    Calls Tryz.prog 12 #[t.hd.val sl] w fun e w' => ∃ sl' fp, e = .returned ((cpy t).hd.val sl') ∧ Own w' w.heap.size sl' (cpy t) fp ∧ Below w.heap.size w w' := by
  induction N with
  | zero => intro t sl F w h; have := size_pos t; omega
  | succ N ih =>
    intro t sl F w hN hm hok hin
    obtain ⟨h, ts⟩ := t
    rw [NdIn] at hin
    obtain ⟨a, c, rfl, _, _, h4⟩ := hin
    have hsz : (Nd.mk h ts).size = 1 + sizeL ts := by rw [Nd.size]
    have hln := length_sizeL ts
    rw [cpy]
    by_cases hz : ts = []
    · subst hz
      refine (copy_none h hok.x a c w).mono ?_
      rintro e w' ⟨rfl, hb⟩
      exact ⟨.slice none 0 0, [], rfl, ⟨by rw [cpyL, NdOwn]; exact .inl ⟨rfl, rfl, rfl⟩, List.nodup_nil, fun b hb => by simp at hb⟩, hb⟩
    · obtain ⟨b, o, rfl, _, hns⟩ : ∃ b o, a = some ⟨b, o, none⟩ ∧ F b ∧ NdsIn w F b o ts := by
        rcases h4 with q | q
        · exact absurd q.1 hz
        · exact q
      have hp : 0 < ts.length := List.length_pos_iff.2 hz
      refine copy_some h hok.x ts ts.length rfl hp (by omega) b o c F w hns ?_
      intro i hi s1 wq hq
      have h1 := size_get ts i hi
      exact ih _ s1 F wq (by omega) (by omega) (hok.l.get i hi) hq
theorem copy_at (t : Nd) (sl : Value) (F : Nat → Prop) (w : World) (hm : t.size ≤ 1048576) (hok : t.ok) (hin : NdIn w F sl t) :
    Calls Tryz.prog 12 #[t.hd.val sl] w fun e w' => ∃ sl' fp, e = .returned ((cpy t).hd.val sl') ∧ Own w' w.heap.size sl' (cpy t) fp ∧ Below w.heap.size w w' :=
  copy_any t.size t sl F w (Nat.le_refl _) hm hok hin
end Go.Proofs.YtbkcebbddhaifaaGreatDoor
