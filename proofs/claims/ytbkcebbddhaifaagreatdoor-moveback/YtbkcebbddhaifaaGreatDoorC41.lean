/- unlike: the walk. Rows of puts. No function of the program here. Get: what it tells lies in memory of its own. -/
import Derived.Test.YtbkcebbddhaifaaGreatDoorC40
import Derived.Test.YtbkcebbddhaifaaGreatDoorC31
import Derived.Test.YtbkcebbddhaifaaGreatDoorC36
import Derived.Test.YtbkcebbddhaifaaGreatDoorC33
import Derived.Test.YtbkcebbddhaifaaGreatDoorC37
namespace Go.Proofs.YtbkcebbddhaifaaGreatDoor
open Go.RowKit Go.Maps Go.Sort Go.Lib

/-- What a look into a grid tells, as a content. -/
theorem look_ct {w : World} {g : Nat} {L : List Cc} (h : GI 0 w g L) (gL : ∀ x ∈ L, Gd x.2) {c s : Int} (hc : I64 c) (hs : I64 s) {mv : Option Nat} (hb : Blk w g [.map mv] 113) :
    ∃ a sa b, Lk w g c s mv (a.val sa) b ∧ NdIn w (fun b => 0 ≤ b) sa a.t ∧ a.v.x < 18446744073709551616 ∧ a.t.ok ∧ a.t.size ≤ 1048576 ∧ cpC a = a ∧ ((b = true ∧ ((c, s), a) ∈ L) ∨ (b = false ∧ a = ct0 ∧ sa = .slice none 0 0 ∧ ∀ a', ((c, s), a') ∉ L)) := by
  obtain ⟨mv', v, b, q1, q2⟩ := lk_of h hc hs
  have e : mv' = mv := by
    have q := q1.cell.symm.trans hb
    simpa using q
  subst e
  rcases q2 with ⟨rfl, ct, sl, h1, rfl, h3⟩ | ⟨rfl, rfl, h2⟩
  · have hgd := gL _ h1
    exact ⟨ct, sl, true, q1, h3, hgd.x, hgd.ok, hgd.size, hgd.cp, .inl ⟨rfl, h1⟩⟩
  · refine ⟨ct0, .slice none 0 0, false, q1, zNd_in w _, by decide, zNd_ok, by show zNd.size ≤ _; rw [zsize]; decide, ?_, .inr ⟨rfl, rfl, rfl, h2⟩⟩
    unfold cpC ct0
    simp only [cpy_zNd]
    rfl
theorem csame_zero {b : Ct} (hb : b.k ≠ 0) : csame ct0 b = false := by
  have : (ct0.k == b.k) = false := by
    have : (0 : Int) ≠ b.k := fun e => hb e.symm
    simpa [ct0] using this
  unfold csame
  rw [this]; rfl
end Go.Proofs.YtbkcebbddhaifaaGreatDoor
namespace Go.Proofs.YtbkcebbddhaifaaGreatDoor
open Go.RowKit

/-- A put's twenty-three cells. -/
abbrev ptCells (x : Cc) (sl : Value) : List Value := .int .i64 x.1.1 :: .int .i64 x.1.2 :: x.2.cells sl
abbrev ptVal (x : Cc) (sl : Value) : Value := .agg (ptCells x sl).toArray
/-- Puts one behind the other. -/
def rowP : List (Cc × Value) → List Value
  | [] => []
  | y :: ys => ptCells y.1 y.2 ++ rowP ys
theorem pt_len (x : Cc) (sl : Value) : (ptCells x sl).length = 23 := rfl
theorem rowP_len : ∀ ys : List (Cc × Value), (rowP ys).length = ys.length * 23
  | [] => rfl
  | y :: ys => by rw [rowP, List.length_append, rowP_len ys, pt_len, List.length_cons]; omega
theorem rowP_append : ∀ (ys zs : List (Cc × Value)), rowP (ys ++ zs) = rowP ys ++ rowP zs
  | [], zs => rfl
  | y :: ys, zs => by rw [List.cons_append, rowP, rowP, rowP_append ys zs, List.append_assoc]
theorem rowP_snoc (ys : List (Cc × Value)) (y : Cc × Value) : rowP (ys ++ [y]) = rowP ys ++ ptCells y.1 y.2 := by
  rw [rowP_append, rowP, rowP, List.append_nil]
theorem rowP_get : ∀ (ys : List (Cc × Value)) (i : Nat) (y : Cc × Value), ys[i]? = some y → ∀ j v, (ptCells y.1 y.2)[j]? = some v → (rowP ys)[i * 23 + j]? = some v
  | [], i, y, h, _, _, _ => by simp at h
  | z :: ys, 0, y, h, j, v, hj => by
    have e : z = y := by simpa using h
    subst e
    have hl : j < 23 := by have := (List.getElem?_eq_some_iff.1 hj).1; rw [pt_len] at this; exact this
    rw [rowP, List.getElem?_append_left (by rw [pt_len]; omega), Nat.zero_mul, Nat.zero_add]
    exact hj
  | z :: ys, i + 1, y, h, j, v, hj => by
    rw [rowP, List.getElem?_append_right (by rw [pt_len]; omega), pt_len, show (i + 1) * 23 + j - 23 = i * 23 + j by omega]
    exact rowP_get ys i y (by simpa using h) j v hj
/-- The list v of puts, in a block of its own from B on; the trees lie in blocks of F. -/
structure Pts (w : World) (B : Nat) (F : Nat → Prop) (v : Value) (ys : List (Cc × Value)) : Prop where
  row : w.ownsRow B 57 23 v ys.length (rowP ys)
  tree : ∀ y ∈ ys, NdIn w F y.2 y.1.2.t
theorem Pts.nil (w : World) (B : Nat) (F : Nat → Prop) : Pts w B F (.slice none 0 0) [] := ⟨World.ownsRow_nil _ _ _ _, fun y h => by simp at h⟩
theorem Pts.slice {w : World} {B : Nat} {F : Nat → Prop} {v : Value} {ys : List (Cc × Value)} (h : Pts w B F v ys) : ∃ p c, v = .slice p ys.length c ∧ (0 < ys.length → ∃ b, p = some ⟨b, 0, none⟩ ∧ B ≤ b ∧ ∀ i y, ys[i]? = some y → w.rangeAt b (i * 23) (ptCells y.1 y.2)) := by
  rcases h.row.2 with ⟨rfl, e⟩ | ⟨g, c, cur, rfl, hB, _⟩
  · exact ⟨none, 0, by rw [e], fun h => by omega⟩
  · refine ⟨_, _, rfl, fun _ => ⟨g, rfl, hB, fun i y hy j u hj => ?_⟩⟩
    have := h.row.cells (g := g) rfl (i * 23 + j) u (rowP_get ys i y hy j u hj)
    rw [addr_at, Nat.zero_add] at this
    exact this
theorem Pts.kp {w w' : World} {B : Nat} {F : Nat → Prop} {v : Value} {ys : List (Cc × Value)} (h : Pts w B F v ys) (k : Kp w w' Nul) : Pts w' B F v ys :=
  ⟨ownsRow_below h.row k.below, fun y hy => (h.tree y hy).kp k (fun _ _ x => x)⟩
/-- A step on a grid leaves them. -/
theorem Pts.km {w w' : World} {B g : Nat} {F : Nat → Prop} {v : Value} {ys : List (Cc × Value)} (h : Pts w B F v ys) (k : Km g w w') {mv : Option Nat} (hg : Blk w g [.map mv] 113) : Pts w' B F v ys := by
  refine ⟨⟨h.row.1, ?_⟩, fun y hy => (h.tree y hy).km k hg⟩
  rcases h.row.2 with e | ⟨b, c, cur, e1, e2, e3, e4⟩
  · exact .inl e
  · have hne : b ≠ g := fun e => by
      subst e
      unfold Blk at hg
      rw [hg] at e3
      simp at e3
    have e3' : Blk w b cur.toList 57 := e3
    exact .inr ⟨b, c, cur, e1, e2, k.blk e3' hne, e4⟩
theorem Pts.mono {w : World} {B : Nat} {F F' : Nat → Prop} {v : Value} {ys : List (Cc × Value)} (h : Pts w B F v ys) (hF : ∀ b, F b → b < w.heap.size → F' b) : Pts w B F' v ys :=
  ⟨h.row, fun y hy => (h.tree y hy).mono (fun b hb hl => ⟨rfl, hF b hb hl⟩)⟩
theorem infoPut : (Tryz.prog.info? 57).map (·.size) = some 23 := by kernel_rfl
theorem infoPutI : ∃ i, Tryz.prog.info? 57 = some i ∧ i.zero = some (.agg (.int .i64 0 :: .int .i64 0 :: zC21).toArray) ∧ i.size = 23 ∧ i.bytes = 200 := by
  have h : (Tryz.prog.info? 57).map (fun i => (i.zero, i.size, i.bytes)) = some (some (.agg (.int .i64 0 :: .int .i64 0 :: zC21).toArray), 23, 200) := by kernel_rfl
  cases e : Tryz.prog.info? 57 with
  | none => rw [e] at h; cases h
  | some i =>
    rw [e] at h
    simp only [Option.map_some, Option.some.injEq, Prod.mk.injEq] at h
    exact ⟨i, rfl, h⟩
theorem pt_one (x : Cc) {sl : Value} (hs : sl.oneCell' = true) : ∀ u ∈ ptCells x sl, u.oneCell' = true := by
  intro u hu
  have := x.2.one hs
  rw [Array.all_eq_true'] at this
  rcases List.mem_cons.1 hu with rfl | hu
  · rfl
  · rcases List.mem_cons.1 hu with rfl | hu
    · rfl
    · exact this u (by simpa using hu)
end Go.Proofs.YtbkcebbddhaifaaGreatDoor
namespace Go.Proofs.YtbkcebbddhaifaaGreatDoor
open Go.RowKit Go.Maps

set_option maxRecDepth 20000 in
set_option maxHeartbeats 8000000 in
theorem get_own (g : Nat) (c r : Int) (mv : Option Nat) (V : Value) (bb : Bool) (u : Ct) (w : World) (hlk : Lk w g c r mv V bb)
    (hcp : ∀ wq, Kp w wq Nul → Calls Tryz.prog 61 #[V] wq fun e w' => ∃ sl' fp, e = .returned (u.val sl') ∧ Own w' wq.heap.size sl' u.t fp ∧ Kp wq w' Nul) :
    Calls Tryz.prog 27 #[.pointer (some ⟨g, 0, none⟩), .agg #[.int .i64 c, .int .i64 r]] w fun e w' => ∃ sl' fp, e = .returned (u.val sl') ∧ Own w' w.heap.size sl' u.t fp ∧ Kp w w' Nul := by
  obtain ⟨W1, hW1⟩ : ∃ W1, (w.alloc (.cells #[.int .i64 c, .int .i64 r] 32)).alloc (.cells #[.int .i64 0, .int .i64 0, .float .f64 0, .string ⟨#[]⟩, .bool false, .int .i64 0, .int .i64 0, .int .i64 0, .float .f64 0, .string ⟨#[]⟩, .bool false, .int .i64 0, .int .i64 0, .int .i64 0, .bool false, .bool false, .int .i64 0, .int .i64 0, .bool false, .bool false, .slice none 0 0] 55) = W1 := ⟨_, rfl⟩
  have k1 : Kp w W1 Nul := by rw [← hW1]; exact ((Kp.refl w Nul).alloc _).alloc _
  have hA1 : Blk W1 w.heap.size [.int .i64 c, .int .i64 r] 32 := by rw [← hW1]; exact (Blk.new w [.int .i64 c, .int .i64 r] _).alloc _
  have hZ1 : Blk W1 (w.heap.size + 1) [.int .i64 0, .int .i64 0, .float .f64 0, .string ⟨#[]⟩, .bool false, .int .i64 0, .int .i64 0, .int .i64 0, .float .f64 0, .string ⟨#[]⟩, .bool false, .int .i64 0, .int .i64 0, .int .i64 0, .bool false, .bool false, .int .i64 0, .int .i64 0, .bool false, .bool false, .slice none 0 0] 55 := by
    have := Blk.new (w.alloc (.cells #[.int .i64 c, .int .i64 r] 32)) [.int .i64 0, .int .i64 0, .float .f64 0, .string ⟨#[]⟩, .bool false, .int .i64 0, .int .i64 0, .int .i64 0, .float .f64 0, .string ⟨#[]⟩, .bool false, .int .i64 0, .int .i64 0, .int .i64 0, .bool false, .bool false, .int .i64 0, .int .i64 0, .bool false, .bool false, .slice none 0 0] 55
    rw [World.size_alloc] at this
    rw [← hW1]; exact this
  have hglt : g < w.heap.size := (Array.getElem?_eq_some_iff.1 hlk.cell).1
  have hg1 : Blk W1 g [.map mv] 113 := (k1.block g hglt (fun x => x)).trans hlk.cell
  have HS : Hid (∀ wq, Kp W1 wq (fun i => i = w.heap.size + 1) → (wq.cell? ⟨w.heap.size, 0, none⟩ = some (.int .i64 c) ∧ wq.cell? ⟨w.heap.size, 1, none⟩ = some (.int .i64 r) ∧ wq.cell? ⟨g, 0, none⟩ = some (.map mv) ∧ (Instr.lookup 111 (.map mv) (.agg #[.int .i64 c, .int .i64 r]) false).run Tryz.prog wq = .ok V wq)) := fun wq k => ⟨(hA1.kp k (by show ¬ w.heap.size = w.heap.size + 1; omega)).cell rfl, (hA1.kp k (by show ¬ w.heap.size = w.heap.size + 1; omega)).cell rfl, (hg1.kp k (by show ¬ g = w.heap.size + 1; omega)).cell rfl, hlk.one wq (fun m hm => by
    have h2 := (hlk.ne m hm).2
    have h3 := k1.size
    exact (k.block m (by omega) (by show ¬ m = w.heap.size + 1; omega)).trans (k1.block m h2 (fun x => x)))⟩
  have HCp : Hid (∀ wq, Kp W1 wq Nul → Calls Tryz.prog 61 #[V] wq fun e w' => ∃ sl' fp, e = .returned (u.val sl') ∧ Own w' wq.heap.size sl' u.t fp ∧ Kp wq w' Nul) := fun wq k => hcp wq (k1.trans k)
  have HZ : Hid (Blk W1 (w.heap.size + 1) [.int .i64 0, .int .i64 0, .float .f64 0, .string ⟨#[]⟩, .bool false, .int .i64 0, .int .i64 0, .int .i64 0, .float .f64 0, .string ⟨#[]⟩, .bool false, .int .i64 0, .int .i64 0, .int .i64 0, .bool false, .bool false, .int .i64 0, .int .i64 0, .bool false, .bool false, .slice none 0 0] 55) := hZ1
  have HW1 : Hid ((w.alloc (.cells #[.int .i64 c, .int .i64 r] 32)).alloc (.cells #[.int .i64 0, .int .i64 0, .float .f64 0, .string ⟨#[]⟩, .bool false, .int .i64 0, .int .i64 0, .int .i64 0, .float .f64 0, .string ⟨#[]⟩, .bool false, .int .i64 0, .int .i64 0, .int .i64 0, .bool false, .bool false, .int .i64 0, .int .i64 0, .bool false, .bool false, .slice none 0 0] 55) = W1) := hW1
  have HK1 : Hid (Kp w W1 Nul) := k1
  clear hW1 k1 hA1 hZ1 hg1 hlk hcp hglt
  go_enter Tryz.func27, Tryz.ntmps27
  go_wp2_with fail
  rw [HW1.out]
  clear HW1
  refine wp_region_noPanic ?_
  refine wp_region_hel (fun w' : World => Kp W1 w' (fun i => i = w.heap.size + 1)) (by kernel_rfl) ((Kp.refl W1 _).drew) (fun hHeld => ?_)
  have tok0 : True := trivial
  have tok1 : True := trivial
  have tok2 : True := trivial
  have tok3 : True := trivial
  have tok4 : True := trivial
  have tok5 : True := trivial
  iterate 6 ((first | (clear tok0; refine wpH_takes (i := 0) (v := ?_) (some 8) rfl rfl (by kernel_rfl) (by kernel_rfl) (by kernel_rfl) (fun _ _ _ h => h) (Or.inl ⟨by rfl, ?_⟩) hHeld ?_) | (clear tok1; refine wpH_takes (i := 1) (v := ?_) (some 9) rfl rfl (by kernel_rfl) (by kernel_rfl) (by kernel_rfl) (fun _ _ _ h => h) (Or.inl ⟨by rfl, ?_⟩) hHeld ?_) | (clear tok2; refine wpH_takes (i := 2) (v := ?_) (some 10) rfl rfl (by kernel_rfl) (by kernel_rfl) (by kernel_rfl) (fun _ _ _ h => h) (Or.inl ⟨by rfl, ?_⟩) hHeld ?_) | (clear tok3; refine wpH_takes (i := 3) (v := ?_) (some 11) rfl rfl (by kernel_rfl) (by kernel_rfl) (by kernel_rfl) (fun _ _ _ h => h) (Or.inl ⟨by rfl, ?_⟩) hHeld ?_) | (clear tok4; refine wpH_takes (i := 4) (v := ?_) (some 12) rfl rfl (by kernel_rfl) (by kernel_rfl) (by kernel_rfl) (fun _ _ _ h => h) (Or.inl ⟨by rfl, ?_⟩) hHeld ?_) | (clear tok5; refine wpH_takes (i := 5) (v := ?_) (some 13) rfl rfl (by kernel_rfl) (by kernel_rfl) (by kernel_rfl) (fun _ _ _ h => h) (Or.inl ⟨by rfl, ?_⟩) hHeld ?_)); rotate_left; (· intro w hSw; obtain ⟨s0, s1, s2, s3⟩ := HS.out _ hSw; clear hSw; go_simp; try with_reducible rfl); simp only [Act.put, List.setIfInBounds_toArray, List.set_cons_zero, List.set_cons_succ])
  refine wpH_step (i := 6) (by kernel_rfl) rfl rfl (fun K hK => ?_)
  go_simp
  refine (HCp.out _ (Kp.refl W1 Nul).drew).mono ?_
  rintro e w4 ⟨sl', fp, rfl, hown, hk4⟩
  have hk14 : Kp W1 w4 Nul := (Kp.refl W1 Nul).drew.trans hk4
  have hone := hown.own.one
  refine hK.out _ _ hk14.of_nul (fun hHeld2 => ?_)
  clear hK K hk4
  have hZ4 := HZ.out.kp hk14 (fun x => x)
  refine wpH_step (i := 7) (by kernel_rfl) rfl rfl (fun K hK => ?_)
  refine wp_store_mid 55 (.tmp 4) (.tmp 14) rfl (w.heap.size + 1) 0 (u.cells sl').toArray rfl rfl (there_of_block hZ4 _ _ (by simp)) infoContent (u.one hone) ?_
  obtain ⟨W5, hW5⟩ : ∃ W5, w4.setCells (w.heap.size + 1) 0 (u.cells sl') = W5 := ⟨_, rfl⟩
  have k45 : Kp w4 W5 (fun i => i = w.heap.size + 1) := by rw [← hW5]; exact setCells_kp (fun i => i = w.heap.size + 1) rfl _ _ _
  have hB5 : W5.heap[w.heap.size + 1]? = some (.cells (u.cells sl').toArray 55 (0, 0)) := by
    rw [← hW5]
    exact heap_setCells_whole (cs := (u.cells sl').toArray) hZ4 rfl
  show K _ (w4.setCells (w.heap.size + 1) 0 (u.cells sl'))
  rw [hW5]
  refine hK.out _ _ (hk14.of_nul.trans k45) (fun _ => ?_)
  have HOW : Hid (Own W5 w.heap.size sl' u.t fp) := by
    have hz : w.heap.size + 1 < W1.heap.size := HZ.out.lt
    have hnew : ∀ b ∈ fp, w.heap.size + 1 < b ∧ b < w4.heap.size := fun b hb => by
      have h1 := (hown.new b hb).1
      have h2 : W1.drew.heap.size = W1.heap.size := rfl
      exact ⟨by omega, (hown.new b hb).2⟩
    refine ⟨hown.own.mono (fun b hb => ?_), hown.nodup, fun b hb => ?_⟩
    · rw [← hW5, heap_setCells_ne (by have := (hnew b hb).1; omega)]
    · rw [← hW5, size_setCells]
      exact ⟨by have := (hnew b hb).1; omega, (hnew b hb).2⟩
  have HEND : Hid (Kp w W5 Nul) := (HK1.out.trans hk14).trans' k45 (fun i hi e => by have : i = w.heap.size + 1 := e; omega)
  clear hK K hHeld hHeld2 hk14 k45 hone hZ4 hW5 hown
  refine wpAnyH_done (by kernel_rfl) ?_ _
  refine NoPanic.normal ?_
  go_wp2_with fail
  refine bodyPost_ret (results_cell_row rfl _ _ (w.heap.size + 1) 55 _ (0, 0) _ rfl hB5 Tryz.underlying55 rfl infoContent) rfl ?_
  exact ⟨_, _, rfl, HOW.out, HEND.out⟩
end Go.Proofs.YtbkcebbddhaifaaGreatDoor
