/- ahead; what a board has of an area. -/
import Derived.Test.YtkgolfmnlbmmeaaGreatDoorYi
namespace Go.Proofs.YtkgolfmnlbmmeaaGreatDoor
open Go.RowKit

/-- A board of the cells L. -/
structure BoardIn (w : World) (F : Nat → Prop) (B ub mb : Nat) (L : List (Int × Int)) : Prop where
  form : ∃ (a : Option Addr) (cc : Nat), BoardM w B ub mb ((L.length + 63) / 64) (.slice a L.length cc) (colTo L) ∧ (0 < L.length → ∃ b o, a = some ⟨b, o, none⟩ ∧ CellsAt w b o L ∧ F b)
  len : L.length ≤ 4294967295
  vcol : ∀ (i : Nat) (x : Int × Int), L[i]? = some x → 1 ≤ x.1
  rise : RowsRise L
theorem BoardM.gr {w w' : World} {B ub mb W : Nat} {cells : Value} {rows : Nat → Nat → Bool} (h : BoardM w B ub mb W cells rows) (g : Gr w w') : BoardM w' B ub mb W cells rows := h.kpn (Kp.of_gr g)
theorem BoardIn.kp {w w' : World} {F S : Nat → Prop} {B ub mb : Nat} {L : List (Int × Int)} (h : BoardIn w F B ub mb L) (g : Kp w w' S) (h1 : ¬ S B) (h2 : ¬ S ub) (h3 : ¬ S mb) (hF : ∀ b, F b → ¬ S b) : BoardIn w' F B ub mb L := by
  obtain ⟨⟨a, cc, e1, e2⟩, e3, e4, e5⟩ := h
  exact ⟨⟨a, cc, e1.kp g h1 h2 h3, fun hl => by obtain ⟨b, o, e, hc, hb⟩ := e2 hl; exact ⟨b, o, e, hc.kp g (hF b hb), hb⟩⟩, e3, e4, e5⟩
theorem BoardIn.gr {w w' : World} {F : Nat → Prop} {B ub mb : Nat} {L : List (Int × Int)} (h : BoardIn w F B ub mb L) (g : Gr w w') : BoardIn w' F B ub mb L :=
  h.kp (S := Nul) (Kp.of_gr g) (fun x => x) (fun x => x) (fun x => x) (fun _ _ x => x)

set_option maxHeartbeats 2000000 in
theorem ahead_at (F : Nat → Prop) (B ub mb : Nat) (L : List (Int × Int)) (r : Int) (w : World) (h : BoardIn w F B ub mb L) :
    Calls Tryz.prog 110 #[.pointer (some ⟨B, 0, none⟩), .int .i64 r] w fun e w' => ∃ i : Nat, e = .returned (.int .i64 (i : Int)) ∧ AheadIs L r i ∧ Gr w w' := by
  obtain ⟨⟨a, cc, h1, h2⟩, h3, h4, h5⟩ := h
  have HS : Hid (∀ wq, Gr w wq → Calls Tryz.prog 98 #[.slice a L.length cc, .agg #[.int .i64 0, .int .i64 r], .func (.func 51) #[] #[]] wq fun e w' => ∃ (i : Nat) (f : Bool), e = .returned (.tuple #[.int .i64 (i : Int), .bool f]) ∧ AheadIs L r i ∧ Gr wq w') := fun wq g =>
    search_at L a cc r wq (by omega) h4 h5 (fun hl => by obtain ⟨b, o, e, hc, _⟩ := h2 hl; exact ⟨b, o, e, hc.gr g⟩)
  have q : w.cell? ⟨B, 0, none⟩ = some (.slice a L.length cc) := h1.b.cell rfl
  generalize L.length = n at *
  clear h1 h2 h3 h4 h5
  go_enter Tryz.func110, Tryz.ntmps110
  go_wp2_with (go_at_call 98; refine (HS.out _ (Gr.refl _)).mono ?_; rintro e w' ⟨i, f, rfl, hi, hg⟩)
  go_ret
  exact ⟨i, rfl, hi, hg⟩
/-- The value of a piece. -/
abbrev pcV (fr to mb W l r : Nat) : Value := .agg #[.int .i64 (fr : Int), .int .i64 (to : Int), .slice (some ⟨mb, l * W, none⟩) W ((257 - l) * W), .slice (some ⟨mb, r * W, none⟩) W ((257 - r) * W)]
set_option maxRecDepth 20000 in
set_option maxHeartbeats 4000000 in
theorem piece_at (F : Nat → Prop) (B ub mb : Nat) (L : List (Int × Int)) (l c2 : Nat) (r1 r2 : Int) (w : World) (h : BoardIn w F B ub mb L) (hl1 : (l : Int) < 256) (hc3 : 1 ≤ c2) (hc4 : c2 ≤ 256) (hr1 : 1 ≤ r2) (hr2 : r2 ≤ 4096) :
    Calls Tryz.prog 90 #[.pointer (some ⟨B, 0, none⟩), .agg #[.int .i64 ((l : Int) + 1), .int .i64 r1, .int .i64 (c2 : Int), .int .i64 r2]] w fun e w' =>
      ∃ fr to : Nat, e = .returned (pcV fr to mb ((L.length + 63) / 64) l c2) ∧ AheadIs L r1 fr ∧ AheadIs L (r2 + 1) to ∧ Gr w w' := by
  obtain ⟨W, hW⟩ : ∃ W, (L.length + 63) / 64 = W := ⟨_, rfl⟩
  obtain ⟨W2, hW2⟩ : ∃ W2, (w.alloc (.cells #[.int .i64 ((l : Int) + 1), .int .i64 r1, .int .i64 (c2 : Int), .int .i64 r2] 52)).alloc (.cells #[.int .i64 0, .int .i64 0, .slice none 0 0, .slice none 0 0] 127) = W2 := ⟨_, rfl⟩
  have HW2 : Hid ((w.alloc (.cells #[.int .i64 ((l : Int) + 1), .int .i64 r1, .int .i64 (c2 : Int), .int .i64 r2] 52)).alloc (.cells #[.int .i64 0, .int .i64 0, .slice none 0 0, .slice none 0 0] 127) = W2) := hW2
  have hk0 : Kp w W2 Nul := by rw [← hW2]; exact ((Kp.refl w Nul).alloc _).alloc _
  have hg0 : Gr w W2 := by rw [← hW2]; exact ((Gr.refl w).alloc _ _).alloc _ _
  have hA0 : Blk W2 w.heap.size [.int .i64 ((l : Int) + 1), .int .i64 r1, .int .i64 (c2 : Int), .int .i64 r2] 52 := by rw [← hW2]; exact (Blk.new w [.int .i64 ((l : Int) + 1), .int .i64 r1, .int .i64 (c2 : Int), .int .i64 r2] _).alloc _
  have hR0 : Blk W2 (w.heap.size + 1) [.int .i64 0, .int .i64 0, .slice none 0 0, .slice none 0 0] 127 := by
    rw [← hW2]
    have := Blk.new (w.alloc (.cells #[.int .i64 ((l : Int) + 1), .int .i64 r1, .int .i64 (c2 : Int), .int .i64 r2] 52)) [.int .i64 0, .int .i64 0, .slice none 0 0, .slice none 0 0] 127
    rw [World.size_alloc] at this
    exact this
  have h2 := h.gr hg0
  clear hW2
  have H1 : Hid (∀ wq, Gr W2 wq → Calls Tryz.prog 110 #[.pointer (some ⟨B, 0, none⟩), .int .i64 r1] wq fun e w' => ∃ i : Nat, e = .returned (.int .i64 (i : Int)) ∧ AheadIs L r1 i ∧ Gr W2 w') := fun wq g => (ahead_at F B ub mb L r1 wq (h2.gr g)).mono fun e w' ⟨i, h1, h2, h3⟩ => ⟨i, h1, h2, g.trans h3⟩
  have H2 : Hid (∀ wq, Gr W2 wq → Calls Tryz.prog 110 #[.pointer (some ⟨B, 0, none⟩), .int .i64 (r2 + 1)] wq fun e w' => ∃ i : Nat, e = .returned (.int .i64 (i : Int)) ∧ AheadIs L (r2 + 1) i ∧ Gr W2 w') := fun wq g => (ahead_at F B ub mb L (r2 + 1) wq (h2.gr g)).mono fun e w' ⟨i, h1, h2, h3⟩ => ⟨i, h1, h2, g.trans h3⟩
  obtain ⟨⟨a, cc, hb, _⟩, _, _, _⟩ := h
  rw [hW] at hb ⊢
  have hbB : B < w.heap.size := hb.b.lt
  have hbu : ub < w.heap.size := hb.u.lt
  have KS : Hid (∀ w', Kp W2 w' (fun i => i = w.heap.size + 1) → (w'.cell? ⟨B, 1, none⟩ = some (.slice (some ⟨ub, 0, none⟩) 257 257) ∧ w'.cell? ⟨ub, l, none⟩ = some (.slice (some ⟨mb, l * W, none⟩) W ((257 - l) * W)) ∧ w'.cell? ⟨ub, c2, none⟩ = some (.slice (some ⟨mb, c2 * W, none⟩) W ((257 - c2) * W)) ∧
      w'.cell? ⟨w.heap.size, 0, none⟩ = some (.int .i64 ((l : Int) + 1)) ∧ w'.cell? ⟨w.heap.size, 1, none⟩ = some (.int .i64 r1) ∧ w'.cell? ⟨w.heap.size, 2, none⟩ = some (.int .i64 (c2 : Int)) ∧ w'.cell? ⟨w.heap.size, 3, none⟩ = some (.int .i64 r2))) := fun w' g => by
    have q := hb.gr hg0
    have qb := q.b.kp g (fun e => by have e' : B = w.heap.size + 1 := e; omega)
    have qu := q.u.kp g (fun e => by have e' : ub = w.heap.size + 1 := e; omega)
    have qa := hA0.kp g (by simp)
    exact ⟨qb.cell rfl, qu.cell (by rw [upL_get (by omega), if_pos (by omega)]), qu.cell (by rw [upL_get (by omega), if_pos (by omega)]), qa.cell rfl, qa.cell rfl, qa.cell rfl, qa.cell rfl⟩
  have RR : Hid (∀ w', Gr W2 w' → Has4 w' (w.heap.size + 1) (.int .i64 0) (.int .i64 0) (.slice none 0 0) (.slice none 0 0)) := fun w' g => by
    have q := hR0.gr g
    exact ⟨q.cell rfl, q.cell rfl, q.cell rfl, q.cell rfl, q.froz _, q.froz _, q.froz _, q.froz _⟩
  have HG0 : Hid (Gr w W2) := hg0
  have HK0 : Hid (Kp w W2 Nul) := hk0
  have hl2 : (l : Int) < 257 := by omega
  have hl0 : (0 : Int) ≤ (l : Int) := by omega
  have hc0 : (0 : Int) ≤ (c2 : Int) := by omega
  have hws : IntKind.i64.wrap (l : Int) = (l : Int) := by rw [IntKind.wrap_i64]; omega
  have hws2 : IntKind.i64.wrap (r2 + 1) = r2 + 1 := by rw [IntKind.wrap_i64]; omega
  have hc5 : (c2 : Int) < 257 := by omega
  clear hb hW hg0 hk0 hA0 hR0 h2
  go_enter Tryz.func90, Tryz.ntmps90
  go_wp2_with fail
  rw [HW2.out]
  go_region_held3 (fun w' => w'.cell? ⟨B, 1, none⟩ = some (.slice (some ⟨ub, 0, none⟩) 257 257) ∧ w'.cell? ⟨ub, l, none⟩ = some (.slice (some ⟨mb, l * W, none⟩) W ((257 - l) * W)) ∧ w'.cell? ⟨ub, c2, none⟩ = some (.slice (some ⟨mb, c2 * W, none⟩) W ((257 - c2) * W)) ∧
      w'.cell? ⟨w.heap.size, 0, none⟩ = some (.int .i64 ((l : Int) + 1)) ∧ w'.cell? ⟨w.heap.size, 1, none⟩ = some (.int .i64 r1) ∧ w'.cell? ⟨w.heap.size, 2, none⟩ = some (.int .i64 (c2 : Int)) ∧ w'.cell? ⟨w.heap.size, 3, none⟩ = some (.int .i64 r2))
    (first | (refine KS.out _ (Kp.of_gr ?_); assumption) | (exact KS.out _ ((Kp.refl _ _).drew)) | (exact KS.out _ (Kp.refl _ _)) | (refine KS.out _ ?_; repeat (first | (refine Kp.of_gr ?_; assumption) | refine Kp.drew ?_ | refine Kp.setCell ?_ _ _ (.inr rfl))))
    (first
      | (go_at_call_of 110 (Value.int .i64 r1); refine (H1.out _ (by first | assumption | (repeat (first | exact Gr.refl _ | refine Gr.drew ?_)))).mono ?_; rintro e w' ⟨i, rfl, hi, hg⟩; obtain ⟨k0, k1, k2, k3, f0, f1, f2, f3⟩ := RR.out _ hg)
      | (go_at_call 110; refine (H2.out _ (by first | assumption | (repeat (first | exact Gr.refl _ | refine Gr.drew ?_)))).mono ?_; rintro e w'' ⟨j, rfl, hj, hg'⟩; obtain ⟨k0', k1', k2', k3', f0', f1', f2', f3'⟩ := RR.out _ hg'))
  all_goals
    have HP := (RR.out _ hg').put (.int .i64 (i : Int)) (.int .i64 (j : Int)) (.slice (some ⟨mb, l * W, none⟩) W ((257 - l) * W)) (.slice (some ⟨mb, c2 * W, none⟩) W ((257 - c2) * W))
    have HGR : Hid (Gr w ((((w''.setCell ⟨w.heap.size + 1, 0, none⟩ (.int .i64 (i : Int))).setCell ⟨w.heap.size + 1, 1, none⟩ (.int .i64 (j : Int))).setCell ⟨w.heap.size + 1, 2, none⟩ (.slice (some ⟨mb, l * W, none⟩) W ((257 - l) * W))).setCell ⟨w.heap.size + 1, 3, none⟩ (.slice (some ⟨mb, c2 * W, none⟩) W ((257 - c2) * W)))) := (HG0.out.trans hg').put4 (by omega) _ _ _ _
    obtain ⟨p0, p1, p2, p3, _, _, _, _⟩ := HP
    clear KS RR H1 H2 hg hg' k0 k1 k2 k3 f0 f1 f2 f3 k0' k1' k2' k3' f0' f1' f2' f3'
    go_wp2_with fail
    exact bodyPost_ret (v := pcV i j mb W l c2) (by simp [results, Tryz.results90, go_sem, p0, p1, p2, p3]) rfl ⟨i, j, rfl, hi, hj, HGR.out⟩
end Go.Proofs.YtkgolfmnlbmmeaaGreatDoor
