/- circle. Circle. list: the cells of marks. -/
import Derived.Test.YtdlieecpckpemaaGreatDoorLhLxi
import Derived.WalkMore
import Derived.Test.YtdlieecpckpemaaGreatDoorLhLxj
namespace Go.Proofs.YtdlieecpckpemaaGreatDoor
open Go.RowKit Go.Shelf Go.Sort
attribute [local go_sem] Oper.semAt_some
/-- Who uses whom, by places. -/
def useW (n : Nat) (U : Nat → Nat → Bool) (p q : Nat) : Prop := q < n ∧ U q p = true
/-- What circle hands back. -/
structure CircIs (w w' : World) (L : List (Int × Int)) (n : Nat) (U : Nat → Nat → Bool) (f : Nat) (l : List Nat) (left : Nat) (R : List (Int × Int)) (v : Value) : Prop where
  far : Tj.Far (useW n U) f f (left + 1)
  chn : Tj.Chn (useW n U) f f left l
  len : R.length = left + 1
  at' : ∀ (i p : Nat), (f :: l)[i]? = some p → R[i]? = L[p]?
  out : CellsFrom w.heap.size w' v R
  kp : Kp w w' Nul
  cap : ∃ a c, v = .slice a R.length c ∧ R.length ≤ c
theorem own1_cap {B : Nat} {w : World} {v : Value} {A : List (Int × Int)} (h : Own1 encA 2 B w v A) : ∃ a c, v = .slice a A.length c ∧ A.length ≤ c := by
  rcases h with ⟨rfl, rfl⟩ | ⟨g, cap, rfl, _, _, _, h5, _⟩
  · exact ⟨none, 0, rfl, Nat.le_refl _⟩
  · exact ⟨_, _, rfl, h5⟩
def CircO (w : World) (L : List (Int × Int)) (n : Nat) (U : Nat → Nat → Bool) (f : Nat) (e : Ending) (w' : World) : Prop :=
  ∃ (l : List Nat) (left : Nat) (R : List (Int × Int)) (v : Value), e = .returned v ∧ CircIs w w' L n U f l left R v
theorem Chn_at {use : Nat → Nat → Prop} {f : Nat} : ∀ {left p : Nat} {l : List Nat}, Tj.Chn use f p left l → ∀ t, t < left → ∃ x q, (p :: l)[t]? = some x ∧ (p :: l)[t + 1]? = some q ∧ (use x q ∧ Tj.Far use f q (left - t)) ∧ ∀ q', q' < q → ¬ (use x q' ∧ Tj.Far use f q' (left - t)) := by
  intro left
  induction left with
  | zero => intro p l _ t ht; omega
  | succ left ih =>
    intro p l h t ht
    obtain ⟨q, l', rfl, h1, h2, h3⟩ := h
    cases t with
    | zero => exact ⟨p, q, rfl, rfl, h1, h2⟩
    | succ t =>
      obtain ⟨x, y, e1, e2, e3, e4⟩ := ih h3 t (by omega)
      exact ⟨x, y, by simpa using e1, by simpa using e2, by rw [show left + 1 - (t + 1) = left - t by omega]; exact e3, by rw [show left + 1 - (t + 1) = left - t by omega]; exact e4⟩
/-- How the search stands in memory. -/
structure CiI (W6 : World) (b0 n : Nat) (U : Nat → Nat → Bool) (f i : Nat) (st : Nat → Nat) (line : List Nat) (v : Value) (done : Nat → Prop) (W : World) : Prop where
  bf : Tj.Bf (useW n U) n f st line i done
  sm : Blk W (b0 + 1) (nums (fun p => (st p : Int)) n) 3
  lv : Blk W (b0 + 4) [v] 32
  row : W.ownsRow (b0 + 3) 3 1 v line.length (line.map fun p : Nat => Value.int .i64 (p : Int))
  own : ∀ j, v.ownBlock = some j → j = b0 + 3 ∨ b0 + 6 ≤ j
  kp : Kp W6 W (fun j => j = b0 + 1 ∨ (b0 + 3 ≤ j ∧ j ≤ b0 + 5))
  bd : ∀ p, st p ≤ line.length
theorem CiI.kp' {W6 W W' : World} {b0 n f i : Nat} {U : Nat → Nat → Bool} {st : Nat → Nat} {line : List Nat} {v : Value} {done : Nat → Prop} {S : Nat → Prop} (h : CiI W6 b0 n U f i st line v done W) (g : Kp W W' S) (h6 : W6.heap.size = b0 + 6)
    (hS : ∀ j, S j → j = b0 + 5 ∨ (b0 + 6 ≤ j ∧ v.ownBlock ≠ some j)) : CiI W6 b0 n U f i st line v done W' := by
  refine ⟨h.bf, h.sm.kp g (fun e => by rcases hS _ e with q | q <;> omega), h.lv.kp g (fun e => by rcases hS _ e with q | q <;> omega), row_keep h.row g (fun j e q => ?_), h.own, h.kp.trans' g (fun j hj e => by rcases hS j e with q | q <;> omega), h.bd⟩
  rcases hS j q with c | c
  · rcases h.own j e with k | k <;> omega
  · exact c.2 e
theorem CiI.slice {W6 W : World} {b0 n f i : Nat} {U : Nat → Nat → Bool} {st : Nat → Nat} {line : List Nat} {v : Value} {done : Nat → Prop} (h : CiI W6 b0 n U f i st line v done W) : ∃ g c, v = .slice (some ⟨g, 0, none⟩) line.length c ∧ line.length ≤ c := by
  rcases h.row.2 with ⟨_, q⟩ | ⟨g, cap, cur, q, _, _, hc, _⟩
  · have := h.bf.head
    rw [List.length_eq_zero_iff] at q
    rw [q] at this; cases this
  · exact ⟨g, cap, q, hc⟩
theorem CiI.at' {W6 W : World} {b0 n f i : Nat} {U : Nat → Nat → Bool} {st : Nat → Nat} {line : List Nat} {g c : Nat} {done : Nat → Prop} (h : CiI W6 b0 n U f i st line (.slice (some ⟨g, 0, none⟩) line.length c) done W) {k x : Nat} (hk : line[k]? = some x) : W.cell? ⟨g, k, none⟩ = some (.int .i64 (x : Int)) := by
  have h1 := h.row.cells (g := g) rfl k (.int .i64 (x : Int)) (by rw [List.getElem?_map, hk]; rfl)
  rw [Addr.add_lit, Nat.zero_add] at h1
  exact h1
theorem CiI.seen {W6 W : World} {b0 n f i : Nat} {U : Nat → Nat → Bool} {st : Nat → Nat} {line : List Nat} {v : Value} {done : Nat → Prop} (h : CiI W6 b0 n U f i st line v done W) {u : Nat} (hu : u ≠ f) (h0 : st u ≠ 0) : CiI W6 b0 n U f i st line v (fun p => p = u ∨ done p) W :=
  ⟨h.bf.seen hu h0, h.sm, h.lv, h.row, h.own, h.kp, h.bd⟩
theorem CiI.new {W6 X X1 w5 X2 : World} {b0 n f i c u : Nat} {U : Nat → Nat → Bool} {st : Nat → Nat} {line : List Nat} {v v5 : Value} {done : Nat → Prop} (h : CiI W6 b0 n U f i st line v done X) (hc : line[i]? = some c) (hu : u ≠ f) (hn : u < n) (h0 : st u = 0) (hus : useW n U u c) (h6 : W6.heap.size = b0 + 6)
    (b1 : Blk X1 (b0 + 1) ((nums (fun p => (st p : Int)) n).set u (.int .i64 ((st c : Int) + 1))) 3) (k1 : Kp X X1 (fun j => j = b0 + 1)) (k5 : Kp X1 w5 (fun j => v.ownBlock = some j)) (r5 : w5.ownsRow (b0 + 3) 3 1 v5 (line.length + 1) ((line.map fun p : Nat => Value.int .i64 (p : Int)) ++ [.int .i64 (u : Int)])) (o5 : v5.ownBlock = v.ownBlock ∨ ∃ B, v5.ownBlock = some B ∧ X.heap.size ≤ B)
    (b2 : Blk X2 (b0 + 4) [v5] 32) (k2 : Kp w5 X2 (fun j => j = b0 + 4)) : CiI W6 b0 n U f i (Tj.upd st u (st c + 1)) (line ++ [u]) v5 (fun p => p = u ∨ done p) X2 ∧ Kp X X2 (fun j => j = b0 + 1 ∨ j = b0 + 4 ∨ v.ownBlock = some j) := by
  have kk : Kp X X2 (fun j => j = b0 + 1 ∨ j = b0 + 4 ∨ v.ownBlock = some j) := ((k1.mono (fun _ _ e => .inl e)).trans' k5 (fun _ _ e => .inr (.inr e))).trans' k2 (fun _ _ e => .inr (.inl e))
  have k12 : Kp X1 X2 (fun j => j = b0 + 4 ∨ v.ownBlock = some j) := (k5.mono (fun _ _ e => .inr e)).trans' k2 (fun _ _ e => .inl e)
  refine ⟨⟨h.bf.new hc hu hn h0 hus, ?_, b2, ?_, fun j hj => ?_, h.kp.trans' kk (fun j hj e => ?_), fun p => ?_⟩, kk⟩
  · rw [nums_set (s := fun p => (st p : Int)) (t := fun p => ((Tj.upd st u (st c + 1) p : Nat) : Int)) (i := u) ((st c : Int) + 1) (fun _ => by unfold Tj.upd; rw [if_pos rfl]; push_cast; rfl) (fun j _ hj => by unfold Tj.upd; rw [if_neg hj])] at b1
    exact b1.kp k12 (fun e => by
      rcases e with e | e
      · omega
      · rcases h.own _ e with q | q <;> omega)
  · have := row_keep r5 k2 (fun j e q => by
      have q' : j = b0 + 4 := q
      rcases o5 with o | ⟨B, o, hB⟩
      · rw [o] at e; rcases h.own j e with q | q <;> omega
      · rw [o] at e; cases e; have := h.kp.size; omega)
    rw [List.length_append, List.map_append]
    exact this
  · rcases o5 with o | ⟨B, o, hB⟩
    · rw [o] at hj; exact h.own j hj
    · rw [o] at hj; cases hj; have := h.kp.size; exact .inr (by omega)
  · rcases e with e | e | e
    · exact .inl e
    · exact .inr ⟨by omega, by omega⟩
    · rcases h.own j e with q | q
      · exact .inr ⟨by omega, by omega⟩
      · omega
  · unfold Tj.upd
    rw [List.length_append]
    have h1 := h.bd c
    have h2 := h.bd p
    by_cases e : p = u
    · rw [if_pos e]; show st c + 1 ≤ line.length + 1; omega
    · rw [if_neg e]; omega
/-- Within a round: place c's users are gone over; mx a block of the range's own. -/
structure CiJ (W6 : World) (b0 n : Nat) (U : Nat → Nat → Bool) (f i c d mx : Nat) (Ds : List Nat) (st : Nat → Nat) (line : List Nat) (v : Value) (done : Nat → Prop) (V : World) : Prop where
  ci : CiI W6 b0 n U f i st line v done V
  hc : line[i]? = some c
  st : st c = d
  lf : Blk V (b0 + 5) [.int .i64 (d : Int)] 3
  ds : Dfs (b0 + 6) Ds V
  own : ∀ k, v.ownBlock = some k → k < mx ∨ mx + 3 ≤ k
theorem CiJ.far {W6 : World} {b0 n : Nat} {U : Nat → Nat → Bool} {f i c d mx : Nat} {Ds : List Nat} {st : Nat → Nat} {line : List Nat} {v : Value} {done : Nat → Prop} {V V' : World} {S : Nat → Prop} (h : CiJ W6 b0 n U f i c d mx Ds st line v done V) (g : Kp V V' S) (h6 : W6.heap.size = b0 + 6) (hm : b0 + 6 ≤ mx) (hD : ∀ D ∈ Ds, D < mx) (hS : ∀ j, S j → mx ≤ j ∧ j ≤ mx + 2) : CiJ W6 b0 n U f i c d mx Ds st line v done V' :=
  ⟨h.ci.kp' g h6 (fun j e => .inr ⟨by have := hS j e; omega, fun q => by have := hS j e; have := h.own j q; omega⟩), h.hc, h.st, h.lf.kp g (fun e => by have := hS _ e; omega), h.ds.kp2 g (fun j hj e => by have := hS j e; have := hD j hj; omega), h.own⟩
/-- The row that is laid out there. -/
def CiRw (L : List (Int × Int)) (f : Nat) (l : List Nat) (t : Nat) : List Value := (flatK encA 2 (((f :: l).take t).map (fun p => L.getD p (0, 0))).toArray).toList
theorem CiRw_succ {L : List (Int × Int)} {f : Nat} {l : List Nat} {t q : Nat} {z : Int × Int} (h : (f :: l)[t]? = some q) (hz : L[q]? = some z) : CiRw L f l (t + 1) = CiRw L f l t ++ encA z := by
  unfold CiRw
  have e := flat_snoc (((f :: l).take t).map (fun p => L.getD p (0, 0))) z
  rw [List.take_add_one, h, Option.toList_some, List.map_append, show List.map (fun p => L.getD p (0, 0)) [q] = [z] by rw [List.map_singleton, List.getD_eq_getElem?_getD, hz]; rfl]
  exact e
theorem CiRw_zero (L : List (Int × Int)) (f : Nat) (l : List Nat) : CiRw L f l 0 = [] := by unfold CiRw; simp [flatK]
/-- How the going back stands. -/
def CiL (X : World) (b0 d f : Nat) (L : List (Int × Int)) (l : List Nat) (sv sp : Value) (wr : World) : Prop :=
  ∃ t p : Nat, t ≤ d ∧ (f :: l)[t]? = some p ∧ sp = .int .i64 (p : Int) ∧ Blk wr (b0 + 5) [.int .i64 ((d - t : Nat) : Int)] 3 ∧
    wr.ownsRow X.heap.size 29 2 sv (t + 1) (CiRw L f l (t + 1)) ∧ Kp X wr (fun j => j = b0 + 5)
def leftB (b : Nat) (w : World) : Nat := (RowKit.intOf ((w.cell? ⟨b, 0, none⟩).getD undef)).toNat
set_option maxRecDepth 100000 in
set_option maxHeartbeats 8000000 in
theorem circle_at (L : List (Int × Int)) (wp ub mb n f : Nat) (ca : Option Addr) (cc : Nat) (U : Nat → Nat → Bool) (w : World) (h : WebM w wp ub mb (.slice ca n cc) n U) (hn : L.length = n) (hcl : 0 < n → ∃ b, ca = some ⟨b, 0, none⟩ ∧ CellsAt w b 0 L) (hT : Tab w) (hf : f < n) (hcy : Tj.Cy (webE n U) f) :
    Calls Tryz.prog 62 #[.pointer (some ⟨wp, 0, none⟩), .int .i64 (f : Int)] w (CircO w L n U f) := by
  have HH : Hid (WebM w wp ub mb (.slice ca n cc) n U) := h
  have HT : Hid (Tab w) := hT
  have HN : Hid (L.length = n ∧ f < n ∧ n ≤ 4096) := ⟨hn, hf, h.le⟩
  have HCY : Hid (Tj.Cy (webE n U) f) := hcy
  obtain ⟨cb, rfl, hcb⟩ := hcl (by omega)
  have HCL : Hid (CellsAt w cb 0 L) := hcb
  have c0 : w.cell? ⟨wp, 0, none⟩ = some (.slice (some ⟨cb, 0, none⟩) n cc) := h.bw.cell rfl
  obtain ⟨ds, hds, hmk⟩ := make_is 32 3 (.int .i64 0) 8 Tryz.underlying32 infoInt rfl n (by have := h.le; omega) (by have := h.le; omega)
  have hwl := h.bw.lt
  have hfi : (f : Int) < (n : Int) := by omega
  have hf0 : (0 : Int) ≤ (f : Int) := by omega
  clear h hT hn hcl hcb hcy hf
  refine (callsIn_wide (n := 12)).1 ?_
  refine callsIn_of_wp_marks Tryz.func62 rfl trivial ?_ rfl
  simp only [Tryz.ntmps62, List.size_toArray, List.length_cons, List.length_nil, Nat.reduceAdd, Nat.reduceSub, Array.replicate_succ, Array.replicate_zero, List.push_toArray, List.append_toArray, List.nil_append, List.cons_append]
  refine wpIn_wide.2 ?_
  go_wp2_with fail
  obtain ⟨b0, hb0⟩ : ∃ b0, w.heap.size = b0 := ⟨_, rfl⟩
  have HB0 : Hid (w.heap.size = b0) := hb0
  obtain ⟨W1, hW1⟩ : ∃ W1, w.alloc (.cells #[.int .i64 (f : Int)] 3) = W1 := ⟨_, rfl⟩
  have k1 : Kp w W1 Nul := by rw [← hW1]; exact (Kp.refl w Nul).alloc _
  have s1 : W1.heap.size = b0 + 1 := by rw [← hW1, World.size_alloc, hb0]
  have X0 : Hid (Blk W1 b0 [.int .i64 (f : Int)] 3) := by show Blk _ _ _ _; rw [← hW1]; exact Blk.at_ hb0 _ _
  rw [hW1, hb0]
  have K1 : Hid (Kp w W1 Nul) := k1
  have c1 : W1.cell? ⟨wp, 0, none⟩ = some (.slice (some ⟨cb, 0, none⟩) n cc) := (HH.out.kpn k1).bw.cell rfl
  have c2 : W1.cell? ⟨b0, 0, none⟩ = some (.int .i64 (f : Int)) := X0.out.cell rfl
  clear c0 hwl hb0 hW1 k1
  refine wp_scope_straight ?_
  go_upto_region 2 with fail
  obtain ⟨W3, hW3⟩ : ∃ W3, (W1.alloc (.cells ds 3)).alloc (.cells #[.slice (some ⟨b0 + 1, 0, none⟩) n n] 32) = W3 := ⟨_, rfl⟩
  have k3 : Kp W1 W3 Nul := by rw [← hW3]; exact ((Kp.refl W1 Nul).alloc _).alloc _
  have s3 : W3.heap.size = b0 + 3 := by rw [← hW3]; simp only [World.size_alloc]; omega
  have X1 : Hid (Blk W3 (b0 + 1) (nums (fun _ => 0) n) 3) := by
    show Blk _ _ _ _
    rw [← hW3]; exact (Blk.atA s1 ds 3 (hds.trans (zeros_nums n))).alloc _
  have X2 : Hid (Blk W3 (b0 + 2) [.slice (some ⟨b0 + 1, 0, none⟩) n n] 32) := by
    show Blk _ _ _ _
    rw [← hW3]; exact Blk.at_ (by rw [World.size_alloc, s1]) _ _
  rw [hW3, show b0 + 1 + 1 = b0 + 2 from rfl]
  have K3 : Hid (Kp W1 W3 Nul) := k3
  have c3 : W3.cell? ⟨b0, 0, none⟩ = some (.int .i64 (f : Int)) := (X0.out.kp k3 (fun x => x)).cell rfl
  clear k3 hW3 c1 c2 hmk hds s1
  go_upto_region 3 with fail
  obtain ⟨W5, hW5⟩ : ∃ W5, (W3.alloc (.cells #[.int .i64 (f : Int)] 3)).alloc (.cells #[.slice (some ⟨b0 + 3, 0, none⟩) 1 1] 32) = W5 := ⟨_, rfl⟩
  have k5 : Kp W3 W5 Nul := by rw [← hW5]; exact ((Kp.refl W3 Nul).alloc _).alloc _
  have s5 : W5.heap.size = b0 + 5 := by rw [← hW5]; simp only [World.size_alloc]; omega
  have x3 : W5.ownsRow (b0 + 3) 3 1 (.slice (some ⟨b0 + 3, 0, none⟩) 1 1) 1 [.int .i64 (f : Int)] := by
    have := World.ownsRow_lit (base := b0 + 3) (e := 3) (size := 1) W3 #[.int .i64 (f : Int)] 1 (Nat.le_of_eq s3.symm) (by unfold maxLen; omega) rfl
    rw [s3] at this
    rw [← hW5]
    exact this.alloc _
  have x4 : Blk W5 (b0 + 4) [.slice (some ⟨b0 + 3, 0, none⟩) 1 1] 32 := by rw [← hW5]; exact Blk.at_ (by rw [World.size_alloc, s3]) _ _
  rw [hW5, show b0 + 3 + 1 = b0 + 4 from rfl]
  have K5 : Hid (Kp W3 W5 Nul) := k5
  have X3 : Hid (W5.ownsRow (b0 + 3) 3 1 (.slice (some ⟨b0 + 3, 0, none⟩) 1 1) 1 [.int .i64 (f : Int)]) := x3
  have X4 : Hid (Blk W5 (b0 + 4) [.slice (some ⟨b0 + 3, 0, none⟩) 1 1] 32) := x4
  clear k5 hW5 x3 x4 s3 c3
  go_wp2_with fail
  go_step3
  go_wp2_with fail
  obtain ⟨W6, hW6⟩ : ∃ W6, W5.alloc (.cells #[.int .i64 0] 3) = W6 := ⟨_, rfl⟩
  have k6 : Kp W5 W6 Nul := by rw [← hW6]; exact (Kp.refl W5 Nul).alloc _
  have s6 : W6.heap.size = b0 + 6 := by rw [← hW6, World.size_alloc, s5]
  have x5 : Blk W6 (b0 + 5) [.int .i64 0] 3 := by rw [← hW6]; exact Blk.at_ s5 _ _
  rw [hW6]
  have hci : CiI W6 b0 n U f 0 (fun _ => 0) [f] (.slice (some ⟨b0 + 3, 0, none⟩) 1 1) (fun _ => False) W6 := by
    refine ⟨Tj.Bf.start HN.out.2.1, ?_, X4.out.kp k6 (fun x => x), row_keep X3.out k6 (fun _ _ x => x), fun j hj => .inl ?_, Kp.refl _ _, fun p => Nat.zero_le _⟩
    · exact (X1.out.kp K5.out (fun x => x)).kp k6 (fun x => x)
    · have : b0 + 3 = j := by simpa [Value.ownBlock] using hj
      exact this.symm
  have HCI : Hid (CiI W6 b0 n U f 0 (fun _ => 0) [f] (.slice (some ⟨b0 + 3, 0, none⟩) 1 1) (fun _ => False) W6) := hci
  have HX5 : Hid (Blk W6 (b0 + 5) [.int .i64 0] 3) := x5
  have HK6 : Hid (Kp w W6 Nul) := ((K1.out.trans K3.out).trans K5.out).trans k6
  have HS6 : Hid (W6.heap.size = b0 + 6) := s6
  have HFx : Hid (∀ W, Kp W6 W (fun j => j = b0 + 1 ∨ (b0 + 3 ≤ j ∧ j ≤ b0 + 5)) → (Blk W b0 [.int .i64 (f : Int)] 3 ∧ Blk W (b0 + 2) [.slice (some ⟨b0 + 1, 0, none⟩) n n] 32) ∧ WebM W wp ub mb (.slice (some ⟨cb, 0, none⟩) n cc) n U ∧ CellsAt W cb 0 L ∧ Tab W) := fun W g => by
    have hb := HB0.out
    have h0 := HH.out.bw.lt
    have ho := HH.out.ord
    have hcl : cb < b0 := by
      obtain ⟨x, hx⟩ : ∃ x, L[0]? = some x := ⟨_, List.getElem?_eq_getElem (by have := HN.out; omega)⟩
      have := cell_lt (HCL.out 0 x hx).1
      omega
    refine ⟨⟨(((X0.out.kp K3.out (fun x => x)).kp K5.out (fun x => x)).kp k6 (fun x => x)).kp g (fun e => by rcases e with e | e <;> omega), ((X2.out.kp K5.out (fun x => x)).kp k6 (fun x => x)).kp g (fun e => by rcases e with e | e <;> omega)⟩, (HH.out.kpn HK6.out).kp g (fun e => by rcases e with e | e <;> omega) (fun e => by rcases e with e | e <;> omega) (fun e => by rcases e with e | e <;> omega), (HCL.out.kp HK6.out (fun x => x)).kp g (fun e => by rcases e with e | e <;> omega), (HT.out.kp HK6.out (fun x => x)).kp g (fun e => by
      have := cell_lt (HT.out 0 (by omega))
      rcases e with e | e
      · omega
      · omega)⟩
  clear hW6 k6 s6 x5 hci X0 X1 X2 X3 X4 K1 K3 K5 s5
  refine wp_loop_g (fun nn a wr => ∃ (i : Nat) (st : Nat → Nat) (line : List Nat) (v : Value) (Ds : List Nat) (u9 u20 u21 u22 u23 u24 u25 u26 u27 u28 u29 u30 u31 u32 u33 u34 u35 u36 u37 u38 u39 u40 u41 u42 u43 u44 u45 u46 u47 u48 u49 u50 u51 u52 u53 u54 u55 u56 u57 u58 u59 u60 u61 : Value), (nn = n + 1 - i ∧ i ≤ line.length ∧ CiI W6 b0 n U f i st line v (fun _ => False) wr ∧ (∃ x : Int, Blk wr (b0 + 5) [.int .i64 x] 3) ∧ Dfs (b0 + 6) Ds wr) ∧ a = { tmps := #[Value.pointer (some ⟨wp, 0, none⟩), Value.int .i64 (f : Int), undef, Value.pointer (some ⟨b0, 0, none⟩), Value.slice none 0 0, Value.pointer (some ⟨b0 + 2, 0, none⟩), Value.pointer (some ⟨b0 + 4, 0, none⟩), Value.pointer (some ⟨b0 + 5, 0, none⟩), Value.int .i64 (i : Int), u9, undef, undef, Value.pointer (some ⟨wp, 0, none⟩), Value.pointer (some ⟨wp, 0, none⟩), Value.pointer (some ⟨wp, 0, none⟩), Value.slice (some ⟨cb, 0, none⟩) n cc, Value.int .i64 (n : Int), Value.slice (some ⟨b0 + 1, 0, none⟩) n n, Value.int .i64 (f : Int), Value.slice (some ⟨b0 + 3, 0, none⟩) 1 1, u20, u21, u22, u23, u24, u25, u26, u27, u28, u29, u30, u31, u32, u33, u34, u35, u36, u37, u38, u39, u40, u41, u42, u43, u44, u45, u46, u47, u48, u49, u50, u51, u52, u53, u54, u55, u56, u57, u58, u59, u60, u61, undef, undef, undef, undef, undef, undef, undef, undef, undef, undef, undef, undef, undef, undef, undef, undef, undef, undef, undef, undef, undef, undef, undef, undef, undef, undef, undef, undef, undef], defers := Ds.map mkD }) (n + 1) ⟨0, (fun _ => 0), [f], .slice (some ⟨b0 + 3, 0, none⟩) 1 1, [], _, _, _, _, _, _, _, _, _, _, _, _, _, _, _, _, _, _, _, _, _, _, _, _, _, _, _, _, _, _, _, _, _, _, _, _, _, _, _, _, _, _, _, ⟨by omega, Nat.zero_le _, HCI.out, ⟨0, HX5.out⟩, Dfs.nil _ _⟩, rfl⟩ ?_
  clear HCI HX5
  rintro nn a wr K ⟨i, st, line, v, Ds, u9, u20, u21, u22, u23, u24, u25, u26, u27, u28, u29, u30, u31, u32, u33, u34, u35, u36, u37, u38, u39, u40, u41, u42, u43, u44, u45, u46, u47, u48, u49, u50, u51, u52, u53, u54, u55, u56, u57, u58, u59, u60, u61, ⟨hnn, hil, hci, ⟨lx, hlf⟩, hD⟩, rfl⟩ hK
  have HNN : Hid (nn = n + 1 - i) := hnn
  have HCI : Hid (CiI W6 b0 n U f i st line v (fun _ => False) wr) := hci
  have HLF : Hid (Blk wr (b0 + 5) [.int .i64 lx] 3) := hlf
  have HDS : Hid (Dfs (b0 + 6) Ds wr) := hD
  have HKK : Hid (∀ (i' : Nat) (st' : Nat → Nat) (line' : List Nat) (v' : Value) (Ds' : List Nat) (x' : Int) (u9 u20 u21 u22 u23 u24 u25 u26 u27 u28 u29 u30 u31 u32 u33 u34 u35 u36 u37 u38 u39 u40 u41 u42 u43 u44 u45 u46 u47 u48 u49 u50 u51 u52 u53 u54 u55 u56 u57 u58 u59 u60 u61 : Value) (wq : World), n + 1 - i' < nn → i' ≤ line'.length → CiI W6 b0 n U f i' st' line' v' (fun _ => False) wq → Blk wq (b0 + 5) [.int .i64 x'] 3 → Dfs (b0 + 6) Ds' wq → K { tmps := #[Value.pointer (some ⟨wp, 0, none⟩), Value.int .i64 (f : Int), undef, Value.pointer (some ⟨b0, 0, none⟩), Value.slice none 0 0, Value.pointer (some ⟨b0 + 2, 0, none⟩), Value.pointer (some ⟨b0 + 4, 0, none⟩), Value.pointer (some ⟨b0 + 5, 0, none⟩), Value.int .i64 (i' : Int), u9, undef, undef, Value.pointer (some ⟨wp, 0, none⟩), Value.pointer (some ⟨wp, 0, none⟩), Value.pointer (some ⟨wp, 0, none⟩), Value.slice (some ⟨cb, 0, none⟩) n cc, Value.int .i64 (n : Int), Value.slice (some ⟨b0 + 1, 0, none⟩) n n, Value.int .i64 (f : Int), Value.slice (some ⟨b0 + 3, 0, none⟩) 1 1, u20, u21, u22, u23, u24, u25, u26, u27, u28, u29, u30, u31, u32, u33, u34, u35, u36, u37, u38, u39, u40, u41, u42, u43, u44, u45, u46, u47, u48, u49, u50, u51, u52, u53, u54, u55, u56, u57, u58, u59, u60, u61, undef, undef, undef, undef, undef, undef, undef, undef, undef, undef, undef, undef, undef, undef, undef, undef, undef, undef, undef, undef, undef, undef, undef, undef, undef, undef, undef, undef, undef], defers := Ds'.map mkD } wq) := fun i' st' line' v' Ds' x' u9 u20 u21 u22 u23 u24 u25 u26 u27 u28 u29 u30 u31 u32 u33 u34 u35 u36 u37 u38 u39 u40 u41 u42 u43 u44 u45 u46 u47 u48 u49 u50 u51 u52 u53 u54 u55 u56 u57 u58 u59 u60 u61 wq h1 h2 h3 h4 h5 => hK.out (n + 1 - i') _ _ h1 ⟨i', st', line', v', Ds', u9, u20, u21, u22, u23, u24, u25, u26, u27, u28, u29, u30, u31, u32, u33, u34, u35, u36, u37, u38, u39, u40, u41, u42, u43, u44, u45, u46, u47, u48, u49, u50, u51, u52, u53, u54, u55, u56, u57, u58, u59, u60, u61, ⟨rfl, h2, h3, ⟨x', h4⟩, h5⟩, rfl⟩
  have hlt : i < line.length := by
    rcases Nat.lt_or_ge i line.length with c | c
    · exact c
    · exfalso
      obtain ⟨d, hd, hp⟩ := Tj.cy_iff.1 (show Tj.Cy (fun a b => useW n U b a) f from HCY.out)
      exact hci.bf.none c d hd hp
  obtain ⟨g, vc, rfl, hlc⟩ := hci.slice
  obtain ⟨c, hc⟩ : ∃ c, line[i]? = some c := ⟨_, List.getElem?_eq_getElem hlt⟩
  have HC : Hid (line[i]? = some c) := hc
  have hcn : c < n := hci.bf.lt c (List.mem_of_getElem? hc)
  have hln : line.length ≤ n := Tj.nodup_lt hci.bf.nd hci.bf.lt
  have HLN : Hid (i < line.length ∧ line.length ≤ n ∧ c < n) := ⟨hlt, hln, hcn⟩
  obtain ⟨N, hN⟩ : ∃ N, line.length = N := ⟨_, rfl⟩
  have HNl : Hid (line.length = N) := hN
  have c1 : wr.cell? ⟨b0 + 4, 0, none⟩ = some (.slice (some ⟨g, 0, none⟩) N vc) := by rw [← hN]; exact hci.lv.cell rfl
  have hiN : (i : Int) < (N : Int) := by omega
  have hi0 : (0 : Int) ≤ (i : Int) := by omega
  have hci2 : (c : Int) < (n : Int) := by omega
  have hc0 : (0 : Int) ≤ (c : Int) := by omega
  obtain ⟨d, hd⟩ : ∃ d, st c = d := ⟨_, rfl⟩
  have HDd : Hid (st c = d) := hd
  have KS : Hid (∀ w', Kp wr w' (fun j => j = b0 + 5) → (w'.cell? ⟨b0 + 2, 0, none⟩ = some (.slice (some ⟨b0 + 1, 0, none⟩) n n) ∧ w'.cell? ⟨b0 + 4, 0, none⟩ = some (.slice (some ⟨g, 0, none⟩) N vc) ∧ w'.cell? ⟨g, i, none⟩ = some (.int .i64 (c : Int)) ∧ w'.cell? ⟨b0 + 1, c, none⟩ = some (.int .i64 (d : Int)))) := fun w' gk => by
    have h1 := HCI.out.kp' gk HS6.out (fun j e => .inl e)
    refine ⟨(HFx.out w' h1.kp).1.2.cell rfl, ?_, h1.at' HC.out, ?_⟩
    · rw [← HNl.out]; exact h1.lv.cell rfl
    · rw [← HDd.out]; exact h1.sm.cell (nums_get hcn)
  clear hnn hci hlf hD hK hlt hlc hc hcn hln hil hd hN
  have l5 : wr.cell? ⟨b0 + 5, 0, none⟩ = some (.int .i64 lx) := HLF.out.cell rfl
  have f5 : wr.frozen? ⟨b0 + 5, 0, none⟩ = false := HLF.out.froz _
  go_upto_region 6 with fail
  go_region_held3 (fun w' => w'.cell? ⟨b0 + 2, 0, none⟩ = some (.slice (some ⟨b0 + 1, 0, none⟩) n n) ∧ w'.cell? ⟨b0 + 4, 0, none⟩ = some (.slice (some ⟨g, 0, none⟩) N vc) ∧ w'.cell? ⟨g, i, none⟩ = some (.int .i64 (c : Int)) ∧ w'.cell? ⟨b0 + 1, c, none⟩ = some (.int .i64 (d : Int)))
    (first | (exact KS.out _ (Kp.refl _ _)) | (exact KS.out _ (Kp.refl _ _).drew) | (exact KS.out _ ((Kp.setCell (Kp.refl wr (fun j => j = b0 + 5)) ⟨b0 + 5, 0, none⟩ _ (.inr rfl)).drew)))
    (fail)
  obtain ⟨V1, hV1⟩ : ∃ V1, (wr.setCell ⟨b0 + 5, 0, none⟩ (.int .i64 (d : Int))).drew = V1 := ⟨_, rfl⟩
  have kV1 : Kp wr V1 (fun j => j = b0 + 5) := by rw [← hV1]; exact (Kp.setCell (Kp.refl wr (fun j => j = b0 + 5)) ⟨b0 + 5, 0, none⟩ _ (.inr rfl)).drew
  have bV1 : Blk V1 (b0 + 5) [.int .i64 (d : Int)] 3 := by rw [← hV1]; exact (HLF.out.set 0 _).drew
  rw [hV1]
  have HCI1 : Hid (CiI W6 b0 n U f i st line (.slice (some ⟨g, 0, none⟩) line.length vc) (fun _ => False) V1) := HCI.out.kp' kV1 HS6.out (fun j e => .inl e)
  have HLF1 : Hid (Blk V1 (b0 + 5) [.int .i64 (d : Int)] 3) := bV1
  have HDS1 : Hid (Dfs (b0 + 6) Ds V1) := HDS.out.kp kV1 (fun j e => by have e' : j = b0 + 5 := e; omega)
  obtain ⟨W, hW⟩ : ∃ W, (n + 63) / 64 = W := ⟨_, rfl⟩
  have HWd : Hid ((n + 63) / 64 = W) := hW
  obtain ⟨uo, huo⟩ : ∃ uo, c * W = uo := ⟨_, rfl⟩
  have HUO : Hid (c * W = uo) := huo
  obtain ⟨uc, huc⟩ : ∃ uc, (n - c) * W = uc := ⟨_, rfl⟩
  have KS2 : Hid (∀ w', Kp V1 w' Nul → (w'.cell? ⟨wp, 1, none⟩ = some (.slice (some ⟨ub, 0, none⟩) n n) ∧ w'.cell? ⟨b0 + 4, 0, none⟩ = some (.slice (some ⟨g, 0, none⟩) N vc) ∧ w'.cell? ⟨g, i, none⟩ = some (.int .i64 (c : Int)) ∧ w'.cell? ⟨ub, c, none⟩ = some (.slice (some ⟨mb, uo, none⟩) W uc))) := fun w' gk => by
    have h1 := HCI1.out.kp' (gk.of_nul (S := fun j => j = b0 + 5)) HS6.out (fun j e => .inl e)
    have h2 := (HFx.out w' h1.kp).2.1
    refine ⟨h2.bw.cell rfl, ?_, h1.at' HC.out, ?_⟩
    · rw [← HNl.out]; exact h1.lv.cell rfl
    · have := h2.bu.cell (i := c) (by rw [upL_get HLN.out.2.2, if_pos HLN.out.2.2])
      rw [hW, huo, huc] at this
      exact this
  clear hV1 kV1 bV1 KS HCI HLF HDS c1 l5 f5 hW huo
  go_upto_region 7 with fail
  go_region_held3 (fun w' => w'.cell? ⟨wp, 1, none⟩ = some (.slice (some ⟨ub, 0, none⟩) n n) ∧ w'.cell? ⟨b0 + 4, 0, none⟩ = some (.slice (some ⟨g, 0, none⟩) N vc) ∧ w'.cell? ⟨g, i, none⟩ = some (.int .i64 (c : Int)) ∧ w'.cell? ⟨ub, c, none⟩ = some (.slice (some ⟨mb, uo, none⟩) W uc))
    (first | (exact KS2.out _ (Kp.refl _ _)) | (exact KS2.out _ (Kp.refl _ _).drew) | (exact KS2.out _ ((Kp.refl _ _).drew.alloc _)))
    ((go_at_call 58; refine (all_at _ _ _ _).mono ?_; rintro e wz ⟨rfl, hz⟩; subst hz))
  obtain ⟨mx, hmx⟩ : ∃ mx, V1.heap.size = mx := ⟨_, rfl⟩
  obtain ⟨MV, hMV⟩ : ∃ MV, Value.slice (some ⟨mb, uo, none⟩) W uc = MV := ⟨_, rfl⟩
  have HMV : Hid (Value.slice (some ⟨mb, uo, none⟩) W uc = MV) := hMV
  obtain ⟨V2, hV2⟩ : ∃ V2, (V1.alloc (.cells #[.slice (some ⟨mb, uo, none⟩) W uc] 84)).drew = V2 := ⟨_, rfl⟩
  have kV2 : Kp V1 V2 Nul := by rw [← hV2]; exact ((Kp.refl V1 Nul).alloc _).drew
  have bmx : Blk V2 mx [MV] 84 := by rw [← hV2, ← hMV]; exact (Blk.at_ hmx _ _).drew
  have sV2 : V2.heap.size = mx + 1 := by rw [← hV2]; show (V1.alloc _).heap.size = _; rw [World.size_alloc, hmx]
  rw [hV2, hmx]
  have HMX : Hid (Blk V2 mx [MV] 84) := bmx
  have HSV : Hid (V2.heap.size = mx + 1 ∧ b0 + 6 ≤ mx ∧ W6.heap.size = b0 + 6 ∧ ∀ D ∈ Ds, D < mx) := ⟨sV2, by rw [← hmx]; have := HCI1.out.kp.size; have := HS6.out; omega, HS6.out, fun D hD => by rw [← hmx]; exact (Array.getElem?_eq_some_iff.1 (HDS1.out.at' D hD).2).1⟩
  have HCJ : Hid (CiJ W6 b0 n U f i c d mx Ds st line (.slice (some ⟨g, 0, none⟩) line.length vc) (fun _ => False) V2) := ⟨HCI1.out.kp' (kV2.of_nul (S := fun j => j = b0 + 5)) HS6.out (fun j e => .inl e), HC.out, HDd.out, HLF1.out.kp kV2 (fun x => x), HDS1.out.kp kV2 (fun i q => q.elim), fun k hk => .inl (by rw [← hmx]; exact (row_base HCI1.out.row k hk).2)⟩
  clear hV2 kV2 bmx sV2 hmx hMV HCI1 HLF1 HDS1 KS2 huc
  go_wp2_with fail
  generalize hact : Act.mk _ _ = a0
  refine wp_range_all (gf := 95) (lb := #[.pointer (some ⟨mx, 0, none⟩)]) (by rw [← hact]; rfl) (enters_of Tryz.func95 (by kernel_rfl) rfl) (encs := encP (U c) W) (fun _ => rfl) (AllM mx (some ⟨mb, uo, none⟩) mb uo W uc (U c)) (all1_seq (U c) mx (some ⟨mb, uo, none⟩) mb uo W uc (by have := HWd.out; have := HN.out; omega) V2)
    (fun j V => ∃ st' line' v' done, CiJ W6 b0 n U f i c d mx Ds st' line' v' done V ∧ (∀ p ∈ (pl (U c) (64 * W)).take j, done p) ∧ Blk V mx [MV] 84)
    (fun cc X => cc = .exit 0 ∧ ∃ st' line' v' done, CiJ W6 b0 n U f i c d mx Ds st' line' v' done X ∧ useW n U f c) ?hM ?hI ?hIx ?h0 ?hround ?hdone ?hstop
  case hM =>
    rintro j V ⟨st', line', v', done, hJ, _, hb⟩
    obtain ⟨_, hw, _, ht⟩ := HFx.out V hJ.ci.kp
    refine ⟨by rw [HMV.out]; exact hb.cell rfl, fun _ => ⟨rfl, fun k hk => ?_⟩, ht⟩
    have := hw.bm.cell (memL_get (rows := U) (c := c) (i := k) (W := (n + 63) / 64) (m := n) HLN.out.2.2 (by rw [HWd.out]; exact hk))
    rw [HWd.out, HUO.out] at this
    exact this
  case hI =>
    rintro j V V' ⟨st', line', v', done, hJ, hdn, hb⟩ q
    have h := HSV.out
    exact ⟨st', line', v', done, hJ.far q h.2.2.1 h.2.1 h.2.2.2 (fun k e => by rcases e with e | e <;> omega), hdn, hb.kp q (fun e => by rcases e with e | e <;> omega)⟩
  case hIx =>
    rintro cc V V' ⟨e, st', line', v', done, hJ, hu⟩ q
    have h := HSV.out
    exact ⟨e, st', line', v', done, hJ.far q h.2.2.1 h.2.1 h.2.2.2 (fun k e => by rcases e with e | e <;> omega), hu⟩
  case h0 => exact ⟨st, line, _, _, HCJ.out, fun p hp => by simp at hp, HMX.out⟩
  case hround =>
    subst hact
    rintro j V KK hj hsV ⟨st', line', v', done, hJ, hdn, hbm⟩ hcont
    obtain ⟨u, hu⟩ : ∃ u, (pl (U c) (64 * W))[j]? = some u := ⟨_, List.getElem?_eq_getElem hj⟩
    have hUu : U c u = true := (mem_pl.1 (List.mem_of_getElem? hu)).2
    have hun : u < n := HH.out.lt c u hUu
    have HUS : Hid (useW n U u c) := ⟨HLN.out.2.2, hUu⟩
    have HPT : Hid ((pl (U c) (64 * W)).take (j + 1) = (pl (U c) (64 * W)).take j ++ [u]) := by
      show _ = _
      rw [List.take_add_one, hu]; rfl
    have henc : encP (U c) W j = #[.int .i64 (u : Int)] := by unfold encP; rw [List.getD_eq_getElem?_getD, hu]; rfl
    rw [henc]
    have HJ : Hid (CiJ W6 b0 n U f i c d mx Ds st' line' v' done V) := hJ
    have HDN : Hid (∀ p ∈ (pl (U c) (64 * W)).take j, done p) := hdn
    have HBM : Hid (Blk V mx [MV] 84) := hbm
    clear hJ hdn hbm hu hUu henc hj HCJ HMX
    simp only [List.zip_toArray, List.zip_cons_cons, List.zip_nil_right, List.foldl_toArray', List.foldl_cons, List.foldl_nil]
    gi_wp2_with (fail)
    refine hcont _ _ (Kp.refl _ _) (fun X hX hloop hdef => ?_)
    have h := HSV.out
    have HJX : Hid (CiJ W6 b0 n U f i c d mx Ds st' line' v' done X) := HJ.out.far hX h.2.2.1 h.2.1 h.2.2.2 (fun k e => by have e' : k = V2.heap.size + 1 := e; omega)
    have HBX : Hid (Blk X mx [MV] 84) := HBM.out.kp hX (fun e => by have e' : mx = V2.heap.size + 1 := e; omega)
    have HXS : Hid (mx + 3 ≤ X.heap.size) := by have := hX.size; show _ ≤ _; omega
    obtain ⟨⟨hfb, hsv⟩, _⟩ := HFx.out X HJX.out.ci.kp
    have c1 : X.cell? ⟨b0, 0, none⟩ = some (.int .i64 (f : Int)) := hfb.cell rfl
    clear hcont hX hloop hdef h hfb hsV HJ HBM
    by_cases huf : u = f
    · subst huf
      have HEND : Hid (Own2 V2.heap.size X X ∧ ∃ st' line' v' done, CiJ W6 b0 n U u i c d mx Ds st' line' v' done X ∧ useW n U u c) := ⟨⟨rfl, rfl⟩, st', line', v', done, HJX.out, HUS.out⟩
      gi_wp2_with (fail)
      exact ⟨HEND.out.1, .inr ⟨_, rfl, rfl, HEND.out.2⟩⟩
    · have c2 : X.cell? ⟨b0 + 2, 0, none⟩ = some (.slice (some ⟨b0 + 1, 0, none⟩) n n) := (HFx.out X HJX.out.ci.kp).1.2.cell rfl
      have c3 : X.cell? ⟨b0 + 1, u, none⟩ = some (.int .i64 (st' u : Int)) := HJX.out.ci.sm.cell (nums_get hun)
      have hufi : ¬ (u : Int) = (f : Int) := by omega
      have hui : (u : Int) < (n : Int) := by omega
      have hu0 : (0 : Int) ≤ (u : Int) := by omega
      obtain ⟨su, hsu⟩ : ∃ su, st' u = su := ⟨_, rfl⟩
      have HSU : Hid (st' u = su) := hsu
      rw [hsu] at c3
      clear hsu
      have HDN2 : Hid (∀ p ∈ (pl (U c) (64 * W)).take (j + 1), p = u ∨ done p) := fun p hp => by
        rw [HPT.out] at hp
        rcases List.mem_append.1 hp with q | q
        · exact .inr (HDN.out p q)
        · rw [List.mem_singleton] at q; exact .inl q
      by_cases h0 : su = 0
      · subst h0
        have hz : ((0 : Nat) : Int) = 0 := rfl
        rw [hz] at c3
        have c4 : X.cell? ⟨b0 + 5, 0, none⟩ = some (.int .i64 (d : Int)) := HJX.out.lf.cell rfl
        have c5 : X.cell? ⟨b0 + 4, 0, none⟩ = some v' := HJX.out.ci.lv.cell rfl
        have hbd := HJX.out.ci.bd c
        rw [HJX.out.st] at hbd
        have hln' : line'.length ≤ n := Tj.nodup_lt HJX.out.ci.bf.nd HJX.out.ci.bf.lt
        have HB : Hid (d ≤ 4096 ∧ line'.length ≤ 4096) := by have := HN.out; exact ⟨by omega, by omega⟩
        have hwd : wrap64 ((d : Int) + 1) = (d : Int) + 1 := by unfold wrap64; have := HB.out; omega
        obtain ⟨i0, hi, hz0, hz1, hz2⟩ := infoI
        have HBs : Hid (b0 + 6 ≤ X.heap.size) := by show _ ≤ _; have := HSV.out; have := HXS.out; omega
        clear hbd hln'
        have f3 : X.frozen? ⟨b0 + 1, u, none⟩ = false := HJX.out.ci.sm.froz _
        obtain ⟨X1, hX1⟩ : ∃ X1, X.setCell ⟨b0 + 1, u, none⟩ (.int .i64 ((d : Int) + 1)) = X1 := ⟨_, rfl⟩
        have hk1 : Kp X X1 (fun j => j = b0 + 1) := by rw [← hX1]; exact (Kp.refl X (fun j => j = b0 + 1)).setCell ⟨b0 + 1, u, none⟩ _ (.inr rfl)
        have hb1 : Blk X1 (b0 + 1) ((nums (fun p => (st' p : Int)) n).set u (.int .i64 ((d : Int) + 1))) 3 := by rw [← hX1]; exact HJX.out.ci.sm.set u _
        have hr1 : X1.ownsRow (b0 + 3) 3 1 v' line'.length (line'.map fun p : Nat => Value.int .i64 (p : Int)) := row_keep HJX.out.ci.row hk1 (fun k e q => by have q' : k = b0 + 1 := q; rcases HJX.out.ci.own k e with t | t <;> omega)
        have hl1 : Blk X1 (b0 + 4) [v'] 32 := HJX.out.ci.lv.kp hk1 (fun e => by have e' : b0 + 4 = b0 + 1 := e; omega)
        have hs1 : X.heap.size ≤ X1.heap.size := hk1.size
        have HK1 : Hid (Kp X X1 (fun j => j = b0 + 1)) := hk1
        have HB1 : Hid (Blk X1 (b0 + 1) ((nums (fun p => (st' p : Int)) n).set u (.int .i64 ((d : Int) + 1))) 3) := hb1
        have HX1 : Hid (X.setCell ⟨b0 + 1, u, none⟩ (.int .i64 ((d : Int) + 1)) = X1) := hX1
        have HBN : Hid (Blk (X1.alloc (.cells #[.int .i64 (u : Int)] 3)) X.heap.size [.int .i64 (u : Int)] 3) := Blk.at_ (by rw [← hX1]; simp) _ _
        clear hX1 hk1 hb1
        gi_wp2_with (first
          | (rw [HX1.out]; refine wpListIn_append_own_at _ rfl _ _ 32 rfl (b0 + 3) 3 i0 _ 1 8 Tryz.underlying32 hi hz0 hz1 hz2 rfl (by decide) v' line'.length _ rfl (hr1.alloc _) ⟨X.heap.size, 0, none⟩ 1 1 [.int .i64 (u : Int)] rfl rfl (fun j u' hj => by rw [Addr.add_lit, Nat.zero_add]; exact HBN.out.at'.trans hj) (fun u' hu' => by simp at hu'; subst hu'; rfl) (by have := HB.out; unfold maxLen; omega) (by have := HB.out; omega) (by rw [World.size_alloc]; have := HBs.out; omega) ?_; intro v5 w5 hrow5 hg5 hnil5 hown5; have hk5 : Kp X1 w5 (fun k => v'.ownBlock = some k) := ((Kp.refl X1 _).alloc _).trans (Kp.of_grown hg5 (fun i e => e)); have hlv5 : Blk w5 (b0 + 4) [v'] 32 := hl1.kp hk5 (fun e => by rcases HJX.out.ci.own _ e with t | t <;> omega); have hone5 : v5.oneCell' = true := row_one hrow5)
          | (refine storeIn_cell rfl 32 (.tmp 6) (.tmp 61) rfl (b0 + 4) 0 rfl v5 rfl hone5 _ _ hlv5 (by simp) infoSlI1 ?_; intro X2 hb2 hk2)
          | fail)
        have hk1 := HK1.out
        have hb1 := HB1.out
        have hc' := HJX.out.hc
        have hsc := HJX.out.st
        have hbn : ∀ k, v'.ownBlock = some k → k < X.heap.size := fun k e => (row_base HJX.out.ci.row k e).2
        obtain ⟨hci2, hkk⟩ := HJX.out.ci.new hc' huf hun HSU.out HUS.out HSV.out.2.2.1 (by rw [hsc]; exact hb1) hk1 hk5 hrow5 (by
          rcases hown5 with e | e
          · exact .inl e
          · exact .inr ⟨_, e, by rw [World.size_alloc]; have := hk1.size; omega⟩) hb2 hk2
        have h := HSV.out
        have hx := HXS.out
        refine ⟨Own2.of_kp hkk (by omega) (fun e => ?_) (fun e => ?_), .inl ⟨_, _, v5, _, ⟨hci2, ?_, ?_, HJX.out.lf.kp hkk (fun e => ?_), HJX.out.ds.kp2 hkk (fun k hk e => ?_), fun k hk => ?_⟩, HDN2.out, HBX.out.kp hkk (fun e => ?_)⟩⟩
        · rcases e with e | e | e
          · omega
          · omega
          · have := HJX.out.own _ e; omega
        · rcases e with e | e | e
          · omega
          · omega
          · have := HJX.out.own _ e; omega
        · rw [List.getElem?_append_left (List.getElem?_eq_some_iff.1 hc').1]; exact hc'
        · unfold Tj.upd
          rw [if_neg (fun e => by
            subst e
            have h1 := HJX.out.ci.bf.mem c huf
            exact (h1.1 (List.mem_of_getElem? hc')) HSU.out)]
          exact hsc
        · rcases e with e | e | e
          · omega
          · omega
          · rcases HJX.out.ci.own _ e with t | t <;> omega
        · rcases e with e | e | e
          · have := (HJX.out.ds.at' k hk).1; omega
          · have := (HJX.out.ds.at' k hk).1; omega
          · exact HJX.out.ds.row HJX.out.ci.row k e hk
        · rcases hown5 with e | e
          · rw [e] at hk; exact HJX.out.own k hk
          · rw [e, World.size_alloc] at hk
            have := hk1.size
            cases hk; exact .inr (by omega)
        · rcases e with e | e | e
          · omega
          · omega
          · have := HJX.out.own _ e; omega
      · have h1 : ((su : Int) == 0) = false := by simp; omega
        have HEND : Hid (CiJ W6 b0 n U f i c d mx Ds st' line' v' (fun p => p = u ∨ done p) X) := ⟨HJX.out.ci.seen huf (by rw [HSU.out]; exact h0), HJX.out.hc, HJX.out.st, HJX.out.lf, HJX.out.ds, HJX.out.own⟩
        gi_wp2_with (fail)
        exact ⟨⟨rfl, rfl⟩, .inl ⟨st', line', v', _, HEND.out, HDN2.out, HBX.out⟩⟩
  case hdone =>
    subst hact
    rintro D X hD ⟨st', line', v', done, hJ, hdn, _⟩ hdef
    have h := HSV.out
    have hn64 : n ≤ 64 * W := by have := HWd.out; omega
    have hall : ∀ q, useW n U q c → done q := fun q hq => hdn q (by
      rw [List.take_length]
      exact mem_pl.2 ⟨by have := HH.out.lt c q hq.2; omega, hq.2⟩)
    have hcN : CiI W6 b0 n U f (i + 1) st' line' v' (fun _ => False) X := ⟨hJ.ci.bf.next hJ.hc hall, hJ.ci.sm, hJ.ci.lv, hJ.ci.row, hJ.ci.own, hJ.ci.kp, hJ.ci.bd⟩
    have HN1 : Hid (CiI W6 b0 n U f (i + 1) st' line' v' (fun _ => False) X) := hcN
    have HD1 : Hid (Dfs (b0 + 6) (D :: Ds) X) := hJ.ds.cons (by omega) hdef (fun e => by have := h.2.2.2 D e; omega)
    have HL1 : Hid (Blk X (b0 + 5) [.int .i64 (d : Int)] 3) := hJ.lf
    have HI1 : Hid (i + 1 ≤ line'.length ∧ line'.length ≤ n) := ⟨(List.getElem?_eq_some_iff.1 hJ.hc).1, Tj.nodup_lt hJ.ci.bf.nd hJ.ci.bf.lt⟩
    have hwi : wrap64 ((i : Int) + 1) = (i : Int) + 1 := by unfold wrap64; have := HN.out; have := HI1.out; omega
    clear h hn64 hall hcN hJ hdn hD hdef
    go_wp2_with fail
    rw [hwi]
    exact HKK.out (i + 1) st' line' v' (D :: Ds) d _ _ _ _ _ _ _ _ _ _ _ _ _ _ _ _ _ _ _ _ _ _ _ _ _ _ _ _ _ _ _ _ _ _ _ _ _ _ _ _ _ _ _ X (by have := HNN.out; have := HI1.out; omega) HI1.out.1 HN1.out HL1.out HD1.out
  case hstop =>
    subst hact
    rintro D cq X hD ⟨rfl, st', line', v', done, hJ, hus⟩ hdef
    have h := HSV.out
    obtain ⟨hff, hst⟩ := hJ.ci.bf.found hJ.hc hus
    rw [hJ.st] at hff hst
    obtain ⟨l, hl, hlN⟩ := Tj.Chn.of (N := n) (fun p q h => h.1) hff
    have HFF : Hid (Tj.Far (useW n U) f f (d + 1)) := hff
    have HST : Hid (∀ p e, 1 ≤ e → e ≤ d → (st' p = e ↔ Tj.Far (useW n U) f p e)) := hst
    have HCH : Hid (Tj.Chn (useW n U) f f d l ∧ ∀ q ∈ f :: l, q < n) := ⟨hl, fun q hq => by
      rcases List.mem_cons.1 hq with e | e
      · rw [e]; exact HN.out.2.1
      · exact hlN q e⟩
    have HD1 : Hid (Dfs (b0 + 6) (D :: Ds) X) := hJ.ds.cons (by omega) hdef (fun e => by have := h.2.2.2 D e; omega)
    have HL1 : Hid (Blk X (b0 + 5) [.int .i64 (d : Int)] 3) := hJ.lf
    have HC1 : Hid (Kp W6 X (fun j => j = b0 + 1 ∨ (b0 + 3 ≤ j ∧ j ≤ b0 + 5))) := hJ.ci.kp
    have HM1 : Hid (Blk X (b0 + 1) (nums (fun p => (st' p : Int)) n) 3) := hJ.ci.sm
    have HDn : Hid (d ≤ 4096) := by
      have h1 := hJ.ci.bd c
      rw [hJ.st] at h1
      have h2 : line'.length ≤ n := Tj.nodup_lt hJ.ci.bf.nd hJ.ci.bf.lt
      have := HN.out
      show _ ≤ _
      omega
    have HXs : Hid (b0 + 6 ≤ X.heap.size) := by show _ ≤ _; have := HC1.out.size; have := HS6.out; omega
    have HCB : Hid (cb < b0 ∧ wp < b0) := by
      have h0 := HH.out.bw.lt
      have hb := HB0.out
      obtain ⟨x, hx⟩ : ∃ x, L[0]? = some x := ⟨_, List.getElem?_eq_getElem (by have := HN.out; omega)⟩
      have := cell_lt (HCL.out 0 x hx).1
      exact ⟨by omega, by omega⟩
    clear h hff hst hl hlN hJ hus hD hdef HMX HCJ HSV HKK HNN
    obtain ⟨⟨x1, x2⟩, hx⟩ : ∃ x, L[f]? = some x := ⟨_, List.getElem?_eq_getElem (by have := HN.out; omega)⟩
    have HXF : Hid (L[f]? = some (x1, x2)) := hx
    have KS3 : Hid (∀ w', Kp X w' Nul → (w'.cell? ⟨wp, 0, none⟩ = some (.slice (some ⟨cb, 0, none⟩) n cc) ∧ w'.cell? ⟨b0, 0, none⟩ = some (.int .i64 (f : Int)) ∧ w'.cell? ⟨cb, f * 2, none⟩ = some (.int .i64 x1) ∧ w'.cell? ⟨cb, f * 2 + 1, none⟩ = some (.int .i64 x2))) := fun w' gk => by
      have h1 := HFx.out w' (HC1.out.trans (gk.of_nul (S := fun j => j = b0 + 1 ∨ (b0 + 3 ≤ j ∧ j ≤ b0 + 5))))
      have h2 := h1.2.2.1 f _ HXF.out
      rw [Nat.zero_add] at h2
      exact ⟨h1.2.1.bw.cell rfl, h1.1.1.cell rfl, h2.1, h2.2⟩
    clear hx
    go_upto_region 14 with fail
    go_region_held3 (fun w' => w'.cell? ⟨wp, 0, none⟩ = some (.slice (some ⟨cb, 0, none⟩) n cc) ∧ w'.cell? ⟨b0, 0, none⟩ = some (.int .i64 (f : Int)) ∧ w'.cell? ⟨cb, f * 2, none⟩ = some (.int .i64 x1) ∧ w'.cell? ⟨cb, f * 2 + 1, none⟩ = some (.int .i64 x2))
      (first | (exact KS3.out _ (Kp.refl _ _)) | (exact KS3.out _ (Kp.refl _ _).drew) | (exact KS3.out _ ((Kp.refl _ _).drew.alloc _)))
      (fail)
    obtain ⟨X1, hX1⟩ : ∃ X1, (X.alloc (.cells #[.int .i64 x1, .int .i64 x2] 29)).drew = X1 := ⟨_, rfl⟩
    have kX1 : Kp X X1 Nul := by rw [← hX1]; exact ((Kp.refl X Nul).alloc _).drew
    have rX1 : X1.ownsRow X.heap.size 29 2 (.slice (some ⟨X.heap.size, 0, none⟩) 1 1) 1 (CiRw L f l (0 + 1)) := by
      have h0 := World.ownsRow_lit (base := X.heap.size) (e := 29) (size := 2) X #[.int .i64 x1, .int .i64 x2] 1 (Nat.le_refl _) (by unfold maxLen; omega) rfl
      rw [← hX1]
      have e : CiRw L f l (0 + 1) = [.int .i64 x1, .int .i64 x2] := by
        rw [CiRw_succ (q := f) (z := (x1, x2)) rfl HXF.out, CiRw_zero]; rfl
      rw [e]
      exact row_keep h0 (Kp.refl _ Nul).drew (fun _ _ q => q)
    rw [hX1]
    have HX1 : Hid (Kp X X1 Nul) := kX1
    have HR1 : Hid (X1.ownsRow X.heap.size 29 2 (.slice (some ⟨X.heap.size, 0, none⟩) 1 1) 1 (CiRw L f l (0 + 1))) := rX1
    have c1 : X1.cell? ⟨b0, 0, none⟩ = some (.int .i64 (f : Int)) := (KS3.out X1 kX1).2.1
    clear hX1 kX1 rX1 KS3 HXF
    obtain ⟨i0, hi, hz0, hz1, hz2⟩ := infoAddr
    go_wp2_with fail
    go_loopw [10, 11] (fun sv sp wr => CiL X b0 d f L l sv sp wr) (fun _ _ wr => leftB (b0 + 5) wr)
    case atStart => exact ⟨0, f, Nat.zero_le _, rfl, rfl, HL1.out.kp HX1.out (fun x => x), HR1.out, HX1.out.of_nul⟩
    case round =>
      obtain ⟨t, p, ht, hp, rfl, hb, hr, hk⟩ := hrel
      have HTP : Hid (t ≤ d ∧ (f :: l)[t]? = some p) := ⟨ht, hp⟩
      have HRW : Hid (wr.ownsRow X.heap.size 29 2 _ (t + 1) (CiRw L f l (t + 1))) := hr
      have HKW : Hid (Kp X wr (fun j => j = b0 + 5)) := hk
      obtain ⟨e, he⟩ : ∃ e, d - t = e := ⟨_, rfl⟩
      rw [he] at hb
      have HE : Hid (d - t = e) := he
      have HB5 : Hid (Blk wr (b0 + 5) [.int .i64 (e : Int)] 3) := hb
      have c4 : wr.cell? ⟨b0 + 5, 0, none⟩ = some (.int .i64 (e : Int)) := hb.cell rfl
      have HF1 := HFx.out wr (HC1.out.trans (hk.mono (fun j _ q => by have q' : j = b0 + 5 := q; exact .inr ⟨by omega, by omega⟩)))
      have HWB : Hid (WebM wr wp ub mb (.slice (some ⟨cb, 0, none⟩) n cc) n U) := HF1.2.1
      have HCW : Hid (CellsAt wr cb 0 L) := HF1.2.2.1
      have HSM : Hid (Blk wr (b0 + 1) (nums (fun p => (st' p : Int)) n) 3) := HM1.out.kp hk (fun q => by have q' : b0 + 1 = b0 + 5 := q; omega)
      have c5 : wr.cell? ⟨b0 + 2, 0, none⟩ = some (.slice (some ⟨b0 + 1, 0, none⟩) n n) := HF1.1.2.cell rfl
      clear hb hr hk he HF1 hp ht
      by_cases h0 : e = 0
      · subst h0
        have hz : ((0 : Nat) : Int) = 0 := rfl
        rw [hz] at c4
        go_wp2_with fail
        refine leaves_dfs (HD1.out.kp2 HKW.out (fun D hD e => by have e' : D = b0 + 5 := e; have := (HD1.out.at' D hD).1; omega)) (fun W' hW' => ?_)
        refine ⟨_, results_tmp rfl _ _ _, l, d, (f :: l).map (fun p => L.getD p (0, 0)), _, rfl, HFF.out, HCH.out.1, ?_, ?_, ?_, ?_, ?_⟩
        · rw [List.length_map, List.length_cons, HCH.out.1.len]
        · intro i' p' hp'
          rw [List.getElem?_map, hp']
          have hpn := HCH.out.2 p' (List.mem_of_getElem? hp')
          rw [Option.map_some, List.getD_eq_getElem?_getD, List.getElem?_eq_getElem (by have := HN.out; omega)]
          rfl
        · have htd : t = d := by have := HE.out; have := HTP.out.1; omega
          have hlen : (f :: l).length = d + 1 := by rw [List.length_cons, HCH.out.1.len]
          have hr := HRW.out
          unfold CiRw at hr
          rw [htd, ← hlen, List.take_length] at hr
          have hdf : Dfs (b0 + 6) (D :: Ds) wr := HD1.out.kp2 HKW.out (fun D hD e => by have e' : D = b0 + 5 := e; have := (HD1.out.at' D hD).1; omega)
          exact own1_from (own1_row (by rw [List.length_map]) (row_low (row_keep hr hW' (fun j e q => hdf.row hr j e q)) (by have := HXs.out; have := HB0.out; omega)))
        · refine (((HK6.out.trans' HC1.out (fun j hj e => ?_)).trans' HKW.out (fun j hj e => ?_)).trans' hW' (fun j hj e => ?_))
          · have := HB0.out; rcases e with e | e <;> omega
          · have e' : j = b0 + 5 := e; have := HB0.out; omega
          · have := (HD1.out.at' j e).1; have := HB0.out; omega
        · have htd : t = d := by have := HE.out; have := HTP.out.1; omega
          have hlen : (f :: l).length = d + 1 := by rw [List.length_cons, HCH.out.1.len]
          have hr := HRW.out
          unfold CiRw at hr
          rw [htd, ← hlen, List.take_length] at hr
          exact own1_cap (own1_row (by rw [List.length_map]) hr)
      · have h1 : (0 : Int) < (e : Int) := by omega
        obtain ⟨y, q, e1, e2, ⟨e3, e4⟩, e5⟩ := Chn_at HCH.out.1 t (by have := HE.out; omega)
        have ey : y = p := by have := HTP.out.2; rw [this] at e1; exact (Option.some.inj e1).symm
        subst ey
        rw [HE.out] at e4 e5
        have HQ : Hid ((f :: l)[t + 1]? = some q ∧ q < n) := ⟨e2, e3.1⟩
        have hle : 1 ≤ e ∧ e ≤ d := by have := HE.out; omega
        have HUS : Hid (Calls Tryz.prog 99 #[.pointer (some ⟨wp, 0, none⟩), .int .i64 (y : Int), .slice (some ⟨b0 + 1, 0, none⟩) n n, .int .i64 (e : Int)] wr fun er w' => er = .returned (.int .i64 (q : Int)) ∧ w' = wr) :=
          used_at wp ub mb n (b0 + 1) y e q (.slice (some ⟨cb, 0, none⟩) n cc) U st' wr HWB.out HSM.out (HCH.out.2 y (List.mem_of_getElem? HTP.out.2)) e3.1 ⟨(HST.out q e hle.1 hle.2).2 e4, e3.2⟩ (fun q' hq' hh => e5 q' hq' ⟨⟨Nat.lt_trans hq' e3.1, hh.2⟩, (HST.out q' e hle.1 hle.2).1 hh.1⟩)
        obtain ⟨⟨z1, z2⟩, hz⟩ : ∃ x, L[q]? = some x := ⟨_, List.getElem?_eq_getElem (by have := HN.out; have := e3.1; omega)⟩
        have HZ : Hid (L[q]? = some (z1, z2)) := hz
        have hqn : (q : Int) < (n : Int) := by have := e3.1; omega
        have hq0 : (0 : Int) ≤ (q : Int) := by omega
        obtain ⟨hz1', hz2'⟩ := HCW.out q _ hz
        rw [Nat.zero_add] at hz1' hz2'
        have c6 : wr.cell? ⟨wp, 0, none⟩ = some (.slice (some ⟨cb, 0, none⟩) n cc) := HWB.out.bw.cell rfl
        have hwe : wrap64 ((e : Int) - 1) = (e : Int) - 1 := by unfold wrap64; have := HDn.out; omega
        clear e1 e2 e3 e4 e5 hz hle
        go_wp2_with (first
          | (go_at_call 99; refine HUS.out.mono ?_; rintro er wz ⟨rfl, hzz⟩; replace hzz := hzz.symm; subst hzz)
          | (at_builtin; refine wpList_append_own _ rfl (.tmp 80) (.tmp 88) 30 rfl X.heap.size 29 i0 _ 2 16 Tryz.underlying30 hi hz0 hz1 hz2 rfl (by decide) _ _ _ rfl (HRW.out.alloc _) ⟨wr.heap.size, 0, none⟩ 1 1 (encA (z1, z2)) rfl rfl ?c1 ?c2 ?c3 ?c4 ?c5 ?_))
        case c1 => exact fun j u hj => by rw [Addr.add_lit, Nat.zero_add]; exact (Blk.new wr [.int .i64 z1, .int .i64 z2] 29).at'.trans hj
        case c2 => exact encA_one _
        case c3 => have := HTP.out; have := HDn.out; unfold maxLen; omega
        case c4 => have := HTP.out; have := HDn.out; omega
        case c5 => rw [World.size_alloc]; have := HKW.out.size; omega
        intro v5 w5 hrow5 hg5 hnil5
        have hb5 : Blk w5 (b0 + 5) [.int .i64 (e : Int)] 3 := row_step HRW.out hg5 HB5.out (by have := HXs.out; omega)
        have hk5 : Kp X w5 (fun j => j = b0 + 5) := HKW.out.trans' (((Kp.refl wr _).alloc _).trans (Kp.of_grown hg5 (fun i e => e))) (fun j hj e => by have := (row_base HRW.out j e).1; omega)
        have HK5 : Hid (Kp X w5 (fun j => j = b0 + 5)) := hk5
        have HBB : Hid (Blk w5 (b0 + 5) [.int .i64 (e : Int)] 3) := hb5
        have HRR : Hid (w5.ownsRow X.heap.size 29 2 v5 (t + 1 + 1) (CiRw L f l (t + 1 + 1))) := by
          show World.ownsRow _ _ _ _ _ _ _
          rw [CiRw_succ HQ.out.1 HZ.out]; exact hrow5
        have c7 : w5.cell? ⟨b0 + 5, 0, none⟩ = some (.int .i64 (e : Int)) := hb5.cell rfl
        have f7 : w5.frozen? ⟨b0 + 5, 0, none⟩ = false := hb5.froz _
        clear hrow5 hg5 hnil5 hb5 hk5
        go_wp2_with fail
        have hee : d - (t + 1) = e - 1 := by have := HE.out; omega
        have hei : ((e - 1 : Nat) : Int) = (e : Int) - 1 := by omega
        have hbn : Blk (w5.setCell ⟨b0 + 5, 0, none⟩ (.int .i64 ((e : Int) - 1))) (b0 + 5) [.int .i64 ((e - 1 : Nat) : Int)] 3 := by rw [hei]; exact HBB.out.set 0 _
        have hkn : Kp w5 (w5.setCell ⟨b0 + 5, 0, none⟩ (.int .i64 ((e : Int) - 1))) (fun j => j = b0 + 5) := (Kp.refl w5 (fun j => j = b0 + 5)).setCell ⟨b0 + 5, 0, none⟩ _ (.inr rfl)
        have hrn := row_keep HRR.out hkn (fun j e q => by have q' : j = b0 + 5 := q; have := (row_base HRR.out j e).1; have := HXs.out; omega)
        have HNEW : Hid (CiL X b0 d f L l v5 (.int .i64 (q : Int)) (w5.setCell ⟨b0 + 5, 0, none⟩ (.int .i64 ((e : Int) - 1)))) := ⟨t + 1, q, by have := HE.out; have := HTP.out.1; omega, HQ.out.1, rfl, by rw [hee]; exact hbn, hrn, HK5.out.trans hkn⟩
        have HME : Hid (leftB (b0 + 5) (w5.setCell ⟨b0 + 5, 0, none⟩ (.int .i64 ((e : Int) - 1))) < leftB (b0 + 5) wr) := by
          show _ < _
          unfold leftB
          rw [hbn.cell (i := 0) rfl, c4]
          simp only [Option.getD_some, RowKit.intOf]
          omega
        clear hee hei hbn hkn hrn
        exact ⟨HNEW.out, HME.out⟩
end Go.Proofs.YtdlieecpckpemaaGreatDoor
namespace Go.Proofs.YtdlieecpckpemaaGreatDoor
open Go.RowKit Go.Shelf Go.Sort
attribute [local go_sem] Oper.semAt_some
theorem results_cell2' {fn : Func} {p q : Tmp} {ty tz : TypeId} (h : fn.results = #[.cell p ty, .cell q tz]) (tmps : Array Value) (P : Program) (w : World) :
    (results fn tmps).run P w = ((asAddr (tmps.getD p undef)).run P w).andThen fun a w1 => ((loadVar ty a).run P w1).andThen fun v w2 => ((asAddr (tmps.getD q undef)).run P w2).andThen fun b w3 => ((loadVar tz b).run P w3).andThen fun u w4 => .ok (.tuple #[v, u]) w4 := by
  simp only [results, h]
  simp [Sem.run_bind, Result.andThen]
/-- The web's arrows, by the links' own table. -/
abbrev usE (L : List (Int × Int)) (us : Int × Int → Option (List Ar)) : Nat → Nat → Prop := webE L.length (fun p q => useP L us q p)
abbrev usW (L : List (Int × Int)) (us : Int × Int → Option (List Ar)) : Nat → Nat → Prop := useW L.length (fun p q => useP L us q p)
/-- What Circle hands back. -/
structure CirIs (w w' : World) (us : Int × Int → Option (List Ar)) (L : List (Int × Int)) (f : Nat) (l : List Nat) (left : Nat) (R : List (Int × Int)) (v : Value) : Prop where
  lt : f < L.length
  cy : Tj.Cy (usE L us) f
  first : ∀ x, x < f → ¬ Tj.Cy (usE L us) x
  far : Tj.Far (usW L us) f f (left + 1)
  chn : Tj.Chn (usW L us) f f left l
  len : R.length = left + 1
  at' : ∀ (i p : Nat), (f :: l)[i]? = some p → R[i]? = L[p]?
  out : CellsFrom w.heap.size w' v R
  cap : ∃ a c, v = .slice a R.length c ∧ R.length ≤ c
def CirOut (w : World) (us : Int × Int → Option (List Ar)) (n : Nat) (e : Ending) (w' : World) : Prop :=
  ∃ L : List (Int × Int), Strict L ∧ (∀ x, x ∈ L ↔ (us x).isSome = true) ∧ L.length ≤ n ∧ Kp w w' Nul ∧
    ((e = .returned (.tuple #[.slice none 0 0, .bool false]) ∧ ∀ x, x < L.length → ¬ Tj.Cy (usE L us) x) ∨
     ∃ (f : Nat) (l : List Nat) (left : Nat) (R : List (Int × Int)) (v : Value), e = .returned (.tuple #[v, .bool true]) ∧ CirIs w w' us L f l left R v)
theorem pl_head {M : Nat → Bool} {n u : Nat} (h : (pl M n)[0]? = some u) (x : Nat) (hx : x < u) : M x = false := by
  cases hm : M x with
  | false => rfl
  | true =>
    exfalso
    have hp : (pl M n).Pairwise (· < ·) := List.pairwise_lt_range.filter _
    have hun := (mem_pl.1 (List.mem_of_getElem? h)).1
    have hxm : x ∈ pl M n := mem_pl.2 ⟨by omega, hm⟩
    obtain ⟨i, hi⟩ := List.getElem?_of_mem hxm
    cases i with
    | zero => rw [h] at hi; cases hi; omega
    | succ i =>
      obtain ⟨h1, e1⟩ := List.getElem?_eq_some_iff.1 h
      obtain ⟨h2, e2⟩ := List.getElem?_eq_some_iff.1 hi
      have := List.pairwise_iff_getElem.1 hp 0 (i + 1) h1 h2 (by omega)
      rw [e1, e2] at this
      omega
theorem cells_kp {B : Nat} {w w' : World} {v : Value} {L : List (Int × Int)} {S : Nat → Prop} (h : CellsFrom B w v L) (g : Kp w w' S) (hS : ∀ j, B ≤ j → ¬ S j) : CellsFrom B w' v L := by
  obtain ⟨a, c, e, h1⟩ := h
  refine ⟨a, c, e, ?_⟩
  rcases h1 with h1 | ⟨b, e1, e2, e3⟩
  · exact .inl h1
  · exact .inr ⟨b, e1, e2, e3.kp g (hS b e2)⟩
theorem cells_low {B B' : Nat} {w : World} {v : Value} {L : List (Int × Int)} (h : CellsFrom B w v L) (hb : B' ≤ B) : CellsFrom B' w v L := by
  obtain ⟨a, c, e, h1⟩ := h
  refine ⟨a, c, e, ?_⟩
  rcases h1 with h1 | ⟨b, e1, e2, e3⟩
  · exact .inl h1
  · exact .inr ⟨b, e1, Nat.le_trans hb e2, e3⟩
theorem cells_one {B : Nat} {w : World} {v : Value} {L : List (Int × Int)} (h : CellsFrom B w v L) : v.oneCell' = true := by
  obtain ⟨a, c, rfl, _⟩ := h; rfl
theorem infoB1 : (Tryz.prog.info? 4).map (·.size) = some 1 := by kernel_rfl
/-- Where the range has come to its end. -/
structure CirF (w6 : World) (b0 : Nat) (L : List (Int × Int)) (N : Nat) (U : Nat → Nat → Bool) (f : Nat) (l : List Nat) (left : Nat) (R : List (Int × Int)) (v : Value) (X : World) : Prop where
  lt : f < N
  cy : Tj.Cy (webE N U) f
  first : ∀ x, x < f → ¬ Tj.Cy (webE N U) x
  far : Tj.Far (useW N U) f f (left + 1)
  chn : Tj.Chn (useW N U) f f left l
  len : R.length = left + 1
  at' : ∀ (i p : Nat), (f :: l)[i]? = some p → R[i]? = L[p]?
  out : CellsFrom (w6.heap.size + 2) X v R
  bv : Blk X b0 [v] 30
  bt : Blk X (b0 + 1) [.bool true] 4
  kp : Kp w6 X (fun j => j = b0 ∨ j = b0 + 1)
  cap : ∃ a c, v = .slice a R.length c ∧ R.length ≤ c
theorem CirF.kp' {w6 : World} {b0 : Nat} {L : List (Int × Int)} {N : Nat} {U : Nat → Nat → Bool} {f : Nat} {l : List Nat} {left : Nat} {R : List (Int × Int)} {v : Value} {X X' : World} {S : Nat → Prop} (h : CirF w6 b0 L N U f l left R v X) (g : Kp X X' S) (hS : ∀ j, S j → w6.heap.size ≤ j ∧ j < w6.heap.size + 2) (hb : b0 + 2 ≤ w6.heap.size) : CirF w6 b0 L N U f l left R v X' :=
  ⟨h.lt, h.cy, h.first, h.far, h.chn, h.len, h.at', cells_kp h.out g (fun j hj e => by have := hS j e; omega), h.bv.kp g (fun e => by have := hS _ e; omega), h.bt.kp g (fun e => by have := hS _ e; omega), h.kp.trans' g (fun j hj e => by have := hS j e; omega), h.cap⟩
set_option maxRecDepth 100000 in
set_option maxHeartbeats 8000000 in
theorem circ_at (F : Nat → Prop) (l n : Nat) (us : Int × Int → Option (List Ar)) (w : World) (h : LinksIn w F l us n) (hn : n ≤ 4096) (hF : ∀ b, F b → b < w.heap.size) (hT : Tab w) :
    Calls Tryz.prog 22 #[.pointer (some ⟨l, 0, none⟩)] w (CirOut w us n) := by
  obtain ⟨w1, hw1⟩ : ∃ w1, (w.alloc (.cells #[.slice none 0 0] 30)).alloc (.cells #[.bool false] 4) = w1 := ⟨_, rfl⟩
  have HW1 : Hid ((w.alloc (.cells #[.slice none 0 0] 30)).alloc (.cells #[.bool false] 4) = w1) := hw1
  obtain ⟨b0, hb0⟩ : ∃ b0, w.heap.size = b0 := ⟨_, rfl⟩
  have HB0 : Hid (w.heap.size = b0) := hb0
  have k1 : Kp w w1 Nul := by rw [← hw1]; exact ((Kp.refl w Nul).alloc _).alloc _
  have s1 : w1.heap.size = b0 + 2 := by rw [← hw1]; simp only [World.size_alloc]; omega
  have X0 : Hid (Blk w1 b0 [.slice none 0 0] 30) := by show Blk _ _ _ _; rw [← hw1]; exact (Blk.at_ hb0 _ _).alloc _
  have X1 : Hid (Blk w1 (b0 + 1) [.bool false] 4) := by show Blk _ _ _ _; rw [← hw1]; exact Blk.at_ (by rw [World.size_alloc, hb0]) _ _
  have HT1 : Hid (Tab w1) := hT.kp k1 (fun x => x)
  have HWEB : Hid (Calls Tryz.prog 53 #[.pointer (some ⟨l, 0, none⟩)] w1 (WebOut w1 us n)) := web_at F l n us w1 (h.kp k1 (fun _ _ x => x)) hn (fun b hb => by have := hF b hb; have := k1.size; omega) HT1.out
  have HK1 : Hid (Kp w w1 Nul) := k1
  have HS1 : Hid (w1.heap.size = b0 + 2) := s1
  have HTB : Hid (0 < b0) := by show _ < _; have := cell_lt (hT 0 (by omega)); omega
  clear h hF hT hw1 k1 s1 hn hb0
  refine (callsIn_wide (n := 12)).1 ?_
  refine callsIn_of_wp_marks Tryz.func22 rfl trivial ?_ rfl
  simp only [Tryz.ntmps22, List.size_toArray, List.length_cons, List.length_nil, Nat.reduceAdd, Nat.reduceSub, Array.replicate_succ, Array.replicate_zero, List.push_toArray, List.append_toArray, List.nil_append, List.cons_append]
  refine wpIn_wide.2 ?_
  go_upto_region 3 with fail
  rw [HW1.out, HB0.out]
  go_upto_region 4 with (first
    | (go_at_call 53; refine HWEB.out.mono ?_; rintro e w2 ⟨L, wp, ub, mb, ca, cc, rfl, hwb⟩)
    | fail)
  obtain ⟨N, hN⟩ : ∃ N, L.length = N := ⟨_, rfl⟩
  have HN : Hid (L.length = N) := hN
  obtain ⟨U, hU⟩ : ∃ U : Nat → Nat → Bool, (fun p q => useP L us q p) = U := ⟨_, rfl⟩
  have HU : Hid ((fun p q => useP L us q p) = U) := hU
  have HWS : Hid (Strict L ∧ (∀ x, x ∈ L ↔ (us x).isSome = true) ∧ L.length ≤ n) := ⟨hwb.st, hwb.mem, hwb.len⟩
  have hweb := hwb.web
  have hcl := hwb.cl
  rw [hN, hU] at hweb
  rw [hN] at hcl
  obtain ⟨W, hW⟩ : ∃ W, (N + 63) / 64 = W := ⟨_, rfl⟩
  have HW : Hid ((N + 63) / 64 = W) := hW
  obtain ⟨b4, hb4⟩ : ∃ b4, w2.heap.size = b4 := ⟨_, rfl⟩
  obtain ⟨w4, hw4⟩ : ∃ w4, w2.alloc (.cells #[.pointer (some ⟨wp, 0, none⟩)] 81) = w4 := ⟨_, rfl⟩
  have k4 : Kp w2 w4 Nul := by rw [← hw4]; exact (Kp.refl w2 Nul).alloc _
  have X4 : Hid (Blk w4 b4 [.pointer (some ⟨wp, 0, none⟩)] 81) := by show Blk _ _ _ _; rw [← hw4]; exact Blk.at_ hb4 _ _
  rw [hw4, hb4]
  have K14 : Hid (Kp w1 w4 Nul) := hwb.kp.trans k4
  have HM4 : Hid (WebM w4 wp ub mb (.slice ca N cc) N U) := hweb.kpn k4
  have HCL4 : Hid (0 < N → ∃ b, ca = some ⟨b, 0, none⟩ ∧ b0 + 2 ≤ b ∧ CellsAt w4 b 0 L) := fun h0 => by
    obtain ⟨b, e1, e2, e3⟩ := hcl h0
    exact ⟨b, e1, by have := HS1.out; omega, e3.kp k4 (fun x => x)⟩
  have HNW : Hid (b0 + 2 ≤ mb ∧ b0 + 2 ≤ ub ∧ b0 + 2 ≤ wp ∧ b0 + 2 ≤ b4) := by
    have := HS1.out
    have h1 := hwb.new
    have h2 := hwb.kp.size
    refine ⟨?_, ?_, ?_, ?_⟩ <;> omega
  have HCD : Hid (Calls Tryz.prog 61 #[.pointer (some ⟨wp, 0, none⟩)] w4 fun e w' => ∃ (Cb : Nat) (O : Nat → Bool), e = .returned (.slice (some ⟨Cb, 0, none⟩) W W) ∧ w4.heap.size ≤ Cb ∧ Blk w' Cb (wds O W) 122 ∧ (∀ x, O x = true ↔ x < N ∧ Tj.Cy (webE N U) x) ∧ Kp w4 w' Nul) := by
    have := circled_at wp ub mb N (.slice ca N cc) U w4 HM4.out (HT1.out.kp K14.out (fun x => x))
    rw [hW] at this
    exact this
  have c4 : w4.cell? ⟨b4, 0, none⟩ = some (.pointer (some ⟨wp, 0, none⟩)) := X4.out.cell rfl
  clear hN hU hwb hweb hcl hW hb4 hw4 k4 HWEB HW1
  go_wp2_with (first
    | (go_at_call 61; refine HCD.out.mono ?_; rintro e w5 ⟨Cb, O, rfl, hcb, hB, hO, hk5⟩)
    | (go_at_call 58; refine (all_at _ _ _ _).mono ?_; rintro e wz ⟨rfl, hz⟩; subst hz)
    | fail)
  obtain ⟨mx, hmx⟩ : ∃ mx, w5.heap.size = mx := ⟨_, rfl⟩
  obtain ⟨MV, hMV⟩ : ∃ MV, Value.slice (some ⟨Cb, 0, none⟩) W W = MV := ⟨_, rfl⟩
  have HMV : Hid (Value.slice (some ⟨Cb, 0, none⟩) W W = MV) := hMV
  obtain ⟨w6, hw6⟩ : ∃ w6, w5.alloc (.cells #[.slice (some ⟨Cb, 0, none⟩) W W] 84) = w6 := ⟨_, rfl⟩
  have k6 : Kp w5 w6 Nul := by rw [← hw6]; exact (Kp.refl w5 Nul).alloc _
  have s6 : w6.heap.size = mx + 1 := by rw [← hw6, World.size_alloc, hmx]
  have HMX : Hid (Blk w6 mx [MV] 84) := by show Blk _ _ _ _; rw [← hw6, ← hMV]; exact Blk.at_ hmx _ _
  rw [hw6, hmx]
  have K46 : Kp w4 w6 Nul := hk5.trans k6
  have K16 : Hid (Kp w1 w6 Nul) := K14.out.trans K46
  have HM6 : Hid (WebM w6 wp ub mb (.slice ca N cc) N U) := HM4.out.kpn K46
  have HCL6 : Hid (0 < N → ∃ b, ca = some ⟨b, 0, none⟩ ∧ b0 + 2 ≤ b ∧ CellsAt w6 b 0 L) := fun h0 => by
    obtain ⟨b, e1, e2, e3⟩ := HCL4.out h0
    exact ⟨b, e1, e2, e3.kp K46 (fun x => x)⟩
  have HB6 : Hid (Blk w6 Cb (wds O W) 122) := hB.kp k6 (fun x => x)
  have HX46 : Hid (Blk w6 b4 [.pointer (some ⟨wp, 0, none⟩)] 81) := X4.out.kp K46 (fun x => x)
  have HX06 : Hid (Blk w6 b0 [.slice none 0 0] 30) := X0.out.kp K16.out (fun x => x)
  have HX16 : Hid (Blk w6 (b0 + 1) [.bool false] 4) := X1.out.kp K16.out (fun x => x)
  have HOO : Hid (∀ x, O x = true ↔ x < N ∧ Tj.Cy (webE N U) x) := hO
  have HSZ : Hid (w6.heap.size = mx + 1 ∧ b0 + 2 ≤ Cb ∧ Cb < mx ∧ b4 < mx ∧ b0 + 2 ≤ mx) := by
    have h1 := hB.lt
    have h2 := X4.out.lt
    have h3 := K46.size
    have h4 := HNW.out
    have h5 := HX46.out.lt
    have h6 := hk5.size
    refine ⟨s6, ?_, ?_, ?_, ?_⟩ <;> omega
  have HTt : Hid (∀ V S, Kp w6 V S → ¬ S 0 → Tab V) := fun V S k hS => (HT1.out.kp K16.out (fun x => x)).kp k hS
  clear hmx hMV hw6 k6 s6 K46 hO hB hcb hk5 X0 X1 X4 HM4 HCL4 HCD c4
  generalize hact : Act.mk _ _ = a0
  refine wp_range_all (gf := 95) (lb := #[.pointer (some ⟨mx, 0, none⟩)]) (by rw [← hact]; rfl) (enters_of Tryz.func95 (by kernel_rfl) rfl) (encs := encP O W) (fun _ => rfl) (AllM mx (some ⟨Cb, 0, none⟩) Cb 0 W W O) (all1_seq O mx (some ⟨Cb, 0, none⟩) Cb 0 W W (by have := HW.out; have := HM6.out.le; omega) w6)
    (fun k V => k = 0 ∧ Kp w6 V Nul)
    (fun cq X => cq = .ret ∧ ∃ f l left R v, CirF w6 b0 L N U f l left R v X) ?hM ?hI ?hIx ?h0 ?hround ?hdone ?hstop
  case hM =>
    rintro k V ⟨_, hk⟩
    refine ⟨by rw [HMV.out]; exact (HMX.out.kp hk (fun x => x)).cell rfl, fun _ => ⟨rfl, fun i hi => ?_⟩, HTt.out V Nul hk (fun x => x)⟩
    rw [Nat.zero_add]
    exact (HB6.out.kp hk (fun x => x)).cell (wds_get hi)
  case hI =>
    rintro k V V' ⟨h0, hk⟩ q
    exact ⟨h0, hk.trans' q (fun j hj e => by rcases e with e | e <;> omega)⟩
  case hIx =>
    rintro cq V V' ⟨e, f, l, left, R, v, hF⟩ q
    exact ⟨e, f, l, left, R, v, hF.kp' q (fun j e => by rcases e with e | e <;> omega) (by have := HSZ.out; omega)⟩
  case h0 => exact ⟨rfl, Kp.refl _ _⟩
  case hround =>
    subst hact
    rintro j V KK hj hsV ⟨rfl, hk⟩ hcont
    obtain ⟨u, hu⟩ : ∃ u, (pl O (64 * W))[0]? = some u := ⟨_, List.getElem?_eq_getElem hj⟩
    have hOu : O u = true := (mem_pl.1 (List.mem_of_getElem? hu)).2
    have huc := (HOO.out u).1 hOu
    have HUC : Hid (u < N ∧ Tj.Cy (webE N U) u) := huc
    have HUF : Hid (∀ x, x < u → ¬ Tj.Cy (webE N U) x) := fun x hx hc => by
      have := pl_head hu x hx
      rw [(HOO.out x).2 ⟨by omega, hc⟩] at this
      cases this
    have henc : encP O W 0 = #[.int .i64 (u : Int)] := by unfold encP; rw [List.getD_eq_getElem?_getD, hu]; rfl
    rw [henc]
    have HK : Hid (Kp w6 V Nul) := hk
    have HSV : Hid (w6.heap.size + 2 ≤ V.heap.size) := hsV
    clear hk hu hOu huc henc hj hsV
    simp only [List.zip_toArray, List.zip_cons_cons, List.zip_nil_right, List.foldl_toArray', List.foldl_cons, List.foldl_nil]
    gi_wp2_with (fail)
    refine hcont _ _ (Kp.refl _ _) (fun X hX hloop hdef => ?_)
    have HKX : Hid (Kp w6 X Nul) := HK.out.trans' hX (fun i hi e => by have e' : i = w6.heap.size + 1 := e; omega)
    have HSX : Hid (w6.heap.size + 2 ≤ X.heap.size) := by show _ ≤ _; have := hX.size; have := HSV.out; omega
    have c4 : X.cell? ⟨b4, 0, none⟩ = some (.pointer (some ⟨wp, 0, none⟩)) := (HX46.out.kp HKX.out (fun x => x)).cell rfl
    have HCi : Hid (Calls Tryz.prog 62 #[.pointer (some ⟨wp, 0, none⟩), .int .i64 (u : Int)] X (CircO X L N U u)) :=
      circle_at L wp ub mb N u ca cc U X (HM6.out.kpn HKX.out) HN.out (fun h0 => by obtain ⟨b, e1, _, e3⟩ := HCL6.out h0; exact ⟨b, e1, e3.kp HKX.out (fun x => x)⟩) (HTt.out X Nul HKX.out (fun x => x)) HUC.out.1 HUC.out.2
    have HY0 : Hid (Blk X b0 [.slice none 0 0] 30) := HX06.out.kp HKX.out (fun x => x)
    have HY1 : Hid (Blk X (b0 + 1) [.bool false] 4) := HX16.out.kp HKX.out (fun x => x)
    clear hcont hX hloop hdef HK
    gi_wp2_with (fail)
    refine ⟨trivial, CallsIn.inRound _ ((callsIn_wide.2 HCi.out).mono ?_)⟩
    rintro e w7 ⟨l', left, R, v, rfl, hci⟩
    have hy0 : Blk w7 b0 [.slice none 0 0] 30 := HY0.out.kp hci.kp (fun x => x)
    have hone : v.oneCell' = true := cells_one hci.out
    gi_wp2_with (first
      | (refine storeIn_cell rfl 30 (.tmp 2) (.tmp 16) rfl b0 0 rfl v rfl hone _ _ hy0 (by simp) infoSl1 ?_; intro X7 hb7 hk7; have hy1 : Blk X7 (b0 + 1) [.bool false] 4 := (HY1.out.kp hci.kp (fun x => x)).kp hk7 (fun e => by have e' : b0 + 1 = b0 := e; omega))
      | (refine storeIn_cell rfl 4 (.tmp 3) (.const (.bool true)) rfl (b0 + 1) 0 rfl (.bool true) rfl rfl _ _ hy1 (by simp) infoB1 ?_; intro X8 hb8 hk8)
      | fail)
    have hz := HSZ.out
    have hsx := HSX.out
    have k78 : Kp w7 X8 (fun j => j = b0 ∨ j = b0 + 1) := (hk7.mono (fun _ _ e => .inl e)).trans' hk8 (fun _ _ e => .inr e)
    have kX8 : Kp X X8 (fun j => j = b0 ∨ j = b0 + 1) := (hci.kp.of_nul).trans k78
    refine ⟨Own2.of_kp kX8 (by omega) (fun e => by rcases e with e | e <;> omega) (fun e => by rcases e with e | e <;> omega), .inr ⟨_, rfl, rfl, u, l', left, R, v, ⟨HUC.out.1, HUC.out.2, HUF.out, hci.far, hci.chn, hci.len, hci.at', ?_, ?_, hb8, HKX.out.of_nul.trans kX8, hci.cap⟩⟩⟩
    · exact cells_kp (cells_low hci.out hsx) k78 (fun j hj e => by rcases e with e | e <;> omega)
    · exact hb7.kp hk8 (fun e => by have e' : b0 = b0 + 1 := e; omega)
  case hdone =>
    subst hact
    rintro D X hD ⟨h0, hk⟩ hdef
    have HNO : Hid (∀ x, x < N → ¬ Tj.Cy (webE N U) x) := fun x hx hc => by
      have h1 := (HOO.out x).2 ⟨hx, hc⟩
      have h2 : x ∈ pl O (64 * W) := mem_pl.2 ⟨by have := HW.out; omega, h1⟩
      rw [List.length_eq_zero_iff.1 h0] at h2
      cases h2
    have hx0 : Blk X b0 [.slice none 0 0] 30 := HX06.out.kp hk (fun x => x)
    have hx1 : Blk X (b0 + 1) [.bool false] 4 := HX16.out.kp hk (fun x => x)
    have HKX : Hid (Kp w6 X Nul) := hk
    have HDD : Hid (D = w6.heap.size ∧ X.heap[D]? = some (.deferred (some []))) := ⟨hD, hdef⟩
    clear h0 hk hdef hD
    go_wp2_with (first
      | (refine wpList_store_cell rfl 30 (.tmp 2) (.const (.slice none 0 0)) rfl b0 0 rfl (.slice none 0 0) rfl rfl _ _ hx0 (by simp) infoSl1 ?_; intro X7 hb7 hk7; have hy1 : Blk X7 (b0 + 1) [.bool false] 4 := hx1.kp hk7 (fun e => by have e' : b0 + 1 = b0 := e; omega))
      | (refine wpList_store_cell rfl 4 (.tmp 3) (.const (.bool false)) rfl (b0 + 1) 0 rfl (.bool false) rfl rfl _ _ hy1 (by simp) infoB1 ?_; intro X8 hb8 hk8)
      | fail)
    have k78 : Kp X X8 (fun j => j = b0 ∨ j = b0 + 1) := (hk7.mono (fun _ _ e => .inl e)).trans' hk8 (fun _ _ e => .inr e)
    have hz := HSZ.out
    have hdd := HDD.out
    refine leaves_dfs (Ds := [D]) (B := w6.heap.size) ⟨by simp, fun E hE => ?_⟩ (fun W' hW' => ?_)
    · rw [List.mem_singleton] at hE; subst hE
      exact ⟨by omega, (k78.block E (Array.getElem?_eq_some_iff.1 hdd.2).1 (fun e => by rcases e with e | e <;> omega)).trans hdd.2⟩
    · have cA : W'.cell? ⟨b0, 0, none⟩ = some (.slice none 0 0) := ((hb7.kp hk8 (fun e => by have e' : b0 = b0 + 1 := e; omega)).kp hW' (fun e => by rw [List.mem_singleton] at e; omega)).cell rfl
      have cB : W'.cell? ⟨b0 + 1, 0, none⟩ = some (.bool false) := (hb8.kp hW' (fun e => by rw [List.mem_singleton] at e; omega)).cell rfl
      have hkk : Kp w W' Nul := by
        have h1 := HB0.out
        have h2 := HS1.out
        refine ((((HK1.out.trans K16.out).trans HKX.out).trans' k78 (fun j hj e => by rcases e with e | e <;> omega)).trans' hW' (fun j hj e => by rw [List.mem_singleton] at e; have := HK1.out.size; have := K16.out.size; omega))
      refine ⟨.tuple #[.slice none 0 0, .bool false], ?_, L, HWS.out.1, HWS.out.2.1, HWS.out.2.2, hkk, .inl ⟨rfl, ?_⟩⟩
      · rw [results_cell2' rfl]
        go_simp
      · unfold usE
        rw [HN.out, HU.out]
        exact HNO.out
  case hstop =>
    subst hact
    rintro D cq X hD ⟨rfl, f, l, left, R, v, hF⟩ hdef
    have HFF : Hid (CirF w6 b0 L N U f l left R v X) := hF
    have HDD : Hid (D = w6.heap.size ∧ X.heap[D]? = some (.deferred (some []))) := ⟨hD, hdef⟩
    clear hF hD hdef
    go_wp2_with fail
    have hz := HSZ.out
    have hdd := HDD.out
    refine leaves_dfs (Ds := [D]) (B := w6.heap.size) ⟨by simp, fun E hE => ?_⟩ (fun W' hW' => ?_)
    · rw [List.mem_singleton] at hE; subst hE
      exact ⟨by omega, hdd.2⟩
    · have hfi := HFF.out
      have cA : W'.cell? ⟨b0, 0, none⟩ = some v := (hfi.bv.kp hW' (fun e => by rw [List.mem_singleton] at e; omega)).cell rfl
      have cB : W'.cell? ⟨b0 + 1, 0, none⟩ = some (.bool true) := (hfi.bt.kp hW' (fun e => by rw [List.mem_singleton] at e; omega)).cell rfl
      have h1 := HB0.out
      have h2 := HS1.out
      have h3 := K16.out.size
      have hkk : Kp w W' Nul := by
        refine (((HK1.out.trans K16.out).trans' hfi.kp (fun j hj e => by rcases e with e | e <;> omega)).trans' hW' (fun j hj e => by rw [List.mem_singleton] at e; have := HK1.out.size; omega))
      refine ⟨.tuple #[v, .bool true], ?_, L, HWS.out.1, HWS.out.2.1, HWS.out.2.2, hkk, .inr ⟨f, l, left, R, v, rfl, ?_⟩⟩
      · rw [results_cell2' rfl]
        go_simp
      · have ho : CellsFrom w.heap.size W' v R := cells_low (cells_kp hfi.out hW' (fun j hj e => by rw [List.mem_singleton] at e; omega)) (by omega)
        refine ⟨by rw [HN.out]; exact hfi.lt, ?_, ?_, ?_, ?_, hfi.len, hfi.at', ho, hfi.cap⟩
        · unfold usE; rw [HN.out, HU.out]; exact hfi.cy
        · unfold usE; rw [HN.out, HU.out]; exact hfi.first
        · unfold usW; rw [HN.out, HU.out]; exact hfi.far
        · unfold usW; rw [HN.out, HU.out]; exact hfi.chn
end Go.Proofs.YtdlieecpckpemaaGreatDoor
namespace Go.Proofs.YtdlieecpckpemaaGreatDoor
open Go.RowKit Go.Shelf Go.Sort
attribute [local go_sem] Oper.semAt_some
section
variable {P : Program} {w : World} {o : Oper} {a : Act} {K : Act → World → Prop} {Q : Exit → Act → World → Prop}
theorem wp_append_own_op (s x : Operand) (t : TypeId)
    (ho : o.op = .call { callee := .builtin .append, args := #[s, x], argTypes := #[t, t] })
    (base : Nat) (e : TypeId) (i : TypeInfo) (z : Value) (size bytes : Nat) (ht : P.underlying t = some (.slice e)) (hi : P.info? e = some i) (hz : i.zero = some z)
    (hsize : i.size = size) (hby : i.bytes = bytes) (hzs : z.cells.size = size) (hsz : 0 < size)
    (v : Value) (n : Nat) (xs : List Value) (hs : a.eval s = v) (hown : w.ownsRow base e size v n xs)
    (ad : Addr) (m c : Nat) (news : List Value) (hx : a.eval x = .slice (some ad) m c) (hl : news.length = m * size) (hnews : ∀ j u, news[j]? = some u → w.cell? (ad.add j) = some u) (h1 : ∀ u ∈ news, u.oneCell' = true)
    (h63 : n + m ≤ maxLen) (hbytes : (n + m) * bytes ≤ 140737488355328) (hbase : base ≤ w.heap.size)
    (h : ∀ v' w', w'.ownsRow base e size v' (n + m) (xs ++ news) → w.grownBy w' v.ownBlock → (v'.ownBlock = v.ownBlock ∨ v'.ownBlock = some w.heap.size) → K (a.put o.dst v') w') : o.wp P a w K Q := by
  obtain ⟨v', w', hr, h2, h3, h4, h5⟩ := run_append_own_at (P := P) w base t o.type e i z size bytes ht hi hz hsize hby hzs hsz v n xs hown ad m c news hl hnews h1 h63 hbytes hbase
  unfold Oper.wp execOp
  simp only [ho, resolve, invoke, builtin, Sem.run_bind, Sem.run_pure, Result.andThen_ok, List.map_toArray, List.map_cons, List.map_nil, hs, hx, hr]
  exact h v' w' h2 h3 h5
theorem wp_store_cell_op (ty : TypeId) (x y : Operand) (ho : o.op = .store ty x y)
    (b i : Nat) (hx : a.eval x = .pointer (some ⟨b, i, none⟩)) (v : Value) (hy : a.eval y = v) (h1 : v.oneCell' = true) (t : TypeId) (cs : List Value) (hb : Blk w b cs t) (hi : i < cs.length) (hz : (P.info? ty).map (·.size) = some 1)
    (h : ∀ W, Blk W b (cs.set i v) t → Kp w W (fun i => i = b) → K (a.put o.dst undef) W) : o.wp P a w K Q := by
  unfold Oper.wp execOp
  simp only [ho, hx, hy, Instr.storeAt, Instr.sureAddr, Sem.run_bind, Sem.run_pure, Result.andThen_ok, run_storeVar_at w b i ty t cs v hb hi hz h1]
  exact h _ (hb.set i v) ((Kp.refl w (fun j => j = b)).setCell ⟨b, i, none⟩ v (.inr rfl))
end
/-- The cells at some places. -/
def cellsOf (L : List (Int × Int)) (ps : List Nat) : List (Int × Int) := ps.map fun p => L.getD p (0, 0)
def rowOf (L : List (Int × Int)) (ps : List Nat) : List Value := (flatK encA 2 (cellsOf L ps).toArray).toList
theorem rowOf_snoc {L : List (Int × Int)} {ps : List Nat} {q : Nat} {z : Int × Int} (hz : L[q]? = some z) : rowOf L (ps ++ [q]) = rowOf L ps ++ encA z := by
  have e := flat_snoc (cellsOf L ps) z
  unfold rowOf cellsOf at *
  rw [List.map_append, show List.map (fun p => L.getD p (0, 0)) [q] = [z] by rw [List.map_singleton, List.getD_eq_getElem?_getD, hz]; rfl]
  exact e
theorem rowOf_nil (L : List (Int × Int)) : rowOf L [] = [] := by unfold rowOf cellsOf; simp [flatK]
/-- How the list stands. -/
structure LiI (w6 : World) (b0 : Nat) (L : List (Int × Int)) (ps : List Nat) (v : Value) (V : World) : Prop where
  bx : Blk V (b0 + 1) [v] 30
  row : V.ownsRow (w6.heap.size + 2) 29 2 v ps.length (rowOf L ps)
  kp : Kp w6 V (fun j => j = b0 + 1)
theorem LiI.kp' {w6 : World} {b0 : Nat} {L : List (Int × Int)} {ps : List Nat} {v : Value} {V V' : World} {S : Nat → Prop} (h : LiI w6 b0 L ps v V) (g : Kp V V' S) (hb : b0 + 2 ≤ w6.heap.size) (hS : ∀ j, S j → j = w6.heap.size ∨ j = w6.heap.size + 1) : LiI w6 b0 L ps v V' :=
  ⟨h.bx.kp g (fun e => by have := hS _ e; omega), row_keep h.row g (fun j e q => by have := hS j q; have := (row_base h.row j e).1; omega), h.kp.trans' g (fun j hj e => by have := hS j e; omega)⟩
theorem LiI.next {w6 V w5 X : World} {b0 : Nat} {L : List (Int × Int)} {ps : List Nat} {q : Nat} {z : Int × Int} {v v5 : Value} (h : LiI w6 b0 L ps v V) (hz : L[q]? = some z) (hb : b0 + 2 ≤ w6.heap.size) (g : Kp V w5 (fun j => v.ownBlock = some j))
    (hr : w5.ownsRow (w6.heap.size + 2) 29 2 v5 (ps.length + 1) (rowOf L ps ++ encA z)) (hx : Blk X (b0 + 1) [v5] 30) (hk : Kp w5 X (fun j => j = b0 + 1)) : LiI w6 b0 L (ps ++ [q]) v5 X ∧ Kp V X (fun j => j = b0 + 1 ∨ v.ownBlock = some j) := by
  have kk : Kp V X (fun j => j = b0 + 1 ∨ v.ownBlock = some j) := (g.mono (fun _ _ e => .inr e)).trans' hk (fun _ _ e => .inl e)
  refine ⟨⟨hx, ?_, h.kp.trans' kk (fun j hj e => ?_)⟩, kk⟩
  · rw [List.length_append, rowOf_snoc hz]
    exact row_keep hr hk (fun j e q => by have q' : j = b0 + 1 := q; have := (row_base hr j e).1; omega)
  · rcases e with e | e
    · exact e
    · have := (row_base h.row j e).1; omega
set_option maxRecDepth 100000 in
set_option maxHeartbeats 8000000 in
theorem list_at (L : List (Int × Int)) (wp ub mb n : Nat) (ca : Option Addr) (cc Cb W : Nat) (U : Nat → Nat → Bool) (O : Nat → Bool) (w : World) (h : WebM w wp ub mb (.slice ca n cc) n U) (hn : L.length = n) (hcl : 0 < n → ∃ b, ca = some ⟨b, 0, none⟩ ∧ CellsAt w b 0 L) (hT : Tab w) (hW : W ≤ 64) (hB : Blk w Cb (wds O W) 122) (hO : ∀ q, O q = true → q < n) :
    Calls Tryz.prog 60 #[.pointer (some ⟨wp, 0, none⟩), .slice (some ⟨Cb, 0, none⟩) W W] w fun e w' => ∃ v, e = .returned v ∧ CellsFrom w.heap.size w' v (cellsOf L (pl O (64 * W))) ∧ Kp w w' Nul := by
  obtain ⟨b0, hb0⟩ : ∃ b0, w.heap.size = b0 := ⟨_, rfl⟩
  have HB0 : Hid (w.heap.size = b0) := hb0
  obtain ⟨w2, hw2⟩ : ∃ w2, (w.alloc (.cells #[.pointer (some ⟨wp, 0, none⟩)] 81)).alloc (.cells #[.slice none 0 0] 30) = w2 := ⟨_, rfl⟩
  have HW2 : Hid ((w.alloc (.cells #[.pointer (some ⟨wp, 0, none⟩)] 81)).alloc (.cells #[.slice none 0 0] 30) = w2) := hw2
  have k2 : Kp w w2 Nul := by rw [← hw2]; exact ((Kp.refl w Nul).alloc _).alloc _
  have s2 : w2.heap.size = b0 + 2 := by rw [← hw2]; simp only [World.size_alloc]; omega
  have X0 : Blk w2 b0 [.pointer (some ⟨wp, 0, none⟩)] 81 := by rw [← hw2]; exact (Blk.at_ hb0 _ _).alloc _
  have X1 : Blk w2 (b0 + 1) [.slice none 0 0] 30 := by rw [← hw2]; exact Blk.at_ (by rw [World.size_alloc, hb0]) _ _
  obtain ⟨MV, hMV⟩ : ∃ MV, Value.slice (some ⟨Cb, 0, none⟩) W W = MV := ⟨_, rfl⟩
  have HMV : Hid (Value.slice (some ⟨Cb, 0, none⟩) W W = MV) := hMV
  obtain ⟨w6, hw6⟩ : ∃ w6, w2.alloc (.cells #[.slice (some ⟨Cb, 0, none⟩) W W] 84) = w6 := ⟨_, rfl⟩
  have HW6 : Hid (w2.alloc (.cells #[.slice (some ⟨Cb, 0, none⟩) W W] 84) = w6) := hw6
  have k6 : Kp w2 w6 Nul := by rw [← hw6]; exact (Kp.refl w2 Nul).alloc _
  have s6 : w6.heap.size = b0 + 3 := by rw [← hw6, World.size_alloc, s2]
  have HMX : Hid (Blk w6 (b0 + 2) [MV] 84) := by show Blk _ _ _ _; rw [← hw6, ← hMV]; exact Blk.at_ s2 _ _
  have HX0 : Hid (Blk w6 b0 [.pointer (some ⟨wp, 0, none⟩)] 81) := X0.kp k6 (fun x => x)
  have HX1 : Hid (Blk w6 (b0 + 1) [.slice none 0 0] 30) := X1.kp k6 (fun x => x)
  have HK : Hid (Kp w w6 Nul) := k2.trans k6
  have HM : Hid (WebM w6 wp ub mb (.slice ca n cc) n U) := h.kpn HK.out
  have HCl : Hid (0 < n → ∃ b, ca = some ⟨b, 0, none⟩ ∧ b < b0 ∧ CellsAt w6 b 0 L) := fun h0 => by
    obtain ⟨b, e1, e2⟩ := hcl h0
    obtain ⟨x, hx⟩ : ∃ x, L[0]? = some x := ⟨_, List.getElem?_eq_getElem (by omega)⟩
    have := cell_lt (e2 0 x hx).1
    exact ⟨b, e1, by omega, e2.kp HK.out (fun x => x)⟩
  have HB6 : Hid (Blk w6 Cb (wds O W) 122) := hB.kp HK.out (fun x => x)
  have HSZ : Hid (w6.heap.size = b0 + 3 ∧ w2.heap.size = b0 + 2 ∧ wp < b0 ∧ Cb < b0 ∧ 0 < b0) := ⟨s6, s2, by have := h.bw.lt; omega, by have := hB.lt; omega, by have := cell_lt (hT 0 (by omega)); omega⟩
  have HT : Hid (Tab w6) := hT.kp HK.out (fun x => x)
  have HOO : Hid (∀ q, O q = true → q < n) := hO
  have HN : Hid (L.length = n ∧ n ≤ 4096 ∧ W ≤ 64) := ⟨hn, h.le, hW⟩
  clear h hn hcl hT hW hB hO hw2 k2 s2 X0 X1 hMV hw6 k6 s6 hb0
  refine (callsIn_wide (n := 12)).1 ?_
  refine callsIn_of_wp_marks Tryz.func60 rfl trivial ?_ rfl
  simp only [Tryz.ntmps60, List.size_toArray, List.length_cons, List.length_nil, Nat.reduceAdd, Nat.reduceSub, Array.replicate_succ, Array.replicate_zero, List.push_toArray, List.append_toArray, List.nil_append, List.cons_append]
  refine wpIn_wide.2 ?_
  go_upto_region 2 with fail
  rw [HW2.out, HB0.out]
  go_wp2_with (first
    | (go_at_call 58; refine (all_at _ _ _ _).mono ?_; rintro e wz ⟨rfl, hz⟩; subst hz)
    | fail)
  rw [HW6.out, HSZ.out.2.1]
  generalize hact : Act.mk _ _ = a0
  refine wp_range_all (gf := 95) (lb := #[.pointer (some ⟨b0 + 2, 0, none⟩)]) (by rw [← hact]; rfl) (enters_of Tryz.func95 (by kernel_rfl) rfl) (encs := encP O W) (fun _ => rfl) (AllM (b0 + 2) (some ⟨Cb, 0, none⟩) Cb 0 W W O) (all1_seq O (b0 + 2) (some ⟨Cb, 0, none⟩) Cb 0 W W (by have := HN.out; omega) w6)
    (fun k V => ∃ v, LiI w6 b0 L ((pl O (64 * W)).take k) v V)
    (fun _ _ => False) ?hM ?hI ?hIx ?h0 ?hround ?hdone ?hstop
  case hM =>
    rintro k V ⟨v, hl⟩
    have h := HSZ.out
    refine ⟨by rw [HMV.out]; exact (HMX.out.kp hl.kp (fun e => by have e' : b0 + 2 = b0 + 1 := e; omega)).cell rfl, fun _ => ⟨rfl, fun i hi => ?_⟩, HT.out.kp hl.kp (fun e => by have e' : 0 = b0 + 1 := e; omega)⟩
    rw [Nat.zero_add]
    exact (HB6.out.kp hl.kp (fun e => by have e' : Cb = b0 + 1 := e; omega)).cell (wds_get hi)
  case hI =>
    rintro k V V' ⟨v, hl⟩ q
    exact ⟨v, hl.kp' q (by have := HSZ.out; omega) (fun j e => e)⟩
  case hIx => exact fun _ _ _ h => h.elim
  case h0 => exact ⟨.slice none 0 0, HX1.out, by rw [List.take_zero, rowOf_nil]; exact World.ownsRow_nil _ _ _ _, Kp.refl _ _⟩
  case hround =>
    subst hact
    rintro j V KK hj hsV ⟨v, hl⟩ hcont
    obtain ⟨p, hp⟩ : ∃ p, (pl O (64 * W))[j]? = some p := ⟨_, List.getElem?_eq_getElem hj⟩
    have hpn : p < n := HOO.out p (mem_pl.1 (List.mem_of_getElem? hp)).2
    have HPT : Hid ((pl O (64 * W)).take (j + 1) = (pl O (64 * W)).take j ++ [p]) := by
      show _ = _
      rw [List.take_add_one, hp]; rfl
    have henc : encP O W j = #[.int .i64 (p : Int)] := by unfold encP; rw [List.getD_eq_getElem?_getD, hp]; rfl
    rw [henc]
    have hjl : ((pl O (64 * W)).take j).length ≤ 4096 := by
      rw [List.length_take]
      have h1 : (pl O (64 * W)).length ≤ 64 * W := by unfold pl; have := List.length_filter_le O (List.range (64 * W)); rwa [List.length_range] at this
      have := HN.out
      omega
    have HJL : Hid (((pl O (64 * W)).take j).length ≤ 4096) := hjl
    have HL : Hid (LiI w6 b0 L ((pl O (64 * W)).take j) v V) := hl
    have HSV : Hid (w6.heap.size + 2 ≤ V.heap.size) := hsV
    clear hl hp henc hj hsV hjl
    simp only [List.zip_toArray, List.zip_cons_cons, List.zip_nil_right, List.foldl_toArray', List.foldl_cons, List.foldl_nil]
    gi_wp2_with (fail)
    refine hcont _ _ (Kp.refl _ _) (fun X hX hloop hdef => ?_)
    have HLX : Hid (LiI w6 b0 L ((pl O (64 * W)).take j) v X) := HL.out.kp' hX (by have := HSZ.out; omega) (fun j e => .inr e)
    have HSX : Hid (w6.heap.size + 2 ≤ X.heap.size) := Nat.le_trans HSV.out hX.size
    obtain ⟨cb, rfl, hcb, hce⟩ := HCl.out (by omega)
    obtain ⟨⟨z1, z2⟩, hz⟩ : ∃ x, L[p]? = some x := ⟨_, List.getElem?_eq_getElem (by have := HN.out; omega)⟩
    have HZ : Hid (L[p]? = some (z1, z2)) := hz
    have HCE : Hid (cb < b0 ∧ CellsAt w6 cb 0 L) := ⟨hcb, hce⟩
    have HC : Hid (∀ w', Kp X w' (fun j => j = b0 + 1 ∨ v.ownBlock = some j) → w'.cell? ⟨b0, 0, none⟩ = some (.pointer (some ⟨wp, 0, none⟩)) ∧ w'.cell? ⟨wp, 0, none⟩ = some (.slice (some ⟨cb, 0, none⟩) n cc) ∧ w'.cell? ⟨cb, p * 2, none⟩ = some (.int .i64 z1) ∧ w'.cell? ⟨cb, p * 2 + 1, none⟩ = some (.int .i64 z2)) := fun w' g => by
      have hs := HSZ.out
      have k1 : Kp w6 w' (fun j => j = b0 + 1) := HLX.out.kp.trans' g (fun j hj e => by
        rcases e with e | e
        · exact e
        · have := (row_base HLX.out.row j e).1; omega)
      have h2 := (HCE.out.2.kp k1 (fun e => by have e' : cb = b0 + 1 := e; have := HCE.out; omega)) p _ HZ.out
      rw [Nat.zero_add] at h2
      exact ⟨(HX0.out.kp k1 (fun e => by have e' : b0 = b0 + 1 := e; omega)).cell rfl, (HM.out.bw.kp k1 (fun e => by have e' : wp = b0 + 1 := e; omega)).cell rfl, h2.1, h2.2⟩
    have hpi : (p : Int) < (n : Int) := by omega
    have hp0 : (0 : Int) ≤ (p : Int) := by omega
    obtain ⟨i0, hi, hz0, hz1, hz2⟩ := infoAddr
    have HFinal : Hid (∀ (w5 X2 : World) (v5 : Value), Kp X w5 (fun j => v.ownBlock = some j) → w5.ownsRow (w6.heap.size + 2) 29 2 v5 (((pl O (64 * W)).take j).length + 1) (rowOf L ((pl O (64 * W)).take j) ++ encA (z1, z2)) → Blk X2 (b0 + 1) [v5] 30 → Kp w5 X2 (fun j => j = b0 + 1) →
        Own2 w6.heap.size X X2 ∧ ∃ v, LiI w6 b0 L ((pl O (64 * W)).take (j + 1)) v X2) := fun w5 X2 v5 g hr hx hk => by
      obtain ⟨h1, h2⟩ := HLX.out.next HZ.out (by have := HSZ.out; omega) g hr hx hk
      have hs := HSZ.out
      have hsx := HSX.out
      refine ⟨Own2.of_kp h2 (by omega) (fun e => ?_) (fun e => ?_), v5, by rw [HPT.out]; exact h1⟩
      · rcases e with e | e
        · omega
        · have := (row_base HLX.out.row _ e).1; omega
      · rcases e with e | e
        · omega
        · have := (row_base HLX.out.row _ e).1; omega
    clear hcont hX hloop hdef hz hcb hce HL
    have c1 : X.cell? ⟨b0 + 1, 0, none⟩ = some v := HLX.out.bx.cell rfl
    have hk8 : Kp X ((X.alloc (.cells #[.int .i64 z1, .int .i64 z2] 29)).drew) Nul := ((Kp.refl X Nul).alloc _).drew
    have HK8 : Hid (Kp X ((X.alloc (.cells #[.int .i64 z1, .int .i64 z2] 29)).drew) Nul) := hk8
    have HB8 : Hid (Blk ((X.alloc (.cells #[.int .i64 z1, .int .i64 z2] 29)).drew) X.heap.size [.int .i64 z1, .int .i64 z2] 29) := (Blk.at_ rfl _ _).drew
    have HR8 : Hid (((X.alloc (.cells #[.int .i64 z1, .int .i64 z2] 29)).drew).ownsRow (w6.heap.size + 2) 29 2 v ((pl O (64 * W)).take j).length (rowOf L ((pl O (64 * W)).take j))) := row_keep HLX.out.row hk8 (fun _ _ q => q)
    clear hk8
    gi_wp2_with (fail)
    refine regIn_noPanic ?_
    refine regIn_held (fun w' : World => Kp X w' (fun j => j = b0 + 1 ∨ v.ownBlock = some j)) (by kernel_rfl) (by kernel_rfl) (noPanic_lets (fun a w h => by rcases h with ⟨_, (⟨h, _⟩ | ⟨c, h, _⟩)⟩ <;> cases h)) ((Kp.refl _ _).drew) (fun hHeld => ?_)
    refine wpH_takes (i := 1) (v := ?_) (some 11) rfl rfl (by kernel_rfl) (by kernel_rfl) (by kernel_rfl) (fun _ _ _ h => h) (Or.inl ⟨by rfl, ?_⟩) hHeld ?_
    rotate_left
    · intro w' hSw; obtain ⟨s0, s1, s2, s3⟩ := HC.out w' hSw; clear hSw; go_simp; try with_reducible rfl
    simp only [Act.put, List.setIfInBounds_toArray, List.set_cons_zero, List.set_cons_succ]
    refine wpH_takes (i := 2) (v := ?_) (some 12) rfl rfl (by kernel_rfl) (by kernel_rfl) (by kernel_rfl) (fun _ _ _ h => h) (Or.inl ⟨by rfl, ?_⟩) hHeld ?_
    rotate_left
    · intro w' hSw; clear hSw; go_simp; try with_reducible rfl
    simp only [Act.put, List.setIfInBounds_toArray, List.set_cons_zero, List.set_cons_succ]
    refine wpH_takes (i := 3) (v := ?_) (some 13) rfl rfl (by kernel_rfl) (by kernel_rfl) (by kernel_rfl) (fun _ _ _ h => h) (Or.inl ⟨by rfl, ?_⟩) hHeld ?_
    rotate_left
    · intro w' hSw; clear hSw; go_simp; try with_reducible rfl
    simp only [Act.put, List.setIfInBounds_toArray, List.set_cons_zero, List.set_cons_succ]
    refine wpH_takes (i := 4) (v := ?_) (some 14) rfl rfl (by kernel_rfl) (by kernel_rfl) (by kernel_rfl) (fun _ _ _ h => h) (Or.inl ⟨by rfl, ?_⟩) hHeld ?_
    rotate_left
    · intro w' hSw; obtain ⟨s0, s1, s2, s3⟩ := HC.out w' hSw; clear hSw; go_simp; try with_reducible rfl
    simp only [Act.put, List.setIfInBounds_toArray, List.set_cons_zero, List.set_cons_succ]
    refine wpH_takes (i := 5) (v := ?_) (some 15) rfl rfl (by kernel_rfl) (by kernel_rfl) (by kernel_rfl) (fun _ _ _ h => h) (Or.inl ⟨by rfl, ?_⟩) hHeld ?_
    rotate_left
    · intro w' hSw; clear hSw; go_simp; try with_reducible rfl
    simp only [Act.put, List.setIfInBounds_toArray, List.set_cons_zero, List.set_cons_succ]
    refine wpH_takes (i := 6) (v := ?_) (some 16) rfl rfl (by kernel_rfl) (by kernel_rfl) (by kernel_rfl) (fun _ _ _ h => h) (Or.inl ⟨by rfl, ?_⟩) hHeld ?_
    rotate_left
    · intro w' hSw; clear hSw; go_simp; try with_reducible rfl
    simp only [Act.put, List.setIfInBounds_toArray, List.set_cons_zero, List.set_cons_succ]
    refine wpH_takes (i := 7) (v := ?_) (some 17) rfl rfl (by kernel_rfl) (by kernel_rfl) (by kernel_rfl) (fun _ _ _ h => h) (Or.inl ⟨by rfl, ?_⟩) hHeld ?_
    rotate_left
    · intro w' hSw; obtain ⟨s0, s1, s2, s3⟩ := HC.out w' hSw; clear hSw; go_simp; try with_reducible rfl
    simp only [Act.put, List.setIfInBounds_toArray, List.set_cons_zero, List.set_cons_succ]
    refine wpAnyH_ready (rs := [0, 8]) (by kernel_rfl) (by simp) ?_
    refine AllReadyH.cons rfl (fun K hK => ?_) ?_
    · go_simp
      refine hK.out _ _ ((Kp.refl _ _).drew) (fun _ => ?_)
      clear hK K
      (try simp only [Act.put, List.setIfInBounds_toArray, List.set_cons_zero, List.set_cons_succ])
      refine wpH_step (i := 8) (by kernel_rfl) rfl rfl (fun K hK => ?_)
      go_simp
      refine hK.out _ _ (HK8.out.of_nul) (fun _ => ?_)
      clear hK K
      (try simp only [Act.put, List.setIfInBounds_toArray, List.set_cons_zero, List.set_cons_succ])
      refine wpH_step (i := 9) (by kernel_rfl) rfl rfl (fun K hK => ?_)
      refine wp_append_own_op (.tmp 10) (.tmp 18) 30 rfl (w6.heap.size + 2) 29 i0 _ 2 16 Tryz.underlying30 hi hz0 hz1 hz2 rfl (by decide) v _ _ rfl HR8.out ⟨X.heap.size, 0, none⟩ 1 1 (encA (z1, z2)) rfl rfl (fun j u hj => by rw [Addr.add_lit, Nat.zero_add]; exact HB8.out.at'.trans hj) (encA_one _) (by have := HJL.out; unfold maxLen; omega) (by have := HJL.out; omega) (by have := HSX.out; have := HK8.out.size; omega) (fun v5 w5 hrow5 hg5 hown5 => ?_)
      have k5 : Kp X w5 (fun j => v.ownBlock = some j) := (HK8.out.of_nul).trans (Kp.of_grown hg5 (fun i e => e))
      have K5 : Hid (Kp X w5 (fun j => v.ownBlock = some j)) := k5
      have R5 : Hid (w5.ownsRow (w6.heap.size + 2) 29 2 v5 (((pl O (64 * W)).take j).length + 1) (rowOf L ((pl O (64 * W)).take j) ++ encA (z1, z2))) := hrow5
      have hx5 : Blk w5 (b0 + 1) [v] 30 := HLX.out.bx.kp k5 (fun e => by have := (row_base HLX.out.row _ e).1; have := HSZ.out; omega)
      have hone5 : v5.oneCell' = true := row_one hrow5
      refine hK.out _ _ (k5.mono (fun _ _ e => .inr e)) (fun _ => ?_)
      clear hK K k5 hg5 hown5
      (try simp only [Act.put, List.setIfInBounds_toArray])
      refine wpH_step (i := 10) (by kernel_rfl) rfl rfl (fun K hK => ?_)
      refine wp_store_cell_op 30 (.tmp 5) (.tmp 19) rfl (b0 + 1) 0 rfl v5 rfl hone5 _ _ hx5 (by simp) infoSl1 (fun X2 hb2 hk2 => ?_)
      refine hK.out _ _ ((K5.out.mono (fun _ _ e => .inr e)).trans' hk2 (fun _ _ e => .inl e)) (fun _ => ?_)
      clear hK K
      (try simp only [Act.put])
      refine wpAnyH_done (by kernel_rfl) ?_ _
      refine NoPanic.normal ?_
      have HEND : Hid (Own2 w6.heap.size X X2 ∧ ∃ v, LiI w6 b0 L ((pl O (64 * W)).take (j + 1)) v X2) := HFinal.out w5 X2 v5 K5.out R5.out hb2 hk2
      clear hb2 hk2 hrow5 hx5 hone5
      gi_wp2_with (fail)
      exact HEND.out
    refine AllReadyH.cons rfl (fun K hK => ?_) AllReadyH.nil
    · go_simp
      refine hK.out _ _ (HK8.out.of_nul) (fun _ => ?_)
      clear hK K
      (try simp only [Act.put, List.setIfInBounds_toArray, List.set_cons_zero, List.set_cons_succ])
      have c1' : (X.alloc (.cells #[.int .i64 z1, .int .i64 z2] 29)).cell? ⟨b0 + 1, 0, none⟩ = some v := (HLX.out.bx.alloc _).cell rfl
      refine wpH_step (i := 0) (by kernel_rfl) rfl rfl (fun K hK => ?_)
      go_simp
      refine hK.out _ _ (HK8.out.of_nul) (fun _ => ?_)
      clear hK K
      (try simp only [Act.put, List.setIfInBounds_toArray, List.set_cons_zero, List.set_cons_succ])
      refine wpH_step (i := 9) (by kernel_rfl) rfl rfl (fun K hK => ?_)
      refine wp_append_own_op (.tmp 10) (.tmp 18) 30 rfl (w6.heap.size + 2) 29 i0 _ 2 16 Tryz.underlying30 hi hz0 hz1 hz2 rfl (by decide) v _ _ rfl HR8.out ⟨X.heap.size, 0, none⟩ 1 1 (encA (z1, z2)) rfl rfl (fun j u hj => by rw [Addr.add_lit, Nat.zero_add]; exact HB8.out.at'.trans hj) (encA_one _) (by have := HJL.out; unfold maxLen; omega) (by have := HJL.out; omega) (by have := HSX.out; have := HK8.out.size; omega) (fun v5 w5 hrow5 hg5 hown5 => ?_)
      have k5 : Kp X w5 (fun j => v.ownBlock = some j) := (HK8.out.of_nul).trans (Kp.of_grown hg5 (fun i e => e))
      have K5 : Hid (Kp X w5 (fun j => v.ownBlock = some j)) := k5
      have R5 : Hid (w5.ownsRow (w6.heap.size + 2) 29 2 v5 (((pl O (64 * W)).take j).length + 1) (rowOf L ((pl O (64 * W)).take j) ++ encA (z1, z2))) := hrow5
      have hx5 : Blk w5 (b0 + 1) [v] 30 := HLX.out.bx.kp k5 (fun e => by have := (row_base HLX.out.row _ e).1; have := HSZ.out; omega)
      have hone5 : v5.oneCell' = true := row_one hrow5
      refine hK.out _ _ (k5.mono (fun _ _ e => .inr e)) (fun _ => ?_)
      clear hK K k5 hg5 hown5
      (try simp only [Act.put, List.setIfInBounds_toArray])
      refine wpH_step (i := 10) (by kernel_rfl) rfl rfl (fun K hK => ?_)
      refine wp_store_cell_op 30 (.tmp 5) (.tmp 19) rfl (b0 + 1) 0 rfl v5 rfl hone5 _ _ hx5 (by simp) infoSl1 (fun X2 hb2 hk2 => ?_)
      refine hK.out _ _ ((K5.out.mono (fun _ _ e => .inr e)).trans' hk2 (fun _ _ e => .inl e)) (fun _ => ?_)
      clear hK K
      (try simp only [Act.put])
      refine wpAnyH_done (by kernel_rfl) ?_ _
      refine NoPanic.normal ?_
      have HEND : Hid (Own2 w6.heap.size X X2 ∧ ∃ v, LiI w6 b0 L ((pl O (64 * W)).take (j + 1)) v X2) := HFinal.out w5 X2 v5 K5.out R5.out hb2 hk2
      clear hb2 hk2 hrow5 hx5 hone5
      gi_wp2_with (fail)
      exact HEND.out
  case hdone =>
    subst hact
    rintro D X hD ⟨v, hl⟩ hdef
    rw [List.take_length] at hl
    have HLX : Hid (LiI w6 b0 L (pl O (64 * W)) v X) := hl
    have HDD : Hid (D = w6.heap.size ∧ X.heap[D]? = some (.deferred (some []))) := ⟨hD, hdef⟩
    have c1 : X.cell? ⟨b0 + 1, 0, none⟩ = some v := hl.bx.cell rfl
    clear hl hD hdef
    go_wp2_with fail
    have hdd := HDD.out
    refine leaves_dfs (Ds := [D]) (B := w6.heap.size) ⟨by simp, fun E hE => ?_⟩ (fun W' hW' => ?_)
    · rw [List.mem_singleton] at hE; subst hE
      exact ⟨by omega, hdd.2⟩
    · have hs := HSZ.out
      refine ⟨_, results_tmp rfl _ _ _, v, rfl, ?_, ?_⟩
      · have hr := HLX.out.row
        have hr' := row_keep hr hW' (fun j e q => by rw [List.mem_singleton] at q; have := (row_base hr j e).1; omega)
        unfold rowOf at hr'
        exact own1_from (own1_row (by unfold cellsOf; rw [List.length_map]) (row_low hr' (by have := HB0.out; omega)))
      · exact ((HK.out.trans' HLX.out.kp (fun j hj e => by have e' : j = b0 + 1 := e; have := HB0.out; omega)).trans' hW' (fun j hj e => by rw [List.mem_singleton] at e; have := HB0.out; omega))
  case hstop => exact fun _ _ _ _ h _ => h.elim
end Go.Proofs.YtdlieecpckpemaaGreatDoor
