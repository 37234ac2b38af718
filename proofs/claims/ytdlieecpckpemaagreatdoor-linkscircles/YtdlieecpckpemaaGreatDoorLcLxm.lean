/- circle. -/
import Derived.Test.YtdlieecpckpemaaGreatDoorLcLxi
import Derived.WalkMore
namespace Go.Proofs.YtdlieecpckpemaaGreatDoor
open Go.RowKit Go.Shelf Go.Sort
attribute [local go_sem] Oper.semAt_some
/-- Who uses whom, by places. -/
def useW (n : Nat) (U : Nat → Nat → Bool) (p q : Nat) : Prop := q < n ∧ U q p = true
/-- What circle hands back. -/
structure CircIs (w w' : World) (L : List (Int × Int)) (n : Nat) (U : Nat → Nat → Bool) (f : Nat) (l : List Nat) (left : Nat) (R : List (Int × Int)) (v : Value) : Prop where
  far : Tj.Far (useW n U) f f (left + 1)
  chn : Tj.Chn (useW n U) f f left l
  len : R.length = left + 1
  at' : ∀ (i p : Nat), (f :: l)[i]? = some p → R[i]? = L[p]?
  out : CellsFrom w.heap.size w' v R
  kp : Kp w w' Nul
  cap : ∃ a c, v = .slice a R.length c ∧ R.length ≤ c
theorem own1_cap {B : Nat} {w : World} {v : Value} {A : List (Int × Int)} (h : Own1 encA 2 B w v A) : ∃ a c, v = .slice a A.length c ∧ A.length ≤ c := by
  rcases h with ⟨rfl, rfl⟩ | ⟨g, cap, rfl, _, _, _, h5, _⟩
  · exact ⟨none, 0, rfl, Nat.le_refl _⟩
  · exact ⟨_, _, rfl, h5⟩
def CircO (w : World) (L : List (Int × Int)) (n : Nat) (U : Nat → Nat → Bool) (f : Nat) (e : Ending) (w' : World) : Prop :=
  ∃ (l : List Nat) (left : Nat) (R : List (Int × Int)) (v : Value), e = .returned v ∧ CircIs w w' L n U f l left R v
theorem Chn_at {use : Nat → Nat → Prop} {f : Nat} : ∀ {left p : Nat} {l : List Nat}, Tj.Chn use f p left l → ∀ t, t < left → ∃ x q, (p :: l)[t]? = some x ∧ (p :: l)[t + 1]? = some q ∧ (use x q ∧ Tj.Far use f q (left - t)) ∧ ∀ q', q' < q → ¬ (use x q' ∧ Tj.Far use f q' (left - t)) := by
  intro left
  induction left with
  | zero => intro p l _ t ht; omega
  | succ left ih =>
    intro p l h t ht
    obtain ⟨q, l', rfl, h1, h2, h3⟩ := h
    cases t with
    | zero => exact ⟨p, q, rfl, rfl, h1, h2⟩
    | succ t =>
      obtain ⟨x, y, e1, e2, e3, e4⟩ := ih h3 t (by omega)
      exact ⟨x, y, by simpa using e1, by simpa using e2, by rw [show left + 1 - (t + 1) = left - t by omega]; exact e3, by rw [show left + 1 - (t + 1) = left - t by omega]; exact e4⟩
/-- How the search stands in memory. -/
structure CiI (W6 : World) (b0 n : Nat) (U : Nat → Nat → Bool) (f i : Nat) (st : Nat → Nat) (line : List Nat) (v : Value) (done : Nat → Prop) (W : World) : Prop where
  bf : Tj.Bf (useW n U) n f st line i done
  sm : Blk W (b0 + 1) (nums (fun p => (st p : Int)) n) 3
  lv : Blk W (b0 + 4) [v] 32
  row : W.ownsRow (b0 + 3) 3 1 v line.length (line.map fun p : Nat => Value.int .i64 (p : Int))
  own : ∀ j, v.ownBlock = some j → j = b0 + 3 ∨ b0 + 6 ≤ j
  kp : Kp W6 W (fun j => j = b0 + 1 ∨ (b0 + 3 ≤ j ∧ j ≤ b0 + 5))
  bd : ∀ p, st p ≤ line.length
theorem CiI.kp' {W6 W W' : World} {b0 n f i : Nat} {U : Nat → Nat → Bool} {st : Nat → Nat} {line : List Nat} {v : Value} {done : Nat → Prop} {S : Nat → Prop} (h : CiI W6 b0 n U f i st line v done W) (g : Kp W W' S) (h6 : W6.heap.size = b0 + 6)
    (hS : ∀ j, S j → j = b0 + 5 ∨ (b0 + 6 ≤ j ∧ v.ownBlock ≠ some j)) : CiI W6 b0 n U f i st line v done W' := by
  refine ⟨h.bf, h.sm.kp g (fun e => by rcases hS _ e with q | q <;> omega), h.lv.kp g (fun e => by rcases hS _ e with q | q <;> omega), row_keep h.row g (fun j e q => ?_), h.own, h.kp.trans' g (fun j hj e => by rcases hS j e with q | q <;> omega), h.bd⟩
  rcases hS j q with c | c
  · rcases h.own j e with k | k <;> omega
  · exact c.2 e
theorem CiI.slice {W6 W : World} {b0 n f i : Nat} {U : Nat → Nat → Bool} {st : Nat → Nat} {line : List Nat} {v : Value} {done : Nat → Prop} (h : CiI W6 b0 n U f i st line v done W) : ∃ g c, v = .slice (some ⟨g, 0, none⟩) line.length c ∧ line.length ≤ c := by
  rcases h.row.2 with ⟨_, q⟩ | ⟨g, cap, cur, q, _, _, hc, _⟩
  · have := h.bf.head
    rw [List.length_eq_zero_iff] at q
    rw [q] at this; cases this
  · exact ⟨g, cap, q, hc⟩
theorem CiI.at' {W6 W : World} {b0 n f i : Nat} {U : Nat → Nat → Bool} {st : Nat → Nat} {line : List Nat} {g c : Nat} {done : Nat → Prop} (h : CiI W6 b0 n U f i st line (.slice (some ⟨g, 0, none⟩) line.length c) done W) {k x : Nat} (hk : line[k]? = some x) : W.cell? ⟨g, k, none⟩ = some (.int .i64 (x : Int)) := by
  have h1 := h.row.cells (g := g) rfl k (.int .i64 (x : Int)) (by rw [List.getElem?_map, hk]; rfl)
  rw [Addr.add_lit, Nat.zero_add] at h1
  exact h1
theorem CiI.seen {W6 W : World} {b0 n f i : Nat} {U : Nat → Nat → Bool} {st : Nat → Nat} {line : List Nat} {v : Value} {done : Nat → Prop} (h : CiI W6 b0 n U f i st line v done W) {u : Nat} (hu : u ≠ f) (h0 : st u ≠ 0) : CiI W6 b0 n U f i st line v (fun p => p = u ∨ done p) W :=
  ⟨h.bf.seen hu h0, h.sm, h.lv, h.row, h.own, h.kp, h.bd⟩
theorem CiI.new {W6 X X1 w5 X2 : World} {b0 n f i c u : Nat} {U : Nat → Nat → Bool} {st : Nat → Nat} {line : List Nat} {v v5 : Value} {done : Nat → Prop} (h : CiI W6 b0 n U f i st line v done X) (hc : line[i]? = some c) (hu : u ≠ f) (hn : u < n) (h0 : st u = 0) (hus : useW n U u c) (h6 : W6.heap.size = b0 + 6)
    (b1 : Blk X1 (b0 + 1) ((nums (fun p => (st p : Int)) n).set u (.int .i64 ((st c : Int) + 1))) 3) (k1 : Kp X X1 (fun j => j = b0 + 1)) (k5 : Kp X1 w5 (fun j => v.ownBlock = some j)) (r5 : w5.ownsRow (b0 + 3) 3 1 v5 (line.length + 1) ((line.map fun p : Nat => Value.int .i64 (p : Int)) ++ [.int .i64 (u : Int)])) (o5 : v5.ownBlock = v.ownBlock ∨ ∃ B, v5.ownBlock = some B ∧ X.heap.size ≤ B)
    (b2 : Blk X2 (b0 + 4) [v5] 32) (k2 : Kp w5 X2 (fun j => j = b0 + 4)) : CiI W6 b0 n U f i (Tj.upd st u (st c + 1)) (line ++ [u]) v5 (fun p => p = u ∨ done p) X2 ∧ Kp X X2 (fun j => j = b0 + 1 ∨ j = b0 + 4 ∨ v.ownBlock = some j) := by
  have kk : Kp X X2 (fun j => j = b0 + 1 ∨ j = b0 + 4 ∨ v.ownBlock = some j) := ((k1.mono (fun _ _ e => .inl e)).trans' k5 (fun _ _ e => .inr (.inr e))).trans' k2 (fun _ _ e => .inr (.inl e))
  have k12 : Kp X1 X2 (fun j => j = b0 + 4 ∨ v.ownBlock = some j) := (k5.mono (fun _ _ e => .inr e)).trans' k2 (fun _ _ e => .inl e)
  refine ⟨⟨h.bf.new hc hu hn h0 hus, ?_, b2, ?_, fun j hj => ?_, h.kp.trans' kk (fun j hj e => ?_), fun p => ?_⟩, kk⟩
  · rw [nums_set (s := fun p => (st p : Int)) (t := fun p => ((Tj.upd st u (st c + 1) p : Nat) : Int)) (i := u) ((st c : Int) + 1) (fun _ => by unfold Tj.upd; rw [if_pos rfl]; push_cast; rfl) (fun j _ hj => by unfold Tj.upd; rw [if_neg hj])] at b1
    exact b1.kp k12 (fun e => by
      rcases e with e | e
      · omega
      · rcases h.own _ e with q | q <;> omega)
  · have := row_keep r5 k2 (fun j e q => by
      have q' : j = b0 + 4 := q
      rcases o5 with o | ⟨B, o, hB⟩
      · rw [o] at e; rcases h.own j e with q | q <;> omega
      · rw [o] at e; cases e; have := h.kp.size; omega)
    rw [List.length_append, List.map_append]
    exact this
  · rcases o5 with o | ⟨B, o, hB⟩
    · rw [o] at hj; exact h.own j hj
    · rw [o] at hj; cases hj; have := h.kp.size; exact .inr (by omega)
  · rcases e with e | e | e
    · exact .inl e
    · exact .inr ⟨by omega, by omega⟩
    · rcases h.own j e with q | q
      · exact .inr ⟨by omega, by omega⟩
      · omega
  · unfold Tj.upd
    rw [List.length_append]
    have h1 := h.bd c
    have h2 := h.bd p
    by_cases e : p = u
    · rw [if_pos e]; show st c + 1 ≤ line.length + 1; omega
    · rw [if_neg e]; omega
/-- Within a round: place c's users are gone over; mx a block of the range's own. -/
structure CiJ (W6 : World) (b0 n : Nat) (U : Nat → Nat → Bool) (f i c d mx : Nat) (Ds : List Nat) (st : Nat → Nat) (line : List Nat) (v : Value) (done : Nat → Prop) (V : World) : Prop where
  ci : CiI W6 b0 n U f i st line v done V
  hc : line[i]? = some c
  st : st c = d
  lf : Blk V (b0 + 5) [.int .i64 (d : Int)] 3
  ds : Dfs (b0 + 6) Ds V
  own : ∀ k, v.ownBlock = some k → k < mx ∨ mx + 3 ≤ k
theorem CiJ.far {W6 : World} {b0 n : Nat} {U : Nat → Nat → Bool} {f i c d mx : Nat} {Ds : List Nat} {st : Nat → Nat} {line : List Nat} {v : Value} {done : Nat → Prop} {V V' : World} {S : Nat → Prop} (h : CiJ W6 b0 n U f i c d mx Ds st line v done V) (g : Kp V V' S) (h6 : W6.heap.size = b0 + 6) (hm : b0 + 6 ≤ mx) (hD : ∀ D ∈ Ds, D < mx) (hS : ∀ j, S j → mx ≤ j ∧ j ≤ mx + 2) : CiJ W6 b0 n U f i c d mx Ds st line v done V' :=
  ⟨h.ci.kp' g h6 (fun j e => .inr ⟨by have := hS j e; omega, fun q => by have := hS j e; have := h.own j q; omega⟩), h.hc, h.st, h.lf.kp g (fun e => by have := hS _ e; omega), h.ds.kp2 g (fun j hj e => by have := hS j e; have := hD j hj; omega), h.own⟩
/-- The row that is laid out there. -/
def CiRw (L : List (Int × Int)) (f : Nat) (l : List Nat) (t : Nat) : List Value := (flatK encA 2 (((f :: l).take t).map (fun p => L.getD p (0, 0))).toArray).toList
theorem CiRw_succ {L : List (Int × Int)} {f : Nat} {l : List Nat} {t q : Nat} {z : Int × Int} (h : (f :: l)[t]? = some q) (hz : L[q]? = some z) : CiRw L f l (t + 1) = CiRw L f l t ++ encA z := by
  unfold CiRw
  have e := flat_snoc (((f :: l).take t).map (fun p => L.getD p (0, 0))) z
  rw [List.take_add_one, h, Option.toList_some, List.map_append, show List.map (fun p => L.getD p (0, 0)) [q] = [z] by rw [List.map_singleton, List.getD_eq_getElem?_getD, hz]; rfl]
  exact e
theorem CiRw_zero (L : List (Int × Int)) (f : Nat) (l : List Nat) : CiRw L f l 0 = [] := by unfold CiRw; simp [flatK]
/-- How the going back stands. -/
def CiL (X : World) (b0 d f : Nat) (L : List (Int × Int)) (l : List Nat) (sv sp : Value) (wr : World) : Prop :=
  ∃ t p : Nat, t ≤ d ∧ (f :: l)[t]? = some p ∧ sp = .int .i64 (p : Int) ∧ Blk wr (b0 + 5) [.int .i64 ((d - t : Nat) : Int)] 3 ∧
    wr.ownsRow X.heap.size 29 2 sv (t + 1) (CiRw L f l (t + 1)) ∧ Kp X wr (fun j => j = b0 + 5)
def leftB (b : Nat) (w : World) : Nat := (RowKit.intOf ((w.cell? ⟨b, 0, none⟩).getD undef)).toNat
set_option maxRecDepth 100000 in
set_option maxHeartbeats 8000000 in
theorem circle_at (L : List (Int × Int)) (wp ub mb n f : Nat) (ca : Option Addr) (cc : Nat) (U : Nat → Nat → Bool) (w : World) (h : WebM w wp ub mb (.slice ca n cc) n U) (hn : L.length = n) (hcl : 0 < n → ∃ b, ca = some ⟨b, 0, none⟩ ∧ CellsAt w b 0 L) (hT : Tab w) (hf : f < n) (hcy : Tj.Cy (webE n U) f) :
    Calls Tryz.prog 62 #[.pointer (some ⟨wp, 0, none⟩), .int .i64 (f : Int)] w (CircO w L n U f) := by
  have HH : Hid (WebM w wp ub mb (.slice ca n cc) n U) := h
  have HT : Hid (Tab w) := hT
  have HN : Hid (L.length = n ∧ f < n ∧ n ≤ 4096) := ⟨hn, hf, h.le⟩
  have HCY : Hid (Tj.Cy (webE n U) f) := hcy
  obtain ⟨cb, rfl, hcb⟩ := hcl (by omega)
  have HCL : Hid (CellsAt w cb 0 L) := hcb
  have c0 : w.cell? ⟨wp, 0, none⟩ = some (.slice (some ⟨cb, 0, none⟩) n cc) := h.bw.cell rfl
  obtain ⟨ds, hds, hmk⟩ := make_is 32 3 (.int .i64 0) 8 Tryz.underlying32 infoInt rfl n (by have := h.le; omega) (by have := h.le; omega)
  have hwl := h.bw.lt
  have hfi : (f : Int) < (n : Int) := by omega
  have hf0 : (0 : Int) ≤ (f : Int) := by omega
  clear h hT hn hcl hcb hcy hf
  refine (callsIn_wide (n := 12)).1 ?_
  refine callsIn_of_wp_marks Tryz.func62 rfl trivial ?_ rfl
  simp only [Tryz.ntmps62, List.size_toArray, List.length_cons, List.length_nil, Nat.reduceAdd, Nat.reduceSub, Array.replicate_succ, Array.replicate_zero, List.push_toArray, List.append_toArray, List.nil_append, List.cons_append]
  refine wpIn_wide.2 ?_
  go_wp2_with fail
  obtain ⟨b0, hb0⟩ : ∃ b0, w.heap.size = b0 := ⟨_, rfl⟩
  have HB0 : Hid (w.heap.size = b0) := hb0
  obtain ⟨W1, hW1⟩ : ∃ W1, w.alloc (.cells #[.int .i64 (f : Int)] 3) = W1 := ⟨_, rfl⟩
  have k1 : Kp w W1 Nul := by rw [← hW1]; exact (Kp.refl w Nul).alloc _
  have s1 : W1.heap.size = b0 + 1 := by rw [← hW1, World.size_alloc, hb0]
  have X0 : Hid (Blk W1 b0 [.int .i64 (f : Int)] 3) := by show Blk _ _ _ _; rw [← hW1]; exact Blk.at_ hb0 _ _
  rw [hW1, hb0]
  have K1 : Hid (Kp w W1 Nul) := k1
  have c1 : W1.cell? ⟨wp, 0, none⟩ = some (.slice (some ⟨cb, 0, none⟩) n cc) := (HH.out.kpn k1).bw.cell rfl
  have c2 : W1.cell? ⟨b0, 0, none⟩ = some (.int .i64 (f : Int)) := X0.out.cell rfl
  clear c0 hwl hb0 hW1 k1
  refine wp_scope_straight ?_
  go_upto_region 2 with fail
  obtain ⟨W3, hW3⟩ : ∃ W3, (W1.alloc (.cells ds 3)).alloc (.cells #[.slice (some ⟨b0 + 1, 0, none⟩) n n] 32) = W3 := ⟨_, rfl⟩
  have k3 : Kp W1 W3 Nul := by rw [← hW3]; exact ((Kp.refl W1 Nul).alloc _).alloc _
  have s3 : W3.heap.size = b0 + 3 := by rw [← hW3]; simp only [World.size_alloc]; omega
  have X1 : Hid (Blk W3 (b0 + 1) (nums (fun _ => 0) n) 3) := by
    show Blk _ _ _ _
    rw [← hW3]; exact (Blk.atA s1 ds 3 (hds.trans (zeros_nums n))).alloc _
  have X2 : Hid (Blk W3 (b0 + 2) [.slice (some ⟨b0 + 1, 0, none⟩) n n] 32) := by
    show Blk _ _ _ _
    rw [← hW3]; exact Blk.at_ (by rw [World.size_alloc, s1]) _ _
  rw [hW3, show b0 + 1 + 1 = b0 + 2 from rfl]
  have K3 : Hid (Kp W1 W3 Nul) := k3
  have c3 : W3.cell? ⟨b0, 0, none⟩ = some (.int .i64 (f : Int)) := (X0.out.kp k3 (fun x => x)).cell rfl
  clear k3 hW3 c1 c2 hmk hds s1
  go_upto_region 3 with fail
  obtain ⟨W5, hW5⟩ : ∃ W5, (W3.alloc (.cells #[.int .i64 (f : Int)] 3)).alloc (.cells #[.slice (some ⟨b0 + 3, 0, none⟩) 1 1] 32) = W5 := ⟨_, rfl⟩
  have k5 : Kp W3 W5 Nul := by rw [← hW5]; exact ((Kp.refl W3 Nul).alloc _).alloc _
  have s5 : W5.heap.size = b0 + 5 := by rw [← hW5]; simp only [World.size_alloc]; omega
  have x3 : W5.ownsRow (b0 + 3) 3 1 (.slice (some ⟨b0 + 3, 0, none⟩) 1 1) 1 [.int .i64 (f : Int)] := by
    have := World.ownsRow_lit (base := b0 + 3) (e := 3) (size := 1) W3 #[.int .i64 (f : Int)] 1 (Nat.le_of_eq s3.symm) (by unfold maxLen; omega) rfl
    rw [s3] at this
    rw [← hW5]
    exact this.alloc _
  have x4 : Blk W5 (b0 + 4) [.slice (some ⟨b0 + 3, 0, none⟩) 1 1] 32 := by rw [← hW5]; exact Blk.at_ (by rw [World.size_alloc, s3]) _ _
  rw [hW5, show b0 + 3 + 1 = b0 + 4 from rfl]
  have K5 : Hid (Kp W3 W5 Nul) := k5
  have X3 : Hid (W5.ownsRow (b0 + 3) 3 1 (.slice (some ⟨b0 + 3, 0, none⟩) 1 1) 1 [.int .i64 (f : Int)]) := x3
  have X4 : Hid (Blk W5 (b0 + 4) [.slice (some ⟨b0 + 3, 0, none⟩) 1 1] 32) := x4
  clear k5 hW5 x3 x4 s3 c3
  go_wp2_with fail
  go_step3
  go_wp2_with fail
  obtain ⟨W6, hW6⟩ : ∃ W6, W5.alloc (.cells #[.int .i64 0] 3) = W6 := ⟨_, rfl⟩
  have k6 : Kp W5 W6 Nul := by rw [← hW6]; exact (Kp.refl W5 Nul).alloc _
  have s6 : W6.heap.size = b0 + 6 := by rw [← hW6, World.size_alloc, s5]
  have x5 : Blk W6 (b0 + 5) [.int .i64 0] 3 := by rw [← hW6]; exact Blk.at_ s5 _ _
  rw [hW6]
  have hci : CiI W6 b0 n U f 0 (fun _ => 0) [f] (.slice (some ⟨b0 + 3, 0, none⟩) 1 1) (fun _ => False) W6 := by
    refine ⟨Tj.Bf.start HN.out.2.1, ?_, X4.out.kp k6 (fun x => x), row_keep X3.out k6 (fun _ _ x => x), fun j hj => .inl ?_, Kp.refl _ _, fun p => Nat.zero_le _⟩
    · exact (X1.out.kp K5.out (fun x => x)).kp k6 (fun x => x)
    · have : b0 + 3 = j := by simpa [Value.ownBlock] using hj
      exact this.symm
  have HCI : Hid (CiI W6 b0 n U f 0 (fun _ => 0) [f] (.slice (some ⟨b0 + 3, 0, none⟩) 1 1) (fun _ => False) W6) := hci
  have HX5 : Hid (Blk W6 (b0 + 5) [.int .i64 0] 3) := x5
  have HK6 : Hid (Kp w W6 Nul) := ((K1.out.trans K3.out).trans K5.out).trans k6
  have HS6 : Hid (W6.heap.size = b0 + 6) := s6
  have HFx : Hid (∀ W, Kp W6 W (fun j => j = b0 + 1 ∨ (b0 + 3 ≤ j ∧ j ≤ b0 + 5)) → (Blk W b0 [.int .i64 (f : Int)] 3 ∧ Blk W (b0 + 2) [.slice (some ⟨b0 + 1, 0, none⟩) n n] 32) ∧ WebM W wp ub mb (.slice (some ⟨cb, 0, none⟩) n cc) n U ∧ CellsAt W cb 0 L ∧ Tab W) := fun W g => by
    have hb := HB0.out
    have h0 := HH.out.bw.lt
    have ho := HH.out.ord
    have hcl : cb < b0 := by
      obtain ⟨x, hx⟩ : ∃ x, L[0]? = some x := ⟨_, List.getElem?_eq_getElem (by have := HN.out; omega)⟩
      have := cell_lt (HCL.out 0 x hx).1
      omega
    refine ⟨⟨(((X0.out.kp K3.out (fun x => x)).kp K5.out (fun x => x)).kp k6 (fun x => x)).kp g (fun e => by rcases e with e | e <;> omega), ((X2.out.kp K5.out (fun x => x)).kp k6 (fun x => x)).kp g (fun e => by rcases e with e | e <;> omega)⟩, (HH.out.kpn HK6.out).kp g (fun e => by rcases e with e | e <;> omega) (fun e => by rcases e with e | e <;> omega) (fun e => by rcases e with e | e <;> omega), (HCL.out.kp HK6.out (fun x => x)).kp g (fun e => by rcases e with e | e <;> omega), (HT.out.kp HK6.out (fun x => x)).kp g (fun e => by
      have := cell_lt (HT.out 0 (by omega))
      rcases e with e | e
      · omega
      · omega)⟩
  clear hW6 k6 s6 x5 hci X0 X1 X2 X3 X4 K1 K3 K5 s5
  refine wp_loop_g (fun nn a wr => ∃ (i : Nat) (st : Nat → Nat) (line : List Nat) (v : Value) (Ds : List Nat) (u9 u20 u21 u22 u23 u24 u25 u26 u27 u28 u29 u30 u31 u32 u33 u34 u35 u36 u37 u38 u39 u40 u41 u42 u43 u44 u45 u46 u47 u48 u49 u50 u51 u52 u53 u54 u55 u56 u57 u58 u59 u60 u61 : Value), (nn = n + 1 - i ∧ i ≤ line.length ∧ CiI W6 b0 n U f i st line v (fun _ => False) wr ∧ (∃ x : Int, Blk wr (b0 + 5) [.int .i64 x] 3) ∧ Dfs (b0 + 6) Ds wr) ∧ a = { tmps := #[Value.pointer (some ⟨wp, 0, none⟩), Value.int .i64 (f : Int), undef, Value.pointer (some ⟨b0, 0, none⟩), Value.slice none 0 0, Value.pointer (some ⟨b0 + 2, 0, none⟩), Value.pointer (some ⟨b0 + 4, 0, none⟩), Value.pointer (some ⟨b0 + 5, 0, none⟩), Value.int .i64 (i : Int), u9, undef, undef, Value.pointer (some ⟨wp, 0, none⟩), Value.pointer (some ⟨wp, 0, none⟩), Value.pointer (some ⟨wp, 0, none⟩), Value.slice (some ⟨cb, 0, none⟩) n cc, Value.int .i64 (n : Int), Value.slice (some ⟨b0 + 1, 0, none⟩) n n, Value.int .i64 (f : Int), Value.slice (some ⟨b0 + 3, 0, none⟩) 1 1, u20, u21, u22, u23, u24, u25, u26, u27, u28, u29, u30, u31, u32, u33, u34, u35, u36, u37, u38, u39, u40, u41, u42, u43, u44, u45, u46, u47, u48, u49, u50, u51, u52, u53, u54, u55, u56, u57, u58, u59, u60, u61, undef, undef, undef, undef, undef, undef, undef, undef, undef, undef, undef, undef, undef, undef, undef, undef, undef, undef, undef, undef, undef, undef, undef, undef, undef, undef, undef, undef, undef], defers := Ds.map mkD }) (n + 1) ⟨0, (fun _ => 0), [f], .slice (some ⟨b0 + 3, 0, none⟩) 1 1, [], _, _, _, _, _, _, _, _, _, _, _, _, _, _, _, _, _, _, _, _, _, _, _, _, _, _, _, _, _, _, _, _, _, _, _, _, _, _, _, _, _, _, _, ⟨by omega, Nat.zero_le _, HCI.out, ⟨0, HX5.out⟩, Dfs.nil _ _⟩, rfl⟩ ?_
  clear HCI HX5
  rintro nn a wr K ⟨i, st, line, v, Ds, u9, u20, u21, u22, u23, u24, u25, u26, u27, u28, u29, u30, u31, u32, u33, u34, u35, u36, u37, u38, u39, u40, u41, u42, u43, u44, u45, u46, u47, u48, u49, u50, u51, u52, u53, u54, u55, u56, u57, u58, u59, u60, u61, ⟨hnn, hil, hci, ⟨lx, hlf⟩, hD⟩, rfl⟩ hK
  have HNN : Hid (nn = n + 1 - i) := hnn
  have HCI : Hid (CiI W6 b0 n U f i st line v (fun _ => False) wr) := hci
  have HLF : Hid (Blk wr (b0 + 5) [.int .i64 lx] 3) := hlf
  have HDS : Hid (Dfs (b0 + 6) Ds wr) := hD
  have HKK : Hid (∀ (i' : Nat) (st' : Nat → Nat) (line' : List Nat) (v' : Value) (Ds' : List Nat) (x' : Int) (u9 u20 u21 u22 u23 u24 u25 u26 u27 u28 u29 u30 u31 u32 u33 u34 u35 u36 u37 u38 u39 u40 u41 u42 u43 u44 u45 u46 u47 u48 u49 u50 u51 u52 u53 u54 u55 u56 u57 u58 u59 u60 u61 : Value) (wq : World), n + 1 - i' < nn → i' ≤ line'.length → CiI W6 b0 n U f i' st' line' v' (fun _ => False) wq → Blk wq (b0 + 5) [.int .i64 x'] 3 → Dfs (b0 + 6) Ds' wq → K { tmps := #[Value.pointer (some ⟨wp, 0, none⟩), Value.int .i64 (f : Int), undef, Value.pointer (some ⟨b0, 0, none⟩), Value.slice none 0 0, Value.pointer (some ⟨b0 + 2, 0, none⟩), Value.pointer (some ⟨b0 + 4, 0, none⟩), Value.pointer (some ⟨b0 + 5, 0, none⟩), Value.int .i64 (i' : Int), u9, undef, undef, Value.pointer (some ⟨wp, 0, none⟩), Value.pointer (some ⟨wp, 0, none⟩), Value.pointer (some ⟨wp, 0, none⟩), Value.slice (some ⟨cb, 0, none⟩) n cc, Value.int .i64 (n : Int), Value.slice (some ⟨b0 + 1, 0, none⟩) n n, Value.int .i64 (f : Int), Value.slice (some ⟨b0 + 3, 0, none⟩) 1 1, u20, u21, u22, u23, u24, u25, u26, u27, u28, u29, u30, u31, u32, u33, u34, u35, u36, u37, u38, u39, u40, u41, u42, u43, u44, u45, u46, u47, u48, u49, u50, u51, u52, u53, u54, u55, u56, u57, u58, u59, u60, u61, undef, undef, undef, undef, undef, undef, undef, undef, undef, undef, undef, undef, undef, undef, undef, undef, undef, undef, undef, undef, undef, undef, undef, undef, undef, undef, undef, undef, undef], defers := Ds'.map mkD } wq) := fun i' st' line' v' Ds' x' u9 u20 u21 u22 u23 u24 u25 u26 u27 u28 u29 u30 u31 u32 u33 u34 u35 u36 u37 u38 u39 u40 u41 u42 u43 u44 u45 u46 u47 u48 u49 u50 u51 u52 u53 u54 u55 u56 u57 u58 u59 u60 u61 wq h1 h2 h3 h4 h5 => hK.out (n + 1 - i') _ _ h1 ⟨i', st', line', v', Ds', u9, u20, u21, u22, u23, u24, u25, u26, u27, u28, u29, u30, u31, u32, u33, u34, u35, u36, u37, u38, u39, u40, u41, u42, u43, u44, u45, u46, u47, u48, u49, u50, u51, u52, u53, u54, u55, u56, u57, u58, u59, u60, u61, ⟨rfl, h2, h3, ⟨x', h4⟩, h5⟩, rfl⟩
  have hlt : i < line.length := by
    rcases Nat.lt_or_ge i line.length with c | c
    · exact c
    · exfalso
      obtain ⟨d, hd, hp⟩ := Tj.cy_iff.1 (show Tj.Cy (fun a b => useW n U b a) f from HCY.out)
      exact hci.bf.none c d hd hp
  obtain ⟨g, vc, rfl, hlc⟩ := hci.slice
  obtain ⟨c, hc⟩ : ∃ c, line[i]? = some c := ⟨_, List.getElem?_eq_getElem hlt⟩
  have HC : Hid (line[i]? = some c) := hc
  have hcn : c < n := hci.bf.lt c (List.mem_of_getElem? hc)
  have hln : line.length ≤ n := Tj.nodup_lt hci.bf.nd hci.bf.lt
  have HLN : Hid (i < line.length ∧ line.length ≤ n ∧ c < n) := ⟨hlt, hln, hcn⟩
  obtain ⟨N, hN⟩ : ∃ N, line.length = N := ⟨_, rfl⟩
  have HNl : Hid (line.length = N) := hN
  have c1 : wr.cell? ⟨b0 + 4, 0, none⟩ = some (.slice (some ⟨g, 0, none⟩) N vc) := by rw [← hN]; exact hci.lv.cell rfl
  have hiN : (i : Int) < (N : Int) := by omega
  have hi0 : (0 : Int) ≤ (i : Int) := by omega
  have hci2 : (c : Int) < (n : Int) := by omega
  have hc0 : (0 : Int) ≤ (c : Int) := by omega
  obtain ⟨d, hd⟩ : ∃ d, st c = d := ⟨_, rfl⟩
  have HDd : Hid (st c = d) := hd
  have KS : Hid (∀ w', Kp wr w' (fun j => j = b0 + 5) → (w'.cell? ⟨b0 + 2, 0, none⟩ = some (.slice (some ⟨b0 + 1, 0, none⟩) n n) ∧ w'.cell? ⟨b0 + 4, 0, none⟩ = some (.slice (some ⟨g, 0, none⟩) N vc) ∧ w'.cell? ⟨g, i, none⟩ = some (.int .i64 (c : Int)) ∧ w'.cell? ⟨b0 + 1, c, none⟩ = some (.int .i64 (d : Int)))) := fun w' gk => by
    have h1 := HCI.out.kp' gk HS6.out (fun j e => .inl e)
    refine ⟨(HFx.out w' h1.kp).1.2.cell rfl, ?_, h1.at' HC.out, ?_⟩
    · rw [← HNl.out]; exact h1.lv.cell rfl
    · rw [← HDd.out]; exact h1.sm.cell (nums_get hcn)
  clear hnn hci hlf hD hK hlt hlc hc hcn hln hil hd hN
  have l5 : wr.cell? ⟨b0 + 5, 0, none⟩ = some (.int .i64 lx) := HLF.out.cell rfl
  have f5 : wr.frozen? ⟨b0 + 5, 0, none⟩ = false := HLF.out.froz _
  go_upto_region 6 with fail
  go_region_held3 (fun w' => w'.cell? ⟨b0 + 2, 0, none⟩ = some (.slice (some ⟨b0 + 1, 0, none⟩) n n) ∧ w'.cell? ⟨b0 + 4, 0, none⟩ = some (.slice (some ⟨g, 0, none⟩) N vc) ∧ w'.cell? ⟨g, i, none⟩ = some (.int .i64 (c : Int)) ∧ w'.cell? ⟨b0 + 1, c, none⟩ = some (.int .i64 (d : Int)))
    (first | (exact KS.out _ (Kp.refl _ _)) | (exact KS.out _ (Kp.refl _ _).drew) | (exact KS.out _ ((Kp.setCell (Kp.refl wr (fun j => j = b0 + 5)) ⟨b0 + 5, 0, none⟩ _ (.inr rfl)).drew)))
    (fail)
  obtain ⟨V1, hV1⟩ : ∃ V1, (wr.setCell ⟨b0 + 5, 0, none⟩ (.int .i64 (d : Int))).drew = V1 := ⟨_, rfl⟩
  have kV1 : Kp wr V1 (fun j => j = b0 + 5) := by rw [← hV1]; exact (Kp.setCell (Kp.refl wr (fun j => j = b0 + 5)) ⟨b0 + 5, 0, none⟩ _ (.inr rfl)).drew
  have bV1 : Blk V1 (b0 + 5) [.int .i64 (d : Int)] 3 := by rw [← hV1]; exact (HLF.out.set 0 _).drew
  rw [hV1]
  have HCI1 : Hid (CiI W6 b0 n U f i st line (.slice (some ⟨g, 0, none⟩) line.length vc) (fun _ => False) V1) := HCI.out.kp' kV1 HS6.out (fun j e => .inl e)
  have HLF1 : Hid (Blk V1 (b0 + 5) [.int .i64 (d : Int)] 3) := bV1
  have HDS1 : Hid (Dfs (b0 + 6) Ds V1) := HDS.out.kp kV1 (fun j e => by have e' : j = b0 + 5 := e; omega)
  obtain ⟨W, hW⟩ : ∃ W, (n + 63) / 64 = W := ⟨_, rfl⟩
  have HWd : Hid ((n + 63) / 64 = W) := hW
  obtain ⟨uo, huo⟩ : ∃ uo, c * W = uo := ⟨_, rfl⟩
  have HUO : Hid (c * W = uo) := huo
  obtain ⟨uc, huc⟩ : ∃ uc, (n - c) * W = uc := ⟨_, rfl⟩
  have KS2 : Hid (∀ w', Kp V1 w' Nul → (w'.cell? ⟨wp, 1, none⟩ = some (.slice (some ⟨ub, 0, none⟩) n n) ∧ w'.cell? ⟨b0 + 4, 0, none⟩ = some (.slice (some ⟨g, 0, none⟩) N vc) ∧ w'.cell? ⟨g, i, none⟩ = some (.int .i64 (c : Int)) ∧ w'.cell? ⟨ub, c, none⟩ = some (.slice (some ⟨mb, uo, none⟩) W uc))) := fun w' gk => by
    have h1 := HCI1.out.kp' (gk.of_nul (S := fun j => j = b0 + 5)) HS6.out (fun j e => .inl e)
    have h2 := (HFx.out w' h1.kp).2.1
    refine ⟨h2.bw.cell rfl, ?_, h1.at' HC.out, ?_⟩
    · rw [← HNl.out]; exact h1.lv.cell rfl
    · have := h2.bu.cell (i := c) (by rw [upL_get HLN.out.2.2, if_pos HLN.out.2.2])
      rw [hW, huo, huc] at this
      exact this
  clear hV1 kV1 bV1 KS HCI HLF HDS c1 l5 f5 hW huo
  go_upto_region 7 with fail
  go_region_held3 (fun w' => w'.cell? ⟨wp, 1, none⟩ = some (.slice (some ⟨ub, 0, none⟩) n n) ∧ w'.cell? ⟨b0 + 4, 0, none⟩ = some (.slice (some ⟨g, 0, none⟩) N vc) ∧ w'.cell? ⟨g, i, none⟩ = some (.int .i64 (c : Int)) ∧ w'.cell? ⟨ub, c, none⟩ = some (.slice (some ⟨mb, uo, none⟩) W uc))
    (first | (exact KS2.out _ (Kp.refl _ _)) | (exact KS2.out _ (Kp.refl _ _).drew) | (exact KS2.out _ ((Kp.refl _ _).drew.alloc _)))
    ((go_at_call 58; refine (all_at _ _ _ _).mono ?_; rintro e wz ⟨rfl, hz⟩; subst hz))
  obtain ⟨mx, hmx⟩ : ∃ mx, V1.heap.size = mx := ⟨_, rfl⟩
  obtain ⟨MV, hMV⟩ : ∃ MV, Value.slice (some ⟨mb, uo, none⟩) W uc = MV := ⟨_, rfl⟩
  have HMV : Hid (Value.slice (some ⟨mb, uo, none⟩) W uc = MV) := hMV
  obtain ⟨V2, hV2⟩ : ∃ V2, (V1.alloc (.cells #[.slice (some ⟨mb, uo, none⟩) W uc] 84)).drew = V2 := ⟨_, rfl⟩
  have kV2 : Kp V1 V2 Nul := by rw [← hV2]; exact ((Kp.refl V1 Nul).alloc _).drew
  have bmx : Blk V2 mx [MV] 84 := by rw [← hV2, ← hMV]; exact (Blk.at_ hmx _ _).drew
  have sV2 : V2.heap.size = mx + 1 := by rw [← hV2]; show (V1.alloc _).heap.size = _; rw [World.size_alloc, hmx]
  rw [hV2, hmx]
  have HMX : Hid (Blk V2 mx [MV] 84) := bmx
  have HSV : Hid (V2.heap.size = mx + 1 ∧ b0 + 6 ≤ mx ∧ W6.heap.size = b0 + 6 ∧ ∀ D ∈ Ds, D < mx) := ⟨sV2, by rw [← hmx]; have := HCI1.out.kp.size; have := HS6.out; omega, HS6.out, fun D hD => by rw [← hmx]; exact (Array.getElem?_eq_some_iff.1 (HDS1.out.at' D hD).2).1⟩
  have HCJ : Hid (CiJ W6 b0 n U f i c d mx Ds st line (.slice (some ⟨g, 0, none⟩) line.length vc) (fun _ => False) V2) := ⟨HCI1.out.kp' (kV2.of_nul (S := fun j => j = b0 + 5)) HS6.out (fun j e => .inl e), HC.out, HDd.out, HLF1.out.kp kV2 (fun x => x), HDS1.out.kp kV2 (fun i q => q.elim), fun k hk => .inl (by rw [← hmx]; exact (row_base HCI1.out.row k hk).2)⟩
  clear hV2 kV2 bmx sV2 hmx hMV HCI1 HLF1 HDS1 KS2 huc
  go_wp2_with fail
  generalize hact : Act.mk _ _ = a0
  refine wp_range_all (gf := 95) (lb := #[.pointer (some ⟨mx, 0, none⟩)]) (by rw [← hact]; rfl) (enters_of Tryz.func95 (by kernel_rfl) rfl) (encs := encP (U c) W) (fun _ => rfl) (AllM mx (some ⟨mb, uo, none⟩) mb uo W uc (U c)) (all1_seq (U c) mx (some ⟨mb, uo, none⟩) mb uo W uc (by have := HWd.out; have := HN.out; omega) V2)
    (fun j V => ∃ st' line' v' done, CiJ W6 b0 n U f i c d mx Ds st' line' v' done V ∧ (∀ p ∈ (pl (U c) (64 * W)).take j, done p) ∧ Blk V mx [MV] 84)
    (fun cc X => cc = .exit 0 ∧ ∃ st' line' v' done, CiJ W6 b0 n U f i c d mx Ds st' line' v' done X ∧ useW n U f c) ?hM ?hI ?hIx ?h0 ?hround ?hdone ?hstop
  case hM =>
    rintro j V ⟨st', line', v', done, hJ, _, hb⟩
    obtain ⟨_, hw, _, ht⟩ := HFx.out V hJ.ci.kp
    refine ⟨by rw [HMV.out]; exact hb.cell rfl, fun _ => ⟨rfl, fun k hk => ?_⟩, ht⟩
    have := hw.bm.cell (memL_get (rows := U) (c := c) (i := k) (W := (n + 63) / 64) (m := n) HLN.out.2.2 (by rw [HWd.out]; exact hk))
    rw [HWd.out, HUO.out] at this
    exact this
  case hI =>
    rintro j V V' ⟨st', line', v', done, hJ, hdn, hb⟩ q
    have h := HSV.out
    exact ⟨st', line', v', done, hJ.far q h.2.2.1 h.2.1 h.2.2.2 (fun k e => by rcases e with e | e <;> omega), hdn, hb.kp q (fun e => by rcases e with e | e <;> omega)⟩
  case hIx =>
    rintro cc V V' ⟨e, st', line', v', done, hJ, hu⟩ q
    have h := HSV.out
    exact ⟨e, st', line', v', done, hJ.far q h.2.2.1 h.2.1 h.2.2.2 (fun k e => by rcases e with e | e <;> omega), hu⟩
  case h0 => exact ⟨st, line, _, _, HCJ.out, fun p hp => by simp at hp, HMX.out⟩
  case hround =>
    subst hact
    rintro j V KK hj hsV ⟨st', line', v', done, hJ, hdn, hbm⟩ hcont
    obtain ⟨u, hu⟩ : ∃ u, (pl (U c) (64 * W))[j]? = some u := ⟨_, List.getElem?_eq_getElem hj⟩
    have hUu : U c u = true := (mem_pl.1 (List.mem_of_getElem? hu)).2
    have hun : u < n := HH.out.lt c u hUu
    have HUS : Hid (useW n U u c) := ⟨HLN.out.2.2, hUu⟩
    have HPT : Hid ((pl (U c) (64 * W)).take (j + 1) = (pl (U c) (64 * W)).take j ++ [u]) := by
      show _ = _
      rw [List.take_add_one, hu]; rfl
    have henc : encP (U c) W j = #[.int .i64 (u : Int)] := by unfold encP; rw [List.getD_eq_getElem?_getD, hu]; rfl
    rw [henc]
    have HJ : Hid (CiJ W6 b0 n U f i c d mx Ds st' line' v' done V) := hJ
    have HDN : Hid (∀ p ∈ (pl (U c) (64 * W)).take j, done p) := hdn
    have HBM : Hid (Blk V mx [MV] 84) := hbm
    clear hJ hdn hbm hu hUu henc hj HCJ HMX
    simp only [List.zip_toArray, List.zip_cons_cons, List.zip_nil_right, List.foldl_toArray', List.foldl_cons, List.foldl_nil]
    gi_wp2_with (fail)
    refine hcont _ _ (Kp.refl _ _) (fun X hX hloop hdef => ?_)
    have h := HSV.out
    have HJX : Hid (CiJ W6 b0 n U f i c d mx Ds st' line' v' done X) := HJ.out.far hX h.2.2.1 h.2.1 h.2.2.2 (fun k e => by have e' : k = V2.heap.size + 1 := e; omega)
    have HBX : Hid (Blk X mx [MV] 84) := HBM.out.kp hX (fun e => by have e' : mx = V2.heap.size + 1 := e; omega)
    have HXS : Hid (mx + 3 ≤ X.heap.size) := by have := hX.size; show _ ≤ _; omega
    obtain ⟨⟨hfb, hsv⟩, _⟩ := HFx.out X HJX.out.ci.kp
    have c1 : X.cell? ⟨b0, 0, none⟩ = some (.int .i64 (f : Int)) := hfb.cell rfl
    clear hcont hX hloop hdef h hfb hsV HJ HBM
    by_cases huf : u = f
    · subst huf
      have HEND : Hid (Own2 V2.heap.size X X ∧ ∃ st' line' v' done, CiJ W6 b0 n U u i c d mx Ds st' line' v' done X ∧ useW n U u c) := ⟨⟨rfl, rfl⟩, st', line', v', done, HJX.out, HUS.out⟩
      gi_wp2_with (fail)
      exact ⟨HEND.out.1, .inr ⟨_, rfl, rfl, HEND.out.2⟩⟩
    · have c2 : X.cell? ⟨b0 + 2, 0, none⟩ = some (.slice (some ⟨b0 + 1, 0, none⟩) n n) := (HFx.out X HJX.out.ci.kp).1.2.cell rfl
      have c3 : X.cell? ⟨b0 + 1, u, none⟩ = some (.int .i64 (st' u : Int)) := HJX.out.ci.sm.cell (nums_get hun)
      have hufi : ¬ (u : Int) = (f : Int) := by omega
      have hui : (u : Int) < (n : Int) := by omega
      have hu0 : (0 : Int) ≤ (u : Int) := by omega
      obtain ⟨su, hsu⟩ : ∃ su, st' u = su := ⟨_, rfl⟩
      have HSU : Hid (st' u = su) := hsu
      rw [hsu] at c3
      clear hsu
      have HDN2 : Hid (∀ p ∈ (pl (U c) (64 * W)).take (j + 1), p = u ∨ done p) := fun p hp => by
        rw [HPT.out] at hp
        rcases List.mem_append.1 hp with q | q
        · exact .inr (HDN.out p q)
        · rw [List.mem_singleton] at q; exact .inl q
      by_cases h0 : su = 0
      · subst h0
        have hz : ((0 : Nat) : Int) = 0 := rfl
        rw [hz] at c3
        have c4 : X.cell? ⟨b0 + 5, 0, none⟩ = some (.int .i64 (d : Int)) := HJX.out.lf.cell rfl
        have c5 : X.cell? ⟨b0 + 4, 0, none⟩ = some v' := HJX.out.ci.lv.cell rfl
        have hbd := HJX.out.ci.bd c
        rw [HJX.out.st] at hbd
        have hln' : line'.length ≤ n := Tj.nodup_lt HJX.out.ci.bf.nd HJX.out.ci.bf.lt
        have HB : Hid (d ≤ 4096 ∧ line'.length ≤ 4096) := by have := HN.out; exact ⟨by omega, by omega⟩
        have hwd : wrap64 ((d : Int) + 1) = (d : Int) + 1 := by unfold wrap64; have := HB.out; omega
        obtain ⟨i0, hi, hz0, hz1, hz2⟩ := infoI
        have HBs : Hid (b0 + 6 ≤ X.heap.size) := by show _ ≤ _; have := HSV.out; have := HXS.out; omega
        clear hbd hln'
        have f3 : X.frozen? ⟨b0 + 1, u, none⟩ = false := HJX.out.ci.sm.froz _
        obtain ⟨X1, hX1⟩ : ∃ X1, X.setCell ⟨b0 + 1, u, none⟩ (.int .i64 ((d : Int) + 1)) = X1 := ⟨_, rfl⟩
        have hk1 : Kp X X1 (fun j => j = b0 + 1) := by rw [← hX1]; exact (Kp.refl X (fun j => j = b0 + 1)).setCell ⟨b0 + 1, u, none⟩ _ (.inr rfl)
        have hb1 : Blk X1 (b0 + 1) ((nums (fun p => (st' p : Int)) n).set u (.int .i64 ((d : Int) + 1))) 3 := by rw [← hX1]; exact HJX.out.ci.sm.set u _
        have hr1 : X1.ownsRow (b0 + 3) 3 1 v' line'.length (line'.map fun p : Nat => Value.int .i64 (p : Int)) := row_keep HJX.out.ci.row hk1 (fun k e q => by have q' : k = b0 + 1 := q; rcases HJX.out.ci.own k e with t | t <;> omega)
        have hl1 : Blk X1 (b0 + 4) [v'] 32 := HJX.out.ci.lv.kp hk1 (fun e => by have e' : b0 + 4 = b0 + 1 := e; omega)
        have hs1 : X.heap.size ≤ X1.heap.size := hk1.size
        have HK1 : Hid (Kp X X1 (fun j => j = b0 + 1)) := hk1
        have HB1 : Hid (Blk X1 (b0 + 1) ((nums (fun p => (st' p : Int)) n).set u (.int .i64 ((d : Int) + 1))) 3) := hb1
        have HX1 : Hid (X.setCell ⟨b0 + 1, u, none⟩ (.int .i64 ((d : Int) + 1)) = X1) := hX1
        have HBN : Hid (Blk (X1.alloc (.cells #[.int .i64 (u : Int)] 3)) X.heap.size [.int .i64 (u : Int)] 3) := Blk.at_ (by rw [← hX1]; simp) _ _
        clear hX1 hk1 hb1
        gi_wp2_with (first
          | (rw [HX1.out]; refine wpListIn_append_own_at _ rfl _ _ 32 rfl (b0 + 3) 3 i0 _ 1 8 Tryz.underlying32 hi hz0 hz1 hz2 rfl (by decide) v' line'.length _ rfl (hr1.alloc _) ⟨X.heap.size, 0, none⟩ 1 1 [.int .i64 (u : Int)] rfl rfl (fun j u' hj => by rw [Addr.add_lit, Nat.zero_add]; exact HBN.out.at'.trans hj) (fun u' hu' => by simp at hu'; subst hu'; rfl) (by have := HB.out; unfold maxLen; omega) (by have := HB.out; omega) (by rw [World.size_alloc]; have := HBs.out; omega) ?_; intro v5 w5 hrow5 hg5 hnil5 hown5; have hk5 : Kp X1 w5 (fun k => v'.ownBlock = some k) := ((Kp.refl X1 _).alloc _).trans (Kp.of_grown hg5 (fun i e => e)); have hlv5 : Blk w5 (b0 + 4) [v'] 32 := hl1.kp hk5 (fun e => by rcases HJX.out.ci.own _ e with t | t <;> omega); have hone5 : v5.oneCell' = true := row_one hrow5)
          | (refine storeIn_cell rfl 32 (.tmp 6) (.tmp 61) rfl (b0 + 4) 0 rfl v5 rfl hone5 _ _ hlv5 (by simp) infoSlI1 ?_; intro X2 hb2 hk2)
          | fail)
        have hk1 := HK1.out
        have hb1 := HB1.out
        have hc' := HJX.out.hc
        have hsc := HJX.out.st
        have hbn : ∀ k, v'.ownBlock = some k → k < X.heap.size := fun k e => (row_base HJX.out.ci.row k e).2
        obtain ⟨hci2, hkk⟩ := HJX.out.ci.new hc' huf hun HSU.out HUS.out HSV.out.2.2.1 (by rw [hsc]; exact hb1) hk1 hk5 hrow5 (by
          rcases hown5 with e | e
          · exact .inl e
          · exact .inr ⟨_, e, by rw [World.size_alloc]; have := hk1.size; omega⟩) hb2 hk2
        have h := HSV.out
        have hx := HXS.out
        refine ⟨Own2.of_kp hkk (by omega) (fun e => ?_) (fun e => ?_), .inl ⟨_, _, v5, _, ⟨hci2, ?_, ?_, HJX.out.lf.kp hkk (fun e => ?_), HJX.out.ds.kp2 hkk (fun k hk e => ?_), fun k hk => ?_⟩, HDN2.out, HBX.out.kp hkk (fun e => ?_)⟩⟩
        · rcases e with e | e | e
          · omega
          · omega
          · have := HJX.out.own _ e; omega
        · rcases e with e | e | e
          · omega
          · omega
          · have := HJX.out.own _ e; omega
        · rw [List.getElem?_append_left (List.getElem?_eq_some_iff.1 hc').1]; exact hc'
        · unfold Tj.upd
          rw [if_neg (fun e => by
            subst e
            have h1 := HJX.out.ci.bf.mem c huf
            exact (h1.1 (List.mem_of_getElem? hc')) HSU.out)]
          exact hsc
        · rcases e with e | e | e
          · omega
          · omega
          · rcases HJX.out.ci.own _ e with t | t <;> omega
        · rcases e with e | e | e
          · have := (HJX.out.ds.at' k hk).1; omega
          · have := (HJX.out.ds.at' k hk).1; omega
          · exact HJX.out.ds.row HJX.out.ci.row k e hk
        · rcases hown5 with e | e
          · rw [e] at hk; exact HJX.out.own k hk
          · rw [e, World.size_alloc] at hk
            have := hk1.size
            cases hk; exact .inr (by omega)
        · rcases e with e | e | e
          · omega
          · omega
          · have := HJX.out.own _ e; omega
      · have h1 : ((su : Int) == 0) = false := by simp; omega
        have HEND : Hid (CiJ W6 b0 n U f i c d mx Ds st' line' v' (fun p => p = u ∨ done p) X) := ⟨HJX.out.ci.seen huf (by rw [HSU.out]; exact h0), HJX.out.hc, HJX.out.st, HJX.out.lf, HJX.out.ds, HJX.out.own⟩
        gi_wp2_with (fail)
        exact ⟨⟨rfl, rfl⟩, .inl ⟨st', line', v', _, HEND.out, HDN2.out, HBX.out⟩⟩
  case hdone =>
    subst hact
    rintro D X hD ⟨st', line', v', done, hJ, hdn, _⟩ hdef
    have h := HSV.out
    have hn64 : n ≤ 64 * W := by have := HWd.out; omega
    have hall : ∀ q, useW n U q c → done q := fun q hq => hdn q (by
      rw [List.take_length]
      exact mem_pl.2 ⟨by have := HH.out.lt c q hq.2; omega, hq.2⟩)
    have hcN : CiI W6 b0 n U f (i + 1) st' line' v' (fun _ => False) X := ⟨hJ.ci.bf.next hJ.hc hall, hJ.ci.sm, hJ.ci.lv, hJ.ci.row, hJ.ci.own, hJ.ci.kp, hJ.ci.bd⟩
    have HN1 : Hid (CiI W6 b0 n U f (i + 1) st' line' v' (fun _ => False) X) := hcN
    have HD1 : Hid (Dfs (b0 + 6) (D :: Ds) X) := hJ.ds.cons (by omega) hdef (fun e => by have := h.2.2.2 D e; omega)
    have HL1 : Hid (Blk X (b0 + 5) [.int .i64 (d : Int)] 3) := hJ.lf
    have HI1 : Hid (i + 1 ≤ line'.length ∧ line'.length ≤ n) := ⟨(List.getElem?_eq_some_iff.1 hJ.hc).1, Tj.nodup_lt hJ.ci.bf.nd hJ.ci.bf.lt⟩
    have hwi : wrap64 ((i : Int) + 1) = (i : Int) + 1 := by unfold wrap64; have := HN.out; have := HI1.out; omega
    clear h hn64 hall hcN hJ hdn hD hdef
    go_wp2_with fail
    rw [hwi]
    exact HKK.out (i + 1) st' line' v' (D :: Ds) d _ _ _ _ _ _ _ _ _ _ _ _ _ _ _ _ _ _ _ _ _ _ _ _ _ _ _ _ _ _ _ _ _ _ _ _ _ _ _ _ _ _ _ X (by have := HNN.out; have := HI1.out; omega) HI1.out.1 HN1.out HL1.out HD1.out
  case hstop =>
    subst hact
    rintro D cq X hD ⟨rfl, st', line', v', done, hJ, hus⟩ hdef
    have h := HSV.out
    obtain ⟨hff, hst⟩ := hJ.ci.bf.found hJ.hc hus
    rw [hJ.st] at hff hst
    obtain ⟨l, hl, hlN⟩ := Tj.Chn.of (N := n) (fun p q h => h.1) hff
    have HFF : Hid (Tj.Far (useW n U) f f (d + 1)) := hff
    have HST : Hid (∀ p e, 1 ≤ e → e ≤ d → (st' p = e ↔ Tj.Far (useW n U) f p e)) := hst
    have HCH : Hid (Tj.Chn (useW n U) f f d l ∧ ∀ q ∈ f :: l, q < n) := ⟨hl, fun q hq => by
      rcases List.mem_cons.1 hq with e | e
      · rw [e]; exact HN.out.2.1
      · exact hlN q e⟩
    have HD1 : Hid (Dfs (b0 + 6) (D :: Ds) X) := hJ.ds.cons (by omega) hdef (fun e => by have := h.2.2.2 D e; omega)
    have HL1 : Hid (Blk X (b0 + 5) [.int .i64 (d : Int)] 3) := hJ.lf
    have HC1 : Hid (Kp W6 X (fun j => j = b0 + 1 ∨ (b0 + 3 ≤ j ∧ j ≤ b0 + 5))) := hJ.ci.kp
    have HM1 : Hid (Blk X (b0 + 1) (nums (fun p => (st' p : Int)) n) 3) := hJ.ci.sm
    have HDn : Hid (d ≤ 4096) := by
      have h1 := hJ.ci.bd c
      rw [hJ.st] at h1
      have h2 : line'.length ≤ n := Tj.nodup_lt hJ.ci.bf.nd hJ.ci.bf.lt
      have := HN.out
      show _ ≤ _
      omega
    have HXs : Hid (b0 + 6 ≤ X.heap.size) := by show _ ≤ _; have := HC1.out.size; have := HS6.out; omega
    have HCB : Hid (cb < b0 ∧ wp < b0) := by
      have h0 := HH.out.bw.lt
      have hb := HB0.out
      obtain ⟨x, hx⟩ : ∃ x, L[0]? = some x := ⟨_, List.getElem?_eq_getElem (by have := HN.out; omega)⟩
      have := cell_lt (HCL.out 0 x hx).1
      exact ⟨by omega, by omega⟩
    clear h hff hst hl hlN hJ hus hD hdef HMX HCJ HSV HKK HNN
    obtain ⟨⟨x1, x2⟩, hx⟩ : ∃ x, L[f]? = some x := ⟨_, List.getElem?_eq_getElem (by have := HN.out; omega)⟩
    have HXF : Hid (L[f]? = some (x1, x2)) := hx
    have KS3 : Hid (∀ w', Kp X w' Nul → (w'.cell? ⟨wp, 0, none⟩ = some (.slice (some ⟨cb, 0, none⟩) n cc) ∧ w'.cell? ⟨b0, 0, none⟩ = some (.int .i64 (f : Int)) ∧ w'.cell? ⟨cb, f * 2, none⟩ = some (.int .i64 x1) ∧ w'.cell? ⟨cb, f * 2 + 1, none⟩ = some (.int .i64 x2))) := fun w' gk => by
      have h1 := HFx.out w' (HC1.out.trans (gk.of_nul (S := fun j => j = b0 + 1 ∨ (b0 + 3 ≤ j ∧ j ≤ b0 + 5))))
      have h2 := h1.2.2.1 f _ HXF.out
      rw [Nat.zero_add] at h2
      exact ⟨h1.2.1.bw.cell rfl, h1.1.1.cell rfl, h2.1, h2.2⟩
    clear hx
    go_upto_region 14 with fail
    go_region_held3 (fun w' => w'.cell? ⟨wp, 0, none⟩ = some (.slice (some ⟨cb, 0, none⟩) n cc) ∧ w'.cell? ⟨b0, 0, none⟩ = some (.int .i64 (f : Int)) ∧ w'.cell? ⟨cb, f * 2, none⟩ = some (.int .i64 x1) ∧ w'.cell? ⟨cb, f * 2 + 1, none⟩ = some (.int .i64 x2))
      (first | (exact KS3.out _ (Kp.refl _ _)) | (exact KS3.out _ (Kp.refl _ _).drew) | (exact KS3.out _ ((Kp.refl _ _).drew.alloc _)))
      (fail)
    obtain ⟨X1, hX1⟩ : ∃ X1, (X.alloc (.cells #[.int .i64 x1, .int .i64 x2] 29)).drew = X1 := ⟨_, rfl⟩
    have kX1 : Kp X X1 Nul := by rw [← hX1]; exact ((Kp.refl X Nul).alloc _).drew
    have rX1 : X1.ownsRow X.heap.size 29 2 (.slice (some ⟨X.heap.size, 0, none⟩) 1 1) 1 (CiRw L f l (0 + 1)) := by
      have h0 := World.ownsRow_lit (base := X.heap.size) (e := 29) (size := 2) X #[.int .i64 x1, .int .i64 x2] 1 (Nat.le_refl _) (by unfold maxLen; omega) rfl
      rw [← hX1]
      have e : CiRw L f l (0 + 1) = [.int .i64 x1, .int .i64 x2] := by
        rw [CiRw_succ (q := f) (z := (x1, x2)) rfl HXF.out, CiRw_zero]; rfl
      rw [e]
      exact row_keep h0 (Kp.refl _ Nul).drew (fun _ _ q => q)
    rw [hX1]
    have HX1 : Hid (Kp X X1 Nul) := kX1
    have HR1 : Hid (X1.ownsRow X.heap.size 29 2 (.slice (some ⟨X.heap.size, 0, none⟩) 1 1) 1 (CiRw L f l (0 + 1))) := rX1
    have c1 : X1.cell? ⟨b0, 0, none⟩ = some (.int .i64 (f : Int)) := (KS3.out X1 kX1).2.1
    clear hX1 kX1 rX1 KS3 HXF
    obtain ⟨i0, hi, hz0, hz1, hz2⟩ := infoAddr
    go_wp2_with fail
    go_loopw [10, 11] (fun sv sp wr => CiL X b0 d f L l sv sp wr) (fun _ _ wr => leftB (b0 + 5) wr)
    case atStart => exact ⟨0, f, Nat.zero_le _, rfl, rfl, HL1.out.kp HX1.out (fun x => x), HR1.out, HX1.out.of_nul⟩
    case round =>
      obtain ⟨t, p, ht, hp, rfl, hb, hr, hk⟩ := hrel
      have HTP : Hid (t ≤ d ∧ (f :: l)[t]? = some p) := ⟨ht, hp⟩
      have HRW : Hid (wr.ownsRow X.heap.size 29 2 _ (t + 1) (CiRw L f l (t + 1))) := hr
      have HKW : Hid (Kp X wr (fun j => j = b0 + 5)) := hk
      obtain ⟨e, he⟩ : ∃ e, d - t = e := ⟨_, rfl⟩
      rw [he] at hb
      have HE : Hid (d - t = e) := he
      have HB5 : Hid (Blk wr (b0 + 5) [.int .i64 (e : Int)] 3) := hb
      have c4 : wr.cell? ⟨b0 + 5, 0, none⟩ = some (.int .i64 (e : Int)) := hb.cell rfl
      have HF1 := HFx.out wr (HC1.out.trans (hk.mono (fun j _ q => by have q' : j = b0 + 5 := q; exact .inr ⟨by omega, by omega⟩)))
      have HWB : Hid (WebM wr wp ub mb (.slice (some ⟨cb, 0, none⟩) n cc) n U) := HF1.2.1
      have HCW : Hid (CellsAt wr cb 0 L) := HF1.2.2.1
      have HSM : Hid (Blk wr (b0 + 1) (nums (fun p => (st' p : Int)) n) 3) := HM1.out.kp hk (fun q => by have q' : b0 + 1 = b0 + 5 := q; omega)
      have c5 : wr.cell? ⟨b0 + 2, 0, none⟩ = some (.slice (some ⟨b0 + 1, 0, none⟩) n n) := HF1.1.2.cell rfl
      clear hb hr hk he HF1 hp ht
      by_cases h0 : e = 0
      · subst h0
        have hz : ((0 : Nat) : Int) = 0 := rfl
        rw [hz] at c4
        go_wp2_with fail
        refine leaves_dfs (HD1.out.kp2 HKW.out (fun D hD e => by have e' : D = b0 + 5 := e; have := (HD1.out.at' D hD).1; omega)) (fun W' hW' => ?_)
        refine ⟨_, results_tmp rfl _ _ _, l, d, (f :: l).map (fun p => L.getD p (0, 0)), _, rfl, HFF.out, HCH.out.1, ?_, ?_, ?_, ?_, ?_⟩
        · rw [List.length_map, List.length_cons, HCH.out.1.len]
        · intro i' p' hp'
          rw [List.getElem?_map, hp']
          have hpn := HCH.out.2 p' (List.mem_of_getElem? hp')
          rw [Option.map_some, List.getD_eq_getElem?_getD, List.getElem?_eq_getElem (by have := HN.out; omega)]
          rfl
        · have htd : t = d := by have := HE.out; have := HTP.out.1; omega
          have hlen : (f :: l).length = d + 1 := by rw [List.length_cons, HCH.out.1.len]
          have hr := HRW.out
          unfold CiRw at hr
          rw [htd, ← hlen, List.take_length] at hr
          have hdf : Dfs (b0 + 6) (D :: Ds) wr := HD1.out.kp2 HKW.out (fun D hD e => by have e' : D = b0 + 5 := e; have := (HD1.out.at' D hD).1; omega)
          exact own1_from (own1_row (by rw [List.length_map]) (row_low (row_keep hr hW' (fun j e q => hdf.row hr j e q)) (by have := HXs.out; have := HB0.out; omega)))
        · refine (((HK6.out.trans' HC1.out (fun j hj e => ?_)).trans' HKW.out (fun j hj e => ?_)).trans' hW' (fun j hj e => ?_))
          · have := HB0.out; rcases e with e | e <;> omega
          · have e' : j = b0 + 5 := e; have := HB0.out; omega
          · have := (HD1.out.at' j e).1; have := HB0.out; omega
        · have htd : t = d := by have := HE.out; have := HTP.out.1; omega
          have hlen : (f :: l).length = d + 1 := by rw [List.length_cons, HCH.out.1.len]
          have hr := HRW.out
          unfold CiRw at hr
          rw [htd, ← hlen, List.take_length] at hr
          exact own1_cap (own1_row (by rw [List.length_map]) hr)
      · have h1 : (0 : Int) < (e : Int) := by omega
        obtain ⟨y, q, e1, e2, ⟨e3, e4⟩, e5⟩ := Chn_at HCH.out.1 t (by have := HE.out; omega)
        have ey : y = p := by have := HTP.out.2; rw [this] at e1; exact (Option.some.inj e1).symm
        subst ey
        rw [HE.out] at e4 e5
        have HQ : Hid ((f :: l)[t + 1]? = some q ∧ q < n) := ⟨e2, e3.1⟩
        have hle : 1 ≤ e ∧ e ≤ d := by have := HE.out; omega
        have HUS : Hid (Calls Tryz.prog 99 #[.pointer (some ⟨wp, 0, none⟩), .int .i64 (y : Int), .slice (some ⟨b0 + 1, 0, none⟩) n n, .int .i64 (e : Int)] wr fun er w' => er = .returned (.int .i64 (q : Int)) ∧ w' = wr) :=
          used_at wp ub mb n (b0 + 1) y e q (.slice (some ⟨cb, 0, none⟩) n cc) U st' wr HWB.out HSM.out (HCH.out.2 y (List.mem_of_getElem? HTP.out.2)) e3.1 ⟨(HST.out q e hle.1 hle.2).2 e4, e3.2⟩ (fun q' hq' hh => e5 q' hq' ⟨⟨Nat.lt_trans hq' e3.1, hh.2⟩, (HST.out q' e hle.1 hle.2).1 hh.1⟩)
        obtain ⟨⟨z1, z2⟩, hz⟩ : ∃ x, L[q]? = some x := ⟨_, List.getElem?_eq_getElem (by have := HN.out; have := e3.1; omega)⟩
        have HZ : Hid (L[q]? = some (z1, z2)) := hz
        have hqn : (q : Int) < (n : Int) := by have := e3.1; omega
        have hq0 : (0 : Int) ≤ (q : Int) := by omega
        obtain ⟨hz1', hz2'⟩ := HCW.out q _ hz
        rw [Nat.zero_add] at hz1' hz2'
        have c6 : wr.cell? ⟨wp, 0, none⟩ = some (.slice (some ⟨cb, 0, none⟩) n cc) := HWB.out.bw.cell rfl
        have hwe : wrap64 ((e : Int) - 1) = (e : Int) - 1 := by unfold wrap64; have := HDn.out; omega
        clear e1 e2 e3 e4 e5 hz hle
        go_wp2_with (first
          | (go_at_call 99; refine HUS.out.mono ?_; rintro er wz ⟨rfl, hzz⟩; replace hzz := hzz.symm; subst hzz)
          | (at_builtin; refine wpList_append_own _ rfl (.tmp 80) (.tmp 88) 30 rfl X.heap.size 29 i0 _ 2 16 Tryz.underlying30 hi hz0 hz1 hz2 rfl (by decide) _ _ _ rfl (HRW.out.alloc _) ⟨wr.heap.size, 0, none⟩ 1 1 (encA (z1, z2)) rfl rfl ?c1 ?c2 ?c3 ?c4 ?c5 ?_))
        case c1 => exact fun j u hj => by rw [Addr.add_lit, Nat.zero_add]; exact (Blk.new wr [.int .i64 z1, .int .i64 z2] 29).at'.trans hj
        case c2 => exact encA_one _
        case c3 => have := HTP.out; have := HDn.out; unfold maxLen; omega
        case c4 => have := HTP.out; have := HDn.out; omega
        case c5 => rw [World.size_alloc]; have := HKW.out.size; omega
        intro v5 w5 hrow5 hg5 hnil5
        have hb5 : Blk w5 (b0 + 5) [.int .i64 (e : Int)] 3 := row_step HRW.out hg5 HB5.out (by have := HXs.out; omega)
        have hk5 : Kp X w5 (fun j => j = b0 + 5) := HKW.out.trans' (((Kp.refl wr _).alloc _).trans (Kp.of_grown hg5 (fun i e => e))) (fun j hj e => by have := (row_base HRW.out j e).1; omega)
        have HK5 : Hid (Kp X w5 (fun j => j = b0 + 5)) := hk5
        have HBB : Hid (Blk w5 (b0 + 5) [.int .i64 (e : Int)] 3) := hb5
        have HRR : Hid (w5.ownsRow X.heap.size 29 2 v5 (t + 1 + 1) (CiRw L f l (t + 1 + 1))) := by
          show World.ownsRow _ _ _ _ _ _ _
          rw [CiRw_succ HQ.out.1 HZ.out]; exact hrow5
        have c7 : w5.cell? ⟨b0 + 5, 0, none⟩ = some (.int .i64 (e : Int)) := hb5.cell rfl
        have f7 : w5.frozen? ⟨b0 + 5, 0, none⟩ = false := hb5.froz _
        clear hrow5 hg5 hnil5 hb5 hk5
        go_wp2_with fail
        have hee : d - (t + 1) = e - 1 := by have := HE.out; omega
        have hei : ((e - 1 : Nat) : Int) = (e : Int) - 1 := by omega
        have hbn : Blk (w5.setCell ⟨b0 + 5, 0, none⟩ (.int .i64 ((e : Int) - 1))) (b0 + 5) [.int .i64 ((e - 1 : Nat) : Int)] 3 := by rw [hei]; exact HBB.out.set 0 _
        have hkn : Kp w5 (w5.setCell ⟨b0 + 5, 0, none⟩ (.int .i64 ((e : Int) - 1))) (fun j => j = b0 + 5) := (Kp.refl w5 (fun j => j = b0 + 5)).setCell ⟨b0 + 5, 0, none⟩ _ (.inr rfl)
        have hrn := row_keep HRR.out hkn (fun j e q => by have q' : j = b0 + 5 := q; have := (row_base HRR.out j e).1; have := HXs.out; omega)
        have HNEW : Hid (CiL X b0 d f L l v5 (.int .i64 (q : Int)) (w5.setCell ⟨b0 + 5, 0, none⟩ (.int .i64 ((e : Int) - 1)))) := ⟨t + 1, q, by have := HE.out; have := HTP.out.1; omega, HQ.out.1, rfl, by rw [hee]; exact hbn, hrn, HK5.out.trans hkn⟩
        have HME : Hid (leftB (b0 + 5) (w5.setCell ⟨b0 + 5, 0, none⟩ (.int .i64 ((e : Int) - 1))) < leftB (b0 + 5) wr) := by
          show _ < _
          unfold leftB
          rw [hbn.cell (i := 0) rfl, c4]
          simp only [Option.getD_some, RowKit.intOf]
          omega
        clear hee hei hbn hkn hrn
        exact ⟨HNEW.out, HME.out⟩
end Go.Proofs.YtdlieecpckpemaaGreatDoor
