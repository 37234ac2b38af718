/- Areas' texts, ways there and back, what two areas have, an area's cells: facts on the plain functions. No function of the program here. -/
import Derived.Test.YthehdloofamadaaDoorFb
namespace Go.Proofs.YthehdloofamadaaDoor
open Go.RowKit

theorem txt_no (c r : Int) (cf rf : Bool) (h : vC c r = true) : ∀ b ∈ txt c r cf rf, b ≠ 58 := by
  obtain ⟨h1, h2, h3, h4⟩ := (vC_iff c r).1 h
  obtain ⟨_, _, l3, _⟩ := lets_fine c h1 h2
  obtain ⟨_, d2, _, _⟩ := digs_fine r h3 h4
  intro b hb
  unfold txt at hb
  rcases List.mem_append.1 hb with hb | hb
  · rcases List.mem_append.1 hb with hb | hb
    · rcases List.mem_append.1 hb with hb | hb
      · cases cf
        · simp at hb
        · simp at hb; subst hb; decide
      · exact (isU_L (List.all_eq_true.1 l3 b hb)).2.2.2.1
    · cases rf
      · simp at hb
      · simp at hb; subst hb; decide
  · exact (isD_not (List.all_eq_true.1 d2 b hb)).2.2
theorem atF_none (p : Int) (s : List UInt8) (h : ∀ b ∈ s, b ≠ 58) : atF p s = -1 := by
  induction s generalizing p with
  | nil => rfl
  | cons b s ih =>
    unfold atF
    rw [if_neg (h b (by simp)), ih (p + 1) (fun x hx => h x (by simp [hx]))]
theorem atF_first (p : Int) (s t : List UInt8) (h : ∀ b ∈ s, b ≠ 58) : atF p (s ++ 58 :: t) = p + s.length := by
  induction s generalizing p with
  | nil => simp [atF]
  | cons b s ih =>
    rw [List.cons_append]
    unfold atF
    rw [if_neg (h b (by simp)), ih (p + 1) (fun x hx => h x (by simp [hx])), List.length_cons]
    omega
/-- An area's text is read as that area. -/
theorem parse_areaText (c r d s : Int) (h : vA c r d s = true) : paE (atx c r d s) = 0 ∧ paV (atx c r d s) = areaV c r d s := by
  have hb := (vA_iff c r d s).1 h
  have v1 : vC c r = true := by rw [vC_iff]; omega
  have v2 : vC d s = true := by rw [vC_iff]; omega
  obtain ⟨p1, p2, p3, _, _⟩ := parse_text c r false false v1
  obtain ⟨q1, q2, q3, _, _⟩ := parse_text d s false false v2
  unfold atx
  rw [if_pos h]
  by_cases he : c = d ∧ r = s
  · rw [if_pos he]
    have ha := atF_none 0 _ (txt_no c r false false v1)
    refine ⟨?_, ?_⟩
    · unfold paE; rw [ha, if_pos (by decide), p1]
    · unfold paV; rw [ha, if_pos (by decide), if_pos p1, p2, p3, he.1, he.2]
  · rw [if_neg he]
    have ha := atF_first 0 _ (txt d s false false) (txt_no c r false false v1)
    have hA : ahead (txt c r false false ++ 58 :: txt d s false false) = txt c r false false := by
      unfold ahead; rw [ha, show (0 + ((txt c r false false).length : Int)).toNat = (txt c r false false).length by omega, List.take_left]
    have hB : behind (txt c r false false ++ 58 :: txt d s false false) = txt d s false false := by
      unfold behind
      rw [ha, show (0 + ((txt c r false false).length : Int)).toNat + 1 = (txt c r false false ++ [58]).length by rw [List.length_append, List.length_singleton]; omega,
        show txt c r false false ++ 58 :: txt d s false false = (txt c r false false ++ [58]) ++ txt d s false false by simp, List.drop_left]
    refine ⟨?_, ?_⟩
    · unfold paE
      rw [hA, hB, ha, if_neg (by omega), p1, q1, if_neg (by decide), if_neg (by decide), if_neg (by decide), p2, p3, q2, q3]
      unfold arE; rw [v1, v2]; rfl
    · unfold paV
      rw [hA, hB, ha, if_neg (by omega), if_pos ⟨p1, q1⟩, p2, p3, q2, q3]
      unfold arV
      rw [v1, v2, if_pos (by decide), Int.min_eq_left (by omega), Int.min_eq_left (by omega), Int.max_eq_right (by omega), Int.max_eq_right (by omega)]

theorem shN_back (n b m : Int) (f : Bool) (h0 : 1 ≤ n) (h1 : n ≤ m) (h : (shN n b m f).2 = true) : 1 ≤ (shN n b m f).1 ∧ (shN n b m f).1 ≤ m ∧ shN (shN n b m f).1 (-b) m f = (n, true) := by
  cases f
  · by_cases c : b < -n ∨ m < b
    · unfold shN at h; rw [if_neg (by decide), if_pos c] at h; cases h
    · have e : shN n b m false = (n + b, decide (1 ≤ n + b) && decide (n + b ≤ m)) := by unfold shN; rw [if_neg (by decide), if_neg c]
      rw [e] at h ⊢
      simp only [Bool.and_eq_true, decide_eq_true_eq] at h
      refine ⟨h.1, h.2, ?_⟩
      unfold shN
      rw [if_neg (by decide), if_neg (by omega)]
      rw [show n + b + -b = n by omega, decide_eq_true h0, decide_eq_true h1]
      rfl
  · exact ⟨h0, h1, rfl⟩
/-- A way there, and back. -/
theorem shift_back (c r x y : Int) (cf rf : Bool) (h : shOk c r cf rf x y = true) :
    shOk (shN c x 256 cf).1 (shN r y 4096 rf).1 cf rf (-x) (-y) = true ∧ shV (shN c x 256 cf).1 (shN r y 4096 rf).1 cf rf (-x) (-y) = refV c r cf rf := by
  have h' := h
  unfold shOk at h'
  simp only [Bool.and_eq_true] at h'
  obtain ⟨⟨hv, hx⟩, hy⟩ := h'
  obtain ⟨b1, b2, b3, b4⟩ := (vC_iff c r).1 hv
  obtain ⟨x1, x2, x3⟩ := shN_back c x 256 cf b1 b2 hx
  obtain ⟨y1, y2, y3⟩ := shN_back r y 4096 rf b3 b4 hy
  have ho : shOk (shN c x 256 cf).1 (shN r y 4096 rf).1 cf rf (-x) (-y) = true := by
    unfold shOk
    rw [x3, y3, (vC_iff _ _).2 ⟨x1, x2, y1, y2⟩]
    rfl
  refine ⟨ho, ?_⟩
  unfold shV
  rw [if_pos ho, x3, y3]

/-- What two areas have doesn't hang on which one stands first. -/
theorem meet_comm (c r d s c' r' d' s' : Int) : mtO c r d s c' r' d' s' = mtO c' r' d' s' c r d s ∧ mtV c r d s c' r' d' s' = mtV c' r' d' s' c r d s := by
  have h : mtO c r d s c' r' d' s' = mtO c' r' d' s' c r d s := by
    unfold mtO
    rw [Int.max_comm c c', Int.max_comm r r', Int.min_comm d d', Int.min_comm s s', Bool.and_comm (vA c r d s)]
  refine ⟨h, ?_⟩
  unfold mtV
  rw [h, Int.max_comm c c', Int.max_comm r r', Int.min_comm d d', Int.min_comm s s']
/-- The corners of what two areas have; zeros, if that is nothing. -/
def mt1 (c r d s c' r' d' s' : Int) : Int := if mtO c r d s c' r' d' s' then max c c' else 0
def mt2 (c r d s c' r' d' s' : Int) : Int := if mtO c r d s c' r' d' s' then max r r' else 0
def mt3 (c r d s c' r' d' s' : Int) : Int := if mtO c r d s c' r' d' s' then min d d' else 0
def mt4 (c r d s c' r' d' s' : Int) : Int := if mtO c r d s c' r' d' s' then min s s' else 0
theorem mtV_eq (c r d s c' r' d' s' : Int) : mtV c r d s c' r' d' s' = areaV (mt1 c r d s c' r' d' s') (mt2 c r d s c' r' d' s') (mt3 c r d s c' r' d' s') (mt4 c r d s c' r' d' s') := by
  unfold mtV mt1 mt2 mt3 mt4
  split <;> rfl
theorem inA_iff (c r d s x y : Int) : inA c r d s x y = true ↔ vA c r d s = true ∧ c ≤ x ∧ x ≤ d ∧ r ≤ y ∧ y ≤ s := by
  simp only [inA, Bool.and_eq_true, decide_eq_true_eq, and_assoc]
/-- A cell is in it just if it is in both. -/
theorem meet_in (c r d s c' r' d' s' x y : Int) : (mtO c r d s c' r' d' s' && inA (mt1 c r d s c' r' d' s') (mt2 c r d s c' r' d' s') (mt3 c r d s c' r' d' s') (mt4 c r d s c' r' d' s') x y) = (inA c r d s x y && inA c' r' d' s' x y) := by
  rw [Bool.eq_iff_iff]
  simp only [Bool.and_eq_true]
  by_cases h : mtO c r d s c' r' d' s' = true
  · have h' := h
    unfold mtO at h'
    simp only [Bool.and_eq_true] at h'
    unfold mt1 mt2 mt3 mt4
    simp only [if_pos h, inA_iff]
    constructor
    · rintro ⟨_, _, h1, h2, h3, h4⟩; exact ⟨⟨h'.1.1, by omega⟩, h'.1.2, by omega⟩
    · rintro ⟨⟨_, h1⟩, _, h2⟩; exact ⟨h, h'.2, by omega⟩
  · simp only [h, false_and, false_iff, inA_iff, Bool.false_eq_true]
    rintro ⟨⟨h1, h2⟩, h3, h4⟩
    apply h
    unfold mtO
    rw [h1, h3]
    have b1 := (vA_iff _ _ _ _).1 h1
    have b2 := (vA_iff _ _ _ _).1 h3
    rw [Bool.true_and, Bool.true_and, vA_iff]
    omega
/-- An area's cells rise, and are in it. -/
theorem cell_in (c r d s : Int) (h : vA c r d s = true) (k : Nat) (hk : k < (s - r + 1).toNat * (d - c + 1).toNat) :
    inA c r d s (c + (k % (d - c + 1).toNat : Nat)) (r + (k / (d - c + 1).toNat : Nat)) = true ∧ vC (c + (k % (d - c + 1).toNat : Nat)) (r + (k / (d - c + 1).toNat : Nat)) = true := by
  have b := (vA_iff _ _ _ _).1 h
  have h1 : k % (d - c + 1).toNat < (d - c + 1).toNat := Nat.mod_lt _ (by omega)
  have h2 : k / (d - c + 1).toNat < (s - r + 1).toNat := by
    rw [Nat.div_lt_iff_lt_mul (by omega)]; exact hk
  rw [inA_iff, vC_iff]
  generalize k % (d - c + 1).toNat = x at *
  generalize k / (d - c + 1).toNat = y at *
  exact ⟨⟨h, by omega⟩, by omega⟩
theorem cell_rise (c r : Int) (wd : Nat) (hw : 0 < wd) (k : Nat) : ordC (c + (k % wd : Nat)) (r + (k / wd : Nat)) (c + ((k + 1) % wd : Nat)) (r + ((k + 1) / wd : Nat)) = -1 := by
  have e1 := Nat.div_add_mod k wd
  have e2 := Nat.div_add_mod (k + 1) wd
  have m1 := Nat.mod_lt k hw
  have m2 := Nat.mod_lt (k + 1) hw
  have h : (k + 1) / wd = k / wd ∧ (k + 1) % wd = k % wd + 1 ∨ (k + 1) / wd = k / wd + 1 := by
    by_cases hc : k % wd + 1 < wd
    · left
      have : (k + 1) / wd = k / wd := by
        rw [show k + 1 = wd * (k / wd) + (k % wd + 1) by omega, Nat.mul_add_div hw, Nat.div_eq_of_lt hc, Nat.add_zero]
      refine ⟨this, ?_⟩
      rw [this] at e2
      omega
    · right
      have hc' : k % wd + 1 = wd := by omega
      rw [show k + 1 = wd * (k / wd) + (k % wd + 1) by omega, Nat.mul_add_div hw, hc', Nat.div_self hw]
  rcases h with ⟨h1, h2⟩ | h1
  · have e : cmpI (r + (k / wd : Nat)) (r + ((k + 1) / wd : Nat)) = 0 := by
      rw [h1]; unfold cmpI; rw [if_neg (Int.lt_irrefl _), if_neg (Int.lt_irrefl _)]
    unfold ordC
    rw [if_pos e, h2]
    unfold cmpI
    rw [if_pos (by omega)]
  · have e : cmpI (r + (k / wd : Nat)) (r + ((k + 1) / wd : Nat)) = -1 := by
      rw [h1]; unfold cmpI; rw [if_pos (by omega)]
    unfold ordC
    rw [e, if_neg (by decide)]
end Go.Proofs.YthehdloofamadaaDoor
