/- Move: lines' places by a table, as the document has them. No function of the program here. Move: the document's Places, span, many, lost (quadrilleref22). -/
import Derived.Test.YtbkcebbddhaifaaGreatDoorC32
import Derived.Deep.OwnRows
namespace Go.Proofs.YtbkcebbddhaifaaGreatDoor
open Go.RowKit

/-- Where line k is brought; 0: nowhere. -/
def pl (at' n most k : Int) : Int := if n < 0 ∧ at' ≤ k ∧ k < at' - n then 0 else if (if k < at' then k else k + n) ≤ most then (if k < at' then k else k + n) else 0
/-- The next place, ahead of line k. -/
def nx (at' n k : Int) : Int := if k ≤ at' then k else if n < 0 then (if k < at' - n then at' else k + n) else k + n
/-- The table behind the lines ahead of k. -/
def plL (at' n most : Int) (m k : Nat) : List Int := (List.range (m + 1)).map fun i => if 1 ≤ i ∧ i < k then pl at' n most i else 0
theorem plL_len (at' n most : Int) (m k : Nat) : (plL at' n most m k).length = m + 1 := by simp [plL]
theorem plL_get {at' n most : Int} {m k i : Nat} (h : i ≤ m) : (plL at' n most m k)[i]? = some (if 1 ≤ i ∧ i < k then pl at' n most i else 0) := by
  unfold plL
  rw [List.getElem?_map, List.getElem?_range (by omega)]
  rfl
theorem plL_one (at' n most : Int) (m : Nat) : plL at' n most m 1 = List.replicate (m + 1) 0 := by
  apply List.ext_getElem?
  intro i
  by_cases h : i ≤ m
  · rw [plL_get h, List.getElem?_replicate, if_neg (by omega : ¬ (1 ≤ i ∧ i < 1)), if_pos (by omega : i < m + 1)]
  · rw [List.getElem?_eq_none (by rw [plL_len]; omega), List.getElem?_eq_none (by simp; omega)]
theorem plL_set {at' n most : Int} {m k : Nat} (h1 : 1 ≤ k) (h2 : k ≤ m) : (plL at' n most m k).set k (pl at' n most k) = plL at' n most m (k + 1) := by
  apply List.ext_getElem?
  intro i
  by_cases h : i ≤ m
  · rw [plL_get h, List.getElem?_set]
    by_cases e : k = i
    · subst e
      rw [if_pos rfl, if_pos (by rw [plL_len]; omega), if_pos (by omega)]
    · rw [if_neg e, plL_get h]
      by_cases q : 1 ≤ i ∧ i < k
      · rw [if_pos q, if_pos (by omega)]
      · rw [if_neg q, if_neg (by omega)]
  · rw [List.getElem?_eq_none (by rw [List.length_set, plL_len]; omega), List.getElem?_eq_none (by rw [plL_len]; omega)]
theorem plL_skip {at' n most : Int} {m k : Nat} (h : pl at' n most k = 0) : plL at' n most m k = plL at' n most m (k + 1) := by
  unfold plL
  apply List.map_congr_left
  intro i _
  by_cases e : i = k
  · subst e
    rw [if_neg (by omega), h]
    split <;> rfl
  · by_cases q : 1 ≤ i ∧ i < k
    · rw [if_pos q, if_pos (by omega)]
    · rw [if_neg q, if_neg (by omega)]
theorem nx_one {at' n : Int} (h : 1 ≤ at') : nx at' n 1 = 1 := by unfold nx; rw [if_pos h]
theorem nx_in {at' n k : Int} (h : k = at') (hn : 0 < n) : nx at' n k = k ∧ nx at' n k + n + 1 = nx at' n (k + 1) := by unfold nx; repeat' split <;> omega
theorem nx_gone {at' n k : Int} (hn : n < 0) (h1 : at' ≤ k) (h2 : k < at' - n) : nx at' n (k + 1) = nx at' n k ∧ ∀ most, pl at' n most k = 0 := by
  constructor
  · unfold nx; repeat' split <;> omega
  · intro most; unfold pl; rw [if_pos ⟨hn, h1, h2⟩]
theorem nx_stay {at' n k : Int} (h : ¬ (k = at' ∧ 0 < n)) (hg : ¬ (n < 0 ∧ at' ≤ k ∧ k < at' - n)) : nx at' n (k + 1) = nx at' n k + 1 ∧ ∀ most, pl at' n most k = if nx at' n k ≤ most then nx at' n k else 0 := by
  have e : nx at' n k = if k < at' then k else k + n := by unfold nx; repeat' split <;> omega
  constructor
  · unfold nx; repeat' split <;> omega
  · intro most; unfold pl; rw [if_neg hg, e]
theorem pl_in {at' n k : Int} (h : k = at') (hn : 0 < n) (most : Int) : pl at' n most k = if nx at' n k + n ≤ most then nx at' n k + n else 0 := by
  rw [(nx_in h hn).1]
  unfold pl
  rw [if_neg (by omega)]
  simp only [if_neg (show ¬ k < at' by omega)]
theorem nx_bd {at' n most k : Int} (h : LnOk at' n most) (h1 : 1 ≤ k) (h2 : k ≤ most + 1) : 1 ≤ nx at' n k ∧ nx at' n k ≤ 2 * most + 1 := by
  obtain ⟨a, b, c, d⟩ := h
  unfold nx
  repeat' split <;> omega
theorem pl_bd {at' n most k : Int} (h : LnOk at' n most) (h1 : 1 ≤ k) (h2 : k ≤ most) : 0 ≤ pl at' n most k ∧ pl at' n most k ≤ most := by
  obtain ⟨a, b, c, d⟩ := h
  unfold pl
  repeat' split <;> omega
/-- What a row of lines comes to, behind those ahead of k. -/
def spA (at' n most a k : Int) : Int × Int := (thr at' n most a (k - 1)).getD (0, 0)
theorem thr_void {at' n most a b : Int} (h : b < a) : thr at' n most a b = none := by
  unfold thr
  rw [if_neg (by omega), if_neg (by omega)]
theorem spA_first {at' n most a : Int} : spA at' n most a a = (0, 0) := by unfold spA; rw [thr_void (by omega)]; rfl
theorem thr_zero {at' n most a k : Int} (h : LnOk at' n most) (h1 : 1 ≤ a) (h2 : a ≤ k) (h3 : k ≤ most) (hp : pl at' n most k = 0) : thr at' n most a k = thr at' n most a (k - 1) := by
  obtain ⟨q1, q2, q3, q4⟩ := h
  unfold pl at hp
  unfold thr
  by_cases hn : n < 0
  · simp only [if_pos hn]
    by_cases hk : k < at'
    · rw [if_neg (by omega)] at hp; simp only [if_pos hk] at hp; split at hp <;> omega
    · by_cases hg : k < at' - n
      · have e1 : (max a 1 ≤ min k (at' - 1)) = (max a 1 ≤ min (k - 1) (at' - 1)) := by apply propext; omega
        have e2 : ¬ max a (at' - n) ≤ min k most := by omega
        have e3 : ¬ max a (at' - n) ≤ min (k - 1) most := by omega
        rw [if_neg e2, if_neg e2, if_neg e3, if_neg e3]
        by_cases c : max a 1 ≤ min k (at' - 1)
        · rw [if_pos c, if_pos (e1 ▸ c)]; congr 2; omega
        · rw [if_neg c, if_neg (e1 ▸ c)]
      · rw [if_neg (by omega)] at hp; simp only [if_neg hk] at hp; split at hp <;> omega
  · simp only [if_neg hn]
    rw [if_neg (by omega)] at hp
    by_cases hk : k < at'
    · simp only [if_pos hk] at hp; split at hp <;> omega
    · simp only [if_neg hk] at hp
      have hg : most < k + n := by split at hp <;> omega
      by_cases c1 : max a 1 ≤ min k (at' - 1)
      · by_cases c2 : max a at' ≤ min k (most - n)
        · rw [if_pos c1, if_pos c2, if_pos (by omega)]
          split
          · congr 2; omega
          · omega
        · rw [if_pos c1, if_neg c2, if_pos (by omega)]
          split
          · omega
          · congr 2; omega
      · by_cases c2 : max a at' ≤ min k (most - n)
        · rw [if_neg c1, if_pos c2, if_neg (by omega)]
          split
          · congr 2; omega
          · omega
        · rw [if_neg c1, if_neg c2, if_neg (by omega), if_neg (by omega)]
theorem some_pair {a b c d : Int} (h1 : a = c) (h2 : b = d) : some (a, b) = some (c, d) := by rw [h1, h2]
theorem thr_more {at' n most a k : Int} (h : LnOk at' n most) (h1 : 1 ≤ a) (h2 : a ≤ k) (h3 : k ≤ most) (hp : 0 < pl at' n most k) : thr at' n most a k = some (if (spA at' n most a k).1 = 0 then pl at' n most k else (spA at' n most a k).1, pl at' n most k) := by
  obtain ⟨q1, q2, q3, q4⟩ := h
  have hg : ¬ (n < 0 ∧ at' ≤ k ∧ k < at' - n) := by
    intro q; unfold pl at hp; rw [if_pos q] at hp; omega
  obtain ⟨P, hP⟩ : ∃ P, pl at' n most k = P := ⟨_, rfl⟩
  have e : P = (if k < at' then k else k + n) ∧ P ≤ most := by
    unfold pl at hP hp
    rw [if_neg hg] at hP hp
    split at hP
    · omega
    · rename_i q; rw [if_neg q] at hp; omega
  rw [hP] at hp ⊢
  clear hP
  obtain ⟨e, e2⟩ := e
  unfold spA thr
  by_cases hk : k < at'
  · rw [if_pos hk] at e
    subst e
    by_cases ha : a = P
    · subst ha
      by_cases hn : n < 0
      · simp only [if_pos hn]
        simp only [if_pos (show max a 1 ≤ min a (at' - 1) by omega), if_neg (show ¬ max a (at' - n) ≤ min a most by omega), if_neg (show ¬ max a 1 ≤ min (a - 1) (at' - 1) by omega), if_neg (show ¬ max a (at' - n) ≤ min (a - 1) most by omega), Option.getD_none, if_true]
        exact some_pair (by omega) (by omega)
      · simp only [if_neg hn]
        simp only [if_pos (show max a 1 ≤ min a (at' - 1) by omega), if_neg (show ¬ max a at' ≤ min a (most - n) by omega), if_neg (show ¬ max a 1 ≤ min (a - 1) (at' - 1) by omega), if_neg (show ¬ max a at' ≤ min (a - 1) (most - n) by omega), Option.getD_none, if_true]
        exact some_pair (by omega) (by omega)
    · by_cases hn : n < 0
      · simp only [if_pos hn]
        simp only [if_pos (show max a 1 ≤ min P (at' - 1) by omega), if_neg (show ¬ max a (at' - n) ≤ min P most by omega), if_pos (show max a 1 ≤ min (P - 1) (at' - 1) by omega), if_neg (show ¬ max a (at' - n) ≤ min (P - 1) most by omega), Option.getD_some, if_neg (show ¬ max a 1 = 0 by omega)]
        exact some_pair (by omega) (by omega)
      · simp only [if_neg hn]
        simp only [if_pos (show max a 1 ≤ min P (at' - 1) by omega), if_neg (show ¬ max a at' ≤ min P (most - n) by omega), if_pos (show max a 1 ≤ min (P - 1) (at' - 1) by omega), if_neg (show ¬ max a at' ≤ min (P - 1) (most - n) by omega), Option.getD_some, if_neg (show ¬ max a 1 = 0 by omega)]
        exact some_pair (by omega) (by omega)
  · rw [if_neg hk] at e
    subst e
    obtain ⟨F, hF⟩ : ∃ F, (if n < 0 then at' - n else at') = F := ⟨_, rfl⟩
    obtain ⟨T, hT⟩ : ∃ T, (if n < 0 then most else most - n) = T := ⟨_, rfl⟩
    rw [hF, hT]
    have f1 : F ≤ k ∧ k ≤ T ∧ at' ≤ F ∧ 1 ≤ F + n := by rw [← hF, ← hT]; split <;> omega
    clear hF hT
    by_cases c1 : a ≤ at' - 1
    · by_cases c2 : F ≤ k - 1
      · simp only [if_pos (show max a 1 ≤ min k (at' - 1) by omega), if_pos (show max a F ≤ min k T by omega), if_pos (show max a 1 ≤ min (k - 1) (at' - 1) by omega), if_pos (show max a F ≤ min (k - 1) T by omega), Option.getD_some, if_neg (show ¬ max a 1 = 0 by omega)]
        exact some_pair (by omega) (by omega)
      · simp only [if_pos (show max a 1 ≤ min k (at' - 1) by omega), if_pos (show max a F ≤ min k T by omega), if_pos (show max a 1 ≤ min (k - 1) (at' - 1) by omega), if_neg (show ¬ max a F ≤ min (k - 1) T by omega), Option.getD_some, if_neg (show ¬ max a 1 = 0 by omega)]
        exact some_pair (by omega) (by omega)
    · by_cases c2 : max a F ≤ k - 1
      · simp only [if_neg (show ¬ max a 1 ≤ min k (at' - 1) by omega), if_pos (show max a F ≤ min k T by omega), if_neg (show ¬ max a 1 ≤ min (k - 1) (at' - 1) by omega), if_pos (show max a F ≤ min (k - 1) T by omega), Option.getD_some, if_neg (show ¬ max a F + n = 0 by omega)]
        exact some_pair (by omega) (by omega)
      · simp only [if_neg (show ¬ max a 1 ≤ min k (at' - 1) by omega), if_pos (show max a F ≤ min k T by omega), if_neg (show ¬ max a 1 ≤ min (k - 1) (at' - 1) by omega), if_neg (show ¬ max a F ≤ min (k - 1) T by omega), Option.getD_none, if_true]
        exact some_pair (by omega) (by omega)
/-- One line more. -/
theorem spA_step {at' n most a k : Int} (h : LnOk at' n most) (h1 : 1 ≤ a) (h2 : a ≤ k) (h3 : k ≤ most) : spA at' n most a (k + 1) = if 0 < pl at' n most k then (if (spA at' n most a k).1 = 0 then pl at' n most k else (spA at' n most a k).1, pl at' n most k) else spA at' n most a k := by
  by_cases hp : 0 < pl at' n most k
  · rw [if_pos hp]
    conv => lhs; unfold spA
    rw [show k + 1 - 1 = k by omega, thr_more h h1 h2 h3 hp]
    rfl
  · rw [if_neg hp]
    have hz : pl at' n most k = 0 := by have := (pl_bd h (by omega : 1 ≤ k) h3).1; omega
    unfold spA
    rw [show k + 1 - 1 = k by omega, thr_zero h h1 h2 h3 hz]
/-- At the end: the fate of the row of lines. -/
theorem spA_end {at' n most a b : Int} (h : LnOk at' n most) : (thr at' n most a b = none ∧ spA at' n most a (b + 1) = (0, 0)) ∨ (∃ r, thr at' n most a b = some r ∧ spA at' n most a (b + 1) = r ∧ 0 < r.1) := by
  unfold spA
  rw [show b + 1 - 1 = b by omega]
  cases e : thr at' n most a b with
  | none => exact .inl ⟨rfl, rfl⟩
  | some r =>
    refine .inr ⟨r, rfl, rfl, ?_⟩
    obtain ⟨q1, q2, q3, q4⟩ := h
    unfold thr at e
    by_cases hn : n < 0
    · simp only [if_pos hn] at e
      split at e
      · split at e <;> (injection e with e; subst e; simp only; omega)
      · split at e
        · injection e with e; subst e; simp only; omega
        · cases e
    · simp only [if_neg hn] at e
      split at e
      · split at e <;> (injection e with e; subst e; simp only; omega)
      · split at e
        · injection e with e; subst e; simp only; omega
        · cases e
/-- One cell's line. -/
theorem thr_pl {at' n most a : Int} (h : LnOk at' n most) (h1 : 1 ≤ a) (h3 : a ≤ most) : thr at' n most a a = if 0 < pl at' n most a then some (pl at' n most a, pl at' n most a) else none := by
  by_cases hp : 0 < pl at' n most a
  · rw [if_pos hp, thr_more h h1 (Int.le_refl _) h3 hp, spA_first]
    rfl
  · have hz : pl at' n most a = 0 := by have := (pl_bd h (by omega : 1 ≤ a) h3).1; omega
    rw [if_neg hp, thr_zero h h1 (Int.le_refl _) h3 hz, thr_void (by omega)]
/-- Lines that stay where they are. -/
theorem thr_same {most a b : Int} (h1 : 1 ≤ a) (h2 : a ≤ b) (h3 : b ≤ most) : thr 1 0 most a b = some (a, b) := by
  unfold thr
  simp only [Int.lt_irrefl, if_false]
  rw [if_neg (by omega), if_pos (by omega)]
  congr 2 <;> omega
end Go.Proofs.YtbkcebbddhaifaaGreatDoor
namespace Go.Proofs.YtbkcebbddhaifaaGreatDoor
open Go.RowKit

theorem infoI8 : (Tryz.prog.info? 3).map (fun i => (i.zero, i.size, i.bytes)) = some (some (.int .i64 0), 1, 8) := by kernel_rfl
theorem made_one (z : Value) (n : Nat) : (madeCells #[z] n).toList = List.replicate n z := by
  apply List.ext_getElem?
  intro i
  simp only [madeCells, Array.toList_map, Array.toList_range, List.getElem?_map]
  by_cases h : i < n
  · rw [List.getElem?_range h, List.getElem?_replicate, if_pos h]; simp [Nat.mod_one]
  · rw [List.getElem?_eq_none (by simp; omega), List.getElem?_replicate, if_neg h]; rfl
theorem make_is (t e : TypeId) (z : Value) (bytes : Nat) (ht : Tryz.prog.underlying t = some (.slice e)) (hinfo : (Tryz.prog.info? e).map (fun i => (i.zero, i.size, i.bytes)) = some (some z, 1, bytes)) (hz1 : z.cells = #[z]) (n : Nat) (hb : bytes * n ≤ 281474976710656) (h63 : n ≤ 9223372036854775807) :
    ∃ cs : Array Value, cs.toList = List.replicate n z ∧ ∀ w : World, (Instr.makeSlice t (.int .i64 (n : Int)) (.int .i64 (n : Int))).run Tryz.prog w = .ok (.slice (some ⟨w.heap.size, 0, none⟩) n n) (w.alloc (.cells cs e)) :=
  ⟨_, made_one z n, fun w => run_make_row' t e z bytes ht hinfo hz1 .i64 .i64 n hb h63 w⟩
/-- Ints as cells. -/
def ints (l : List Int) : List Value := l.map (.int .i64 ·)
theorem ints_get {l : List Int} {i : Nat} {x : Int} (h : l[i]? = some x) : (ints l)[i]? = some (.int .i64 x) := by
  unfold ints; rw [List.getElem?_map, h]; rfl
theorem ints_set (l : List Int) (i : Nat) (x : Int) : (ints l).set i (.int .i64 x) = ints (l.set i x) := by
  unfold ints; rw [List.map_set]
theorem ints_rep (n : Nat) : ints (List.replicate n 0) = List.replicate n (.int .i64 0) := by
  unfold ints; rw [List.map_replicate]

set_option maxRecDepth 20000 in
set_option maxHeartbeats 8000000 in
theorem places_at (m : Nat) (at' n : Int) (w : World) (h : LnOk at' n m) (hm : m ≤ 4096) :
    Calls Tryz.prog 55 #[.int .i64 (m : Int), .int .i64 at', .int .i64 n] w fun e w' => e = .returned (.slice (some ⟨w.heap.size, 0, none⟩) (m + 1) (m + 1)) ∧ Blk w' w.heap.size (ints (plL at' n m m (m + 1))) 3 ∧ Kp w w' Nul := by
  obtain ⟨cs, hcs, hmk⟩ := make_is 107 3 (.int .i64 0) 8 Tryz.underlying107 infoI8 rfl (m + 1) (by omega) (by omega)
  have e1 : ((m + 1 : Nat) : Int) = (m : Int) + 1 := by omega
  rw [e1] at hmk
  have HB0 : Hid (Blk (w.alloc (.cells cs 3)) w.heap.size (ints (plL at' n m m 1)) 3) := by
    show Blk _ _ _ _
    rw [plL_one, ints_rep, ← hcs]
    exact Blk.new' w cs _
  have HL : Hid (LnOk at' n m) := h
  have hm0 : (0 : Int) ≤ (m : Int) := by omega
  have hm1 : (m : Int) ≤ 4096 := by omega
  obtain ⟨l1, l2, l3, l4⟩ := h
  have wa : wrap64 (at' - n) = at' - n := by unfold wrap64; omega
  clear hcs e1
  go_enter Tryz.func55, Tryz.ntmps55
  go_wp2_with fail
  go_loopw [8, 9] (fun x k wr => ∃ q : Nat, 1 ≤ q ∧ q ≤ m + 1 ∧ k = .int .i64 q ∧ x = .int .i64 (nx at' n q) ∧ Blk wr w.heap.size (ints (plL at' n m m q)) 3 ∧ Kp w wr Nul) (fun _ k _ => m + 1 - (intOf k).toNat)
  case atStart => exact ⟨1, Nat.le_refl _, by omega, rfl, by rw [show ((1 : Nat) : Int) = 1 from rfl, nx_one HL.out.lo], HB0.out, (Kp.refl _ _).alloc _⟩
  case round =>
    obtain ⟨q, hq1, hq2, rfl, rfl, hb, hk⟩ := hrel
    have HB : Hid (Blk wr w.heap.size (ints (plL at' n m m q)) 3) := hb
    have HK : Hid (Kp w wr Nul) := hk
    clear hb hk
    have g1 : (1 : Int) ≤ (q : Int) := by omega
    by_cases hle : q ≤ m
    · have g2 : (q : Int) ≤ (m : Int) := by omega
      have hbd := nx_bd HL.out g1 (by omega)
      have hfz : wr.frozen? ⟨w.heap.size, q, none⟩ = false := HB.out.froz _
      obtain ⟨cv, hcv⟩ : ∃ cv, wr.cell? ⟨w.heap.size, q, none⟩ = some (.int .i64 cv) := ⟨_, HB.out.cell (ints_get (plL_get hle))⟩
      have HST : Hid (∀ x, x = pl at' n m q → Blk (wr.setCell ⟨w.heap.size, q, none⟩ (.int .i64 x)) w.heap.size (ints (plL at' n m m (q + 1))) 3 ∧ Kp w (wr.setCell ⟨w.heap.size, q, none⟩ (.int .i64 x)) Nul) := fun x hx => by
        have h1 := HB.out.set q (.int .i64 x)
        rw [ints_set, hx, plL_set hq1 hle, ← hx] at h1
        exact ⟨h1, HK.out.setCell _ _ (.inl (Nat.le_refl _))⟩
      have HSK : Hid (pl at' n m q = 0 → Blk wr w.heap.size (ints (plL at' n m m (q + 1))) 3) := fun hz => by
        have h1 := HB.out
        rw [plL_skip hz] at h1
        exact h1
      by_cases c1 : (q : Int) = at'
      · subst c1
        have hin := fun q0 : 0 < n => nx_in (at' := (q : Int)) (n := n) rfl q0
        have hpi := fun q0 : 0 < n => pl_in (at' := (q : Int)) (n := n) rfl q0 m
        have hgo := fun q0 : n < 0 => nx_gone (at' := (q : Int)) (n := n) (k := q) q0 (Int.le_refl _) (by omega)
        have hst := fun q0 : n = 0 => nx_stay (at' := (q : Int)) (n := n) (k := q) (by omega) (by omega)
        have HF : Hid ((0 < n → nx (q : Int) n q = q ∧ nx (q : Int) n q + n + 1 = nx (q : Int) n (q + 1)) ∧ (0 < n → pl (q : Int) n m q = if nx (q : Int) n q + n ≤ m then nx (q : Int) n q + n else 0) ∧ (n < 0 → nx (q : Int) n (q + 1) = nx (q : Int) n q ∧ ∀ most, pl (q : Int) n most q = 0) ∧ (n = 0 → nx (q : Int) n (q + 1) = nx (q : Int) n q + 1 ∧ ∀ most, pl (q : Int) n most q = if nx (q : Int) n q ≤ most then nx (q : Int) n q else 0)) := ⟨hin, hpi, hgo, hst⟩
        clear hin hpi hgo hst
        obtain ⟨N, hN⟩ : ∃ N, nx (q : Int) n q = N := ⟨_, rfl⟩
        rw [hN] at HF hbd ⊢
        clear hN
        obtain ⟨b1, b2⟩ := hbd
        have hlq : (q : Int) < (m : Int) + 1 := by omega
        by_cases c2 : 0 < n
        · have c3 : ¬ n < 0 := by omega
          have wn : wrap64 (N + n) = N + n := by unfold wrap64; omega
          by_cases c6 : N + n ≤ (m : Int)
          · go_wp2_with fail
            go_roundw
            case rel => exact ⟨q + 1, by omega, by omega, by go_num, by rw [show ((q + 1 : Nat) : Int) = (q : Int) + 1 by omega]; rw [← (HF.out.1 c2).2], (HST.out _ (by rw [HF.out.2.1 c2, if_pos c6])).1, (HST.out _ (by rw [HF.out.2.1 c2, if_pos c6])).2⟩
            case measure => simp only [intOf]; omega
          · go_wp2_with fail
            go_roundw
            case rel => exact ⟨q + 1, by omega, by omega, by go_num, by rw [show ((q + 1 : Nat) : Int) = (q : Int) + 1 by omega]; rw [← (HF.out.1 c2).2], HSK.out (by rw [HF.out.2.1 c2, if_neg c6]), HK.out⟩
            case measure => simp only [intOf]; omega
        · by_cases c3 : n < 0
          · have c4 : (q : Int) < (q : Int) - n := by omega
            have c5 : (q : Int) ≤ (q : Int) := Int.le_refl _
            go_wp2_with fail
            go_roundw
            case rel => exact ⟨q + 1, by omega, by omega, by go_num, by rw [show ((q + 1 : Nat) : Int) = (q : Int) + 1 by omega]; rw [(HF.out.2.2.1 c3).1], HSK.out ((HF.out.2.2.1 c3).2 _), HK.out⟩
            case measure => simp only [intOf]; omega
          · have c7 : n = 0 := by omega
            have hz := HF.out.2.2.2 c7
            by_cases c6 : N ≤ (m : Int)
            · go_wp2_with fail
              go_roundw
              case rel => exact ⟨q + 1, by omega, by omega, by go_num, by rw [show ((q + 1 : Nat) : Int) = (q : Int) + 1 by omega]; rw [hz.1], (HST.out _ (by rw [hz.2, if_pos c6])).1, (HST.out _ (by rw [hz.2, if_pos c6])).2⟩
              case measure => simp only [intOf]; omega
            · go_wp2_with fail
              go_roundw
              case rel => exact ⟨q + 1, by omega, by omega, by go_num, by rw [show ((q + 1 : Nat) : Int) = (q : Int) + 1 by omega]; rw [hz.1], HSK.out (by rw [hz.2, if_neg c6]), HK.out⟩
              case measure => simp only [intOf]; omega
      · have hlq : (q : Int) < (m : Int) + 1 := by omega
        by_cases cg : n < 0 ∧ at' ≤ (q : Int) ∧ (q : Int) < at' - n
        · have hgo := nx_gone cg.1 cg.2.1 cg.2.2
          have HF : Hid (nx at' n ((q : Int) + 1) = nx at' n q ∧ ∀ most, pl at' n most q = 0) := hgo
          obtain ⟨c3, c4, c5⟩ := cg
          clear hgo
          obtain ⟨N, hN⟩ : ∃ N, nx at' n q = N := ⟨_, rfl⟩
          rw [hN] at HF hbd ⊢
          clear hN
          go_wp2_with fail
          go_roundw
          case rel => exact ⟨q + 1, by omega, by omega, by go_num, by rw [show ((q + 1 : Nat) : Int) = (q : Int) + 1 by omega]; rw [HF.out.1], HSK.out (HF.out.2 _), HK.out⟩
          case measure => simp only [intOf]; omega
        · have hst := nx_stay (k := (q : Int)) (fun z => c1 z.1) cg
          have HF : Hid (nx at' n ((q : Int) + 1) = nx at' n q + 1 ∧ ∀ most, pl at' n most q = if nx at' n q ≤ most then nx at' n q else 0) := hst
          clear hst
          obtain ⟨N, hN⟩ : ∃ N, nx at' n q = N := ⟨_, rfl⟩
          rw [hN] at HF hbd ⊢
          clear hN
          obtain ⟨b1, b2⟩ := hbd
          by_cases c3 : n < 0
          · by_cases c4 : at' ≤ (q : Int)
            · have c5 : ¬ (q : Int) < at' - n := fun z => cg ⟨c3, c4, z⟩
              clear cg
              by_cases c6 : N ≤ (m : Int)
              · go_wp2_with fail
                go_roundw
                case rel => exact ⟨q + 1, by omega, by omega, by go_num, by rw [show ((q + 1 : Nat) : Int) = (q : Int) + 1 by omega]; rw [HF.out.1], (HST.out _ (by rw [HF.out.2, if_pos c6])).1, (HST.out _ (by rw [HF.out.2, if_pos c6])).2⟩
                case measure => simp only [intOf]; omega
              · go_wp2_with fail
                go_roundw
                case rel => exact ⟨q + 1, by omega, by omega, by go_num, by rw [show ((q + 1 : Nat) : Int) = (q : Int) + 1 by omega]; rw [HF.out.1], HSK.out (by rw [HF.out.2, if_neg c6]), HK.out⟩
                case measure => simp only [intOf]; omega
            · clear cg
              by_cases c6 : N ≤ (m : Int)
              · go_wp2_with fail
                go_roundw
                case rel => exact ⟨q + 1, by omega, by omega, by go_num, by rw [show ((q + 1 : Nat) : Int) = (q : Int) + 1 by omega]; rw [HF.out.1], (HST.out _ (by rw [HF.out.2, if_pos c6])).1, (HST.out _ (by rw [HF.out.2, if_pos c6])).2⟩
                case measure => simp only [intOf]; omega
              · go_wp2_with fail
                go_roundw
                case rel => exact ⟨q + 1, by omega, by omega, by go_num, by rw [show ((q + 1 : Nat) : Int) = (q : Int) + 1 by omega]; rw [HF.out.1], HSK.out (by rw [HF.out.2, if_neg c6]), HK.out⟩
                case measure => simp only [intOf]; omega
          · clear cg
            by_cases c6 : N ≤ (m : Int)
            · go_wp2_with fail
              go_roundw
              case rel => exact ⟨q + 1, by omega, by omega, by go_num, by rw [show ((q + 1 : Nat) : Int) = (q : Int) + 1 by omega]; rw [HF.out.1], (HST.out _ (by rw [HF.out.2, if_pos c6])).1, (HST.out _ (by rw [HF.out.2, if_pos c6])).2⟩
              case measure => simp only [intOf]; omega
            · go_wp2_with fail
              go_roundw
              case rel => exact ⟨q + 1, by omega, by omega, by go_num, by rw [show ((q + 1 : Nat) : Int) = (q : Int) + 1 by omega]; rw [HF.out.1], HSK.out (by rw [HF.out.2, if_neg c6]), HK.out⟩
              case measure => simp only [intOf]; omega
    · have hqe : q = m + 1 := by omega
      subst hqe
      have gq : ¬ ((m + 1 : Nat) : Int) ≤ (m : Int) := by omega
      go_wp2_with fail
      go_ret
      exact ⟨rfl, HB.out, HK.out⟩
set_option maxRecDepth 20000 in
set_option maxHeartbeats 8000000 in
theorem span_at (m lb : Nat) (at' n a b : Int) (w : World) (h : LnOk at' n m) (hm : m ≤ 4096) (h1 : 1 ≤ a) (h2 : a ≤ b) (h3 : b ≤ m) (hb : Blk w lb (ints (plL at' n m m (m + 1))) 3) :
    Calls Tryz.prog 105 #[.slice (some ⟨lb, 0, none⟩) (m + 1) (m + 1), .int .i64 a, .int .i64 b] w fun e w' => e = .returned (.tuple #[.int .i64 (spA at' n m a (b + 1)).1, .int .i64 (spA at' n m a (b + 1)).2, .bool (decide (0 < (spA at' n m a (b + 1)).1))]) ∧ w' = w := by
  have HS0 : Hid (spA at' n m a a = (0, 0)) := spA_first
  have HST : Hid (∀ k : Int, a ≤ k → k ≤ b → spA at' n m a (k + 1) = if 0 < pl at' n m k then (if (spA at' n m a k).1 = 0 then pl at' n m k else (spA at' n m a k).1, pl at' n m k) else spA at' n m a k) := fun k g1 g2 => spA_step h h1 g1 (by omega)
  have HC : Hid (∀ q : Nat, 1 ≤ q → q ≤ m → w.cell? ⟨lb, q, none⟩ = some (.int .i64 (pl at' n m q))) := fun q g1 g2 => hb.cell (ints_get (by rw [plL_get g2, if_pos (by omega)]))
  have hm1 : (m : Int) ≤ 4096 := by omega
  clear h hb
  generalize hsp : spA at' n m a = sp at *
  clear hsp
  go_enter Tryz.func105, Tryz.ntmps105
  go_wp2_with fail
  go_loopw [9, 10, 11] (fun x y k wr => ∃ q : Nat, a ≤ (q : Int) ∧ (q : Int) ≤ b + 1 ∧ k = .int .i64 q ∧ x = .int .i64 (sp q).1 ∧ y = .int .i64 (sp q).2 ∧ wr = w) (fun _ _ k _ => (b + 1).toNat - (intOf k).toNat)
  case atStart => exact ⟨a.toNat, by omega, by omega, by rw [show ((a.toNat : Nat) : Int) = a by omega], by rw [show ((a.toNat : Nat) : Int) = a by omega, HS0.out], by rw [show ((a.toNat : Nat) : Int) = a by omega, HS0.out], rfl⟩
  case round =>
    obtain ⟨q, g1, g2, rfl, rfl, rfl, rfl⟩ := hrel
    by_cases hle : (q : Int) ≤ b
    · have hc := HC.out q (by omega) (by omega)
      have HS : Hid (sp ((q : Int) + 1) = if 0 < pl at' n m q then (if (sp q).1 = 0 then pl at' n m q else (sp q).1, pl at' n m q) else sp q) := HST.out q g1 hle
      obtain ⟨P, hP⟩ : ∃ P, pl at' n m q = P := ⟨_, rfl⟩
      rw [hP] at hc HS
      clear hP
      obtain ⟨X, hX⟩ : ∃ X, (sp q).1 = X := ⟨_, rfl⟩
      obtain ⟨Y, hY⟩ : ∃ Y, (sp q).2 = Y := ⟨_, rfl⟩
      have HXY : Hid (sp q = (X, Y)) := by show _ = _; rw [← hX, ← hY]
      rw [hX, hY]
      rw [hX] at HS
      clear hX hY
      have hq0 : (0 : Int) ≤ (q : Int) := by omega
      have hlq : (q : Int) < (m : Int) + 1 := by omega
      by_cases c1 : 0 < P
      · by_cases c2 : X = 0
        · subst c2
          go_wp2_with fail
          go_roundw
          case rel => exact ⟨q + 1, by omega, by omega, by go_num, by rw [show ((q + 1 : Nat) : Int) = (q : Int) + 1 by omega, HS.out, if_pos c1, if_pos rfl], by rw [show ((q + 1 : Nat) : Int) = (q : Int) + 1 by omega, HS.out, if_pos c1], trivial⟩
          case measure => simp only [intOf]; omega
        · go_wp2_with fail
          go_roundw
          case rel => exact ⟨q + 1, by omega, by omega, by go_num, by rw [show ((q + 1 : Nat) : Int) = (q : Int) + 1 by omega, HS.out, if_pos c1, if_neg c2], by rw [show ((q + 1 : Nat) : Int) = (q : Int) + 1 by omega, HS.out, if_pos c1], trivial⟩
          case measure => simp only [intOf]; omega
      · go_wp2_with fail
        go_roundw
        case rel => exact ⟨q + 1, by omega, by omega, by go_num, by rw [show ((q + 1 : Nat) : Int) = (q : Int) + 1 by omega, HS.out, if_neg c1, HXY.out], by rw [show ((q + 1 : Nat) : Int) = (q : Int) + 1 by omega, HS.out, if_neg c1, HXY.out], trivial⟩
        case measure => simp only [intOf]; omega
    · have hqe : (q : Int) = b + 1 := by omega
      have HQ : Hid (sp (q : Int) = sp (b + 1)) := by show _ = _; rw [hqe]
      obtain ⟨X, hX⟩ : ∃ X, (sp q).1 = X := ⟨_, rfl⟩
      obtain ⟨Y, hY⟩ : ∃ Y, (sp q).2 = Y := ⟨_, rfl⟩
      have HE : Hid ((sp (b + 1)).1 = X ∧ (sp (b + 1)).2 = Y) := ⟨by rw [← HQ.out, hX], by rw [← HQ.out, hY]⟩
      rw [hX, hY]
      clear hX hY hqe HQ
      go_wp2_with fail
      refine bodyPost_ret (v := .tuple #[.int .i64 X, .int .i64 Y, .bool (decide (0 < X))]) (by simp [results, Tryz.results105, go_sem]) rfl ?_
      exact ⟨by rw [HE.out.1, HE.out.2], rfl⟩
set_option maxHeartbeats 4000000 in
theorem many_at (cols : Bool) (at' n : Int) (w : World) :
    Calls Tryz.prog 53 #[.bool cols, .int .i64 at', .int .i64 n] w fun e w' => e = .returned (.tuple #[.int .i64 (if cols then 256 else 4096), .bool (decide (1 ≤ at' ∧ at' ≤ (if cols then 256 else 4096) ∧ -(if cols then 256 else 4096) ≤ n ∧ n ≤ (if cols then 256 else 4096)))]) ∧ w' = w := by
  cases cols
  · simp only [Bool.false_eq_true, if_false]
    by_cases c1 : 1 ≤ at'
    · skip
      by_cases c2 : at' ≤ 4096
      · skip
        by_cases c3 : -4096 ≤ n
        · skip
          by_cases c4 : n ≤ 4096
          · have e : decide (1 ≤ at' ∧ at' ≤ 4096 ∧ -4096 ≤ n ∧ n ≤ 4096) = true := by exact decide_eq_true ⟨c1, c2, c3, c4⟩
            rw [e]
            clear e
            go_enter Tryz.func53, Tryz.ntmps53
            go_wp2
            refine bodyPost_ret (v := .tuple #[.int .i64 4096, .bool true]) (by simp [results, Tryz.results53, go_sem]) rfl ?_
            exact ⟨rfl, rfl⟩
          · have e : decide (1 ≤ at' ∧ at' ≤ 4096 ∧ -4096 ≤ n ∧ n ≤ 4096) = false := by exact decide_eq_false (by omega)
            rw [e]
            clear e
            go_enter Tryz.func53, Tryz.ntmps53
            go_wp2
            refine bodyPost_ret (v := .tuple #[.int .i64 4096, .bool false]) (by simp [results, Tryz.results53, go_sem]) rfl ?_
            exact ⟨rfl, rfl⟩
        · have e : decide (1 ≤ at' ∧ at' ≤ 4096 ∧ -4096 ≤ n ∧ n ≤ 4096) = false := by exact decide_eq_false (by omega)
          rw [e]
          clear e
          go_enter Tryz.func53, Tryz.ntmps53
          go_wp2
          refine bodyPost_ret (v := .tuple #[.int .i64 4096, .bool false]) (by simp [results, Tryz.results53, go_sem]) rfl ?_
          exact ⟨rfl, rfl⟩
      · have e : decide (1 ≤ at' ∧ at' ≤ 4096 ∧ -4096 ≤ n ∧ n ≤ 4096) = false := by exact decide_eq_false (by omega)
        rw [e]
        clear e
        go_enter Tryz.func53, Tryz.ntmps53
        go_wp2
        refine bodyPost_ret (v := .tuple #[.int .i64 4096, .bool false]) (by simp [results, Tryz.results53, go_sem]) rfl ?_
        exact ⟨rfl, rfl⟩
    · have e : decide (1 ≤ at' ∧ at' ≤ 4096 ∧ -4096 ≤ n ∧ n ≤ 4096) = false := by exact decide_eq_false (by omega)
      rw [e]
      clear e
      go_enter Tryz.func53, Tryz.ntmps53
      go_wp2
      refine bodyPost_ret (v := .tuple #[.int .i64 4096, .bool false]) (by simp [results, Tryz.results53, go_sem]) rfl ?_
      exact ⟨rfl, rfl⟩
  · simp only [if_true]
    by_cases c1 : 1 ≤ at'
    · skip
      by_cases c2 : at' ≤ 256
      · skip
        by_cases c3 : -256 ≤ n
        · skip
          by_cases c4 : n ≤ 256
          · have e : decide (1 ≤ at' ∧ at' ≤ 256 ∧ -256 ≤ n ∧ n ≤ 256) = true := by exact decide_eq_true ⟨c1, c2, c3, c4⟩
            rw [e]
            clear e
            go_enter Tryz.func53, Tryz.ntmps53
            go_wp2
            refine bodyPost_ret (v := .tuple #[.int .i64 256, .bool true]) (by simp [results, Tryz.results53, go_sem]) rfl ?_
            exact ⟨rfl, rfl⟩
          · have e : decide (1 ≤ at' ∧ at' ≤ 256 ∧ -256 ≤ n ∧ n ≤ 256) = false := by exact decide_eq_false (by omega)
            rw [e]
            clear e
            go_enter Tryz.func53, Tryz.ntmps53
            go_wp2
            refine bodyPost_ret (v := .tuple #[.int .i64 256, .bool false]) (by simp [results, Tryz.results53, go_sem]) rfl ?_
            exact ⟨rfl, rfl⟩
        · have e : decide (1 ≤ at' ∧ at' ≤ 256 ∧ -256 ≤ n ∧ n ≤ 256) = false := by exact decide_eq_false (by omega)
          rw [e]
          clear e
          go_enter Tryz.func53, Tryz.ntmps53
          go_wp2
          refine bodyPost_ret (v := .tuple #[.int .i64 256, .bool false]) (by simp [results, Tryz.results53, go_sem]) rfl ?_
          exact ⟨rfl, rfl⟩
      · have e : decide (1 ≤ at' ∧ at' ≤ 256 ∧ -256 ≤ n ∧ n ≤ 256) = false := by exact decide_eq_false (by omega)
        rw [e]
        clear e
        go_enter Tryz.func53, Tryz.ntmps53
        go_wp2
        refine bodyPost_ret (v := .tuple #[.int .i64 256, .bool false]) (by simp [results, Tryz.results53, go_sem]) rfl ?_
        exact ⟨rfl, rfl⟩
    · have e : decide (1 ≤ at' ∧ at' ≤ 256 ∧ -256 ≤ n ∧ n ≤ 256) = false := by exact decide_eq_false (by omega)
      rw [e]
      clear e
      go_enter Tryz.func53, Tryz.ntmps53
      go_wp2
      refine bodyPost_ret (v := .tuple #[.int .i64 256, .bool false]) (by simp [results, Tryz.results53, go_sem]) rfl ?_
      exact ⟨rfl, rfl⟩
end Go.Proofs.YtbkcebbddhaifaaGreatDoor
