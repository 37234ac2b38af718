/- newBoard. -/
import Derived.Test.YtkgolfmnlbmmeaaGreatDoorYg
namespace Go.Proofs.YtkgolfmnlbmmeaaGreatDoor
open Go.RowKit

/-- The cells L lie in block b from o on. -/
def CellsAt (w : World) (b o : Nat) (L : List (Int × Int)) : Prop := ∀ i x, L[i]? = some x → w.cell? ⟨b, o + i * 2, none⟩ = some (.int .i64 x.1) ∧ w.cell? ⟨b, o + i * 2 + 1, none⟩ = some (.int .i64 x.2)
theorem CellsAt.kp {w w' : World} {b o : Nat} {L : List (Int × Int)} {S : Nat → Prop} (h : CellsAt w b o L) (g : Kp w w' S) (hb : ¬ S b) : CellsAt w' b o L := fun i x hx => by
  obtain ⟨h1, h2⟩ := h i x hx
  have e := g.block b (cell_lt h1) hb
  have ec : ∀ j, w'.cell? ⟨b, j, none⟩ = w.cell? ⟨b, j, none⟩ := fun j => by simp only [World.cell?]; rw [e]
  rw [ec, ec]; exact ⟨h1, h2⟩
/-- A slice of these cells: its address is known where there are some. -/
structure CSl (w : World) (v : Value) (L : List (Int × Int)) : Prop where
  form : ∃ (a : Option Addr) (c : Nat), v = .slice a L.length c ∧ (0 < L.length → ∃ b o, a = some ⟨b, o, none⟩ ∧ CellsAt w b o L)
/-- Row c: those of the first k whose column is c. -/
def colIs (L : List (Int × Int)) (k : Nat) : Nat → Nat → Bool := fun c p => decide (p < k) && (match L[p]? with | some x => x.1 == (c : Int) | none => false)
/-- Row c: those whose column is c or less. -/
def colTo (L : List (Int × Int)) : Nat → Nat → Bool := fun c p => match L[p]? with | some x => decide (x.1 ≤ (c : Int)) | none => false
theorem colIs_step (L : List (Int × Int)) (k c : Nat) (x : Int × Int) (hk : L[k]? = some x) (hx : x.1 = (c : Int)) : putRow' (colIs L k) c k = colIs L (k + 1) := by
  funext c' p
  unfold putRow' colIs ins
  by_cases e : c' = c
  · subst e
    rw [if_pos rfl]
    by_cases ep : p = k
    · subst ep; simp [hk, hx]
    · rw [if_neg ep]
      have : decide (p < k) = decide (p < k + 1) := by rw [decide_eq_decide]; omega
      simp only [this]
  · rw [if_neg e]
    by_cases ep : p = k
    · subst ep
      have : (x.1 == (c' : Int)) = false := by rw [hx]; simp; omega
      simp [hk, this]
    · have : decide (p < k) = decide (p < k + 1) := by rw [decide_eq_decide]; omega
      rw [this]
theorem colIs_zero (L : List (Int × Int)) : (fun _ _ => false) = colIs L 0 := by funext c p; simp [colIs]
theorem Kp.nn {w w1 w2 : World} (h : Kp w w1 Nul) (g : Kp w1 w2 Nul) : Kp w w2 Nul := h.trans g
theorem BoardM.congr {w : World} {B ub mb W : Nat} {cells : Value} {rows rows' : Nat → Nat → Bool} (h : BoardM w B ub mb W cells rows) (hr : ∀ c, c < 257 → ∀ p, p < 64 * W → rows c p = rows' c p) : BoardM w B ub mb W cells rows' := by
  refine ⟨h.b, h.u, ?_⟩
  have e : memL rows W 257 = memL rows' W 257 := by
    unfold memL
    apply List.map_congr_left
    intro j hj
    have hj' : j < 257 * W := by simpa using hj
    have hW : 0 < W := by rcases Nat.eq_zero_or_pos W with h0 | h0; subst h0; omega; exact h0
    have h1 : j / W < 257 := by rw [Nat.div_lt_iff_lt_mul hW]; exact hj'
    have h2 : j % W < W := Nat.mod_lt _ hW
    rw [Wd.wd_congr (N := rows' (j / W))]
    intro q hq
    exact hr _ h1 _ (by omega)
  rw [← e]; exact h.m
/-- The rows up to c are done. -/
def rows2 (L : List (Int × Int)) (c : Nat) : Nat → Nat → Bool := fun c' => if c' ≤ c then colTo L c' else colIs L L.length c'
/-- Of the next one the first i words. -/
def rows3 (L : List (Int × Int)) (c i : Nat) : Nat → Nat → Bool := fun c' => if c' = c + 1 then (fun p => if p < 64 * i then colIs L L.length c' p || colTo L c p else colIs L L.length c' p) else rows2 L c c'
theorem rows3_zero (L : List (Int × Int)) (c : Nat) : rows2 L c = rows3 L c 0 := by
  funext c' p
  unfold rows3 rows2
  by_cases h : c' = c + 1
  · subst h; rw [if_neg (by omega), if_pos rfl]; simp
  · rw [if_neg h]
theorem colTo_next (L : List (Int × Int)) (c p : Nat) : (colIs L L.length (c + 1) p || colTo L c p) = colTo L (c + 1) p := by
  unfold colIs colTo
  cases h : L[p]? with
  | none => simp
  | some x =>
    have : p < L.length := (List.getElem?_eq_some_iff.1 h).1
    simp only [this, decide_true, Bool.true_and]
    rw [Bool.eq_iff_iff]
    simp only [Bool.or_eq_true, beq_iff_eq, decide_eq_true_eq]
    push_cast
    omega
theorem rows3_end (L : List (Int × Int)) (c W : Nat) (hW : L.length ≤ 64 * W) : rows3 L c W = rows2 L (c + 1) := by
  funext c' p
  unfold rows3 rows2
  by_cases h : c' = c + 1
  · subst h
    have e1 : (c + 1 ≤ c + 1) = True := by simp
    simp only [if_true, e1]
    by_cases hp : p < 64 * W
    · rw [if_pos hp]; exact colTo_next L c p
    · rw [if_neg hp]
      have : L[p]? = none := List.getElem?_eq_none (by omega)
      simp [colIs, colTo, this]
  · rw [if_neg h]
    by_cases h2 : c' ≤ c
    · rw [if_pos h2, if_pos (by omega)]
    · rw [if_neg h2, if_neg (by omega)]
theorem rows2_zero (L : List (Int × Int)) (hv : ∀ (i : Nat) (x : Int × Int), L[i]? = some x → 1 ≤ x.1 ∧ x.1 ≤ 256) : colIs L L.length = rows2 L 0 := by
  funext c p
  unfold rows2
  by_cases h : c ≤ 0
  · have : c = 0 := by omega
    subst this
    rw [if_pos h]
    unfold colIs colTo
    cases hp : L[p]? with
    | none => simp
    | some x =>
      have := hv p x hp
      have h1 : (x.1 == ((0 : Nat) : Int)) = false := by simp; omega
      have h2 : decide (x.1 ≤ ((0 : Nat) : Int)) = false := by simp; omega
      simp only [h1, h2, Bool.and_false]
  · rw [if_neg h]
theorem rows2_end (L : List (Int × Int)) (c : Nat) (hc : c < 257) (p : Nat) : rows2 L 256 c p = colTo L c p := by
  unfold rows2; rw [if_pos (by omega)]
theorem rows3_step (L : List (Int × Int)) (c i : Nat) (c' i' : Nat) (h : c' ≠ c + 1 ∨ i' ≠ i) : Wd.wd (rows3 L c i c') i' = Wd.wd (rows3 L c (i + 1) c') i' := by
  apply Wd.wd_congr
  intro j hj
  unfold rows3
  by_cases e : c' = c + 1
  · rw [if_pos e, if_pos e]
    rcases h with h | h
    · exact absurd e h
    · by_cases h2 : 64 * i' + j < 64 * i
      · rw [if_pos h2, if_pos (by omega)]
      · rw [if_neg h2, if_neg (by omega)]
  · rw [if_neg e, if_neg e]
theorem rows3_or (L : List (Int × Int)) (c i : Nat) : bits .or .u64 (Wd.wd (rows3 L c i (c + 1)) i : Nat) (Wd.wd (rows3 L c i c) i : Nat) = (Wd.wd (rows3 L c (i + 1) (c + 1)) i : Nat) := by
  rw [u64_or_nat _ _ (Wd.wd_lt _ _) (Wd.wd_lt _ _), Wd.wd_or]
  congr 1
  apply Wd.wd_congr
  intro j hj
  unfold rows3 rows2
  have e1 : ¬ (c = c + 1) := by omega
  have e2 : ¬ (64 * i + j < 64 * i) := by omega
  have e3 : 64 * i + j < 64 * (i + 1) := by omega
  simp only [if_true, e1, e2, e3, if_false, Nat.le_refl]
def NbR2 (L : List (Int × Int)) (B ub mb W : Nat) (cells : Value) (w : World) (i : Value) (wr : World) : Prop :=
  ∃ k : Nat, i = .int .i64 (k : Int) ∧ k ≤ 256 ∧ BoardM wr B ub mb W cells (rows2 L k) ∧ Kp w wr Nul
def NbR3 (L : List (Int × Int)) (c B ub mb W : Nat) (cells : Value) (w : World) (i : Value) (wr : World) : Prop :=
  ∃ k : Nat, i = .int .i64 (k : Int) ∧ k ≤ W ∧ BoardM wr B ub mb W cells (rows3 L c k) ∧ Kp w wr Nul
def NbR1 (L : List (Int × Int)) (B ub mb W : Nat) (cells : Value) (w : World) (i : Value) (wr : World) : Prop :=
  ∃ k : Nat, i = .int .i64 (k : Int) ∧ k ≤ L.length ∧ BoardM wr B ub mb W cells (colIs L k) ∧ Kp w wr Nul

set_option maxRecDepth 20000 in
set_option maxHeartbeats 4000000 in
theorem newBoard_at (L : List (Int × Int)) (a : Option Addr) (cc : Nat) (w : World) (hL : L.length ≤ 4294967296) (hv : ∀ (i : Nat) (x : Int × Int), L[i]? = some x → 1 ≤ x.1 ∧ x.1 ≤ 256) (ha : 0 < L.length → ∃ b o, a = some ⟨b, o, none⟩ ∧ CellsAt w b o L) :
    Calls Tryz.prog 48 #[.slice a L.length cc] w fun e w' => ∃ B ub mb, e = .returned (.pointer (some ⟨B, 0, none⟩)) ∧ BoardM w' B ub mb ((L.length + 63) / 64) (.slice a L.length cc) (colTo L) ∧ (w.heap.size ≤ B ∧ w.heap.size ≤ ub ∧ w.heap.size ≤ mb) ∧ Kp w w' Nul := by
  obtain ⟨n, hn⟩ : ∃ n, L.length = n := ⟨_, rfl⟩
  obtain ⟨W, hW⟩ : ∃ W, (n + 63) / 64 = W := ⟨_, rfl⟩
  have HN : Hid (L.length = n) := hn
  have HA : Hid (0 < n → ∃ b o, a = some ⟨b, o, none⟩ ∧ CellsAt w b o L) := by show _; rw [← hn]; exact ha
  have HV : Hid (∀ (i : Nat) (x : Int × Int), L[i]? = some x → 1 ≤ x.1 ∧ x.1 ≤ 256) := hv
  have HM : Hid (∀ w, Calls Tryz.prog 83 #[.int .i64 (257 : Int), .int .i64 (n : Int)] w fun e w' => e = .returned (.slice (some ⟨w.heap.size + 1, 0, none⟩) 257 257) ∧
      Blk w' w.heap.size (memL (fun _ _ => false) W 257) 123 ∧ Blk w' (w.heap.size + 1) (upL w.heap.size W 257 257) 85 ∧ Kp w w' Nul) := fun w => by
    have := manyMarks_at 257 n (by omega) (by omega) w
    rw [hW, memL_zero] at this
    exact this
  rw [hn, hW]
  have hWn : n ≤ 64 * W := by omega
  have hWb : W ≤ 67108865 := by omega
  have hnn : n ≤ 4294967296 := by omega
  clear hn hW ha hv hL
  go_enter Tryz.func48, Tryz.ntmps48
  go_wp2_with (go_at_call 83; refine (HM.out _).mono ?_; rintro e w1 ⟨rfl, hb0, hb1, hkp⟩)
  have HB0 : Hid (BoardM (w1.alloc (.cells #[.slice a n cc, .slice (some ⟨w.heap.size + 1, 0, none⟩) 257 257] 109)) w1.heap.size (w.heap.size + 1) w.heap.size W (.slice a n cc) (colIs L 0)) := by
    refine ⟨Blk.new w1 [.slice a n cc, .slice (some ⟨w.heap.size + 1, 0, none⟩) 257 257] _, hb1.alloc _, ?_⟩
    rw [← colIs_zero]; exact hb0.alloc _
  have HK0 : Hid (Kp w (w1.alloc (.cells #[.slice a n cc, .slice (some ⟨w.heap.size + 1, 0, none⟩) 257 257] 109)) Nul) := hkp.alloc _
  have hB1 : w.heap.size ≤ w1.heap.size := hkp.size
  clear hb0 hb1 hkp HM
  generalize w1.heap.size = B at *
  go_loopw [17] (fun i wr => NbR1 L B (w.heap.size + 1) w.heap.size W (.slice a n cc) w i wr) (fun i _ => n - (intOf i).toNat)
  case atStart => exact ⟨0, rfl, by omega, HB0.out, HK0.out⟩
  case round =>
    obtain ⟨k, rfl, hk, hbm, hkp⟩ := hrel
    have HBM : Hid (BoardM wr B (w.heap.size + 1) w.heap.size W (.slice a n cc) (colIs L k)) := hbm
    have HKP : Hid (Kp w wr Nul) := hkp
    rw [HN.out] at hk
    clear hbm hkp HB0 HK0
    by_cases hlt : k < n
    · obtain ⟨b, o, rfl, hcl⟩ := HA.out (by omega)
      obtain ⟨x, hx⟩ : ∃ x, L[k]? = some x := ⟨_, List.getElem?_eq_getElem (by rw [HN.out]; exact hlt)⟩
      have hx1 := HV.out k x hx
      obtain ⟨x1, r⟩ := x
      obtain ⟨c, rfl⟩ := Int.eq_ofNat_of_zero_le (a := x1) (by simp at hx1; omega)
      have hc1 : 1 ≤ c := by simp at hx1; omega
      have hc2 : c ≤ 256 := by simp at hx1; omega
      have q := (hcl.kp HKP.out (fun x => x)) k _ hx
      have q1 := q.1
      have q2 := q.2
      simp only at q1 q2
      have hne1 := (HBM.out.b.ne HBM.out.m (by decide))
      have hwr : w.heap.size < wr.heap.size := HBM.out.m.lt
      have HP : Hid (∀ wq, Kp (wr.alloc (.cells #[.int .i64 (c : Int), .int .i64 r] 29)) wq Nul → Calls Tryz.prog 58 #[.slice (some ⟨w.heap.size, c * W, none⟩) W ((257 - c) * W), .int .i64 (k : Int)] wq fun e w' => e = .returned (.tuple #[]) ∧ BoardM w' B (w.heap.size + 1) w.heap.size W (.slice (some ⟨b, o, none⟩) n cc) (colIs L (k + 1)) ∧ Kp w w' Nul ∧ Kp (wr.alloc (.cells #[.int .i64 (c : Int), .int .i64 r] 29)) w' (fun i => i = w.heap.size)) := fun wq hq => by
        have hq' : Kp wr wq Nul := ((Kp.refl wr Nul).alloc _).nn hq
        refine (put_board (HBM.out.kpn hq') c k _ (by omega) (by omega) (by omega)).mono ?_
        rintro e w' ⟨rfl, h1, h2⟩
        rw [colIs_step L k c _ hx rfl] at h1
        exact ⟨rfl, h1, (HKP.out.nn hq').trans' h2 (fun i hi e => by omega), hq.of_nul.trans h2⟩
      have KS : Hid (∀ w', Kp (wr.alloc (.cells #[.int .i64 (c : Int), .int .i64 r] 29)) w' (fun i => i = w.heap.size) → (w'.cell? ⟨B, 1, none⟩ = some (.slice (some ⟨w.heap.size + 1, 0, none⟩) 257 257) ∧ w'.cell? ⟨w.heap.size + 1, c, none⟩ = some (.slice (some ⟨w.heap.size, c * W, none⟩) W ((257 - c) * W)) ∧ w'.cell? ⟨wr.heap.size, 0, none⟩ = some (.int .i64 (c : Int)))) := fun w' g => by
        have hb := HBM.out.kpn ((Kp.refl wr Nul).alloc (.cells #[.int .i64 (c : Int), .int .i64 r] 29))
        exact ⟨(hb.b.kp g hne1).cell rfl, (hb.u.kp g (by simp)).cell (by rw [upL_get (by omega), if_pos (by omega)]), ((Blk.new wr [.int .i64 (c : Int), .int .i64 r] _).kp g (fun e => by have e' : wr.heap.size = w.heap.size := e; omega)).cell rfl⟩
      have hcl' : (c : Int) < 257 := by omega
      clear q hx hx1 hcl HA
      go_wp2_with fail
      go_region_held3 (fun w' => w'.cell? ⟨B, 1, none⟩ = some (.slice (some ⟨w.heap.size + 1, 0, none⟩) 257 257) ∧ w'.cell? ⟨w.heap.size + 1, c, none⟩ = some (.slice (some ⟨w.heap.size, c * W, none⟩) W ((257 - c) * W)) ∧ w'.cell? ⟨wr.heap.size, 0, none⟩ = some (.int .i64 (c : Int)))
        (first | (refine KS.out _ ?_; assumption) | (exact KS.out _ ((Kp.refl _ _).drew)) | (exact KS.out _ (Kp.refl _ _)))
        ((go_at_call 58; refine (HP.out _ (by repeat (first | exact Kp.refl _ Nul | refine Kp.drew ?_ | refine Kp.alloc ?_ _))).mono ?_; rintro e w' ⟨rfl, hbm2, hkp2, hkp3⟩))
      all_goals
        have HBM2 : Hid (BoardM w' B (w.heap.size + 1) w.heap.size W (.slice (some ⟨b, o, none⟩) n cc) (colIs L (k + 1))) := hbm2
        have HKP2 : Hid (Kp w w' Nul) := hkp2
        clear hbm2 hkp2 hkp3 KS HP
        go_wp2_with fail
        go_roundw
        case rel => first | exact ⟨k + 1, by go_num, by rw [HN.out]; omega, HBM2.out, HKP2.out⟩ | ((repeat apply Exists.intro); refine ⟨?_, rfl⟩; exact ⟨k + 1, by go_num, by rw [HN.out]; omega, HBM2.out, HKP2.out⟩)
        case measure => simp [intOf]; omega
    · have : k = n := by omega
      subst this
      have HB2 : Hid (BoardM wr B (w.heap.size + 1) w.heap.size W (.slice a k cc) (rows2 L 0)) := by
        show BoardM _ _ _ _ _ _ _
        rw [← rows2_zero L HV.out, HN.out]; exact HBM.out
      clear HBM HA
      have HK2 : Hid (Kp w wr Nul) := HKP.out
      clear HKP
      generalize wr = wx at HB2 HK2
      go_wp2_with fail
      go_loopw [33] (fun i wr => NbR2 L B (w.heap.size + 1) w.heap.size W (.slice a k cc) w i wr) (fun i _ => 256 - (intOf i).toNat)
      case atStart => exact ⟨0, rfl, by omega, HB2.out, HK2.out⟩
      case round =>
        obtain ⟨c, rfl, hc, hbm, hkp⟩ := hrel
        have HBM : Hid (BoardM wr B (w.heap.size + 1) w.heap.size W (.slice a k cc) (rows2 L c)) := hbm
        have HKP : Hid (Kp w wr Nul) := hkp
        clear hbm hkp HB2 HK2
        by_cases hlt : c < 256
        · have q1 : wr.cell? ⟨B, 1, none⟩ = some (.slice (some ⟨w.heap.size + 1, 0, none⟩) 257 257) := HBM.out.b.cell rfl
          have q2 : wr.cell? ⟨w.heap.size + 1, c, none⟩ = some (.slice (some ⟨w.heap.size, c * W, none⟩) W ((257 - c) * W)) := HBM.out.u.cell (by rw [upL_get (by omega), if_pos (by omega)])
          have hd : decide ((c : Int) < 256) = true := by simp; omega
          have HB3 : Hid (BoardM wr B (w.heap.size + 1) w.heap.size W (.slice a k cc) (rows3 L c 0)) := by show BoardM _ _ _ _ _ _ _; rw [← rows3_zero]; exact HBM.out
          have HK3 : Hid (Kp w wr Nul) := HKP.out
          go_wp2_with fail
          clear HBM HKP q1 q2
          generalize wr = wy at HB3 HK3
          go_loopw [44] (fun i wr => NbR3 L c B (w.heap.size + 1) w.heap.size W (.slice a k cc) w i wr) (fun i _ => W - (intOf i).toNat)
          case atStart => exact ⟨0, rfl, by omega, HB3.out, HK3.out⟩
          case round =>
            obtain ⟨i, rfl, hi, hbm, hkp⟩ := hrel
            have HBM : Hid (BoardM wr B (w.heap.size + 1) w.heap.size W (.slice a k cc) (rows3 L c i)) := hbm
            have HKP : Hid (Kp w wr Nul) := hkp
            clear hbm hkp HB3 HK3
            by_cases hlt2 : i < W
            · have q1 : wr.cell? ⟨B, 1, none⟩ = some (.slice (some ⟨w.heap.size + 1, 0, none⟩) 257 257) := HBM.out.b.cell rfl
              have q2 : wr.cell? ⟨w.heap.size + 1, c + 1, none⟩ = some (.slice (some ⟨w.heap.size, (c + 1) * W, none⟩) W ((257 - (c + 1)) * W)) := HBM.out.u.cell (by rw [upL_get (by omega), if_pos (by omega)])
              have q3 : wr.cell? ⟨w.heap.size, c * W + i, none⟩ = some (.int .u64 ((Wd.wd (rows3 L c i c) i : Nat) : Int)) := HBM.out.m.cell (memL_get (by omega) hlt2)
              have q4 : wr.cell? ⟨w.heap.size, (c + 1) * W + i, none⟩ = some (.int .u64 ((Wd.wd (rows3 L c i (c + 1)) i : Nat) : Int)) := HBM.out.m.cell (memL_get (by omega) hlt2)
              have q5 : wr.frozen? ⟨w.heap.size, (c + 1) * W + i, none⟩ = false := HBM.out.m.froz _
              have HOR : Hid (bits .or .u64 (Wd.wd (rows3 L c i (c + 1)) i : Nat) (Wd.wd (rows3 L c i c) i : Nat) = (Wd.wd (rows3 L c (i + 1) (c + 1)) i : Nat)) := rows3_or L c i
              have HN2 : Hid (BoardM (wr.setCell ⟨w.heap.size, (c + 1) * W + i, none⟩ (.int .u64 ((Wd.wd (rows3 L c (i + 1) (c + 1)) i : Nat) : Int))) B (w.heap.size + 1) w.heap.size W (.slice a k cc) (rows3 L c (i + 1))) := HBM.out.set (by omega) hlt2 (fun c' i' _ _ h => rows3_step L c i c' i' h)
              have HN3 : Hid (∀ v, Kp w (wr.setCell ⟨w.heap.size, (c + 1) * W + i, none⟩ v) Nul) := fun v => HKP.out.setCell _ _ (.inl (Nat.le_refl _))
              generalize Wd.wd (rows3 L c (i + 1) (c + 1)) i = z1 at *
              generalize Wd.wd (rows3 L c i (c + 1)) i = z2 at *
              generalize Wd.wd (rows3 L c i c) i = z3 at *
              generalize (c + 1) * W = e1 at *
              generalize c * W = e2 at *
              generalize (257 - (c + 1)) * W = e3 at *
              clear HBM HKP
              go_wp2_with fail
              rw [HOR.out]
              exact ⟨⟨i + 1, by go_num, by omega, HN2.out, HN3.out _⟩, by simp [intOf]; omega⟩
            · have : i = W := by omega
              subst this
              have HBE : Hid (BoardM wr B (w.heap.size + 1) w.heap.size i (.slice a k cc) (rows2 L (c + 1))) := by
                show BoardM _ _ _ _ _ _ _
                rw [← rows3_end L c i (by rw [HN.out]; exact hWn)]; exact HBM.out
              go_wp2_with fail
              exact ⟨⟨c + 1, by go_num, by omega, HBE.out, HKP.out⟩, by simp [intOf]; omega⟩
        · go_wp2_with fail
          go_ret
          exact ⟨B, w.heap.size + 1, w.heap.size, rfl, (by have : c = 256 := by omega
                                                           subst this; exact HBM.out.congr (fun c hc p _ => rows2_end L c hc p)), ⟨hB1, by omega, by omega⟩, HKP.out⟩
end Go.Proofs.YtkgolfmnlbmmeaaGreatDoor
