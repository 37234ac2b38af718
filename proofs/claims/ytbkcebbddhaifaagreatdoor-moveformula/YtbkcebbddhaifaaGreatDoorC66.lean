/- Move: the document's own way with a formula (quadrilleref22.along), plain: the fate of lines. No function of the program here. Move: the document's along and lost (quadrilleref22). -/
import Derived.Test.YtbkcebbddhaifaaGreatDoorC31
import Derived.Test.YtbkcebbddhaifaaGreatDoorC65
import Derived.Test.YtbkcebbddhaifaaGreatDoorC36
namespace Go.Proofs.YtbkcebbddhaifaaGreatDoor
open Go.RowKit

mutual
theorem alN_of_cpy (f : Fate) : ∀ t : Nd, alN f (cpy t) = cpy (alN f t)
  | .mk h ts => by
    rw [cpy, alN, alN]
    by_cases hk : h.k = 5 ∨ h.k = 6
    · rw [if_pos hk, if_pos hk]
      unfold nmN
      have e : nmA (Nd.mk { h with x := one h.x } (cpyL ts)).hd = nmA (Nd.mk h ts).hd := rfl
      rw [e]
      cases f (nmA (Nd.mk h ts).hd) with
      | none => exact ndF_cpy.symm
      | some a =>
        simp only
        rw [cpy]
        show Nd.mk (toH { h with x := one h.x } a) (cpyL ts) = Nd.mk { toH h a with x := one (toH h a).x } (cpyL ts)
        unfold toH
        split <;> rfl
    · rw [if_neg hk, if_neg hk, cpy, alL_of_cpy f ts]
theorem alL_of_cpy (f : Fate) : ∀ ts : List Nd, alL f (cpyL ts) = cpyL (alL f ts)
  | [] => by rw [cpyL, alL, cpyL]
  | t :: ts => by rw [cpyL, alL, alL, cpyL, alN_of_cpy f t, alL_of_cpy f ts]
end
/-- What the program answers is what the document does. -/
theorem al_same (f : Fate) (t : Nd) : tsame (alN f (cpy t)) (alN f t) = true := by rw [alN_of_cpy, tsame_cpy, tsame_refl]
theorem alL_take (f : Fate) (ts : List Nd) (k : Nat) (h : k < ts.length) : alL f (ts.take (k + 1)) = alL f (ts.take k) ++ [alN f ts[k]] := by
  rw [alL_map, alL_map, List.take_add_one, List.getElem?_eq_getElem h, List.map_append]
  rfl
/-- The head of a node whose references went along, and whether they are there still. -/
def goH (cols : Bool) (at' n : Int) (h : Hd) : Option Hd :=
  if h.k = 5 then
    (if cols then (if 0 < pl at' n 256 h.c1 then some { h with c1 := pl at' n 256 h.c1 } else none)
     else (if 0 < pl at' n 4096 h.r1 then some { h with r1 := pl at' n 4096 h.r1 } else none))
  else if h.k = 6 then
    (if cols then (if 0 < (spA at' n 256 h.c1 (h.c2 + 1)).1 then some { h with c1 := (spA at' n 256 h.c1 (h.c2 + 1)).1, c2 := (spA at' n 256 h.c1 (h.c2 + 1)).2 } else none)
     else (if 0 < (spA at' n 4096 h.r1 (h.r2 + 1)).1 then some { h with r1 := (spA at' n 4096 h.r1 (h.r2 + 1)).1, r2 := (spA at' n 4096 h.r1 (h.r2 + 1)).2 } else none))
  else some h
/-- The lines that a node names are lines. -/
def lnIn (h : Hd) : Prop := (h.k = 5 → 1 ≤ h.c1 ∧ h.c1 ≤ 256 ∧ 1 ≤ h.r1 ∧ h.r1 ≤ 4096) ∧ (h.k = 6 → 1 ≤ h.c1 ∧ h.c1 ≤ h.c2 ∧ h.c2 ≤ 256 ∧ 1 ≤ h.r1 ∧ h.r1 ≤ h.r2 ∧ h.r2 ≤ 4096)
theorem fe_own {h : Hd} {ts : List Nd} {c : Bool} (h0 : (Nd.mk h ts).fe c = 0) : ownE h ts.length c = 0 ∧ ∃ c', feL ts c' = 0 := by
  rw [Nd.fe] at h0
  by_cases ho : ownE h ts.length c = 0
  · rw [if_neg (by rw [ho]; decide)] at h0
    exact ⟨ho, _, h0⟩
  · rw [if_pos ho] at h0; exact absurd h0 ho
theorem feL_get {ts : List Nd} {c : Bool} (h0 : feL ts c = 0) : ∀ k, (h : k < ts.length) → (ts[k]).fe c = 0 := by
  induction ts with
  | nil => intro k h; simp at h
  | cons t ts ih =>
    rw [feL] at h0
    by_cases ht : t.fe c = 0
    · rw [if_neg (by rw [ht]; decide)] at h0
      intro k h
      cases k with
      | zero => exact ht
      | succ k => exact ih h0 k (by simpa using h)
    · rw [if_pos ht] at h0; exact absurd h0 ht
theorem fe_lnIn {h : Hd} {ts : List Nd} {c : Bool} (h0 : (Nd.mk h ts).fe c = 0) : lnIn h ∧ (h.k = 5 ∨ h.k = 6 → ts = []) := by
  have ho := (fe_own h0).1
  have hw : wm h ts.length = true := by
    cases q : wm h ts.length with
    | true => rfl
    | false => unfold ownE at ho; rw [if_pos q] at ho; omega
  refine ⟨⟨fun e => ?_, fun e => ?_⟩, fun hk => List.length_eq_zero_iff.1 (wm_len hk hw)⟩
  · unfold ownE at ho
    rw [if_neg (by rw [hw]; decide), if_pos e] at ho
    have hv : vA h.c1 h.r1 h.c1 h.r1 = true := by
      split at ho
      · assumption
      · omega
    have := (ar_ok ((h.c1, h.r1), (h.c1, h.r1))).1 hv
    simp only at this
    omega
  · unfold ownE at ho
    rw [if_neg (by rw [hw]; decide), if_neg (show ¬ h.k = 5 by omega), if_pos e] at ho
    have hv : vA h.c1 h.r1 h.c2 h.r2 = true := by
      split at ho
      · assumption
      · omega
    have := (ar_ok ((h.c1, h.r1), (h.c2, h.r2))).1 hv
    simp only at this
    omega
theorem goH_is {cols : Bool} {at' n : Int} (hl : lnOk cols at' n) {h : Hd} {ts : List Nd} (hi : lnIn h) (hts : h.k = 5 ∨ h.k = 6 → ts = []) : alN (lnF cols at' n) (.mk h ts) = (match goH cols at' n h with | some g => .mk g (alL (lnF cols at' n) ts) | none => ndF) := by
  rw [alN]
  by_cases hk : h.k = 5 ∨ h.k = 6
  rotate_left
  · rw [if_neg hk]
    unfold goH
    rw [if_neg (fun e => hk (.inl e)), if_neg (fun e => hk (.inr e))]
  rw [if_pos hk]
  obtain rfl := hts hk
  rw [alL]
  unfold nmN lnOk at *
  rcases hk with e | e
  · obtain ⟨i1, i2, i3, i4⟩ := hi.1 e
    have e6 : ¬ h.k = 6 := by omega
    have hA : nmA (Nd.mk h []).hd = ((h.c1, h.r1), (h.c1, h.r1)) := by
      show nmA h = _
      unfold nmA; rw [if_neg e6]
    rw [hA]
    unfold goH
    rw [if_pos e]
    unfold lnF
    cases cols
    · simp only [Bool.false_eq_true, if_false] at hl ⊢
      rw [thr_same i1 (Int.le_refl _) i2, thr_pl hl i3 i4]
      by_cases q : 0 < pl at' n 4096 h.r1
      · simp only [if_pos q]
        show Nd.mk (toH h _) [] = _
        unfold toH; rw [if_neg e6]
      · simp only [if_neg q]
    · simp only [if_true] at hl ⊢
      rw [thr_same i3 (Int.le_refl _) i4, thr_pl hl i1 i2]
      by_cases q : 0 < pl at' n 256 h.c1
      · simp only [if_pos q]
        show Nd.mk (toH h _) [] = _
        unfold toH; rw [if_neg e6]
      · simp only [if_neg q]
  · obtain ⟨i1, i2, i3, i4, i5, i6⟩ := hi.2 e
    have e5 : ¬ h.k = 5 := by omega
    have hA : nmA (Nd.mk h []).hd = ((h.c1, h.r1), (h.c2, h.r2)) := by
      show nmA h = _
      unfold nmA; rw [if_pos e]
    rw [hA]
    unfold goH
    rw [if_neg e5, if_pos e]
    unfold lnF
    cases cols
    · simp only [Bool.false_eq_true, if_false] at hl ⊢
      rw [thr_same i1 i2 i3]
      rcases spA_end (a := h.r1) (b := h.r2) hl with ⟨q1, q2⟩ | ⟨r, q1, q2, q3⟩
      · rw [q1, q2]; rfl
      · rw [q1, q2]
        simp only [if_pos q3]
        show Nd.mk (toH h _) [] = _
        unfold toH; rw [if_pos e]
    · simp only [if_true] at hl ⊢
      rw [thr_same i4 i5 i6]
      rcases spA_end (a := h.c1) (b := h.c2) hl with ⟨q1, q2⟩ | ⟨r, q1, q2, q3⟩
      · rw [q1, q2]; rfl
      · rw [q1, q2]
        simp only [if_pos q3]
        show Nd.mk (toH h _) [] = _
        unfold toH; rw [if_pos e]
end Go.Proofs.YtbkcebbddhaifaaGreatDoor
namespace Go.Proofs.YtbkcebbddhaifaaGreatDoor
open Go.RowKit

set_option maxHeartbeats 4000000 in
theorem rlost_at (w : World) : Calls Tryz.prog 106 #[] w fun e w' => e = .returned (ndF.hd.val (.slice none 0 0)) ∧ Kp w w' Nul := by
  go_enter Tryz.func106, Tryz.ntmps106
  go_wp2
  refine bodyPost_ret (results_cell_row rfl _ _ w.heap.size 44 _ (0, 0) _ rfl (heap_alloc_new _ _) Tryz.underlying44 rfl infoNode) rfl ?_
  exact ⟨rfl, (Kp.refl _ _).alloc _⟩
theorem NdOwn.hd_any {w : World} {sl : Value} {h g : Hd} {ts : List Nd} {fp : List Nat} (q : NdOwn w sl (.mk h ts) fp) : NdOwn w sl (.mk g ts) fp := by rw [NdOwn] at q ⊢; exact q
set_option maxRecDepth 20000 in
set_option maxHeartbeats 8000000 in
theorem ralong_any (cols : Bool) (at' n' : Int) (hl : lnOk cols at' n') (m lb : Nat) (hm' : (m : Int) = if cols then 256 else 4096) (N : Nat) : ∀ (t : Nd) (sl : Value) (F : Nat → Prop) (cc : Bool) (w : World), t.size ≤ N → t.size ≤ 1048576 → t.fe cc = 0 → NdIn w F sl t → Blk w lb (ints (plL at' n' m m (m + 1))) 3 →
    Calls Tryz.prog 54 #[t.hd.val sl, .bool cols, .slice (some ⟨lb, 0, none⟩) (m + 1) (m + 1)] w fun e w' => ∃ sl' fp, e = .returned ((alN (lnF cols at' n') t).hd.val sl') ∧ Own w' w.heap.size sl' (alN (lnF cols at' n') t) fp ∧ Below w.heap.size w w' := by
  induction N with
  | zero => intro t sl F cc w h; have := size_pos t; omega
  | succ N ih =>
    intro t sl F cc w hN hm hok hin hlb
    obtain ⟨h, ts⟩ := t
    rw [NdIn] at hin
    obtain ⟨a, c, rfl, _, _, h4⟩ := hin
    have hsz : Hid ((Nd.mk h ts).size = 1 + sizeL ts) := by show _ = _; rw [Nd.size]
    have HN : Hid ((Nd.mk h ts).size ≤ N + 1) := hN
    have HM : Hid ((Nd.mk h ts).size ≤ 1048576) := hm
    have IH : Hid (∀ (t : Nd) (sl : Value) (F : Nat → Prop) (cc : Bool) (w : World), t.size ≤ N → t.size ≤ 1048576 → t.fe cc = 0 → NdIn w F sl t → Blk w lb (ints (plL at' n' m m (m + 1))) 3 →
      Calls Tryz.prog 54 #[t.hd.val sl, .bool cols, .slice (some ⟨lb, 0, none⟩) (m + 1) (m + 1)] w fun e w' => ∃ sl' fp, e = .returned ((alN (lnF cols at' n') t).hd.val sl') ∧ Own w' w.heap.size sl' (alN (lnF cols at' n') t) fp ∧ Below w.heap.size w w') := ih
    have H4 : Hid ((ts = [] ∧ (c = 0 ∨ a ≠ none)) ∨ ∃ b o, a = some ⟨b, o, none⟩ ∧ F b ∧ NdsIn w F b o ts) := h4
    have hln := length_sizeL ts
    have HLM : Hid (ts.length ≤ 1048576) := by show _ ≤ _; have := hsz.out; omega
    clear ih hN hm h4 hln
    obtain ⟨hlin, hts0⟩ := fe_lnIn hok
    obtain ⟨_, cd, hfl⟩ := fe_own hok
    obtain ⟨A, hA⟩ : ∃ A, alN (lnF cols at' n') (.mk h ts) = A := ⟨_, rfl⟩
    have HA : Hid (A = (match goH cols at' n' h with | some g => .mk g (alL (lnF cols at' n') ts) | none => ndF)) := by show A = _; rw [← hA]; exact goH_is hl hlin hts0
    rw [hA]
    clear hA
    obtain ⟨AH, hAH⟩ : ∃ AH, A.hd = AH := ⟨_, rfl⟩
    have HAH : Hid (A.hd = AH) := hAH
    rw [hAH]
    clear hAH
    simp only [Nd.hd]
    have HLI : Hid (lnIn h) := hlin
    have HTS : Hid (h.k = 5 ∨ h.k = 6 → ts = []) := hts0
    have HOK : Hid (feL ts cd = 0) := hfl
    have HLB : Hid (∀ wq, Below w.heap.size w wq → Blk wq lb (ints (plL at' n' m m (m + 1))) 3) := fun wq q => (q.block lb hlb.lt).trans hlb
    clear hok hlin hts0 hfl hlb
    generalize hn : ts.length = n at *
    have HL : Hid (ts.length = n) := hn
    clear hn
    obtain ⟨W0, hW0⟩ : ∃ W0, (((w.alloc (.cells (h.cells (.slice a n c)).toArray 44)).alloc (.cells [.int .i64 0, .int .i64 0, .float .f64 0, .string ⟨#[]⟩, .bool false, .int .i64 0, .int .i64 0, .int .i64 0, .bool false, .bool false, .int .i64 0, .int .i64 0, .bool false, .bool false, .slice none 0 0].toArray 44)).alloc (.cells (h.cells (.slice none 0 0)).toArray 44)) = W0 := ⟨_, rfl⟩
    have OS := OwAt.start (w := w) (h.cells (.slice a n c)) [.int .i64 0, .int .i64 0, .float .f64 0, .string ⟨#[]⟩, .bool false, .int .i64 0, .int .i64 0, .int .i64 0, .bool false, .bool false, .int .i64 0, .int .i64 0, .bool false, .bool false, .slice none 0 0] h
    rw [hW0] at OS
    have HOS : Hid (OwAt w W0 (h.cells (.slice a n c)) [.int .i64 0, .int .i64 0, .float .f64 0, .string ⟨#[]⟩, .bool false, .int .i64 0, .int .i64 0, .int .i64 0, .bool false, .bool false, .int .i64 0, .int .i64 0, .bool false, .bool false, .slice none 0 0] h [] (.slice none 0 0) []) := OS
    have RR : Hid (∀ o, ((w.alloc (.cells (h.cells (.slice a n c)).toArray 44)).alloc o).rangeAt w.heap.size 0 (h.cells (.slice a n c))) := fun o => rangeAt_alloc_two w _ _ o
    clear OS
    obtain ⟨k, o', x, s, bb, f, c1, r1, p1, q1, c2, r2, p2, q2⟩ := h
    have HW : Hid ((((w.alloc (.cells #[.int .i64 k, .int .i64 o', .float .f64 x, .string s, .bool bb, .int .i64 f, .int .i64 c1, .int .i64 r1, .bool p1, .bool q1, .int .i64 c2, .int .i64 r2, .bool p2, .bool q2, .slice a n c] 44)).alloc (.cells #[.int .i64 0, .int .i64 0, .float .f64 0, .string ⟨#[]⟩, .bool false, .int .i64 0, .int .i64 0, .int .i64 0, .bool false, .bool false, .int .i64 0, .int .i64 0, .bool false, .bool false, .slice none 0 0] 44)).alloc (.cells #[.int .i64 k, .int .i64 o', .float .f64 x, .string s, .bool bb, .int .i64 f, .int .i64 c1, .int .i64 r1, .bool p1, .bool q1, .int .i64 c2, .int .i64 r2, .bool p2, .bool q2, .slice none 0 0] 44)) = W0) := hW0
    clear hW0
    obtain ⟨i0, hi, hz0, hz1, hz2⟩ := infoNodeI
    go_enter Tryz.func54, Tryz.ntmps54
    go_wp2_with (first | (refine wpList_load_mid rfl 44 (.tmp 3) rfl w.heap.size 0 rfl (Hd.cells ⟨k, o', x, s, bb, f, c1, r1, p1, q1, c2, r2, p2, q2⟩ (.slice a n c)) _ (RR.out _) Tryz.underlying44 rfl infoNode ?_) | (refine wpList_store_new rfl 44 (.tmp 7) (.tmp 10) rfl _ _ _ _ _ (by first | rfl | simp) rfl rfl rfl infoNode (Hd.one ⟨k, o', x, s, bb, f, c1, r1, p1, q1, c2, r2, p2, q2⟩ rfl) ?_))
    rw [HW.out]
    clear HW RR
    go_loopw [8] (fun i wr => ∃ (q : Nat) (v : Value) (fp : List Nat), q ≤ n ∧ i = .int .i64 q ∧ OwAt w wr (Hd.cells ⟨k, o', x, s, bb, f, c1, r1, p1, q1, c2, r2, p2, q2⟩ (.slice a n c)) [.int .i64 0, .int .i64 0, .float .f64 0, .string ⟨#[]⟩, .bool false, .int .i64 0, .int .i64 0, .int .i64 0, .bool false, .bool false, .int .i64 0, .int .i64 0, .bool false, .bool false, .slice none 0 0] ⟨k, o', x, s, bb, f, c1, r1, p1, q1, c2, r2, p2, q2⟩ (alL (lnF cols at' n') (ts.take q)) v fp) (fun i _ => n - (intOf i).toNat)
    case atStart => exact ⟨0, .slice none 0 0, [], Nat.zero_le _, rfl, by rw [List.take_zero, alL]; exact HOS.out⟩
    case round =>
      obtain ⟨q, v, fp, hq, rfl, hat⟩ := hrel
      have AT : Hid (OwAt w wr (Hd.cells ⟨k, o', x, s, bb, f, c1, r1, p1, q1, c2, r2, p2, q2⟩ (.slice a n c)) [.int .i64 0, .int .i64 0, .float .f64 0, .string ⟨#[]⟩, .bool false, .int .i64 0, .int .i64 0, .int .i64 0, .bool false, .bool false, .int .i64 0, .int .i64 0, .bool false, .bool false, .slice none 0 0] ⟨k, o', x, s, bb, f, c1, r1, p1, q1, c2, r2, p2, q2⟩ (alL (lnF cols at' n') (ts.take q)) v fp) := hat
      have hlt3 := hat.lt
      have hbel : Below w.heap.size w wr := hat.bel
      have x14 : wr.cell? ⟨w.heap.size, 14, none⟩ = some (.slice a n c) := hat.b1.cell rfl
      by_cases hlt : q < n
      · have hqt : q < ts.length := by rw [HL.out]; exact hlt
        obtain ⟨b, o, rfl, hFb, hns⟩ : ∃ b o, a = some ⟨b, o, none⟩ ∧ F b ∧ NdsIn w F b o ts := by
          rcases H4.out with h | h
          · rw [h.1] at hqt; simp at hqt
          · exact h
        obtain ⟨s1, hr, hni⟩ := hns.get q hqt
        obtain ⟨pv, lv, cv, rfl⟩ := ndOwn_slice hat.own.own
        obtain ⟨xs, hxs⟩ := hat.own.row
        have hul : Hid ((alL (lnF cols at' n') (ts.take q)).length = q) := by show _ = _; rw [alL_len, List.length_take]; omega
        have hbw : b < w.heap.size := rangeAt_lt hr
        have HS : Hid (∀ wq, Below (w.heap.size + 3) wr wq → wq.cell? ⟨w.heap.size, 14, none⟩ = some (.slice (some ⟨b, o, none⟩) n c) ∧ wq.cell? ⟨w.heap.size + 2, 14, none⟩ = some (.slice pv lv cv)) := fun wq hk => ⟨(hk.cell (by simp)).trans (hat.b1.cell rfl), (hk.cell (by simp)).trans (hat.b3.cell rfl)⟩
        have HR : Hid (∀ wq, Below (w.heap.size + 3) wr wq → wq.rangeAt b (o + q * 15) ((ts[q]).hd.cells s1)) := fun wq hk => rangeAt_block hr ((hk.block b (by omega)).trans (hat.bel.block b hbw))
        have hs1 := size_get ts q hqt
        have hni' : ∀ wq, Below wr.heap.size wr wq → NdIn wq F s1 ts[q] := fun wq hk => hni.mono fun b hb hl => ⟨(hk.block b (by omega)).trans (hat.bel.block b hl), hb⟩
        have HC : Hid (∀ wq, Below wr.heap.size wr wq → Calls Tryz.prog 54 #[(ts[q]).hd.val s1, .bool cols, .slice (some ⟨lb, 0, none⟩) (m + 1) (m + 1)] wq fun e w' => ∃ sl' fp, e = .returned ((alN (lnF cols at' n') ts[q]).hd.val sl') ∧ Own w' wq.heap.size sl' (alN (lnF cols at' n') ts[q]) fp ∧ Below wq.heap.size wq w') := fun wq hq => IH.out ts[q] s1 F cd wq (by have := HN.out; have := hsz.out; omega) (by have := HM.out; have := hsz.out; omega) (feL_get HOK.out q hqt) (hni' wq hq) (HLB.out wq (hbel.trans (hq.mono hbel.size)))
        have hu3 : Hid (alL (lnF cols at' n') (ts.take (q + 1)) = alL (lnF cols at' n') (ts.take q) ++ [alN (lnF cols at' n') ts[q]]) := alL_take _ ts q hqt
        have O1 : Hid (s1.oneCell' = true) := hni.one
        clear hs1 hni hni' hr hns
        generalize alN (lnF cols at' n') ts[q] = u at *
        generalize (ts[q]).hd = hh at *
        generalize alL (lnF cols at' n') (ts.take q) = us at *
        have hkb : (q : Int) + 1 ≤ 9223372036854775807 := by have := HLM.out; omega
        have hq0 : (0 : Int) ≤ (q : Int) := by omega
        have hqn : (q : Int) < (n : Int) := by omega
        have HX3 : Hid (∀ w2, Below wr.heap.size wr w2 → ∀ o, (w2.alloc o).ownsRow (w.heap.size + 3) 44 15 (.slice pv lv cv) us.length xs) := fun w2 h2 o => (ownsRow_below hxs h2).alloc o
        clear hat hxs
        go_wp2_with fail
        refine wp_region_noPanic ?_
        refine wp_region_but (fun w' : World => Below (w.heap.size + 3) wr w') 13 (by kernel_rfl) ((Below.refl _ _).drew) (fun hHeld => ?_)
        refine wpBut_takes (i := 0) (v :=?_) (some 19) rfl rfl (by kernel_rfl) (by kernel_rfl) (by kernel_rfl) (by kernel_rfl) (fun _ _ _ h => h) (Or.inl ⟨by rfl, ?_⟩) hHeld ?_
        rotate_left
        · intro w' hSw; obtain ⟨s0, s1⟩ := HS.out _ hSw; clear hSw; go_simp; try with_reducible rfl
        simp only [Act.put, List.setIfInBounds_toArray, List.set_cons_zero, List.set_cons_succ]
        refine wpBut_takes (i := 1) (v :=?_) (some 20) rfl rfl (by kernel_rfl) (by kernel_rfl) (by kernel_rfl) (by kernel_rfl) (fun _ _ _ h => h) (Or.inl ⟨by rfl, ?_⟩) hHeld ?_
        rotate_left
        · intro w' hSw; obtain ⟨s0, s1⟩ := HS.out _ hSw; clear hSw; go_simp; try with_reducible rfl
        simp only [Act.put, List.setIfInBounds_toArray, List.set_cons_zero, List.set_cons_succ]
        refine wpBut_takes (i := 2) (v :=?_) (some 21) rfl rfl (by kernel_rfl) (by kernel_rfl) (by kernel_rfl) (by kernel_rfl) (fun _ _ _ h => h) (Or.inl ⟨by rfl, ?_⟩) hHeld ?_
        rotate_left
        · intro w' hSw; obtain ⟨s0, s1⟩ := HS.out _ hSw; clear hSw; go_simp; try with_reducible rfl
        simp only [Act.put, List.setIfInBounds_toArray, List.set_cons_zero, List.set_cons_succ]
        refine wpBut_takes (i := 3) (v :=?_) (some 22) rfl rfl (by kernel_rfl) (by kernel_rfl) (by kernel_rfl) (by kernel_rfl) (fun _ _ _ h => h) (Or.inl ⟨by rfl, ?_⟩) hHeld ?_
        rotate_left
        · intro w' hSw; obtain ⟨s0, s1⟩ := HS.out _ hSw; clear hSw; go_simp; try with_reducible rfl
        simp only [Act.put, List.setIfInBounds_toArray, List.set_cons_zero, List.set_cons_succ]
        refine wpBut_takes (i := 4) (v :=?_) (some 23) rfl rfl (by kernel_rfl) (by kernel_rfl) (by kernel_rfl) (by kernel_rfl) (fun _ _ _ h => h) (Or.inl ⟨by rfl, ?_⟩) hHeld ?_
        rotate_left
        · intro w' hSw; obtain ⟨s0, s1⟩ := HS.out _ hSw; clear hSw; go_simp; try with_reducible rfl
        simp only [Act.put, List.setIfInBounds_toArray, List.set_cons_zero, List.set_cons_succ]
        refine wpBut_takes (i := 5) (v :=?_) (some 24) rfl rfl (by kernel_rfl) (by kernel_rfl) (by kernel_rfl) (by kernel_rfl) (fun _ _ _ h => h) (Or.inl ⟨by rfl, ?_⟩) hHeld ?_
        rotate_left
        · intro w' hSw; obtain ⟨s0, s1⟩ := HS.out _ hSw; clear hSw; go_simp; try with_reducible rfl
        simp only [Act.put, List.setIfInBounds_toArray, List.set_cons_zero, List.set_cons_succ]
        refine wpBut_takes (i := 6) (v :=hh.val s1) (some 25) rfl rfl (by kernel_rfl) (by kernel_rfl) (by kernel_rfl) (by kernel_rfl) (fun _ _ _ h => h) (Or.inl ⟨by rfl, fun w' hSw => exec_node_at (hh.cells s1) rfl rfl (HR.out w' hSw) rfl⟩) hHeld ?_
        simp only [Act.put, List.setIfInBounds_toArray, List.set_cons_zero, List.set_cons_succ]
        refine wpBut_takes (i := 7) (v :=?_) (some 26) rfl rfl (by kernel_rfl) (by kernel_rfl) (by kernel_rfl) (by kernel_rfl) (fun _ _ _ h => h) (Or.inl ⟨by rfl, ?_⟩) hHeld ?_
        rotate_left
        · intro w' hSw; clear hSw; go_simp; try with_reducible rfl
        simp only [Act.put, List.setIfInBounds_toArray, List.set_cons_zero, List.set_cons_succ]
        refine wpBut_takes (i := 8) (v :=?_) (some 27) rfl rfl (by kernel_rfl) (by kernel_rfl) (by kernel_rfl) (by kernel_rfl) (fun _ _ _ h => h) (Or.inl ⟨by rfl, ?_⟩) hHeld ?_
        rotate_left
        · intro w' hSw; clear hSw; go_simp; try with_reducible rfl
        simp only [Act.put, List.setIfInBounds_toArray, List.set_cons_zero, List.set_cons_succ]
        refine wpBut_step (i := 9) (by kernel_rfl) rfl rfl (fun K hK => ?_)
        go_simp
        refine (HC.out _ ((Below.refl _ _).drew)).mono ?_
        rintro e w2 ⟨su, fu, rfl, hown, hbl⟩
        have hb2 : Below wr.heap.size wr w2 := ((Below.refl wr.heap.size wr).drew).trans hbl
        have HB2 : Hid (Below wr.heap.size wr w2) := hb2
        have HU : Hid (Own w2 wr.heap.size su u fu) := hown
        refine hK.out _ _ (fun _ => hb2.mono hlt3) (fun _ => ?_)
        clear hK K hHeld hown hbl HC HS HR x14
        refine wpBut_step (i := 10) (by kernel_rfl) rfl rfl (fun K hK => ?_)
        go_simp
        refine hK.out _ _ (fun _ => (hb2.alloc hb2.size _).mono hlt3) (fun _ => ?_)
        clear hK K
        refine wpBut_step (i := 11) (by kernel_rfl) rfl rfl (fun K hK => ?_)
        refine wp_append_tell _ (.tmp 20) (.tmp 29) 42 rfl (w.heap.size + 3) 44 i0 _ 15 128 Tryz.underlying42 hi hz0 hz1 hz2 rfl (by decide) (.slice pv lv cv) us.length xs rfl (HX3.out w2 HB2.out _) ⟨w2.heap.size, 0, none⟩ 1 1 (u.hd.cells su) rfl rfl ?c1 ?c2 (by decide) ?c3 ?c4 ?c5 ?_
        case c1 =>
          intro j u' hj
          rw [addr_at, Nat.zero_add]
          exact (Blk.new w2 (u.hd.cells su) 44).cell hj
        case c2 => exact hd_ones u.hd HU.out.own.one
        case c3 => rw [hul.out]; unfold maxLen; omega
        case c4 => rw [hul.out]; have := HLM.out; omega
        case c5 => have := hb2.size; simp [World.size_alloc]; omega
        intro g c' w4 ho hgr ht
        obtain ⟨fp', hat5⟩ := AT.out.step HB2.out (Nat.le_refl _) HU.out (HX3.out w2 HB2.out _) ho hgr ht
        have h4b : Below (w.heap.size + 3) wr w4 := by
          refine ⟨hgr.os.trans hb2.os, hgr.tape.trans hb2.tape, hgr.output.trans hb2.output, ?_, fun i hi => ?_⟩
          · have h1 := hgr.size; have h2 := hb2.size; rw [World.size_alloc] at h1; omega
          · rw [hgr.block i (by rw [World.size_alloc]; have := hb2.size; omega) (fun e => by have := ((HX3.out w2 HB2.out (.cells #[] 0)).lt i e.symm).1; omega), Below.heap_alloc _ _ _ (by have := hb2.size; omega)]
            exact hb2.block i (by omega)
        have A5 : Hid (OwAt w _ _ _ _ _ _ fp') := hat5
        refine hK.out _ _ (fun _ => h4b) (fun hHeld => ?_)
        have f3 : w4.frozen? ⟨w.heap.size + 2, 14, none⟩ = false := by
          have : Blk w4 (w.heap.size + 2) _ 44 := (h4b.block _ (by omega)).trans AT.out.b3
          exact this.froz _
        have c3 : w4.cell? ⟨w.heap.size + 2, 14, none⟩ = some (.slice pv lv cv) := by
          have : Blk w4 (w.heap.size + 2) _ 44 := (h4b.block _ (by omega)).trans AT.out.b3
          exact this.cell rfl
        clear hK K hat5 ho hgr ht h4b hb2
        simp only [Act.put, List.setIfInBounds_toArray]
        refine wpBut_step (i := 12) (by kernel_rfl) rfl rfl (fun K hK => ?_)
        go_simp
        refine hK.out _ _ (fun _ => hHeld (by decide)) (fun _ => ?_)
        clear hK K
        refine wpBut_step (i := 13) (by kernel_rfl) rfl rfl (fun K hK => ?_)
        go_simp
        refine hK.out _ _ (fun h => absurd rfl h) (fun _ => ?_)
        clear hK K hHeld c3 f3
        refine wpBut_done (by kernel_rfl) ?_
        refine NoPanic.normal ?_
        go_wp2_with fail
        go_roundw
        case rel => exact ⟨q + 1, _, fp', by omega, by go_num, by rw [hu3.out]; exact A5.out⟩
        case measure => simp only [intOf]; omega
      · have hqe : q = n := by omega
        subst hqe
        have hqn : ¬ ((q : Int) < (q : Int)) := by omega
        have hall : alL (lnF cols at' n') (ts.take q) = alL (lnF cols at' n') ts := by rw [List.take_of_length_le (by rw [HL.out]; exact Nat.le_refl _)]
        rw [hall] at AT hat
        have B1 : Hid (Blk wr w.heap.size (Hd.cells ⟨k, o', x, s, bb, f, c1, r1, p1, q1, c2, r2, p2, q2⟩ (.slice a q c)) 44) := hat.b1
        have B2 : Hid (Blk wr (w.heap.size + 1) [.int .i64 0, .int .i64 0, .float .f64 0, .string ⟨#[]⟩, .bool false, .int .i64 0, .int .i64 0, .int .i64 0, .bool false, .bool false, .int .i64 0, .int .i64 0, .bool false, .bool false, .slice none 0 0] 44) := hat.b2
        have B3 : Hid (Blk wr (w.heap.size + 2) (Hd.cells ⟨k, o', x, s, bb, f, c1, r1, p1, q1, c2, r2, p2, q2⟩ v) 44) := hat.b3
        have OWN : Hid (Own wr (w.heap.size + 3) v (.mk ⟨k, o', x, s, bb, f, c1, r1, p1, q1, c2, r2, p2, q2⟩ (alL (lnF cols at' n') ts)) fp) := hat.own
        have BEL : Hid (Below w.heap.size w wr) := hat.bel
        have LB : Hid (Blk wr lb (ints (plL at' n' m m (m + 1))) 3) := HLB.out wr hat.bel
        have O1 : Hid (v.oneCell' = true) := hat.own.own.one
        have x0 : wr.cell? ⟨w.heap.size, 0, none⟩ = some (.int .i64 k) := hat.b1.cell rfl
        have FIN : Hid (∀ (g : Hd) (W5 : World), goH cols at' n' ⟨k, o', x, s, bb, f, c1, r1, p1, q1, c2, r2, p2, q2⟩ = some g → Kp wr W5 (fun i => i = w.heap.size + 1 ∨ i = w.heap.size + 2) → ∃ sl' fp', Ending.returned (g.val v) = .returned (AH.val sl') ∧ Own W5 w.heap.size sl' A fp' ∧ Below w.heap.size w W5) := fun g W5 hg hk => by
          have e := HA.out
          rw [hg] at e
          simp only at e
          rw [← HAH.out, e]
          refine ⟨v, fp, rfl, ⟨NdOwn.hd_any (OWN.out.own.mono (fun b hb => hk.block b (OWN.out.new b hb).2 (fun z => by have := (OWN.out.new b hb).1; rcases z with z | z <;> omega))), OWN.out.nodup, fun b hb => ⟨by have := (OWN.out.new b hb).1; omega, Nat.lt_of_lt_of_le (OWN.out.new b hb).2 hk.size⟩⟩, ?_⟩
          exact ((Kp.of_below BEL.out : Kp w wr Nul).trans' hk (fun i hi z => by rcases z with z | z <;> omega)).below
        have LOST : Hid (∀ (W5 : World), goH cols at' n' ⟨k, o', x, s, bb, f, c1, r1, p1, q1, c2, r2, p2, q2⟩ = none → Kp wr W5 (fun i => i = w.heap.size + 1 ∨ i = w.heap.size + 2) → ∃ sl' fp', Ending.returned (ndF.hd.val (.slice none 0 0)) = .returned (AH.val sl') ∧ Own W5 w.heap.size sl' A fp' ∧ Below w.heap.size w W5) := fun W5 hg hk => by
          have e := HA.out
          rw [hg] at e
          simp only at e
          rw [← HAH.out, e]
          refine ⟨.slice none 0 0, [], rfl, ⟨by unfold ndF; rw [NdOwn]; exact .inl ⟨rfl, rfl, rfl⟩, List.nodup_nil, fun b hb => by simp at hb⟩, ?_⟩
          exact ((Kp.of_below BEL.out : Kp w wr Nul).trans' hk (fun i hi z => by rcases z with z | z <;> omega)).below
        have HLo : Hid (∀ w, Calls Tryz.prog 106 #[] w fun e w' => e = .returned (ndF.hd.val (.slice none 0 0)) ∧ Kp w w' Nul) := rlost_at
        clear hat AT IH H4 HOS HOK hall HLB HA
        by_cases k5 : k = 5
        · subst k5
          obtain ⟨i1, i2, i3, i4⟩ := HLI.out.1 rfl
          simp only at i1 i2 i3 i4
          cases cols
          · obtain ⟨z, hz⟩ : ∃ z : Nat, r1 = (z : Int) := ⟨r1.toNat, by omega⟩
            subst hz
            have hm2 : m = 4096 := by simp only [Bool.false_eq_true, if_false] at hm'; omega
            subst hm2
            have lz : wr.cell? ⟨lb, z, none⟩ = some (.int .i64 (pl at' n' 4096 z)) := LB.out.cell (ints_get (by rw [plL_get (by omega), if_pos (by omega)]; rfl))
            have x6 : wr.cell? ⟨w.heap.size, 7, none⟩ = some (.int .i64 (z : Int)) := B1.out.cell rfl
            have y6 : wr.cell? ⟨w.heap.size + 2, 7, none⟩ = some (.int .i64 (z : Int)) := B3.out.cell rfl
            have f6 : wr.frozen? ⟨w.heap.size + 2, 7, none⟩ = false := B3.out.froz _
            have hgo : goH false at' n' ⟨5, o', x, s, bb, f, c1, (z : Int), p1, q1, c2, r2, p2, q2⟩ = if 0 < pl at' n' 4096 (z : Int) then some ⟨5, o', x, s, bb, f, c1, pl at' n' 4096 (z : Int), p1, q1, c2, r2, p2, q2⟩ else none := by unfold goH; rw [if_pos rfl]; simp only [Bool.false_eq_true, if_false]
            obtain ⟨P, hP⟩ : ∃ P, pl at' n' 4096 (z : Int) = P := ⟨_, rfl⟩
            rw [hP] at hgo lz
            clear hP
            obtain ⟨X, hX⟩ : ∃ X, wr.setCell ⟨w.heap.size + 2, 7, none⟩ (.int .i64 P) = X := ⟨_, rfl⟩
            have R3 : Hid ((wr.setCell ⟨w.heap.size + 2, 7, none⟩ (.int .i64 P)).rangeAt (w.heap.size + 2) 0 (Hd.cells ⟨5, o', x, s, bb, f, c1, P, p1, q1, c2, r2, p2, q2⟩ v)) := fun j u hj => by rw [Nat.zero_add]; exact (B3.out.set 7 (.int .i64 P)).cell hj
            have B2X : Hid (Blk (wr.setCell ⟨w.heap.size + 2, 7, none⟩ (.int .i64 P)) (w.heap.size + 1) [.int .i64 0, .int .i64 0, .float .f64 0, .string ⟨#[]⟩, .bool false, .int .i64 0, .int .i64 0, .int .i64 0, .bool false, .bool false, .int .i64 0, .int .i64 0, .bool false, .bool false, .slice none 0 0] 44) := B2.out.other _ _ (by simp)
            have KX : Hid (Kp wr (wr.setCell ⟨w.heap.size + 2, 7, none⟩ (.int .i64 P)) (fun i => i = w.heap.size + 1 ∨ i = w.heap.size + 2)) := (Kp.refl _ _).setCell _ _ (.inr (.inr rfl))
            clear hX
            have z0 : (0 : Int) ≤ (z : Int) := by omega
            have z1 : (z : Int) < (((4096 : Nat) : Int)) + 1 := by omega
            by_cases hp : 0 < P
            · rw [if_pos hp] at hgo
              have HGO : Hid (goH false at' n' ⟨5, o', x, s, bb, f, c1, (z : Int), p1, q1, c2, r2, p2, q2⟩ = some ⟨5, o', x, s, bb, f, c1, P, p1, q1, c2, r2, p2, q2⟩) := hgo
              have dp : decide (0 < P) = true := decide_eq_true hp
              clear hgo
              go_wp2_with (first | (refine wpList_load_mid rfl 44 (.tmp 7) rfl (w.heap.size + 2) 0 rfl (Hd.cells ⟨5, o', x, s, bb, f, c1, P, p1, q1, c2, r2, p2, q2⟩ v) _ R3.out Tryz.underlying44 rfl infoNode ?_) | (refine wpList_store_blk rfl 44 (.tmp 6) (.tmp 127) rfl (w.heap.size + 1) [.int .i64 0, .int .i64 0, .float .f64 0, .string ⟨#[]⟩, .bool false, .int .i64 0, .int .i64 0, .int .i64 0, .bool false, .bool false, .int .i64 0, .int .i64 0, .bool false, .bool false, .slice none 0 0] (Hd.cells ⟨5, o', x, s, bb, f, c1, P, p1, q1, c2, r2, p2, q2⟩ v) 44 (B2X.out) rfl rfl rfl infoNode (Hd.one ⟨5, o', x, s, bb, f, c1, P, p1, q1, c2, r2, p2, q2⟩ O1.out) (fun W5 hb5 hk5 => ?_)) | fail)
              refine bodyPost_ret (results_cell_row rfl _ _ (w.heap.size + 1) 44 _ (0, 0) _ rfl hb5 Tryz.underlying44 rfl infoNode) rfl ?_
              obtain ⟨sl', fp', e1, e2, e3⟩ := FIN.out _ W5 HGO.out ((KX.out).trans (hk5.mono (fun i _ z => .inl z)))
              first | exact ⟨sl', e1, ⟨fp', e2⟩, e3⟩ | exact ⟨sl', fp', e1, e2, e3⟩
            · rw [if_neg hp] at hgo
              have HGO : Hid (goH false at' n' ⟨5, o', x, s, bb, f, c1, (z : Int), p1, q1, c2, r2, p2, q2⟩ = none) := hgo
              have dp : decide (0 < P) = false := decide_eq_false hp
              clear hgo
              go_wp2_with (first | (go_at_call 106; refine (HLo.out _).mono ?_; rintro e w' ⟨rfl, hkL⟩; have KL := hkL) | (refine wpList_store_blk rfl 44 (.tmp 6) (.tmp 126) rfl (w.heap.size + 1) [.int .i64 0, .int .i64 0, .float .f64 0, .string ⟨#[]⟩, .bool false, .int .i64 0, .int .i64 0, .int .i64 0, .bool false, .bool false, .int .i64 0, .int .i64 0, .bool false, .bool false, .slice none 0 0] (ndF.hd.cells (.slice none 0 0)) 44 (B2X.out.kp (by assumption) (fun x => x)) rfl rfl rfl infoNode (Hd.one ndF.hd rfl) (fun W5 hb5 hk5 => ?_)) | fail)
              refine bodyPost_ret (results_cell_row rfl _ _ (w.heap.size + 1) 44 _ (0, 0) _ rfl hb5 Tryz.underlying44 rfl infoNode) rfl ?_
              obtain ⟨sl', fp', e1, e2, e3⟩ := LOST.out W5 HGO.out ((KX.out.trans KL.of_nul).trans (hk5.mono (fun i _ z => .inl z)))
              first | exact ⟨sl', e1, ⟨fp', e2⟩, e3⟩ | exact ⟨sl', fp', e1, e2, e3⟩
          · obtain ⟨z, hz⟩ : ∃ z : Nat, c1 = (z : Int) := ⟨c1.toNat, by omega⟩
            subst hz
            have hm2 : m = 256 := by simp only [if_true] at hm'; omega
            subst hm2
            have lz : wr.cell? ⟨lb, z, none⟩ = some (.int .i64 (pl at' n' 256 z)) := LB.out.cell (ints_get (by rw [plL_get (by omega), if_pos (by omega)]; rfl))
            have x6 : wr.cell? ⟨w.heap.size, 6, none⟩ = some (.int .i64 (z : Int)) := B1.out.cell rfl
            have y6 : wr.cell? ⟨w.heap.size + 2, 6, none⟩ = some (.int .i64 (z : Int)) := B3.out.cell rfl
            have f6 : wr.frozen? ⟨w.heap.size + 2, 6, none⟩ = false := B3.out.froz _
            have hgo : goH true at' n' ⟨5, o', x, s, bb, f, (z : Int), r1, p1, q1, c2, r2, p2, q2⟩ = if 0 < pl at' n' 256 (z : Int) then some ⟨5, o', x, s, bb, f, pl at' n' 256 (z : Int), r1, p1, q1, c2, r2, p2, q2⟩ else none := by unfold goH; rw [if_pos rfl]; simp only [if_true]
            obtain ⟨P, hP⟩ : ∃ P, pl at' n' 256 (z : Int) = P := ⟨_, rfl⟩
            rw [hP] at hgo lz
            clear hP
            obtain ⟨X, hX⟩ : ∃ X, wr.setCell ⟨w.heap.size + 2, 6, none⟩ (.int .i64 P) = X := ⟨_, rfl⟩
            have R3 : Hid ((wr.setCell ⟨w.heap.size + 2, 6, none⟩ (.int .i64 P)).rangeAt (w.heap.size + 2) 0 (Hd.cells ⟨5, o', x, s, bb, f, P, r1, p1, q1, c2, r2, p2, q2⟩ v)) := fun j u hj => by rw [Nat.zero_add]; exact (B3.out.set 6 (.int .i64 P)).cell hj
            have B2X : Hid (Blk (wr.setCell ⟨w.heap.size + 2, 6, none⟩ (.int .i64 P)) (w.heap.size + 1) [.int .i64 0, .int .i64 0, .float .f64 0, .string ⟨#[]⟩, .bool false, .int .i64 0, .int .i64 0, .int .i64 0, .bool false, .bool false, .int .i64 0, .int .i64 0, .bool false, .bool false, .slice none 0 0] 44) := B2.out.other _ _ (by simp)
            have KX : Hid (Kp wr (wr.setCell ⟨w.heap.size + 2, 6, none⟩ (.int .i64 P)) (fun i => i = w.heap.size + 1 ∨ i = w.heap.size + 2)) := (Kp.refl _ _).setCell _ _ (.inr (.inr rfl))
            clear hX
            have z0 : (0 : Int) ≤ (z : Int) := by omega
            have z1 : (z : Int) < (((256 : Nat) : Int)) + 1 := by omega
            by_cases hp : 0 < P
            · rw [if_pos hp] at hgo
              have HGO : Hid (goH true at' n' ⟨5, o', x, s, bb, f, (z : Int), r1, p1, q1, c2, r2, p2, q2⟩ = some ⟨5, o', x, s, bb, f, P, r1, p1, q1, c2, r2, p2, q2⟩) := hgo
              have dp : decide (0 < P) = true := decide_eq_true hp
              clear hgo
              go_wp2_with (first | (refine wpList_load_mid rfl 44 (.tmp 7) rfl (w.heap.size + 2) 0 rfl (Hd.cells ⟨5, o', x, s, bb, f, P, r1, p1, q1, c2, r2, p2, q2⟩ v) _ R3.out Tryz.underlying44 rfl infoNode ?_) | (refine wpList_store_blk rfl 44 (.tmp 6) (.tmp 127) rfl (w.heap.size + 1) [.int .i64 0, .int .i64 0, .float .f64 0, .string ⟨#[]⟩, .bool false, .int .i64 0, .int .i64 0, .int .i64 0, .bool false, .bool false, .int .i64 0, .int .i64 0, .bool false, .bool false, .slice none 0 0] (Hd.cells ⟨5, o', x, s, bb, f, P, r1, p1, q1, c2, r2, p2, q2⟩ v) 44 (B2X.out) rfl rfl rfl infoNode (Hd.one ⟨5, o', x, s, bb, f, P, r1, p1, q1, c2, r2, p2, q2⟩ O1.out) (fun W5 hb5 hk5 => ?_)) | fail)
              refine bodyPost_ret (results_cell_row rfl _ _ (w.heap.size + 1) 44 _ (0, 0) _ rfl hb5 Tryz.underlying44 rfl infoNode) rfl ?_
              obtain ⟨sl', fp', e1, e2, e3⟩ := FIN.out _ W5 HGO.out ((KX.out).trans (hk5.mono (fun i _ z => .inl z)))
              first | exact ⟨sl', e1, ⟨fp', e2⟩, e3⟩ | exact ⟨sl', fp', e1, e2, e3⟩
            · rw [if_neg hp] at hgo
              have HGO : Hid (goH true at' n' ⟨5, o', x, s, bb, f, (z : Int), r1, p1, q1, c2, r2, p2, q2⟩ = none) := hgo
              have dp : decide (0 < P) = false := decide_eq_false hp
              clear hgo
              go_wp2_with (first | (go_at_call 106; refine (HLo.out _).mono ?_; rintro e w' ⟨rfl, hkL⟩; have KL := hkL) | (refine wpList_store_blk rfl 44 (.tmp 6) (.tmp 126) rfl (w.heap.size + 1) [.int .i64 0, .int .i64 0, .float .f64 0, .string ⟨#[]⟩, .bool false, .int .i64 0, .int .i64 0, .int .i64 0, .bool false, .bool false, .int .i64 0, .int .i64 0, .bool false, .bool false, .slice none 0 0] (ndF.hd.cells (.slice none 0 0)) 44 (B2X.out.kp (by assumption) (fun x => x)) rfl rfl rfl infoNode (Hd.one ndF.hd rfl) (fun W5 hb5 hk5 => ?_)) | fail)
              refine bodyPost_ret (results_cell_row rfl _ _ (w.heap.size + 1) 44 _ (0, 0) _ rfl hb5 Tryz.underlying44 rfl infoNode) rfl ?_
              obtain ⟨sl', fp', e1, e2, e3⟩ := LOST.out W5 HGO.out ((KX.out.trans KL.of_nul).trans (hk5.mono (fun i _ z => .inl z)))
              first | exact ⟨sl', e1, ⟨fp', e2⟩, e3⟩ | exact ⟨sl', fp', e1, e2, e3⟩
        · by_cases k6 : k = 6
          · subst k6
            obtain ⟨i1, i2, i3, i4, i5, i6⟩ := HLI.out.2 rfl
            simp only at i1 i2 i3 i4 i5 i6
            cases cols
            · have hm2 : m = 4096 := by simp only [Bool.false_eq_true, if_false] at hm'; omega
              subst hm2
              have x6 : wr.cell? ⟨w.heap.size, 7, none⟩ = some (.int .i64 r1) := B1.out.cell rfl
              have x10 : wr.cell? ⟨w.heap.size, 11, none⟩ = some (.int .i64 r2) := B1.out.cell rfl
              have y6 : wr.cell? ⟨w.heap.size + 2, 7, none⟩ = some (.int .i64 r1) := B3.out.cell rfl
              have f6 : wr.frozen? ⟨w.heap.size + 2, 7, none⟩ = false := B3.out.froz _
              have y10 : wr.cell? ⟨w.heap.size + 2, 11, none⟩ = some (.int .i64 r2) := B3.out.cell rfl
              have f10 : wr.frozen? ⟨w.heap.size + 2, 11, none⟩ = false := B3.out.froz _
              have hgo : goH false at' n' ⟨6, o', x, s, bb, f, c1, r1, p1, q1, c2, r2, p2, q2⟩ = if 0 < (spA at' n' 4096 r1 (r2 + 1)).1 then some ⟨6, o', x, s, bb, f, c1, (spA at' n' 4096 r1 (r2 + 1)).1, p1, q1, c2, (spA at' n' 4096 r1 (r2 + 1)).2, p2, q2⟩ else none := by unfold goH; rw [if_neg (show ¬ (6 : Int) = 5 by decide), if_pos rfl]; simp only [Bool.false_eq_true, if_false]
              have hspn := span_at 4096 lb at' n' r1 r2 wr (by have := hl; unfold lnOk at this; simpa using this) (by omega) i4 i5 (by have := i6; omega) LB.out
              have HSp : Hid (Calls Tryz.prog 105 #[.slice (some ⟨lb, 0, none⟩) (4096 + 1) (4096 + 1), .int .i64 r1, .int .i64 r2] wr fun e w' => e = .returned (.tuple #[.int .i64 (spA at' n' 4096 r1 (r2 + 1)).1, .int .i64 (spA at' n' 4096 r1 (r2 + 1)).2, .bool (decide (0 < (spA at' n' 4096 r1 (r2 + 1)).1))]) ∧ w' = wr) := hspn
              clear hspn
              obtain ⟨P1, hP1⟩ : ∃ P, (spA at' n' 4096 r1 (r2 + 1)).1 = P := ⟨_, rfl⟩
              obtain ⟨P2, hP2⟩ : ∃ P, (spA at' n' 4096 r1 (r2 + 1)).2 = P := ⟨_, rfl⟩
              rw [hP1, hP2] at hgo HSp
              clear hP1 hP2
              have B3X : Blk ((wr.setCell ⟨w.heap.size + 2, 7, none⟩ (.int .i64 P1)).setCell ⟨w.heap.size + 2, 11, none⟩ (.int .i64 P2)) (w.heap.size + 2) (Hd.cells ⟨6, o', x, s, bb, f, c1, P1, p1, q1, c2, P2, p2, q2⟩ v) 44 := (B3.out.set 7 (.int .i64 P1)).set 11 (.int .i64 P2)
              have R3 : Hid (((wr.setCell ⟨w.heap.size + 2, 7, none⟩ (.int .i64 P1)).setCell ⟨w.heap.size + 2, 11, none⟩ (.int .i64 P2)).rangeAt (w.heap.size + 2) 0 (Hd.cells ⟨6, o', x, s, bb, f, c1, P1, p1, q1, c2, P2, p2, q2⟩ v)) := fun j u hj => by rw [Nat.zero_add]; exact B3X.cell hj
              clear B3X
              have B2X : Hid (Blk ((wr.setCell ⟨w.heap.size + 2, 7, none⟩ (.int .i64 P1)).setCell ⟨w.heap.size + 2, 11, none⟩ (.int .i64 P2)) (w.heap.size + 1) [.int .i64 0, .int .i64 0, .float .f64 0, .string ⟨#[]⟩, .bool false, .int .i64 0, .int .i64 0, .int .i64 0, .bool false, .bool false, .int .i64 0, .int .i64 0, .bool false, .bool false, .slice none 0 0] 44) := (B2.out.other _ _ (by simp)).other _ _ (by simp)
              have KX : Hid (Kp wr ((wr.setCell ⟨w.heap.size + 2, 7, none⟩ (.int .i64 P1)).setCell ⟨w.heap.size + 2, 11, none⟩ (.int .i64 P2)) (fun i => i = w.heap.size + 1 ∨ i = w.heap.size + 2)) := ((Kp.refl _ _).setCell _ _ (.inr (.inr rfl))).setCell _ _ (.inr (.inr rfl))
              by_cases hp : 0 < P1
              · rw [if_pos hp] at hgo
                have HGO : Hid (goH false at' n' ⟨6, o', x, s, bb, f, c1, r1, p1, q1, c2, r2, p2, q2⟩ = some ⟨6, o', x, s, bb, f, c1, P1, p1, q1, c2, P2, p2, q2⟩) := hgo
                have dp : decide (0 < P1) = true := decide_eq_true hp
                clear hgo
                go_wp2_with (first | (go_at_call 105; refine HSp.out.mono ?_; rintro e w' ⟨rfl, rfl⟩) | (refine wpList_load_mid rfl 44 (.tmp 7) rfl (w.heap.size + 2) 0 rfl (Hd.cells ⟨6, o', x, s, bb, f, c1, P1, p1, q1, c2, P2, p2, q2⟩ v) _ R3.out Tryz.underlying44 rfl infoNode ?_) | (refine wpList_store_blk rfl 44 (.tmp 6) (.tmp 127) rfl (w.heap.size + 1) [.int .i64 0, .int .i64 0, .float .f64 0, .string ⟨#[]⟩, .bool false, .int .i64 0, .int .i64 0, .int .i64 0, .bool false, .bool false, .int .i64 0, .int .i64 0, .bool false, .bool false, .slice none 0 0] (Hd.cells ⟨6, o', x, s, bb, f, c1, P1, p1, q1, c2, P2, p2, q2⟩ v) 44 (B2X.out) rfl rfl rfl infoNode (Hd.one ⟨6, o', x, s, bb, f, c1, P1, p1, q1, c2, P2, p2, q2⟩ O1.out) (fun W5 hb5 hk5 => ?_)) | fail)
                refine bodyPost_ret (results_cell_row rfl _ _ (w.heap.size + 1) 44 _ (0, 0) _ rfl hb5 Tryz.underlying44 rfl infoNode) rfl ?_
                obtain ⟨sl', fp', e1, e2, e3⟩ := FIN.out _ W5 HGO.out ((KX.out).trans (hk5.mono (fun i _ z => .inl z)))
                first | exact ⟨sl', e1, ⟨fp', e2⟩, e3⟩ | exact ⟨sl', fp', e1, e2, e3⟩
              · rw [if_neg hp] at hgo
                have HGO : Hid (goH false at' n' ⟨6, o', x, s, bb, f, c1, r1, p1, q1, c2, r2, p2, q2⟩ = none) := hgo
                have dp : decide (0 < P1) = false := decide_eq_false hp
                clear hgo
                go_wp2_with (first | (go_at_call 105; refine HSp.out.mono ?_; rintro e w' ⟨rfl, rfl⟩) | (go_at_call 106; refine (HLo.out _).mono ?_; rintro e w' ⟨rfl, hkL⟩; have KL := hkL) | (refine wpList_store_blk rfl 44 (.tmp 6) (.tmp 126) rfl (w.heap.size + 1) [.int .i64 0, .int .i64 0, .float .f64 0, .string ⟨#[]⟩, .bool false, .int .i64 0, .int .i64 0, .int .i64 0, .bool false, .bool false, .int .i64 0, .int .i64 0, .bool false, .bool false, .slice none 0 0] (ndF.hd.cells (.slice none 0 0)) 44 (B2X.out.kp (by assumption) (fun x => x)) rfl rfl rfl infoNode (Hd.one ndF.hd rfl) (fun W5 hb5 hk5 => ?_)) | fail)
                refine bodyPost_ret (results_cell_row rfl _ _ (w.heap.size + 1) 44 _ (0, 0) _ rfl hb5 Tryz.underlying44 rfl infoNode) rfl ?_
                obtain ⟨sl', fp', e1, e2, e3⟩ := LOST.out W5 HGO.out ((KX.out.trans KL.of_nul).trans (hk5.mono (fun i _ z => .inl z)))
                first | exact ⟨sl', e1, ⟨fp', e2⟩, e3⟩ | exact ⟨sl', fp', e1, e2, e3⟩
            · have hm2 : m = 256 := by simp only [if_true] at hm'; omega
              subst hm2
              have x6 : wr.cell? ⟨w.heap.size, 6, none⟩ = some (.int .i64 c1) := B1.out.cell rfl
              have x10 : wr.cell? ⟨w.heap.size, 10, none⟩ = some (.int .i64 c2) := B1.out.cell rfl
              have y6 : wr.cell? ⟨w.heap.size + 2, 6, none⟩ = some (.int .i64 c1) := B3.out.cell rfl
              have f6 : wr.frozen? ⟨w.heap.size + 2, 6, none⟩ = false := B3.out.froz _
              have y10 : wr.cell? ⟨w.heap.size + 2, 10, none⟩ = some (.int .i64 c2) := B3.out.cell rfl
              have f10 : wr.frozen? ⟨w.heap.size + 2, 10, none⟩ = false := B3.out.froz _
              have hgo : goH true at' n' ⟨6, o', x, s, bb, f, c1, r1, p1, q1, c2, r2, p2, q2⟩ = if 0 < (spA at' n' 256 c1 (c2 + 1)).1 then some ⟨6, o', x, s, bb, f, (spA at' n' 256 c1 (c2 + 1)).1, r1, p1, q1, (spA at' n' 256 c1 (c2 + 1)).2, r2, p2, q2⟩ else none := by unfold goH; rw [if_neg (show ¬ (6 : Int) = 5 by decide), if_pos rfl]; simp only [if_true]
              have hspn := span_at 256 lb at' n' c1 c2 wr (by have := hl; unfold lnOk at this; simpa using this) (by omega) i1 i2 (by have := i3; omega) LB.out
              have HSp : Hid (Calls Tryz.prog 105 #[.slice (some ⟨lb, 0, none⟩) (256 + 1) (256 + 1), .int .i64 c1, .int .i64 c2] wr fun e w' => e = .returned (.tuple #[.int .i64 (spA at' n' 256 c1 (c2 + 1)).1, .int .i64 (spA at' n' 256 c1 (c2 + 1)).2, .bool (decide (0 < (spA at' n' 256 c1 (c2 + 1)).1))]) ∧ w' = wr) := hspn
              clear hspn
              obtain ⟨P1, hP1⟩ : ∃ P, (spA at' n' 256 c1 (c2 + 1)).1 = P := ⟨_, rfl⟩
              obtain ⟨P2, hP2⟩ : ∃ P, (spA at' n' 256 c1 (c2 + 1)).2 = P := ⟨_, rfl⟩
              rw [hP1, hP2] at hgo HSp
              clear hP1 hP2
              have B3X : Blk ((wr.setCell ⟨w.heap.size + 2, 6, none⟩ (.int .i64 P1)).setCell ⟨w.heap.size + 2, 10, none⟩ (.int .i64 P2)) (w.heap.size + 2) (Hd.cells ⟨6, o', x, s, bb, f, P1, r1, p1, q1, P2, r2, p2, q2⟩ v) 44 := (B3.out.set 6 (.int .i64 P1)).set 10 (.int .i64 P2)
              have R3 : Hid (((wr.setCell ⟨w.heap.size + 2, 6, none⟩ (.int .i64 P1)).setCell ⟨w.heap.size + 2, 10, none⟩ (.int .i64 P2)).rangeAt (w.heap.size + 2) 0 (Hd.cells ⟨6, o', x, s, bb, f, P1, r1, p1, q1, P2, r2, p2, q2⟩ v)) := fun j u hj => by rw [Nat.zero_add]; exact B3X.cell hj
              clear B3X
              have B2X : Hid (Blk ((wr.setCell ⟨w.heap.size + 2, 6, none⟩ (.int .i64 P1)).setCell ⟨w.heap.size + 2, 10, none⟩ (.int .i64 P2)) (w.heap.size + 1) [.int .i64 0, .int .i64 0, .float .f64 0, .string ⟨#[]⟩, .bool false, .int .i64 0, .int .i64 0, .int .i64 0, .bool false, .bool false, .int .i64 0, .int .i64 0, .bool false, .bool false, .slice none 0 0] 44) := (B2.out.other _ _ (by simp)).other _ _ (by simp)
              have KX : Hid (Kp wr ((wr.setCell ⟨w.heap.size + 2, 6, none⟩ (.int .i64 P1)).setCell ⟨w.heap.size + 2, 10, none⟩ (.int .i64 P2)) (fun i => i = w.heap.size + 1 ∨ i = w.heap.size + 2)) := ((Kp.refl _ _).setCell _ _ (.inr (.inr rfl))).setCell _ _ (.inr (.inr rfl))
              by_cases hp : 0 < P1
              · rw [if_pos hp] at hgo
                have HGO : Hid (goH true at' n' ⟨6, o', x, s, bb, f, c1, r1, p1, q1, c2, r2, p2, q2⟩ = some ⟨6, o', x, s, bb, f, P1, r1, p1, q1, P2, r2, p2, q2⟩) := hgo
                have dp : decide (0 < P1) = true := decide_eq_true hp
                clear hgo
                go_wp2_with (first | (go_at_call 105; refine HSp.out.mono ?_; rintro e w' ⟨rfl, rfl⟩) | (refine wpList_load_mid rfl 44 (.tmp 7) rfl (w.heap.size + 2) 0 rfl (Hd.cells ⟨6, o', x, s, bb, f, P1, r1, p1, q1, P2, r2, p2, q2⟩ v) _ R3.out Tryz.underlying44 rfl infoNode ?_) | (refine wpList_store_blk rfl 44 (.tmp 6) (.tmp 127) rfl (w.heap.size + 1) [.int .i64 0, .int .i64 0, .float .f64 0, .string ⟨#[]⟩, .bool false, .int .i64 0, .int .i64 0, .int .i64 0, .bool false, .bool false, .int .i64 0, .int .i64 0, .bool false, .bool false, .slice none 0 0] (Hd.cells ⟨6, o', x, s, bb, f, P1, r1, p1, q1, P2, r2, p2, q2⟩ v) 44 (B2X.out) rfl rfl rfl infoNode (Hd.one ⟨6, o', x, s, bb, f, P1, r1, p1, q1, P2, r2, p2, q2⟩ O1.out) (fun W5 hb5 hk5 => ?_)) | fail)
                refine bodyPost_ret (results_cell_row rfl _ _ (w.heap.size + 1) 44 _ (0, 0) _ rfl hb5 Tryz.underlying44 rfl infoNode) rfl ?_
                obtain ⟨sl', fp', e1, e2, e3⟩ := FIN.out _ W5 HGO.out ((KX.out).trans (hk5.mono (fun i _ z => .inl z)))
                first | exact ⟨sl', e1, ⟨fp', e2⟩, e3⟩ | exact ⟨sl', fp', e1, e2, e3⟩
              · rw [if_neg hp] at hgo
                have HGO : Hid (goH true at' n' ⟨6, o', x, s, bb, f, c1, r1, p1, q1, c2, r2, p2, q2⟩ = none) := hgo
                have dp : decide (0 < P1) = false := decide_eq_false hp
                clear hgo
                go_wp2_with (first | (go_at_call 105; refine HSp.out.mono ?_; rintro e w' ⟨rfl, rfl⟩) | (go_at_call 106; refine (HLo.out _).mono ?_; rintro e w' ⟨rfl, hkL⟩; have KL := hkL) | (refine wpList_store_blk rfl 44 (.tmp 6) (.tmp 126) rfl (w.heap.size + 1) [.int .i64 0, .int .i64 0, .float .f64 0, .string ⟨#[]⟩, .bool false, .int .i64 0, .int .i64 0, .int .i64 0, .bool false, .bool false, .int .i64 0, .int .i64 0, .bool false, .bool false, .slice none 0 0] (ndF.hd.cells (.slice none 0 0)) 44 (B2X.out.kp (by assumption) (fun x => x)) rfl rfl rfl infoNode (Hd.one ndF.hd rfl) (fun W5 hb5 hk5 => ?_)) | fail)
                refine bodyPost_ret (results_cell_row rfl _ _ (w.heap.size + 1) 44 _ (0, 0) _ rfl hb5 Tryz.underlying44 rfl infoNode) rfl ?_
                obtain ⟨sl', fp', e1, e2, e3⟩ := LOST.out W5 HGO.out ((KX.out.trans KL.of_nul).trans (hk5.mono (fun i _ z => .inl z)))
                first | exact ⟨sl', e1, ⟨fp', e2⟩, e3⟩ | exact ⟨sl', fp', e1, e2, e3⟩
          · have hgo : goH cols at' n' ⟨k, o', x, s, bb, f, c1, r1, p1, q1, c2, r2, p2, q2⟩ = some ⟨k, o', x, s, bb, f, c1, r1, p1, q1, c2, r2, p2, q2⟩ := by unfold goH; rw [if_neg k5, if_neg k6]
            have HGO : Hid (goH cols at' n' ⟨k, o', x, s, bb, f, c1, r1, p1, q1, c2, r2, p2, q2⟩ = some ⟨k, o', x, s, bb, f, c1, r1, p1, q1, c2, r2, p2, q2⟩) := hgo
            have R3 : Hid (wr.rangeAt (w.heap.size + 2) 0 (Hd.cells ⟨k, o', x, s, bb, f, c1, r1, p1, q1, c2, r2, p2, q2⟩ v)) := fun j u hj => by rw [Nat.zero_add]; exact B3.out.cell hj
            clear hgo
            go_wp2_with (first | (refine wpList_load_mid rfl 44 (.tmp 7) rfl (w.heap.size + 2) 0 rfl (Hd.cells ⟨k, o', x, s, bb, f, c1, r1, p1, q1, c2, r2, p2, q2⟩ v) _ R3.out Tryz.underlying44 rfl infoNode ?_) | (refine wpList_store_blk rfl 44 (.tmp 6) (.tmp 127) rfl (w.heap.size + 1) [.int .i64 0, .int .i64 0, .float .f64 0, .string ⟨#[]⟩, .bool false, .int .i64 0, .int .i64 0, .int .i64 0, .bool false, .bool false, .int .i64 0, .int .i64 0, .bool false, .bool false, .slice none 0 0] (Hd.cells ⟨k, o', x, s, bb, f, c1, r1, p1, q1, c2, r2, p2, q2⟩ v) 44 (B2.out) rfl rfl rfl infoNode (Hd.one ⟨k, o', x, s, bb, f, c1, r1, p1, q1, c2, r2, p2, q2⟩ O1.out) (fun W5 hb5 hk5 => ?_)) | fail)
            refine bodyPost_ret (results_cell_row rfl _ _ (w.heap.size + 1) 44 _ (0, 0) _ rfl hb5 Tryz.underlying44 rfl infoNode) rfl ?_
            obtain ⟨sl', fp', e1, e2, e3⟩ := FIN.out _ W5 HGO.out ((Kp.refl _ _).trans (hk5.mono (fun i _ z => .inl z)))
            first | exact ⟨sl', e1, ⟨fp', e2⟩, e3⟩ | exact ⟨sl', fp', e1, e2, e3⟩
end Go.Proofs.YtbkcebbddhaifaaGreatDoor
