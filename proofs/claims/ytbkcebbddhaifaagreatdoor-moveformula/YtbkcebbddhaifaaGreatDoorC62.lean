/- bare tells what it should; so the document's Valid of a content is the program's. Move: the document's Formula (quadrilleref22). -/
import Derived.Test.YtbkcebbddhaifaaGreatDoorC57
import Derived.Test.YtbkcebbddhaifaaGreatDoorC58
import Derived.Test.YtbkcebbddhaifaaGreatDoorC66
import Derived.Test.YtbkcebbddhaifaaGreatDoorC53
namespace Go.Proofs.YtbkcebbddhaifaaGreatDoor
open Go.RowKit Go.Lib

theorem bares : BaresAll := ⟨rbare_2, rbare_4, rbare_8, rbare_16, rbare_32, rbare_96, rbare_129, rbare_132⟩
/-- The document's Valid: as grid.Valid (gv). -/
theorem rgv_at (c : Ct) (sl : Value) (F : Nat → Prop) (w : World) (hsz : c.t.size ≤ 1048576) (hok : c.t.ok) (htx : c.t.txt) (hs : c.v.s.size ≤ 140737488355328) (hin : NdIn w F sl c.t) :
    Calls Tryz.prog 62 #[c.val sl] w fun e w' => e = .returned (.bool (validC c (validD c.v.s.data.toList) (chk c.t))) ∧ Kp w w' Nul :=
  rcValid_at c sl F (chk c.t) w hin hs (fun wq hq => rcheck_at bares c.t sl F wq hsz hok htx (hin.kp hq (fun _ _ x => x)))
end Go.Proofs.YtbkcebbddhaifaaGreatDoor
namespace Go.Proofs.YtbkcebbddhaifaaGreatDoor
open Go.RowKit

/-- What the document's Formula answers. -/
inductive RfR (t : Nd) (cols : Bool) (at' n : Int) (w w' : World) : Value → Prop
  | err (er : Int) (he : er ≠ 0) (h : chk t ≠ 0 ∧ er = chk t ∨ chk t = 0 ∧ ¬ lnOk cols at' n ∧ er = 1) (k : Kp w w' Nul) : RfR t cols at' n w w' (.tuple #[zHd.val (.slice none 0 0), .int .i64 er])
  | ok (hc : chk t = 0) (hl : lnOk cols at' n) (sl' : Value) (fp : List Nat) (ho : Own w' w.heap.size sl' (alN (lnF cols at' n) t) fp) (k : Kp w w' Nul) : RfR t cols at' n w w' (.tuple #[(alN (lnF cols at' n) t).hd.val sl', .int .i64 0])
theorem chk_fe {t : Nd} (h : chk t = 0) : t.fe false = 0 := by
  unfold chk at h
  split at h
  · omega
  · split at h
    · omega
    · exact h
theorem lnOk_iff (cols : Bool) (at' n : Int) : (1 ≤ at' ∧ at' ≤ (if cols then 256 else 4096) ∧ -(if cols then 256 else 4096) ≤ n ∧ n ≤ (if cols then 256 else 4096)) ↔ lnOk cols at' n :=
  ⟨fun ⟨h1, h2, h3, h4⟩ => ⟨h1, h2, h3, h4⟩, fun ⟨h1, h2, h3, h4⟩ => ⟨h1, h2, h3, h4⟩⟩
set_option maxRecDepth 20000 in
set_option maxHeartbeats 8000000 in
theorem rform_at (t : Nd) (sl : Value) (F : Nat → Prop) (cols : Bool) (at' n : Int) (w : World) (hsz : t.size ≤ 1048576) (hok : t.ok) (htx : t.txt) (hin : NdIn w F sl t) :
    Calls Tryz.prog 14 #[t.hd.val sl, .bool cols, .int .i64 at', .int .i64 n] w fun e w' => ∃ v, e = .returned v ∧ RfR t cols at' n w w' v := by
  obtain ⟨W1, hW1⟩ : ∃ W1, (w.alloc (.cells (t.hd.cells sl).toArray 44)).alloc (.cells (zHd.cells (.slice none 0 0)).toArray 44) = W1 := ⟨_, rfl⟩
  have k1 : Kp w W1 Nul := by rw [← hW1]; exact ((Kp.refl w Nul).alloc _).alloc _
  have b1 : Blk W1 w.heap.size (t.hd.cells sl) 44 := by rw [← hW1]; exact (Blk.new w _ _).alloc _
  have b2 : Blk W1 (w.heap.size + 1) (zHd.cells (.slice none 0 0)) 44 := by
    rw [← hW1]
    have := Blk.new (w.alloc (.cells (t.hd.cells sl).toArray 44)) (zHd.cells (.slice none 0 0)) 44
    rw [World.size_alloc] at this
    exact this
  have HW1 : Hid ((w.alloc (.cells #[.int .i64 t.hd.k, .int .i64 t.hd.o, .float .f64 t.hd.x, .string t.hd.s, .bool t.hd.b, .int .i64 t.hd.f, .int .i64 t.hd.c1, .int .i64 t.hd.r1, .bool t.hd.p1, .bool t.hd.q1, .int .i64 t.hd.c2, .int .i64 t.hd.r2, .bool t.hd.p2, .bool t.hd.q2, sl] 44)).alloc (.cells #[.int .i64 0, .int .i64 0, .float .f64 0, .string ⟨#[]⟩, .bool false, .int .i64 0, .int .i64 0, .int .i64 0, .bool false, .bool false, .int .i64 0, .int .i64 0, .bool false, .bool false, .slice none 0 0] 44) = W1) := hW1
  have HC : Hid (∀ wq, Kp w wq Nul → Calls Tryz.prog 52 #[t.hd.val sl] wq fun e w' => e = .returned (.int .i64 (chk t)) ∧ Kp wq w' Nul) := fun wq hq => rcheck_at bares t sl F wq hsz hok htx (hin.kp hq (fun _ _ x => x))
  have HB1 : Hid (∀ wq, Kp W1 wq Nul → wq.heap[w.heap.size]? = some (.cells (t.hd.cells sl).toArray 44 (0, 0))) := fun wq hq => b1.kp hq (fun x => x)
  have HB2 : Hid (∀ wq, Kp W1 wq Nul → Blk wq (w.heap.size + 1) (zHd.cells (.slice none 0 0)) 44) := fun wq hq => b2.kp hq (fun x => x)
  have HK1 : Hid (Kp w W1 Nul) := k1
  obtain ⟨m, hm, hm4⟩ : ∃ m : Nat, (m : Int) = (if cols then 256 else 4096) ∧ m ≤ 4096 := by cases cols; exact ⟨4096, rfl, by omega⟩; exact ⟨256, rfl, by omega⟩
  have HEr : Hid (∀ er w', er ≠ 0 → (chk t ≠ 0 ∧ er = chk t ∨ chk t = 0 ∧ ¬ lnOk cols at' n ∧ er = 1) → Kp w w' Nul → RfR t cols at' n w w' (.tuple #[zHd.val (.slice none 0 0), .int .i64 er])) := fun er w' h1 h2 h3 => .err er h1 h2 h3
  have HMN : Hid (¬ lnOk cols at' n → ∀ w, Calls Tryz.prog 53 #[.bool cols, .int .i64 at', .int .i64 n] w fun e w' => e = .returned (.tuple #[.int .i64 (m : Int), .bool false]) ∧ w' = w) := fun h w => by
    have := many_at cols at' n w
    rw [← hm, decide_eq_false (fun q => h ((lnOk_iff cols at' n).1 (by rw [← hm]; exact q)))] at this
    exact this
  have HMY : Hid (lnOk cols at' n → ∀ w, Calls Tryz.prog 53 #[.bool cols, .int .i64 at', .int .i64 n] w fun e w' => e = .returned (.tuple #[.int .i64 (m : Int), .bool true]) ∧ w' = w) := fun h w => by
    have := many_at cols at' n w
    rw [← hm, decide_eq_true (by have := (lnOk_iff cols at' n).2 h; rw [← hm] at this; exact this)] at this
    exact this
  have HPl : Hid (lnOk cols at' n → ∀ w, Calls Tryz.prog 55 #[.int .i64 (m : Int), .int .i64 at', .int .i64 n] w fun e w' => e = .returned (.slice (some ⟨w.heap.size, 0, none⟩) (m + 1) (m + 1)) ∧ Blk w' w.heap.size (ints (plL at' n m m (m + 1))) 3 ∧ Kp w w' Nul) := fun h w => places_at m at' n w (by rw [hm]; exact h) hm4
  have HAl : Hid (chk t = 0 → lnOk cols at' n → ∀ lb wq, Kp w wq Nul → Blk wq lb (ints (plL at' n m m (m + 1))) 3 → Calls Tryz.prog 54 #[t.hd.val sl, .bool cols, .slice (some ⟨lb, 0, none⟩) (m + 1) (m + 1)] wq fun e w' => ∃ sl' fp, e = .returned ((alN (lnF cols at' n) t).hd.val sl') ∧ Own w' wq.heap.size sl' (alN (lnF cols at' n) t) fp ∧ Kp wq w' Nul) := fun h0 h lb wq k hb => (ralong_any cols at' n h m lb hm t.size t sl F false wq (Nat.le_refl _) hsz (chk_fe h0) (hin.kp k (fun _ _ x => x)) hb).mono (by
    rintro e w' ⟨sl', fp, h1, h2, h3⟩
    exact ⟨sl', fp, h1, h2, Kp.of_below h3⟩)
  have HOk : Hid (chk t = 0 → lnOk cols at' n → ∀ w' sl' fp, Own w' w.heap.size sl' (alN (lnF cols at' n) t) fp → Kp w w' Nul → RfR t cols at' n w w' (.tuple #[(alN (lnF cols at' n) t).hd.val sl', .int .i64 0])) := fun h1 h2 w' sl' fp h3 h4 => .ok h1 h2 sl' fp h3 h4
  clear hW1 k1 b1 b2 hok hin hsz htx hm hm4
  obtain ⟨AT, hAT⟩ : ∃ AT, alN (lnF cols at' n) t = AT := ⟨_, rfl⟩
  rw [hAT] at HAl HOk
  clear hAT
  generalize t.hd = h at *
  generalize hE : chk t = E at *
  clear hE
  go_enter Tryz.func14, Tryz.ntmps14
  go_wp2_with (first | (rw [HW1.out]; refine load_node_law rfl (.tmp 4) rfl w.heap.size rfl (h.cells sl).toArray (HB1.out _ (Kp.refl _ _)) rfl ?_) | fail)
  refine (HC.out _ HK1.out).mono ?_
  rintro e w2 ⟨rfl, hk2⟩
  have K2 : Hid (Kp W1 w2 Nul) := hk2
  clear hk2 HC HW1
  by_cases hE0 : E = 0
  · subst hE0
    by_cases hl : lnOk cols at' n
    · have HM : Hid (∀ w, Calls Tryz.prog 53 #[.bool cols, .int .i64 at', .int .i64 n] w fun e w' => e = .returned (.tuple #[.int .i64 (m : Int), .bool true]) ∧ w' = w) := HMY.out hl
      have HP : Hid (∀ w, Calls Tryz.prog 55 #[.int .i64 (m : Int), .int .i64 at', .int .i64 n] w fun e w' => e = .returned (.slice (some ⟨w.heap.size, 0, none⟩) (m + 1) (m + 1)) ∧ Blk w' w.heap.size (ints (plL at' n m m (m + 1))) 3 ∧ Kp w w' Nul) := HPl.out hl
      have HA : Hid (∀ lb wq, Kp w wq Nul → Blk wq lb (ints (plL at' n m m (m + 1))) 3 → Calls Tryz.prog 54 #[h.val sl, .bool cols, .slice (some ⟨lb, 0, none⟩) (m + 1) (m + 1)] wq fun e w' => ∃ sl' fp, e = .returned (AT.hd.val sl') ∧ Own w' wq.heap.size sl' AT fp ∧ Kp wq w' Nul) := HAl.out rfl hl
      have HR : Hid (∀ w' sl' fp, Own w' w.heap.size sl' AT fp → Kp w w' Nul → RfR t cols at' n w w' (.tuple #[AT.hd.val sl', .int .i64 0])) := HOk.out rfl hl
      clear HMY HMN HPl HAl HOk HEr hl
      go_wp2_with (first | (go_at_call 53; refine (HM.out _).mono ?_; rintro e w3 ⟨rfl, hw3⟩; subst hw3) | fail)
      have HN4 : Hid (∀ w', Kp w3 w' (fun i => i = w.heap.size + 1) → w'.rangeAt w.heap.size 0 (h.cells sl)) := fun w' k => rangeAt_blk ((show Blk w3 w.heap.size (h.cells sl) 44 from HB1.out _ K2.out).kp k (by show ¬ w.heap.size = w.heap.size + 1; omega))
      have HR4 : Hid (Blk w3 (w.heap.size + 1) (zHd.cells (.slice none 0 0)) 44) := HB2.out _ K2.out
      have HK4 : Hid (Kp w w3 Nul) := HK1.out.trans K2.out
      have HZ : Hid (w.heap.size + 1 < w3.heap.size) := HR4.out.lt
      clear K2 HB1 HB2 HM
      refine wp_region_noPanic ?_
      refine wp_region_hel (fun w' : World => Kp w3 w' (fun i => i = w.heap.size + 1)) (by kernel_rfl) ((Kp.refl _ _).drew) (fun hHeld => ?_)
      refine wpH_takes (i := 0) (v := .agg (h.cells sl).toArray) (some 29) rfl rfl (by kernel_rfl) (by kernel_rfl) (by kernel_rfl) (fun _ _ _ h => h) (Or.inl ⟨by rfl, fun w' hSw => exec_load_row 44 (.tmp 4) rfl w.heap.size 0 rfl (h.cells sl) _ (HN4.out w' hSw) Tryz.underlying44 rfl infoNode⟩) hHeld ?_
      simp only [Act.put, List.setIfInBounds_toArray, List.set_cons_zero, List.set_cons_succ]
      refine wpH_takes (i := 1) (v := ?_) (some 30) rfl rfl (by kernel_rfl) (by kernel_rfl) (by kernel_rfl) (fun _ _ _ h => h) (Or.inl ⟨by rfl, ?_⟩) hHeld ?_
      rotate_left
      · intro w' hSw; clear hSw; go_simp; try with_reducible rfl
      simp only [Act.put, List.setIfInBounds_toArray, List.set_cons_zero, List.set_cons_succ]
      refine wpH_takes (i := 2) (v := ?_) (some 31) rfl rfl (by kernel_rfl) (by kernel_rfl) (by kernel_rfl) (fun _ _ _ h => h) (Or.inl ⟨by rfl, ?_⟩) hHeld ?_
      rotate_left
      · intro w' hSw; clear hSw; go_simp; try with_reducible rfl
      simp only [Act.put, List.setIfInBounds_toArray, List.set_cons_zero, List.set_cons_succ]
      refine wpH_takes (i := 3) (v := ?_) (some 32) rfl rfl (by kernel_rfl) (by kernel_rfl) (by kernel_rfl) (fun _ _ _ h => h) (Or.inl ⟨by rfl, ?_⟩) hHeld ?_
      rotate_left
      · intro w' hSw; clear hSw; go_simp; try with_reducible rfl
      simp only [Act.put, List.setIfInBounds_toArray, List.set_cons_zero, List.set_cons_succ]
      refine wpH_takes (i := 4) (v := ?_) (some 33) rfl rfl (by kernel_rfl) (by kernel_rfl) (by kernel_rfl) (fun _ _ _ h => h) (Or.inl ⟨by rfl, ?_⟩) hHeld ?_
      rotate_left
      · intro w' hSw; clear hSw; go_simp; try with_reducible rfl
      simp only [Act.put, List.setIfInBounds_toArray, List.set_cons_zero, List.set_cons_succ]
      refine wpH_step (i := 5) (by kernel_rfl) rfl rfl (fun K hK => ?_)
      go_simp
      refine (HP.out _).mono ?_
      rintro e w5 ⟨rfl, hbl, hk5⟩
      have K5 : Hid (Kp w3 w5 Nul) := (Kp.refl w3 Nul).drew.trans hk5
      obtain ⟨lb, hlb⟩ : ∃ lb, (w3.drew).heap.size = lb := ⟨_, rfl⟩
      have hbl' : Blk w5 lb (ints (plL at' n m m (m + 1))) 3 := by rw [← hlb]; exact hbl
      have HLB : Hid (Blk w5 lb (ints (plL at' n m m (m + 1))) 3) := hbl'
      first | rw [hlb] | (have hlb2 : w3.heap.size = lb := hlb; rw [hlb2])
      refine hK.out _ _ K5.out.of_nul (fun hHeld => ?_)
      clear hK K hk5 hbl hbl' hlb
      (try simp only [Act.put, List.setIfInBounds_toArray, List.set_cons_zero, List.set_cons_succ])
      refine wpH_step (i := 6) (by kernel_rfl) rfl rfl (fun K hK => ?_)
      go_simp
      refine (HA.out lb _ (HK4.out.trans K5.out) HLB.out).mono ?_
      rintro e w6 ⟨sl2, fp2, rfl, hown, hk6⟩
      have HOw : Hid (Own w6 w5.heap.size sl2 AT fp2) := hown
      have K6 : Hid (Kp w3 w6 Nul) := K5.out.trans hk6
      have ONE : Hid (sl2.oneCell' = true) := hown.own.one
      refine hK.out _ _ K6.out.of_nul (fun hHeld => ?_)
      clear hK K hown hk6
      (try simp only [Act.put, List.setIfInBounds_toArray, List.set_cons_zero, List.set_cons_succ])
      obtain ⟨H2, hH2⟩ : ∃ H2, AT.hd = H2 := ⟨_, rfl⟩
      have HH2 : Hid (AT.hd = H2) := hH2
      rw [hH2]
      clear hH2
      refine wpH_step (i := 7) (by kernel_rfl) rfl rfl (fun K hK => ?_)
      refine wp_store_blk 44 (.tmp 8) (.tmp 35) rfl (w.heap.size + 1) (zHd.cells (.slice none 0 0)) (H2.cells sl2) 44 (HR4.out.kp K6.out (fun x => x)) rfl rfl rfl infoNode (Hd.one H2 ONE.out) ?_
      intro w7 hb7 hk7
      have HB7 : Hid (Blk w7 (w.heap.size + 1) (H2.cells sl2) 44) := hb7
      have K7 : Hid (Kp w6 w7 (fun i => i = w.heap.size + 1)) := hk7
      refine hK.out _ _ (K6.out.of_nul.trans hk7) (fun hHeld => ?_)
      clear hK K hb7 hk7
      (try simp only [Act.put])
      refine wpH_takes (i := 8) (v := ?_) (some 9) rfl rfl (by kernel_rfl) (by kernel_rfl) (by kernel_rfl) (fun _ _ _ h => h) (Or.inl ⟨by rfl, ?_⟩) hHeld ?_
      rotate_left
      · intro w' hSw; clear hSw; go_simp; try with_reducible rfl
      (try simp only [Act.put])
      refine wpAnyH_done (by kernel_rfl) ?_ _
      refine NoPanic.normal ?_
      clear hHeld
      go_wp2_with fail
      have hsz5 : w3.heap.size ≤ w5.heap.size := K5.out.size
      have hOwn7 : Own w7 w.heap.size sl2 AT fp2 := ⟨HOw.out.own.mono (fun i hi => K7.out.block i (node_lt (HOw.out.own.node i hi)) (fun e => by
        have e' : i = w.heap.size + 1 := e
        have h1 := (HOw.out.new i hi).1
        have := HZ.out
        omega)), HOw.out.nodup, fun b hb => ⟨by have := (HOw.out.new b hb).1; have := HZ.out; omega, Nat.lt_of_lt_of_le (HOw.out.new b hb).2 K7.out.size⟩⟩
      have hEnd := HR.out w7 sl2 fp2 hOwn7 ((HK4.out.trans K6.out).trans' K7.out (fun i hi e => by have e' : i = w.heap.size + 1 := e; omega))
      rw [HH2.out] at hEnd
      refine bodyPost_ret (results_row_tmp rfl _ _ (w.heap.size + 1) 44 _ (0, 0) _ rfl HB7.out Tryz.underlying44 rfl infoNode) rfl ?_
      exact ⟨_, rfl, hEnd⟩
    · have HM : Hid (∀ w, Calls Tryz.prog 53 #[.bool cols, .int .i64 at', .int .i64 n] w fun e w' => e = .returned (.tuple #[.int .i64 (m : Int), .bool false]) ∧ w' = w) := HMN.out hl
      have HE : Hid (∀ w', Kp w w' Nul → RfR t cols at' n w w' (.tuple #[zHd.val (.slice none 0 0), .int .i64 1])) := fun w' k => HEr.out 1 w' (by decide) (.inr ⟨rfl, hl, rfl⟩) k
      clear HMY HMN HPl HAl HOk HEr hl
      go_wp2_with (first | (go_at_call 53; refine (HM.out _).mono ?_; rintro e w3 ⟨rfl, hw3⟩; subst hw3) | (refine wpList_store_blk rfl 44 (.tmp 8) (.tmp 28) rfl (w.heap.size + 1) _ (zHd.cells (.slice none 0 0)) _ (HB2.out _ K2.out) rfl rfl rfl infoNode (Hd.one zHd rfl) (fun W4 hb4 hk4 => ?_)) | fail)
      refine bodyPost_ret (results_row_tmp rfl _ _ (w.heap.size + 1) 44 _ (0, 0) _ rfl hb4 Tryz.underlying44 rfl infoNode) rfl ?_
      exact ⟨_, rfl, HE.out _ ((HK1.out.trans K2.out).trans' hk4 (fun i hi e => by have e' : i = w.heap.size + 1 := e; omega))⟩
  · have HE : Hid (∀ w', Kp w w' Nul → RfR t cols at' n w w' (.tuple #[zHd.val (.slice none 0 0), .int .i64 E])) := fun w' k => HEr.out E w' hE0 (.inl ⟨hE0, rfl⟩) k
    clear HMY HMN HPl HAl HOk HEr
    go_wp2_with (first | (refine wpList_store_blk rfl 44 (.tmp 8) (.tmp 17) rfl (w.heap.size + 1) _ (zHd.cells (.slice none 0 0)) _ (HB2.out _ K2.out) rfl rfl rfl infoNode (Hd.one zHd rfl) (fun W4 hb4 hk4 => ?_)) | fail)
    refine bodyPost_ret (results_row_tmp rfl _ _ (w.heap.size + 1) 44 _ (0, 0) _ rfl hb4 Tryz.underlying44 rfl infoNode) rfl ?_
    exact ⟨_, rfl, HE.out _ ((HK1.out.trans K2.out).trans' hk4 (fun i hi e => by have e' : i = w.heap.size + 1 := e; omega))⟩
end Go.Proofs.YtbkcebbddhaifaaGreatDoor
