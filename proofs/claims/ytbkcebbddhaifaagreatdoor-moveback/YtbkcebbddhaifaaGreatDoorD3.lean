/- Move: what the laws are made of: pick, place, lines, all, made. Move: made: a grid of puts. By wip/gen_made22.py. Move: MoveLines, the plain part. No function of the program here. Move: MoveLines, what its rounds keep. -/
import Derived.Test.YtbkcebbddhaifaaGreatDoorC53
import Derived.Test.YtbkcebbddhaifaaGreatDoorC51
namespace Go.Proofs.YtbkcebbddhaifaaGreatDoor
open Go.RowKit Go.Maps

set_option maxHeartbeats 1000000 in
theorem pick22 (c m : Int) (hc : I64 c) (h1 : 1 ≤ m) (w : World) : Calls Tryz.prog 20 #[.int .i64 c, .int .i64 m] w fun e w' => e = .returned (.int .i64 (pkf c m)) ∧ w' = w := by
  have HC : Hid (-9223372036854775808 ≤ c ∧ c ≤ 9223372036854775807) := by unfold I64 at hc; exact hc
  have hm0 : m ≠ 0 := by omega
  have hv := (pkf_val c m h1).1
  generalize pkf c m = p at *
  clear hc
  by_cases h : c < 0
  · rw [if_pos h] at hv
    have hX : wrap64 (-wrap64 (c + 1)) = -(c + 1) := by have := HC.out; unfold wrap64; omega
    have hY : (-(c + 1)).tmod m = (-(c + 1)) % m := Int.tmod_eq_emod_of_nonneg (by omega)
    have HX : Hid (wrap64 (-wrap64 (c + 1)) = -(c + 1)) := hX
    have HE : Hid ((-(c + 1)).tmod m = (p : Int)) := by show _ = _; rw [hY, hv]
    clear hX hY hv
    go_enter Tryz.func20, Tryz.ntmps20
    go_wp2
    go_ret
    refine ⟨rInt ?_, rfl⟩
    first
    | exact HE.out
    | (rw [HX.out]; exact HE.out)
  · rw [if_neg h] at hv
    have hY : c.tmod m = c % m := Int.tmod_eq_emod_of_nonneg (by omega)
    have HE : Hid (c.tmod m = (p : Int)) := by show _ = _; rw [hY, hv]
    have HE2 : Hid (c % m = (p : Int)) := hv.symm
    clear hY hv
    go_enter Tryz.func20, Tryz.ntmps20
    go_wp2
    go_ret
    refine ⟨rInt ?_, rfl⟩
    first
    | exact HE.out
    | exact HE2.out
set_option maxHeartbeats 4000000 in
theorem place22 (cols : Bool) (raw : Int) (hr : I64 raw) (w : World) : Calls Tryz.prog 19 #[.bool cols, .int .i64 raw] w fun e w' => (∃ k : Int, e = .returned (.int .i64 k) ∧ 1 ≤ k ∧ k ≤ (if cols then 256 else 4096)) ∧ w' = w := by
  have HP : Hid (∀ m : Int, 1 ≤ m → m ≤ 4096 → ∀ w, Calls Tryz.prog 20 #[.int .i64 raw, .int .i64 m] w fun e w' => (∃ q : Int, e = .returned (.int .i64 q) ∧ 0 ≤ q ∧ q < m) ∧ w' = w) := fun m h1 h2 w => (pick22 raw m hr h1 w).mono fun e w' ⟨q1, q2⟩ => ⟨⟨_, q1, by omega, (pkf_val raw m h1).2⟩, q2⟩
  clear hr
  cases cols
  · simp only [Bool.false_eq_true, if_false]
    go_enter Tryz.func19, Tryz.ntmps19
    go_wp2_with fail
    refine (HP.out _ (by decide) (by decide) _).mono ?_
    rintro e w1 ⟨⟨q, rfl, q0, q4⟩, hw1⟩
    subst hw1
    by_cases hq : 0 < q
    · go_wp2_with fail
      refine (HP.out _ (by decide) (by decide) _).mono ?_
      rintro e w2 ⟨⟨r, rfl, r0, r1⟩, hw2⟩
      subst hw2
      go_wp2_with fail
      go_ret
      exact ⟨⟨1 + r, by go_num, by omega, by omega⟩, rfl⟩
    · go_wp2_with fail
      refine (HP.out _ (by decide) (by decide) _).mono ?_
      rintro e w2 ⟨⟨r, rfl, r0, r1⟩, hw2⟩
      subst hw2
      go_wp2_with fail
      go_ret
      exact ⟨⟨1 + r, by go_num, by omega, by omega⟩, rfl⟩
  · simp only [if_true]
    go_enter Tryz.func19, Tryz.ntmps19
    go_wp2_with fail
    refine (HP.out _ (by decide) (by decide) _).mono ?_
    rintro e w1 ⟨⟨q, rfl, q0, q4⟩, hw1⟩
    subst hw1
    by_cases hq : 0 < q
    · go_wp2_with fail
      refine (HP.out _ (by decide) (by decide) _).mono ?_
      rintro e w2 ⟨⟨r, rfl, r0, r1⟩, hw2⟩
      subst hw2
      go_wp2_with fail
      go_ret
      exact ⟨⟨1 + r, by go_num, by omega, by omega⟩, rfl⟩
    · go_wp2_with fail
      refine (HP.out _ (by decide) (by decide) _).mono ?_
      rintro e w2 ⟨⟨r, rfl, r0, r1⟩, hw2⟩
      subst hw2
      go_wp2_with fail
      go_ret
      exact ⟨⟨1 + r, by go_num, by omega, by omega⟩, rfl⟩
set_option maxHeartbeats 4000000 in
theorem lines22 (cols : Bool) (at' n : Int) (g : Nat) (L : List Cc) (w : World) (hg : GI 0 w g L) (hL : Ok17 L) (hv : VS w) :
    Calls Tryz.prog 21 #[.pointer (some ⟨g, 0, none⟩), .bool cols, .int .i64 at', .int .i64 n] w fun e w' => ∃ v u, e = .returned (.tuple #[v, u]) ∧ LnR cols at' n L w w' (.tuple #[v, u]) := by
  have two : ∀ {cols : Bool} {e : Ending} {w' : World}, (∃ v, e = .returned v ∧ LnR cols at' n L w w' v) → ∃ v u, e = .returned (.tuple #[v, u]) ∧ LnR cols at' n L w w' (.tuple #[v, u]) := by
    rintro cols e w' ⟨v, rfl, h⟩
    cases h with
    | bad h k => exact ⟨_, _, rfl, .bad h k⟩
    | off h hn hl k => exact ⟨_, _, rfl, .off h hn hl k⟩
    | ok h hl g2 M hb => exact ⟨_, _, rfl, .ok h hl g2 M hb⟩
  cases cols
  · have H : Hid (Calls Tryz.prog 33 #[.pointer (some ⟨g, 0, none⟩), .int .i64 at', .int .i64 n] w fun e w' => ∃ v u, e = .returned (.tuple #[v, u]) ∧ LnR false at' n L w w' (.tuple #[v, u])) := (rows_at at' n g L w hg hL hv).mono fun e w' h => two h
    clear hg hL hv two
    go_enter Tryz.func21, Tryz.ntmps21
    go_wp2_with fail
    refine H.out.mono ?_
    rintro e w1 ⟨v, u, rfl, h⟩
    have HR : Hid (LnR false at' n L w w1 (.tuple #[v, u])) := h
    clear h
    go_wp2_with fail
    go_ret2
    exact ⟨_, _, rfl, HR.out⟩
  · have H : Hid (Calls Tryz.prog 38 #[.pointer (some ⟨g, 0, none⟩), .int .i64 at', .int .i64 n] w fun e w' => ∃ v u, e = .returned (.tuple #[v, u]) ∧ LnR true at' n L w w' (.tuple #[v, u])) := (cols_at at' n g L w hg hL hv).mono fun e w' h => two h
    clear hg hL hv two
    go_enter Tryz.func21, Tryz.ntmps21
    go_wp2_with fail
    refine H.out.mono ?_
    rintro e w1 ⟨v, u, rfl, h⟩
    have HR : Hid (LnR true at' n L w w1 (.tuple #[v, u])) := h
    clear h
    go_wp2_with fail
    go_ret2
    exact ⟨_, _, rfl, HR.out⟩
set_option maxHeartbeats 4000000 in
theorem all22 (g : Nat) (w : World) : Calls Tryz.prog 26 #[.pointer (some ⟨g, 0, none⟩)] w fun e w' => ∃ x0 x1, e = .returned (.func (.func 121) #[] #[.pointer (some ⟨x0, 0, none⟩), .pointer (some ⟨x1, 0, none⟩)]) ∧ Blk w' x0 [.pointer (some ⟨g, 0, none⟩)] 24 ∧ Blk w' x1 [.int .i64 1, .int .i64 1, .int .i64 256, .int .i64 4096] 34 ∧ Kp w w' Nul := by
  have H := all_at g w
  have HA : Hid (Calls Tryz.prog 34 #[.pointer (some ⟨g, 0, none⟩)] w fun e w' => ∃ x0 x1, e = .returned (.func (.func 121) #[] #[.pointer (some ⟨x0, 0, none⟩), .pointer (some ⟨x1, 0, none⟩)]) ∧ Blk w' x0 [.pointer (some ⟨g, 0, none⟩)] 24 ∧ Blk w' x1 [.int .i64 1, .int .i64 1, .int .i64 256, .int .i64 4096] 34 ∧ Kp w w' Nul) := H
  clear H
  go_enter Tryz.func26, Tryz.ntmps26
  go_wp2_with fail
  refine HA.out.mono ?_
  rintro e w1 ⟨x0, x1, rfl, h⟩
  have HH : Hid (Blk w1 x0 [.pointer (some ⟨g, 0, none⟩)] 24 ∧ Blk w1 x1 [.int .i64 1, .int .i64 1, .int .i64 256, .int .i64 4096] 34 ∧ Kp w w1 Nul) := h
  clear h HA
  have hn1 := eq_nil2 121
  go_wp2_with fail
  go_ret
  exact ⟨_, _, rfl, HH.out⟩
/-- A content that may be is small. -/
theorem zeroN_size {t : Nd} (h : zeroN t = true) : t.size = 1 := by
  obtain ⟨hd, ts⟩ := t
  unfold zeroN zNd at h
  rw [tsame] at h
  cases ts with
  | nil => rw [Nd.size, sizeL]
  | cons a r => simp [lsame] at h
theorem gv_size {c : Ct} (h : gv c = true) : c.t.size ≤ 1048576 := by
  unfold gv validC at h
  simp only [Bool.or_eq_true, Bool.and_eq_true] at h
  rcases h with (⟨_, _, h⟩ | ⟨_, _, h⟩) | ⟨_, _, h⟩
  · rw [zeroN_size h]; decide
  · rw [zeroN_size h]; decide
  · have e : chk c.t = 0 := by simpa using h
    unfold chk at e
    by_cases q : 256 < c.t.size
    · rw [if_pos q] at e; omega
    · omega
/-- Put, of any content, however great. -/
theorem put_all (G : Nat → Prop) (g : Nat) (c r : Int) (ct : Ct) (sl : Value) (F : Nat → Prop) (L : List Cc) (w : World) (hG : GridIn w G g L) (hnew : ∀ i, w.heap.size ≤ i → G i) (hL : Ok17 L) (hok : ct.t.ok) (hx : ct.v.x < 18446744073709551616) (hin : NdIn w F sl ct.t) (U : VS w) :
    Calls Tryz.prog 16 #[.pointer (some ⟨g, 0, none⟩), .agg #[.int .i64 c, .int .i64 r], ct.val sl] w fun e w' => ∃ er L', e = .returned (.int .i64 er) ∧ GridIn w' G g L' ∧ PutR L c r ct er L' ∧ Km g w w' := by
  cases hV : gv ct with
  | true => exact put_any G g c r ct sl F L w hG hnew hL hok hx (gv_size hV) hin U
  | false =>
    have h : GI 0 w g L := GridIn.mono hG (fun _ _ => Nat.zero_le _)
    obtain ⟨mv, bg⟩ := h.blk
    refine (put_no g c r ct sl false w (fun e => by cases e) (fun wq k => by have := gv_at ct sl F wq hok (hin.kp k (fun _ _ x => x)) (U.kp k); rw [hV] at this; exact this)).mono ?_
    rintro e w' ⟨rfl, k⟩
    exact ⟨_, L, rfl, hG.kp k, ⟨hL, fun _ h2 => (by rw [hV] at h2; cases h2), fun _ h2 => (by rw [hV] at h2; cases h2)⟩, Km.of_nul k bg.lt⟩
end Go.Proofs.YtbkcebbddhaifaaGreatDoor
namespace Go.Proofs.YtbkcebbddhaifaaGreatDoor
open Go.RowKit Go.Maps

set_option maxRecDepth 20000 in
set_option maxHeartbeats 16000000 in
theorem made22 (vl : Value) (xl : List (Cc × Value)) (w : World) (hl : PutsIn w vl xl) (hv : VS w) :
    Calls Tryz.prog 18 #[vl] w fun e w' => ∃ g L, e = .returned (.pointer (some ⟨g, 0, none⟩)) ∧ GI w.heap.size w' g L ∧ Ok17 L ∧ Kp w w' Nul := by
  have HNew : Hid (∀ w, Calls Tryz.prog 31 #[] w fun e w' => ∃ g, e = .returned (.pointer (some ⟨g, 0, none⟩)) ∧ GI w.heap.size w' g [] ∧ Kp w w' Nul) := fun w => (new_at w).mono (by
    rintro e w' ⟨rfl, rfl⟩
    exact ⟨_, rfl, grid_new w _ (Nat.le_refl _), (Kp.refl w Nul).alloc _⟩)
  have HV : Hid (VS w) := hv
  obtain ⟨la, lc, rfl, hla⟩ := hl.sl
  have HLA : Hid (0 < xl.length → ∃ b o, la = some ⟨b, o, none⟩ ∧ ∀ (i : Nat) y, xl[i]? = some y → w.rangeAt b (o + i * 23) (ptCells y.1 y.2)) := hla
  have HLC : Hid (∀ y ∈ xl, Cn w y.1.2 y.2) := hl.cn
  have hLL : xl.length ≤ 9223372036854775807 := by have := hl.len; unfold maxLen at this; omega
  generalize hnl : xl.length = nl at *
  have HNL : Hid (xl.length = nl ∧ nl ≤ 9223372036854775807) := ⟨hnl, hLL⟩
  clear hl hv hla hnl hLL
  go_enter Tryz.func18, Tryz.ntmps18
  go_wp2_with fail
  refine (HNew.out w).mono ?_
  rintro e w1 ⟨g, rfl, hg1, hk1⟩
  have HG1 : Hid (GI w.heap.size w1 g []) := hg1
  have HK1 : Hid (Kp w w1 Nul) := hk1
  clear hg1 hk1 HNew
  go_wp2_with fail
  go_loopw [4] (fun i wr => ∃ (q : Nat) (La : List Cc), q ≤ nl ∧ i = .int .i64 q ∧ GI w.heap.size wr g La ∧ Ok17 La ∧ Kp w wr Nul) (fun i _ => nl - (RowKit.intOf i).toNat)
  case atStart => exact ⟨0, [], Nat.zero_le _, rfl, HG1.out, Ok17.nil, HK1.out⟩
  case round =>
    clear HG1 HK1
    obtain ⟨q, La, hq, rfl, hgr, hor, hkr⟩ := hrel
    have HGR : Hid (GI w.heap.size wr g La) := hgr
    have HOR : Hid (Ok17 La) := hor
    have HKR : Hid (Kp w wr Nul) := hkr
    clear hgr hor hkr
    by_cases hlt : q < nl
    · have hqt : q < xl.length := by rw [HNL.out.1]; exact hlt
      obtain ⟨b, o, rfl, hra⟩ := HLA.out (by have := HNL.out.1; omega)
      obtain ⟨⟨⟨⟨c, s⟩, a⟩, sa⟩, hys⟩ : ∃ y, xl[q] = y := ⟨_, rfl⟩
      have hget : xl[q]? = some (((c, s), a), sa) := by rw [List.getElem?_eq_getElem hqt, hys]
      have hr := hra q _ hget
      have hcn := HLC.out _ (List.mem_of_getElem? hget)
      have HCN : Hid (Cn w a sa) := hcn
      have HRG : Hid (∀ wq, Kp w wq Nul → wq.rangeAt b (o + q * 23) [.int .i64 c, .int .i64 s] ∧ wq.rangeAt b (o + q * 23 + 2) (a.cells sa)) := fun wq k => pt_parts (rangeAt_kp hr k (fun x => x))
      have hq0 : (0 : Int) ≤ (q : Int) := by omega
      have hqn : (q : Int) < (nl : Int) := by omega
      have hkb : (q : Int) + 1 ≤ 9223372036854775807 := by have := HNL.out.2; omega
      have HPut : Hid (∀ wq, Kp wr wq Nul → Calls Tryz.prog 16 #[.pointer (some ⟨g, 0, none⟩), .agg #[.int .i64 c, .int .i64 s], .agg (a.cells sa).toArray] wq fun e w' => ∃ er L', e = .returned (.int .i64 er) ∧ GI w.heap.size w' g L' ∧ Ok17 L' ∧ Kp w w' Nul) := fun wq k => by
        have hk := HKR.out.trans k
        have hgq := HGR.out.kp k
        refine (put_all (fun i => w.heap.size ≤ i) g c s a sa (fun _ => True) La wq hgq (fun i hi => Nat.le_trans hk.size hi) HOR.out HCN.out.ok HCN.out.vx (HCN.out.inn.kp hk (fun _ _ x => x)) (HV.out.kp hk)).mono ?_
        rintro e w' ⟨er, L', rfl, h1, h2, h3⟩
        exact ⟨er, L', rfl, h1, h2.ok, hk.trans' h3.kp (fun i hi hs => by have := grid_sm hgq hs; omega)⟩
      clear hqt hys hget hr hra hcn
      go_wp2_with fail
      refine wp_region_noPanic ?_
      refine wp_region_hel (fun w' : World => Kp w w' Nul) (by kernel_rfl) (HKR.out.drew) (fun hHeld => ?_)
      refine wpH_takes (i := 0) (v := ?_) (some 16) rfl rfl (by kernel_rfl) (by kernel_rfl) (by kernel_rfl) (fun _ _ _ h => h) (Or.inl ⟨by rfl, ?_⟩) hHeld ?_
      rotate_left
      · intro w' hSw; clear hSw; go_simp; try with_reducible rfl
      simp only [Act.put, List.setIfInBounds_toArray, List.set_cons_zero, List.set_cons_succ]
      refine wpH_takes (i := 1) (v := ?_) (some 17) rfl rfl (by kernel_rfl) (by kernel_rfl) (by kernel_rfl) (fun _ _ _ h => h) (Or.inl ⟨by rfl, ?_⟩) hHeld ?_
      rotate_left
      · intro w' hSw; clear hSw; go_simp; try with_reducible rfl
      simp only [Act.put, List.setIfInBounds_toArray, List.set_cons_zero, List.set_cons_succ]
      refine wpH_takes (i := 2) (v := ?_) (some 18) rfl rfl (by kernel_rfl) (by kernel_rfl) (by kernel_rfl) (fun _ _ _ h => h) (Or.inl ⟨by rfl, ?_⟩) hHeld ?_
      rotate_left
      · intro w' hSw; clear hSw; go_simp; try with_reducible rfl
      simp only [Act.put, List.setIfInBounds_toArray, List.set_cons_zero, List.set_cons_succ]
      refine wpH_takes (i := 3) (v := ?_) (some 19) rfl rfl (by kernel_rfl) (by kernel_rfl) (by kernel_rfl) (fun _ _ _ h => h) (Or.inl ⟨by rfl, ?_⟩) hHeld ?_
      rotate_left
      · intro w' hSw; clear hSw; go_simp; try with_reducible rfl
      simp only [Act.put, List.setIfInBounds_toArray, List.set_cons_zero, List.set_cons_succ]
      refine wpH_takes (i := 4) (v := ?_) (some 20) rfl rfl (by kernel_rfl) (by kernel_rfl) (by kernel_rfl) (fun _ _ _ h => h) (Or.inl ⟨by rfl, ?_⟩) hHeld ?_
      rotate_left
      · intro w' hSw; clear hSw; go_simp; try with_reducible rfl
      simp only [Act.put, List.setIfInBounds_toArray, List.set_cons_zero, List.set_cons_succ]
      refine wpH_takes (i := 5) (v := .agg ([.int .i64 c, .int .i64 s]).toArray) (some 21) rfl rfl (by kernel_rfl) (by kernel_rfl) (by kernel_rfl) (fun _ _ _ h => h) (Or.inl ⟨by rfl, fun w' hSw => exec_load_row 32 (.tmp 20) rfl b (o + q * 23) rfl ([.int .i64 c, .int .i64 s]) _ (HRG.out w' hSw).1 Tryz.underlying32 rfl infoAddr2⟩) hHeld ?_
      simp only [Act.put, List.setIfInBounds_toArray, List.set_cons_zero, List.set_cons_succ]
      refine wpH_takes (i := 6) (v := ?_) (some 22) rfl rfl (by kernel_rfl) (by kernel_rfl) (by kernel_rfl) (fun _ _ _ h => h) (Or.inl ⟨by rfl, ?_⟩) hHeld ?_
      rotate_left
      · intro w' hSw; clear hSw; go_simp; try with_reducible rfl
      simp only [Act.put, List.setIfInBounds_toArray, List.set_cons_zero, List.set_cons_succ]
      refine wpH_takes (i := 7) (v := ?_) (some 23) rfl rfl (by kernel_rfl) (by kernel_rfl) (by kernel_rfl) (fun _ _ _ h => h) (Or.inl ⟨by rfl, ?_⟩) hHeld ?_
      rotate_left
      · intro w' hSw; clear hSw; go_simp; try with_reducible rfl
      simp only [Act.put, List.setIfInBounds_toArray, List.set_cons_zero, List.set_cons_succ]
      refine wpH_takes (i := 8) (v := ?_) (some 24) rfl rfl (by kernel_rfl) (by kernel_rfl) (by kernel_rfl) (fun _ _ _ h => h) (Or.inl ⟨by rfl, ?_⟩) hHeld ?_
      rotate_left
      · intro w' hSw; clear hSw; go_simp; try with_reducible rfl
      simp only [Act.put, List.setIfInBounds_toArray, List.set_cons_zero, List.set_cons_succ]
      refine wpH_takes (i := 9) (v := ?_) (some 25) rfl rfl (by kernel_rfl) (by kernel_rfl) (by kernel_rfl) (fun _ _ _ h => h) (Or.inl ⟨by rfl, ?_⟩) hHeld ?_
      rotate_left
      · intro w' hSw; clear hSw; go_simp; try with_reducible rfl
      simp only [Act.put, List.setIfInBounds_toArray, List.set_cons_zero, List.set_cons_succ]
      refine wpH_takes (i := 10) (v := .agg (a.cells sa).toArray) (some 26) rfl rfl (by kernel_rfl) (by kernel_rfl) (by kernel_rfl) (fun _ _ _ h => h) (Or.inl ⟨by rfl, fun w' hSw => exec_load_row 55 (.tmp 25) rfl b (o + q * 23 + 2) rfl (a.cells sa) _ (HRG.out w' hSw).2 Tryz.underlying55 rfl infoContent⟩) hHeld ?_
      simp only [Act.put, List.setIfInBounds_toArray, List.set_cons_zero, List.set_cons_succ]
      refine wpH_step (i := 11) (by kernel_rfl) rfl rfl (fun K hK => ?_)
      go_simp
      refine (HPut.out _ ((Kp.refl _ _).drew)).mono ?_
      rintro e w6 ⟨er, L6, rfl, hg6, ho6, hk6⟩
      have HG6 : Hid (GI w.heap.size w6 g L6 ∧ Ok17 L6 ∧ Kp w w6 Nul) := ⟨hg6, ho6, hk6⟩
      refine hK.out _ _ hk6 (fun _ => ?_)
      clear hK K hg6 ho6 hk6 hHeld HPut HRG HKR HGR HOR
      refine wpAnyH_done (by kernel_rfl) ?_ _
      refine NoPanic.normal ?_
      go_wp2_with fail
      go_roundw
      case rel => exact ⟨q + 1, L6, by omega, by go_num, HG6.out⟩
      case measure => simp only [RowKit.intOf]; omega
    · have hqe : q = nl := by omega
      subst hqe
      have hqn : ¬ ((q : Int) < (q : Int)) := by omega
      go_wp2_with fail
      go_ret
      exact ⟨g, rfl, La, HGR.out, HOR.out, HKR.out⟩
end Go.Proofs.YtbkcebbddhaifaaGreatDoor
namespace Go.Proofs.YtbkcebbddhaifaaGreatDoor
open Go.RowKit

/-- Where a line comes. -/
def lnAt (k p z : Int) : Int := if k ≤ z then z + p else z
def lnZ (cols : Bool) (c s : Int) : Int := if cols then c else s
def lnTo (cols : Bool) (k p c s : Int) : Int × Int := if cols then (lnAt k p c, s) else (c, lnAt k p s)
def lnGone (cols : Bool) (k p c s : Int) : Prop := p < 0 ∧ k ≤ lnZ cols c s ∧ lnZ cols c s < k - p
theorem thr_gone {k p most z : Int} (hz : 1 ≤ z ∧ z ≤ most) (hp : p < 0) (h1 : k ≤ z) (h2 : z < k - p) : thr k p most z z = none := by
  unfold thr
  simp only [if_pos hp]
  rw [if_neg (by omega), if_neg (by omega)]
theorem thr_stay {k p most z : Int} (h : LnOk k p most) (hz : 1 ≤ z ∧ z ≤ most) (hn : ¬ (p < 0 ∧ k ≤ z ∧ z < k - p)) (hs : p ≤ 0 ∨ thr k p most z z ≠ none) : thr k p most z z = some (lnAt k p z, lnAt k p z) := by
  have h1 := h.lo
  have h2 := h.hi
  by_cases hk : k ≤ z
  · have e : lnAt k p z = z + p := by unfold lnAt; rw [if_pos hk]
    rw [e]
    by_cases hp : p < 0
    · unfold thr
      simp only [if_pos hp]
      rw [if_neg (by omega), if_pos (by omega)]
      have e1 : max z (k - p) = z := by omega
      have e2 : min z most = z := by omega
      rw [e1, e2]
    · unfold thr at hs ⊢
      simp only [if_neg hp] at hs ⊢
      rw [if_neg (by omega)] at hs ⊢
      by_cases hq : z ≤ most - p
      · rw [if_pos (by omega)]
        have e1 : max z k = z := by omega
        have e2 : min z (most - p) = z := by omega
        rw [e1, e2]
      · rw [if_neg (by omega)] at hs
        rcases hs with hs | hs
        · omega
        · exact absurd rfl hs
  · have e : lnAt k p z = z := by unfold lnAt; rw [if_neg hk]
    rw [e]
    unfold thr
    rw [if_pos (by omega)]
    by_cases hp : p < 0
    · simp only [if_pos hp]
      rw [if_neg (by omega)]
      have e1 : max z 1 = z := by omega
      have e2 : min z (k - 1) = z := by omega
      rw [e1, e2]
    · simp only [if_neg hp]
      rw [if_neg (by omega)]
      have e1 : max z 1 = z := by omega
      have e2 : min z (k - 1) = z := by omega
      rw [e1, e2]
theorem thr_id {most z : Int} (hm : 1 ≤ most) (hz : 1 ≤ z ∧ z ≤ most) : thr 1 0 most z z = some (z, z) := by
  have := thr_stay (k := 1) (p := 0) (most := most) (z := z) ⟨by omega, hm, by omega, by omega⟩ hz (fun q => absurd q.1 (by decide)) (.inl (by decide))
  unfold lnAt at this
  rw [if_pos hz.1, Int.add_zero] at this
  exact this
theorem ln_gone {cols : Bool} {k p c s : Int} (h : lnOk cols k p) (hv : vC c s = true) (hg : lnGone cols k p c s) : lnF cols k p ((c, s), (c, s)) = none := by
  rw [vC_iff] at hv
  obtain ⟨g1, g2, g3⟩ := hg
  unfold lnOk at h
  unfold lnZ at g2 g3
  unfold lnF
  cases cols
  · simp only [Bool.false_eq_true, if_false] at h g2 g3 ⊢
    rw [thr_gone ⟨hv.2.2.1, hv.2.2.2⟩ g1 g2 g3, thr_id (by decide) ⟨hv.1, hv.2.1⟩]
  · simp only [if_true] at h g2 g3 ⊢
    rw [thr_gone ⟨hv.1, hv.2.1⟩ g1 g2 g3]
theorem ln_stay {cols : Bool} {k p c s : Int} (h : lnOk cols k p) (hv : vC c s = true) (hg : ¬ lnGone cols k p c s) (hs : p ≤ 0 ∨ lnF cols k p ((c, s), (c, s)) ≠ none) : lnF cols k p ((c, s), (c, s)) = some (lnTo cols k p c s, lnTo cols k p c s) := by
  rw [vC_iff] at hv
  unfold lnOk at h
  unfold lnGone lnZ at hg
  unfold lnF lnTo at *
  cases cols
  · simp only [Bool.false_eq_true, if_false] at h hg hs ⊢
    rw [thr_id (by decide) ⟨hv.1, hv.2.1⟩] at hs ⊢
    rw [thr_stay h ⟨hv.2.2.1, hv.2.2.2⟩ hg (by
      rcases hs with hs | hs
      · exact .inl hs
      · refine .inr (fun q => hs ?_)
        rw [q])]
  · simp only [if_true] at h hg hs ⊢
    rw [thr_id (by decide) ⟨hv.2.2.1, hv.2.2.2⟩] at hs ⊢
    rw [thr_stay h ⟨hv.1, hv.2.1⟩ hg (by
      rcases hs with hs | hs
      · exact .inl hs
      · refine .inr (fun q => hs ?_)
        rw [q])]
theorem brL_next {f : Fate} {K : List Cc} {k : Nat} {x : Cc} (hx : K[k]? = some x) : (brL f (K.take (k + 1))).length = (brL f (K.take k)).length + (if f (x.1, x.1) = none then 0 else 1) := by
  rw [take_snoc hx]
  unfold brL
  rw [List.filterMap_append, List.length_append]
  cases h : f (x.1, x.1) with
  | none => simp [h]
  | some b => simp [h]
theorem brL_le (f : Fate) (K : List Cc) : (brL f K).length ≤ K.length := List.length_filterMap_le _ _
theorem brL_len {f : Fate} {L K M : List Cc} (hf : FateInj f) (hv : ∀ x ∈ L, vC x.1.1 x.1.2 = true) (hK : K.Pairwise (fun x y => x.1 ≠ y.1)) (hKL : ∀ x, x ∈ K ↔ x ∈ L) (hM : M.Pairwise (fun x y => x.1 ≠ y.1)) (hm : ∀ y, y ∈ M ↔ y ∈ brL f L) : (brL f K).length = M.length := by
  have nM : M.Nodup := hM.imp (fun {x y} q e => q (by rw [e]))
  have nK : (brL f K).Nodup := by
    unfold brL List.Nodup
    rw [List.pairwise_filterMap]
    refine (List.Pairwise.and_mem.1 hK).imp ?_
    · rintro x y ⟨hx, hy, hne⟩ b hb b' hb' e
      rw [Option.map_eq_some_iff] at hb hb'
      obtain ⟨u, hu, rfl⟩ := hb
      obtain ⟨u', hu', rfl⟩ := hb'
      exact hf x.1 y.1 u u' (hv x ((hKL x).1 hx)) (hv y ((hKL y).1 hy)) hne hu hu' (Prod.mk.inj e).1
  refine ((List.perm_ext_iff_of_nodup nK nM).2 (fun y => ?_)).length_eq
  rw [hm y, brL_mem, brL_mem]
  constructor
  · rintro ⟨x, hx, q⟩
    exact ⟨x, (hKL x).1 hx, q⟩
  · rintro ⟨x, hx, q⟩
    exact ⟨x, (hKL x).2 hx, q⟩
theorem lost_some {f : Fate} {L : List Cc} (h : lostB f L = false) {x : Cc} (hx : x ∈ L) : f (x.1, x.1) ≠ none := fun e => by
  unfold lostB at h
  have := List.any_eq_false.1 h x hx
  rw [e] at this
  simp at this
end Go.Proofs.YtbkcebbddhaifaaGreatDoor
namespace Go.Proofs.YtbkcebbddhaifaaGreatDoor
open Go.RowKit

theorem PutsIn.kp {w w' : World} {v : Value} {xs : List (Cc × Value)} (h : PutsIn w v xs) (k : Kp w w' Nul) : PutsIn w' v xs := by
  obtain ⟨⟨a, c, e, hs⟩, hl, hc⟩ := h
  refine ⟨⟨a, c, e, fun h0 => ?_⟩, hl, fun y hy => ⟨(hc y hy).ok, (hc y hy).vx, (hc y hy).inn.kp k (fun _ _ x => x)⟩⟩
  obtain ⟨b, o, e1, h1⟩ := hs h0
  exact ⟨b, o, e1, fun i y hy => rangeAt_kp (h1 i y hy) k (fun x => x)⟩
/-- Where the law's variables lie. -/
structure MlP where
  p5 : Nat
  p8 : Nat
  p10 : Nat
  p11 : Nat
  p12 : Nat
  p14 : Nat
structure MlI (f : Fate) (cols : Bool) (k p : Int) (w : World) (B : Nat) (q : MlP) (g2 : Nat) (K M : List Cc) (j : Nat) (Z : Nat → Prop) (W : World) : Prop where
  c5 : Blk W q.p5 [.bool cols] 4
  c8 : Blk W q.p8 [.bool false] 4
  c10 : Blk W q.p10 [.int .i64 k] 3
  c11 : Blk W q.p11 [.int .i64 p] 3
  c12 : Blk W q.p12 [.pointer (some ⟨g2, 0, none⟩)] 24
  c14 : Blk W q.p14 [.int .i64 (brL f (K.take j)).length] 3
  gi : GridIn W (fun i => i < B ∧ i ≠ q.p14) g2 M
  kp : Kp w W Nul
  z : ∀ i, Z i ↔ i = q.p14
  lt : q.p5 < B ∧ q.p8 < B ∧ q.p10 < B ∧ q.p11 < B ∧ q.p12 < B ∧ q.p14 < B ∧ w.heap.size ≤ B
  ne : q.p5 ≠ q.p14 ∧ q.p8 ≠ q.p14 ∧ q.p10 ≠ q.p14 ∧ q.p11 ≠ q.p14 ∧ q.p12 ≠ q.p14 ∧ w.heap.size ≤ q.p14
section
variable {f : Fate} {cols : Bool} {k p : Int} {w : World} {B : Nat} {q : MlP} {g2 : Nat} {K M : List Cc} {j : Nat} {Z : Nat → Prop} {W W' : World}
theorem MlI.far {S : Nat → Prop} (h : MlI f cols k p w B q g2 K M j Z W) (g : Kp W W' S) (hS : ∀ i, i < B → ¬ S i) : MlI f cols k p w B q g2 K M j Z W' := by
  obtain ⟨l5, l8, l10, l11, l12, l14, lw⟩ := h.lt
  exact ⟨h.c5.kp g (hS _ l5), h.c8.kp g (hS _ l8), h.c10.kp g (hS _ l10), h.c11.kp g (hS _ l11), h.c12.kp g (hS _ l12), h.c14.kp g (hS _ l14), h.gi.far' g (fun i hi => hS i hi.1), h.kp.trans' g (fun i hi e => hS i (by omega) e), h.z, h.lt, h.ne⟩
theorem MlI.nul (h : MlI f cols k p w B q g2 K M j Z W) (g : Kp W W' Nul) : MlI f cols k p w B q g2 K M j Z W' := h.far g (fun _ _ q => q)
theorem MlI.skip {x : Cc} (h : MlI f cols k p w B q g2 K M j Z W) (hx : K[j]? = some x) (hf : f (x.1, x.1) = none) : MlI f cols k p w B q g2 K M (j + 1) Z W := by
  refine ⟨h.c5, h.c8, h.c10, h.c11, h.c12, ?_, h.gi, h.kp, h.z, h.lt, h.ne⟩
  have e := brL_next (f := f) hx
  rw [if_pos hf, Nat.add_zero] at e
  rw [e]
  exact h.c14
theorem MlI.next {x : Cc} (h : MlI f cols k p w B q g2 K M j Z W) (hx : K[j]? = some x) (hf : f (x.1, x.1) ≠ none) (g : Kp W W' (fun i => i = q.p14)) (b : Blk W' q.p14 [.int .i64 (((brL f (K.take j)).length : Int) + 1)] 3) : MlI f cols k p w B q g2 K M (j + 1) Z W' := by
  obtain ⟨l5, l8, l10, l11, l12, lw⟩ := h.ne
  refine ⟨h.c5.kp g l5, h.c8.kp g l8, h.c10.kp g l10, h.c11.kp g l11, h.c12.kp g l12, ?_, h.gi.far' g (fun i hi => hi.2), h.kp.trans' g (fun i hi e => by have e' : i = q.p14 := e; omega), h.z, h.lt, h.ne⟩
  have e := brL_next (f := f) hx
  rw [if_neg hf] at e
  rw [e]
  exact b
end
end Go.Proofs.YtbkcebbddhaifaaGreatDoor
