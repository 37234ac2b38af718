/- Puts: the puts that lead from one grid to another. -/
import Derived.Test.YtjmbmapanmbnhaaDoorB38
namespace Go.Proofs.YtjmbmapanmbnhaaDoor
open Go.RowKit Go.Maps Go.Sort Go.Lib

/-- What a put of Puts has: the other grid's content, or the empty one. -/
def PutOf (M : List Cc) (x : Cc) : Prop := x ∈ M ∨ (x.2 = ct0 ∧ ∀ b, (x.1, b) ∉ M)
/-- What Puts tells. -/
structure PutsR (w w' : World) (L M : List Cc) (v : Value) (ys : List (Cc × Value)) : Prop where
  pts : Pts w' w.heap.size (fun _ => True) v ys
  strict : Strict (ys.map (·.1.1))
  mem : ∀ x, x ∈ ys.map (·.1.1) ↔ Un L M x
  put : ∀ y ∈ ys, PutOf M y.1
  kp : Kp w w' Nul
theorem nodup_le {α : Type} [DecidableEq α] : ∀ (l m : List α), l.Nodup → (∀ x ∈ l, x ∈ m) → l.length ≤ m.length
  | [], m, _, _ => Nat.zero_le _
  | x :: l, m, hn, hs => by
    rw [List.nodup_cons] at hn
    have hx : x ∈ m := hs x List.mem_cons_self
    have h := nodup_le l (m.erase x) hn.2 (fun y hy => (List.mem_erase_of_ne (by rintro rfl; exact hn.1 hy)).2 (hs y (List.mem_cons_of_mem _ hy)))
    rw [List.length_erase_of_mem hx] at h
    have : 0 < m.length := List.length_pos_of_mem hx
    rw [List.length_cons]; omega
theorem strict_nodup {U : List (Int × Int)} (h : Strict U) : U.Nodup := h.imp (fun {x y} h e => by subst e; rw [swoA.irrefl] at h; cases h)
set_option maxRecDepth 20000 in
set_option maxHeartbeats 16000000 in
theorem puts_at (g o : Nat) (L M : List Cc) (w : World) (hg : GI 0 w g L) (ho : GI 0 w o M) (gL : ∀ x ∈ L, Gd x.2) (gM : ∀ x ∈ M, Gd x.2) (lL : L.length ≤ 4096) (lM : M.length ≤ 4096) :
    Calls Tryd.prog 25 #[.pointer (some ⟨g, 0, none⟩), .pointer (some ⟨o, 0, none⟩)] w fun e w' => ∃ ys v', e = .returned v' ∧ PutsR w w' L M v' ys := by
  obtain ⟨mvo, bo⟩ := ho.blk
  have HUn : Hid (Calls Tryd.prog 55 #[.pointer (some ⟨g, 0, none⟩), .pointer (some ⟨o, 0, none⟩)] w fun e w' => ∃ U v', e = .returned v' ∧ CellsFrom w.heap.size w' v' U ∧ Strict U ∧ (∀ x, x ∈ U ↔ Un L M x) ∧ Kp w w' Nul) := unlike_at g o L M w hg ho gL gM lL lM
  have HI : Hid (∀ x, Un L M x → I64 x.1 ∧ I64 x.2) := by
    have r1 : ∀ x ∈ L, I64 x.1.1 ∧ I64 x.1.2 := by
      obtain ⟨_, ⟨_, rfl⟩ | ⟨m, D, _, _, _, _, hm⟩⟩ := hg
      · intro x hx; simp at hx
      · exact hm.rng
    have r2 : ∀ x ∈ M, I64 x.1.1 ∧ I64 x.1.2 := by
      obtain ⟨_, ⟨_, rfl⟩ | ⟨m, D, _, _, _, _, hm⟩⟩ := ho
      · intro x hx; simp at hx
      · exact hm.rng
    rintro x (⟨b, h, _⟩ | ⟨⟨a, h⟩, _⟩)
    · exact r2 _ h
    · exact r1 _ h
  have HGet : Hid (∀ c s, I64 c → I64 s → ∃ a, PutOf M ((c, s), a) ∧ ∀ wq, Kp w wq Nul → Calls Tryd.prog 28 #[.pointer (some ⟨o, 0, none⟩), .agg #[.int .i64 c, .int .i64 s]] wq fun e w' => ∃ sl' fp, e = .returned (a.val sl') ∧ Own w' wq.heap.size sl' a.t fp ∧ Kp wq w' Nul) := fun c s hc hs => by
    obtain ⟨a, sa, bb, hlk, hinA, hax, hao, hasz, hacp, hcase⟩ := look_ct ho gM hc hs bo
    refine ⟨a, ?_, fun wq k => get_own o c s mvo (a.val sa) bb a wq (lk_kp hlk k) (fun wq' k' => ?_)⟩
    · rcases hcase with ⟨_, h⟩ | ⟨_, h1, _, h2⟩
      · exact .inl h
      · exact .inr ⟨h1, h2⟩
    · refine (gCopy_at a sa (fun b => 0 ≤ b) wq' hax hasz hao (hinA.kp (k.trans k') (fun _ _ x => x))).mono ?_
      rintro e w' ⟨sl', fp, rfl, h1, h2⟩
      rw [hacp] at h1 ⊢
      exact ⟨sl', fp, rfl, h1, Kp.of_below h2⟩
  have HUL : Hid (∀ U, Strict U → (∀ x, x ∈ U ↔ Un L M x) → U.length ≤ 8192) := fun U h1 h2 => by
    have hnd : U.Nodup := strict_nodup h1
    have hsub : ∀ x ∈ U, x ∈ (L.map (·.1)) ++ (M.map (·.1)) := fun x hx => by
      rcases (h2 x).1 hx with ⟨b, h, _⟩ | ⟨⟨a, h⟩, _⟩
      · exact List.mem_append_right _ (List.mem_map.2 ⟨_, h, rfl⟩)
      · exact List.mem_append_left _ (List.mem_map.2 ⟨_, h, rfl⟩)
    have := nodup_le _ _ hnd hsub
    rw [List.length_append, List.length_map, List.length_map] at this
    omega
  obtain ⟨i0, hi, hz0, hz1, hz2⟩ := infoPutI
  clear hg ho gL gM lL lM bo
  go_enter Tryd.func25, Tryd.ntmps25
  go_wp2_with fail
  refine HUn.out.mono ?_
  rintro e w2 ⟨U, v2, rfl, ⟨ua, uc, rfl, hcell⟩, hst, hmem, hk2⟩
  have HK2 : Hid (Kp w w2 Nul) := hk2
  have HST : Hid (Strict U) := hst
  have HMEM : Hid (∀ x, x ∈ U ↔ Un L M x) := hmem
  have HLU : Hid (U.length ≤ 8192) := HUL.out U hst hmem
  have HCell : Hid ((ua = none ∧ U = []) ∨ ∃ b, ua = some ⟨b, 0, none⟩ ∧ w.heap.size ≤ b ∧ CellsAt w2 b 0 U) := hcell
  clear hk2 hst hmem hcell HUn HUL
  generalize hn : U.length = n at *
  have HN : Hid (U.length = n) := hn
  clear hn
  go_wp2_with fail
  go_loopw [5, 18] (fun v i wr => ∃ (q : Nat) (ys : List (Cc × Value)), q ≤ n ∧ i = .int .i64 q ∧ ys.map (·.1.1) = U.take q ∧ (∀ y ∈ ys, PutOf M y.1) ∧ Pts wr w2.heap.size (fun i => v.ownBlock ≠ some i) v ys ∧ Kp w2 wr Nul) (fun _ i _ => n - (RowKit.intOf i).toNat)
  case atStart => exact ⟨0, [], Nat.zero_le _, rfl, rfl, fun y h => by simp at h, Pts.nil _ _ _, Kp.refl _ _⟩
  case round =>
    obtain ⟨q, ys, hq, rfl, hmap, hput, hpts, hkq⟩ := hrel
    have HMAP : Hid (ys.map (·.1.1) = U.take q) := hmap
    have HPUT : Hid (∀ y ∈ ys, PutOf M y.1) := hput
    have HPTS : Hid (Pts wr w2.heap.size (fun i => u5.ownBlock ≠ some i) u5 ys) := hpts
    have HKQ : Hid (Kp w2 wr Nul) := hkq
    have hysl : ys.length = min q n := by rw [← HN.out]; have := congrArg List.length hmap; simpa using this
    have HYL : Hid (ys.length = q) := by show _ = _; omega
    clear hmap hput hpts hkq hysl
    by_cases hlt : q < n
    · have hqt : q < U.length := by rw [HN.out]; exact hlt
      obtain ⟨b, rfl, hbw, hca⟩ : ∃ b, ua = some ⟨b, 0, none⟩ ∧ w.heap.size ≤ b ∧ CellsAt w2 b 0 U := by
        rcases HCell.out with ⟨_, h⟩ | h
        · rw [h] at hqt; simp at hqt
        · exact h
      obtain ⟨x0, x1⟩ := (hca.kp HKQ.out (fun x => x)) q U[q] (List.getElem?_eq_getElem hqt)
      obtain ⟨⟨c, s⟩, hcs⟩ : ∃ cs, U[q] = cs := ⟨_, rfl⟩
      rw [hcs] at x0 x1
      simp only at x0 x1
      have hun : Un L M (c, s) := (HMEM.out _).1 (hcs ▸ List.getElem_mem hqt)
      have hii := HI.out _ hun
      obtain ⟨a, hpa, hget⟩ := HGet.out c s hii.1 hii.2
      have HPA : Hid (PutOf M ((c, s), a)) := hpa
      have HGT : Hid (∀ wq, Kp w wq Nul → Calls Tryd.prog 28 #[.pointer (some ⟨o, 0, none⟩), .agg #[.int .i64 c, .int .i64 s]] wq fun e w' => ∃ sl' fp, e = .returned (a.val sl') ∧ Own w' wq.heap.size sl' a.t fp ∧ Kp wq w' Nul) := hget
      have HTK : Hid (U.take (q + 1) = U.take q ++ [(c, s)]) := by show _ = _; rw [List.take_add_one, List.getElem?_eq_getElem hqt, hcs]; rfl
      have hkb : (q : Int) + 1 ≤ 9223372036854775807 := by have := HLU.out; omega
      have hq0 : (0 : Int) ≤ (q : Int) := by omega
      have hqn : (q : Int) < (n : Int) := by omega
      have x0' : wr.cell? ⟨b, q * 2, none⟩ = some (.int .i64 c) := by rw [Nat.zero_add] at x0; exact x0
      have x1' : wr.cell? ⟨b, q * 2 + 1, none⟩ = some (.int .i64 s) := by rw [Nat.zero_add] at x1; exact x1
      obtain ⟨pv, cv, rfl, _⟩ := HPTS.out.slice
      clear hca hun hii hpa hget hcs hqt x0 x1 hbw
      go_wp2_with fail
      have hA : Blk (wr.alloc (.cells #[.int .i64 c, .int .i64 s] 26)) wr.heap.size [.int .i64 c, .int .i64 s] 26 := Blk.new wr _ _
      have HA : Hid (∀ wq, Kp (wr.alloc (.cells #[.int .i64 c, .int .i64 s] 26)) wq Nul → wq.cell? ⟨wr.heap.size, 0, none⟩ = some (.int .i64 c) ∧ wq.cell? ⟨wr.heap.size, 1, none⟩ = some (.int .i64 s)) := fun wq k => ⟨(hA.kp k (fun x => x)).cell rfl, (hA.kp k (fun x => x)).cell rfl⟩
      clear hA x0' x1'
      refine wp_region_noPanic ?_
      refine wp_region_hel (fun w' : World => w'.cell? ⟨wr.heap.size, 0, none⟩ = some (.int .i64 c) ∧ w'.cell? ⟨wr.heap.size, 1, none⟩ = some (.int .i64 s)) (by kernel_rfl) (HA.out _ ((Kp.refl _ _).drew)) (fun hHeld => ?_)
      refine wpH_takes (i := 0) (v := ?_) (some 22) rfl rfl (by kernel_rfl) (by kernel_rfl) (by kernel_rfl) (fun _ _ _ h => h) (Or.inl ⟨by rfl, ?_⟩) hHeld ?_
      rotate_left
      · intro w' hSw; obtain ⟨s0, s1⟩ := hSw; go_simp; try with_reducible rfl
      simp only [Act.put, List.setIfInBounds_toArray, List.set_cons_zero, List.set_cons_succ]
      refine wpH_takes (i := 1) (v := ?_) (some 23) rfl rfl (by kernel_rfl) (by kernel_rfl) (by kernel_rfl) (fun _ _ _ h => h) (Or.inl ⟨by rfl, ?_⟩) hHeld ?_
      rotate_left
      · intro w' hSw; obtain ⟨s0, s1⟩ := hSw; go_simp; try with_reducible rfl
      simp only [Act.put, List.setIfInBounds_toArray, List.set_cons_zero, List.set_cons_succ]
      refine wpH_takes (i := 2) (v := ?_) (some 24) rfl rfl (by kernel_rfl) (by kernel_rfl) (by kernel_rfl) (fun _ _ _ h => h) (Or.inl ⟨by rfl, ?_⟩) hHeld ?_
      rotate_left
      · intro w' hSw; obtain ⟨s0, s1⟩ := hSw; go_simp; try with_reducible rfl
      simp only [Act.put, List.setIfInBounds_toArray, List.set_cons_zero, List.set_cons_succ]
      refine wpH_takes (i := 3) (v := ?_) (some 25) rfl rfl (by kernel_rfl) (by kernel_rfl) (by kernel_rfl) (fun _ _ _ h => h) (Or.inl ⟨by rfl, ?_⟩) hHeld ?_
      rotate_left
      · intro w' hSw; obtain ⟨s0, s1⟩ := hSw; go_simp; try with_reducible rfl
      simp only [Act.put, List.setIfInBounds_toArray, List.set_cons_zero, List.set_cons_succ]
      refine wpH_step (i := 4) (by kernel_rfl) rfl rfl (fun K hK => ?_)
      go_simp
      have kq : Kp w (wr.alloc (.cells #[.int .i64 c, .int .i64 s] 26)).drew Nul := ((HK2.out.trans HKQ.out).alloc _).drew
      refine (HGT.out _ kq).mono ?_
      rintro e w4 ⟨s4, f4, rfl, hown4, hk4⟩
      refine hK.out _ _ (HA.out w4 ((Kp.refl _ _).drew.trans hk4)) (fun hHeld2 => ?_)
      clear hK K hHeld kq
      refine wpH_step (i := 5) (by kernel_rfl) rfl rfl (fun K hK => ?_)
      go_simp
      refine hK.out _ _ hHeld2 (fun _ => ?_)
      clear hK K
      have HK4 : Hid (Kp wr w4 Nul) := ((Kp.refl wr Nul).alloc _).drew.trans hk4
      have HO4 : Hid (NdIn w4 (fun i => (Value.slice pv ys.length cv).ownBlock ≠ some i) s4 a.t) := hown4.own.isIn (fun i hi e => by
        have h1 := (hown4.new i hi).1
        have h2 := (HPTS.out.row.lt i e).2
        have h3 : (wr.alloc (.cells #[.int .i64 c, .int .i64 s] 26)).drew.heap.size = wr.heap.size + 1 := World.size_alloc _ _
        omega)
      have OS4 : Hid (s4.oneCell' = true) := hown4.own.one
      have hcell5 := HA.out (w4.alloc (.cells (ptCells ((c, s), a) s4).toArray 50)) (((Kp.refl _ _).drew.trans hk4).alloc _)
      have hw2s : w2.heap.size ≤ w4.heap.size := Nat.le_trans HKQ.out.size HK4.out.size
      have HRow : Hid ((w4.alloc (.cells (ptCells ((c, s), a) s4).toArray 50)).ownsRow w2.heap.size 50 23 (.slice pv ys.length cv) ys.length (rowP ys)) := ((HPTS.out.kp HK4.out).row).alloc _
      have HB5 : Hid (Blk (w4.alloc (.cells (ptCells ((c, s), a) s4).toArray 50)) w4.heap.size (ptCells ((c, s), a) s4) 50) := Blk.new w4 _ _
      have HA5 : Hid (∀ wq : World, (∀ i, i < w4.heap.size → i < w2.heap.size ∨ i = wr.heap.size → wq.heap[i]? = w4.heap[i]?) → wq.cell? ⟨wr.heap.size, 0, none⟩ = some (.int .i64 c) ∧ wq.cell? ⟨wr.heap.size, 1, none⟩ = some (.int .i64 s)) := fun wq h => by
        have e4 := HA.out w4 ((Kp.refl _ _).drew.trans hk4)
        have hl := cell_lt e4.1
        have e := h wr.heap.size hl (.inr rfl)
        simp only [World.cell?] at e4 ⊢
        rw [e]; exact e4
      have hwrB : w2.heap.size ≤ wr.heap.size := HKQ.out.size
      have HNE : Hid ((Value.slice pv ys.length cv).ownBlock ≠ some wr.heap.size) := fun e => by
        have := (HPTS.out.row.lt _ e).2
        omega
      clear hk4 hown4 hHeld2 HA
      refine wpH_step (i := 6) (by kernel_rfl) rfl rfl (fun K hK => ?_)
      go_simp
      refine hK.out _ _ hcell5 (fun hHeld3 => ?_)
      clear hK K hcell5
      refine wpH_step (i := 7) (by kernel_rfl) rfl rfl (fun K hK => ?_)
      refine wp_append_tell _ (.tmp 22) (.tmp 28) 47 rfl w2.heap.size 50 i0 _ 23 200 Tryd.underlying47 hi hz0 hz1 hz2 rfl (by decide) (.slice pv ys.length cv) ys.length (rowP ys) rfl HRow.out ⟨w4.heap.size, 0, none⟩ 1 1 (ptCells ((c, s), a) s4) rfl rfl ?c1 ?c2 (by decide) ?c3 ?c4 ?c5 ?_
      case c1 =>
        intro j u hj
        rw [addr_at, Nat.zero_add]
        exact HB5.out.cell hj
      case c2 => exact pt_one _ OS4.out
      case c3 => rw [HYL.out]; unfold maxLen; have := HLU.out; omega
      case c4 => rw [HYL.out]; have := HLU.out; omega
      case c5 => rw [World.size_alloc]; omega
      intro g6 c6 w6 hrow6 hgr6 htell6
      have hob : ∀ i, (Value.slice pv ys.length cv).ownBlock = some i → w2.heap.size ≤ i := fun i e => own_block HRow.out i e
      have k46 : Kp w4 w6 (fun i => (Value.slice pv ys.length cv).ownBlock = some i) := ((Kp.refl w4 _).alloc _).trans (Kp.of_grown hgr6 (fun i e => e))
      have HK6 : Hid (Kp w2 w6 Nul) := (HKQ.out.trans HK4.out).trans' k46 (fun i hi e => by have := hob i e; omega)
      have hcell6 := HA5.out w6 (fun i hi h => k46.block i hi (fun e => by
        rcases h with h | h
        · have := hob i e; omega
        · subst h; exact HNE.out e))
      have HP6 : Hid (Pts w6 w2.heap.size (fun i => (Value.slice (some ⟨g6, 0, none⟩) (ys.length + 1) c6).ownBlock ≠ some i) (.slice (some ⟨g6, 0, none⟩) (ys.length + 1) c6) (ys ++ [(((c, s), a), s4)])) := by
        refine ⟨by rw [rowP_snoc, List.length_append]; exact hrow6, fun y hy => ?_⟩
        have hT : ∀ sl t, NdIn w4 (fun i => (Value.slice pv ys.length cv).ownBlock ≠ some i) sl t → NdIn w6 (fun i => (Value.slice (some ⟨g6, 0, none⟩) (ys.length + 1) c6).ownBlock ≠ some i) sl t := fun sl t h =>
          h.mono (fun i hi hl => ⟨k46.block i hl hi, fun e => by
            have e' : g6 = i := by simpa [Value.ownBlock] using e
            subst e'
            rcases htell6 with q | q
            · exact hi q
            · rw [World.size_alloc] at q; omega⟩)
        rcases List.mem_append.1 hy with hy | hy
        · exact hT _ _ ((HPTS.out.kp HK4.out).tree y hy)
        · rw [List.mem_singleton] at hy
          subst hy
          exact hT _ _ HO4.out
      have HM6 : Hid ((ys ++ [(((c, s), a), s4)]).map (·.1.1) = U.take (q + 1)) := by show _ = _; rw [List.map_append, HMAP.out, HTK.out]; rfl
      have HPU6 : Hid (∀ y ∈ ys ++ [(((c, s), a), s4)], PutOf M y.1) := fun y hy => by
        rcases List.mem_append.1 hy with hy | hy
        · exact HPUT.out y hy
        · rw [List.mem_singleton] at hy
          subst hy
          exact HPA.out
      refine hK.out _ _ hcell6 (fun hHeld4 => ?_)
      clear hK K hrow6 hgr6 htell6 hob k46 hcell6 hHeld3 HA5 HNE HRow HB5 HO4 hw2s hwrB
      refine wpH_takes (i := 8) (v := ?_) (some 5) rfl rfl (by kernel_rfl) (by kernel_rfl) (by kernel_rfl) (fun _ _ _ h => h) (Or.inl ⟨by rfl, ?_⟩) hHeld4 ?_
      rotate_left
      · intro w' hSw; clear hSw; go_simp; try with_reducible rfl
      simp only [Act.put, List.setIfInBounds_toArray]
      refine wpAnyH_done (by kernel_rfl) ?_ _
      refine NoPanic.normal ?_
      clear hHeld4
      go_wp2_with fail
      go_roundw
      case rel => exact ⟨q + 1, _, by omega, by go_num, HM6.out, HPU6.out, HP6.out, HK6.out⟩
      case measure => simp only [RowKit.intOf]; omega
    · have hqe : q = n := by omega
      subst hqe
      have hqn : ¬ ((q : Int) < (q : Int)) := by omega
      have hall : U.take q = U := by rw [List.take_of_length_le (by rw [HN.out]; exact Nat.le_refl _)]
      have HEND : Hid (PutsR w wr L M u5 ys) := by
        refine ⟨⟨?_, (HPTS.out.mono (fun _ _ _ => trivial)).tree⟩, ?_, ?_, HPUT.out, HK2.out.trans HKQ.out⟩
        · refine ⟨HPTS.out.row.1, ?_⟩
          rcases HPTS.out.row.2 with h | ⟨g', c', cur, h1, h2, h3⟩
          · exact .inl h
          · exact .inr ⟨g', c', cur, h1, Nat.le_trans HK2.out.size h2, h3⟩
        · rw [HMAP.out, hall]; exact HST.out
        · rw [HMAP.out, hall]; exact HMEM.out
      clear HPTS HMAP HPUT hall
      go_wp2_with fail
      go_ret
      exact ⟨ys, u5, rfl, HEND.out⟩
end Go.Proofs.YtjmbmapanmbnhaaDoor
