/- over (quadrillelaw17): an owner writes over a tree of its own; nothing else turns. -/
import Derived.Test.YtjmbmapanmbnhaaDoorH24
namespace Go.Proofs.YtjmbmapanmbnhaaDoor
open Go.RowKit

/-- From place q on the list is as it was. -/
def OvL (w : World) (sl : Value) (q : Nat) (ts : List Nd) (fp : List Nat) : Prop :=
  ts.drop q = [] ∨ ∃ b c pre post, sl = .slice (some ⟨b, 0, none⟩) ts.length c ∧ fp = b :: (pre ++ post) ∧ NdsOwn w b (q * 15) (ts.drop q) post
theorem ownsRow_set {w : World} {B b n c : Nat} {xs : List Value} (h : w.ownsRow B 31 15 (.slice (some ⟨b, 0, none⟩) n c) n xs) (o : Nat) (vs : List Value) : ∃ ys, (w.setCells b o vs).ownsRow B 31 15 (.slice (some ⟨b, 0, none⟩) n c) n ys := by
  rcases h.2 with ⟨e, _⟩ | ⟨g, c', cur, e, hB, hg, hn, hm, hs, ht⟩
  · cases e
  · simp only [Value.slice.injEq, Option.some.injEq, Addr.mk.injEq] at e
    obtain ⟨⟨rfl, _⟩, _, rfl⟩ := e
    have hl : (setAll cur o vs).toList.length = c * 15 := by rw [Array.length_toList, setAll_size]; exact hs
    refine ⟨(setAll cur o vs).toList.take (n * 15), ?_, .inr ⟨b, c, setAll cur o vs, rfl, hB, heap_setCells_at _ _ _ _ hg, hn, hm, by rw [setAll_size]; exact hs, rfl⟩⟩
    rw [List.length_take, hl]
    exact Nat.min_eq_left (Nat.mul_le_mul_right 15 hn)
set_option maxRecDepth 20000 in
set_option maxHeartbeats 8000000 in
theorem over_any (N : Nat) : ∀ (t : Nd) (sl : Value) (fp : List Nat) (w : World), t.size ≤ N → t.size ≤ 1048576 → Own w 0 sl t fp →
    Calls Tryd.prog 17 #[t.hd.val sl] w fun e w' => e = .returned (.tuple #[]) ∧ Kp w w' (fun i => i ∈ fp) := by
  induction N with
  | zero => intro t sl fp w h; have := size_pos t; omega
  | succ N ih =>
    intro t sl fp w hN hm how
    obtain ⟨h, ts⟩ := t
    have hsz : Hid ((Nd.mk h ts).size = 1 + sizeL ts) := by show _ = _; rw [Nd.size]
    have HN : Hid ((Nd.mk h ts).size ≤ N + 1) := hN
    have HM : Hid ((Nd.mk h ts).size ≤ 1048576) := hm
    have IH : Hid (∀ (t : Nd) (sl : Value) (fp : List Nat) (w : World), t.size ≤ N → t.size ≤ 1048576 → Own w 0 sl t fp →
      Calls Tryd.prog 17 #[t.hd.val sl] w fun e w' => e = .returned (.tuple #[]) ∧ Kp w w' (fun i => i ∈ fp)) := ih
    have hln := length_sizeL ts
    have HLM : Hid (ts.length ≤ 1048576) := by show _ ≤ _; have := hsz.out; omega
    clear ih hN hm hln
    obtain ⟨W0, hW0⟩ : ∃ W0, w.alloc (.cells (h.cells sl).toArray 31) = W0 := ⟨_, rfl⟩
    have hk0 : Kp w W0 Nul := by rw [← hW0]; exact (Kp.refl w Nul).alloc _
    have hb0 : Blk W0 w.heap.size (h.cells sl) 31 := by rw [← hW0]; exact Blk.new w _ _
    obtain ⟨xs0, hx0⟩ := how.row
    have hx1 : W0.ownsRow 0 31 15 sl ts.length xs0 := by rw [← hW0]; exact hx0.alloc _
    have hfb : Hid (∀ i ∈ fp, i < w.heap.size) := fun i hi => (how.new i hi).2
    have hnd : Hid fp.Nodup := how.nodup
    have hrw : Hid (∀ i, sl.ownBlock = some i → i ∈ fp) := by
      intro i hi
      have q := how.own
      rw [NdOwn] at q
      rcases q with ⟨_, rfl, _⟩ | ⟨b, c, fps, cs, rfl, _, _, _, _, _, rfl, _⟩
      · simp [Value.ownBlock] at hi
      · simp [Value.ownBlock] at hi; rw [hi]; exact List.mem_cons_self
    have hov : OvL W0 sl 0 ts fp := by
      have q := (how.below (by rw [← hW0]; exact (Below.refl _ _).alloc (Nat.le_refl _) _) : Own W0 0 sl (.mk h ts) fp).own
      rw [NdOwn] at q
      rcases q with ⟨rfl, _, _⟩ | ⟨b, c, fps, cs, rfl, _, _, _, _, _, rfl, h8⟩
      · exact .inl rfl
      · exact .inr ⟨b, c, [], fps, rfl, rfl, by simpa using h8⟩
    obtain ⟨pv, lv, cv, rfl⟩ := ndOwn_slice how.own
    have HST : Hid (Kp w W0 (fun i => i ∈ fp) ∧ Blk W0 w.heap.size (h.cells (.slice pv lv cv)) 31 ∧ (∃ xs, W0.ownsRow 0 31 15 (.slice pv lv cv) ts.length xs) ∧ OvL W0 (.slice pv lv cv) 0 ts fp) := ⟨hk0.of_nul, hb0, ⟨_, hx1⟩, hov⟩
    have hlv : Hid (lv = ts.length) := by
      show _ = _
      have q := how.own
      rw [NdOwn] at q
      rcases q with ⟨e1, e2, _⟩ | ⟨b, c, fps, cs, e2, _⟩
      · simp only [Value.slice.injEq] at e2; rw [e1, e2.2.1]; rfl
      · simp only [Value.slice.injEq] at e2; exact e2.2.1
    clear how hk0 hb0 hx1 hx0 hov
    simp only [Nd.hd]
    generalize hn : ts.length = n at *
    have HL : Hid (ts.length = n) := hn
    obtain rfl : lv = n := hlv.out
    have HW : Hid (w.alloc (.cells #[.int .i64 h.k, .int .i64 h.o, .float .f64 h.x, .string h.s, .bool h.b, .int .i64 h.f, .int .i64 h.c1, .int .i64 h.r1, .bool h.p1, .bool h.q1, .int .i64 h.c2, .int .i64 h.r2, .bool h.p2, .bool h.q2, .slice pv lv cv] 31) = W0) := hW0
    clear hn hW0 hlv
    obtain ⟨i0, hi, hz0, hz1, hz2⟩ := infoNodeI
    go_enter Tryd.func17, Tryd.ntmps17
    go_wp2_with fail
    rw [HW.out]
    clear HW
    go_loopw [2] (fun i wr => ∃ q : Nat, q ≤ lv ∧ i = .int .i64 q ∧ Kp w wr (fun i => i ∈ fp) ∧ Blk wr w.heap.size (h.cells (.slice pv lv cv)) 31 ∧ (∃ xs, wr.ownsRow 0 31 15 (.slice pv lv cv) lv xs) ∧ OvL wr (.slice pv lv cv) q ts fp) (fun i _ => lv - (intOf i).toNat)
    case atStart => exact ⟨0, Nat.zero_le _, rfl, HST.out.1, HST.out.2.1, HST.out.2.2.1, HST.out.2.2.2⟩
    case round =>
      obtain ⟨q, hq, rfl, hkq, hbq, hxq, hoq⟩ := hrel
      clear HST
      have KQ : Hid (Kp w wr (fun i => i ∈ fp)) := hkq
      have x14 : wr.cell? ⟨w.heap.size, 14, none⟩ = some (.slice pv lv cv) := hbq.cell rfl
      by_cases hlt : q < lv
      · have hqt : q < ts.length := by rw [HL.out]; exact hlt
        have hdr : ts.drop q = ts[q] :: ts.drop (q + 1) := List.drop_eq_getElem_cons hqt
        obtain ⟨b, c, pre, post, e1, rfl, hno⟩ : ∃ b c pre post, Value.slice pv lv cv = .slice (some ⟨b, 0, none⟩) ts.length c ∧ fp = b :: (pre ++ post) ∧ NdsOwn wr b (q * 15) (ts.drop q) post := by
          rcases hoq with e | e
          · rw [hdr] at e; cases e
          · exact e
        simp only [Value.slice.injEq] at e1
        obtain ⟨rfl, hlv, rfl⟩ := e1
        clear hlv
        rw [hdr, NdsOwn] at hno
        obtain ⟨s1, f1, f2, hr, hno1, rfl, hno2⟩ := hno
        have hnd' := hnd.out
        rw [List.nodup_cons, List.nodup_append] at hnd'
        obtain ⟨hnb, _, hnf, _⟩ := hnd'
        rw [List.nodup_append] at hnf
        obtain ⟨hn1, _, hn12⟩ := hnf
        have hbf1 : b ∉ f1 := fun hb => hnb (List.mem_append_right _ (List.mem_append_left _ hb))
        have hbf2 : b ∉ f2 := fun hb => hnb (List.mem_append_right _ (List.mem_append_right _ hb))
        have hwsz : w.heap.size ≤ wr.heap.size := hkq.size
        have ho1 : Own wr 0 s1 ts[q] f1 := ⟨hno1, hn1, fun i hi => ⟨Nat.zero_le _, Nat.lt_of_lt_of_le (hfb.out i (List.mem_cons_of_mem _ (List.mem_append_right _ (List.mem_append_left _ hi)))) hwsz⟩⟩
        have hpf : ¬ w.heap.size ∈ b :: (pre ++ (f1 ++ f2)) := fun hb => by have := hfb.out _ hb; omega
        have hs1 := size_get ts q hqt
        have HC := IH.out ts[q] s1 f1 wr (by have := HN.out; have := hsz.out; omega) (by have := HM.out; have := hsz.out; omega) ho1
        have HC' : Hid (Calls Tryd.prog 17 #[(ts[q]).hd.val s1] wr fun e w' => e = .returned (.tuple #[]) ∧ Kp wr w' (fun i => i ∈ f1)) := HC
        have R1 : Hid (wr.rangeAt b (q * 15) ((ts[q]).hd.cells s1)) := hr
        have AFT : Hid (∀ w2, Kp wr w2 (fun i => i ∈ f1) → ∀ vs : List Value, vs.length = 15 → w2.cell? ⟨w.heap.size, 14, none⟩ = some (.slice (some ⟨b, 0, none⟩) lv cv) ∧ w2.there b (q * 15) 15 ∧
            Kp w (w2.setCells b (q * 15) vs) (fun i => i ∈ b :: (pre ++ (f1 ++ f2))) ∧ Blk (w2.setCells b (q * 15) vs) w.heap.size (h.cells (.slice (some ⟨b, 0, none⟩) lv cv)) 31 ∧ (∃ xs, (w2.setCells b (q * 15) vs).ownsRow 0 31 15 (.slice (some ⟨b, 0, none⟩) lv cv) lv xs) ∧ OvL (w2.setCells b (q * 15) vs) (.slice (some ⟨b, 0, none⟩) lv cv) (q + 1) ts (b :: (pre ++ (f1 ++ f2)))) := by
          intro w2 hk2 vs hvs
          have hb2 : Blk w2 w.heap.size (h.cells (.slice (some ⟨b, 0, none⟩) lv cv)) 31 := hbq.kp hk2 (fun hi => hpf (List.mem_cons_of_mem _ (List.mem_append_right _ (List.mem_append_left _ hi))))
          have hbe : w2.heap[b]? = wr.heap[b]? := hk2.block b (rangeAt_lt hr) hbf1
          obtain ⟨xs, hx⟩ := hxq
          have hx2 : w2.ownsRow 0 31 15 (.slice (some ⟨b, 0, none⟩) lv cv) lv xs := by
            refine ⟨hx.1, ?_⟩
            rcases hx.2 with ⟨e, _⟩ | ⟨g, c', cur, e, hB, hg, r⟩
            · cases e
            · have e' := e
              simp only [Value.slice.injEq, Option.some.injEq, Addr.mk.injEq] at e'
              obtain ⟨⟨rfl, _⟩, _⟩ := e'
              exact .inr ⟨b, c', cur, e, hB, hbe.trans hg, r⟩
          have hkb : Kp w2 (w2.setCells b (q * 15) vs) (fun i => i ∈ b :: (pre ++ (f1 ++ f2))) := setCells_kp _ List.mem_cons_self _ _ _
          have hk2' : Kp w w2 (fun i => i ∈ b :: (pre ++ (f1 ++ f2))) := hkq.trans (hk2.mono (fun i _ hi => List.mem_cons_of_mem _ (List.mem_append_right _ (List.mem_append_left _ hi))))
          refine ⟨hb2.cell rfl, ?_, hk2'.trans hkb, hb2.kp hkb hpf, ownsRow_set hx2 _ _, ?_⟩
          · rcases hx2.2 with ⟨e, _⟩ | ⟨g, c', cur, e, hB, hg, hnc, hm, hs, _⟩
            · cases e
            · simp only [Value.slice.injEq, Option.some.injEq, Addr.mk.injEq] at e
              obtain ⟨⟨rfl, _⟩, _, rfl⟩ := e
              exact there_of_block hg _ _ (by rw [hs]; have := Nat.mul_le_mul_right 15 (Nat.le_trans (Nat.succ_le_of_lt hlt) hnc); omega)
          · refine .inr ⟨b, cv, pre ++ f1, f2, by rw [HL.out], by simp, ?_⟩
            have n2 : NdsOwn w2 b ((q + 1) * 15) (ts.drop (q + 1)) f2 := by
              rw [show (q + 1) * 15 = q * 15 + 15 by omega]
              refine hno2.mono (fun o' cs' _ _ hr' => rangeAt_block hr' hbe) (fun i hi => hk2.block i ?_ (fun hi1 => hn12 i hi1 i hi rfl))
              exact Nat.lt_of_lt_of_le (hfb.out i (List.mem_cons_of_mem _ (List.mem_append_right _ (List.mem_append_right _ hi)))) hwsz
            refine n2.mono (fun o' cs' ho' _ hr' => World.rangeAt_setCells_apart hr' _ _ _ (.inr (.inr ?_))) (fun i hi => heap_setCells_ne (by rintro rfl; exact hbf2 hi) _ _ _)
            rw [hvs]; omega
        clear hkq hbq hxq hoq hr hno1 hno2 ho1 HC hs1
        generalize (ts[q]).hd = hh at *
        have hkb : (q : Int) + 1 ≤ 9223372036854775807 := by have := HLM.out; omega
        have hq0 : (0 : Int) ≤ (q : Int) := by omega
        have hqn : (q : Int) < (lv : Int) := by omega
        have R1' : Hid (wr.rangeAt b (0 + q * 15) (hh.cells s1)) := by show World.rangeAt _ _ _ _; rw [Nat.zero_add]; exact R1.out
        go_wp2_with (refine wpList_load_mid rfl 31 (.tmp 14) rfl b (q * 15) rfl (hh.cells s1) _ R1.out Tryd.underlying31 rfl infoNode ?_)
        refine HC'.out.mono ?_
        rintro e w2 ⟨rfl, hk2⟩
        obtain ⟨y14, th2, a1, a2, a3, a4⟩ := AFT.out w2 hk2 [.int .i64 99, .int .i64 0, .float .f64 0, .string ⟨#[111, 118, 101, 114]⟩, .bool false, .int .i64 0, .int .i64 0, .int .i64 0, .bool false, .bool false, .int .i64 0, .int .i64 0, .bool false, .bool false, .slice none 0 0] rfl
        obtain ⟨W3, hW3⟩ : ∃ W3, w2.setCells b (q * 15) [.int .i64 99, .int .i64 0, .float .f64 0, .string ⟨#[111, 118, 101, 114]⟩, .bool false, .int .i64 0, .int .i64 0, .int .i64 0, .bool false, .bool false, .int .i64 0, .int .i64 0, .bool false, .bool false, .slice none 0 0] = W3 := ⟨_, rfl⟩
        rw [hW3] at a1 a2 a3 a4
        have HW3 : Hid (w2.setCells b (q * 15) [.int .i64 99, .int .i64 0, .float .f64 0, .string ⟨#[111, 118, 101, 114]⟩, .bool false, .int .i64 0, .int .i64 0, .int .i64 0, .bool false, .bool false, .int .i64 0, .int .i64 0, .bool false, .bool false, .slice none 0 0] = W3) := hW3
        have HA : Hid (Kp w W3 (fun i => i ∈ b :: (pre ++ (f1 ++ f2))) ∧ Blk W3 w.heap.size (h.cells (.slice (some ⟨b, 0, none⟩) lv cv)) 31 ∧ (∃ xs, W3.ownsRow 0 31 15 (.slice (some ⟨b, 0, none⟩) lv cv) lv xs) ∧ OvL W3 (.slice (some ⟨b, 0, none⟩) lv cv) (q + 1) ts (b :: (pre ++ (f1 ++ f2)))) := ⟨a1, a2, a3, a4⟩
        have TH2 : Hid (w2.there b (q * 15) 15) := th2
        clear a1 a2 a3 a4 hW3 th2 AFT hk2 x14 HC' R1 R1' KQ
        go_wp2_with (refine wpList_store_to rfl 31 (.tmp 21) (.tmp 20) rfl b (q * 15) _ rfl rfl TH2.out infoNode (by simp [Value.oneCell']) W3 HW3.out ?_)
        go_roundw
        case rel => exact ⟨q + 1, by omega, by go_num, HA.out.1, HA.out.2.1, HA.out.2.2.1, HA.out.2.2.2⟩
        case measure => simp only [intOf]; omega
      · have hqe : q = lv := by omega
        subst hqe
        have hqn : ¬ ((q : Int) < (q : Int)) := by omega
        obtain ⟨xs, hx⟩ := hxq
        have hx3 : ∀ o, (wr.alloc o).ownsRow 0 31 15 (.slice pv q cv) q xs := fun o => hx.alloc o
        have HX3 : Hid (∀ o, (wr.alloc o).ownsRow 0 31 15 (.slice pv q cv) q xs) := hx3
        have hkb : (q : Int) + 1 ≤ 9223372036854775807 := by have := HLM.out; omega
        clear hkq hbq hx hoq hx3 IH
        go_wp2_with (at_builtin; refine wpList_append_tell _ rfl (.tmp 23) (.tmp 25) 29 rfl 0 31 i0 _ 15 128 Tryd.underlying29 hi hz0 hz1 hz2 rfl (by decide) (.slice pv q cv) q xs rfl (HX3.out _) ⟨wr.heap.size, 0, none⟩ 1 1 [.int .i64 98, .int .i64 0, .float .f64 0, .string ⟨#[]⟩, .bool false, .int .i64 0, .int .i64 0, .int .i64 0, .bool false, .bool false, .int .i64 0, .int .i64 0, .bool false, .bool false, .slice none 0 0] rfl rfl ?c1 ?c2 (by decide) ?c3 ?c4 ?c5 ?_)
        case c2 => exact ⟨rfl, rfl, rfl, rfl, rfl, rfl, rfl, rfl, rfl, rfl⟩
        case c3 => unfold maxLen; have := HLM.out; omega
        case c4 => have := HLM.out; omega
        intro g c' w4 ho hgr ht
        have hrow : ∃ cur, w4.heap[g]? = some (.cells cur 31 (0, 0)) ∧ q + 1 ≤ c' ∧ cur.size = c' * 15 := by
          rcases ho.2 with ⟨e, _⟩ | ⟨g', c2, cur, e, hbg, hgg, hnc, hcm, hcs, _⟩
          · cases e
          · simp only [Value.slice.injEq, Option.some.injEq, Addr.mk.injEq] at e
            obtain ⟨⟨rfl, _⟩, _, rfl⟩ := e
            exact ⟨cur, hgg, hnc, hcs⟩
        obtain ⟨cur, hgg, hnc, hcs⟩ := hrow
        have hsz4 : q * 15 < cur.size := by rw [hcs]; have := Nat.mul_le_mul_right 15 hnc; omega
        have cg : w4.cell? ⟨g, q * 15, none⟩ = some cur[q * 15] := by rw [cell_of_row w4 g (q * 15) cur _ _ hgg, Array.getElem?_eq_getElem hsz4]
        have fg : w4.frozen? ⟨g, q * 15, none⟩ = false := frozen_of_row w4 _ _ _ _ hgg
        have hk4 : Kp w w4 (fun i => i ∈ fp) := (KQ.out.alloc _).trans (Kp.of_grown hgr hrw.out)
        have END : Hid (∀ v, Kp w (w4.setCell ⟨g, q * 15, none⟩ v) (fun i => i ∈ fp)) := fun v => hk4.setCell _ _ (by
          rcases ht with e | e
          · exact .inr (hrw.out g e)
          · refine .inl ?_
            have := KQ.out.size
            show w.heap.size ≤ g
            omega)
        clear ho hgr ht hgg hk4 KQ x14
        go_wp2_with fail
        go_end0
        exact ⟨rfl, END.out _⟩
end Go.Proofs.YtjmbmapanmbnhaaDoor
