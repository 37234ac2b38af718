/- weight and heavy: how many nodes. -/
import Derived.Test.YtjmbmapanmbnhaaDoorXa
namespace Go.Proofs.YtjmbmapanmbnhaaDoor
open Go.RowKit

theorem infoNode : (Tryd.prog.info? 31).map (·.size) = some 15 := by kernel_rfl

/-- As many nodes as there are, m + 1 of more. -/
def wgt (n : Nat) (m : Int) : Int := if (n : Int) ≤ m then n else m + 1

set_option maxRecDepth 20000 in
set_option maxHeartbeats 4000000 in
theorem weight_any (N : Nat) : ∀ (t : Nd) (sl : Value) (F : Nat → Prop) (m : Int) (w : World), t.size ≤ N → NdIn w F sl t → 0 ≤ m → m ≤ 1048576 →
    Calls Tryd.prog 31 #[t.hd.val sl, .int .i64 m] w fun e w' => e = .returned (.int .i64 (wgt t.size m)) ∧ Gr w w' := by
  induction N with
  | zero => intro t sl F m w h; have := size_pos t; omega
  | succ N ih =>
    intro t sl F m w hN hin h0 hm
    obtain ⟨hd, ts⟩ := t
    rw [NdIn] at hin
    obtain ⟨a, c, rfl, h2, h3, h4⟩ := hin
    have hsz : Hid ((Nd.mk hd ts).size = 1 + sizeL ts) := by show _ = _; rw [Nd.size]
    have HN : Hid ((Nd.mk hd ts).size ≤ N + 1) := hN
    have IH : Hid (∀ (t : Nd) (sl : Value) (F : Nat → Prop) (m : Int) (w : World), t.size ≤ N → NdIn w F sl t → 0 ≤ m → m ≤ 1048576 →
      Calls Tryd.prog 31 #[t.hd.val sl, .int .i64 m] w fun e w' => e = .returned (.int .i64 (wgt t.size m)) ∧ Gr w w') := ih
    clear ih hN
    have hlen : ts.length ≤ 9223372036854775807 := by unfold maxLen at h3; omega
    have H4 : Hid ((ts = [] ∧ (c = 0 ∨ a ≠ none)) ∨ ∃ b o, a = some ⟨b, o, none⟩ ∧ F b ∧ NdsIn w F b o ts) := h4
    clear h4 h2 h3
    generalize hn : ts.length = n at *
    have HL : Hid (ts.length = n) := hn
    have HLEN : Hid (n ≤ 9223372036854775807) := hlen
    clear hn hlen
    generalize hW : (Nd.mk hd ts).size = S at *
    simp only [Nd.hd]
    obtain ⟨k, o', x, s, bb, f, c1, r1, p1, q1, c2, r2, p2, q2⟩ := hd
    have hm' : 0 ≤ m := h0
    go_enter Tryd.func31, Tryd.ntmps31
    go_wp2_with fail
    generalize hW0 : (w.alloc (.cells #[.int .i64 k, .int .i64 o', .float .f64 x, .string s, .bool bb, .int .i64 f, .int .i64 c1, .int .i64 r1, .bool p1, .bool q1, .int .i64 c2, .int .i64 r2, .bool p2, .bool q2, .slice a n c] 31)) = W0 at *
    have G0 : Hid (Gr w W0) := by show Gr _ _; rw [← hW0]; exact (Gr.refl w).alloc _ _
    have C0 : Hid (W0.cell? ⟨w.heap.size, 14, none⟩ = some (.slice a n c)) := by
      show _ = _
      rw [← hW0, World.cell?_alloc_at _ _ _ _ rfl]; rfl
    have HB : Hid (w.heap.size < W0.heap.size) := cell_lt C0.out
    clear hW0
    go_loopw [5, 6] (fun s i wr => ∃ k : Nat, k ≤ n ∧ s = .int .i64 (wgt (1 + sizeL (ts.take k)) m) ∧ i = .int .i64 k ∧ Gr W0 wr) (fun _ i _ => n - (intOf i).toNat)
    case atStart => exact ⟨0, Nat.zero_le _, by simp [sizeL, wgt]; omega, by simp, Gr.refl _⟩
    case round =>
      obtain ⟨k, hk, rfl, rfl, hg⟩ := hrel
      have GR : Hid (Gr W0 wr) := hg
      have cl : wr.cell? ⟨w.heap.size, 14, none⟩ = some (.slice a n c) := hg.cell HB.out C0.out
      clear hg
      by_cases hlt : k < n
      · have hki : k < ts.length := by rw [HL.out]; exact hlt
        by_cases hle : 1 + sizeL (ts.take k) ≤ m.toNat
        · obtain ⟨b, o, rfl, hF, hns⟩ : ∃ b o, a = some ⟨b, o, none⟩ ∧ F b ∧ NdsIn w F b o ts := by
            rcases H4.out with h | h
            · rw [h.1] at hki; simp at hki
            · exact h
          obtain ⟨sl, hr, hni⟩ := hns.get k hki
          have G1 : Gr w wr := G0.out.trans GR.out
          have HR : Hid (wr.rangeAt b (o + k * 15) ((ts[k]).hd.cells sl)) := rangeAt_gr hr G1
          have hni' := hni.gr G1
          have hs1 := sizeL_take ts k hki
          have hs2 := sizeL_take_le ts (k + 1)
          have HC : Hid (∀ wq, Gr wr wq → Calls Tryd.prog 31 #[(ts[k]).hd.val sl, .int .i64 (m - (1 + sizeL (ts.take k) : Nat))] wq fun e w' => e = .returned (.int .i64 (wgt (ts[k]).size (m - (1 + sizeL (ts.take k) : Nat)))) ∧ Gr wq w') := fun wq hq => IH.out ts[k] sl F _ wq (by have := HN.out; have := hsz.out; omega) (hni'.gr hq) (by omega) (by omega)
          have hw1 : wgt (1 + sizeL (ts.take k)) m = (1 + sizeL (ts.take k) : Nat) := by unfold wgt; rw [if_pos (by omega)]
          have hA : Hid (wgt (1 + sizeL (ts.take (k + 1))) m = (1 + sizeL (ts.take k) : Nat) + wgt (ts[k]).size (m - (1 + sizeL (ts.take k) : Nat))) := by
            show _ = _
            unfold wgt
            split <;> split <;> omega
          have hbd : Hid (1 ≤ (ts[k]).size) := size_pos _
          have hwb : wgt (ts[k]).size (m - (1 + sizeL (ts.take k) : Nat)) ≤ m - (1 + sizeL (ts.take k) : Nat) + 1 ∧ 0 ≤ wgt (ts[k]).size (m - (1 + sizeL (ts.take k) : Nat)) := by
            have := hbd.out
            unfold wgt; split <;> omega
          have hq1 : (1 : Int) ≤ (1 + sizeL (ts.take k) : Nat) := by omega
          have hq2 : ((1 + sizeL (ts.take k) : Nat) : Int) ≤ m := by omega
          rw [hw1]
          clear hw1 hs1 hs2 hle hni hni' hr hns hbd
          generalize hQ : ((1 + sizeL (ts.take k) : Nat) : Int) = q at *
          generalize wgt (ts[k]).size (m - q) = z at *
          generalize (ts[k]).hd = hh at *
          clear hQ
          obtain ⟨hw2, hw3⟩ := hwb
          have hkb : (k : Int) + 1 ≤ 9223372036854775807 := by have := HLEN.out; omega
          clear hW
          as_aux_lemma =>
          go_wp2_with (refine wpList_load_mid rfl 31 (.tmp 23) rfl b (o + k * 15) rfl (hh.cells sl) _ HR.out Tryd.underlying31 rfl infoNode ?_)
          refine (HC.out _ (Gr.refl _)).mono ?_
          rintro e w1 ⟨rfl, hg1⟩
          have G2 : Hid (Gr W0 w1) := GR.out.trans hg1
          clear hg1 cl
          go_wp2_with fail
          go_roundw
          case rel => exact ⟨k + 1, by omega, by rw [hA.out], by go_num, G2.out⟩
          case measure => simp only [intOf]; omega
        · have hw1 : wgt (1 + sizeL (ts.take k)) m = m + 1 := by unfold wgt; rw [if_neg (by omega)]
          have hw4 : Hid (wgt S m = m + 1) := by
            show _ = _
            have := sizeL_take_le ts k
            have := hsz.out
            unfold wgt; rw [if_neg (by omega)]
          rw [hw1]
          clear hw1 hle hW
          as_aux_lemma =>
          go_wp2_with fail
          go_ret
          exact ⟨rInt hw4.out.symm, G0.out.trans GR.out⟩
      · have hke : k = n := by omega
        subst hke
        have hw4 : Hid (wgt (1 + sizeL (ts.take k)) m = wgt S m) := by
          show _ = _
          rw [← HL.out, List.take_length, hsz.out]
        rw [hw4.out]
        clear hW
        as_aux_lemma =>
        go_wp2_with fail
        go_ret
        exact ⟨rfl, G0.out.trans GR.out⟩
theorem weight_at (t : Nd) (sl : Value) (F : Nat → Prop) (m : Int) (w : World) (hin : NdIn w F sl t) (h0 : 0 ≤ m) (hm : m ≤ 1048576) :
    Calls Tryd.prog 31 #[t.hd.val sl, .int .i64 m] w fun e w' => e = .returned (.int .i64 (wgt t.size m)) ∧ Gr w w' :=
  weight_any t.size t sl F m w (Nat.le_refl _) hin h0 hm
end Go.Proofs.YtjmbmapanmbnhaaDoor
