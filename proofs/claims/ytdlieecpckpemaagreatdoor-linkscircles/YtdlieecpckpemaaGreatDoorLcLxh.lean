/- addTo: a piece's places are put into marks. -/
import Derived.Test.YtdlieecpckpemaaGreatDoorLcTq
import Derived.Test.YtdlieecpckpemaaGreatDoorLcYo
import Derived.Test.YtdlieecpckpemaaGreatDoorLcYi
namespace Go.Proofs.YtdlieecpckpemaaGreatDoor
open Go.RowKit
theorem or_pc (M S : Nat → Bool) (i : Nat) : bits .or .u64 (Wd.wd (fun q => M q || (S q && decide (q < 64 * i))) i : Nat) (Wd.wd S i : Nat) = (Wd.wd (fun q => M q || (S q && decide (q < 64 * (i + 1)))) i : Nat) := by
  rw [u64_or_nat _ _ (Wd.wd_lt _ _) (Wd.wd_lt _ _), Wd.wd_or]
  congr 1
  apply Wd.wd_congr
  intro j hj
  have h1 : decide (64 * i + j < 64 * i) = false := by simp
  have h2 : decide (64 * i + j < 64 * (i + 1)) = true := by simp; omega
  simp [h1, h2]
theorem pc_other (M S : Nat → Bool) (i j n : Nat) (_hj : j < n) (hji : j ≠ i) : Wd.wd (fun q => M q || (S q && decide (q < 64 * i))) j = Wd.wd (fun q => M q || (S q && decide (q < 64 * (i + 1)))) j := by
  apply Wd.wd_congr
  intro t ht
  have : decide (64 * j + t < 64 * i) = decide (64 * j + t < 64 * (i + 1)) := by rw [decide_eq_decide]; omega
  simp only [this]
def AddR (M S : Nat → Bool) (mb n fr : Nat) (w : World) (i : Value) (wr : World) : Prop :=
  ∃ k : Nat, i = .int .i64 (k : Int) ∧ fr / 64 ≤ k ∧ k ≤ 67108864 ∧ Blk wr mb (wds (fun q => M q || (S q && decide (q < 64 * k))) n) 122 ∧ Kp w wr (fun i => i = mb)
set_option maxRecDepth 20000 in
set_option maxHeartbeats 4000000 in
theorem addTo_at (fr to lb lo lc rb ro rc mb mc n : Nat) (L R M : Nat → Bool) (w : World) (hfr : fr ≤ 4294967296) (hto : to ≤ 64 * n) (hn : n ≤ 67108000) (hl : MarksAt w lb lo n L) (hr : MarksAt w rb ro n R) (hm : Blk w mb (wds M n) 122) (hlm : lb ≠ mb) (hrm : rb ≠ mb) :
    Calls Tryz.prog 93 #[.agg #[.int .i64 (fr : Int), .int .i64 (to : Int), .slice (some ⟨lb, lo, none⟩) n lc, .slice (some ⟨rb, ro, none⟩) n rc], .slice (some ⟨mb, 0, none⟩) n mc] w fun e w' =>
      e = .returned (.tuple #[]) ∧ Blk w' mb (wds (fun q => M q || pcSet fr to L R q) n) 122 ∧ Kp w w' (fun i => i = mb) := by
  obtain ⟨S, hS⟩ : ∃ S, pcSet fr to L R = S := ⟨_, rfl⟩
  have HS : Hid (pcSet fr to L R = S) := hS
  rw [hS]
  clear hS
  have HST : Hid (∀ q, S q = true → q < to ∧ fr ≤ q) := fun q hq => by
    rw [← HS.out] at hq
    simp [pcSet] at hq
    omega
  have hf2 : fr / 64 ≤ 67108864 := by omega
  obtain ⟨w0, hw0⟩ : ∃ w0, w.alloc (.cells #[.int .i64 (fr : Int), .int .i64 (to : Int), .slice (some ⟨lb, lo, none⟩) n lc, .slice (some ⟨rb, ro, none⟩) n rc] 126) = w0 := ⟨_, rfl⟩
  have k0 : Kp w w0 Nul := by rw [← hw0]; exact (Kp.refl w Nul).alloc _
  have s0 : w.heap.size < w0.heap.size := by rw [← hw0, World.size_alloc]; omega
  have b0 : Blk w0 w.heap.size [.int .i64 (fr : Int), .int .i64 (to : Int), .slice (some ⟨lb, lo, none⟩) n lc, .slice (some ⟨rb, ro, none⟩) n rc] 126 := by rw [← hw0]; exact Blk.new w _ _
  have HW0 : Hid (w.alloc (.cells #[.int .i64 (fr : Int), .int .i64 (to : Int), .slice (some ⟨lb, lo, none⟩) n lc, .slice (some ⟨rb, ro, none⟩) n rc] 126) = w0) := hw0
  have HML : Hid (mb < w.heap.size) := hm.lt
  have HL : Hid (∀ W, Kp w W (fun i => i = mb) → ∀ i, i < n → W.cell? ⟨lb, lo + i, none⟩ = some (.int .u64 ((Wd.wd L i : Nat) : Int))) := fun W g i hi => by
    have h := hl i hi
    have e := g.block lb (cell_lt h) hlm
    simp only [World.cell?] at h ⊢
    rw [e]; exact h
  have HR : Hid (∀ W, Kp w W (fun i => i = mb) → ∀ i, i < n → W.cell? ⟨rb, ro + i, none⟩ = some (.int .u64 ((Wd.wd R i : Nat) : Int))) := fun W g i hi => by
    have h := hr i hi
    have e := g.block rb (cell_lt h) hrm
    simp only [World.cell?] at h ⊢
    rw [e]; exact h
  have HB0 : Hid (Blk w0 w.heap.size [.int .i64 (fr : Int), .int .i64 (to : Int), .slice (some ⟨lb, lo, none⟩) n lc, .slice (some ⟨rb, ro, none⟩) n rc] 126) := b0
  have HSt : Hid (AddR M S mb n fr w (.int .i64 ((fr / 64 : Nat) : Int)) w0) := by
    refine ⟨fr / 64, rfl, Nat.le_refl _, hf2, ?_, k0.of_nul⟩
    have e : (fun q => M q || (S q && decide (q < 64 * (fr / 64)))) = M := by
      funext q
      cases hq : S q
      · simp
      · have := (HST.out q hq).2
        have : decide (q < 64 * (fr / 64)) = false := by simp; omega
        simp [this]
    rw [e]
    exact hm.kp k0 (fun x => x)
  have HK0 : Hid (Kp w w0 Nul) := k0
  obtain ⟨f0, hf0⟩ : ∃ f0, fr / 64 = f0 := ⟨_, rfl⟩
  have hfi : ((fr : Int) / 64) = (f0 : Int) := by omega
  have HF0 : Hid (fr / 64 = f0 ∧ fr ≤ 4294967296 ∧ to ≤ 64 * n ∧ n ≤ 67108000) := ⟨hf0, hfr, hto, hn⟩
  rw [hf0] at HSt
  have c0 : w0.cell? ⟨w.heap.size, 0, none⟩ = some (.int .i64 (fr : Int)) := b0.cell rfl
  clear hw0 k0 b0 hl hr hm hf0 hfr hto hn hf2
  go_enter Tryz.func93, Tryz.ntmps93
  go_upto_region 2 with (first | (rw [HW0.out]) | fail)
  obtain ⟨t0, ht0⟩ : ∃ t0, (to + 63) / 64 = t0 := ⟨_, rfl⟩
  have hti : ((to : Int) + 63) / 64 = (t0 : Int) := by omega
  have HT0 : Hid ((to + 63) / 64 = t0) := ht0
  have HWo : Hid (∀ wq, Calls Tryz.prog 94 #[.int .i64 (to : Int)] wq fun e w' => e = .returned (.int .i64 (t0 : Int)) ∧ w' = wq) := fun wq => by
    rw [← hti]; exact wordsOf_at _ (by omega) (by have := HF0.out; omega) wq
  have HTN : Hid (t0 ≤ n) := by show _ ≤ _; have := HF0.out; omega
  clear ht0 hti c0
  go_loopw [4] (fun i wr => AddR M S mb n fr w0 i wr) (fun i _ => t0 - (intOf i).toNat)
  case atStart =>
    obtain ⟨k, e, h1, h2, h3, h4⟩ := HSt.out
    exact ⟨k, by rw [show wrap64 (f0 : Int) = (f0 : Int) by unfold wrap64; have := HF0.out; omega]; exact e, h1, h2, h3, Kp.refl _ _⟩
  case round =>
    clear HSt
    obtain ⟨k, rfl, hk1, hk2, hb, hkp⟩ := hrel
    have HB : Hid (Blk wr mb (wds (fun q => M q || (S q && decide (q < 64 * k))) n) 122) := hb
    have HK : Hid (Kp w0 wr (fun i => i = mb)) := hkp
    have HKb : Hid (fr / 64 ≤ k ∧ k ≤ 67108864) := ⟨hk1, hk2⟩
    have hbx := HB0.out.kp hkp (fun e => by have e' : w.heap.size = mb := e; have := HML.out; omega)
    have HBx : Hid (Blk wr w.heap.size [.int .i64 (fr : Int), .int .i64 (to : Int), .slice (some ⟨lb, lo, none⟩) n lc, .slice (some ⟨rb, ro, none⟩) n rc] 126) := hbx
    have c1 : wr.cell? ⟨w.heap.size, 1, none⟩ = some (.int .i64 (to : Int)) := hbx.cell rfl
    clear hk1 hk2 hb hkp hbx
    by_cases hlt : k < t0
    · have hki : (k : Int) < (t0 : Int) := by omega
      have hkn : k < n := by have := HTN.out; omega
      have hkni : (k : Int) < (n : Int) := by omega
      have hk0 : (0 : Int) ≤ (k : Int) := by omega
      have hmf := HB.out.froz k
      go_upto_region 4 with (first | (go_at_call 94; refine (HWo.out _).mono ?_; rintro e wz ⟨rfl, hz⟩; replace hz := hz.symm; subst hz) | fail)
      have HC : Hid (∀ w', Kp wr w' Nul → w'.cell? ⟨w.heap.size, 0, none⟩ = some (.int .i64 (fr : Int)) ∧ w'.cell? ⟨w.heap.size, 1, none⟩ = some (.int .i64 (to : Int)) ∧ w'.cell? ⟨w.heap.size, 2, none⟩ = some (.slice (some ⟨lb, lo, none⟩) n lc) ∧ w'.cell? ⟨w.heap.size, 3, none⟩ = some (.slice (some ⟨rb, ro, none⟩) n rc)) := fun w' g => by
        have h := HBx.out.kp g (fun x => x)
        exact ⟨h.cell rfl, h.cell rfl, h.cell rfl, h.cell rfl⟩
      have HMc : Hid (∀ w', Kp wr w' Nul → w'.cell? ⟨mb, k, none⟩ = some (.int .u64 (Wd.wd (fun q => M q || (S q && decide (q < 64 * k))) k : Nat))) := fun w' g => (HB.out.kp g (fun x => x)).cell (wds_get hkn)
      have HWord : Hid (∀ w', Kp wr w' Nul → Calls Tryz.prog 110 #[.agg #[.int .i64 (fr : Int), .int .i64 (to : Int), .slice (some ⟨lb, lo, none⟩) n lc, .slice (some ⟨rb, ro, none⟩) n rc], .int .i64 (k : Int)] w' fun e w2 => e = .returned (.int .u64 (Wd.wd S k : Nat)) ∧ Kp wr w2 Nul) := fun w' g => by
        have hg : Kp w w' (fun i => i = mb) := ((HK0.out.of_nul.trans HK.out).trans g.of_nul)
        refine (word_at fr to lb lo lc rb ro rc k n _ _ w' hkn HF0.out.2.1 (by have := HF0.out; omega) (by have := HF0.out; omega) (HL.out w' hg k hkn) (HR.out w' hg k hkn)).mono ?_
        rintro e w2 ⟨rfl, d, rfl⟩
        rw [pc_word, HS.out]
        exact ⟨rfl, (g.alloc _).drewN d⟩
      clear c1
      refine wp_region_noPanic ?_
      refine wp_region_but (fun w' : World => Kp wr w' Nul) 9 (by kernel_rfl) (Kp.refl _ _).drew (fun hHeld => ?_)
      refine wpBut_takes (i := 0) (v := ?_) (some 15) rfl rfl (by kernel_rfl) (by kernel_rfl) (by kernel_rfl) (by kernel_rfl) (fun _ _ _ h => h) (Or.inl ⟨by rfl, ?_⟩) hHeld ?_
      rotate_left
      · intro w' hSw; clear hSw; go_simp; try with_reducible rfl
      simp only [Act.put, List.setIfInBounds_toArray, List.set_cons_zero, List.set_cons_succ]
      refine wpBut_takes (i := 1) (v := ?_) (some 16) rfl rfl (by kernel_rfl) (by kernel_rfl) (by kernel_rfl) (by kernel_rfl) (fun _ _ _ h => h) (Or.inl ⟨by rfl, ?_⟩) hHeld ?_
      rotate_left
      · intro w' hSw; clear hSw; go_simp; try with_reducible rfl
      simp only [Act.put, List.setIfInBounds_toArray, List.set_cons_zero, List.set_cons_succ]
      refine wpBut_takes (i := 2) (v := ?_) (some 17) rfl rfl (by kernel_rfl) (by kernel_rfl) (by kernel_rfl) (by kernel_rfl) (fun _ _ _ h => h) (Or.inl ⟨by rfl, ?_⟩) hHeld ?_
      rotate_left
      · intro w' hSw; clear hSw; go_simp; try with_reducible rfl
      simp only [Act.put, List.setIfInBounds_toArray, List.set_cons_zero, List.set_cons_succ]
      refine wpBut_takes (i := 3) (v := ?_) (some 18) rfl rfl (by kernel_rfl) (by kernel_rfl) (by kernel_rfl) (by kernel_rfl) (fun _ _ _ h => h) (Or.inl ⟨by rfl, ?_⟩) hHeld ?_
      rotate_left
      · intro w' hSw; have hc := HMc.out w' hSw; clear hSw; go_simp; try with_reducible rfl
      simp only [Act.put, List.setIfInBounds_toArray, List.set_cons_zero, List.set_cons_succ]
      refine wpBut_takes (i := 4) (v := ?_) (some 19) rfl rfl (by kernel_rfl) (by kernel_rfl) (by kernel_rfl) (by kernel_rfl) (fun _ _ _ h => h) (Or.inl ⟨by rfl, ?_⟩) hHeld ?_
      rotate_left
      · intro w' hSw; obtain ⟨s0, s1, s2, s3⟩ := HC.out w' hSw; clear hSw; go_simp; try with_reducible rfl
      simp only [Act.put, List.setIfInBounds_toArray, List.set_cons_zero, List.set_cons_succ]
      refine wpBut_takes (i := 5) (v := ?_) (some 20) rfl rfl (by kernel_rfl) (by kernel_rfl) (by kernel_rfl) (by kernel_rfl) (fun _ _ _ h => h) (Or.inl ⟨by rfl, ?_⟩) hHeld ?_
      rotate_left
      · intro w' hSw; clear hSw; go_simp; try with_reducible rfl
      simp only [Act.put, List.setIfInBounds_toArray, List.set_cons_zero, List.set_cons_succ]
      refine wpBut_step (i := 6) (by kernel_rfl) rfl rfl (fun K hK => ?_)
      go_simp
      refine (HWord.out _ hHeld).mono ?_
      rintro e w2 ⟨rfl, hk2⟩
      refine hK.out _ _ (fun _ => hk2) (fun hh => ?_)
      have hHeld := hh (by decide)
      clear hh hK K
      (try simp only [Act.put, List.setIfInBounds_toArray, List.set_cons_zero, List.set_cons_succ])
      refine wpBut_takes (i := 7) (v := ?_) (some 22) rfl rfl (by kernel_rfl) (by kernel_rfl) (by kernel_rfl) (by kernel_rfl) (fun _ _ _ h => h) (Or.inl ⟨by rfl, ?_⟩) hHeld ?_
      rotate_left
      · intro w' hSw; clear hSw; go_simp; try with_reducible rfl
      simp only [Act.put, List.setIfInBounds_toArray, List.set_cons_zero, List.set_cons_succ]
      refine wpBut_takes (i := 8) (v := ?_) (some 23) rfl rfl (by kernel_rfl) (by kernel_rfl) (by kernel_rfl) (by kernel_rfl) (fun _ _ _ h => h) (Or.inl ⟨by rfl, ?_⟩) hHeld ?_
      rotate_left
      · intro w' hSw; clear hSw; go_simp; try with_reducible rfl
      simp only [Act.put, List.setIfInBounds_toArray, List.set_cons_zero, List.set_cons_succ]
      refine wpBut_step (i := 9) (by kernel_rfl) rfl rfl (fun K hK => ?_)
      have hc := HMc.out w2 hHeld
      have hf : w2.frozen? ⟨mb, k, none⟩ = false := (HB.out.kp hHeld (fun x => x)).froz k
      have hb2 := (HB.out.kp hHeld (fun x => x)).set k (.int .u64 (Wd.wd (fun q => M q || (S q && decide (q < 64 * (k + 1)))) k : Nat))
      rw [wds_set (fun j hj hji => pc_other M S k j n hj hji)] at hb2
      have hk3 : Kp w0 (w2.setCell ⟨mb, k, none⟩ (.int .u64 (Wd.wd (fun q => M q || (S q && decide (q < 64 * (k + 1)))) k : Nat))) (fun i => i = mb) := (HK.out.trans hHeld.of_nul).setCell ⟨mb, k, none⟩ _ (.inr rfl)
      have HEND : Hid (AddR M S mb n fr w0 (.int .i64 ((k : Int) + 1)) (w2.setCell ⟨mb, k, none⟩ (.int .u64 (Wd.wd (fun q => M q || (S q && decide (q < 64 * (k + 1)))) k : Nat)))) := ⟨k + 1, by push_cast; rfl, by have := HKb.out; omega, by have := HF0.out; omega, hb2, hk3⟩
      clear hb2 hk3
      go_simp
      rw [or_pc]
      refine hK.out _ _ (fun h => absurd rfl h) (fun _ => ?_)
      clear hK K hHeld hc hf
      refine wpBut_done (by kernel_rfl) ?_
      refine NoPanic.normal ?_
      have hwk : wrap64 ((k : Int) + 1) = (k : Int) + 1 := by unfold wrap64; have := HKb.out; omega
      go_wp2_with fail
      go_roundw
      case rel => rw [hwk]; exact HEND.out
      case measure => rw [hwk]; simp only [intOf]; omega
    · have hki : ¬ (k : Int) < (t0 : Int) := by omega
      go_wp2_with (first | (go_at_call 94; refine (HWo.out _).mono ?_; rintro e wz ⟨rfl, hz⟩; replace hz := hz.symm; subst hz) | fail)
      go_end0
      refine ⟨rfl, ?_, HK0.out.of_nul.trans HK.out⟩
      have e : (fun q => M q || (S q && decide (q < 64 * k))) = fun q => M q || S q := by
        funext q
        cases hq : S q
        · simp
        · have h1 := (HST.out q hq).1
          have : decide (q < 64 * k) = true := by simp; have := HT0.out; omega
          simp [this]
      have hb := HB.out
      rw [e] at hb
      exact hb
end Go.Proofs.YtdlieecpckpemaaGreatDoor
