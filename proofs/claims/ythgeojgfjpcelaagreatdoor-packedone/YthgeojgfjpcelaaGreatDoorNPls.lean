/- PackedOne: the walk. -/
import Derived.Test.YthgeojgfjpcelaaGreatDoorNPlg
import Derived.Test.YthgeojgfjpcelaaGreatDoorNPln
namespace Go.Proofs.YthgeojgfjpcelaaGreatDoor
open Go.RowKit Go.Maps Go.Sort Go.Lib Go.Shelf

/-- What Unpack told is packed as these bytes. -/
theorem pack_back {g : Nat} {K : List Cc} {t : List UInt8} {wq : World} (h : upO t = some K) (hg : GI 0 wq g K.reverse) (hs : Sh wq) :
    Calls Tryz.prog 11 #[.pointer (some ⟨g, 0, none⟩)] wq fun e w' => e = .returned (.tuple #[.string ⟨t.toArray⟩, .int .i64 0]) ∧ Kp wq w' Nul := by
  obtain ⟨h1, h2, h3, h4⟩ := up_only h
  have ho : Ok17 K.reverse := ⟨fun x hx => h3.gd x (List.mem_reverse.1 hx), fun x hx => h3.at' x (List.mem_reverse.1 hx), by rw [List.length_reverse]; exact h3.len⟩
  refine (pack_at g K.reverse K wq hg ho h2 (fun x => List.mem_reverse.symm) List.length_reverse.symm hs).mono fun e w' hh => ?_
  have e1 : pkS K = t := by unfold pkS; rw [if_pos (by rw [← h1]; exact h4), h1]
  have e2 : pkE K = 0 := by unfold pkE; rw [if_pos (by rw [← h1]; exact h4)]
  rw [e1, e2] at hh
  exact hh
set_option maxRecDepth 20000 in
set_option maxHeartbeats 8000000 in
theorem one24 (l : List UInt8) (w : World) (hl : l.length + 8 ≤ 140737488355328) (U : VS w) (hs : Sh w) (hT : Tab w) :
    Calls Tryz.prog 8 #[.string ⟨l.toArray⟩] w fun e w' => e = .returned (.bool true) ∧ Kp w w' Nul := by
  obtain ⟨S, hS⟩ : ∃ S, sealB l = S := ⟨_, rfl⟩
  have HSeal : Hid (Calls Tryz.prog 15 #[.string ⟨l.toArray⟩] w fun e w' => e = .returned (.string ⟨S.toArray⟩) ∧ Kp w w' Nul) := by
    have := sealed_at l w hl
    rw [hS] at this
    exact this
  have HKn : Hid (∀ wq, Kp w wq Nul → Calls Tryz.prog 9 #[] wq fun e w' => e = .returned (.bool true) ∧ Kp wq w' Nul) := fun wq k => known24 wq (U.kp k) (hs.kp k (fun x => x)) (fun j hj => k.cellN (hT j hj) (fun x => x))
  have HUn : Hid (∀ t wq, Kp w wq Nul → Calls Tryz.prog 29 #[.string ⟨t.toArray⟩] wq fun e w' => UpP wq (upR t) (upO t) e w') := fun t wq k => unpack_at t wq (hs.kp k (fun x => x)) (U.kp k)
  have HPk : Hid (∀ t K g wq, Kp w wq Nul → upO t = some K → GI 0 wq g K.reverse → Calls Tryz.prog 11 #[.pointer (some ⟨g, 0, none⟩)] wq fun e w' => e = .returned (.tuple #[.string ⟨t.toArray⟩, .int .i64 0]) ∧ Kp wq w' Nul) := fun t K g wq k h hg => pack_back h hg (hs.kp k (fun x => x))
  clear hS hl U hs hT
  go_enter Tryz.func8, Tryz.ntmps8
  go_wp2_with fail
  refine HSeal.out.mono ?_
  rintro e w1 ⟨rfl, k1⟩
  obtain ⟨W0, hW0⟩ : ∃ W0, w1.alloc (.cells #[.string ⟨l.toArray⟩, .string ⟨S.toArray⟩] 9) = W0 := ⟨_, rfl⟩
  have HW0 : Hid (w1.alloc (.cells #[.string ⟨l.toArray⟩, .string ⟨S.toArray⟩] 9) = W0) := hW0
  have HB0 : Hid (Blk W0 w1.heap.size [.string ⟨l.toArray⟩, .string ⟨S.toArray⟩] 9) := by show Blk _ _ _ _; rw [← hW0]; exact Blk.new w1 _ _
  have HK0 : Hid (Kp w W0 Nul) := by show Kp _ _ _; rw [← hW0]; exact k1.alloc _
  clear k1 hW0 HSeal
  go_wp2_with (first | (rw [HW0.out]) | fail)
  go_loopw [4] (fun s4 wr => ∃ i : Nat, i ≤ 2 ∧ s4 = .int .i64 i ∧ Kp W0 wr Nul) (fun s4 _ => (2 - intOf s4).toNat)
  case atStart => exact ⟨0, by omega, by simp, Kp.refl _ _⟩
  case round =>
    obtain ⟨i, hi, rfl, hk⟩ := hrel
    have HKr : Hid (Kp W0 wr Nul) := hk
    have HKw : Hid (Kp w wr Nul) := HK0.out.trans hk
    by_cases hlt : i < 2
    · have hlt' : (i : Int) < 2 := by omega
      have HLT : Hid (i < 2) := hlt
      obtain ⟨t, ht⟩ : ∃ t : List UInt8, wr.cell? ⟨w1.heap.size, i, none⟩ = some (.string ⟨t.toArray⟩) := by
        have hb := HB0.out.kp hk (fun x => x)
        match i, hlt with
        | 0, _ => exact ⟨l, hb.cell rfl⟩
        | 1, _ => exact ⟨S, hb.cell rfl⟩
      have HT : Hid (∀ wq, Kp wr wq Nul → wq.cell? ⟨w1.heap.size, i, none⟩ = some (.string ⟨t.toArray⟩)) := fun wq k => k.cellN ht (fun x => x)
      clear hi hlt hk
      go_wp2_with fail
      refine (HUn.out t wr HKw.out).mono ?_
      intro e w2 hr
      cases hq : upO t with
      | none =>
        have hne : (((upR t : Nat) : Int) != 0) = true := by have := upR_none hq; simp; omega
        have hne2 : (((upR t : Nat) : Int) == 0) = false := by have := upR_none hq; simp; omega
        rw [hq] at hr
        cases hr with
        | no kp =>
          have HK2 : Hid (Kp W0 w2 Nul) := HKr.out.trans kp
          generalize upR t = er at *
          clear kp hq ht
          go_wp2_with fail
          go_roundw
          case rel => exact ⟨i + 1, by have := HLT.out; omega, by go_num, HK2.out⟩
          case measure => simp only [intOf]; have := HLT.out; omega
      | some K =>
        have her : upR t = 0 := upR_some hq
        rw [hq, her] at hr
        cases hr with
        | @ok _ g _ gi kp =>
          have HK2 : Hid (Kp W0 w2 Nul) := HKr.out.trans kp
          have HP2 : Hid (Calls Tryz.prog 11 #[.pointer (some ⟨g, 0, none⟩)] w2 fun e w' => e = .returned (.tuple #[.string ⟨t.toArray⟩, .int .i64 0]) ∧ Kp w2 w' Nul) := HPk.out t K g w2 (HKw.out.trans kp) hq (GridIn.mono gi (fun _ _ => Nat.zero_le _))
          have Hk2 : Hid (Kp wr w2 Nul) := kp
          have hng := fun wq => nil_ptr24 g wq
          clear kp hq ht gi her
          go_wp2_with fail
          refine HP2.out.mono ?_
          rintro e w3 ⟨rfl, k3⟩
          have HK3 : Hid (Kp W0 w3 Nul) := HK2.out.trans k3
          have ht3 := HT.out w3 (Hk2.out.trans k3)
          clear k3 HP2
          go_wp2_with fail
          go_roundw
          case rel => exact ⟨i + 1, by have := HLT.out; omega, by go_num, HK3.out⟩
          case measure => simp only [intOf]; have := HLT.out; omega
    · have hie : i = 2 := by omega
      subst hie
      clear hi hlt hk
      go_wp2_with fail
      refine (HKn.out wr HKw.out).mono ?_
      rintro e w2 ⟨rfl, k2⟩
      have HK2 : Hid (Kp w w2 Nul) := HKw.out.trans k2
      clear k2
      go_wp2_with fail
      go_ret
      exact ⟨rfl, HK2.out⟩
end Go.Proofs.YthgeojgfjpcelaaGreatDoor
