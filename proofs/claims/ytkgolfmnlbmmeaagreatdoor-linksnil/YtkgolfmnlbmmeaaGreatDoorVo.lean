/- LinksNil: the walk. -/
import Derived.Test.YtkgolfmnlbmmeaaGreatDoorVn
namespace Go.Proofs.YtkgolfmnlbmmeaaGreatDoor
open Go.RowKit Go.Sort Go.Lib Go.Maps

set_option maxRecDepth 20000 in
set_option maxHeartbeats 8000000 in
theorem nil_law (c r : Int) (a : Option Addr) (n cc : Nat) (w : World) :
    Calls Tryz.prog 6 #[.agg #[.int .i64 c, .int .i64 r], .slice a n cc] w fun e w' => e = .returned (.bool true) ∧ Kp w w' Nul := by
  obtain ⟨W, hW⟩ : ∃ W, w.alloc (.cells #[.int .i64 c, .int .i64 r] 29) = W := ⟨_, rfl⟩
  have HW : Hid (w.alloc (.cells #[.int .i64 c, .int .i64 r] 29) = W) := hW
  have HKW : Hid (Kp w W Nul) := by show Kp w W Nul; rw [← hW]; exact (Kp.refl w Nul).alloc _
  have hb : Blk W w.heap.size [.int .i64 c, .int .i64 r] 29 := by rw [← hW]; exact Blk.new w [.int .i64 c, .int .i64 r] _
  have HC : Hid (∀ wq, Kp W wq Nul → wq.cell? ⟨w.heap.size, 0, none⟩ = some (.int .i64 c) ∧ wq.cell? ⟨w.heap.size, 1, none⟩ = some (.int .i64 r)) := fun wq k => ⟨(hb.kp k (fun x => x)).cell rfl, (hb.kp k (fun x => x)).cell rfl⟩
  have HAw : Hid (Calls Tryz.prog 7 #[] W fun e w' => e = .returned (.bool true) ∧ Kp W w' Nul) := awake_at W
  have HSet : Hid (∀ wq, Kp W wq Nul → Calls Tryz.prog 27 #[.pointer none, .agg #[.int .i64 c, .int .i64 r], .slice none 0 0] wq fun e w' => e = .returned (.int .i64 1) ∧ Kp W w' Nul) := fun wq k => (nil_set c r wq).mono fun e w' ⟨h1, h2⟩ => ⟨h1, k.trans h2⟩
  have HDrop : Hid (∀ wq, Kp W wq Nul → Calls Tryz.prog 25 #[.pointer none, .agg #[.int .i64 c, .int .i64 r]] wq fun e w' => e = .returned (.bool false) ∧ Kp W w' Nul) := fun wq k => (nil_drop c r wq).mono fun e w' ⟨h1, h2⟩ => ⟨h1, k.trans h2⟩
  have HCir : Hid (∀ wq, Kp W wq Nul → Calls Tryz.prog 23 #[.pointer none] wq fun e w' => e = .returned (.tuple #[.slice none 0 0, .bool false]) ∧ Kp W w' Nul) := fun wq k => (nil_circle wq).mono fun e w' ⟨h1, h2⟩ => ⟨h1, k.trans h2⟩
  have HOrd : Hid (∀ wq, Kp W wq Nul → Calls Tryz.prog 24 #[.pointer none, .slice a n cc] wq fun e w' => e = .returned (.tuple #[.slice none 0 0, .int .i64 1]) ∧ Kp W w' Nul) := fun wq k => (nil_order _ wq).mono fun e w' ⟨h1, h2⟩ => ⟨h1, by rw [h2]; exact k⟩
  have HRd : Hid (∀ wq, Kp W wq Nul → Calls Tryz.prog 32 #[.pointer none, .slice a n cc, .slice none 0 0] wq fun e w' => e = .returned (.tuple #[.slice none 0 0, .int .i64 1]) ∧ Kp W w' Nul) := fun wq k => (nil_ready _ _ wq).mono fun e w' ⟨h1, h2⟩ => ⟨h1, by rw [h2]; exact k⟩
  have HUse : Hid (∀ wq, Kp W wq Nul → Calls Tryz.prog 15 #[.pointer none, .agg #[.int .i64 c, .int .i64 r]] wq fun e w' => e = .returned (.slice none 0 0) ∧ Kp W w' Nul) := fun wq k => (nil_uses c r wq).mono fun e w' ⟨h1, h2⟩ => ⟨h1, k.trans h2⟩
  have HUsr : Hid (∀ wq, Kp W wq Nul → Calls Tryz.prog 20 #[.pointer none, .agg #[.int .i64 c, .int .i64 r]] wq fun e w' => e = .returned (.slice none 0 0) ∧ Kp W w' Nul) := fun wq k => (nil_users c r wq).mono fun e w' ⟨h1, h2⟩ => ⟨h1, k.trans h2⟩
  have HAbo : Hid (∀ wq, Kp W wq Nul → Calls Tryz.prog 22 #[.pointer none, .slice a n cc] wq fun e w' => e = .returned (.slice none 0 0) ∧ Kp W w' Nul) := fun wq k => (nil_above _ wq).mono fun e w' ⟨h1, h2⟩ => ⟨h1, by rw [h2]; exact k⟩
  have HLen : Hid (∀ wq, Kp W wq Nul → Calls Tryz.prog 16 #[.pointer none] wq fun e w' => e = .returned (.int .i64 0) ∧ Kp W w' Nul) := fun wq k => (nil_len wq).mono fun e w' ⟨h1, h2⟩ => ⟨h1, by rw [h2]; exact k⟩
  have HCop : Hid (∀ wq, Kp W wq Nul → Calls Tryz.prog 12 #[.pointer none] wq fun e w' => e = .returned (.pointer none) ∧ Kp W w' Nul) := fun wq k => (nil_copy wq).mono fun e w' ⟨h1, h2⟩ => ⟨h1, by rw [h2]; exact k⟩
  clear hW hb
  go_enter Tryz.func6, Tryz.ntmps6
  go_wp2_with fail
  rw [HW.out]
  refine HAw.out.mono ?_
  rintro e w1 ⟨rfl, hk1⟩
  obtain ⟨c1, c2⟩ := HC.out w1 hk1
  clear HAw
  go_wp2_with fail
  refine (HSet.out w1 hk1).mono ?_
  rintro e w2 ⟨rfl, hk2⟩
  obtain ⟨d1, d2⟩ := HC.out w2 hk2
  clear hk1 c1 c2 HSet
  go_wp2_with fail
  refine (HDrop.out w2 hk2).mono ?_
  rintro e w3 ⟨rfl, hk3⟩
  clear hk2 d1 d2 HDrop
  go_wp2_with fail
  refine (HCir.out w3 hk3).mono ?_
  rintro e w4 ⟨rfl, hk4⟩
  clear hk3 HCir
  go_wp2_with fail
  refine (HOrd.out w4 hk4).mono ?_
  rintro e w5 ⟨rfl, hk5⟩
  clear hk4 HOrd
  go_wp2_with fail
  refine (HRd.out w5 hk5).mono ?_
  rintro e w6 ⟨rfl, hk6⟩
  have HK6 : Hid (Kp W w6 Nul) := hk6
  clear hk5 HRd hk6
  go_wp2_with fail
  go_region_held3 (fun w' => w'.cell? ⟨w.heap.size, 0, none⟩ = some (.int .i64 c) ∧ w'.cell? ⟨w.heap.size, 1, none⟩ = some (.int .i64 r))
    (first | (exact HC.out _ (by assumption)) | (exact HC.out _ HK6.out.drew) | (exact HC.out _ HK6.out))
    (first
      | (go_at_call 15; refine (HUse.out _ (by first | assumption | exact HK6.out.drew)).mono ?_; rintro e wz ⟨rfl, hkz⟩)
      | (go_at_call 20; refine (HUsr.out _ (by first | assumption | exact HK6.out.drew)).mono ?_; rintro e wz ⟨rfl, hkz⟩)
      | (go_at_call 22; refine (HAbo.out _ (by first | assumption | exact HK6.out.drew)).mono ?_; rintro e wz ⟨rfl, hkz⟩)
      | (go_at_call 16; refine (HLen.out _ (by first | assumption | exact HK6.out.drew)).mono ?_; rintro e wz ⟨rfl, hkz⟩))
  all_goals
    go_wp2_with fail
    refine (HCop.out _ (by assumption)).mono ?_
    rintro e w8 ⟨rfl, hk8⟩
    have HK8 : Hid (Kp w w8 Nul) := HKW.out.trans hk8
    clear hk8
    go_wp2_with fail
    go_ret
    exact ⟨rfl, HK8.out⟩
end Go.Proofs.YtkgolfmnlbmmeaaGreatDoor
