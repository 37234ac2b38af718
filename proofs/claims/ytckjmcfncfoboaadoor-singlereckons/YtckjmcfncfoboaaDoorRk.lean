/- SingleReckons: its walk; sums and products of any two singles. -/
import Derived.Test.YtckjmcfncfoboaaDoorNf
import Derived.Test.YtckjmcfncfoboaaDoorSk
import Derived.Deep.RegionWith
import Derived.Test.YtckjmcfncfoboaaDoorRq
namespace Go.Proofs.YtckjmcfncfoboaaDoor
open Go.RowKit
open Ieee

set_option maxHeartbeats 4000000 in
set_option maxRecDepth 20000 in
theorem reckons_law (a b s m : Nat)
    (H0 : Hid (∀ w, Tab w → Calls Tryd.prog 9 #[] w fun e w' => e = .returned (.bool true) ∧ Gr w w'))
    (A1 : Hid (∀ w, Calls Tryd.prog 23 #[.float .f32 a, .float .f32 b] w fun e w' => e = .returned (.float .f32 s) ∧ ∃ d, w' = w.drewN d))
    (A2 : Hid (∀ w, Calls Tryd.prog 23 #[.float .f32 b, .float .f32 a] w fun e w' => e = .returned (.float .f32 s) ∧ ∃ d, w' = w.drewN d))
    (M1 : Hid (∀ w, Calls Tryd.prog 25 #[.float .f32 a, .float .f32 b] w fun e w' => e = .returned (.float .f32 m) ∧ ∃ d, w' = w.drewN d))
    (M2 : Hid (∀ w, Calls Tryd.prog 25 #[.float .f32 b, .float .f32 a] w fun e w' => e = .returned (.float .f32 m) ∧ ∃ d, w' = w.drewN d))
    (B1 : Hid (∀ w, Calls Tryd.prog 24 #[.int .u32 (a : Int), .int .u32 (b : Int)] w fun e w' => e = .returned (.int .u32 (s : Int)) ∧ Gr w w'))
    (B2 : Hid (∀ w, Calls Tryd.prog 24 #[.int .u32 (b : Int), .int .u32 (a : Int)] w fun e w' => e = .returned (.int .u32 (s : Int)) ∧ Gr w w'))
    (N1 : Hid (∀ w, Calls Tryd.prog 26 #[.int .u32 (a : Int), .int .u32 (b : Int)] w fun e w' => e = .returned (.int .u32 (m : Int)) ∧ Gr w w'))
    (N2 : Hid (∀ w, Calls Tryd.prog 26 #[.int .u32 (b : Int), .int .u32 (a : Int)] w fun e w' => e = .returned (.int .u32 (m : Int)) ∧ Gr w w'))
    (I1 : Hid (∀ w, Calls Tryd.prog 11 #[.float .f32 s, .int .u32 (s : Int)] w fun e w' => e = .returned (.bool true) ∧ w' = w))
    (I2 : Hid (∀ w, Calls Tryd.prog 11 #[.float .f32 m, .int .u32 (m : Int)] w fun e w' => e = .returned (.bool true) ∧ w' = w))
    (w : World) (hT : Hid (Tab w)) :
    Calls Tryd.prog 4 #[.int .u32 (a : Int), .int .u32 (b : Int)] w fun e w' => e = .returned (.bool true) ∧ Gr w w' := by
  go_enter Tryd.func4, Tryd.ntmps4
  go_wp2_with fail
  refine (H0.out _ hT.out).mono ?_
  rintro e W0 ⟨rfl, hg⟩
  have G0 : Hid (Gr w W0) := hg
  clear hg
  go_wp2_with fail
  refine (A1.out _).mono ?_
  rintro e w' ⟨rfl, d, rfl⟩
  go_wp2_with fail
  refine (B1.out _).mono ?_
  rintro e W1 ⟨rfl, hg⟩
  have G1 : Hid (Gr w W1) := (G0.out.drewN d).trans hg
  clear hg G0
  go_wp2_with fail
  refine (I1.out _).mono ?_
  rintro e w' ⟨rfl, rfl⟩
  go_wp2_with fail
  refine (A2.out _).mono ?_
  rintro e w'' ⟨rfl, d2, rfl⟩
  go_wp2_with fail
  refine (B2.out _).mono ?_
  rintro e W2 ⟨rfl, hg⟩
  have G2 : Hid (Gr w W2) := (G1.out.drewN d2).trans hg
  clear hg G1
  go_wp2_with fail
  refine (I1.out _).mono ?_
  rintro e w3 ⟨rfl, rfl⟩
  go_wp2_with fail
  refine (M1.out _).mono ?_
  rintro e w4 ⟨rfl, d3, rfl⟩
  go_wp2_with fail
  refine (N1.out _).mono ?_
  rintro e W3 ⟨rfl, hg⟩
  have G3 : Hid (Gr w W3) := (G2.out.drewN d3).trans hg
  clear hg G2
  go_wp2_with fail
  refine (I2.out _).mono ?_
  rintro e w5 ⟨rfl, rfl⟩
  go_wp2_with fail
  refine (M2.out _).mono ?_
  rintro e w6 ⟨rfl, d4, rfl⟩
  go_wp2_with fail
  refine (N2.out _).mono ?_
  rintro e W4 ⟨rfl, hg⟩
  have G4 : Hid (Gr w W4) := (G3.out.drewN d4).trans hg
  clear hg G3
  go_wp2_with fail
  refine (I2.out _).mono ?_
  rintro e w7 ⟨rfl, rfl⟩
  go_wp2_with fail
  refine (B1.out _).mono ?_
  rintro e W5 ⟨rfl, hg⟩
  have G5 : Hid (Gr w W5) := G4.out.trans hg
  clear hg G4
  go_wp2_with fail
  refine (B2.out _).mono ?_
  rintro e W6 ⟨rfl, hg⟩
  have G6 : Hid (Gr w W6) := G5.out.trans hg
  clear hg G5
  go_wp2_with fail
  refine (N1.out _).mono ?_
  rintro e W7 ⟨rfl, hg⟩
  have G7 : Hid (Gr w W7) := G6.out.trans hg
  clear hg G6
  go_wp2_with fail
  refine (N2.out _).mono ?_
  rintro e W8 ⟨rfl, hg⟩
  have G8 : Hid (Gr w W8) := G7.out.trans hg
  clear hg G7
  go_wp2
  go_ret
  exact ⟨rfl, G8.out⟩
end Go.Proofs.YtckjmcfncfoboaaDoor

namespace Go.Proofs.YtckjmcfncfoboaaDoor
open Go.RowKit
open Ieee

theorem reckons_walk (a b : Int) (a0 : 0 ≤ a) (a1 : Hid (a < 4294967296)) (b0 : 0 ≤ b) (b1 : Hid (b < 4294967296)) (w : World) (hT : Tab w) :
    Calls Tryd.prog 4 #[.int .u32 a, .int .u32 b] w fun e w' => e = .returned (.bool true) ∧ Gr w w' := by
  obtain ⟨m, rfl⟩ : ∃ m : Nat, a = m := ⟨a.toNat, by omega⟩
  obtain ⟨n, rfl⟩ : ∃ n : Nat, b = n := ⟨b.toNat, by omega⟩
  have hm : m < 4294967296 := by have := a1.out; omega
  have hn : n < 4294967296 := by have := b1.out; omega
  refine reckons_law m n (ad32 m n) (mu32 m n) (fun w hT => awake4_any w hT) (fun w => padd_any m n hm hn w) (fun w => ?_) (fun w => pmul_any m n hm hn w) (fun w => ?_) (fun w => radd_any m n hm hn w) (fun w => ?_) (fun w => rmul_any m n hm hn w) (fun w => ?_) (fun w => has_yes _ _ rfl w) (fun w => has_yes _ _ rfl w) w hT
  · rw [ad32_comm m n hm hn]; exact padd_any n m hn hm w
  · rw [mu32_comm m n]; exact pmul_any n m hn hm w
  · rw [ad32_comm m n hm hn]; exact radd_any n m hn hm w
  · rw [mu32_comm m n]; exact rmul_any n m hn hm w
end Go.Proofs.YtckjmcfncfoboaaDoor
