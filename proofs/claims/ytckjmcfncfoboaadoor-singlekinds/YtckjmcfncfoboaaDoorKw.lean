/- SingleKinds: its walk; any single, and any number narrowed by any mode. -/
import Derived.Test.YtckjmcfncfoboaaDoorNf
import Derived.Test.YtckjmcfncfoboaaDoorSk
import Derived.Deep.RegionWith
import Derived.Deep.CutRange
import Derived.Deep.DeepCutAuto
import Derived.Test.YtckjmcfncfoboaaDoorKn
namespace Go.Proofs.YtckjmcfncfoboaaDoor
open Go.RowKit
open Ieee

set_option maxHeartbeats 4000000 in
set_option maxRecDepth 20000 in
theorem kinds_law (b o wd nx a x : Nat) (mode er : Int) (g0 g1 g2 : Bool)
    (H0 : Hid (∀ w, Tab w → Calls Tryd.prog 9 #[] w fun e w' => e = .returned (.bool true) ∧ Gr w w'))
    (N1 : Hid (∀ w, Calls Tryd.prog 12 #[] w fun e w' => e = .returned (.float .f32 2143289344) ∧ w' = w))
    (N2 : Hid (∀ w, Calls Tryd.prog 13 #[.int .u32 2139095041] w fun e w' => e = .returned (.int .u32 2143289344) ∧ w' = w))
    (O1 : Hid (∀ w, Calls Tryd.prog 14 #[.float .f32 b] w fun e w' => e = .returned (.float .f32 o) ∧ w' = w))
    (O2 : Hid (∀ w, Calls Tryd.prog 13 #[.int .u32 (b : Int)] w fun e w' => e = .returned (.int .u32 (o : Int)) ∧ w' = w))
    (W1 : Hid (∀ w, Calls Tryd.prog 16 #[.float .f32 b] w fun e w' => e = .returned (.float .f64 wd) ∧ ∃ d, w' = w.drewN d))
    (W2 : Hid (∀ w, Calls Tryd.prog 17 #[.int .u32 (b : Int)] w fun e w' => e = .returned (.int .u64 (wd : Int)) ∧ w' = w))
    (X1 : Hid (∀ w, Calls Tryd.prog 18 #[.float .f32 b] w fun e w' => e = .returned (.float .f32 nx) ∧ w' = w))
    (X2 : Hid (∀ w, Calls Tryd.prog 19 #[.int .u32 (b : Int)] w fun e w' => e = .returned (.int .u32 (nx : Int)) ∧ w' = w))
    (R1 : Hid (∀ w, Tab w → Calls Tryd.prog 20 #[.float .f64 a, .int .i64 mode] w fun ee w' => ee = .returned (.tuple #[.float .f32 x, .agg #[.bool g0, .bool g1, .bool g2], .int .i64 er]) ∧ Gr w w'))
    (R2 : Hid (∀ w, Calls Tryd.prog 22 #[.int .u64 (a : Int), .int .i64 mode] w fun ee w' => ee = .returned (.tuple #[.int .u32 (x : Int), .agg #[.bool g0, .bool g1, .bool g2], .int .i64 er]) ∧ Gr w w'))
    (I1 : Hid (∀ w, Calls Tryd.prog 15 #[.float .f64 wd, .int .u64 (wd : Int)] w fun e w' => e = .returned (.bool true) ∧ w' = w))
    (A1 : Hid (∀ w, Calls Tryd.prog 11 #[.float .f32 2143289344, .int .u32 2143289344] w fun e w' => e = .returned (.bool true) ∧ w' = w))
    (A2 : Hid (∀ w, Calls Tryd.prog 11 #[.float .f32 o, .int .u32 (o : Int)] w fun e w' => e = .returned (.bool true) ∧ w' = w))
    (A3 : Hid (∀ w, Calls Tryd.prog 11 #[.float .f32 nx, .int .u32 (nx : Int)] w fun e w' => e = .returned (.bool true) ∧ w' = w))
    (A4 : Hid (∀ w, Calls Tryd.prog 11 #[.float .f32 x, .int .u32 (x : Int)] w fun e w' => e = .returned (.bool true) ∧ w' = w))
    (w : World) (hT : Hid (Tab w)) :
    Calls Tryd.prog 3 #[.int .u32 (b : Int), .int .u64 (a : Int), .int .i64 mode] w fun e w' => e = .returned (.bool true) ∧ Gr w w' := by
  go_enter Tryd.func3, Tryd.ntmps3
  go_wp2_with fail
  refine (H0.out _ hT.out).mono ?_
  rintro e W0 ⟨rfl, hg⟩
  have B0 : Hid (Gr w W0) := hg
  clear hg
  go_wp2_with fail
  refine (N1.out _).mono ?_
  rintro e w' ⟨rfl, rfl⟩
  go_wp2_with fail
  refine (N2.out _).mono ?_
  rintro e w' ⟨rfl, rfl⟩
  go_wp2_with fail
  refine (A1.out _).mono ?_
  rintro e w' ⟨rfl, rfl⟩
  go_wp2_with fail
  refine (O1.out _).mono ?_
  rintro e w' ⟨rfl, rfl⟩
  go_wp2_with fail
  refine (O2.out _).mono ?_
  rintro e w' ⟨rfl, rfl⟩
  go_wp2_with fail
  refine (A2.out _).mono ?_
  rintro e w' ⟨rfl, rfl⟩
  go_wp2_with fail
  refine (W1.out _).mono ?_
  rintro e w' ⟨rfl, d, rfl⟩
  go_wp2_with fail
  refine (W2.out _).mono ?_
  rintro e w' ⟨rfl, rfl⟩
  go_wp2_with fail
  refine (I1.out _).mono ?_
  rintro e w' ⟨rfl, rfl⟩
  go_wp2_with fail
  refine (X1.out _).mono ?_
  rintro e w' ⟨rfl, rfl⟩
  go_wp2_with fail
  refine (X2.out _).mono ?_
  rintro e w' ⟨rfl, rfl⟩
  go_wp2_with fail
  refine (A3.out _).mono ?_
  rintro e w' ⟨rfl, rfl⟩
  have B1 : Hid (Gr w (w'.drewN d)) := B0.out.drewN d
  generalize w'.drewN d = W1 at *
  clear B0
  go_wp2_with fail
  refine (R1.out _ (tab_gr hT.out B1.out)).mono ?_
  rintro e v1 ⟨rfl, hg⟩
  have C1 : Hid (Holds (v1.alloc (.cells #[.bool g0, .bool g1, .bool g2] 36)) v1.heap.size [.bool g0, .bool g1, .bool g2]) := holds_new v1 _ _
  have D1 : Hid (Gr w (v1.alloc (.cells #[.bool g0, .bool g1, .bool g2] 36))) := (B1.out.trans hg).alloc _ _
  clear hg B1
  go_wp2_with fail
  generalize v1.alloc (.cells #[.bool g0, .bool g1, .bool g2] 36) = W2 at *
  refine (R2.out _).mono ?_
  rintro e v2 ⟨rfl, hg⟩
  replace C1 : Hid (Holds (v2.alloc (.cells #[.bool g0, .bool g1, .bool g2] 36)) v1.heap.size [.bool g0, .bool g1, .bool g2]) := (C1.out.gr hg).gr ((Gr.refl _).alloc _ _)
  have C2 : Hid (Holds (v2.alloc (.cells #[.bool g0, .bool g1, .bool g2] 36)) v2.heap.size [.bool g0, .bool g1, .bool g2]) := holds_new v2 _ _
  have D2 : Hid (Gr w (v2.alloc (.cells #[.bool g0, .bool g1, .bool g2] 36))) := (D1.out.trans hg).alloc _ _
  clear hg D1
  go_wp2_with fail
  generalize v2.alloc (.cells #[.bool g0, .bool g1, .bool g2] 36) = W3 at *
  obtain ⟨c0, c1, c2, c3, c4, c5⟩ : W3.cell? ⟨v1.heap.size, 0, none⟩ = some (.bool g0) ∧ W3.cell? ⟨v1.heap.size, 1, none⟩ = some (.bool g1) ∧ W3.cell? ⟨v1.heap.size, 2, none⟩ = some (.bool g2) ∧ W3.cell? ⟨v2.heap.size, 0, none⟩ = some (.bool g0) ∧ W3.cell? ⟨v2.heap.size, 1, none⟩ = some (.bool g1) ∧ W3.cell? ⟨v2.heap.size, 2, none⟩ = some (.bool g2) := ⟨C1.out.c0.1, C1.out.c1.1, C1.out.c2.1, C2.out.c0.1, C2.out.c1.1, C2.out.c2.1⟩
  go_wp2_with (first | (go_at_call 11; refine (A4.out _).mono ?_; rintro e w' ⟨rfl, rfl⟩))
  all_goals go_ret
  all_goals first | exact ⟨rfl, D2.out⟩ | exact ⟨rfl, D2.out.drew⟩
end Go.Proofs.YtckjmcfncfoboaaDoor

namespace Go.Proofs.YtckjmcfncfoboaaDoor
open Go.RowKit
open Ieee

theorem kinds_walk (b a mode : Int) (b0 : 0 ≤ b) (b1 : Hid (b < 4294967296)) (a0 : 0 ≤ a) (a1 : Hid (a < 18446744073709551616)) (_m0 : -9223372036854775808 ≤ mode) (_m1 : mode ≤ 9223372036854775807) (w : World) (hT : Tab w) :
    Calls Tryd.prog 3 #[.int .u32 b, .int .u64 a, .int .i64 mode] w fun e w' => e = .returned (.bool true) ∧ Gr w w' := by
  obtain ⟨m, rfl⟩ : ∃ m : Nat, b = m := ⟨b.toNat, by omega⟩
  obtain ⟨n, rfl⟩ : ∃ n : Nat, a = n := ⟨a.toNat, by omega⟩
  have hm : m < 4294967296 := by have := b1.out; omega
  have hn : n < 18446744073709551616 := by have := a1.out; omega
  have o2 : ∀ w, Calls Tryd.prog 13 #[.int .u32 (m : Int)] w fun e w' => e = .returned (.int .u32 (one32 m : Nat)) ∧ w' = w := fun w => by
    have := rone32_any m (by omega) (by omega) w
    rwa [Int.toNat_natCast] at this
  have x2 : ∀ w, Calls Tryd.prog 19 #[.int .u32 (m : Int)] w fun e w' => e = .returned (.int .u32 (nx32 m : Nat)) ∧ w' = w := fun w => by
    have := rnext32_any m (by omega) (by omega) w
    rwa [Int.toNat_natCast] at this
  have n2 : ∀ w, Calls Tryd.prog 13 #[.int .u32 2139095041] w fun e w' => e = .returned (.int .u32 2143289344) ∧ w' = w := fun w => by
    have := rone32_any 2139095041 (by decide) (by decide) w
    have e : one32 (2139095041 : Int).toNat = 2143289344 := by decide
    rw [e] at this
    exact this
  have r2 : ∀ w, Calls Tryd.prog 22 #[.int .u64 (n : Int), .int .i64 mode] w fun e w' => e = .returned (.tuple #[.int .u32 (nzW mode n : Nat), .agg #[.bool (nzI mode n), .bool (nzO mode n), .bool (nzU mode n)], .int .i64 (nzE mode)]) ∧ Gr w w' := fun w => by
    have := rnarrow_all n (by omega) (by omega) mode w
    rwa [Int.toNat_natCast] at this
  exact kinds_law m (one32 m) (wd32 m) (nx32 m) n (nzW mode n) mode (nzE mode) (nzI mode n) (nzO mode n) (nzU mode n) (fun w hT => awake4_any w hT)
    (fun w => nan32_any w) n2 (fun w => one32_any m hm w) o2 (fun w => pwiden_any m hm w) (fun w => rwiden_any m hm w) (fun w => pnext32_any m hm w) x2 (fun w hT => pnarrow_all n hn mode w hT) r2
    (fun w => is4_yes _ _ rfl w) (fun w => has_yes _ _ rfl w) (fun w => has_yes _ _ rfl w) (fun w => has_yes _ _ rfl w) (fun w => has_yes _ _ rfl w) w hT
end Go.Proofs.YtckjmcfncfoboaaDoor
