/- SingleFrom: whole numbers to numbers and singles, as the document answers. -/
import Derived.Test.YtckjmcfncfoboaaDoorNf
import Derived.Test.YtckjmcfncfoboaaDoorSk
import Derived.Deep.RegionWith
import Derived.Deep.CutRange
import Derived.Deep.DeepCutAuto
namespace Go.Proofs.YtckjmcfncfoboaaDoor
open Go.RowKit
open Ieee

set_option maxHeartbeats 4000000 in
set_option maxRecDepth 20000 in
theorem from_law (n u mode er : Int) (x y z : Nat) (f h j : Bool)
    (H0 : Hid (∀ w, Tab w → Calls Tryd.prog 9 #[] w fun e w' => e = .returned (.bool true) ∧ Gr w w'))
    (H1 : Hid (∀ w, Tab w → Calls Tryd.prog 36 #[.int .i64 n, .int .i64 mode] w fun ee w' => ee = .returned (.tuple #[.float .f64 x, .agg #[.bool f, .bool false, .bool false], .int .i64 er]) ∧ Gr w w'))
    (H2 : Hid (∀ w, Calls Tryd.prog 37 #[.int .i64 n, .int .i64 mode] w fun ee w' => ee = .returned (.tuple #[.int .u64 (x : Int), .agg #[.bool f, .bool false, .bool false], .int .i64 er]) ∧ Gr w w'))
    (H3 : Hid (∀ w, Tab w → Calls Tryd.prog 38 #[.int .u64 u, .int .i64 mode] w fun ee w' => ee = .returned (.tuple #[.float .f64 y, .agg #[.bool h, .bool false, .bool false], .int .i64 er]) ∧ Gr w w'))
    (H4 : Hid (∀ w, Calls Tryd.prog 39 #[.int .u64 u, .int .i64 mode] w fun ee w' => ee = .returned (.tuple #[.int .u64 (y : Int), .agg #[.bool h, .bool false, .bool false], .int .i64 er]) ∧ Gr w w'))
    (H5 : Hid (∀ w, Tab w → Calls Tryd.prog 40 #[.int .i64 n, .int .i64 mode] w fun ee w' => ee = .returned (.tuple #[.float .f32 z, .agg #[.bool j, .bool false, .bool false], .int .i64 er]) ∧ Gr w w'))
    (H6 : Hid (∀ w, Calls Tryd.prog 41 #[.int .i64 n, .int .i64 mode] w fun ee w' => ee = .returned (.tuple #[.int .u32 (z : Int), .agg #[.bool j, .bool false, .bool false], .int .i64 er]) ∧ Gr w w'))
    (H7 : Hid (∀ w, Calls Tryd.prog 15 #[.float .f64 x, .int .u64 (x : Int)] w fun e w' => e = .returned (.bool true) ∧ w' = w))
    (H8 : Hid (∀ w, Calls Tryd.prog 15 #[.float .f64 y, .int .u64 (y : Int)] w fun e w' => e = .returned (.bool true) ∧ w' = w))
    (H9 : Hid (∀ w, Calls Tryd.prog 11 #[.float .f32 z, .int .u32 (z : Int)] w fun e w' => e = .returned (.bool true) ∧ w' = w))
    (w : World) (hT : Hid (Tab w)) :
    Calls Tryd.prog 7 #[.int .i64 n, .int .u64 u, .int .i64 mode] w fun e w' => e = .returned (.bool true) ∧ Gr w w' := by
  go_enter Tryd.func7, Tryd.ntmps7
  go_wp2_with fail
  refine (H0.out _ hT.out).mono ?_
  rintro e W0 ⟨rfl, hg⟩
  have B0 : Hid (Gr w W0) := hg
  clear hg
  go_wp2_with fail
  refine (H1.out _ (tab_gr hT.out B0.out)).mono ?_
  rintro e v1 ⟨rfl, hg⟩
  have A1 : Hid (Holds (v1.alloc (.cells #[.bool f, .bool false, .bool false] 36)) v1.heap.size [.bool f, .bool false, .bool false]) := holds_new v1 _ _
  have B1 : Hid (Gr w (v1.alloc (.cells #[.bool f, .bool false, .bool false] 36))) := (B0.out.trans hg).alloc _ _
  clear hg B0
  go_wp2_with fail
  generalize v1.alloc (.cells #[.bool f, .bool false, .bool false] 36) = W1 at *
  refine (H2.out _).mono ?_
  rintro e v2 ⟨rfl, hg⟩
  replace A1 : Hid (Holds (v2.alloc (.cells #[.bool f, .bool false, .bool false] 36)) v1.heap.size [.bool f, .bool false, .bool false]) := (A1.out.gr hg).gr ((Gr.refl _).alloc _ _)
  have A2 : Hid (Holds (v2.alloc (.cells #[.bool f, .bool false, .bool false] 36)) v2.heap.size [.bool f, .bool false, .bool false]) := holds_new v2 _ _
  have B2 : Hid (Gr w (v2.alloc (.cells #[.bool f, .bool false, .bool false] 36))) := (B1.out.trans hg).alloc _ _
  clear hg B1
  go_wp2_with fail
  generalize v2.alloc (.cells #[.bool f, .bool false, .bool false] 36) = W2 at *
  refine (H3.out _ (tab_gr hT.out B2.out)).mono ?_
  rintro e v3 ⟨rfl, hg⟩
  replace A1 : Hid (Holds (v3.alloc (.cells #[.bool h, .bool false, .bool false] 36)) v1.heap.size [.bool f, .bool false, .bool false]) := (A1.out.gr hg).gr ((Gr.refl _).alloc _ _)
  replace A2 : Hid (Holds (v3.alloc (.cells #[.bool h, .bool false, .bool false] 36)) v2.heap.size [.bool f, .bool false, .bool false]) := (A2.out.gr hg).gr ((Gr.refl _).alloc _ _)
  have A3 : Hid (Holds (v3.alloc (.cells #[.bool h, .bool false, .bool false] 36)) v3.heap.size [.bool h, .bool false, .bool false]) := holds_new v3 _ _
  have B3 : Hid (Gr w (v3.alloc (.cells #[.bool h, .bool false, .bool false] 36))) := (B2.out.trans hg).alloc _ _
  clear hg B2
  go_wp2_with fail
  generalize v3.alloc (.cells #[.bool h, .bool false, .bool false] 36) = W3 at *
  refine (H4.out _).mono ?_
  rintro e v4 ⟨rfl, hg⟩
  replace A1 : Hid (Holds (v4.alloc (.cells #[.bool h, .bool false, .bool false] 36)) v1.heap.size [.bool f, .bool false, .bool false]) := (A1.out.gr hg).gr ((Gr.refl _).alloc _ _)
  replace A2 : Hid (Holds (v4.alloc (.cells #[.bool h, .bool false, .bool false] 36)) v2.heap.size [.bool f, .bool false, .bool false]) := (A2.out.gr hg).gr ((Gr.refl _).alloc _ _)
  replace A3 : Hid (Holds (v4.alloc (.cells #[.bool h, .bool false, .bool false] 36)) v3.heap.size [.bool h, .bool false, .bool false]) := (A3.out.gr hg).gr ((Gr.refl _).alloc _ _)
  have A4 : Hid (Holds (v4.alloc (.cells #[.bool h, .bool false, .bool false] 36)) v4.heap.size [.bool h, .bool false, .bool false]) := holds_new v4 _ _
  have B4 : Hid (Gr w (v4.alloc (.cells #[.bool h, .bool false, .bool false] 36))) := (B3.out.trans hg).alloc _ _
  clear hg B3
  go_wp2_with fail
  generalize v4.alloc (.cells #[.bool h, .bool false, .bool false] 36) = W4 at *
  refine (H5.out _ (tab_gr hT.out B4.out)).mono ?_
  rintro e v5 ⟨rfl, hg⟩
  replace A1 : Hid (Holds (v5.alloc (.cells #[.bool j, .bool false, .bool false] 36)) v1.heap.size [.bool f, .bool false, .bool false]) := (A1.out.gr hg).gr ((Gr.refl _).alloc _ _)
  replace A2 : Hid (Holds (v5.alloc (.cells #[.bool j, .bool false, .bool false] 36)) v2.heap.size [.bool f, .bool false, .bool false]) := (A2.out.gr hg).gr ((Gr.refl _).alloc _ _)
  replace A3 : Hid (Holds (v5.alloc (.cells #[.bool j, .bool false, .bool false] 36)) v3.heap.size [.bool h, .bool false, .bool false]) := (A3.out.gr hg).gr ((Gr.refl _).alloc _ _)
  replace A4 : Hid (Holds (v5.alloc (.cells #[.bool j, .bool false, .bool false] 36)) v4.heap.size [.bool h, .bool false, .bool false]) := (A4.out.gr hg).gr ((Gr.refl _).alloc _ _)
  have A5 : Hid (Holds (v5.alloc (.cells #[.bool j, .bool false, .bool false] 36)) v5.heap.size [.bool j, .bool false, .bool false]) := holds_new v5 _ _
  have B5 : Hid (Gr w (v5.alloc (.cells #[.bool j, .bool false, .bool false] 36))) := (B4.out.trans hg).alloc _ _
  clear hg B4
  go_wp2_with fail
  generalize v5.alloc (.cells #[.bool j, .bool false, .bool false] 36) = W5 at *
  refine (H6.out _).mono ?_
  rintro e v6 ⟨rfl, hg⟩
  replace A1 : Hid (Holds (v6.alloc (.cells #[.bool j, .bool false, .bool false] 36)) v1.heap.size [.bool f, .bool false, .bool false]) := (A1.out.gr hg).gr ((Gr.refl _).alloc _ _)
  replace A2 : Hid (Holds (v6.alloc (.cells #[.bool j, .bool false, .bool false] 36)) v2.heap.size [.bool f, .bool false, .bool false]) := (A2.out.gr hg).gr ((Gr.refl _).alloc _ _)
  replace A3 : Hid (Holds (v6.alloc (.cells #[.bool j, .bool false, .bool false] 36)) v3.heap.size [.bool h, .bool false, .bool false]) := (A3.out.gr hg).gr ((Gr.refl _).alloc _ _)
  replace A4 : Hid (Holds (v6.alloc (.cells #[.bool j, .bool false, .bool false] 36)) v4.heap.size [.bool h, .bool false, .bool false]) := (A4.out.gr hg).gr ((Gr.refl _).alloc _ _)
  replace A5 : Hid (Holds (v6.alloc (.cells #[.bool j, .bool false, .bool false] 36)) v5.heap.size [.bool j, .bool false, .bool false]) := (A5.out.gr hg).gr ((Gr.refl _).alloc _ _)
  have A6 : Hid (Holds (v6.alloc (.cells #[.bool j, .bool false, .bool false] 36)) v6.heap.size [.bool j, .bool false, .bool false]) := holds_new v6 _ _
  have B6 : Hid (Gr w (v6.alloc (.cells #[.bool j, .bool false, .bool false] 36))) := (B5.out.trans hg).alloc _ _
  clear hg B5
  go_upto_region 8 with fail
  generalize v6.alloc (.cells #[.bool j, .bool false, .bool false] 36) = W6 at *
  obtain ⟨c0, c1, c2, c3, c4, c5, c6, c7, c8, c9, c10, c11, c12, c13, c14, c15, c16, c17⟩ : W6.cell? ⟨v1.heap.size, 0, none⟩ = some (.bool f) ∧ W6.cell? ⟨v1.heap.size, 1, none⟩ = some (.bool false) ∧ W6.cell? ⟨v1.heap.size, 2, none⟩ = some (.bool false) ∧ W6.cell? ⟨v2.heap.size, 0, none⟩ = some (.bool f) ∧ W6.cell? ⟨v2.heap.size, 1, none⟩ = some (.bool false) ∧ W6.cell? ⟨v2.heap.size, 2, none⟩ = some (.bool false) ∧ W6.cell? ⟨v3.heap.size, 0, none⟩ = some (.bool h) ∧ W6.cell? ⟨v3.heap.size, 1, none⟩ = some (.bool false) ∧ W6.cell? ⟨v3.heap.size, 2, none⟩ = some (.bool false) ∧ W6.cell? ⟨v4.heap.size, 0, none⟩ = some (.bool h) ∧ W6.cell? ⟨v4.heap.size, 1, none⟩ = some (.bool false) ∧ W6.cell? ⟨v4.heap.size, 2, none⟩ = some (.bool false) ∧ W6.cell? ⟨v5.heap.size, 0, none⟩ = some (.bool j) ∧ W6.cell? ⟨v5.heap.size, 1, none⟩ = some (.bool false) ∧ W6.cell? ⟨v5.heap.size, 2, none⟩ = some (.bool false) ∧ W6.cell? ⟨v6.heap.size, 0, none⟩ = some (.bool j) ∧ W6.cell? ⟨v6.heap.size, 1, none⟩ = some (.bool false) ∧ W6.cell? ⟨v6.heap.size, 2, none⟩ = some (.bool false) := ⟨A1.out.c0.1, A1.out.c1.1, A1.out.c2.1, A2.out.c0.1, A2.out.c1.1, A2.out.c2.1, A3.out.c0.1, A3.out.c1.1, A3.out.c2.1, A4.out.c0.1, A4.out.c1.1, A4.out.c2.1, A5.out.c0.1, A5.out.c1.1, A5.out.c2.1, A6.out.c0.1, A6.out.c1.1, A6.out.c2.1⟩
  go_wp2_with (first | (go_at_call_of 15 (Value.float FloatKind.f64 x); refine (H7.out _).mono ?_; rintro e w' ⟨rfl, rfl⟩) | (go_at_call_of 15 (Value.float FloatKind.f64 y); refine (H8.out _).mono ?_; rintro e w' ⟨rfl, rfl⟩) | (go_at_call 11; refine (H9.out _).mono ?_; rintro e w' ⟨rfl, rfl⟩))
  all_goals go_ret
  all_goals first | exact ⟨rfl, B6.out⟩ | exact ⟨rfl, B6.out.drew⟩
end Go.Proofs.YtckjmcfncfoboaaDoor
