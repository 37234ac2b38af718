/- AddrTexts: its walk. -/
import Derived.Test.YthehdloofamadaaDoorLc
namespace Go.Proofs.YthehdloofamadaaDoor
open Go.RowKit

set_option maxHeartbeats 4000000 in
set_option maxRecDepth 20000 in
theorem texts_core (l : List UInt8) (w : World) (c r E a1 a2 a3 a4 F P : Int) (cf rf : Bool)
    (H0 : Hid (∀ w, Calls Tryd.prog 8 #[] w fun e w' => e = .returned (.bool true) ∧ Below w.heap.size w w'))
    (H1 : Hid (∀ w, Calls Tryd.prog 17 #[.string ⟨l.toArray⟩] w fun e w' => e = .returned (.tuple #[.agg #[.int .i64 c, .int .i64 r, .bool cf, .bool rf], .int .i64 E]) ∧ Below w.heap.size w w'))
    (H2 : Hid (∀ w, Calls Tryd.prog 18 #[.string ⟨l.toArray⟩] w fun e w' => e = .returned (.tuple #[.agg #[.int .i64 c, .int .i64 r, .bool cf, .bool rf], .int .i64 E]) ∧ Below w.heap.size w w'))
    (H3 : Hid (∀ w, Calls Tryd.prog 19 #[.string ⟨l.toArray⟩] w fun e w' => e = .returned (.tuple #[.agg #[.int .i64 a1, .int .i64 a2, .int .i64 a3, .int .i64 a4], .int .i64 F]) ∧ Below w.heap.size w w'))
    (H4 : Hid (∀ w, Calls Tryd.prog 20 #[.string ⟨l.toArray⟩] w fun e w' => e = .returned (.tuple #[.agg #[.int .i64 a1, .int .i64 a2, .int .i64 a3, .int .i64 a4], .int .i64 F]) ∧ Below w.heap.size w w'))
    (H5 : Hid (∀ w, Calls Tryd.prog 21 #[.string ⟨l.toArray⟩] w fun e w' => e = .returned (.int .i64 P) ∧ Below w.heap.size w w'))
    (H6 : Hid (∀ w, Calls Tryd.prog 22 #[.string ⟨l.toArray⟩] w fun e w' => e = .returned (.int .i64 P) ∧ Below w.heap.size w w')) :
    Calls Tryd.prog 4 #[.string ⟨l.toArray⟩] w fun e w' => e = .returned (.bool true) ∧ Below w.heap.size w w' := by
  go_enter Tryd.func4, Tryd.ntmps4
  go_wp2_with fail
  refine (H0.out _).mono ?_
  rintro e w1 ⟨rfl, hb⟩
  have B1 : Hid (Below w.heap.size w w1) := hb
  clear hb
  go_wp2_with fail
  refine (H1.out _).mono ?_
  rintro e w2 ⟨rfl, hb⟩
  have B2 : Hid (Below w.heap.size w w2) := B1.out.trans (hb.mono B1.out.size)
  clear hb B1
  go_wp2_with fail
  refine (H2.out _).mono ?_
  rintro e w3 ⟨rfl, hb⟩
  have A3 : Hid (Has4 w3 w2.heap.size (.int .i64 c) (.int .i64 r) (.bool cf) (.bool rf)) := (has4_new w2 _ _ _ _ _).bel hb
  have B3 : Hid (Below w.heap.size w w3) := (B2.out.alloc B2.out.size _).trans (hb.mono (by have := B2.out.size; simp; omega))
  clear hb B2
  go_wp2_with fail
  refine (H3.out _).mono ?_
  rintro e w4 ⟨rfl, hb⟩
  have A4 : Hid (Has4 w4 w2.heap.size (.int .i64 c) (.int .i64 r) (.bool cf) (.bool rf)) := (A3.out.bel ((Below.refl _ _).alloc (Nat.le_refl _) _)).bel hb
  have D4 : Hid (Has4 w4 w3.heap.size (.int .i64 c) (.int .i64 r) (.bool cf) (.bool rf)) := (has4_new w3 _ _ _ _ _).bel hb
  have B4 : Hid (Below w.heap.size w w4) := (B3.out.alloc B3.out.size _).trans (hb.mono (by have := B3.out.size; simp; omega))
  clear hb A3 B3
  go_wp2_with fail
  refine (H4.out _).mono ?_
  rintro e w5 ⟨rfl, hb⟩
  have A5 : Hid (Has4 (w5.alloc (.cells #[.int .i64 a1, .int .i64 a2, .int .i64 a3, .int .i64 a4] 38)) w2.heap.size (.int .i64 c) (.int .i64 r) (.bool cf) (.bool rf)) := ((A4.out.bel ((Below.refl _ _).alloc (Nat.le_refl _) _)).bel hb).bel ((Below.refl _ _).alloc (Nat.le_refl _) _)
  have D5 : Hid (Has4 (w5.alloc (.cells #[.int .i64 a1, .int .i64 a2, .int .i64 a3, .int .i64 a4] 38)) w3.heap.size (.int .i64 c) (.int .i64 r) (.bool cf) (.bool rf)) := ((D4.out.bel ((Below.refl _ _).alloc (Nat.le_refl _) _)).bel hb).bel ((Below.refl _ _).alloc (Nat.le_refl _) _)
  have F5 : Hid (Has4 (w5.alloc (.cells #[.int .i64 a1, .int .i64 a2, .int .i64 a3, .int .i64 a4] 38)) w4.heap.size (.int .i64 a1) (.int .i64 a2) (.int .i64 a3) (.int .i64 a4)) := ((has4_new w4 _ _ _ _ _).bel hb).bel ((Below.refl _ _).alloc (Nat.le_refl _) _)
  have B5 : Hid (Below w.heap.size w w5) := (B4.out.alloc B4.out.size _).trans (hb.mono (by have := B4.out.size; simp; omega))
  clear hb A4 D4 B4
  obtain ⟨x0, x1, x2, x3, _, _, _, _⟩ := A5.out
  obtain ⟨y0, y1, y2, y3, _, _, _, _⟩ := D5.out
  obtain ⟨z0, z1, z2, z3, _, _, _, _⟩ := F5.out
  go_wp2_with fail
  refine (H5.out _).mono ?_
  rintro e w6 ⟨rfl, hb⟩
  have B6 : Hid (Below w.heap.size w w6) := (B5.out.alloc B5.out.size _).trans (hb.mono (by have := B5.out.size; simp; omega))
  clear hb x0 x1 x2 x3 y0 y1 y2 y3 z0 z1 z2 z3
  go_wp2_with fail
  refine (H6.out _).mono ?_
  rintro e w7 ⟨rfl, hb⟩
  have B7 : Hid (Below w.heap.size w w7) := B6.out.trans (hb.mono B6.out.size)
  clear hb
  go_wp2_with fail
  go_ret
  exact ⟨rfl, B7.out⟩
theorem texts_any (h : AddrSays) (l : List UInt8) (n : Int) (hn : (l.length : Int) = n) (hl : n < 140737488355328) (w : World) :
    Calls Tryd.prog 4 #[.string ⟨l.toArray⟩] w fun e w' => e = .returned (.bool true) ∧ Below w.heap.size w w' :=
  texts_core l w _ _ _ _ _ _ _ _ _ _ _ (awake_any h) (h.parse l n hn hl) (refParse l n hn hl) (h.parseArea l n hn hl) (refParseArea l n hn hl) (h.prefix' l n hn hl) (refPrefix l n hn hl)
end Go.Proofs.YthehdloofamadaaDoor
