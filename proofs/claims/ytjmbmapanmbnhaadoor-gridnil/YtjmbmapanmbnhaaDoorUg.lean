/- What a grid that is none goes over; contents that are zero. -/
import Derived.Test.YtjmbmapanmbnhaaDoorUc
namespace Go.Proofs.YtjmbmapanmbnhaaDoor
open Go.RowKit Go.Maps

set_option maxHeartbeats 2000000 in
theorem nil_in (a b c d : Int) (w : World) : Calls Tryd.prog 26 #[.pointer none, .agg #[.int .i64 a, .int .i64 b, .int .i64 c, .int .i64 d]] w fun e w' => ∃ gb ab, e = .returned (.func (.func 56) #[] #[.pointer (some ⟨gb, 0, none⟩), .pointer (some ⟨ab, 0, none⟩)]) ∧ w'.cell? ⟨gb, 0, none⟩ = some (.pointer none) ∧ gb < w'.heap.size ∧ Kp w w' Nul := by
  obtain ⟨W, hW⟩ : ∃ W, (w.alloc (.cells #[.pointer none] 39)).alloc (.cells #[.int .i64 a, .int .i64 b, .int .i64 c, .int .i64 d] 58) = W := ⟨_, rfl⟩
  have HW : Hid ((w.alloc (.cells #[.pointer none] 39)).alloc (.cells #[.int .i64 a, .int .i64 b, .int .i64 c, .int .i64 d] 58) = W) := hW
  have HK : Hid (Kp w W Nul) := by show Kp w W Nul; rw [← hW]; exact ((Kp.refl w Nul).alloc _).alloc _
  have HC : Hid (W.cell? ⟨w.heap.size, 0, none⟩ = some (.pointer none)) := by
    show _ = _
    rw [← hW]
    exact Lib.cell?_alloc_some _ (by rw [World.cell?_alloc_new]; rfl)
  have HL : Hid (w.heap.size < W.heap.size) := by show _ < _; rw [← hW]; simp; omega
  clear hW
  go_enter Tryd.func26, Tryd.ntmps26
  go_wp2_with fail
  rw [HW.out]
  go_ret
  exact ⟨_, _, rfl, HC.out, HL.out, HK.out⟩
set_option maxHeartbeats 2000000 in
theorem nil_seq (gb ab l : Nat) (W : World) (h : W.cell? ⟨gb, 0, none⟩ = some (.pointer none)) : Calls Tryd.prog 56 #[.func (.yield l) #[] #[], .pointer (some ⟨gb, 0, none⟩), .pointer (some ⟨ab, 0, none⟩)] W fun e W' => (∃ v, e = .returned v) ∧ Kp W W' Nul := by
  go_enter Tryd.func56, Tryd.ntmps56
  go_wp2_with fail
  (try simp only [Exit.inBlock, Exit.then])
  refine bodyPost_ret (results_none rfl _ _ _) rfl ?_
  exact ⟨⟨_, rfl⟩, Kp.refl _ _⟩
set_option maxHeartbeats 2000000 in
theorem nil_all (w : World) : Calls Tryd.prog 23 #[.pointer none] w fun e w' => ∃ gb ab, e = .returned (.func (.func 56) #[] #[.pointer (some ⟨gb, 0, none⟩), .pointer (some ⟨ab, 0, none⟩)]) ∧ w'.cell? ⟨gb, 0, none⟩ = some (.pointer none) ∧ gb < w'.heap.size ∧ Kp w w' Nul := by
  have H : Hid (Calls Tryd.prog 26 #[.pointer none, .agg #[.int .i64 1, .int .i64 1, .int .i64 256, .int .i64 4096]] w fun e w' => ∃ gb ab, e = .returned (.func (.func 56) #[] #[.pointer (some ⟨gb, 0, none⟩), .pointer (some ⟨ab, 0, none⟩)]) ∧ w'.cell? ⟨gb, 0, none⟩ = some (.pointer none) ∧ gb < w'.heap.size ∧ Kp w w' Nul) := nil_in 1 1 256 4096 w
  go_enter Tryd.func23, Tryd.ntmps23
  go_wp2_with fail
  refine H.out.mono ?_
  rintro e w1 ⟨gb, ab, rfl, h1, h2, h3⟩
  have HE : Hid (w1.cell? ⟨gb, 0, none⟩ = some (.pointer none) ∧ gb < w1.heap.size ∧ Kp w w1 Nul) := ⟨h1, h2, h3⟩
  clear h1 h2 h3 H
  go_wp2_with fail
  go_ret
  exact ⟨_, _, rfl, HE.out⟩
end Go.Proofs.YtjmbmapanmbnhaaDoor
