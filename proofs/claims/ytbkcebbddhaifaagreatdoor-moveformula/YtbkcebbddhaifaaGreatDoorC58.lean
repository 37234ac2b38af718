/- The document's bare (quadrilleref12), with the mask 2. The document's bare (quadrilleref12), with the mask 4. The document's bare (quadrilleref12), with the mask 8. The document's bare (quadrilleref12), with the mask 16. The document's bare (quadrilleref12), with the mask 32. The document's bare (quadrilleref12), with the mask 96. The document's bare (quadrilleref12), with the mask 129. The document's bare (quadrilleref12), with the mask 132. -/
import Derived.Test.YtbkcebbddhaifaaGreatDoorC24
namespace Go.Proofs.YtbkcebbddhaifaaGreatDoor
open Go.RowKit

theorem and_2_1 : bits .and .i64 2 1 = 0 := by kernel_rfl
theorem and_2_2 : bits .and .i64 2 2 = 2 := by kernel_rfl
theorem and_2_4 : bits .and .i64 2 4 = 0 := by kernel_rfl
theorem and_2_8 : bits .and .i64 2 8 = 0 := by kernel_rfl
theorem and_2_16 : bits .and .i64 2 16 = 0 := by kernel_rfl
theorem and_2_32 : bits .and .i64 2 32 = 0 := by kernel_rfl
theorem and_2_64 : bits .and .i64 2 64 = 0 := by kernel_rfl
theorem and_2_128 : bits .and .i64 2 128 = 0 := by kernel_rfl
attribute [local go_sem] and_2_1 and_2_2 and_2_4 and_2_8 and_2_16 and_2_32 and_2_64 and_2_128
set_option maxRecDepth 20000 in
set_option maxHeartbeats 16000000 in
theorem rbare_2 (h : Hd) (n : Nat) (a : Option Addr) (c : Nat) (w : World) :
    Calls Tryz.prog 178 #[h.val (.slice a n c), .int .i64 2] w fun e w' => e = .returned (.bool (bareB false true false false false false false false h n)) ∧ Gr w w' := by
  have e1 := eql_ref h.c1 h.r1 0 0 h.p1 h.q1 false false _ rfl
  have e2 := eql_ref h.c2 h.r2 0 0 h.p2 h.q2 false false _ rfl
  have hV : Hid (bareB false true false false false false false false h n = ((false || h.o == 0) && (true || (h.x : Int) == 0) && (false || decide (h.s.toList = [])) && (false || !h.b) && (false || h.f == 0) && (false || (h.c1 == 0 && h.r1 == 0 && h.p1 == false && h.q1 == false)) && (false || (h.c2 == 0 && h.r2 == 0 && h.p2 == false && h.q2 == false)) && (false || n == 0))) := rfl
  have G0 : Hid (∀ a b t u, Gr w ((w.alloc (.cells a t)).alloc (.cells b u))) := fun a b t u => ((Gr.refl w).alloc _ _).alloc _ _
  generalize bareB false true false false false false false false h n = V at *
  generalize (h.c1 == 0 && h.r1 == 0 && h.p1 == false && h.q1 == false) = b1 at *
  generalize (h.c2 == 0 && h.r2 == 0 && h.p2 == false && h.q2 == false) = b2 at *
  obtain ⟨k, o, x, s, b, f, c1, r1, p1, q1, c2, r2, p2, q2⟩ := h
  simp only at *
  by_cases ho : o = 0
  rotate_left
  · have no : (o == 0) = false := by simpa using ho
    have HE : Hid (V = false) := by show _ = _; rw [hV.out]; simp [no]
    clear hV
    go_enter Tryz.func178, Tryz.ntmps178
    simp only [List.append_eq, List.cons_append, List.nil_append]
    go_wp21
    go_ret
    exact ⟨rBool HE.out.symm, G0.out _ _ _ _⟩
  subst ho
  by_cases hs : s.toList = []
  rotate_left
  · have ns : (s.toList == []) = false := by simpa using hs
    have HE : Hid (V = false) := by show _ = _; rw [hV.out]; simp [hs]
    clear hV
    go_enter Tryz.func178, Tryz.ntmps178
    simp only [List.append_eq, List.cons_append, List.nil_append]
    go_wp21
    go_ret
    exact ⟨rBool HE.out.symm, G0.out _ _ _ _⟩
  have ns : (s.toList == []) = true := by simpa using hs
  cases b
  rotate_left
  · skip
    have HE : Hid (V = false) := by show _ = _; rw [hV.out]; simp [hs]
    clear hV
    go_enter Tryz.func178, Tryz.ntmps178
    simp only [List.append_eq, List.cons_append, List.nil_append]
    go_wp21
    go_ret
    exact ⟨rBool HE.out.symm, G0.out _ _ _ _⟩
  by_cases hf : f = 0
  rotate_left
  · have nf : (f == 0) = false := by simpa using hf
    have HE : Hid (V = false) := by show _ = _; rw [hV.out]; simp [hs, nf]
    clear hV
    go_enter Tryz.func178, Tryz.ntmps178
    simp only [List.append_eq, List.cons_append, List.nil_append]
    go_wp21
    go_ret
    exact ⟨rBool HE.out.symm, G0.out _ _ _ _⟩
  subst hf
  cases b1
  · skip
    have HE : Hid (V = false) := by show _ = _; rw [hV.out]; simp [hs]
    clear hV
    go_enter Tryz.func178, Tryz.ntmps178
    simp only [List.append_eq, List.cons_append, List.nil_append]
    go_wp21
    go_ret
    exact ⟨rBool HE.out.symm, G0.out _ _ _ _⟩
  cases b2
  · skip
    have HE : Hid (V = false) := by show _ = _; rw [hV.out]; simp [hs]
    clear hV
    go_enter Tryz.func178, Tryz.ntmps178
    simp only [List.append_eq, List.cons_append, List.nil_append]
    go_wp21
    go_ret
    exact ⟨rBool HE.out.symm, G0.out _ _ _ _⟩
  by_cases hn : n = 0
  rotate_left
  · have nn : ((n : Int) == 0) = false := by simp; exact hn
    have HE : Hid (V = false) := by show _ = _; rw [hV.out]; simp [hs, hn]
    clear hV
    go_enter Tryz.func178, Tryz.ntmps178
    simp only [List.append_eq, List.cons_append, List.nil_append]
    go_wp21
    go_ret
    exact ⟨rBool HE.out.symm, G0.out _ _ _ _⟩
  subst hn
  have HE : Hid (V = true) := by show _ = _; rw [hV.out]; simp [hs]
  clear hV
  go_enter Tryz.func178, Tryz.ntmps178
  simp only [List.append_eq, List.cons_append, List.nil_append]
  go_wp21
  go_ret
  exact ⟨rBool HE.out.symm, G0.out _ _ _ _⟩
end Go.Proofs.YtbkcebbddhaifaaGreatDoor
namespace Go.Proofs.YtbkcebbddhaifaaGreatDoor
open Go.RowKit

theorem and_4_1 : bits .and .i64 4 1 = 0 := by kernel_rfl
theorem and_4_2 : bits .and .i64 4 2 = 0 := by kernel_rfl
theorem and_4_4 : bits .and .i64 4 4 = 4 := by kernel_rfl
theorem and_4_8 : bits .and .i64 4 8 = 0 := by kernel_rfl
theorem and_4_16 : bits .and .i64 4 16 = 0 := by kernel_rfl
theorem and_4_32 : bits .and .i64 4 32 = 0 := by kernel_rfl
theorem and_4_64 : bits .and .i64 4 64 = 0 := by kernel_rfl
theorem and_4_128 : bits .and .i64 4 128 = 0 := by kernel_rfl
attribute [local go_sem] and_4_1 and_4_2 and_4_4 and_4_8 and_4_16 and_4_32 and_4_64 and_4_128
set_option maxRecDepth 20000 in
set_option maxHeartbeats 16000000 in
theorem rbare_4 (h : Hd) (n : Nat) (a : Option Addr) (c : Nat) (w : World) :
    Calls Tryz.prog 178 #[h.val (.slice a n c), .int .i64 4] w fun e w' => e = .returned (.bool (bareB false false true false false false false false h n)) ∧ Gr w w' := by
  have e1 := eql_ref h.c1 h.r1 0 0 h.p1 h.q1 false false _ rfl
  have e2 := eql_ref h.c2 h.r2 0 0 h.p2 h.q2 false false _ rfl
  have hV : Hid (bareB false false true false false false false false h n = ((false || h.o == 0) && (false || (h.x : Int) == 0) && (true || decide (h.s.toList = [])) && (false || !h.b) && (false || h.f == 0) && (false || (h.c1 == 0 && h.r1 == 0 && h.p1 == false && h.q1 == false)) && (false || (h.c2 == 0 && h.r2 == 0 && h.p2 == false && h.q2 == false)) && (false || n == 0))) := rfl
  have G0 : Hid (∀ a b t u, Gr w ((w.alloc (.cells a t)).alloc (.cells b u))) := fun a b t u => ((Gr.refl w).alloc _ _).alloc _ _
  generalize bareB false false true false false false false false h n = V at *
  generalize (h.c1 == 0 && h.r1 == 0 && h.p1 == false && h.q1 == false) = b1 at *
  generalize (h.c2 == 0 && h.r2 == 0 && h.p2 == false && h.q2 == false) = b2 at *
  obtain ⟨k, o, x, s, b, f, c1, r1, p1, q1, c2, r2, p2, q2⟩ := h
  simp only at *
  by_cases ho : o = 0
  rotate_left
  · have no : (o == 0) = false := by simpa using ho
    have HE : Hid (V = false) := by show _ = _; rw [hV.out]; simp [no]
    clear hV
    go_enter Tryz.func178, Tryz.ntmps178
    simp only [List.append_eq, List.cons_append, List.nil_append]
    go_wp21
    go_ret
    exact ⟨rBool HE.out.symm, G0.out _ _ _ _⟩
  subst ho
  by_cases hx : x = 0
  rotate_left
  · have nx : ((x : Int) == 0) = false := by simp; exact hx
    have HE : Hid (V = false) := by show _ = _; rw [hV.out]; simp [hx]
    clear hV
    go_enter Tryz.func178, Tryz.ntmps178
    simp only [List.append_eq, List.cons_append, List.nil_append]
    go_wp21
    go_ret
    exact ⟨rBool HE.out.symm, G0.out _ _ _ _⟩
  subst hx
  cases b
  rotate_left
  · skip
    have HE : Hid (V = false) := by show _ = _; rw [hV.out]; simp
    clear hV
    go_enter Tryz.func178, Tryz.ntmps178
    simp only [List.append_eq, List.cons_append, List.nil_append]
    go_wp21
    go_ret
    exact ⟨rBool HE.out.symm, G0.out _ _ _ _⟩
  by_cases hf : f = 0
  rotate_left
  · have nf : (f == 0) = false := by simpa using hf
    have HE : Hid (V = false) := by show _ = _; rw [hV.out]; simp [nf]
    clear hV
    go_enter Tryz.func178, Tryz.ntmps178
    simp only [List.append_eq, List.cons_append, List.nil_append]
    go_wp21
    go_ret
    exact ⟨rBool HE.out.symm, G0.out _ _ _ _⟩
  subst hf
  cases b1
  · skip
    have HE : Hid (V = false) := by show _ = _; rw [hV.out]; simp
    clear hV
    go_enter Tryz.func178, Tryz.ntmps178
    simp only [List.append_eq, List.cons_append, List.nil_append]
    go_wp21
    go_ret
    exact ⟨rBool HE.out.symm, G0.out _ _ _ _⟩
  cases b2
  · skip
    have HE : Hid (V = false) := by show _ = _; rw [hV.out]; simp
    clear hV
    go_enter Tryz.func178, Tryz.ntmps178
    simp only [List.append_eq, List.cons_append, List.nil_append]
    go_wp21
    go_ret
    exact ⟨rBool HE.out.symm, G0.out _ _ _ _⟩
  by_cases hn : n = 0
  rotate_left
  · have nn : ((n : Int) == 0) = false := by simp; exact hn
    have HE : Hid (V = false) := by show _ = _; rw [hV.out]; simp [hn]
    clear hV
    go_enter Tryz.func178, Tryz.ntmps178
    simp only [List.append_eq, List.cons_append, List.nil_append]
    go_wp21
    go_ret
    exact ⟨rBool HE.out.symm, G0.out _ _ _ _⟩
  subst hn
  have HE : Hid (V = true) := by show _ = _; rw [hV.out]; simp
  clear hV
  go_enter Tryz.func178, Tryz.ntmps178
  simp only [List.append_eq, List.cons_append, List.nil_append]
  go_wp21
  go_ret
  exact ⟨rBool HE.out.symm, G0.out _ _ _ _⟩
end Go.Proofs.YtbkcebbddhaifaaGreatDoor
namespace Go.Proofs.YtbkcebbddhaifaaGreatDoor
open Go.RowKit

theorem and_8_1 : bits .and .i64 8 1 = 0 := by kernel_rfl
theorem and_8_2 : bits .and .i64 8 2 = 0 := by kernel_rfl
theorem and_8_4 : bits .and .i64 8 4 = 0 := by kernel_rfl
theorem and_8_8 : bits .and .i64 8 8 = 8 := by kernel_rfl
theorem and_8_16 : bits .and .i64 8 16 = 0 := by kernel_rfl
theorem and_8_32 : bits .and .i64 8 32 = 0 := by kernel_rfl
theorem and_8_64 : bits .and .i64 8 64 = 0 := by kernel_rfl
theorem and_8_128 : bits .and .i64 8 128 = 0 := by kernel_rfl
attribute [local go_sem] and_8_1 and_8_2 and_8_4 and_8_8 and_8_16 and_8_32 and_8_64 and_8_128
set_option maxRecDepth 20000 in
set_option maxHeartbeats 16000000 in
theorem rbare_8 (h : Hd) (n : Nat) (a : Option Addr) (c : Nat) (w : World) :
    Calls Tryz.prog 178 #[h.val (.slice a n c), .int .i64 8] w fun e w' => e = .returned (.bool (bareB false false false true false false false false h n)) ∧ Gr w w' := by
  have e1 := eql_ref h.c1 h.r1 0 0 h.p1 h.q1 false false _ rfl
  have e2 := eql_ref h.c2 h.r2 0 0 h.p2 h.q2 false false _ rfl
  have hV : Hid (bareB false false false true false false false false h n = ((false || h.o == 0) && (false || (h.x : Int) == 0) && (false || decide (h.s.toList = [])) && (true || !h.b) && (false || h.f == 0) && (false || (h.c1 == 0 && h.r1 == 0 && h.p1 == false && h.q1 == false)) && (false || (h.c2 == 0 && h.r2 == 0 && h.p2 == false && h.q2 == false)) && (false || n == 0))) := rfl
  have G0 : Hid (∀ a b t u, Gr w ((w.alloc (.cells a t)).alloc (.cells b u))) := fun a b t u => ((Gr.refl w).alloc _ _).alloc _ _
  generalize bareB false false false true false false false false h n = V at *
  generalize (h.c1 == 0 && h.r1 == 0 && h.p1 == false && h.q1 == false) = b1 at *
  generalize (h.c2 == 0 && h.r2 == 0 && h.p2 == false && h.q2 == false) = b2 at *
  obtain ⟨k, o, x, s, b, f, c1, r1, p1, q1, c2, r2, p2, q2⟩ := h
  simp only at *
  by_cases ho : o = 0
  rotate_left
  · have no : (o == 0) = false := by simpa using ho
    have HE : Hid (V = false) := by show _ = _; rw [hV.out]; simp [no]
    clear hV
    go_enter Tryz.func178, Tryz.ntmps178
    simp only [List.append_eq, List.cons_append, List.nil_append]
    go_wp21
    go_ret
    exact ⟨rBool HE.out.symm, G0.out _ _ _ _⟩
  subst ho
  by_cases hx : x = 0
  rotate_left
  · have nx : ((x : Int) == 0) = false := by simp; exact hx
    have HE : Hid (V = false) := by show _ = _; rw [hV.out]; simp [hx]
    clear hV
    go_enter Tryz.func178, Tryz.ntmps178
    simp only [List.append_eq, List.cons_append, List.nil_append]
    go_wp21
    go_ret
    exact ⟨rBool HE.out.symm, G0.out _ _ _ _⟩
  subst hx
  by_cases hs : s.toList = []
  rotate_left
  · have ns : (s.toList == []) = false := by simpa using hs
    have HE : Hid (V = false) := by show _ = _; rw [hV.out]; simp [hs]
    clear hV
    go_enter Tryz.func178, Tryz.ntmps178
    simp only [List.append_eq, List.cons_append, List.nil_append]
    go_wp21
    go_ret
    exact ⟨rBool HE.out.symm, G0.out _ _ _ _⟩
  have ns : (s.toList == []) = true := by simpa using hs
  by_cases hf : f = 0
  rotate_left
  · have nf : (f == 0) = false := by simpa using hf
    have HE : Hid (V = false) := by show _ = _; rw [hV.out]; simp [hs, nf]
    clear hV
    go_enter Tryz.func178, Tryz.ntmps178
    simp only [List.append_eq, List.cons_append, List.nil_append]
    go_wp21
    go_ret
    exact ⟨rBool HE.out.symm, G0.out _ _ _ _⟩
  subst hf
  cases b1
  · skip
    have HE : Hid (V = false) := by show _ = _; rw [hV.out]; simp [hs]
    clear hV
    go_enter Tryz.func178, Tryz.ntmps178
    simp only [List.append_eq, List.cons_append, List.nil_append]
    go_wp21
    go_ret
    exact ⟨rBool HE.out.symm, G0.out _ _ _ _⟩
  cases b2
  · skip
    have HE : Hid (V = false) := by show _ = _; rw [hV.out]; simp [hs]
    clear hV
    go_enter Tryz.func178, Tryz.ntmps178
    simp only [List.append_eq, List.cons_append, List.nil_append]
    go_wp21
    go_ret
    exact ⟨rBool HE.out.symm, G0.out _ _ _ _⟩
  by_cases hn : n = 0
  rotate_left
  · have nn : ((n : Int) == 0) = false := by simp; exact hn
    have HE : Hid (V = false) := by show _ = _; rw [hV.out]; simp [hs, hn]
    clear hV
    go_enter Tryz.func178, Tryz.ntmps178
    simp only [List.append_eq, List.cons_append, List.nil_append]
    go_wp21
    go_ret
    exact ⟨rBool HE.out.symm, G0.out _ _ _ _⟩
  subst hn
  have HE : Hid (V = true) := by show _ = _; rw [hV.out]; simp [hs]
  clear hV
  go_enter Tryz.func178, Tryz.ntmps178
  simp only [List.append_eq, List.cons_append, List.nil_append]
  go_wp21
  go_ret
  exact ⟨rBool HE.out.symm, G0.out _ _ _ _⟩
end Go.Proofs.YtbkcebbddhaifaaGreatDoor
namespace Go.Proofs.YtbkcebbddhaifaaGreatDoor
open Go.RowKit

theorem and_16_1 : bits .and .i64 16 1 = 0 := by kernel_rfl
theorem and_16_2 : bits .and .i64 16 2 = 0 := by kernel_rfl
theorem and_16_4 : bits .and .i64 16 4 = 0 := by kernel_rfl
theorem and_16_8 : bits .and .i64 16 8 = 0 := by kernel_rfl
theorem and_16_16 : bits .and .i64 16 16 = 16 := by kernel_rfl
theorem and_16_32 : bits .and .i64 16 32 = 0 := by kernel_rfl
theorem and_16_64 : bits .and .i64 16 64 = 0 := by kernel_rfl
theorem and_16_128 : bits .and .i64 16 128 = 0 := by kernel_rfl
attribute [local go_sem] and_16_1 and_16_2 and_16_4 and_16_8 and_16_16 and_16_32 and_16_64 and_16_128
set_option maxRecDepth 20000 in
set_option maxHeartbeats 16000000 in
theorem rbare_16 (h : Hd) (n : Nat) (a : Option Addr) (c : Nat) (w : World) :
    Calls Tryz.prog 178 #[h.val (.slice a n c), .int .i64 16] w fun e w' => e = .returned (.bool (bareB false false false false true false false false h n)) ∧ Gr w w' := by
  have e1 := eql_ref h.c1 h.r1 0 0 h.p1 h.q1 false false _ rfl
  have e2 := eql_ref h.c2 h.r2 0 0 h.p2 h.q2 false false _ rfl
  have hV : Hid (bareB false false false false true false false false h n = ((false || h.o == 0) && (false || (h.x : Int) == 0) && (false || decide (h.s.toList = [])) && (false || !h.b) && (true || h.f == 0) && (false || (h.c1 == 0 && h.r1 == 0 && h.p1 == false && h.q1 == false)) && (false || (h.c2 == 0 && h.r2 == 0 && h.p2 == false && h.q2 == false)) && (false || n == 0))) := rfl
  have G0 : Hid (∀ a b t u, Gr w ((w.alloc (.cells a t)).alloc (.cells b u))) := fun a b t u => ((Gr.refl w).alloc _ _).alloc _ _
  generalize bareB false false false false true false false false h n = V at *
  generalize (h.c1 == 0 && h.r1 == 0 && h.p1 == false && h.q1 == false) = b1 at *
  generalize (h.c2 == 0 && h.r2 == 0 && h.p2 == false && h.q2 == false) = b2 at *
  obtain ⟨k, o, x, s, b, f, c1, r1, p1, q1, c2, r2, p2, q2⟩ := h
  simp only at *
  by_cases ho : o = 0
  rotate_left
  · have no : (o == 0) = false := by simpa using ho
    have HE : Hid (V = false) := by show _ = _; rw [hV.out]; simp [no]
    clear hV
    go_enter Tryz.func178, Tryz.ntmps178
    simp only [List.append_eq, List.cons_append, List.nil_append]
    go_wp21
    go_ret
    exact ⟨rBool HE.out.symm, G0.out _ _ _ _⟩
  subst ho
  by_cases hx : x = 0
  rotate_left
  · have nx : ((x : Int) == 0) = false := by simp; exact hx
    have HE : Hid (V = false) := by show _ = _; rw [hV.out]; simp [hx]
    clear hV
    go_enter Tryz.func178, Tryz.ntmps178
    simp only [List.append_eq, List.cons_append, List.nil_append]
    go_wp21
    go_ret
    exact ⟨rBool HE.out.symm, G0.out _ _ _ _⟩
  subst hx
  by_cases hs : s.toList = []
  rotate_left
  · have ns : (s.toList == []) = false := by simpa using hs
    have HE : Hid (V = false) := by show _ = _; rw [hV.out]; simp [hs]
    clear hV
    go_enter Tryz.func178, Tryz.ntmps178
    simp only [List.append_eq, List.cons_append, List.nil_append]
    go_wp21
    go_ret
    exact ⟨rBool HE.out.symm, G0.out _ _ _ _⟩
  have ns : (s.toList == []) = true := by simpa using hs
  cases b
  rotate_left
  · skip
    have HE : Hid (V = false) := by show _ = _; rw [hV.out]; simp [hs]
    clear hV
    go_enter Tryz.func178, Tryz.ntmps178
    simp only [List.append_eq, List.cons_append, List.nil_append]
    go_wp21
    go_ret
    exact ⟨rBool HE.out.symm, G0.out _ _ _ _⟩
  cases b1
  · skip
    have HE : Hid (V = false) := by show _ = _; rw [hV.out]; simp [hs]
    clear hV
    go_enter Tryz.func178, Tryz.ntmps178
    simp only [List.append_eq, List.cons_append, List.nil_append]
    go_wp21
    go_ret
    exact ⟨rBool HE.out.symm, G0.out _ _ _ _⟩
  cases b2
  · skip
    have HE : Hid (V = false) := by show _ = _; rw [hV.out]; simp [hs]
    clear hV
    go_enter Tryz.func178, Tryz.ntmps178
    simp only [List.append_eq, List.cons_append, List.nil_append]
    go_wp21
    go_ret
    exact ⟨rBool HE.out.symm, G0.out _ _ _ _⟩
  by_cases hn : n = 0
  rotate_left
  · have nn : ((n : Int) == 0) = false := by simp; exact hn
    have HE : Hid (V = false) := by show _ = _; rw [hV.out]; simp [hs, hn]
    clear hV
    go_enter Tryz.func178, Tryz.ntmps178
    simp only [List.append_eq, List.cons_append, List.nil_append]
    go_wp21
    go_ret
    exact ⟨rBool HE.out.symm, G0.out _ _ _ _⟩
  subst hn
  have HE : Hid (V = true) := by show _ = _; rw [hV.out]; simp [hs]
  clear hV
  go_enter Tryz.func178, Tryz.ntmps178
  simp only [List.append_eq, List.cons_append, List.nil_append]
  go_wp21
  go_ret
  exact ⟨rBool HE.out.symm, G0.out _ _ _ _⟩
end Go.Proofs.YtbkcebbddhaifaaGreatDoor
namespace Go.Proofs.YtbkcebbddhaifaaGreatDoor
open Go.RowKit

theorem and_32_1 : bits .and .i64 32 1 = 0 := by kernel_rfl
theorem and_32_2 : bits .and .i64 32 2 = 0 := by kernel_rfl
theorem and_32_4 : bits .and .i64 32 4 = 0 := by kernel_rfl
theorem and_32_8 : bits .and .i64 32 8 = 0 := by kernel_rfl
theorem and_32_16 : bits .and .i64 32 16 = 0 := by kernel_rfl
theorem and_32_32 : bits .and .i64 32 32 = 32 := by kernel_rfl
theorem and_32_64 : bits .and .i64 32 64 = 0 := by kernel_rfl
theorem and_32_128 : bits .and .i64 32 128 = 0 := by kernel_rfl
attribute [local go_sem] and_32_1 and_32_2 and_32_4 and_32_8 and_32_16 and_32_32 and_32_64 and_32_128
set_option maxRecDepth 20000 in
set_option maxHeartbeats 16000000 in
theorem rbare_32 (h : Hd) (n : Nat) (a : Option Addr) (c : Nat) (w : World) :
    Calls Tryz.prog 178 #[h.val (.slice a n c), .int .i64 32] w fun e w' => e = .returned (.bool (bareB false false false false false true false false h n)) ∧ Gr w w' := by
  have e1 := eql_ref h.c1 h.r1 0 0 h.p1 h.q1 false false _ rfl
  have e2 := eql_ref h.c2 h.r2 0 0 h.p2 h.q2 false false _ rfl
  have hV : Hid (bareB false false false false false true false false h n = ((false || h.o == 0) && (false || (h.x : Int) == 0) && (false || decide (h.s.toList = [])) && (false || !h.b) && (false || h.f == 0) && (true || (h.c1 == 0 && h.r1 == 0 && h.p1 == false && h.q1 == false)) && (false || (h.c2 == 0 && h.r2 == 0 && h.p2 == false && h.q2 == false)) && (false || n == 0))) := rfl
  have G0 : Hid (∀ a b t u, Gr w ((w.alloc (.cells a t)).alloc (.cells b u))) := fun a b t u => ((Gr.refl w).alloc _ _).alloc _ _
  generalize bareB false false false false false true false false h n = V at *
  generalize (h.c1 == 0 && h.r1 == 0 && h.p1 == false && h.q1 == false) = b1 at *
  generalize (h.c2 == 0 && h.r2 == 0 && h.p2 == false && h.q2 == false) = b2 at *
  obtain ⟨k, o, x, s, b, f, c1, r1, p1, q1, c2, r2, p2, q2⟩ := h
  simp only at *
  by_cases ho : o = 0
  rotate_left
  · have no : (o == 0) = false := by simpa using ho
    have HE : Hid (V = false) := by show _ = _; rw [hV.out]; simp [no]
    clear hV
    go_enter Tryz.func178, Tryz.ntmps178
    simp only [List.append_eq, List.cons_append, List.nil_append]
    go_wp21
    go_ret
    exact ⟨rBool HE.out.symm, G0.out _ _ _ _⟩
  subst ho
  by_cases hx : x = 0
  rotate_left
  · have nx : ((x : Int) == 0) = false := by simp; exact hx
    have HE : Hid (V = false) := by show _ = _; rw [hV.out]; simp [hx]
    clear hV
    go_enter Tryz.func178, Tryz.ntmps178
    simp only [List.append_eq, List.cons_append, List.nil_append]
    go_wp21
    go_ret
    exact ⟨rBool HE.out.symm, G0.out _ _ _ _⟩
  subst hx
  by_cases hs : s.toList = []
  rotate_left
  · have ns : (s.toList == []) = false := by simpa using hs
    have HE : Hid (V = false) := by show _ = _; rw [hV.out]; simp [hs]
    clear hV
    go_enter Tryz.func178, Tryz.ntmps178
    simp only [List.append_eq, List.cons_append, List.nil_append]
    go_wp21
    go_ret
    exact ⟨rBool HE.out.symm, G0.out _ _ _ _⟩
  have ns : (s.toList == []) = true := by simpa using hs
  cases b
  rotate_left
  · skip
    have HE : Hid (V = false) := by show _ = _; rw [hV.out]; simp [hs]
    clear hV
    go_enter Tryz.func178, Tryz.ntmps178
    simp only [List.append_eq, List.cons_append, List.nil_append]
    go_wp21
    go_ret
    exact ⟨rBool HE.out.symm, G0.out _ _ _ _⟩
  by_cases hf : f = 0
  rotate_left
  · have nf : (f == 0) = false := by simpa using hf
    have HE : Hid (V = false) := by show _ = _; rw [hV.out]; simp [hs, nf]
    clear hV
    go_enter Tryz.func178, Tryz.ntmps178
    simp only [List.append_eq, List.cons_append, List.nil_append]
    go_wp21
    go_ret
    exact ⟨rBool HE.out.symm, G0.out _ _ _ _⟩
  subst hf
  cases b2
  · skip
    have HE : Hid (V = false) := by show _ = _; rw [hV.out]; simp [hs]
    clear hV
    go_enter Tryz.func178, Tryz.ntmps178
    simp only [List.append_eq, List.cons_append, List.nil_append]
    go_wp21
    go_ret
    exact ⟨rBool HE.out.symm, G0.out _ _ _ _⟩
  by_cases hn : n = 0
  rotate_left
  · have nn : ((n : Int) == 0) = false := by simp; exact hn
    have HE : Hid (V = false) := by show _ = _; rw [hV.out]; simp [hs, hn]
    clear hV
    go_enter Tryz.func178, Tryz.ntmps178
    simp only [List.append_eq, List.cons_append, List.nil_append]
    go_wp21
    go_ret
    exact ⟨rBool HE.out.symm, G0.out _ _ _ _⟩
  subst hn
  have HE : Hid (V = true) := by show _ = _; rw [hV.out]; simp [hs]
  clear hV
  go_enter Tryz.func178, Tryz.ntmps178
  simp only [List.append_eq, List.cons_append, List.nil_append]
  go_wp21
  go_ret
  exact ⟨rBool HE.out.symm, G0.out _ _ _ _⟩
end Go.Proofs.YtbkcebbddhaifaaGreatDoor
namespace Go.Proofs.YtbkcebbddhaifaaGreatDoor
open Go.RowKit

theorem and_96_1 : bits .and .i64 96 1 = 0 := by kernel_rfl
theorem and_96_2 : bits .and .i64 96 2 = 0 := by kernel_rfl
theorem and_96_4 : bits .and .i64 96 4 = 0 := by kernel_rfl
theorem and_96_8 : bits .and .i64 96 8 = 0 := by kernel_rfl
theorem and_96_16 : bits .and .i64 96 16 = 0 := by kernel_rfl
theorem and_96_32 : bits .and .i64 96 32 = 32 := by kernel_rfl
theorem and_96_64 : bits .and .i64 96 64 = 64 := by kernel_rfl
theorem and_96_128 : bits .and .i64 96 128 = 0 := by kernel_rfl
attribute [local go_sem] and_96_1 and_96_2 and_96_4 and_96_8 and_96_16 and_96_32 and_96_64 and_96_128
set_option maxRecDepth 20000 in
set_option maxHeartbeats 16000000 in
theorem rbare_96 (h : Hd) (n : Nat) (a : Option Addr) (c : Nat) (w : World) :
    Calls Tryz.prog 178 #[h.val (.slice a n c), .int .i64 96] w fun e w' => e = .returned (.bool (bareB false false false false false true true false h n)) ∧ Gr w w' := by
  have e1 := eql_ref h.c1 h.r1 0 0 h.p1 h.q1 false false _ rfl
  have e2 := eql_ref h.c2 h.r2 0 0 h.p2 h.q2 false false _ rfl
  have hV : Hid (bareB false false false false false true true false h n = ((false || h.o == 0) && (false || (h.x : Int) == 0) && (false || decide (h.s.toList = [])) && (false || !h.b) && (false || h.f == 0) && (true || (h.c1 == 0 && h.r1 == 0 && h.p1 == false && h.q1 == false)) && (true || (h.c2 == 0 && h.r2 == 0 && h.p2 == false && h.q2 == false)) && (false || n == 0))) := rfl
  have G0 : Hid (∀ a b t u, Gr w ((w.alloc (.cells a t)).alloc (.cells b u))) := fun a b t u => ((Gr.refl w).alloc _ _).alloc _ _
  generalize bareB false false false false false true true false h n = V at *
  generalize (h.c1 == 0 && h.r1 == 0 && h.p1 == false && h.q1 == false) = b1 at *
  generalize (h.c2 == 0 && h.r2 == 0 && h.p2 == false && h.q2 == false) = b2 at *
  obtain ⟨k, o, x, s, b, f, c1, r1, p1, q1, c2, r2, p2, q2⟩ := h
  simp only at *
  by_cases ho : o = 0
  rotate_left
  · have no : (o == 0) = false := by simpa using ho
    have HE : Hid (V = false) := by show _ = _; rw [hV.out]; simp [no]
    clear hV
    go_enter Tryz.func178, Tryz.ntmps178
    simp only [List.append_eq, List.cons_append, List.nil_append]
    go_wp21
    go_ret
    exact ⟨rBool HE.out.symm, G0.out _ _ _ _⟩
  subst ho
  by_cases hx : x = 0
  rotate_left
  · have nx : ((x : Int) == 0) = false := by simp; exact hx
    have HE : Hid (V = false) := by show _ = _; rw [hV.out]; simp [hx]
    clear hV
    go_enter Tryz.func178, Tryz.ntmps178
    simp only [List.append_eq, List.cons_append, List.nil_append]
    go_wp21
    go_ret
    exact ⟨rBool HE.out.symm, G0.out _ _ _ _⟩
  subst hx
  by_cases hs : s.toList = []
  rotate_left
  · have ns : (s.toList == []) = false := by simpa using hs
    have HE : Hid (V = false) := by show _ = _; rw [hV.out]; simp [hs]
    clear hV
    go_enter Tryz.func178, Tryz.ntmps178
    simp only [List.append_eq, List.cons_append, List.nil_append]
    go_wp21
    go_ret
    exact ⟨rBool HE.out.symm, G0.out _ _ _ _⟩
  have ns : (s.toList == []) = true := by simpa using hs
  cases b
  rotate_left
  · skip
    have HE : Hid (V = false) := by show _ = _; rw [hV.out]; simp [hs]
    clear hV
    go_enter Tryz.func178, Tryz.ntmps178
    simp only [List.append_eq, List.cons_append, List.nil_append]
    go_wp21
    go_ret
    exact ⟨rBool HE.out.symm, G0.out _ _ _ _⟩
  by_cases hf : f = 0
  rotate_left
  · have nf : (f == 0) = false := by simpa using hf
    have HE : Hid (V = false) := by show _ = _; rw [hV.out]; simp [hs, nf]
    clear hV
    go_enter Tryz.func178, Tryz.ntmps178
    simp only [List.append_eq, List.cons_append, List.nil_append]
    go_wp21
    go_ret
    exact ⟨rBool HE.out.symm, G0.out _ _ _ _⟩
  subst hf
  by_cases hn : n = 0
  rotate_left
  · have nn : ((n : Int) == 0) = false := by simp; exact hn
    have HE : Hid (V = false) := by show _ = _; rw [hV.out]; simp [hs, hn]
    clear hV
    go_enter Tryz.func178, Tryz.ntmps178
    simp only [List.append_eq, List.cons_append, List.nil_append]
    go_wp21
    go_ret
    exact ⟨rBool HE.out.symm, G0.out _ _ _ _⟩
  subst hn
  have HE : Hid (V = true) := by show _ = _; rw [hV.out]; simp [hs]
  clear hV
  go_enter Tryz.func178, Tryz.ntmps178
  simp only [List.append_eq, List.cons_append, List.nil_append]
  go_wp21
  go_ret
  exact ⟨rBool HE.out.symm, G0.out _ _ _ _⟩
end Go.Proofs.YtbkcebbddhaifaaGreatDoor
namespace Go.Proofs.YtbkcebbddhaifaaGreatDoor
open Go.RowKit

theorem and_129_1 : bits .and .i64 129 1 = 1 := by kernel_rfl
theorem and_129_2 : bits .and .i64 129 2 = 0 := by kernel_rfl
theorem and_129_4 : bits .and .i64 129 4 = 0 := by kernel_rfl
theorem and_129_8 : bits .and .i64 129 8 = 0 := by kernel_rfl
theorem and_129_16 : bits .and .i64 129 16 = 0 := by kernel_rfl
theorem and_129_32 : bits .and .i64 129 32 = 0 := by kernel_rfl
theorem and_129_64 : bits .and .i64 129 64 = 0 := by kernel_rfl
theorem and_129_128 : bits .and .i64 129 128 = 128 := by kernel_rfl
attribute [local go_sem] and_129_1 and_129_2 and_129_4 and_129_8 and_129_16 and_129_32 and_129_64 and_129_128
set_option maxRecDepth 20000 in
set_option maxHeartbeats 16000000 in
theorem rbare_129 (h : Hd) (n : Nat) (a : Option Addr) (c : Nat) (w : World) :
    Calls Tryz.prog 178 #[h.val (.slice a n c), .int .i64 129] w fun e w' => e = .returned (.bool (bareB true false false false false false false true h n)) ∧ Gr w w' := by
  have e1 := eql_ref h.c1 h.r1 0 0 h.p1 h.q1 false false _ rfl
  have e2 := eql_ref h.c2 h.r2 0 0 h.p2 h.q2 false false _ rfl
  have hV : Hid (bareB true false false false false false false true h n = ((true || h.o == 0) && (false || (h.x : Int) == 0) && (false || decide (h.s.toList = [])) && (false || !h.b) && (false || h.f == 0) && (false || (h.c1 == 0 && h.r1 == 0 && h.p1 == false && h.q1 == false)) && (false || (h.c2 == 0 && h.r2 == 0 && h.p2 == false && h.q2 == false)) && (true || n == 0))) := rfl
  have G0 : Hid (∀ a b t u, Gr w ((w.alloc (.cells a t)).alloc (.cells b u))) := fun a b t u => ((Gr.refl w).alloc _ _).alloc _ _
  generalize bareB true false false false false false false true h n = V at *
  generalize (h.c1 == 0 && h.r1 == 0 && h.p1 == false && h.q1 == false) = b1 at *
  generalize (h.c2 == 0 && h.r2 == 0 && h.p2 == false && h.q2 == false) = b2 at *
  obtain ⟨k, o, x, s, b, f, c1, r1, p1, q1, c2, r2, p2, q2⟩ := h
  simp only at *
  by_cases hx : x = 0
  rotate_left
  · have nx : ((x : Int) == 0) = false := by simp; exact hx
    have HE : Hid (V = false) := by show _ = _; rw [hV.out]; simp [hx]
    clear hV
    go_enter Tryz.func178, Tryz.ntmps178
    simp only [List.append_eq, List.cons_append, List.nil_append]
    go_wp21
    go_ret
    exact ⟨rBool HE.out.symm, G0.out _ _ _ _⟩
  subst hx
  by_cases hs : s.toList = []
  rotate_left
  · have ns : (s.toList == []) = false := by simpa using hs
    have HE : Hid (V = false) := by show _ = _; rw [hV.out]; simp [hs]
    clear hV
    go_enter Tryz.func178, Tryz.ntmps178
    simp only [List.append_eq, List.cons_append, List.nil_append]
    go_wp21
    go_ret
    exact ⟨rBool HE.out.symm, G0.out _ _ _ _⟩
  have ns : (s.toList == []) = true := by simpa using hs
  cases b
  rotate_left
  · skip
    have HE : Hid (V = false) := by show _ = _; rw [hV.out]; simp [hs]
    clear hV
    go_enter Tryz.func178, Tryz.ntmps178
    simp only [List.append_eq, List.cons_append, List.nil_append]
    go_wp21
    go_ret
    exact ⟨rBool HE.out.symm, G0.out _ _ _ _⟩
  by_cases hf : f = 0
  rotate_left
  · have nf : (f == 0) = false := by simpa using hf
    have HE : Hid (V = false) := by show _ = _; rw [hV.out]; simp [hs, nf]
    clear hV
    go_enter Tryz.func178, Tryz.ntmps178
    simp only [List.append_eq, List.cons_append, List.nil_append]
    go_wp21
    go_ret
    exact ⟨rBool HE.out.symm, G0.out _ _ _ _⟩
  subst hf
  cases b1
  · skip
    have HE : Hid (V = false) := by show _ = _; rw [hV.out]; simp [hs]
    clear hV
    go_enter Tryz.func178, Tryz.ntmps178
    simp only [List.append_eq, List.cons_append, List.nil_append]
    go_wp21
    go_ret
    exact ⟨rBool HE.out.symm, G0.out _ _ _ _⟩
  cases b2
  · skip
    have HE : Hid (V = false) := by show _ = _; rw [hV.out]; simp [hs]
    clear hV
    go_enter Tryz.func178, Tryz.ntmps178
    simp only [List.append_eq, List.cons_append, List.nil_append]
    go_wp21
    go_ret
    exact ⟨rBool HE.out.symm, G0.out _ _ _ _⟩
  have HE : Hid (V = true) := by show _ = _; rw [hV.out]; simp [hs]
  clear hV
  go_enter Tryz.func178, Tryz.ntmps178
  simp only [List.append_eq, List.cons_append, List.nil_append]
  go_wp21
  go_ret
  exact ⟨rBool HE.out.symm, G0.out _ _ _ _⟩
end Go.Proofs.YtbkcebbddhaifaaGreatDoor
namespace Go.Proofs.YtbkcebbddhaifaaGreatDoor
open Go.RowKit

theorem and_132_1 : bits .and .i64 132 1 = 0 := by kernel_rfl
theorem and_132_2 : bits .and .i64 132 2 = 0 := by kernel_rfl
theorem and_132_4 : bits .and .i64 132 4 = 4 := by kernel_rfl
theorem and_132_8 : bits .and .i64 132 8 = 0 := by kernel_rfl
theorem and_132_16 : bits .and .i64 132 16 = 0 := by kernel_rfl
theorem and_132_32 : bits .and .i64 132 32 = 0 := by kernel_rfl
theorem and_132_64 : bits .and .i64 132 64 = 0 := by kernel_rfl
theorem and_132_128 : bits .and .i64 132 128 = 128 := by kernel_rfl
attribute [local go_sem] and_132_1 and_132_2 and_132_4 and_132_8 and_132_16 and_132_32 and_132_64 and_132_128
set_option maxRecDepth 20000 in
set_option maxHeartbeats 16000000 in
theorem rbare_132 (h : Hd) (n : Nat) (a : Option Addr) (c : Nat) (w : World) :
    Calls Tryz.prog 178 #[h.val (.slice a n c), .int .i64 132] w fun e w' => e = .returned (.bool (bareB false false true false false false false true h n)) ∧ Gr w w' := by
  have e1 := eql_ref h.c1 h.r1 0 0 h.p1 h.q1 false false _ rfl
  have e2 := eql_ref h.c2 h.r2 0 0 h.p2 h.q2 false false _ rfl
  have hV : Hid (bareB false false true false false false false true h n = ((false || h.o == 0) && (false || (h.x : Int) == 0) && (true || decide (h.s.toList = [])) && (false || !h.b) && (false || h.f == 0) && (false || (h.c1 == 0 && h.r1 == 0 && h.p1 == false && h.q1 == false)) && (false || (h.c2 == 0 && h.r2 == 0 && h.p2 == false && h.q2 == false)) && (true || n == 0))) := rfl
  have G0 : Hid (∀ a b t u, Gr w ((w.alloc (.cells a t)).alloc (.cells b u))) := fun a b t u => ((Gr.refl w).alloc _ _).alloc _ _
  generalize bareB false false true false false false false true h n = V at *
  generalize (h.c1 == 0 && h.r1 == 0 && h.p1 == false && h.q1 == false) = b1 at *
  generalize (h.c2 == 0 && h.r2 == 0 && h.p2 == false && h.q2 == false) = b2 at *
  obtain ⟨k, o, x, s, b, f, c1, r1, p1, q1, c2, r2, p2, q2⟩ := h
  simp only at *
  by_cases ho : o = 0
  rotate_left
  · have no : (o == 0) = false := by simpa using ho
    have HE : Hid (V = false) := by show _ = _; rw [hV.out]; simp [no]
    clear hV
    go_enter Tryz.func178, Tryz.ntmps178
    simp only [List.append_eq, List.cons_append, List.nil_append]
    go_wp21
    go_ret
    exact ⟨rBool HE.out.symm, G0.out _ _ _ _⟩
  subst ho
  by_cases hx : x = 0
  rotate_left
  · have nx : ((x : Int) == 0) = false := by simp; exact hx
    have HE : Hid (V = false) := by show _ = _; rw [hV.out]; simp [hx]
    clear hV
    go_enter Tryz.func178, Tryz.ntmps178
    simp only [List.append_eq, List.cons_append, List.nil_append]
    go_wp21
    go_ret
    exact ⟨rBool HE.out.symm, G0.out _ _ _ _⟩
  subst hx
  cases b
  rotate_left
  · skip
    have HE : Hid (V = false) := by show _ = _; rw [hV.out]; simp
    clear hV
    go_enter Tryz.func178, Tryz.ntmps178
    simp only [List.append_eq, List.cons_append, List.nil_append]
    go_wp21
    go_ret
    exact ⟨rBool HE.out.symm, G0.out _ _ _ _⟩
  by_cases hf : f = 0
  rotate_left
  · have nf : (f == 0) = false := by simpa using hf
    have HE : Hid (V = false) := by show _ = _; rw [hV.out]; simp [nf]
    clear hV
    go_enter Tryz.func178, Tryz.ntmps178
    simp only [List.append_eq, List.cons_append, List.nil_append]
    go_wp21
    go_ret
    exact ⟨rBool HE.out.symm, G0.out _ _ _ _⟩
  subst hf
  cases b1
  · skip
    have HE : Hid (V = false) := by show _ = _; rw [hV.out]; simp
    clear hV
    go_enter Tryz.func178, Tryz.ntmps178
    simp only [List.append_eq, List.cons_append, List.nil_append]
    go_wp21
    go_ret
    exact ⟨rBool HE.out.symm, G0.out _ _ _ _⟩
  cases b2
  · skip
    have HE : Hid (V = false) := by show _ = _; rw [hV.out]; simp
    clear hV
    go_enter Tryz.func178, Tryz.ntmps178
    simp only [List.append_eq, List.cons_append, List.nil_append]
    go_wp21
    go_ret
    exact ⟨rBool HE.out.symm, G0.out _ _ _ _⟩
  have HE : Hid (V = true) := by show _ = _; rw [hV.out]; simp
  clear hV
  go_enter Tryz.func178, Tryz.ntmps178
  simp only [List.append_eq, List.cons_append, List.nil_append]
  go_wp21
  go_ret
  exact ⟨rBool HE.out.symm, G0.out _ _ _ _⟩
end Go.Proofs.YtbkcebbddhaifaaGreatDoor
