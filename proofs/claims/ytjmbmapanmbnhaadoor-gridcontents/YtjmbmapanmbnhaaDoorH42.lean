/- The document's bare (quadrilleref12), with the mask 129. The document's bare (quadrilleref12), with the mask 132. -/
import Derived.Test.YtjmbmapanmbnhaaDoorH28
namespace Go.Proofs.YtjmbmapanmbnhaaDoor
open Go.RowKit

theorem and_129_1 : bits .and .i64 129 1 = 1 := by kernel_rfl
theorem and_129_2 : bits .and .i64 129 2 = 0 := by kernel_rfl
theorem and_129_4 : bits .and .i64 129 4 = 0 := by kernel_rfl
theorem and_129_8 : bits .and .i64 129 8 = 0 := by kernel_rfl
theorem and_129_16 : bits .and .i64 129 16 = 0 := by kernel_rfl
theorem and_129_32 : bits .and .i64 129 32 = 0 := by kernel_rfl
theorem and_129_64 : bits .and .i64 129 64 = 0 := by kernel_rfl
theorem and_129_128 : bits .and .i64 129 128 = 128 := by kernel_rfl
attribute [local go_sem] and_129_1 and_129_2 and_129_4 and_129_8 and_129_16 and_129_32 and_129_64 and_129_128
set_option maxRecDepth 20000 in
set_option maxHeartbeats 16000000 in
theorem rbare_129 (h : Hd) (n : Nat) (a : Option Addr) (c : Nat) (w : World) :
    Calls Tryd.prog 127 #[h.val (.slice a n c), .int .i64 129] w fun e w' => e = .returned (.bool (bareB true false false false false false false true h n)) ∧ Gr w w' := by
  have e1 := eql_ref h.c1 h.r1 0 0 h.p1 h.q1 false false _ rfl
  have e2 := eql_ref h.c2 h.r2 0 0 h.p2 h.q2 false false _ rfl
  have hV : Hid (bareB true false false false false false false true h n = ((true || h.o == 0) && (false || (h.x : Int) == 0) && (false || decide (h.s.toList = [])) && (false || !h.b) && (false || h.f == 0) && (false || (h.c1 == 0 && h.r1 == 0 && h.p1 == false && h.q1 == false)) && (false || (h.c2 == 0 && h.r2 == 0 && h.p2 == false && h.q2 == false)) && (true || n == 0))) := rfl
  have G0 : Hid (∀ a b t u, Gr w ((w.alloc (.cells a t)).alloc (.cells b u))) := fun a b t u => ((Gr.refl w).alloc _ _).alloc _ _
  generalize bareB true false false false false false false true h n = V at *
  generalize (h.c1 == 0 && h.r1 == 0 && h.p1 == false && h.q1 == false) = b1 at *
  generalize (h.c2 == 0 && h.r2 == 0 && h.p2 == false && h.q2 == false) = b2 at *
  obtain ⟨k, o, x, s, b, f, c1, r1, p1, q1, c2, r2, p2, q2⟩ := h
  simp only at *
  by_cases hx : x = 0
  rotate_left
  · have nx : ((x : Int) == 0) = false := by simp; exact hx
    have HE : Hid (V = false) := by show _ = _; rw [hV.out]; simp [hx]
    clear hV
    go_enter Tryd.func127, Tryd.ntmps127
    simp only [List.append_eq, List.cons_append, List.nil_append]
    go_wp21
    go_ret
    exact ⟨rBool HE.out.symm, G0.out _ _ _ _⟩
  subst hx
  by_cases hs : s.toList = []
  rotate_left
  · have ns : (s.toList == []) = false := by simpa using hs
    have HE : Hid (V = false) := by show _ = _; rw [hV.out]; simp [hs]
    clear hV
    go_enter Tryd.func127, Tryd.ntmps127
    simp only [List.append_eq, List.cons_append, List.nil_append]
    go_wp21
    go_ret
    exact ⟨rBool HE.out.symm, G0.out _ _ _ _⟩
  have ns : (s.toList == []) = true := by simpa using hs
  cases b
  rotate_left
  · skip
    have HE : Hid (V = false) := by show _ = _; rw [hV.out]; simp [hs]
    clear hV
    go_enter Tryd.func127, Tryd.ntmps127
    simp only [List.append_eq, List.cons_append, List.nil_append]
    go_wp21
    go_ret
    exact ⟨rBool HE.out.symm, G0.out _ _ _ _⟩
  by_cases hf : f = 0
  rotate_left
  · have nf : (f == 0) = false := by simpa using hf
    have HE : Hid (V = false) := by show _ = _; rw [hV.out]; simp [hs, nf]
    clear hV
    go_enter Tryd.func127, Tryd.ntmps127
    simp only [List.append_eq, List.cons_append, List.nil_append]
    go_wp21
    go_ret
    exact ⟨rBool HE.out.symm, G0.out _ _ _ _⟩
  subst hf
  cases b1
  · skip
    have HE : Hid (V = false) := by show _ = _; rw [hV.out]; simp [hs]
    clear hV
    go_enter Tryd.func127, Tryd.ntmps127
    simp only [List.append_eq, List.cons_append, List.nil_append]
    go_wp21
    go_ret
    exact ⟨rBool HE.out.symm, G0.out _ _ _ _⟩
  cases b2
  · skip
    have HE : Hid (V = false) := by show _ = _; rw [hV.out]; simp [hs]
    clear hV
    go_enter Tryd.func127, Tryd.ntmps127
    simp only [List.append_eq, List.cons_append, List.nil_append]
    go_wp21
    go_ret
    exact ⟨rBool HE.out.symm, G0.out _ _ _ _⟩
  have HE : Hid (V = true) := by show _ = _; rw [hV.out]; simp [hs]
  clear hV
  go_enter Tryd.func127, Tryd.ntmps127
  simp only [List.append_eq, List.cons_append, List.nil_append]
  go_wp21
  go_ret
  exact ⟨rBool HE.out.symm, G0.out _ _ _ _⟩
end Go.Proofs.YtjmbmapanmbnhaaDoor
namespace Go.Proofs.YtjmbmapanmbnhaaDoor
open Go.RowKit

theorem and_132_1 : bits .and .i64 132 1 = 0 := by kernel_rfl
theorem and_132_2 : bits .and .i64 132 2 = 0 := by kernel_rfl
theorem and_132_4 : bits .and .i64 132 4 = 4 := by kernel_rfl
theorem and_132_8 : bits .and .i64 132 8 = 0 := by kernel_rfl
theorem and_132_16 : bits .and .i64 132 16 = 0 := by kernel_rfl
theorem and_132_32 : bits .and .i64 132 32 = 0 := by kernel_rfl
theorem and_132_64 : bits .and .i64 132 64 = 0 := by kernel_rfl
theorem and_132_128 : bits .and .i64 132 128 = 128 := by kernel_rfl
attribute [local go_sem] and_132_1 and_132_2 and_132_4 and_132_8 and_132_16 and_132_32 and_132_64 and_132_128
set_option maxRecDepth 20000 in
set_option maxHeartbeats 16000000 in
theorem rbare_132 (h : Hd) (n : Nat) (a : Option Addr) (c : Nat) (w : World) :
    Calls Tryd.prog 127 #[h.val (.slice a n c), .int .i64 132] w fun e w' => e = .returned (.bool (bareB false false true false false false false true h n)) ∧ Gr w w' := by
  have e1 := eql_ref h.c1 h.r1 0 0 h.p1 h.q1 false false _ rfl
  have e2 := eql_ref h.c2 h.r2 0 0 h.p2 h.q2 false false _ rfl
  have hV : Hid (bareB false false true false false false false true h n = ((false || h.o == 0) && (false || (h.x : Int) == 0) && (true || decide (h.s.toList = [])) && (false || !h.b) && (false || h.f == 0) && (false || (h.c1 == 0 && h.r1 == 0 && h.p1 == false && h.q1 == false)) && (false || (h.c2 == 0 && h.r2 == 0 && h.p2 == false && h.q2 == false)) && (true || n == 0))) := rfl
  have G0 : Hid (∀ a b t u, Gr w ((w.alloc (.cells a t)).alloc (.cells b u))) := fun a b t u => ((Gr.refl w).alloc _ _).alloc _ _
  generalize bareB false false true false false false false true h n = V at *
  generalize (h.c1 == 0 && h.r1 == 0 && h.p1 == false && h.q1 == false) = b1 at *
  generalize (h.c2 == 0 && h.r2 == 0 && h.p2 == false && h.q2 == false) = b2 at *
  obtain ⟨k, o, x, s, b, f, c1, r1, p1, q1, c2, r2, p2, q2⟩ := h
  simp only at *
  by_cases ho : o = 0
  rotate_left
  · have no : (o == 0) = false := by simpa using ho
    have HE : Hid (V = false) := by show _ = _; rw [hV.out]; simp [no]
    clear hV
    go_enter Tryd.func127, Tryd.ntmps127
    simp only [List.append_eq, List.cons_append, List.nil_append]
    go_wp21
    go_ret
    exact ⟨rBool HE.out.symm, G0.out _ _ _ _⟩
  subst ho
  by_cases hx : x = 0
  rotate_left
  · have nx : ((x : Int) == 0) = false := by simp; exact hx
    have HE : Hid (V = false) := by show _ = _; rw [hV.out]; simp [hx]
    clear hV
    go_enter Tryd.func127, Tryd.ntmps127
    simp only [List.append_eq, List.cons_append, List.nil_append]
    go_wp21
    go_ret
    exact ⟨rBool HE.out.symm, G0.out _ _ _ _⟩
  subst hx
  cases b
  rotate_left
  · skip
    have HE : Hid (V = false) := by show _ = _; rw [hV.out]; simp
    clear hV
    go_enter Tryd.func127, Tryd.ntmps127
    simp only [List.append_eq, List.cons_append, List.nil_append]
    go_wp21
    go_ret
    exact ⟨rBool HE.out.symm, G0.out _ _ _ _⟩
  by_cases hf : f = 0
  rotate_left
  · have nf : (f == 0) = false := by simpa using hf
    have HE : Hid (V = false) := by show _ = _; rw [hV.out]; simp [nf]
    clear hV
    go_enter Tryd.func127, Tryd.ntmps127
    simp only [List.append_eq, List.cons_append, List.nil_append]
    go_wp21
    go_ret
    exact ⟨rBool HE.out.symm, G0.out _ _ _ _⟩
  subst hf
  cases b1
  · skip
    have HE : Hid (V = false) := by show _ = _; rw [hV.out]; simp
    clear hV
    go_enter Tryd.func127, Tryd.ntmps127
    simp only [List.append_eq, List.cons_append, List.nil_append]
    go_wp21
    go_ret
    exact ⟨rBool HE.out.symm, G0.out _ _ _ _⟩
  cases b2
  · skip
    have HE : Hid (V = false) := by show _ = _; rw [hV.out]; simp
    clear hV
    go_enter Tryd.func127, Tryd.ntmps127
    simp only [List.append_eq, List.cons_append, List.nil_append]
    go_wp21
    go_ret
    exact ⟨rBool HE.out.symm, G0.out _ _ _ _⟩
  have HE : Hid (V = true) := by show _ = _; rw [hV.out]; simp
  clear hV
  go_enter Tryd.func127, Tryd.ntmps127
  simp only [List.append_eq, List.cons_append, List.nil_append]
  go_wp21
  go_ret
  exact ⟨rBool HE.out.symm, G0.out _ _ _ _⟩
end Go.Proofs.YtjmbmapanmbnhaaDoor
