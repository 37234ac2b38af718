/- The document's Same of nodes (quadrilleref12). -/
import Derived.Test.YtbkcebbddhaifaaGreatDoorB24
import Derived.Test.YtbkcebbddhaifaaGreatDoorB28
namespace Go.Proofs.YtbkcebbddhaifaaGreatDoor
open Go.RowKit Go.Lib

theorem neq_ref (a b c d : Int) (p q s t : Bool) (T : Bool) (hT : (a == c && b == d && p == s && q == t) = T) (w : World) : (binOp .neq 41 (.agg #[.int .i64 a, .int .i64 b, .bool p, .bool q]) (.agg #[.int .i64 c, .int .i64 d, .bool s, .bool t])).run Tryz.prog w = .ok (.bool (!T)) w := by
  subst hT
  by_cases h1 : a = c
  · subst h1
    by_cases h2 : b = d
    · subst h2
      cases p <;> cases q <;> cases s <;> cases t <;> simp [go_sem]
    · have h2' : (b == d) = false := by simpa using h2
      simp [go_sem, h2']
  · have h1' : (a == c) = false := by simpa using h1
    simp [go_sem, h1']
set_option maxRecDepth 20000 in
set_option maxHeartbeats 16000000 in
/-- The first look: fields or lengths differ. -/
theorem rsame_no (h g : Hd) (hx : h.x < 18446744073709551616) (gx : g.x < 18446744073709551616) (n m : Nat) (a b : Option Addr) (c d : Nat) (w : World) (hno : (hsame h g && n == m) = false) :
    Calls Tryz.prog 92 #[h.val (.slice a n c), g.val (.slice b m d)] w fun e w' => e = .returned (.bool false) ∧ Kp w w' Nul := by
  have H1 : Hid (∀ w, Calls Tryz.prog 133 #[.float .f64 h.x, .float .f64 g.x] w fun e w' => e = .returned (.bool (fsame h.x g.x)) ∧ w' = w) := rsameX_at h.x g.x hx gx
  have e1 := neq_ref h.c1 h.r1 g.c1 g.r1 h.p1 h.q1 g.p1 g.q1 _ rfl
  have e2 := neq_ref h.c2 h.r2 g.c2 g.r2 h.p2 h.q2 g.p2 g.q2 _ rfl
  have hV : Hid ((h.k == g.k && h.o == g.o && fsame h.x g.x && decide (h.s.toList = g.s.toList) && h.b == g.b && h.f == g.f &&
    (h.c1 == g.c1 && h.r1 == g.r1 && h.p1 == g.p1 && h.q1 == g.q1) && (h.c2 == g.c2 && h.r2 == g.r2 && h.p2 == g.p2 && h.q2 == g.q2) && n == m) = false) := hno
  generalize fsame h.x g.x = fs at *
  generalize (h.c1 == g.c1 && h.r1 == g.r1 && h.p1 == g.p1 && h.q1 == g.q1) = b1 at *
  generalize (h.c2 == g.c2 && h.r2 == g.r2 && h.p2 == g.p2 && h.q2 == g.q2) = b2 at *
  clear hx gx hno
  obtain ⟨k, o, x, s, b0, f, c1, r1, p1, q1, c2, r2, p2, q2⟩ := h
  obtain ⟨k', o', x', s', b', f', c1', r1', p1', q1', c2', r2', p2', q2'⟩ := g
  simp only at *
  have fin : Hid (∀ o1 o2, Kp w ((w.alloc o1).alloc o2) Nul) := fun o1 o2 => ((Kp.refl w Nul).alloc _).alloc _
  by_cases hk : k = k'
  rotate_left
  · have nk : (k == k') = false := by simpa using hk
    clear hV
    go_enter Tryz.func92, Tryz.ntmps92
    go_wp2_with fail
    refine (H1.out _).mono ?_
    rintro e w1 ⟨rfl, rfl⟩
    go_wp21
    go_ret
    exact ⟨rfl, fin.out _ _⟩
  subst hk
  by_cases ho : o = o'
  rotate_left
  · have no : (o == o') = false := by simpa using ho
    clear hV
    go_enter Tryz.func92, Tryz.ntmps92
    go_wp2_with fail
    refine (H1.out _).mono ?_
    rintro e w1 ⟨rfl, rfl⟩
    go_wp21
    go_ret
    exact ⟨rfl, fin.out _ _⟩
  subst ho
  cases fs
  · skip
    clear hV
    go_enter Tryz.func92, Tryz.ntmps92
    go_wp2_with fail
    refine (H1.out _).mono ?_
    rintro e w1 ⟨rfl, rfl⟩
    go_wp21
    go_ret
    exact ⟨rfl, fin.out _ _⟩
  by_cases hs : s.toList = s'.toList
  rotate_left
  · have ns : (s.toList == s'.toList) = false := by simpa using hs
    clear hV
    go_enter Tryz.func92, Tryz.ntmps92
    go_wp2_with fail
    refine (H1.out _).mono ?_
    rintro e w1 ⟨rfl, rfl⟩
    go_wp21
    go_ret
    exact ⟨rfl, fin.out _ _⟩
  have ns : (s.toList == s'.toList) = true := by simpa using hs
  by_cases hb : b0 = b'
  rotate_left
  · have nb : (b0 == b') = false := by simpa using hb
    clear hV
    go_enter Tryz.func92, Tryz.ntmps92
    go_wp2_with fail
    refine (H1.out _).mono ?_
    rintro e w1 ⟨rfl, rfl⟩
    go_wp21
    go_ret
    exact ⟨rfl, fin.out _ _⟩
  subst hb
  by_cases hf : f = f'
  rotate_left
  · have nf : (f == f') = false := by simpa using hf
    clear hV
    go_enter Tryz.func92, Tryz.ntmps92
    go_wp2_with fail
    refine (H1.out _).mono ?_
    rintro e w1 ⟨rfl, rfl⟩
    go_wp21
    go_ret
    exact ⟨rfl, fin.out _ _⟩
  subst hf
  cases b1
  · skip
    clear hV
    go_enter Tryz.func92, Tryz.ntmps92
    go_wp2_with fail
    refine (H1.out _).mono ?_
    rintro e w1 ⟨rfl, rfl⟩
    go_wp21
    go_ret
    exact ⟨rfl, fin.out _ _⟩
  cases b2
  · skip
    clear hV
    go_enter Tryz.func92, Tryz.ntmps92
    go_wp2_with fail
    refine (H1.out _).mono ?_
    rintro e w1 ⟨rfl, rfl⟩
    go_wp21
    go_ret
    exact ⟨rfl, fin.out _ _⟩
  by_cases hn : n = m
  rotate_left
  · have nn : ((n : Int) == (m : Int)) = false := by simp; omega
    clear hV
    go_enter Tryz.func92, Tryz.ntmps92
    go_wp2_with fail
    refine (H1.out _).mono ?_
    rintro e w1 ⟨rfl, rfl⟩
    go_wp21
    go_ret
    exact ⟨rfl, fin.out _ _⟩
  subst hn
  exact absurd hV.out (by simp [hs])
end Go.Proofs.YtbkcebbddhaifaaGreatDoor
