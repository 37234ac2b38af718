/- The document's sameX (quadrilleref12), bits, number, Same, OfNumber (quadrilleref14). The document's Count, Depth and bare (quadrilleref12). The document's noValue and noNode (quadrilleref17). The document's well made nodes are the program's. No function of the program here. -/
import Derived.Test.YtbkcebbddhaifaaDoorB13
namespace Go.Proofs.YtbkcebbddhaifaaDoor
open Go.RowKit

/-- The same, as the document says it? -/
def vsame (v u : Vl) : Bool := v.k == u.k && (if v.k = 1 then fsame v.x u.x else if v.k = 2 then decide (v.s.toList = u.s.toList) else if v.k = 3 then v.b == u.b else if v.k = 4 then v.f == u.f else true)
end Go.Proofs.YtbkcebbddhaifaaDoor
namespace Go.Proofs.YtbkcebbddhaifaaDoor
open Go.RowKit

/-- All zero but what is let? -/
def bareB (o x s b f r t a : Bool) (h : Hd) (n : Nat) : Bool := (o || h.o == 0) && (x || (h.x : Int) == 0) && (s || decide (h.s.toList = [])) && (b || !h.b) && (f || h.f == 0) && (r || (h.c1 == 0 && h.r1 == 0 && h.p1 == false && h.q1 == false)) && (t || (h.c2 == 0 && h.r2 == 0 && h.p2 == false && h.q2 == false)) && (a || n == 0)
end Go.Proofs.YtbkcebbddhaifaaDoor
namespace Go.Proofs.YtbkcebbddhaifaaDoor
open Go.RowKit

theorem fsame_zero (x : Nat) : fsame x 0 = ((x : Int) == 0) := by
  unfold fsame
  have h0 : one 0 = 0 := rfl
  rw [h0, Bool.eq_iff_iff, decide_eq_true_eq, beq_iff_eq]
  unfold one
  split
  · rename_i h
    constructor
    · intro e; cases e
    · intro e
      have : x = 0 := by omega
      subst this
      exact absurd h (by decide)
  · omega
/-- All fields zero, no Args? -/
def noN (h : Hd) (n : Nat) : Bool := h.k == 0 && h.o == 0 && (h.x : Int) == 0 && decide (h.s.toList = []) && !h.b && h.f == 0 && (h.c1 == 0 && h.r1 == 0 && h.p1 == false && h.q1 == false) && (h.c2 == 0 && h.r2 == 0 && h.p2 == false && h.q2 == false) && n == 0
theorem noN_zero (t : Nd) : noN t.hd t.ts.length = zeroN t := by
  obtain ⟨h, ts⟩ := t
  show noN h ts.length = tsame (.mk h ts) zNd
  unfold zNd
  have e0 : (ByteArray.mk #[]).toList = [] := ByteArray.toList_mk []
  cases ts with
  | nil =>
    rw [tsame]
    unfold noN hsame zHd
    simp only [fsame_zero, e0, List.length_nil]
    cases h.b <;> simp [lsame]
  | cons t ts =>
    rw [tsame]
    unfold noN
    simp [lsame]
end Go.Proofs.YtbkcebbddhaifaaDoor
namespace Go.Proofs.YtbkcebbddhaifaaDoor
open Go.RowKit

/-- Well made, as the document says it; f: the number is finite, and no sign stands ahead; u: the text is right. -/
def madeB (h : Hd) (n : Nat) (f u : Bool) : Bool :=
  if h.k = 1 then bareB false true false false false false false false h n && f else
  if h.k = 2 then bareB false false true false false false false false h n && u && decide (h.s.size ≤ 1024) else
  if h.k = 3 then bareB false false false true false false false false h n else
  if h.k = 4 then bareB false false false false true false false false h n && decide (1 ≤ h.f) && decide (h.f ≤ 5) else
  if h.k = 5 then bareB false false false false false true false false h n else
  if h.k = 6 then bareB false false false false false true true false h n else
  if h.k = 7 then bareB true false false false false false false true h n && decide (1 ≤ h.o) && decide (h.o ≤ 3) && n == 1 else
  if h.k = 8 then bareB true false false false false false false true h n && decide (4 ≤ h.o) && decide (h.o ≤ 15) && n == 2 else
  if h.k = 9 then bareB false false true false false false false true h n else false
theorem fsame_self (x : Nat) : fsame x x = true := by unfold fsame; simp
set_option maxHeartbeats 4000000 in
theorem made_wm (h : Hd) (n : Nat) : madeB h n (plainX h.x) (Lib.validD h.s.data.toList) = wm h n := by
  have e0 : (ByteArray.mk #[]).toList = [] := ByteArray.toList_mk []
  obtain ⟨k, o, x, s, b, f, c1, r1, p1, q1, c2, r2, p2, q2⟩ := h
  unfold madeB wm wmJ
  simp only
  generalize plainX x = P
  generalize Lib.validD s.data.toList = U
  by_cases k1 : k = 1
  · subst k1
    simp [bareB, hsame, zHd, fsame_self, e0]
    try (rw [Bool.eq_iff_iff]; simp; constructor <;> (intro h; simp_all))
  by_cases k2 : k = 2
  · subst k2
    simp [bareB, hsame, zHd, fsame_zero]
    try (rw [Bool.eq_iff_iff]; simp; constructor <;> (intro h; simp_all))
  by_cases k3 : k = 3
  · subst k3
    simp [bareB, hsame, zHd, fsame_zero, e0]
    try (rw [Bool.eq_iff_iff]; simp; constructor <;> (intro h; simp_all))
  by_cases k4 : k = 4
  · subst k4
    simp [bareB, hsame, zHd, fsame_zero, e0]
    try (rw [Bool.eq_iff_iff]; simp; constructor <;> (intro h; simp_all))
  by_cases k5 : k = 5
  · subst k5
    simp [bareB, hsame, zHd, fsame_zero, e0]
    try (rw [Bool.eq_iff_iff]; simp; constructor <;> (intro h; simp_all))
  by_cases k6 : k = 6
  · subst k6
    simp [bareB, hsame, zHd, fsame_zero, e0]
    try (rw [Bool.eq_iff_iff]; simp; constructor <;> (intro h; simp_all))
  by_cases k7 : k = 7
  · subst k7
    simp [bareB, hsame, zHd, fsame_zero, e0]
    try (rw [Bool.eq_iff_iff]; simp; constructor <;> (intro h; simp_all))
  by_cases k8 : k = 8
  · subst k8
    simp [bareB, hsame, zHd, fsame_zero, e0]
    try (rw [Bool.eq_iff_iff]; simp; constructor <;> (intro h; simp_all))
  by_cases k9 : k = 9
  · subst k9
    simp [bareB, hsame, zHd, fsame_zero]
    try (rw [Bool.eq_iff_iff]; simp; constructor <;> (intro h; simp_all [fsame_self, fsame_zero]))
  simp [k1, k2, k3, k4, k5, k6, k7, k8, k9]
end Go.Proofs.YtbkcebbddhaifaaDoor
