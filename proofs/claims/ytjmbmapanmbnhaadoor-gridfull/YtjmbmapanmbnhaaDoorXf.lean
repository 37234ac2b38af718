/- Copy: a node with nodes below it; any tree. -/
import Derived.Test.YtjmbmapanmbnhaaDoorXe
namespace Go.Proofs.YtjmbmapanmbnhaaDoor
open Go.RowKit

/-- What Copy has done behind k rounds: W0 the world when the loop began, A the new list's block. -/
structure CpAt (W0 wr : World) (A n k : Nat) (us : List Nd) (fps : List Nat) : Prop where
  below : Below A W0 wr
  lt : A < wr.heap.size
  row : ∃ cs, wr.heap[A]? = some (.cells cs 31 (0, 0)) ∧ cs.size = n * 15
  len : us.length = k
  own : NdsOwn wr A 0 us fps
  nodup : fps.Nodup
  new : ∀ b ∈ fps, A < b ∧ b < wr.heap.size

theorem CpAt.step {W0 wr w1 : World} {A n k : Nat} {us : List Nd} {fps : List Nat} (h : CpAt W0 wr A n k us fps) (hk : k < n) {B : Nat} (hB : wr.heap.size ≤ B) (hg : Below wr.heap.size wr w1) {sl : Value} {u : Nd} {f : List Nat} (hu : Own w1 B sl u f) :
    CpAt W0 (w1.setCells A (k * 15) (u.hd.cells sl)) A n (k + 1) (us ++ [u]) (fps ++ f) := by
  obtain ⟨cs, h1, h2⟩ := h.row
  have hA : w1.heap[A]? = some (.cells cs 31 (0, 0)) := (hg.block A h.lt).trans h1
  have hth : w1.there A (k * 15) 15 := there_of_block hA _ _ (by omega)
  have hne : ∀ b, b ≠ A → (w1.setCells A (k * 15) (u.hd.cells sl)).heap[b]? = w1.heap[b]? := fun b hb => heap_setCells_ne hb _ _ _
  refine ⟨?_, ?_, ?_, ?_, ?_, ?_, ?_⟩
  · exact setCells_below (h.below.trans (hg.mono (Nat.le_of_lt h.lt))) (Nat.le_refl _) _ _
  · rw [size_setCells]; exact Nat.lt_of_lt_of_le h.lt hg.size
  · exact ⟨_, heap_setCells_at _ _ _ _ hA, by rw [setAll_size, h2]⟩
  · rw [List.length_append, h.len]; rfl
  · have o1 : NdsOwn w1 A 0 us fps := h.own.mono (fun o' cs' _ _ hr => rangeAt_block hr (hg.block A h.lt)) (fun b hb => hg.block b (h.new b hb).2)
    have o2 : NdsOwn (w1.setCells A (k * 15) (u.hd.cells sl)) A 0 us fps := by
      refine o1.mono (fun o' cs' _ q hr => ?_) (fun b hb => hne b (by have := (h.new b hb).1; omega))
      exact World.rangeAt_setCells_apart hr _ _ _ (.inr (.inl (by rw [h.len] at q; omega)))
    refine NdsOwn.snoc (sl := sl) (hu.own.mono (fun b hb => hne b (by have := (hu.new b hb).1; have := h.lt; omega))) o2 ?_
    rw [h.len, Nat.zero_add]
    exact World.rangeAt_setCells_same _ _ _ _ (by simpa using hth)
  · rw [List.nodup_append]
    refine ⟨h.nodup, hu.nodup, fun b hb b' hb' e => ?_⟩
    subst e
    have := (h.new b hb).2
    have := (hu.new b hb').1
    omega
  · intro b hb
    rw [size_setCells]
    rcases List.mem_append.1 hb with hb | hb
    · exact ⟨(h.new b hb).1, Nat.lt_of_lt_of_le (h.new b hb).2 hg.size⟩
    · exact ⟨by have := (hu.new b hb).1; have := h.lt; omega, (hu.new b hb).2⟩
theorem CpAt.done {W0 wr : World} {A n : Nat} {us : List Nd} {fps : List Nat} (h : CpAt W0 wr A n n us fps) (hn : 0 < n) (hm : n ≤ 1048576) (g : Hd) : Own wr A (.slice (some ⟨A, 0, none⟩) n n) (.mk g us) (A :: fps) := by
  obtain ⟨cs, h1, h2⟩ := h.row
  refine ⟨?_, ?_, ?_⟩
  · rw [NdOwn]
    refine .inr ⟨A, n, fps, cs, by rw [h.len], fun e => by have := h.len; rw [e] at this; simp at this; omega, by rw [h.len]; exact Nat.le_refl _, by omega, h1, h2, rfl, h.own⟩
  · rw [List.nodup_cons]
    exact ⟨fun hb => by have := (h.new A hb).1; omega, h.nodup⟩
  · intro b hb
    rcases List.mem_cons.1 hb with rfl | hb
    · exact ⟨Nat.le_refl _, h.lt⟩
    · exact ⟨Nat.le_of_lt (h.new b hb).1, (h.new b hb).2⟩
end Go.Proofs.YtjmbmapanmbnhaaDoor
