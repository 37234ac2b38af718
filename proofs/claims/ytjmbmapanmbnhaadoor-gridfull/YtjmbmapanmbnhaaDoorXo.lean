/- Trees in memory of their own: each list in a block of its own, none twice. No function of the program here. -/
import Derived.Test.YtjmbmapanmbnhaaDoorXk
namespace Go.Proofs.YtjmbmapanmbnhaaDoor
open Go.RowKit

mutual
/-- The list sl has the nodes below t, each list of them in a block of its own: fp. -/
def NdOwn (w : World) (sl : Value) : Nd → List Nat → Prop
  | .mk _ ts, fp => (ts = [] ∧ sl = .slice none 0 0 ∧ fp = []) ∨
    ∃ b c fps cs, sl = .slice (some ⟨b, 0, none⟩) ts.length c ∧ ts ≠ [] ∧ ts.length ≤ c ∧ c ≤ 1099511627776 ∧ w.heap[b]? = some (.cells cs 31 (0, 0)) ∧ cs.size = c * 15 ∧ fp = b :: fps ∧ NdsOwn w b 0 ts fps
def NdsOwn (w : World) (b o : Nat) : List Nd → List Nat → Prop
  | [], fp => fp = []
  | t :: ts, fp => ∃ sl f1 f2, w.rangeAt b o (t.hd.cells sl) ∧ NdOwn w sl t f1 ∧ fp = f1 ++ f2 ∧ NdsOwn w b (o + 15) ts f2
end

mutual
theorem NdOwn.mono {w w' : World} {sl : Value} : ∀ {t : Nd} {fp : List Nat}, NdOwn w sl t fp → (∀ b ∈ fp, w'.heap[b]? = w.heap[b]?) → NdOwn w' sl t fp
  | .mk _ ts, fp, h, hF => by
    rw [NdOwn] at h ⊢
    rcases h with h | ⟨b, c, fps, cs, h1, h2, h3, h4, h5, h6, rfl, h8⟩
    · exact .inl h
    · refine .inr ⟨b, c, fps, cs, h1, h2, h3, h4, (hF b (List.mem_cons_self)).trans h5, h6, rfl, ?_⟩
      exact NdsOwn.mono h8 (fun o' cs' _ _ hr => rangeAt_block hr (hF b (List.mem_cons_self))) (fun b' hb' => hF b' (List.mem_cons_of_mem _ hb'))
theorem NdsOwn.mono {w w' : World} {b : Nat} : ∀ {ts : List Nd} {o : Nat} {fp : List Nat}, NdsOwn w b o ts fp → (∀ o' cs, o ≤ o' → o' + cs.length ≤ o + ts.length * 15 → w.rangeAt b o' cs → w'.rangeAt b o' cs) → (∀ b ∈ fp, w'.heap[b]? = w.heap[b]?) → NdsOwn w' b o ts fp
  | [], _, _, h, _, _ => by rw [NdsOwn] at h ⊢; exact h
  | t :: ts, o, fp, h, hr, hF => by
    rw [NdsOwn] at h ⊢
    obtain ⟨sl, f1, f2, h1, h2, rfl, h4⟩ := h
    refine ⟨sl, f1, f2, hr o _ (Nat.le_refl _) (by simp; omega) h1, NdOwn.mono h2 (fun b hb => hF b (List.mem_append_left _ hb)), rfl, ?_⟩
    exact NdsOwn.mono h4 (fun o' cs g1 g2 g3 => hr o' cs (by omega) (by simp at g2 ⊢; omega) g3) (fun b hb => hF b (List.mem_append_right _ hb))
end
theorem NdsOwn.snoc {w : World} {b : Nat} {u : Nd} {f : List Nat} {sl : Value} (hu : NdOwn w sl u f) : ∀ {us : List Nd} {o : Nat} {fps : List Nat}, NdsOwn w b o us fps → w.rangeAt b (o + us.length * 15) (u.hd.cells sl) → NdsOwn w b o (us ++ [u]) (fps ++ f)
  | [], o, fps, h, hr => by
    rw [NdsOwn] at h
    subst h
    rw [List.nil_append, NdsOwn]
    exact ⟨sl, f, [], by simpa using hr, hu, by simp, by rw [NdsOwn]⟩
  | t :: us, o, fps, h, hr => by
    rw [NdsOwn] at h
    obtain ⟨s1, f1, f2, h1, h2, rfl, h4⟩ := h
    rw [List.cons_append, NdsOwn]
    refine ⟨s1, f1, f2 ++ f, h1, h2, by rw [List.append_assoc], NdsOwn.snoc hu h4 ?_⟩
    rw [show o + 15 + us.length * 15 = o + (t :: us).length * 15 by simp; omega]
    exact hr

mutual
theorem NdOwn.isIn {w : World} {sl : Value} : ∀ {t : Nd} {fp : List Nat} {F : Nat → Prop}, NdOwn w sl t fp → (∀ b ∈ fp, F b) → NdIn w F sl t
  | .mk _ ts, fp, F, h, hF => by
    rw [NdOwn] at h
    rw [NdIn]
    rcases h with ⟨rfl, rfl, rfl⟩ | ⟨b, c, fps, cs, rfl, h2, h3, h4, h5, h6, rfl, h8⟩
    · exact ⟨none, 0, rfl, by simp, by unfold maxLen; omega, .inl ⟨rfl, .inl rfl⟩⟩
    · refine ⟨_, c, rfl, h3, by unfold maxLen; omega, .inr ⟨b, 0, rfl, hF b (List.mem_cons_self), ?_⟩⟩
      exact NdsOwn.isIn h8 (fun b' hb' => hF b' (List.mem_cons_of_mem _ hb'))
theorem NdsOwn.isIn {w : World} {b : Nat} : ∀ {ts : List Nd} {o : Nat} {fp : List Nat} {F : Nat → Prop}, NdsOwn w b o ts fp → (∀ b ∈ fp, F b) → NdsIn w F b o ts
  | [], _, _, _, _, _ => by rw [NdsIn]; trivial
  | t :: ts, o, fp, F, h, hF => by
    rw [NdsOwn] at h
    obtain ⟨sl, f1, f2, h1, h2, rfl, h4⟩ := h
    rw [NdsIn]
    exact ⟨⟨sl, h1, NdOwn.isIn h2 (fun b hb => hF b (List.mem_append_left _ hb))⟩, NdsOwn.isIn h4 (fun b hb => hF b (List.mem_append_right _ hb))⟩
end
theorem NdOwn.one {w : World} {sl : Value} {t : Nd} {fp : List Nat} (h : NdOwn w sl t fp) : sl.oneCell' = true := (h.isIn (F := fun _ => True) (fun _ _ => trivial)).one
/-- The tree lies in new memory: that of blocks from B on. -/
structure Own (w : World) (B : Nat) (sl : Value) (t : Nd) (fp : List Nat) : Prop where
  own : NdOwn w sl t fp
  nodup : fp.Nodup
  new : ∀ b ∈ fp, B ≤ b ∧ b < w.heap.size
theorem Own.below {w w' : World} {B : Nat} {sl : Value} {t : Nd} {fp : List Nat} (h : Own w B sl t fp) (g : Below w.heap.size w w') : Own w' B sl t fp :=
  ⟨h.own.mono (fun b hb => g.block b (h.new b hb).2), h.nodup, fun b hb => ⟨(h.new b hb).1, Nat.lt_of_lt_of_le (h.new b hb).2 g.size⟩⟩
theorem Own.le {w : World} {B B' : Nat} {sl : Value} {t : Nd} {fp : List Nat} (h : Own w B sl t fp) (hB : B' ≤ B) : Own w B' sl t fp :=
  ⟨h.own, h.nodup, fun b hb => ⟨Nat.le_trans hB (h.new b hb).1, (h.new b hb).2⟩⟩
theorem Own.isIn {w : World} {B : Nat} {sl : Value} {t : Nd} {fp : List Nat} (h : Own w B sl t fp) : NdIn w (fun b => B ≤ b ∧ b < w.heap.size) sl t := h.own.isIn h.new
end Go.Proofs.YtjmbmapanmbnhaaDoor
