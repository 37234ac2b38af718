/- append onto a list in memory of its own, and in which block the new one lies; a tree that grows by a node. No function of the program here. A region that draws its order and whose last operation, number z, writes a cell that others of it read: what is read may be taken first, for z waits for it. The condition S need not hold behind z. No function of the program here. A list of nodes that a function makes by append, round by round. No function of the program here. ownNode (quadrilleref17): a tree in memory of its own, as it was. -/
import Derived.Test.YtbkcebbddhaifaaGreatDoorC6
import Derived.ArgAppend
import Derived.Test.YtbkcebbddhaifaaGreatDoorC4
import Derived.Deep.RegionHeld3
import Derived.Test.YtbkcebbddhaifaaGreatDoorC8
import Derived.Test.YtbkcebbddhaifaaGreatDoorC7
namespace Go.Proofs.YtbkcebbddhaifaaGreatDoor
open Go.RowKit

/-- append onto a row of one's own: behind it the row lies where it lay, or in a new block. -/
theorem run_append_tell {P : Program} (w : World) (base : Nat) (t ty e : TypeId) (i : TypeInfo) (z : Value) (size bytes : Nat) (h1 : P.underlying t = some (.slice e)) (h2 : P.info? e = some i) (h3 : i.zero = some z) (h4 : i.size = size) (h5 : i.bytes = bytes) (h6 : z.cells.size = size) (h7 : 0 < size)
    (v : Value) (n : Nat) (xs : List Value) (hown : w.ownsRow base e size v n xs)
    (ad : Addr) (m c : Nat) (news : List Value) (hn : news.length = m * size) (hc : ∀ j u, news[j]? = some u → w.cell? (ad.add j) = some u) (h1c : ∀ u ∈ news, u.oneCell' = true)
    (hm : 0 < m) (b1 : n + m ≤ maxLen) (b2 : (n + m) * bytes ≤ 140737488355328) (hbase : base ≤ w.heap.size) :
    ∃ g c' w', (Builtin.append_ #[t, t] ty #[v, .slice (some ad) m c]).run P w = .ok (.slice (some ⟨g, 0, none⟩) (n + m) c') w' ∧ w'.ownsRow base e size (.slice (some ⟨g, 0, none⟩) (n + m) c') (n + m) (xs ++ news) ∧ w.grownBy w' v.ownBlock ∧ (v.ownBlock = some g ∨ w.heap.size ≤ g) := by
  have fin : ∀ v' w', (Builtin.append_ #[t, t] ty #[v, .slice (some ad) m c]).run P w = .ok v' w' → w'.ownsRow w.heap.size e size v' (n + m) (xs ++ news) → w.grownBy w' none →
      ∃ g c' w', (Builtin.append_ #[t, t] ty #[v, .slice (some ad) m c]).run P w = .ok (.slice (some ⟨g, 0, none⟩) (n + m) c') w' ∧ w'.ownsRow base e size (.slice (some ⟨g, 0, none⟩) (n + m) c') (n + m) (xs ++ news) ∧ w.grownBy w' v.ownBlock ∧ (v.ownBlock = some g ∨ w.heap.size ≤ g) := by
    intro v' w' hrun ho hgr
    rcases ho.2 with ⟨_, h0⟩ | ⟨g, c', cur, rfl, hbg, r⟩
    · omega
    · exact ⟨g, c', w', hrun, ⟨ho.1, .inr ⟨g, c', cur, rfl, Nat.le_trans hbase hbg, r⟩⟩, ⟨hgr.os, hgr.tape, hgr.output, hgr.size, fun k hk _ => hgr.block k hk (by simp)⟩, .inr hbg⟩
  have hown' := hown
  rcases hown with ⟨hxl, ⟨rfl, rfl⟩ | ⟨g, cap, cur, rfl, hb, hgg, hnc, hcm, hcs, htk⟩⟩
  · have hxs : xs = [] := List.length_eq_zero_iff.1 (by rw [hxl]; simp)
    subst hxs
    obtain ⟨v', w', hrun, r1, r2, _⟩ := run_append_own (P := P) w w.heap.size t ty e i z size bytes h1 h2 h3 h4 h5 h6 h7 (.slice none 0 0) 0 [] (World.ownsRow_nil w _ e size) ad m c news hn hc h1c b1 b2 (Nat.le_refl _)
    exact fin v' w' hrun r1 r2
  · by_cases hfit : n + m ≤ cap
    · obtain ⟨w', hrun, r1, r2⟩ := run_append_fits (P := P) w base t ty e i size h1 h2 h4 g n cap xs hown' ad m c news hn hc h1c hfit
      exact ⟨g, cap, w', hrun, r1, r2, .inl rfl⟩
    · obtain ⟨v', w', hrun, r1, r2⟩ := run_append_arg_grows (P := P) w t ty e i z size bytes h1 h2 h3 h4 h5 h6 h7 ⟨g, 0, none⟩ n cap xs hxl (hown'.cells rfl) ad m c news hn hc (by omega) b1 b2
      exact fin v' w' hrun r1 r2
theorem wp_append_tell {P : Program} (w : World) {o : Oper} {a : Act} {K : Act → World → Prop} {Q : Exit → Act → World → Prop} (s x : Operand) (t : TypeId) (ho : o.op = Op.call { callee := Callee.builtin Builtin.append, args := #[s, x], argTypes := #[t, t] })
    (base : Nat) (e : TypeId) (i : TypeInfo) (z : Value) (size bytes : Nat) (h1 : P.underlying t = some (.slice e)) (h2 : P.info? e = some i) (h3 : i.zero = some z) (h4 : i.size = size) (h5 : i.bytes = bytes) (h6 : z.cells.size = size) (h7 : 0 < size)
    (v : Value) (n : Nat) (xs : List Value) (hs : a.eval s = v) (hown : w.ownsRow base e size v n xs)
    (ad : Addr) (m c : Nat) (news : List Value) (hx : a.eval x = .slice (some ad) m c) (hn : news.length = m * size) (hc : ∀ j u, news[j]? = some u → w.cell? (ad.add j) = some u) (h1c : ∀ u ∈ news, u.oneCell' = true)
    (hm : 0 < m) (b1 : n + m ≤ maxLen) (b2 : (n + m) * bytes ≤ 140737488355328) (hbase : base ≤ w.heap.size)
    (h : ∀ g c' w', w'.ownsRow base e size (.slice (some ⟨g, 0, none⟩) (n + m) c') (n + m) (xs ++ news) → w.grownBy w' v.ownBlock → (v.ownBlock = some g ∨ w.heap.size ≤ g) → K (a.put o.dst (.slice (some ⟨g, 0, none⟩) (n + m) c')) w') : o.wp P a w K Q := by
  obtain ⟨g, c', w', hr, h2', h3', h4'⟩ := run_append_tell (P := P) w base t o.type e i z size bytes h1 h2 h3 h4 h5 h6 h7 v n xs hown ad m c news hn hc h1c hm b1 b2 hbase
  unfold Oper.wp execOp
  simp only [ho, resolve, invoke, builtin, Sem.run_bind, Sem.run_pure, Result.andThen_ok, List.map_toArray, List.map_cons, List.map_nil, hs, hx, hr]
  exact h g c' w' h2' h3' h4'
theorem wpList_append_tell {P : Program} (w : World) {ops : Array Oper} {rest : List Oper} {o : Oper} {a : Act} {Q : Exit → Act → World → Prop}
    (hgd : o.guard = none) (s x : Operand) (t : TypeId) (ho : o.op = Op.call { callee := Callee.builtin Builtin.append, args := #[s, x], argTypes := #[t, t] })
    (base : Nat) (e : TypeId) (i : TypeInfo) (z : Value) (size bytes : Nat) (h1 : P.underlying t = some (.slice e)) (h2 : P.info? e = some i) (h3 : i.zero = some z) (h4 : i.size = size) (h5 : i.bytes = bytes) (h6 : z.cells.size = size) (h7 : 0 < size)
    (v : Value) (n : Nat) (xs : List Value) (hs : a.eval s = v) (hown : w.ownsRow base e size v n xs)
    (ad : Addr) (m c : Nat) (news : List Value) (hx : a.eval x = .slice (some ad) m c) (hn : news.length = m * size) (hc : ∀ j u, news[j]? = some u → w.cell? (ad.add j) = some u) (h1c : ∀ u ∈ news, u.oneCell' = true)
    (hm : 0 < m) (b1 : n + m ≤ maxLen) (b2 : (n + m) * bytes ≤ 140737488355328) (hbase : base ≤ w.heap.size)
    (h : ∀ g c' w', w'.ownsRow base e size (.slice (some ⟨g, 0, none⟩) (n + m) c') (n + m) (xs ++ news) → w.grownBy w' v.ownBlock → (v.ownBlock = some g ∨ w.heap.size ≤ g) → wpList P ops Q rest (a.put o.dst (.slice (some ⟨g, 0, none⟩) (n + m) c')) w') :
    wpList P ops Q (o :: rest) a w :=
  wpList_plain hgd fun _ hK => wp_append_tell w s x t ho base e i z size bytes h1 h2 h3 h4 h5 h6 h7 v n xs hs hown ad m c news hx hn hc h1c hm b1 b2 hbase fun g c' w' r1 r2 r3 => hK _ _ (h g c' w' r1 r2 r3)

theorem NdsOwn.move {w w' : World} {b b' : Nat} : ∀ {ts : List Nd} {o : Nat} {fp : List Nat}, NdsOwn w b o ts fp → (∀ o' cs, o ≤ o' → o' + cs.length ≤ o + ts.length * 15 → w.rangeAt b o' cs → w'.rangeAt b' o' cs) → (∀ b ∈ fp, w'.heap[b]? = w.heap[b]?) → NdsOwn w' b' o ts fp
  | [], _, _, h, _, _ => by rw [NdsOwn] at h ⊢; exact h
  | t :: ts, o, fp, h, hr, hF => by
    rw [NdsOwn] at h ⊢
    obtain ⟨sl, f1, f2, h1, h2, rfl, h4⟩ := h
    refine ⟨sl, f1, f2, hr o _ (Nat.le_refl _) (by simp; omega) h1, NdOwn.mono h2 (fun b hb => hF b (List.mem_append_left _ hb)), rfl, ?_⟩
    exact NdsOwn.move h4 (fun o' cs g1 g2 g3 => hr o' cs (by omega) (by simp at g2 ⊢; omega) g3) (fun b hb => hF b (List.mem_append_right _ hb))

theorem Own.row {w : World} {B : Nat} {v : Value} {h : Hd} {us : List Nd} {fp : List Nat} (q : Own w B v (.mk h us) fp) : ∃ xs, w.ownsRow B 44 15 v us.length xs := by
  have q1 := q.own
  rw [NdOwn] at q1
  rcases q1 with ⟨rfl, rfl, _⟩ | ⟨b, c, fps, cs, rfl, h2, h3, h4, h5, h6, rfl, h8⟩
  · exact ⟨[], World.ownsRow_nil _ _ _ _⟩
  · refine ⟨cs.toList.take (us.length * 15), ?_, .inr ⟨b, c, cs, rfl, (q.new b (List.mem_cons_self)).1, h5, h3, h4, h6, rfl⟩⟩
    have hl : cs.toList.length = c * 15 := by simpa using h6
    rw [List.length_take, hl]
    exact Nat.min_eq_left (Nat.mul_le_mul_right 15 h3)

theorem addr_at (b off i : Nat) : (⟨b, off, none⟩ : Addr).add i = ⟨b, off + i, none⟩ := by unfold Addr.add; split <;> simp_all

theorem Own.grow {w w' : World} {B : Nat} {v : Value} {h : Hd} {us : List Nd} {fp : List Nat} {xs : List Value} (q : Own w B v (.mk h us) fp) (hx : w.ownsRow B 44 15 v us.length xs)
    {sl : Value} {u : Nd} {f : List Nat} (hu : Own w B sl u f) (hd : ∀ b ∈ f, b ∉ fp) {g c : Nat}
    (ho : w'.ownsRow B 44 15 (.slice (some ⟨g, 0, none⟩) (us.length + 1) c) (us.length + 1) (xs ++ u.hd.cells sl)) (hg : w.grownBy w' v.ownBlock) (ht : v.ownBlock = some g ∨ w.heap.size ≤ g) (h' : Hd) :
    ∃ fp', Own w' B (.slice (some ⟨g, 0, none⟩) (us.length + 1) c) (.mk h' (us ++ [u])) fp' := by
  have hcell : ∀ j x, (xs ++ u.hd.cells sl)[j]? = some x → w'.cell? ⟨g, j, none⟩ = some x := fun j x hj => by
    have := ho.cells (g := g) rfl j x hj
    rw [addr_at, Nat.zero_add] at this; exact this
  have hrow : ∃ cur, w'.heap[g]? = some (.cells cur 44 (0, 0)) ∧ B ≤ g ∧ us.length + 1 ≤ c ∧ c ≤ maxLen ∧ cur.size = c * 15 := by
    rcases ho.2 with ⟨e, _⟩ | ⟨g', c', cur, e, hbg, hgg, hnc, hcm, hcs, _⟩
    · cases e
    · simp only [Value.slice.injEq, Option.some.injEq, Addr.mk.injEq] at e
      obtain ⟨⟨rfl, _⟩, _, rfl⟩ := e
      exact ⟨cur, hgg, hbg, hnc, hcm, hcs⟩
  obtain ⟨cur, hgg, hbg, hnc, hcm, hcs⟩ := hrow
  have hgl : g < w'.heap.size := (Array.getElem?_eq_some_iff.1 hgg).1
  have hxl : xs.length = us.length * 15 := hx.1
  have hru : w'.rangeAt g (0 + us.length * 15) (u.hd.cells sl) := by
    intro j x hj
    refine hcell _ _ ?_
    rw [List.getElem?_append_right (by omega), show 0 + us.length * 15 + j - xs.length = j by omega]
    exact hj
  have q1 := q.own
  rw [NdOwn] at q1
  rcases q1 with ⟨rfl, rfl, rfl⟩ | ⟨b, c0, fps, cs, rfl, h2, h3, h4, h5, h6, rfl, h8⟩
  · have hu' : NdOwn w' sl u f := hu.own.mono (fun b hb => hg.block b (hu.new b hb).2 (by simp [Value.ownBlock]))
    have hgn : w.heap.size ≤ g := by
      rcases ht with e | e
      · simp [Value.ownBlock] at e
      · exact e
    refine ⟨g :: f, ?_, ?_, ?_⟩
    · rw [NdOwn]
      refine .inr ⟨g, c, f, cur, by simp, by simp, by simpa using hnc, hcm, hgg, hcs, rfl, ?_⟩
      have := NdsOwn.snoc (b := g) (us := []) (o := 0) (fps := []) hu' (by rw [NdsOwn]) hru
      simpa using this
    · rw [List.nodup_cons]
      exact ⟨fun hb => by have := (hu.new g hb).2; omega, hu.nodup⟩
    · intro b hb
      rcases List.mem_cons.1 hb with rfl | hb
      · exact ⟨hbg, hgl⟩
      · exact ⟨(hu.new b hb).1, Nat.lt_of_lt_of_le (hu.new b hb).2 hg.size⟩
  · have hnd := q.nodup
    rw [List.nodup_cons] at hnd
    have hblk : ∀ k, k < w.heap.size → k ≠ b → w'.heap[k]? = w.heap[k]? := fun k hk hne => hg.block k hk (by simpa [Value.ownBlock] using hne)
    have hfb : ∀ k ∈ f, k ≠ b := fun k hk e => hd k hk (e ▸ List.mem_cons_self)
    have hpb : ∀ k ∈ fps, k ≠ b := fun k hk e => hnd.1 (e ▸ hk)
    have hu' : NdOwn w' sl u f := hu.own.mono (fun k hk => hblk k (hu.new k hk).2 (hfb k hk))
    have hxc : ∀ j, j < us.length * 15 → xs[j]? = w.cell? ⟨b, j, none⟩ := by
      intro j hj
      rcases hx.2 with ⟨e, _⟩ | ⟨g', c', cur', e, _, hgg', _, _, _, htk⟩
      · cases e
      · simp only [Value.slice.injEq, Option.some.injEq, Addr.mk.injEq] at e
        obtain ⟨⟨rfl, _⟩, _⟩ := e
        rw [cell_of_row w b j cur' _ _ hgg', ← htk, List.getElem?_take_of_lt hj]; simp
    have hus : NdsOwn w' g 0 us fps := by
      refine h8.move (fun o' cs' _ h10 hr => ?_) (fun k hk => hblk k (q.new k (List.mem_cons_of_mem _ hk)).2 (hpb k hk))
      intro j x hj
      have hjl : j < cs'.length := (List.getElem?_eq_some_iff.1 hj).1
      refine hcell _ _ ?_
      rw [List.getElem?_append_left (by omega), hxc _ (by omega)]
      exact hr j x hj
    have hgn : g = b ∨ w.heap.size ≤ g := by
      rcases ht with e | e
      · simp [Value.ownBlock] at e; exact .inl e.symm
      · exact .inr e
    refine ⟨g :: (fps ++ f), ?_, ?_, ?_⟩
    · rw [NdOwn]
      refine .inr ⟨g, c, fps ++ f, cur, by simp, by simp, by simpa using hnc, hcm, hgg, hcs, rfl, NdsOwn.snoc hu' hus hru⟩
    · rw [List.nodup_cons]
      refine ⟨fun hb => ?_, ?_⟩
      · rcases List.mem_append.1 hb with hb | hb
        · rcases hgn with e | e
          · exact hpb g hb e
          · have := (q.new g (List.mem_cons_of_mem _ hb)).2; omega
        · rcases hgn with e | e
          · exact hfb g hb e
          · have := (hu.new g hb).2; omega
      · rw [List.nodup_append]
        exact ⟨hnd.2, hu.nodup, fun k hk k' hk' e => hd k' hk' (e ▸ List.mem_cons_of_mem _ hk)⟩
    · intro k hk
      rcases List.mem_cons.1 hk with rfl | hk
      · exact ⟨hbg, hgl⟩
      · rcases List.mem_append.1 hk with hk | hk
        · exact ⟨(q.new k (List.mem_cons_of_mem _ hk)).1, Nat.lt_of_lt_of_le (q.new k (List.mem_cons_of_mem _ hk)).2 hg.size⟩
        · exact ⟨(hu.new k hk).1, Nat.lt_of_lt_of_le (hu.new k hk).2 hg.size⟩
end Go.Proofs.YtbkcebbddhaifaaGreatDoor
namespace Go.Proofs.YtbkcebbddhaifaaGreatDoor
open Go.RowKit

section
variable {P : Program} {ops : Array Oper} {Q : Exit → Act → World → Prop} {md : Region.Mode} {S : World → Prop} {z : Nat}

/-- Whatever order is picked from here on; S holds behind each operation but z. -/
def wpBut (P : Program) (md : Region.Mode) (ops : Array Oper) (Q : Exit → Act → World → Prop) (S : World → Prop) (z : Nat) : Nat → Array Bool → Act → World → Prop
  | 0, on, a, w => Region.ready md ops on = [] ∧ Q .normal a w
  | n + 1, on, a, w => (Region.ready md ops on = [] → Q .normal a w) ∧
      ∀ i ∈ Region.ready md ops on, wpOp P ops Q i (fun a' w' => (i ≠ z → S w') ∧ wpBut P md ops Q S z n (on.setIfInBounds i true) a' w') a w
theorem wpBut_any : ∀ (n : Nat) (on : Array Bool) (a : Act) (w : World), wpBut P md ops Q S z n on a w → wpAny P md ops Q n on a w
  | 0, _, _, _, h => h
  | n + 1, _, _, _, h => ⟨h.1, fun i hi => wpOp_mono (fun a' w' h' => wpBut_any n _ a' w' h'.2) (h.2 i hi)⟩
/-- z waits for i. -/
def zWaits (md : Region.Mode) (ops : Array Oper) (z i : Nat) : Bool := match ops[z]? with | some o => o.after.any (fun e => Region.binds md e && e.on == i) | none => false
theorem not_ready_of_waits {on : Array Bool} {i : Nat} (h : zWaits md ops z i = true) (hi : on.getD i false = false) : z ∉ Region.ready md ops on := by
  intro hz
  obtain ⟨_, o, ho, hall⟩ := mem_ready.1 hz
  unfold zWaits at h
  rw [ho] at h
  obtain ⟨e, he, hb⟩ := Array.any_eq_true'.1 h
  simp only [Bool.and_eq_true, beq_iff_eq] at hb
  have := hall e he hb.1
  rw [hb.2, hi] at this
  cases this
theorem getD_swap {on : Array Bool} {i : Nat} (h : on.getD i true = false) : on.getD i false = false := by
  rcases Nat.lt_or_ge i on.size with hl | hl
  · simp [hl] at h ⊢; exact h
  · simp [Nat.not_lt.2 hl] at h
theorem wpBut_front {i : Nat} {oi : Oper} {v : Value} (hi : ops[i]? = some oi) (hsel : ∀ (j : Nat) (o : Oper) cs b, ops[j]? = some o → o.op ≠ .select cs b) (hzi : zWaits md ops z i = true)
    (hQ : ∀ c a w, Q (.panic c) (a.put oi.dst v) w → Q (.panic c) a w) (n : Nat) :
    ∀ (on : Array Bool) (a : Act) (w : World),
      (∀ j oj, ops[j]? = some oj → j ≠ i → on.getD j true = false → (∀ e ∈ oj.after, Region.binds md e = true → e.on ≠ i) → oi.apart ops oj = true) →
      i ∈ Region.ready md ops on → YieldsIf P ops S oi v a → S w → wpBut P md ops Q S z n (on.setIfInBounds i true) (a.put oi.dst v) w → wpBut P md ops Q S z (n + 1) on a w := by
  have hiz : ∀ on : Array Bool, i ∈ Region.ready md ops on → z ∉ Region.ready md ops on := fun on hr => not_ready_of_waits hzi (getD_swap (mem_ready.1 hr).1)
  induction n with
  | zero =>
    intro on a w _ hr hy hS H
    refine ⟨fun h => (by rw [h] at hr; cases hr), fun j hj => ?_⟩
    rcases Decidable.em (j = i) with rfl | hji
    · exact hy.wpOp hi hS ⟨fun _ => hS, H⟩
    · have hc := ready_mono hj hji
      rw [H.1] at hc
      cases hc
  | succ n ih =>
    intro on a w hfree hr hy hS H
    refine ⟨fun h => (by rw [h] at hr; cases hr), fun j hj => ?_⟩
    rcases Decidable.em (j = i) with rfl | hji
    · exact hy.wpOp hi hS ⟨fun _ => hS, H⟩
    · have hjz : j ≠ z := fun e => hiz on hr (e ▸ hj)
      obtain ⟨hjun, oj, hoj, hall⟩ := mem_ready.1 hj
      have hun := getD_swap (mem_ready.1 hr).1
      have hno : ∀ e ∈ oj.after, Region.binds md e = true → e.on ≠ i := fun e he hb heq => by
        have h1 := hall e he hb
        rw [heq, hun] at h1
        cases h1
      have h2 := wpOp_putIf hoj (hfree j oj hoj hji hjun hno) (fun cs b => hsel i oi cs b hi) (fun cs b => hsel j oj cs b hoj) hQ hy (H.2 j (ready_mono hj hji))
      refine wpOp_mono (fun a' w' h3 => ⟨fun _ => h3.2.1 hjz, ih (on.setIfInBounds j true) a' w' ?_ (ready_mono hr (Ne.symm hji)) h3.1 (h3.2.1 hjz) ?_⟩) h2
      · intro k ok hk hki hkun hkno
        refine hfree k ok hk hki ?_ hkno
        rcases Decidable.em (j = k) with rfl | hjk
        · exact hjun
        · rw [getD_set_ne true hjk] at hkun; exact hkun
      · rw [Array.setIfInBounds_comm _ _ hji]
        exact h3.2.2
theorem wpBut_take {i : Nat} {oi : Oper} {v : Value} {n : Nat} {on : Array Bool} {a : Act} {w : World} (hi : ops[i]? = some oi) (hs : Region.noSelect ops = true) (hf : Region.free md ops on i = true) (hr : (Region.ready md ops on).contains i = true) (hz : zWaits md ops z i = true)
    (hQ : ∀ c a w, Q (.panic c) (a.put oi.dst v) w → Q (.panic c) a w) (hy : YieldsIf P ops S oi v a) (hS : S w) (h : wpBut P md ops Q S z n (on.setIfInBounds i true) (a.put oi.dst v) w) : wpBut P md ops Q S z (n + 1) on a w :=
  wpBut_front hi (Region.noSelect_spec hs) hz hQ n on a w (Region.free_spec hi hf) (by simpa using hr) hy hS h
/-- The same, the slot that it writes told. -/
theorem wpBut_takes {i : Nat} {oi : Oper} {v : Value} {n : Nat} {on : Array Bool} {a : Act} {w : World} (d : Option Tmp) (hi : ops[i]? = some oi) (hd : oi.dst = d) (hs : Region.noSelect ops = true) (hf : Region.free md ops on i = true) (hr : (Region.ready md ops on).contains i = true) (hz : zWaits md ops z i = true)
    (hQ : ∀ c a w, Q (.panic c) (a.put d v) w → Q (.panic c) a w) (hy : YieldsIf P ops S oi v a) (hS : S w) (h : wpBut P md ops Q S z n (on.setIfInBounds i true) (a.put d v) w) : wpBut P md ops Q S z (n + 1) on a w := by
  subst hd
  exact wpBut_take hi hs hf hr hz hQ hy hS h
/-- The one that comes up. -/
theorem wpBut_one {i : Nat} {n : Nat} {on : Array Bool} {a : Act} {w : World} (hr : Region.ready md ops on = [i]) (h : wpOp P ops Q i (fun a' w' => (i ≠ z → S w') ∧ wpBut P md ops Q S z n (on.setIfInBounds i true) a' w') a w) : wpBut P md ops Q S z (n + 1) on a w :=
  ⟨fun h0 => (by rw [hr] at h0; cases h0), fun j hj => (by rw [hr] at hj; obtain rfl := List.mem_singleton.1 hj; exact h)⟩
theorem wpBut_done {n : Nat} {on : Array Bool} {a : Act} {w : World} (hr : Region.ready md ops on = []) (h : Q .normal a w) : wpBut P md ops Q S z n on a w := by
  cases n with
  | zero => exact ⟨hr, h⟩
  | succ n => exact ⟨fun _ => h, by rw [hr]; simp⟩
/-- The step is handed over behind a 'for every K'. -/
theorem wpBut_step {i : Nat} {o : Oper} {n : Nat} {on : Array Bool} {a : Act} {w : World} (hr : Region.ready md ops on = [i]) (ho : ops[i]? = some o) (hg : o.guard = none)
    (h : ∀ K' : Act → World → Prop, Hid (∀ a w, (i ≠ z → S w) → ((i ≠ z → S w) → wpBut P md ops Q S z n (on.setIfInBounds i true) a w) → K' a w) → o.wp P a w K' Q) : wpBut P md ops Q S z (n + 1) on a w := by
  refine wpBut_one hr ?_
  unfold wpOp
  rw [ho]
  simp only [Region.wanted, hg, if_true]
  exact .inl (h _ (fun a w hS hW => ⟨hS, hW hS⟩))
theorem wp_region_but {id : Nat} {a : Act} {w : World} (S : World → Prop) (z : Nat) (hm : P.follows .mixedOrders = true) (hS : S w.drew) (h : S w.drew → wpBut P .any ops Q S z ops.size (Array.replicate ops.size false) a w.drew) : (Code.region id ops true).wp P Q a w :=
  wp_region_any hm (wpBut_any _ _ _ _ (h hS))
end
end Go.Proofs.YtbkcebbddhaifaaGreatDoor
namespace Go.Proofs.YtbkcebbddhaifaaGreatDoor
open Go.RowKit

theorem exec_node_at {o : Oper} {a : Act} {x : Operand} {b p : Nat} {w : World} (cs : List Value) (ho : o.op = .load 44 x) (hx : a.eval x = .pointer (some ⟨b, p, none⟩)) (hc : w.rangeAt b p cs) (hcs : cs.length = 15) : (execOp a.eval o).run Tryz.prog w = .ok (.value (.agg cs.toArray)) w := by
  unfold execOp
  simp only [ho, hx, Instr.loadAt, Instr.sureAddr, Sem.run_bind, Sem.run_pure, Result.andThen_ok, run_loadVar_mid w b p 44 cs _ hc Tryz.underlying44 rfl (by rw [hcs]; exact infoNode)]
theorem infoNodeI : ∃ i, Tryz.prog.info? 44 = some i ∧ i.zero = some (.agg #[.int .i64 0, .int .i64 0, .float .f64 0, .string ⟨#[]⟩, .bool false, .int .i64 0, .int .i64 0, .int .i64 0, .bool false, .bool false, .int .i64 0, .int .i64 0, .bool false, .bool false, .slice none 0 0]) ∧ i.size = 15 ∧ i.bytes = 128 := by
  have := infoNodeZ
  cases h : Tryz.prog.info? 44 with
  | none => rw [h] at this; cases this
  | some i =>
    rw [h] at this
    have := Option.some.inj this
    simp only [Prod.mk.injEq] at this
    exact ⟨i, rfl, this.1, this.2.1, this.2.2⟩
/-- What has been done behind some rounds: us the nodes that were appended, v their list. -/
structure OwAt (w wr : World) (ps zs : List Value) (h : Hd) (us : List Nd) (v : Value) (fp : List Nat) : Prop where
  bel : Below w.heap.size w wr
  b1 : Blk wr w.heap.size ps 44
  b2 : Blk wr (w.heap.size + 1) zs 44
  b3 : Blk wr (w.heap.size + 2) (h.cells v) 44
  own : Own wr (w.heap.size + 3) v (.mk h us) fp
theorem OwAt.start {w : World} (ps zs : List Value) (h : Hd) : OwAt w (((w.alloc (.cells ps.toArray 44)).alloc (.cells zs.toArray 44)).alloc (.cells (h.cells (.slice none 0 0)).toArray 44)) ps zs h [] (.slice none 0 0) [] := by
  refine ⟨?_, ?_, ?_, ?_, ?_, ?_, ?_⟩
  · exact (((Below.refl _ _).alloc (Nat.le_refl _) _).alloc (by simp [World.size_alloc]) _).alloc (by simp [World.size_alloc]; omega) _
  · exact ((Blk.new w ps _).alloc _).alloc _
  · have := Blk.new (w.alloc (.cells ps.toArray 44)) zs 44
    rw [World.size_alloc] at this
    exact this.alloc _
  · have := Blk.new ((w.alloc (.cells ps.toArray 44)).alloc (.cells zs.toArray 44)) (h.cells (.slice none 0 0)) 44
    rw [World.size_alloc, World.size_alloc] at this
    exact this
  · rw [NdOwn]; exact .inl ⟨rfl, rfl, rfl⟩
  · exact List.nodup_nil
  · intro b hb; simp at hb
theorem OwAt.lt {w wr : World} {ps zs : List Value} {h : Hd} {us : List Nd} {v : Value} {fp : List Nat} (q : OwAt w wr ps zs h us v fp) : w.heap.size + 3 ≤ wr.heap.size := q.b3.lt
/-- One more: the node u, made in w2, is laid into a block of its own and appended. -/
theorem OwAt.step {w wr w2 w4 : World} {ps zs : List Value} {h : Hd} {us : List Nd} {v : Value} {fp : List Nat} (q : OwAt w wr ps zs h us v fp) (hg : Below wr.heap.size wr w2) {B : Nat} (hB : wr.heap.size ≤ B) {sl : Value} {u : Nd} {f : List Nat} (hu : Own w2 B sl u f) {xs : List Value}
    (hx : (w2.alloc (.cells (u.hd.cells sl).toArray 44)).ownsRow (w.heap.size + 3) 44 15 v us.length xs) {g c : Nat}
    (ho : w4.ownsRow (w.heap.size + 3) 44 15 (.slice (some ⟨g, 0, none⟩) (us.length + 1) c) (us.length + 1) (xs ++ u.hd.cells sl)) (hgr : (w2.alloc (.cells (u.hd.cells sl).toArray 44)).grownBy w4 v.ownBlock) (ht : v.ownBlock = some g ∨ (w2.alloc (.cells (u.hd.cells sl).toArray 44)).heap.size ≤ g) :
    ∃ fp', OwAt w (w4.setCell ⟨w.heap.size + 2, 14, none⟩ (.slice (some ⟨g, 0, none⟩) (us.length + 1) c)) ps zs h (us ++ [u]) (.slice (some ⟨g, 0, none⟩) (us.length + 1) c) fp' := by
  have hlt := q.lt
  have hg3 : Below wr.heap.size wr (w2.alloc (.cells (u.hd.cells sl).toArray 44)) := hg.alloc hg.size _
  have own3 : Own (w2.alloc (.cells (u.hd.cells sl).toArray 44)) (w.heap.size + 3) v (.mk h us) fp := q.own.below hg3
  have hu3 : Own (w2.alloc (.cells (u.hd.cells sl).toArray 44)) (w.heap.size + 3) sl u f := (hu.below ((Below.refl _ _).alloc (Nat.le_refl _) _)).le (by omega)
  have hd : ∀ b ∈ f, b ∉ fp := fun b hb hb' => by
    have := (hu.new b hb).1
    have := (q.own.new b hb').2
    omega
  obtain ⟨fp', ow4⟩ := own3.grow hx hu3 hd ho hgr ht h
  have hrow : ∀ i, v.ownBlock = some i → w.heap.size + 3 ≤ i := fun i hi => (hx.lt i hi).1
  have hb4 : ∀ i, i < w.heap.size + 3 → w4.heap[i]? = wr.heap[i]? := fun i hi => by
    rw [hgr.block i (by have := hg3.size; omega) (fun e => by have := hrow i e.symm; omega)]
    exact hg3.block i (by omega)
  have ne : ∀ i, i ≠ w.heap.size + 2 → (w4.setCell ⟨w.heap.size + 2, 14, none⟩ (.slice (some ⟨g, 0, none⟩) (us.length + 1) c)).heap[i]? = w4.heap[i]? := fun i hi => heap_setCell_other w4 _ i _ hi
  have sz : (w4.setCell ⟨w.heap.size + 2, 14, none⟩ (.slice (some ⟨g, 0, none⟩) (us.length + 1) c)).heap.size = w4.heap.size := by
    show (w4.heap.modify _ _).size = _
    simp
  have b3' : Blk w4 (w.heap.size + 2) (h.cells v) 44 := (hb4 _ (by omega)).trans q.b3
  refine ⟨fp', ⟨?_, ?_, ?_, ?_, ?_⟩⟩
  · refine ⟨?_, ?_, ?_, ?_, ?_⟩
    · exact hgr.os.trans (hg3.os.trans q.bel.os)
    · exact hgr.tape.trans (hg3.tape.trans q.bel.tape)
    · exact hgr.output.trans (hg3.output.trans q.bel.output)
    · rw [sz]; have := hgr.size; have := hg3.size; omega
    · intro i hi
      rw [ne i (by omega), hb4 i (by omega)]
      exact q.bel.block i hi
  · exact (ne _ (by omega)).trans ((hb4 _ (by omega)).trans q.b1)
  · exact (ne _ (by omega)).trans ((hb4 _ (by omega)).trans q.b2)
  · exact b3'.set 14 _
  · refine ⟨ow4.own.mono (fun b hb => ne b (by have := (ow4.new b hb).1; omega)), ow4.nodup, fun b hb => ?_⟩
    rw [sz]; exact ow4.new b hb
end Go.Proofs.YtbkcebbddhaifaaGreatDoor
namespace Go.Proofs.YtbkcebbddhaifaaGreatDoor
open Go.RowKit

theorem ownsRow_below {w w' : World} {B : Nat} {e : TypeId} {k : Nat} {v : Value} {n : Nat} {xs : List Value} (h : w.ownsRow B e k v n xs) (g : Below w.heap.size w w') : w'.ownsRow B e k v n xs :=
  h.kept ⟨g.os, g.tape, g.output, g.size, fun i hi _ => g.block i hi⟩ (row := none) (by cases hv : v.ownBlock <;> simp)
theorem hd_ones (h : Hd) {sl : Value} (hs : sl.oneCell' = true) : ∀ u ∈ h.cells sl, u.oneCell' = true := by
  intro u hu
  have := h.one hs
  rw [Array.all_eq_true'] at this
  exact this u (by simpa using hu)
theorem rangeAt_alloc_two (w : World) (cs : List Value) (t : TypeId) (o : Obj) : ((w.alloc (.cells cs.toArray t)).alloc o).rangeAt w.heap.size 0 cs := by
  have := ((Blk.new w cs t).alloc o)
  intro j v hj
  rw [Nat.zero_add]
  exact this.cell hj
set_option maxRecDepth 20000 in
set_option maxHeartbeats 8000000 in
theorem ownNode_any (N : Nat) : ∀ (t : Nd) (sl : Value) (F : Nat → Prop) (w : World), t.size ≤ N → t.size ≤ 1048576 → NdIn w F sl t →
    Calls Tryz.prog 146 #[t.hd.val sl] w fun e w' => ∃ sl' fp, e = .returned (t.hd.val sl') ∧ Own w' w.heap.size sl' t fp ∧ Below w.heap.size w w' := by
  induction N with
  | zero => intro t sl F w h; have := size_pos t; omega
  | succ N ih =>
    intro t sl F w hN hm hin
    obtain ⟨h, ts⟩ := t
    rw [NdIn] at hin
    obtain ⟨a, c, rfl, _, _, h4⟩ := hin
    have hsz : Hid ((Nd.mk h ts).size = 1 + sizeL ts) := by show _ = _; rw [Nd.size]
    have HN : Hid ((Nd.mk h ts).size ≤ N + 1) := hN
    have HM : Hid ((Nd.mk h ts).size ≤ 1048576) := hm
    have IH : Hid (∀ (t : Nd) (sl : Value) (F : Nat → Prop) (w : World), t.size ≤ N → t.size ≤ 1048576 → NdIn w F sl t →
      Calls Tryz.prog 146 #[t.hd.val sl] w fun e w' => ∃ sl' fp, e = .returned (t.hd.val sl') ∧ Own w' w.heap.size sl' t fp ∧ Below w.heap.size w w') := ih
    have H4 : Hid ((ts = [] ∧ (c = 0 ∨ a ≠ none)) ∨ ∃ b o, a = some ⟨b, o, none⟩ ∧ F b ∧ NdsIn w F b o ts) := h4
    have hln := length_sizeL ts
    have HLM : Hid (ts.length ≤ 1048576) := by show _ ≤ _; have := hsz.out; omega
    clear ih hN hm h4 hln
    simp only [Nd.hd]
    generalize hn : ts.length = n at *
    have HL : Hid (ts.length = n) := hn
    clear hn
    obtain ⟨W0, hW0⟩ : ∃ W0, (((w.alloc (.cells (h.cells (.slice a n c)).toArray 44)).alloc (.cells [.int .i64 0, .int .i64 0, .float .f64 0, .string ⟨#[]⟩, .bool false, .int .i64 0, .int .i64 0, .int .i64 0, .bool false, .bool false, .int .i64 0, .int .i64 0, .bool false, .bool false, .slice none 0 0].toArray 44)).alloc (.cells (h.cells (.slice none 0 0)).toArray 44)) = W0 := ⟨_, rfl⟩
    have OS := OwAt.start (w := w) (h.cells (.slice a n c)) [.int .i64 0, .int .i64 0, .float .f64 0, .string ⟨#[]⟩, .bool false, .int .i64 0, .int .i64 0, .int .i64 0, .bool false, .bool false, .int .i64 0, .int .i64 0, .bool false, .bool false, .slice none 0 0] h
    rw [hW0] at OS
    have HOS : Hid (OwAt w W0 (h.cells (.slice a n c)) [.int .i64 0, .int .i64 0, .float .f64 0, .string ⟨#[]⟩, .bool false, .int .i64 0, .int .i64 0, .int .i64 0, .bool false, .bool false, .int .i64 0, .int .i64 0, .bool false, .bool false, .slice none 0 0] h [] (.slice none 0 0) []) := OS
    have RR : Hid (∀ o, ((w.alloc (.cells (h.cells (.slice a n c)).toArray 44)).alloc o).rangeAt w.heap.size 0 (h.cells (.slice a n c))) := fun o => rangeAt_alloc_two w _ _ o
    clear OS
    obtain ⟨k, o', x, s, bb, f, c1, r1, p1, q1, c2, r2, p2, q2⟩ := h
    have HW : Hid ((((w.alloc (.cells #[.int .i64 k, .int .i64 o', .float .f64 x, .string s, .bool bb, .int .i64 f, .int .i64 c1, .int .i64 r1, .bool p1, .bool q1, .int .i64 c2, .int .i64 r2, .bool p2, .bool q2, .slice a n c] 44)).alloc (.cells #[.int .i64 0, .int .i64 0, .float .f64 0, .string ⟨#[]⟩, .bool false, .int .i64 0, .int .i64 0, .int .i64 0, .bool false, .bool false, .int .i64 0, .int .i64 0, .bool false, .bool false, .slice none 0 0] 44)).alloc (.cells #[.int .i64 k, .int .i64 o', .float .f64 x, .string s, .bool bb, .int .i64 f, .int .i64 c1, .int .i64 r1, .bool p1, .bool q1, .int .i64 c2, .int .i64 r2, .bool p2, .bool q2, .slice none 0 0] 44)) = W0) := hW0
    clear hW0
    obtain ⟨i0, hi, hz0, hz1, hz2⟩ := infoNodeI
    go_enter Tryz.func146, Tryz.ntmps146
    go_wp2_with (first | (refine wpList_load_mid rfl 44 (.tmp 1) rfl w.heap.size 0 rfl (Hd.cells ⟨k, o', x, s, bb, f, c1, r1, p1, q1, c2, r2, p2, q2⟩ (.slice a n c)) _ (RR.out _) Tryz.underlying44 rfl infoNode ?_) | (refine wpList_store_new rfl 44 (.tmp 3) (.tmp 5) rfl _ _ _ _ _ (by first | rfl | simp) rfl rfl rfl infoNode (Hd.one ⟨k, o', x, s, bb, f, c1, r1, p1, q1, c2, r2, p2, q2⟩ rfl) ?_))
    rw [HW.out]
    clear HW RR
    go_loopw [4] (fun i wr => ∃ (q : Nat) (v : Value) (fp : List Nat), q ≤ n ∧ i = .int .i64 q ∧ OwAt w wr (Hd.cells ⟨k, o', x, s, bb, f, c1, r1, p1, q1, c2, r2, p2, q2⟩ (.slice a n c)) [.int .i64 0, .int .i64 0, .float .f64 0, .string ⟨#[]⟩, .bool false, .int .i64 0, .int .i64 0, .int .i64 0, .bool false, .bool false, .int .i64 0, .int .i64 0, .bool false, .bool false, .slice none 0 0] ⟨k, o', x, s, bb, f, c1, r1, p1, q1, c2, r2, p2, q2⟩ (ts.take q) v fp) (fun i _ => n - (intOf i).toNat)
    case atStart => exact ⟨0, .slice none 0 0, [], Nat.zero_le _, rfl, by rw [List.take_zero]; exact HOS.out⟩
    case round =>
      obtain ⟨q, v, fp, hq, rfl, hat⟩ := hrel
      have AT : Hid (OwAt w wr (Hd.cells ⟨k, o', x, s, bb, f, c1, r1, p1, q1, c2, r2, p2, q2⟩ (.slice a n c)) [.int .i64 0, .int .i64 0, .float .f64 0, .string ⟨#[]⟩, .bool false, .int .i64 0, .int .i64 0, .int .i64 0, .bool false, .bool false, .int .i64 0, .int .i64 0, .bool false, .bool false, .slice none 0 0] ⟨k, o', x, s, bb, f, c1, r1, p1, q1, c2, r2, p2, q2⟩ (ts.take q) v fp) := hat
      have hlt3 := hat.lt
      have x14 : wr.cell? ⟨w.heap.size, 14, none⟩ = some (.slice a n c) := hat.b1.cell rfl
      by_cases hlt : q < n
      · have hqt : q < ts.length := by rw [HL.out]; exact hlt
        obtain ⟨b, o, rfl, hFb, hns⟩ : ∃ b o, a = some ⟨b, o, none⟩ ∧ F b ∧ NdsIn w F b o ts := by
          rcases H4.out with h | h
          · rw [h.1] at hqt; simp at hqt
          · exact h
        obtain ⟨s1, hr, hni⟩ := hns.get q hqt
        obtain ⟨pv, lv, cv, rfl⟩ := ndOwn_slice hat.own.own
        obtain ⟨xs, hxs⟩ := hat.own.row
        have hul : Hid ((ts.take q).length = q) := by show _ = _; rw [List.length_take]; omega
        have hbw : b < w.heap.size := rangeAt_lt hr
        have HS : Hid (∀ wq, Below (w.heap.size + 3) wr wq → wq.cell? ⟨w.heap.size, 14, none⟩ = some (.slice (some ⟨b, o, none⟩) n c) ∧ wq.cell? ⟨w.heap.size + 2, 14, none⟩ = some (.slice pv lv cv)) := fun wq hk => ⟨(hk.cell (by simp)).trans (hat.b1.cell rfl), (hk.cell (by simp)).trans (hat.b3.cell rfl)⟩
        have HR : Hid (∀ wq, Below (w.heap.size + 3) wr wq → wq.rangeAt b (o + q * 15) ((ts[q]).hd.cells s1)) := fun wq hk => rangeAt_block hr ((hk.block b (by omega)).trans (hat.bel.block b hbw))
        have hs1 := size_get ts q hqt
        have hni' : ∀ wq, Below wr.heap.size wr wq → NdIn wq F s1 ts[q] := fun wq hk => hni.mono fun b hb hl => ⟨(hk.block b (by omega)).trans (hat.bel.block b hl), hb⟩
        have HC : Hid (∀ wq, Below wr.heap.size wr wq → Calls Tryz.prog 146 #[(ts[q]).hd.val s1] wq fun e w' => ∃ sl' fp, e = .returned ((ts[q]).hd.val sl') ∧ Own w' wq.heap.size sl' (ts[q]) fp ∧ Below wq.heap.size wq w') := fun wq hq => IH.out ts[q] s1 F wq (by have := HN.out; have := hsz.out; omega) (by have := HM.out; have := hsz.out; omega) (hni' wq hq)
        have hu3 : Hid (ts.take (q + 1) = ts.take q ++ [ts[q]]) := by show _ = _; rw [List.take_add_one, List.getElem?_eq_getElem hqt]; rfl
        have O1 : Hid (s1.oneCell' = true) := hni.one
        clear hs1 hni hni' hr hns
        generalize ts[q] = u at *
        generalize ts.take q = us at *
        have hkb : (q : Int) + 1 ≤ 9223372036854775807 := by have := HLM.out; omega
        have hq0 : (0 : Int) ≤ (q : Int) := by omega
        have hqn : (q : Int) < (n : Int) := by omega
        have HX3 : Hid (∀ w2, Below wr.heap.size wr w2 → ∀ o, (w2.alloc o).ownsRow (w.heap.size + 3) 44 15 (.slice pv lv cv) us.length xs) := fun w2 h2 o => (ownsRow_below hxs h2).alloc o
        clear hat hxs
        go_wp2_with fail
        refine wp_region_noPanic ?_
        refine wp_region_but (fun w' : World => Below (w.heap.size + 3) wr w') 11 (by kernel_rfl) ((Below.refl _ _).drew) (fun hHeld => ?_)
        refine wpBut_takes (i := 0) (v := ?_) (some 14) rfl rfl (by kernel_rfl) (by kernel_rfl) (by kernel_rfl) (by kernel_rfl) (fun _ _ _ h => h) (Or.inl ⟨by rfl, ?_⟩) hHeld ?_
        rotate_left
        · intro w' hSw; obtain ⟨s0, s1⟩ := HS.out _ hSw; clear hSw; go_simp; try with_reducible rfl
        simp only [Act.put, List.setIfInBounds_toArray, List.set_cons_zero, List.set_cons_succ]
        refine wpBut_takes (i := 1) (v := ?_) (some 15) rfl rfl (by kernel_rfl) (by kernel_rfl) (by kernel_rfl) (by kernel_rfl) (fun _ _ _ h => h) (Or.inl ⟨by rfl, ?_⟩) hHeld ?_
        rotate_left
        · intro w' hSw; obtain ⟨s0, s1⟩ := HS.out _ hSw; clear hSw; go_simp; try with_reducible rfl
        simp only [Act.put, List.setIfInBounds_toArray, List.set_cons_zero, List.set_cons_succ]
        refine wpBut_takes (i := 2) (v := ?_) (some 16) rfl rfl (by kernel_rfl) (by kernel_rfl) (by kernel_rfl) (by kernel_rfl) (fun _ _ _ h => h) (Or.inl ⟨by rfl, ?_⟩) hHeld ?_
        rotate_left
        · intro w' hSw; obtain ⟨s0, s1⟩ := HS.out _ hSw; clear hSw; go_simp; try with_reducible rfl
        simp only [Act.put, List.setIfInBounds_toArray, List.set_cons_zero, List.set_cons_succ]
        refine wpBut_takes (i := 3) (v := ?_) (some 17) rfl rfl (by kernel_rfl) (by kernel_rfl) (by kernel_rfl) (by kernel_rfl) (fun _ _ _ h => h) (Or.inl ⟨by rfl, ?_⟩) hHeld ?_
        rotate_left
        · intro w' hSw; obtain ⟨s0, s1⟩ := HS.out _ hSw; clear hSw; go_simp; try with_reducible rfl
        simp only [Act.put, List.setIfInBounds_toArray, List.set_cons_zero, List.set_cons_succ]
        refine wpBut_takes (i := 4) (v := ?_) (some 18) rfl rfl (by kernel_rfl) (by kernel_rfl) (by kernel_rfl) (by kernel_rfl) (fun _ _ _ h => h) (Or.inl ⟨by rfl, ?_⟩) hHeld ?_
        rotate_left
        · intro w' hSw; obtain ⟨s0, s1⟩ := HS.out _ hSw; clear hSw; go_simp; try with_reducible rfl
        simp only [Act.put, List.setIfInBounds_toArray, List.set_cons_zero, List.set_cons_succ]
        refine wpBut_takes (i := 5) (v := ?_) (some 19) rfl rfl (by kernel_rfl) (by kernel_rfl) (by kernel_rfl) (by kernel_rfl) (fun _ _ _ h => h) (Or.inl ⟨by rfl, ?_⟩) hHeld ?_
        rotate_left
        · intro w' hSw; obtain ⟨s0, s1⟩ := HS.out _ hSw; clear hSw; go_simp; try with_reducible rfl
        simp only [Act.put, List.setIfInBounds_toArray, List.set_cons_zero, List.set_cons_succ]
        refine wpBut_takes (i := 6) (v := u.hd.val s1) (some 20) rfl rfl (by kernel_rfl) (by kernel_rfl) (by kernel_rfl) (by kernel_rfl) (fun _ _ _ h => h) (Or.inl ⟨by rfl, fun w' hSw => exec_node_at (u.hd.cells s1) rfl rfl (HR.out w' hSw) rfl⟩) hHeld ?_
        simp only [Act.put, List.setIfInBounds_toArray, List.set_cons_zero, List.set_cons_succ]
        refine wpBut_step (i := 7) (by kernel_rfl) rfl rfl (fun K hK => ?_)
        go_simp
        refine (HC.out _ ((Below.refl _ _).drew)).mono ?_
        rintro e w2 ⟨su, fu, rfl, hown, hbl⟩
        have hb2 : Below wr.heap.size wr w2 := ((Below.refl wr.heap.size wr).drew).trans hbl
        have HB2 : Hid (Below wr.heap.size wr w2) := hb2
        have HU : Hid (Own w2 wr.heap.size su u fu) := hown
        refine hK.out _ _ (fun _ => hb2.mono hlt3) (fun _ => ?_)
        clear hK K hHeld hown hbl HC HS HR x14
        refine wpBut_step (i := 8) (by kernel_rfl) rfl rfl (fun K hK => ?_)
        go_simp
        refine hK.out _ _ (fun _ => (hb2.alloc hb2.size _).mono hlt3) (fun _ => ?_)
        clear hK K
        refine wpBut_step (i := 9) (by kernel_rfl) rfl rfl (fun K hK => ?_)
        refine wp_append_tell _ (.tmp 15) (.tmp 22) 42 rfl (w.heap.size + 3) 44 i0 _ 15 128 Tryz.underlying42 hi hz0 hz1 hz2 rfl (by decide) (.slice pv lv cv) us.length xs rfl (HX3.out w2 HB2.out _) ⟨w2.heap.size, 0, none⟩ 1 1 (u.hd.cells su) rfl rfl ?c1 ?c2 (by decide) ?c3 ?c4 ?c5 ?_
        case c1 =>
          intro j u' hj
          rw [addr_at, Nat.zero_add]
          exact (Blk.new w2 (u.hd.cells su) 44).cell hj
        case c2 => exact hd_ones u.hd HU.out.own.one
        case c3 => rw [hul.out]; unfold maxLen; omega
        case c4 => rw [hul.out]; have := HLM.out; omega
        case c5 => have := hb2.size; simp [World.size_alloc]; omega
        intro g c' w4 ho hgr ht
        obtain ⟨fp', hat5⟩ := AT.out.step HB2.out (Nat.le_refl _) HU.out (HX3.out w2 HB2.out _) ho hgr ht
        have h4b : Below (w.heap.size + 3) wr w4 := by
          refine ⟨hgr.os.trans hb2.os, hgr.tape.trans hb2.tape, hgr.output.trans hb2.output, ?_, fun i hi => ?_⟩
          · have h1 := hgr.size; have h2 := hb2.size; rw [World.size_alloc] at h1; omega
          · rw [hgr.block i (by rw [World.size_alloc]; have := hb2.size; omega) (fun e => by have := ((HX3.out w2 HB2.out (.cells #[] 0)).lt i e.symm).1; omega), Below.heap_alloc _ _ _ (by have := hb2.size; omega)]
            exact hb2.block i (by omega)
        have A5 : Hid (OwAt w _ _ _ _ _ _ fp') := hat5
        refine hK.out _ _ (fun _ => h4b) (fun hHeld => ?_)
        have f3 : w4.frozen? ⟨w.heap.size + 2, 14, none⟩ = false := by
          have : Blk w4 (w.heap.size + 2) _ 44 := (h4b.block _ (by omega)).trans AT.out.b3
          exact this.froz _
        have c3 : w4.cell? ⟨w.heap.size + 2, 14, none⟩ = some (.slice pv lv cv) := by
          have : Blk w4 (w.heap.size + 2) _ 44 := (h4b.block _ (by omega)).trans AT.out.b3
          exact this.cell rfl
        clear hK K hat5 ho hgr ht h4b hb2
        simp only [Act.put, List.setIfInBounds_toArray]
        refine wpBut_step (i := 10) (by kernel_rfl) rfl rfl (fun K hK => ?_)
        go_simp
        refine hK.out _ _ (fun _ => hHeld (by decide)) (fun _ => ?_)
        clear hK K
        refine wpBut_step (i := 11) (by kernel_rfl) rfl rfl (fun K hK => ?_)
        go_simp
        refine hK.out _ _ (fun h => absurd rfl h) (fun _ => ?_)
        clear hK K hHeld c3 f3
        refine wpBut_done (by kernel_rfl) ?_
        refine NoPanic.normal ?_
        go_wp2_with fail
        go_roundw
        case rel => exact ⟨q + 1, _, fp', by omega, by go_num, by rw [hu3.out]; exact A5.out⟩
        case measure => simp only [intOf]; omega
      · have hqe : q = n := by omega
        subst hqe
        have hqn : ¬ ((q : Int) < (q : Int)) := by omega
        have hall : ts.take q = ts := by rw [List.take_of_length_le (by rw [HL.out]; exact Nat.le_refl _)]
        have R3 : Hid (wr.rangeAt (w.heap.size + 2) 0 (Hd.cells ⟨k, o', x, s, bb, f, c1, r1, p1, q1, c2, r2, p2, q2⟩ v)) := fun j u hj => by rw [Nat.zero_add]; exact hat.b3.cell hj
        have T1 : Hid (wr.there (w.heap.size + 1) 0 15) := there_of_block hat.b2 _ _ (by simp)
        obtain ⟨W5, hW5⟩ : ∃ W5, wr.setCells (w.heap.size + 1) 0 (Hd.cells ⟨k, o', x, s, bb, f, c1, r1, p1, q1, c2, r2, p2, q2⟩ v) = W5 := ⟨_, rfl⟩
        have HW5 : Hid (wr.setCells (w.heap.size + 1) 0 (Hd.cells ⟨k, o', x, s, bb, f, c1, r1, p1, q1, c2, r2, p2, q2⟩ v) = W5) := hW5
        have E1 : Hid (W5.heap[w.heap.size + 1]? = some (.cells (Hd.cells ⟨k, o', x, s, bb, f, c1, r1, p1, q1, c2, r2, p2, q2⟩ v).toArray 44 (0, 0))) := by
          show _ = _
          rw [← hW5]
          exact heap_setCells_whole (cs := (Hd.cells ⟨k, o', x, s, bb, f, c1, r1, p1, q1, c2, r2, p2, q2⟩ v).toArray) hat.b2 (by simp)
        have OW : Hid (Own W5 w.heap.size v (.mk ⟨k, o', x, s, bb, f, c1, r1, p1, q1, c2, r2, p2, q2⟩ (ts)) fp) := by
          show Own _ _ _ _ _
          rw [← hall, ← hW5]
          refine ⟨hat.own.own.mono (fun b hb => heap_setCells_ne (by have := (hat.own.new b hb).1; omega) _ _ _), hat.own.nodup, fun b hb => ?_⟩
          rw [size_setCells]
          exact ⟨by have := (hat.own.new b hb).1; omega, (hat.own.new b hb).2⟩
        have BW : Hid (Below w.heap.size w W5) := by
          show Below _ _ _
          rw [← hW5]
          exact setCells_below hat.bel (Nat.le_succ _) _ _
        have O1 : Hid (v.oneCell' = true) := hat.own.own.one
        clear hat AT IH H4 HOS hW5 hall
        go_wp2_with (first | (refine wpList_load_mid rfl 44 (.tmp 3) rfl (w.heap.size + 2) 0 rfl (Hd.cells ⟨k, o', x, s, bb, f, c1, r1, p1, q1, c2, r2, p2, q2⟩ v) _ R3.out Tryz.underlying44 rfl infoNode ?_) | (refine wpList_store_to rfl 44 (.tmp 2) (.tmp 25) rfl (w.heap.size + 1) 0 _ rfl rfl T1.out infoNode (Hd.one ⟨k, o', x, s, bb, f, c1, r1, p1, q1, c2, r2, p2, q2⟩ O1.out) W5 HW5.out ?_))
        refine bodyPost_ret (results_cell_row rfl _ _ (w.heap.size + 1) 44 _ (0, 0) _ rfl E1.out Tryz.underlying44 rfl infoNode) rfl ?_
        exact ⟨_, rfl, ⟨_, OW.out⟩, BW.out⟩
end Go.Proofs.YtbkcebbddhaifaaGreatDoor
