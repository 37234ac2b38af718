/- Groups of cells that hang on one another, as a walk finds them: what holds ahead of a walk, within it and behind it. No program here. Circles: the fewest steps that lead to a cell, as a search in breadth finds them; the first one of the shortest circles. No program here. A walk in depth that marks what it meets: what holds ahead of it, within it and behind it. No program here. The search in breadth of the document's far: how it stands, and what it comes to. No program here. -/

namespace Go.Proofs.YtdlieecpckpemaaGreatDoor.Tj
variable (n : Nat) (E : Nat → Nat → Prop)
/-- It leads there, in any number of steps. -/
inductive Rc : Nat → Nat → Prop
  | refl (a : Nat) : Rc a a
  | step {a b c : Nat} (h : E a b) (t : Rc b c) : Rc a c
variable {n E}
theorem Rc.trans {a b c : Nat} (h : Rc E a b) (t : Rc E b c) : Rc E a c := by
  induction h with
  | refl => exact t
  | step e _ ih => exact .step e (ih t)
theorem Rc.one {a b : Nat} (h : E a b) : Rc E a b := .step h (.refl b)
/-- A path that leaves a set has an edge that leaves it. -/
theorem Rc.leaves {S : Nat → Prop} {a c : Nat} (h : Rc E a c) (ha : S a) (hc : ¬ S c) : ∃ x y, S x ∧ E x y ∧ ¬ S y ∧ Rc E y c := by
  induction h with
  | refl => exact absurd ha hc
  | @step a b c e t ih =>
    by_cases hb : S b
    · exact ih hb hc
    · exact ⟨a, b, ha, e, hb, t⟩
/-- It hangs on itself. -/
def Cy (E : Nat → Nat → Prop) (x : Nat) : Prop := ∃ y, E x y ∧ Rc E y x
theorem Cy.of_two {x y : Nat} (hne : x ≠ y) (h : Rc E x y) (g : Rc E y x) : Cy E x := by
  cases h with
  | refl => exact absurd rfl hne
  | step e t => exact ⟨_, e, t.trans g⟩
/-- How it stands: the numbers (0: not met; n + 1: its group is known), what is open (met, and its group not known), how many were met, which are told. -/
structure St where
  met : Nat → Nat
  op : List Nat
  cnt : Nat
  out : Nat → Prop
/-- How many are met. -/
def mets (n : Nat) (met : Nat → Nat) : Nat := ((List.range n).filter fun x => decide (met x ≠ 0)).length
/-- What holds, G being those whose walk has not ended. -/
structure Inv (n : Nat) (E : Nat → Nat → Prop) (G : Nat → Prop) (s : St) : Prop where
  num : mets n s.met = s.cnt
  lt : ∀ x ∈ s.op, x < n
  op : ∀ x, x < n → (x ∈ s.op ↔ s.met x ≠ 0 ∧ s.met x ≠ n + 1)
  le : ∀ x ∈ s.op, s.met x ≤ s.cnt
  rise : s.op.Pairwise fun a b => s.met a < s.met b
  gray : ∀ g, G g → g ∈ s.op
  back : ∀ x ∈ s.op, ∃ g, G g ∧ s.met g ≤ s.met x ∧ Rc E x g
  fore : ∀ g y, G g → y ∈ s.op → s.met g ≤ s.met y → Rc E g y
  done : ∀ x y, x < n → s.met x ≠ 0 → ¬ G x → E x y → s.met y ≠ 0
  shut : ∀ x y, x < n → s.met x = n + 1 → E x y → s.met y = n + 1
  out : ∀ x, x < n → (s.out x ↔ s.met x = n + 1 ∧ Cy E x)
theorem mets_le (n : Nat) (met : Nat → Nat) : mets n met ≤ n := by
  unfold mets
  exact Nat.le_trans (List.length_filter_le _ _) (by simp)
theorem mets_lt {n : Nat} {met : Nat → Nat} {v : Nat} (hv : v < n) (h0 : met v = 0) : mets n met < n := by
  rcases Nat.lt_or_ge (mets n met) n with h | h
  · exact h
  · exfalso
    have h1 : ((List.range n).filter fun x => decide (met x ≠ 0)).length = (List.range n).length := by
      have := mets_le n met
      unfold mets at this h
      rw [List.length_range]; omega
    have h2 := (List.length_filter_eq_length_iff.1 h1) v (List.mem_range.2 hv)
    simp [h0] at h2
def upd (f : Nat → Nat) (v k : Nat) : Nat → Nat := fun x => if x = v then k else f x
theorem mets_upd {met : Nat → Nat} {v k : Nat} (h0 : met v = 0) (hk : k ≠ 0) : ∀ n, mets n (upd met v k) = mets n met + (if v < n then 1 else 0) := by
  intro n
  induction n with
  | zero => simp [mets]
  | succ n ih =>
    unfold mets at ih ⊢
    rw [List.range_succ, List.filter_append, List.filter_append, List.length_append, List.length_append, ih]
    by_cases hn : n = v
    · subst hn
      simp [upd, h0, hk]
    · have : upd met v k n = met n := by unfold upd; rw [if_neg hn]
      have e : ([n].filter fun x => decide (upd met v k x ≠ 0)) = [n].filter fun x => decide (met x ≠ 0) := by
        apply List.filter_congr
        intro x hx
        rw [List.mem_singleton] at hx
        rw [hx, this]
      rw [e]
      by_cases h1 : v < n
      · rw [if_pos h1, if_pos (by omega)]; omega
      · rw [if_neg h1, if_neg (by omega)]; omega
/-- What a walk from v leaves, and what it tells. -/
structure Post (n : Nat) (E : Nat → Nat → Prop) (G : Nat → Prop) (s : St) (v r : Nat) (s' : St) : Prop where
  inv : Inv n E G s'
  keep : ∀ x, s.met x ≠ 0 → s'.met x = s.met x
  cnt : s.cnt ≤ s'.cnt
  met : s'.met v ≠ 0
  pos : 0 < r
  new : ∃ l, s'.op = s.op ++ l ∧ (∀ x ∈ l, s.cnt < s'.met x) ∧ (∀ x ∈ l, ∀ y ∈ s.op, E x y → r ≤ s.met y)
  tell : s.cnt < r ∨ ∃ y ∈ s.op, r = s.met y ∧ Rc E v y
/-- Within the walk from v: what it has met is l, the least number that it has seen is m, the users in us are gone over. -/
structure Mid (n : Nat) (E : Nat → Nat → Prop) (G : Nat → Prop) (s : St) (v : Nat) (us : List Nat) (l : List Nat) (m : Nat) (s1 : St) : Prop where
  inv : Inv n E (fun x => x = v ∨ G x) s1
  keep : ∀ x, s.met x ≠ 0 → s1.met x = s.met x
  cnt : s.cnt < s1.cnt
  num : s1.met v = s.cnt + 1
  op : s1.op = s.op ++ v :: l
  gt : ∀ x ∈ l, s.cnt + 1 < s1.met x
  pos : 0 < m
  le : m ≤ s.cnt + 1
  tell : m = s.cnt + 1 ∨ ∃ y ∈ s.op, m = s.met y ∧ Rc E v y
  went : ∀ u ∈ us, s1.met u ≠ 0 ∧ (u ∈ s.op → m ≤ s.met u)
  low : ∀ x ∈ l, ∀ y ∈ s.op, E x y → m ≤ s.met y
/-- It begins. -/
theorem Inv.enter {G : Nat → Prop} {s : St} (h : Inv n E G s) {v : Nat} (hv : v < n) (h0 : s.met v = 0) (hG : ∀ g, G g → Rc E g v) :
    Mid n E G s v [] [] (s.cnt + 1) ⟨upd s.met v (s.cnt + 1), s.op ++ [v], s.cnt + 1, s.out⟩ := by
  have hc : s.cnt + 1 ≤ n := by have := mets_lt hv h0; rw [h.num] at this; omega
  have hno : v ∉ s.op := fun q => ((h.op v hv).1 q).1 h0
  have hne : ∀ x ∈ s.op, x ≠ v := fun x hx e => hno (e ▸ hx)
  have hk : ∀ x, x ≠ v → upd s.met v (s.cnt + 1) x = s.met x := fun x e => by unfold upd; rw [if_neg e]
  have hvv : upd s.met v (s.cnt + 1) v = s.cnt + 1 := by unfold upd; rw [if_pos rfl]
  have hGne : ∀ g, G g → g ≠ v := fun g hg => hne g (h.gray g hg)
  refine ⟨⟨?_, ?_, ?_, ?_, ?_, ?_, ?_, ?_, ?_, ?_, ?_⟩, ?_, ?_, hvv, rfl, fun x hx => absurd hx (by simp), by omega, Nat.le_refl _, .inl rfl, fun u hu => absurd hu (by simp), fun x hx => absurd hx (by simp)⟩
  · show mets n (upd s.met v (s.cnt + 1)) = s.cnt + 1
    rw [mets_upd h0 (by omega), if_pos hv, h.num]
  · intro x hx
    rcases List.mem_append.1 hx with hx | hx
    · exact h.lt x hx
    · rw [List.mem_singleton] at hx; rw [hx]; exact hv
  · intro x hx
    by_cases e : x = v
    · subst e
      show x ∈ s.op ++ [x] ↔ upd s.met x (s.cnt + 1) x ≠ 0 ∧ upd s.met x (s.cnt + 1) x ≠ n + 1
      rw [hvv]
      simp only [List.mem_append, List.mem_singleton, or_true, true_iff]
      omega
    · show x ∈ s.op ++ [v] ↔ upd s.met v (s.cnt + 1) x ≠ 0 ∧ upd s.met v (s.cnt + 1) x ≠ n + 1
      rw [hk x e, List.mem_append, List.mem_singleton]
      rw [← h.op x hx]
      constructor
      · rintro (q | q)
        · exact q
        · exact absurd q e
      · exact .inl
  · intro x hx
    show upd s.met v (s.cnt + 1) x ≤ s.cnt + 1
    rcases List.mem_append.1 hx with hx | hx
    · rw [hk x (hne x hx)]; have := h.le x hx; omega
    · rw [List.mem_singleton] at hx; rw [hx, hvv]; exact Nat.le_refl _
  · show (s.op ++ [v]).Pairwise _
    rw [List.pairwise_append]
    refine ⟨h.rise.imp_of_mem fun {a b} ha hb q => ?_, List.pairwise_singleton _ _, fun a ha b hb => ?_⟩
    · show upd s.met v (s.cnt + 1) a < upd s.met v (s.cnt + 1) b
      rw [hk a (hne a ha), hk b (hne b hb)]; exact q
    · rw [List.mem_singleton] at hb
      subst hb
      show upd s.met b (s.cnt + 1) a < upd s.met b (s.cnt + 1) b
      rw [hk a (hne a ha), hvv]; have := h.le a ha; omega
  · rintro g (e | hg)
    · rw [e]; exact List.mem_append_right _ (List.mem_singleton.2 rfl)
    · exact List.mem_append_left _ (h.gray g hg)
  · intro x hx
    rcases List.mem_append.1 hx with hx | hx
    · obtain ⟨g, hg, h1, h2⟩ := h.back x hx
      refine ⟨g, .inr hg, ?_, h2⟩
      show upd s.met v (s.cnt + 1) g ≤ upd s.met v (s.cnt + 1) x
      rw [hk g (hGne g hg), hk x (hne x hx)]; exact h1
    · rw [List.mem_singleton] at hx
      subst hx
      exact ⟨x, .inl rfl, Nat.le_refl _, .refl x⟩
  · intro g y hg hy hle
    have hle' : upd s.met v (s.cnt + 1) g ≤ upd s.met v (s.cnt + 1) y := hle
    rcases List.mem_append.1 hy with hq | hq
    · rcases hg with e | hg
      · subst e
        rw [hvv, hk y (hne y hq)] at hle'
        have := h.le y hq; omega
      · rw [hk g (hGne g hg), hk y (hne y hq)] at hle'
        exact h.fore g y hg hq hle'
    · rw [List.mem_singleton] at hq
      subst hq
      rcases hg with e | hg
      · subst e; exact .refl _
      · exact hG g hg
  · intro x y hx hm hng he
    show upd s.met v (s.cnt + 1) y ≠ 0
    have e : x ≠ v := fun e => hng (.inl e)
    have hm' : upd s.met v (s.cnt + 1) x ≠ 0 := hm
    rw [hk x e] at hm'
    by_cases ey : y = v
    · subst ey; rw [hvv]; omega
    · rw [hk y ey]; exact h.done x y hx hm' (fun q => hng (.inr q)) he
  · intro x y hx hm he
    have hm' : upd s.met v (s.cnt + 1) x = n + 1 := hm
    show upd s.met v (s.cnt + 1) y = n + 1
    have e : x ≠ v := fun e => by subst e; rw [hvv] at hm'; omega
    rw [hk x e] at hm'
    have := h.shut x y hx hm' he
    have ey : y ≠ v := fun e => by subst e; omega
    rw [hk y ey]; exact this
  · intro x hx
    show s.out x ↔ upd s.met v (s.cnt + 1) x = n + 1 ∧ _
    by_cases e : x = v
    · subst e
      rw [h.out x hx, hvv, h0]
      constructor
      · rintro ⟨q, _⟩; omega
      · rintro ⟨q, _⟩; omega
    · rw [hk x e]; exact h.out x hx
  · intro x hx
    show upd s.met v (s.cnt + 1) x = s.met x
    exact hk x (fun e => hx (e ▸ h0))
  · show s.cnt < s.cnt + 1; omega
/-- What is met in between: v's number is not below. -/
theorem Mid.num_le {G : Nat → Prop} {s s1 : St} {v m : Nat} {us l : List Nat} (h : Mid n E G s v us l m s1) {y : Nat} (hy : y ∈ v :: l) : s.cnt + 1 ≤ s1.met y := by
  rcases List.mem_cons.1 hy with e | e
  · rw [e, h.num]; exact Nat.le_refl _
  · exact Nat.le_of_lt (h.gt y e)
/-- A user that was met already. -/
theorem Mid.seen {G : Nat → Prop} {s s1 : St} {v m : Nat} {us l : List Nat} (hs : Inv n E G s) (h : Mid n E G s v us l m s1) {u : Nat} (hu : u < n) (he : E v u) (h0 : s1.met u ≠ 0) :
    Mid n E G s v (us ++ [u]) l (min m (s1.met u)) s1 := by
  have hc1 : s1.cnt ≤ n := h.inv.num ▸ mets_le n s1.met
  have hop : u ∈ s.op → s1.met u = s.met u := fun q => h.keep u ((hs.op u hu).1 q).1
  have hle : min m (s1.met u) ≤ m := Nat.min_le_left _ _
  refine ⟨h.inv, h.keep, h.cnt, h.num, h.op, h.gt, ?_, Nat.le_trans hle h.le, ?_, ?_, fun x hx y hy q => Nat.le_trans hle (h.low x hx y hy q)⟩
  · have := h.pos; omega
  · by_cases hin : u ∈ s.op
    · rw [hop hin]
      rcases Nat.le_total m (s.met u) with q | q
      · rw [Nat.min_eq_left q]; exact h.tell
      · rw [Nat.min_eq_right q]; exact .inr ⟨u, hin, rfl, .one he⟩
    · have : m ≤ s1.met u := by
        have hm := h.le
        by_cases hk : s1.met u = n + 1
        · rw [hk]; have := h.cnt; omega
        · have hin1 : u ∈ s1.op := (h.inv.op u hu).2 ⟨h0, hk⟩
          rw [h.op] at hin1
          rcases List.mem_append.1 hin1 with q | q
          · exact absurd q hin
          · have := h.num_le q; omega
      rw [Nat.min_eq_left this]; exact h.tell
  · intro x hx
    rcases List.mem_append.1 hx with hx | hx
    · exact ⟨(h.went x hx).1, fun q => Nat.le_trans hle ((h.went x hx).2 q)⟩
    · rw [List.mem_singleton] at hx
      subst hx
      exact ⟨h0, fun q => by rw [← hop q]; exact Nat.min_le_right _ _⟩
/-- A user that is walked from. -/
theorem Mid.walked {G : Nat → Prop} {s s1 s2 : St} {v m r : Nat} {us l : List Nat} (hs : Inv n E G s) (h : Mid n E G s v us l m s1) {u : Nat} (hu : u < n) (he : E v u) (h0 : s1.met u = 0) (hp : Post n E (fun x => x = v ∨ G x) s1 u r s2) :
    ∃ l', Mid n E G s v (us ++ [u]) l' (min m r) s2 := by
  obtain ⟨k, hk1, hk2, hk3⟩ := hp.new
  have hle : min m r ≤ m := Nat.min_le_left _ _
  have hkeep : ∀ x, s.met x ≠ 0 → s2.met x = s.met x := fun x hx => by
    have := h.keep x hx
    rw [hp.keep x (by rw [this]; exact hx), this]
  have hmv : s1.met v ≠ 0 := by rw [h.num]; omega
  have hl1 : ∀ x ∈ l, s1.met x ≠ 0 := fun x hx => by have := h.gt x hx; omega
  have hin1 : ∀ y ∈ s.op, y ∈ s1.op := fun y hy => by rw [h.op]; exact List.mem_append_left _ hy
  have hs0 : ∀ y ∈ s.op, s.met y ≠ 0 := fun y hy => ((hs.op y (hs.lt y hy)).1 hy).1
  refine ⟨l ++ k, hp.inv, hkeep, by have := h.cnt; have := hp.cnt; omega, by rw [hp.keep v hmv, h.num], by rw [hk1, h.op]; simp, ?_, ?_, Nat.le_trans hle h.le, ?_, ?_, ?_⟩
  · intro x hx
    rcases List.mem_append.1 hx with hx | hx
    · rw [hp.keep x (hl1 x hx)]; exact h.gt x hx
    · have := hk2 x hx; have := h.cnt; omega
  · have := h.pos; have := hp.pos; omega
  · have hm := h.le
    have hc := h.cnt
    rcases hp.tell with q | ⟨y, hy, hr, hreach⟩
    · rw [Nat.min_eq_left (by omega)]; exact h.tell
    · rw [h.op] at hy
      rcases List.mem_append.1 hy with q | q
      · have e1 : s1.met y = s.met y := h.keep y (hs0 y q)
        rcases Nat.le_total m r with c | c
        · rw [Nat.min_eq_left c]; exact h.tell
        · rw [Nat.min_eq_right c]; exact .inr ⟨y, q, by rw [hr, e1], .step he hreach⟩
      · have := h.num_le q
        rw [Nat.min_eq_left (by omega)]; exact h.tell
  · intro x hx
    rcases List.mem_append.1 hx with hx | hx
    · have := h.went x hx
      exact ⟨by rw [hp.keep x this.1]; exact this.1, fun q => Nat.le_trans hle (this.2 q)⟩
    · rw [List.mem_singleton] at hx
      subst hx
      exact ⟨hp.met, fun q => absurd (h.keep x (hs0 x q)) (by rw [h0]; exact fun e => hs0 x q e.symm)⟩
  · intro x hx y hy q
    rcases List.mem_append.1 hx with hx | hx
    · exact Nat.le_trans hle (h.low x hx y hy q)
    · have := hk3 x hx y (hin1 y hy) q
      rw [h.keep y (hs0 y hy)] at this
      exact Nat.le_trans (Nat.min_le_right _ _) this
/-- The walk ends, and its group goes on. -/
theorem Mid.leave {G : Nat → Prop} {s s1 : St} {v m : Nat} {us l : List Nat} (hs : Inv n E G s) (h : Mid n E G s v us l m s1) (hus : ∀ u, E v u → u ∈ us) (hlt : m < s.cnt + 1) : Post n E G s v m s1 := by
  have hs0 : ∀ y ∈ s.op, s.met y ≠ 0 := fun y hy => ((hs.op y (hs.lt y hy)).1 hy).1
  have hvop : v ∈ s1.op := by rw [h.op]; exact List.mem_append_right _ List.mem_cons_self
  refine ⟨⟨h.inv.num, h.inv.lt, h.inv.op, h.inv.le, h.inv.rise, fun g hg => h.inv.gray g (.inr hg), ?_, fun g y hg => h.inv.fore g y (.inr hg), ?_, h.inv.shut, h.inv.out⟩, h.keep, Nat.le_of_lt h.cnt, by rw [h.num]; omega, h.pos, ⟨v :: l, h.op, ?_, ?_⟩, ?_⟩
  · intro x hx
    obtain ⟨g, (e | hg), h1, h2⟩ := h.inv.back x hx
    · rw [e] at h1 h2
      rcases h.tell with q | ⟨y, hy, q, hr⟩
      · omega
      · have hy1 : y ∈ s1.op := by rw [h.op]; exact List.mem_append_left _ hy
        have ey := h.keep y (hs0 y hy)
        obtain ⟨g', (e' | hg'), h1', h2'⟩ := h.inv.back y hy1
        · rw [e', h.num, ey] at h1'; omega
        · refine ⟨g', hg', ?_, (h2.trans hr).trans h2'⟩
          rw [h.num] at h1; omega
    · exact ⟨g, hg, h1, h2⟩
  · intro x y hx hm hng he
    by_cases e : x = v
    · subst e; exact (h.went y (hus y he)).1
    · exact h.inv.done x y hx hm (fun q => q.elim e hng) he
  · intro x hx
    have := h.num_le hx; omega
  · intro x hx y hy he
    rcases List.mem_cons.1 hx with e | e
    · subst e; exact (h.went y (hus y he)).2 hy
    · exact h.low x e y hy he
  · rcases h.tell with q | q
    · omega
    · exact .inr q
/-- The walk ends, and its group is known: v and l. -/
theorem Mid.shut {G : Nat → Prop} {s s1 : St} {v m : Nat} {us l : List Nat} (hs : Inv n E G s) (h : Mid n E G s v us l m s1) (hE : ∀ a b, E a b → b < n) (hv : v < n) (hus : ∀ u, E v u → u ∈ us) (hm : m = s.cnt + 1) {s2 : St}
    (hmet : ∀ x, s2.met x = if x ∈ v :: l then n + 1 else s1.met x) (hop : s2.op = s.op) (hcnt : s2.cnt = s1.cnt) (hout : ∀ x, s2.out x ↔ s1.out x ∨ (x ∈ v :: l ∧ (l ≠ [] ∨ E x x))) : Post n E G s v (s.cnt + 1) s2 := by
  have hs0 : ∀ y ∈ s.op, s.met y ≠ 0 := fun y hy => ((hs.op y (hs.lt y hy)).1 hy).1
  have hvop : v ∈ s1.op := by rw [h.op]; exact List.mem_append_right _ List.mem_cons_self
  have hin : ∀ x ∈ v :: l, x ∈ s1.op := fun x hx => by rw [h.op]; exact List.mem_append_right _ hx
  have hnold : ∀ x ∈ s.op, x ∉ v :: l := fun x hx q => by
    have h1 := h.num_le q
    rw [h.keep x (hs0 x hx)] at h1
    have := hs.le x hx; omega
  have hc1 : s1.cnt ≤ n := h.inv.num ▸ mets_le n s1.met
  have hnk : ∀ x ∈ v :: l, s1.met x ≠ n + 1 := fun x hx => ((h.inv.op x (h.inv.lt x (hin x hx))).1 (hin x hx)).2
  have hnz : ∀ x ∈ v :: l, s1.met x ≠ 0 := fun x hx => ((h.inv.op x (h.inv.lt x (hin x hx))).1 (hin x hx)).1
  -- what is known leads to what is known alone
  have kn : ∀ a b, Rc E a b → a < n → s1.met a = n + 1 → s1.met b = n + 1 := by
    intro a b hr
    induction hr with
    | refl => exact fun _ q => q
    | @step a b c e t ih => exact fun ha q => ih (hE a b e) (h.inv.shut a b ha q e)
  -- no edge leaves the group but for what is known
  have edge : ∀ x y, x ∈ v :: l → E x y → y ∈ v :: l ∨ s1.met y = n + 1 := by
    intro x y hx he
    have hy := hE x y he
    have hm0 : s1.met y ≠ 0 := by
      rcases List.mem_cons.1 hx with e | e
      · subst e; exact (h.went y (hus y he)).1
      · by_cases hg : x = v ∨ G x
        · rcases hg with e' | hg
          · subst e'; exact (h.went y (hus y he)).1
          · exact absurd hx (hnold x (hs.gray x hg))
        · exact h.inv.done x y (h.inv.lt x (hin x hx)) (hnz x hx) hg he
    by_cases hk : s1.met y = n + 1
    · exact .inr hk
    · have hy1 := (h.inv.op y hy).2 ⟨hm0, hk⟩
      rw [h.op] at hy1
      rcases List.mem_append.1 hy1 with q | q
      · exfalso
        have hl := hs.le y q
        rcases List.mem_cons.1 hx with e | e
        · subst e
          have := (h.went y (hus y he)).2 q; omega
        · have := h.low x e y q he; omega
      · exact .inl q
  -- all of the group hang on one another
  have fore : ∀ x ∈ v :: l, Rc E v x := fun x hx => h.inv.fore v x (.inl rfl) (hin x hx) (by rw [h.num]; exact h.num_le hx)
  have backw : ∀ x ∈ v :: l, Rc E x v := by
    intro x hx
    obtain ⟨g, (e | hg), h1, h2⟩ := h.inv.back x (hin x hx)
    · rw [e] at h2; exact h2
    · exfalso
      have hgo := hs.gray g hg
      obtain ⟨a, b, ha, hab, hb, hbg⟩ := h2.leaves (S := fun z => z ∈ v :: l) hx (hnold g hgo)
      rcases edge a b ha hab with q | q
      · exact hb q
      · have h3 := kn b g hbg (hE a b hab) q
        rw [h.keep g (hs0 g hgo)] at h3
        exact ((hs.op g (hs.lt g hgo)).1 hgo).2 h3
  have hcy : ∀ x ∈ v :: l, (l ≠ [] ∨ E x x) ↔ Cy E x := by
    intro x hx
    constructor
    · rintro (q | q)
      · -- another one of the group
        obtain ⟨y, hy, hne⟩ : ∃ y ∈ v :: l, x ≠ y := by
          by_cases e : x = v
          · cases l with
            | nil => exact absurd rfl q
            | cons z zs =>
              refine ⟨z, by simp, fun e2 => ?_⟩
              have h1 := h.gt z (by simp)
              rw [← e2, e, h.num] at h1
              omega
          · exact ⟨v, List.mem_cons_self, e⟩
        exact Cy.of_two hne ((backw x hx).trans (fore y hy)) ((backw y hy).trans (fore x hx))
      · exact ⟨x, q, .refl x⟩
    · rintro ⟨y, he, hr⟩
      by_cases hl : l = []
      · subst hl
        simp only [List.mem_singleton] at hx
        rcases edge x y (by simp [hx]) he with q | q
        · simp only [List.mem_singleton] at q
          right; rw [q] at he; rw [hx] at he ⊢; exact he
        · exfalso
          have := kn y x hr (hE x y he) q
          exact hnk x (by simp [hx]) this
      · exact .inl hl
  have hno2 : ∀ x, x ∉ v :: l → s2.met x = s1.met x := fun x hx => by rw [hmet, if_neg hx]
  have hyes2 : ∀ x, x ∈ v :: l → s2.met x = n + 1 := fun x hx => by rw [hmet, if_pos hx]
  have hold : ∀ x ∈ s.op, s2.met x = s.met x := fun x hx => by rw [hno2 x (hnold x hx), h.keep x (hs0 x hx)]
  have hz : ∀ x, s2.met x = 0 ↔ s1.met x = 0 := fun x => by
    by_cases e : x ∈ v :: l
    · rw [hyes2 x e]
      have := hnz x e
      omega
    · rw [hno2 x e]
  refine ⟨⟨?_, ?_, ?_, ?_, ?_, ?_, ?_, ?_, ?_, ?_, ?_⟩, ?_, ?_, ?_, by omega, ⟨[], by rw [hop, List.append_nil], fun x hx => absurd hx (by simp), fun x hx => absurd hx (by simp)⟩, .inl (by omega)⟩
  · rw [hcnt, ← h.inv.num]
    unfold mets
    congr 1
    apply List.filter_congr
    intro x _
    have := hz x
    simp only [ne_eq, this]
  · intro x hx; rw [hop] at hx; exact hs.lt x hx
  · intro x hx
    rw [hop]
    by_cases e : x ∈ v :: l
    · rw [hyes2 x e]
      constructor
      · intro q; exact absurd e (hnold x q)
      · rintro ⟨_, q⟩; exact absurd rfl q
    · rw [hno2 x e, ← h.inv.op x hx, h.op]
      constructor
      · exact List.mem_append_left _
      · intro q
        rcases List.mem_append.1 q with q | q
        · exact q
        · exact absurd q e
  · intro x hx
    rw [hop] at hx
    rw [hold x hx, hcnt]
    have := hs.le x hx; have := h.cnt; omega
  · rw [hop]
    exact hs.rise.imp_of_mem fun {a b} ha hb q => by rw [hold a ha, hold b hb]; exact q
  · intro g hg; rw [hop]; exact hs.gray g hg
  · intro x hx
    rw [hop] at hx
    obtain ⟨g, hg, h1, h2⟩ := hs.back x hx
    exact ⟨g, hg, by rw [hold x hx, hold g (hs.gray g hg)]; exact h1, h2⟩
  · intro g y hg hy hle
    rw [hop] at hy
    rw [hold y hy, hold g (hs.gray g hg)] at hle
    exact hs.fore g y hg hy hle
  · intro x y hx hmx hng he q
    have q' := (hz y).1 q
    have hmx' : s1.met x ≠ 0 := fun e => hmx ((hz x).2 e)
    by_cases e : x = v
    · subst e; exact (h.went y (hus y he)).1 q'
    · exact h.inv.done x y hx hmx' (fun w => w.elim e hng) he q'
  · intro x y hx hmx he
    by_cases e : x ∈ v :: l
    · rcases edge x y e he with q | q
      · exact hyes2 y q
      · by_cases e2 : y ∈ v :: l
        · exact hyes2 y e2
        · rw [hno2 y e2]; exact q
    · rw [hno2 x e] at hmx
      have := h.inv.shut x y hx hmx he
      by_cases e2 : y ∈ v :: l
      · exact hyes2 y e2
      · rw [hno2 y e2]; exact this
  · intro x hx
    rw [hout]
    by_cases e : x ∈ v :: l
    · rw [hyes2 x e, h.inv.out x hx, ← hcy x e]
      constructor
      · rintro (⟨q, _⟩ | ⟨_, q⟩)
        · exact absurd q (hnk x e)
        · exact ⟨rfl, q⟩
      · rintro ⟨_, q⟩; exact .inr ⟨e, q⟩
    · rw [hno2 x e, h.inv.out x hx]
      constructor
      · rintro (q | ⟨q, _⟩)
        · exact q
        · exact absurd q e
      · exact .inl
  · intro x hx
    have hk := h.keep x hx
    by_cases e : x ∈ v :: l
    · exfalso
      have hxo := hin x e
      have h1 := h.inv.op x (h.inv.lt x hxo)
      have h2 := h1.1 hxo
      rw [hk] at h2
      exact hnold x ((hs.op x (h.inv.lt x hxo)).2 h2) e
    · rw [hno2 x e]; exact hk
  · rw [hcnt]; exact Nat.le_of_lt h.cnt
  · rw [hyes2 v List.mem_cons_self]; omega
/-- Nothing is met. -/
theorem Inv.start : Inv n E (fun _ => False) ⟨fun _ => 0, [], 0, fun _ => False⟩ := by
  refine ⟨by simp [mets], fun x hx => absurd hx (by simp), fun x _ => by simp, fun x hx => absurd hx (by simp), .nil, fun _ q => q.elim, fun x hx => absurd hx (by simp), fun _ _ q => q.elim, fun x _ _ q => absurd rfl q, fun x _ _ q => by simp at q, fun x _ => by simp⟩
/-- Between two walks nothing is open. -/
theorem Inv.none {s : St} (h : Inv n E (fun _ => False) s) : s.op = [] := by
  cases hop : s.op with
  | nil => rfl
  | cons x xs =>
    obtain ⟨g, q, _⟩ := h.back x (by rw [hop]; exact List.mem_cons_self)
    exact q.elim
/-- All are met. -/
theorem Inv.all {s : St} (h : Inv n E (fun _ => False) s) (hm : ∀ x, x < n → s.met x ≠ 0) (x : Nat) (hx : x < n) : s.out x ↔ Cy E x := by
  have h1 := h.op x hx
  rw [h.none] at h1
  have : s.met x = n + 1 := by
    have h2 := hm x hx
    by_cases e : s.met x = n + 1
    · exact e
    · exact absurd (h1.2 ⟨h2, e⟩) (by simp)
  rw [h.out x hx]
  exact ⟨fun q => q.2, fun q => ⟨this, q⟩⟩
end Go.Proofs.YtdlieecpckpemaaGreatDoor.Tj
namespace Go.Proofs.YtdlieecpckpemaaGreatDoor.Tj
theorem nodup_len {l : List Nat} : ∀ {r : List Nat}, l.Nodup → (∀ x ∈ l, x ∈ r) → l.length ≤ r.length := by
  induction l with
  | nil => intro r _ _; exact Nat.zero_le _
  | cons a l ih =>
    intro r hn hs
    have ha := hs a List.mem_cons_self
    have h1 := ih (r := r.erase a) (List.nodup_cons.1 hn).2 (fun x hx => (List.mem_erase_of_ne (fun e : x = a => (List.nodup_cons.1 hn).1 (e ▸ hx))).2 (hs x (List.mem_cons_of_mem _ hx)))
    rw [List.length_erase_of_mem ha] at h1
    have : 0 < r.length := List.length_pos_of_mem ha
    simp only [List.length_cons]; omega
theorem nodup_lt {l : List Nat} {N : Nat} (hn : l.Nodup) (h : ∀ x ∈ l, x < N) : l.length ≤ N := by
  have := nodup_len (r := List.range N) hn (fun x hx => List.mem_range.2 (h x hx))
  rwa [List.length_range] at this
/-- In just so many steps p leads to f: p uses one that uses one .. that is f. -/
def Pth (use : Nat → Nat → Prop) (f : Nat) : Nat → Nat → Prop
  | 0, p => p = f
  | d + 1, p => ∃ q, use p q ∧ Pth use f d q
/-- The fewest steps, one at least. -/
def Far (use : Nat → Nat → Prop) (f p d : Nat) : Prop := 1 ≤ d ∧ Pth use f d p ∧ ∀ d', 1 ≤ d' → d' < d → ¬ Pth use f d' p
/-- From p on the first ones, step by step, until none is left. -/
def Chn (use : Nat → Nat → Prop) (f : Nat) : Nat → Nat → List Nat → Prop
  | _, 0, l => l = []
  | p, left + 1, l => ∃ q l', l = q :: l' ∧ (use p q ∧ Far use f q (left + 1)) ∧ (∀ q', q' < q → ¬ (use p q' ∧ Far use f q' (left + 1))) ∧ Chn use f q left l'
variable {use : Nat → Nat → Prop} {f : Nat}
theorem Far.uniq {p d d' : Nat} (h : Far use f p d) (h' : Far use f p d') : d = d' := by
  rcases Nat.lt_trichotomy d d' with q | q | q
  · exact absurd h.2.1 (h'.2.2 d h.1 q)
  · exact q
  · exact absurd h'.2.1 (h.2.2 d' h'.1 q)
theorem Far.next {p d : Nat} (h : Far use f p (d + 2)) : ∃ q, use p q ∧ Far use f q (d + 1) := by
  obtain ⟨_, ⟨q, hu, hp⟩, hm⟩ := h
  exact ⟨q, hu, by omega, hp, fun d' h1 h2 h3 => hm (d' + 1) (by omega) (by omega) ⟨q, hu, h3⟩⟩
theorem Far.of {p d : Nat} (h : Pth use f d p) (hd : 1 ≤ d) : ∃ d', Far use f p d' := by
  induction d using Nat.strongRecOn with
  | _ d ih =>
    by_cases q : ∃ d', 1 ≤ d' ∧ d' < d ∧ Pth use f d' p
    · obtain ⟨d', h1, h2, h3⟩ := q; exact ih d' h2 h3 h1
    · exact ⟨d, hd, h, fun d' h1 h2 h3 => q ⟨d', h1, h2, h3⟩⟩
theorem Chn.uniq : ∀ {left p : Nat} {l l' : List Nat}, Chn use f p left l → Chn use f p left l' → l = l' := by
  intro left
  induction left with
  | zero => intro p l l' h h'; exact h.trans h'.symm
  | succ left ih =>
    intro p l l' h h'
    obtain ⟨q, k, rfl, h1, h2, h3⟩ := h
    obtain ⟨q', k', rfl, h1', h2', h3'⟩ := h'
    have e : q = q' := by
      rcases Nat.lt_trichotomy q q' with c | c | c
      · exact absurd h1 (h2' q c)
      · exact c
      · exact absurd h1' (h2 q' c)
    subst e
    rw [ih h3 h3']
/-- There is a chain. -/
theorem Chn.of {N : Nat} (hN : ∀ p q, use p q → q < N) : ∀ {left p : Nat}, Far use f p (left + 1) → ∃ l, Chn use f p left l ∧ ∀ q ∈ l, q < N := by
  intro left
  induction left with
  | zero => intro p _; exact ⟨[], rfl, fun q h => absurd h (by simp)⟩
  | succ left ih =>
    intro p h
    obtain ⟨q0, hq0⟩ := h.next
    have : ∃ q, (use p q ∧ Far use f q (left + 1)) ∧ ∀ q', q' < q → ¬ (use p q' ∧ Far use f q' (left + 1)) := by
      clear ih
      induction q0 using Nat.strongRecOn with
      | _ q0 ih =>
        by_cases c : ∃ q', q' < q0 ∧ use p q' ∧ Far use f q' (left + 1)
        · obtain ⟨q', c1, c2⟩ := c; exact ih q' c1 c2
        · exact ⟨q0, hq0, fun q' c1 c2 => c ⟨q', c1, c2⟩⟩
    obtain ⟨q, h1, h2⟩ := this
    obtain ⟨l, h3, h4⟩ := ih h1.2
    exact ⟨q :: l, ⟨q, l, rfl, h1, h2, h3⟩, fun x hx => (List.mem_cons.1 hx).elim (fun e => e ▸ hN _ _ h1.1) (h4 x)⟩
/-- The last one of p and a chain uses f; each one uses the next; none stands there twice. -/
theorem Chn.len : ∀ {left p : Nat} {l : List Nat}, Chn use f p left l → l.length = left := by
  intro left
  induction left with
  | zero => intro p l h; rw [show l = [] from h]; rfl
  | succ left ih => intro p l h; obtain ⟨q, k, rfl, _, _, h3⟩ := h; simp [ih h3]
theorem Chn.far : ∀ {left p : Nat} {l : List Nat}, Chn use f p left l → ∀ q ∈ l, ∃ d, 1 ≤ d ∧ d ≤ left ∧ Far use f q d := by
  intro left
  induction left with
  | zero => intro p l h q hq; rw [show l = [] from h] at hq; cases hq
  | succ left ih =>
    intro p l h q hq
    obtain ⟨q', k, rfl, h1, _, h3⟩ := h
    rcases List.mem_cons.1 hq with e | e
    · exact ⟨left + 1, by omega, Nat.le_refl _, e ▸ h1.2⟩
    · obtain ⟨d, a, b, c⟩ := ih h3 q e; exact ⟨d, a, by omega, c⟩
theorem Chn.nodup : ∀ {left p : Nat} {l : List Nat}, Chn use f p left l → Far use f p (left + 1) → (p :: l).Nodup := by
  intro left
  induction left with
  | zero => intro p l h _; rw [show l = [] from h]; simp
  | succ left ih =>
    intro p l h hf
    obtain ⟨q, k, rfl, h1, h2, h3⟩ := h
    refine List.nodup_cons.2 ⟨fun hp => ?_, ih h3 h1.2⟩
    have : ∃ d, 1 ≤ d ∧ d ≤ left + 1 ∧ Far use f p d := Chn.far (left := left + 1) (p := p) ⟨q, k, rfl, h1, h2, h3⟩ p hp
    obtain ⟨d, a, b, c⟩ := this
    have := c.uniq hf; omega
theorem Chn.uses : ∀ {left p : Nat} {l : List Nat}, Chn use f p left l → Far use f p (left + 1) → ∀ (i : Nat) (x : Nat), (p :: l)[i]? = some x → use x (((l ++ [f])[i]?).getD 0) := by
  intro left
  induction left with
  | zero =>
    intro p l h hf i x hx
    rw [show l = [] from h] at hx ⊢
    cases i with
    | zero =>
      have e : p = x := by simpa using hx
      subst e
      obtain ⟨_, ⟨q, hu, hq⟩, _⟩ := hf
      rw [show q = f from hq] at hu
      simpa using hu
    | succ i => simp at hx
  | succ left ih =>
    intro p l h hf i x hx
    obtain ⟨q, k, rfl, h1, h2, h3⟩ := h
    cases i with
    | zero =>
      have e : p = x := by simpa using hx
      subst e
      simpa using h1.1
    | succ i =>
      have := ih h3 h1.2 i x (by simpa using hx)
      simpa using this
/-- How the search in breadth stands: steps (0: not known), line, i: the place in line that is gone over, done: its users that have been. -/
structure Bf (use : Nat → Nat → Prop) (N f : Nat) (steps : Nat → Nat) (line : List Nat) (i : Nat) (done : Nat → Prop) : Prop where
  head : line[0]? = some f
  zero : steps f = 0
  nd : line.Nodup
  lt : ∀ p ∈ line, p < N
  mem : ∀ p, p ≠ f → (p ∈ line ↔ steps p ≠ 0)
  path : ∀ p ∈ line, Pth use f (steps p) p
  rise : ∀ (j k a b : Nat), j ≤ k → line[j]? = some a → line[k]? = some b → steps a ≤ steps b
  near : ∀ c, line[i]? = some c → ∀ p ∈ line, steps p ≤ steps c + 1
  went : ∀ (j c : Nat), j < i → line[j]? = some c → ¬ use f c ∧ ∀ p, use p c → p ≠ f → steps p ≠ 0 ∧ steps p ≤ steps c + 1
  part : ∀ c, line[i]? = some c → ∀ p, done p → use p c → p ≠ f ∧ steps p ≠ 0 ∧ steps p ≤ steps c + 1
theorem Bf.start {N : Nat} (hf : f < N) : Bf use N f (fun _ => 0) [f] 0 (fun _ => False) := by
  refine ⟨rfl, rfl, by simp, fun p hp => by rw [List.mem_singleton] at hp; omega, fun p hp => ?_, fun p hp => ?_, fun j k a b _ _ _ => Nat.le_refl _, fun c _ p _ => by simp, fun j c h => absurd h (by omega), fun c _ p q => q.elim⟩
  · simp [hp]
  · rw [List.mem_singleton] at hp; exact hp
/-- A user that is known. -/
theorem Bf.seen {N : Nat} {steps : Nat → Nat} {line : List Nat} {i : Nat} {done : Nat → Prop} (h : Bf use N f steps line i done) {u : Nat} (hu : u ≠ f) (h0 : steps u ≠ 0) :
    Bf use N f steps line i (fun p => p = u ∨ done p) := by
  refine ⟨h.head, h.zero, h.nd, h.lt, h.mem, h.path, h.rise, h.near, h.went, fun c' hc' p hp hpc => ?_⟩
  rcases hp with e | hp
  · subst e
    exact ⟨hu, h0, h.near c' hc' _ ((h.mem _ hu).2 h0)⟩
  · exact h.part c' hc' p hp hpc
/-- A user that is new. -/
theorem Bf.new {N : Nat} {steps : Nat → Nat} {line : List Nat} {i : Nat} {done : Nat → Prop} (h : Bf use N f steps line i done) {u c : Nat} (hc : line[i]? = some c) (hu : u ≠ f) (hN : u < N) (h0 : steps u = 0) (hus : use u c) :
    Bf use N f (upd steps u (steps c + 1)) (line ++ [u]) i (fun p => p = u ∨ done p) := by
  have hno : u ∉ line := fun q => ((h.mem u hu).1 q) h0
  have hk : ∀ p ∈ line, upd steps u (steps c + 1) p = steps p := fun p hp => by unfold upd; rw [if_neg (fun e : p = u => hno (e ▸ hp))]
  have hku : upd steps u (steps c + 1) u = steps c + 1 := by unfold upd; rw [if_pos rfl]
  have hcm : c ∈ line := List.mem_of_getElem? hc
  have hil : i < line.length := (List.getElem?_eq_some_iff.1 hc).1
  have hat : ∀ (j a : Nat), (line ++ [u])[j]? = some a → (j < line.length ∧ line[j]? = some a) ∨ (j = line.length ∧ a = u) := fun j a ha => by
    rcases Nat.lt_trichotomy j line.length with q | q | q
    · rw [List.getElem?_append_left q] at ha; exact .inl ⟨q, ha⟩
    · subst q; rw [List.getElem?_append_right (Nat.le_refl _), Nat.sub_self] at ha; exact .inr ⟨rfl, by simpa using ha.symm⟩
    · rw [List.getElem?_append_right (by omega)] at ha
      have : j - line.length ≠ 0 := by omega
      obtain ⟨k, hk⟩ := Nat.exists_eq_succ_of_ne_zero this
      rw [hk] at ha; simp at ha
  have hat' : ∀ c', (line ++ [u])[i]? = some c' → c' = c := fun c' hc' => by
    rw [List.getElem?_append_left hil, hc] at hc'; exact (Option.some.inj hc').symm
  refine ⟨?_, ?_, ?_, ?_, ?_, ?_, ?_, ?_, ?_, ?_⟩
  · rw [List.getElem?_append_left (by omega)]; exact h.head
  · unfold upd; rw [if_neg (Ne.symm hu)]; exact h.zero
  · rw [List.nodup_append]; exact ⟨h.nd, by simp, fun a ha b hb e => by rw [List.mem_singleton] at hb; exact hno (hb ▸ e ▸ ha)⟩
  · intro p hp
    rcases List.mem_append.1 hp with q | q
    · exact h.lt p q
    · rw [List.mem_singleton] at q; omega
  · intro p hp
    by_cases e : p = u
    · subst e; rw [hku]; simp
    · have : upd steps u (steps c + 1) p = steps p := by unfold upd; rw [if_neg e]
      rw [this, ← h.mem p hp]; simp [e]
  · intro p hp
    rcases List.mem_append.1 hp with q | q
    · rw [hk p q]; exact h.path p q
    · rw [List.mem_singleton] at q
      rw [q, hku]
      exact ⟨c, hus, h.path c hcm⟩
  · intro j k a b hjk ha hb
    rcases hat j a ha with ⟨q1, q2⟩ | ⟨q1, q2⟩
    · rcases hat k b hb with ⟨q3, q4⟩ | ⟨q3, q4⟩
      · rw [hk a (List.mem_of_getElem? q2), hk b (List.mem_of_getElem? q4)]; exact h.rise j k a b hjk q2 q4
      · rw [q4, hku, hk a (List.mem_of_getElem? q2)]
        exact h.near c hc a (List.mem_of_getElem? q2)
    · rcases hat k b hb with ⟨q3, q4⟩ | ⟨q3, q4⟩
      · omega
      · rw [q2, q4]; exact Nat.le_refl _
  · intro c' hc' p hp
    rw [hat' c' hc', hk c hcm]
    rcases List.mem_append.1 hp with q | q
    · rw [hk p q]; exact h.near c hc p q
    · rw [List.mem_singleton] at q; rw [q, hku]; exact Nat.le_refl _
  · intro j c' hj hc'
    rw [List.getElem?_append_left (by omega)] at hc'
    have hm := List.mem_of_getElem? hc'
    obtain ⟨w1, w2⟩ := h.went j c' hj hc'
    refine ⟨w1, fun p hpc hpf => ?_⟩
    obtain ⟨w3, w4⟩ := w2 p hpc hpf
    rw [hk c' hm, hk p ((h.mem p hpf).2 w3)]
    exact ⟨w3, w4⟩
  · intro c' hc' p hp hpc
    rw [hat' c' hc', hk c hcm]
    rw [hat' c' hc'] at hpc
    rcases hp with e | hp
    · subst e; rw [hku]; exact ⟨hu, by omega, Nat.le_refl _⟩
    · obtain ⟨w1, w2, w3⟩ := h.part c hc p hp hpc
      rw [hk p ((h.mem p w1).2 w2)]
      exact ⟨w1, w2, w3⟩
/-- All of its users have been. -/
theorem Bf.next {N : Nat} {steps : Nat → Nat} {line : List Nat} {i : Nat} {done : Nat → Prop} (h : Bf use N f steps line i done) {c : Nat} (hc : line[i]? = some c) (hall : ∀ p, use p c → done p) : Bf use N f steps line (i + 1) (fun _ => False) := by
  refine ⟨h.head, h.zero, h.nd, h.lt, h.mem, h.path, h.rise, fun c' hc' p hp => ?_, fun j c' hj hc' => ?_, fun _ _ _ q => q.elim⟩
  · exact Nat.le_trans (h.near c hc p hp) (Nat.add_le_add_right (h.rise i (i + 1) c c' (by omega) hc hc') 1)
  · rcases Nat.lt_or_ge j i with q | q
    · exact h.went j c' q hc'
    · have : j = i := by omega
      subst this
      have e : c' = c := by rw [hc] at hc'; exact (Option.some.inj hc').symm
      subst e
      exact ⟨fun hu => (h.part c' hc f (hall f hu) hu).1 rfl, fun p hp hpf => (h.part c' hc p (hall p hp) hp).2⟩
theorem Bf.full {N : Nat} {steps : Nat → Nat} {line : List Nat} {i : Nat} {done : Nat → Prop} (h : Bf use N f steps line i done) {c : Nat} (hc : line[i]? = some c) :
    ∀ d, 1 ≤ d → d ≤ steps c → ∀ p, p ≠ f → Pth use f d p → steps p ≠ 0 ∧ steps p ≤ d := by
  intro d
  induction d with
  | zero => intro h1; omega
  | succ d ih =>
    intro _ hd p hp hpath
    obtain ⟨q, hu, hq⟩ := hpath
    have h0 : 0 < i := by
      rcases Nat.eq_zero_or_pos i with e | e
      · subst e
        rw [h.head] at hc
        have : c = f := (Option.some.inj hc).symm
        rw [this, h.zero] at hd; omega
      · exact e
    by_cases e : q = f
    · subst e
      obtain ⟨_, w⟩ := h.went 0 q h0 h.head
      have := w p hu hp
      rw [h.zero] at this; exact ⟨this.1, by omega⟩
    · have hd1 : 1 ≤ d := by
        rcases Nat.eq_zero_or_pos d with z | z
        · subst z; exact absurd hq e
        · exact z
      obtain ⟨a, b⟩ := ih hd1 (by omega) q e hq
      obtain ⟨j, hj⟩ := List.mem_iff_getElem?.1 ((h.mem q e).2 a)
      have hji : j < i := by
        rcases Nat.lt_or_ge j i with z | z
        · exact z
        · have := h.rise i j c q z hc hj; omega
      obtain ⟨_, w⟩ := h.went j q hji hj
      have := w p hu hp
      exact ⟨this.1, by omega⟩
/-- f is met again: what is known of steps then. -/
theorem Bf.found {N : Nat} {steps : Nat → Nat} {line : List Nat} {i : Nat} {done : Nat → Prop} (h : Bf use N f steps line i done) {c : Nat} (hc : line[i]? = some c) (hu : use f c) :
    Far use f f (steps c + 1) ∧ ∀ p d, 1 ≤ d → d ≤ steps c → (steps p = d ↔ Far use f p d) := by
  have hcm := List.mem_of_getElem? hc
  have hff : Far use f f (steps c + 1) := by
    refine ⟨by omega, ⟨c, hu, h.path c hcm⟩, fun d' h1 h2 h3 => ?_⟩
    obtain ⟨d, rfl⟩ : ∃ d, d' = d + 1 := ⟨d' - 1, by omega⟩
    obtain ⟨q, hq, hp⟩ := h3
    have h0 : 0 < i := by
      rcases Nat.eq_zero_or_pos i with e | e
      · subst e
        rw [h.head] at hc
        have : c = f := (Option.some.inj hc).symm
        rw [this, h.zero] at h2; omega
      · exact e
    by_cases e : q = f
    · subst e; exact (h.went 0 q h0 h.head).1 hq
    · have hd1 : 1 ≤ d := by
        rcases Nat.eq_zero_or_pos d with z | z
        · subst z; exact absurd hp e
        · exact z
      obtain ⟨a, b⟩ := h.full hc d hd1 (by omega) q e hp
      obtain ⟨j, hj⟩ := List.mem_iff_getElem?.1 ((h.mem q e).2 a)
      have hji : j < i := by
        rcases Nat.lt_or_ge j i with z | z
        · exact z
        · have := h.rise i j c q z hc hj; omega
      exact (h.went j q hji hj).1 hq
  refine ⟨hff, fun p d h1 h2 => ?_⟩
  by_cases e : p = f
  · subst e
    rw [h.zero]
    constructor
    · intro q; omega
    · intro q; have := q.uniq hff; omega
  · constructor
    · intro q
      have hm : p ∈ line := (h.mem p e).2 (by omega)
      refine ⟨h1, q ▸ h.path p hm, fun d' h3 h4 h5 => ?_⟩
      have := (h.full hc d' h3 (by omega) p e h5).2; omega
    · intro q
      obtain ⟨a, b⟩ := h.full hc d h1 h2 p e q.2.1
      have hm : p ∈ line := (h.mem p e).2 a
      rcases Nat.lt_or_ge (steps p) d with z | z
      · exact absurd (h.path p hm) (q.2.2 _ (by omega) z)
      · omega
/-- All have been: f does not lead to itself. -/
theorem Bf.none {N : Nat} {steps : Nat → Nat} {line : List Nat} {i : Nat} {done : Nat → Prop} (h : Bf use N f steps line i done) (hi : line.length ≤ i) : ∀ d, 1 ≤ d → ¬ Pth use f d f := by
  have all : ∀ d p, Pth use f d p → p ∈ line := by
    intro d
    induction d with
    | zero => intro p hp; rw [show p = f from hp]; exact List.mem_of_getElem? h.head
    | succ d ih =>
      rintro p ⟨q, hu, hq⟩
      by_cases e : p = f
      · rw [e]; exact List.mem_of_getElem? h.head
      · obtain ⟨j, hj⟩ := List.mem_iff_getElem?.1 (ih q hq)
        have hjl := (List.getElem?_eq_some_iff.1 hj).1
        exact (h.mem p e).2 ((h.went j q (by omega) hj).2 p hu e).1
  intro d hd hp
  obtain ⟨k, rfl⟩ : ∃ k, d = k + 1 := ⟨d - 1, by omega⟩
  obtain ⟨q, hu, hq⟩ := hp
  obtain ⟨j, hj⟩ := List.mem_iff_getElem?.1 (all k q hq)
  have hjl := (List.getElem?_eq_some_iff.1 hj).1
  exact (h.went j q (by omega) hj).1 hu
theorem Pth.snoc {a c : Nat} : ∀ {d b : Nat}, Pth use c d b → use c a → Pth use a (d + 1) b := by
  intro d
  induction d with
  | zero => intro b h hu; rw [show b = c from h]; exact ⟨a, hu, rfl⟩
  | succ d ih => rintro b ⟨q, h1, h2⟩ hu; exact ⟨q, h1, ih h2 hu⟩
theorem Rc.pth {a b : Nat} (h : Rc (fun x y => use y x) a b) : ∃ d, Pth use a d b := by
  induction h with
  | refl => exact ⟨0, rfl⟩
  | step e _ ih => obtain ⟨d, hd⟩ := ih; exact ⟨d + 1, hd.snoc e⟩
theorem Pth.rc {a : Nat} : ∀ {d b : Nat}, Pth use a d b → Rc (fun x y => use y x) a b := by
  intro d
  induction d with
  | zero => intro b h; rw [show b = a from h]; exact .refl a
  | succ d ih => rintro b ⟨q, h1, h2⟩; exact (ih h2).trans (.one h1)
/-- It hangs on itself just if it leads to itself. -/
theorem cy_iff {x : Nat} : Cy (fun a b => use b a) x ↔ ∃ d, 1 ≤ d ∧ Pth use x d x := by
  constructor
  · rintro ⟨y, h1, h2⟩
    obtain ⟨d, hd⟩ := h2.pth
    exact ⟨d + 1, by omega, hd.snoc h1⟩
  · rintro ⟨d, hd, hp⟩
    obtain ⟨k, rfl⟩ : ∃ k, d = k + 1 := ⟨d - 1, by omega⟩
    obtain ⟨q, hu, hq⟩ := hp
    -- x uses q, q leads to x
    have h := hq.rc
    cases h with
    | refl => exact ⟨x, hu, .refl x⟩
    | step e t => exact ⟨_, e, t.trans (.one hu)⟩
end Go.Proofs.YtdlieecpckpemaaGreatDoor.Tj
namespace Go.Proofs.YtdlieecpckpemaaGreatDoor.Tj
/-- Several walks, one behind the other. -/
structure Ds (E : Nat → Nat → Prop) (ps : List Nat) (F : Nat → Bool) : Prop where
  new : ∀ x, F x = true → ∃ p ∈ ps, Rc E p x
  has : ∀ p ∈ ps, F p = true
  shut : ∀ x y, F x = true → E x y → F y = true
/-- A cell hangs on another one. -/
inductive Hg {α : Type} (uses : α → α → Prop) : α → α → Prop
  | one {x y : α} (h : uses x y) : Hg uses x y
  | step {x z y : α} (h : uses x z) (t : Hg uses z y) : Hg uses x y
section
variable {α : Type} {uses : α → α → Prop}
end
end Go.Proofs.YtdlieecpckpemaaGreatDoor.Tj
namespace Go.Proofs.YtdlieecpckpemaaGreatDoor.Tj
variable {use : Nat → Nat → Prop} {f : Nat}
/-- far (0: not known), line: those that are known, in the order in which they came; the first i of them are gone over; done: those that have been looked at for the next one. -/
structure Bg (use : Nat → Nat → Prop) (N f : Nat) (far : Nat → Nat) (line : List Nat) (i : Nat) (done : Nat → Prop) : Prop where
  nd : line.Nodup
  lt : ∀ p ∈ line, p < N
  mem : ∀ p, p ∈ line ↔ far p ≠ 0
  dist : ∀ p ∈ line, Far use f p (far p)
  rise : ∀ (j k a b : Nat), j ≤ k → line[j]? = some a → line[k]? = some b → far a ≤ far b
  near : ∀ c, line[i]? = some c → ∀ p ∈ line, far p ≤ far c + 1
  ones : ∀ p, use p f → p ∈ line
  went : ∀ (j c : Nat), j < i → line[j]? = some c → ∀ p, use p c → p ∈ line
  part : ∀ c, line[i]? = some c → ∀ p, done p → use p c → p ∈ line
/-- The first ones. -/
structure B1 (use : Nat → Nat → Prop) (N f : Nat) (far : Nat → Nat) (line : List Nat) (k : Nat) : Prop where
  nd : line.Nodup
  mem : ∀ p, p ∈ line ↔ (p < k ∧ use p f)
  far : ∀ p, far p = (if p ∈ line then 1 else 0)
theorem B1.start {N : Nat} : B1 use N f (fun _ => 0) [] 0 := ⟨List.nodup_nil, fun p => by simp, fun p => by simp⟩
theorem B1.yes {N : Nat} {far : Nat → Nat} {line : List Nat} {k : Nat} (h : B1 use N f far line k) (hu : use k f) : B1 use N f (upd far k 1) (line ++ [k]) (k + 1) := by
  have hno : k ∉ line := fun q => by have := (h.mem k).1 q; omega
  refine ⟨?_, fun p => ?_, fun p => ?_⟩
  · rw [List.nodup_append]
    exact ⟨h.nd, by simp, fun a ha b hb => by rw [List.mem_singleton] at hb; intro e; exact hno (hb ▸ e ▸ ha)⟩
  · rw [List.mem_append, h.mem, List.mem_singleton]
    constructor
    · rintro (⟨h1, h2⟩ | e)
      · exact ⟨by omega, h2⟩
      · subst e; exact ⟨by omega, hu⟩
    · rintro ⟨h1, h2⟩
      by_cases e : p = k
      · exact .inr e
      · exact .inl ⟨by omega, h2⟩
  · unfold upd
    by_cases e : p = k
    · subst e; simp
    · rw [if_neg e, h.far p]
      simp [e]
theorem B1.no {N : Nat} {far : Nat → Nat} {line : List Nat} {k : Nat} (h : B1 use N f far line k) (hu : ¬ use k f) : B1 use N f far line (k + 1) := by
  refine ⟨h.nd, fun p => ?_, h.far⟩
  rw [h.mem]
  constructor
  · rintro ⟨h1, h2⟩; exact ⟨by omega, h2⟩
  · rintro ⟨h1, h2⟩
    refine ⟨?_, h2⟩
    by_cases e : p = k
    · subst e; exact absurd h2 hu
    · omega
theorem far_one {p : Nat} (h : use p f) : Far use f p 1 := ⟨Nat.le_refl _, ⟨f, h, rfl⟩, fun d' h1 h2 => by omega⟩
theorem B1.fin {N : Nat} {far : Nat → Nat} {line : List Nat} (h : B1 use N f far line N) (hN : ∀ p q, use p q → p < N) : Bg use N f far line 0 (fun _ => False) := by
  have h1 : ∀ p ∈ line, far p = 1 := fun p hp => by rw [h.far, if_pos hp]
  refine ⟨h.nd, fun p hp => ((h.mem p).1 hp).1, fun p => ?_, fun p hp => ?_, fun j k a b _ ha hb => ?_, fun c hc p hp => ?_, fun p hp => (h.mem p).2 ⟨hN _ _ hp, hp⟩, fun j c hj => by omega, fun c _ p q => q.elim⟩
  · rw [h.far]
    by_cases e : p ∈ line <;> simp [e]
  · rw [h1 p hp]; exact far_one ((h.mem p).1 hp).2
  · rw [h1 a (List.mem_of_getElem? ha), h1 b (List.mem_of_getElem? hb)]; exact Nat.le_refl _
  · rw [h1 p hp]; omega
/-- All that stand nearer than the next one are gone over. -/
theorem Bg.nearer {N : Nat} {far : Nat → Nat} {line : List Nat} {i : Nat} {done : Nat → Prop} (h : Bg use N f far line i done) {D : Nat} (hD : ∀ c, line[i]? = some c → D ≤ far c) :
    ∀ {d q : Nat}, d < D → Far use f q d → ∃ j, j < i ∧ line[j]? = some q := by
  have idx : ∀ {d q : Nat}, d < D → Far use f q d → q ∈ line → ∃ j, j < i ∧ line[j]? = some q := fun {d q} hd hq hm => by
    obtain ⟨j, hj⟩ := List.mem_iff_getElem?.1 hm
    refine ⟨j, ?_, hj⟩
    rcases Nat.lt_or_ge j i with c | c
    · exact c
    · exfalso
      have hil : i < line.length := by have := (List.getElem?_eq_some_iff.1 hj).1; omega
      obtain ⟨x, hx⟩ : ∃ x, line[i]? = some x := ⟨_, List.getElem?_eq_getElem hil⟩
      have h1 := h.rise i j x q c hx hj
      have h2 := (h.dist q hm).uniq hq
      have h3 := hD x hx
      omega
  intro d
  induction d with
  | zero => intro q _ hq; exact absurd hq.1 (by omega)
  | succ d ih =>
    intro q hd hq
    refine idx hd hq ?_
    rcases d with _ | d
    · obtain ⟨_, ⟨r, hr, e⟩, _⟩ := hq
      have e : r = f := e
      subst e
      exact h.ones q hr
    · obtain ⟨r, hr, hf⟩ := hq.next
      obtain ⟨j, hj, hl⟩ := ih (by omega) hf
      exact h.went j r hj hl q hr
theorem Bg.new {N : Nat} {far : Nat → Nat} {line : List Nat} {i : Nat} {done : Nat → Prop} (h : Bg use N f far line i done) {u c : Nat} (hc : line[i]? = some c) (hN : u < N) (h0 : far u = 0) (hus : use u c) :
    Bg use N f (upd far u (far c + 1)) (line ++ [u]) i (fun p => p = u ∨ done p) := by
  have hno : u ∉ line := fun q => ((h.mem u).1 q) h0
  have hk : ∀ p ∈ line, upd far u (far c + 1) p = far p := fun p hp => by unfold upd; rw [if_neg (fun e : p = u => hno (e ▸ hp))]
  have hku : upd far u (far c + 1) u = far c + 1 := by unfold upd; rw [if_pos rfl]
  have hcm : c ∈ line := List.mem_of_getElem? hc
  have hil : i < line.length := (List.getElem?_eq_some_iff.1 hc).1
  have hat : ∀ (j a : Nat), (line ++ [u])[j]? = some a → (j < line.length ∧ line[j]? = some a) ∨ (j = line.length ∧ a = u) := fun j a ha => by
    rcases Nat.lt_or_ge j line.length with q | q
    · rw [List.getElem?_append_left q] at ha; exact .inl ⟨q, ha⟩
    · rw [List.getElem?_append_right q] at ha
      have := List.mem_of_getElem? ha
      rw [List.mem_singleton] at this
      have h2 := (List.getElem?_eq_some_iff.1 ha).1
      simp at h2
      exact .inr ⟨by omega, this⟩
  have hat2 : ∀ (j a : Nat), j ≤ i → (line ++ [u])[j]? = some a → line[j]? = some a := fun j a hj ha => by
    rcases hat j a ha with q | ⟨q, _⟩
    · exact q.2
    · omega
  have hfu : Far use f u (far c + 1) := by
    have hd := h.dist c hcm
    refine ⟨by omega, ⟨c, hus, hd.2.1⟩, fun d' h1 h2 h3 => ?_⟩
    rcases d' with _ | d'
    · omega
    · obtain ⟨r, hr, hp⟩ := h3
      apply hno
      rcases d' with _ | d'
      · have e : r = f := hp
        subst e; exact h.ones u hr
      · obtain ⟨d2, hd2⟩ := Far.of hp (by omega)
        have hd3 : d2 ≤ d' + 1 := by
          rcases Nat.lt_or_ge (d' + 1) d2 with q | q
          · exact absurd hp (hd2.2.2 _ (by omega) q)
          · exact q
        obtain ⟨j, hj, hl⟩ := h.nearer (D := far c) (fun c' hc' => by rw [hc] at hc'; cases hc'; exact Nat.le_refl _) (by omega) hd2
        exact h.went j r hj hl u hr
  refine ⟨?_, fun p hp => ?_, fun p => ?_, fun p hp => ?_, fun j k a b hjk ha hb => ?_, fun c' hc' p hp => ?_, fun p hp => List.mem_append.2 (.inl (h.ones p hp)), fun j c' hj hc' p hp => ?_, fun c' hc' p hp hpc => ?_⟩
  · rw [List.nodup_append]
    exact ⟨h.nd, by simp, fun a ha b hb => by rw [List.mem_singleton] at hb; intro e; exact hno (hb ▸ e ▸ ha)⟩
  · rcases List.mem_append.1 hp with hp | hp
    · exact h.lt p hp
    · rw [List.mem_singleton] at hp; rw [hp]; exact hN
  · rw [List.mem_append, List.mem_singleton]
    by_cases e : p = u
    · subst e; rw [hku]; simp
    · have : upd far u (far c + 1) p = far p := by unfold upd; rw [if_neg e]
      rw [this, h.mem]; simp [e]
  · rcases List.mem_append.1 hp with hp | hp
    · rw [hk p hp]; exact h.dist p hp
    · rw [List.mem_singleton] at hp; subst hp; rw [hku]; exact hfu
  · have hca : ∀ x ∈ line, far x ≤ far c + 1 := h.near c hc
    rcases hat j a ha with ⟨q1, q2⟩ | ⟨q1, q2⟩
    · rw [hk a (List.mem_of_getElem? q2)]
      rcases hat k b hb with ⟨r1, r2⟩ | ⟨r1, r2⟩
      · rw [hk b (List.mem_of_getElem? r2)]; exact h.rise j k a b hjk q2 r2
      · subst r2; rw [hku]; exact hca a (List.mem_of_getElem? q2)
    · subst q2
      rcases hat k b hb with ⟨r1, r2⟩ | ⟨r1, r2⟩
      · omega
      · subst r2; exact Nat.le_refl _
  · have hc2 := hat2 i c' (Nat.le_refl _) hc'
    rw [hc] at hc2; cases hc2
    rw [hk c hcm]
    rcases List.mem_append.1 hp with hp | hp
    · rw [hk p hp]; exact h.near c hc p hp
    · rw [List.mem_singleton] at hp; rw [hp, hku]; exact Nat.le_refl _
  · exact List.mem_append.2 (.inl (h.went j c' hj (hat2 j c' (by omega) hc') p hp))
  · have hc2 := hat2 i c' (Nat.le_refl _) hc'
    rcases hp with e | hp
    · subst e; exact List.mem_append.2 (.inr (by simp))
    · exact List.mem_append.2 (.inl (h.part c' hc2 p hp hpc))
theorem Bg.old {N : Nat} {far : Nat → Nat} {line : List Nat} {i : Nat} {done : Nat → Prop} (h : Bg use N f far line i done) {u c : Nat} (hc : line[i]? = some c) (hu : far u ≠ 0 ∨ ¬ use u c) :
    Bg use N f far line i (fun p => p = u ∨ done p) := by
  refine ⟨h.nd, h.lt, h.mem, h.dist, h.rise, h.near, h.ones, h.went, fun c' hc' p hp hpc => ?_⟩
  rcases hp with e | hp
  · subst e
    rcases hu with q | q
    · exact (h.mem p).2 q
    · rw [hc] at hc'; cases hc'; exact absurd hpc q
  · exact h.part c' hc' p hp hpc
theorem Bg.next {N : Nat} {far : Nat → Nat} {line : List Nat} {i : Nat} {done : Nat → Prop} (h : Bg use N f far line i done) {c : Nat} (hc : line[i]? = some c) (hall : ∀ p, use p c → done p) : Bg use N f far line (i + 1) (fun _ => False) := by
  refine ⟨h.nd, h.lt, h.mem, h.dist, h.rise, fun c' hc' p hp => ?_, h.ones, fun j c' hj hc' p hp => ?_, fun c' _ p q => q.elim⟩
  · have h1 := h.near c hc p hp
    have h2 := h.rise i (i + 1) c c' (by omega) hc hc'
    omega
  · by_cases e : j = i
    · subst e; rw [hc] at hc'; cases hc'; exact h.part c hc p (hall p hp) hp
    · exact h.went j c' (by omega) hc' p hp
/-- What far tells. -/
def FarIs (use : Nat → Nat → Prop) (f : Nat) (far : Nat → Nat) : Prop := ∀ p, (far p = 0 ∧ ∀ d, ¬ Far use f p d) ∨ (far p ≠ 0 ∧ Far use f p (far p))
theorem Bg.fin {N : Nat} {far : Nat → Nat} {line : List Nat} {i : Nat} {done : Nat → Prop} (h : Bg use N f far line i done) (hi : line.length ≤ i) : FarIs use f far := by
  intro p
  by_cases h0 : far p = 0
  · refine .inl ⟨h0, fun d hd => ?_⟩
    obtain ⟨j, _, hj⟩ := h.nearer (D := d + 1) (fun c hc => absurd (List.getElem?_eq_some_iff.1 hc).1 (by omega)) (by omega) hd
    exact ((h.mem p).1 (List.mem_of_getElem? hj)) h0
  · exact .inr ⟨h0, h.dist p ((h.mem p).2 h0)⟩
theorem Bg.len {N : Nat} {far : Nat → Nat} {line : List Nat} {i : Nat} {done : Nat → Prop} (h : Bg use N f far line i done) : line.length ≤ N := nodup_lt h.nd h.lt
end Go.Proofs.YtdlieecpckpemaaGreatDoor.Tj
