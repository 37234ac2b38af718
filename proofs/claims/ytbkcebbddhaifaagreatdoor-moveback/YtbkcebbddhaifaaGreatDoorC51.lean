/- GridBack's plain part: entries that change places; the way from one grid to another. pick. GridBack: three grids and what is handed in. GridBack: what a grid tells is kept in a list of one's own. Fenced twins. -/
import Derived.Test.YtbkcebbddhaifaaGreatDoorC50
namespace Go.Proofs.YtbkcebbddhaifaaGreatDoor
open Go.RowKit Go.Maps Go.Sort Go.Lib

/-- What pick tells. -/
def pkf (c m : Int) : Nat := if c < 0 then ((-(c + 1)) % m).toNat else (c % m).toNat
theorem pkf_val (c m : Int) (h1 : 1 ≤ m) : (pkf c m : Int) = (if c < 0 then (-(c + 1)) % m else c % m) ∧ (pkf c m : Int) < m := by
  have hm0 : m ≠ 0 := by omega
  unfold pkf
  by_cases h : c < 0
  · have e1 := Int.emod_nonneg (-(c + 1)) hm0
    have e2 := Int.emod_lt_of_pos (-(c + 1)) (b := m) (by omega)
    rw [if_pos h, if_pos h]; omega
  · have e1 := Int.emod_nonneg c hm0
    have e2 := Int.emod_lt_of_pos c (b := m) (by omega)
    rw [if_neg h, if_neg h]; omega
section
variable {α : Type}
/-- Two entries change places. -/
theorem swap_get {zs : List α} {i j : Nat} {yi yj : α} (hi : zs[i]? = some yi) (hj : zs[j]? = some yj) (t : Nat) : ((zs.set i yj).set j yi)[t]? = if t = j then some yi else if t = i then some yj else zs[t]? := by
  have li := (List.getElem?_eq_some_iff.1 hi).1
  have lj := (List.getElem?_eq_some_iff.1 hj).1
  rw [List.getElem?_set, List.getElem?_set]
  simp only [List.length_set]
  by_cases h1 : t = j
  · subst h1; simp [lj]
  · rw [if_neg (fun e => h1 e.symm), if_neg h1]
    by_cases h2 : t = i
    · subst h2; simp [li]
    · rw [if_neg (fun e => h2 e.symm), if_neg h2]
theorem swap_at {zs : List α} {i j : Nat} {yi yj : α} (hi : zs[i]? = some yi) (hj : zs[j]? = some yj) : ((zs.set i yj).set j yi)[i]? = some yj := by
  rw [swap_get hi hj]
  by_cases e : i = j
  · subst e
    rw [if_pos rfl, ← hi, hj]
  · rw [if_neg e, if_pos rfl]
theorem swap_mem {zs : List α} {i j : Nat} {yi yj : α} (hi : zs[i]? = some yi) (hj : zs[j]? = some yj) (x : α) : x ∈ (zs.set i yj).set j yi ↔ x ∈ zs := by
  rw [List.mem_iff_getElem?, List.mem_iff_getElem?]
  constructor
  · rintro ⟨t, ht⟩
    rw [swap_get hi hj] at ht
    split at ht
    · exact ⟨i, hi.trans ht⟩
    · split at ht
      · exact ⟨j, hj.trans ht⟩
      · exact ⟨t, ht⟩
  · rintro ⟨t, ht⟩
    by_cases h1 : t = i
    · subst h1
      exact ⟨j, by rw [swap_get hi hj, if_pos rfl, ← hi, ht]⟩
    · by_cases h2 : t = j
      · subst h2
        by_cases h3 : i = t
        · exact absurd h3.symm h1
        · exact ⟨i, by rw [swap_get hi hj, if_neg h3, if_pos rfl, ← hj, ht]⟩
      · exact ⟨t, by rw [swap_get hi hj, if_neg h2, if_neg h1, ht]⟩
theorem swap_take {zs : List α} {i j : Nat} {yi yj : α} (hi : zs[i]? = some yi) (hj : zs[j]? = some yj) (hij : i ≤ j) : ((zs.set i yj).set j yi).take (i + 1) = zs.take i ++ [yj] := by
  have li := (List.getElem?_eq_some_iff.1 hi).1
  apply List.ext_getElem?
  intro t
  rw [List.getElem?_take]
  by_cases h : t < i + 1
  · rw [if_pos h, swap_get hi hj]
    by_cases h1 : t = i
    · subst h1
      rw [List.getElem?_append_right (by simp; omega)]
      have : t - (zs.take t).length = 0 := by simp; omega
      rw [this]
      by_cases h2 : t = j
      · subst h2
        rw [if_pos rfl, ← hi, hj]; rfl
      · rw [if_neg h2, if_pos rfl]; rfl
    · have h2 : t ≠ j := by omega
      rw [if_neg h2, if_neg h1, List.getElem?_append_left (by simp; omega), List.getElem?_take, if_pos (by omega)]
  · rw [if_neg h, List.getElem?_eq_none (by simp; omega)]
end
/-- A grid that got what stands in another, one after another. -/
theorem put_take {La Lc K : List Cc} (ho : La.Pairwise (fun x y => x.1 ≠ y.1)) (h : ∀ x, x ∈ Lc ↔ x ∈ K) (hK : ∀ x ∈ K, x ∈ La) {y : Cc} (hy : y ∈ La) (x : Cc) : x ∈ putL Lc y.1 y.2 ↔ x ∈ K ++ [y] := by
  rw [putL_mem, List.mem_append, List.mem_singleton, h]
  constructor
  · rintro (e | e)
    · exact .inr e
    · exact .inl e.1
  · rintro (e | e)
    · by_cases hk : x.1 = y.1
      · left
        have hx := hK x e
        have : (y.1, x.2) ∈ La := by rw [← hk]; exact hx
        exact Prod.ext hk (once_eq ho this hy)
      · exact .inr ⟨e, hk⟩
    · exact .inl e
/-- Grids with the same contents. -/
theorem same_eqC {L M : List Cc} (hL : L.Pairwise (fun x y => x.1 ≠ y.1)) (hM : M.Pairwise (fun x y => x.1 ≠ y.1)) (h : ∀ x, x ∈ L ↔ x ∈ M) : EqC L M := by
  have nL : L.Nodup := hL.imp (fun {x y} q e => q (by rw [e]))
  have nM : M.Nodup := hM.imp (fun {x y} q e => q (by rw [e]))
  refine ⟨(List.Perm.length_eq ((List.perm_ext_iff_of_nodup nL nM).2 h)), fun k a hk => ⟨a, (h _).1 hk, csame_refl a⟩⟩
theorem same_un {L M : List Cc} (h : ∀ x, x ∈ L ↔ x ∈ M) (x : Int × Int) : ¬ Un L M x := by
  rintro (⟨b, h1, h2⟩ | ⟨⟨a, h1⟩, h2⟩)
  · exact h2 ⟨b, (h _).2 h1, csame_refl b⟩
  · exact h2 a ((h _).1 h1)
/-- The way: those that empty, first. -/
def Way0 (L ys : List Cc) (i : Nat) (M : List Cc) : Prop := ∀ x, x ∈ M ↔ x ∈ L ∧ ¬ ∃ y ∈ ys.take i, y.1 = x.1 ∧ y.2.k = 0
/-- Then the others. -/
def Way1 (L ys : List Cc) (i : Nat) (M : List Cc) : Prop := ∀ x, x ∈ M ↔ (x ∈ ys.take i ∧ x.2.k ≠ 0) ∨ (x ∈ L ∧ (¬ ∃ y ∈ ys, y.1 = x.1 ∧ y.2.k = 0) ∧ ¬ ∃ y ∈ ys.take i, y.1 = x.1 ∧ y.2.k ≠ 0)
theorem take_one {ys : List Cc} {i : Nat} {y : Cc} (hy : ys[i]? = some y) (z : Cc) : z ∈ ys.take (i + 1) ↔ z ∈ ys.take i ∨ z = y := by
  rw [List.take_add_one, hy, List.mem_append]
  simp
theorem way0_zero (L ys : List Cc) : Way0 L ys 0 L := fun x => by simp
theorem way0_del {L ys M : List Cc} {i : Nat} {y : Cc} (h : Way0 L ys i M) (hy : ys[i]? = some y) (hk : y.2.k = 0) : Way0 L ys (i + 1) (delL M y.1) := fun x => by
  rw [delL_mem, h]
  constructor
  · rintro ⟨⟨h1, h2⟩, h3⟩
    refine ⟨h1, ?_⟩
    rintro ⟨z, hz, h4, h5⟩
    rcases (take_one hy z).1 hz with q | rfl
    · exact h2 ⟨z, q, h4, h5⟩
    · exact h3 h4.symm
  · rintro ⟨h1, h2⟩
    exact ⟨⟨h1, fun ⟨z, hz, h4⟩ => h2 ⟨z, (take_one hy z).2 (.inl hz), h4⟩⟩, fun e => h2 ⟨y, (take_one hy y).2 (.inr rfl), e.symm, hk⟩⟩
theorem way0_skip {L ys M : List Cc} {i : Nat} {y : Cc} (h : Way0 L ys i M) (hy : ys[i]? = some y) (hk : y.2.k ≠ 0) : Way0 L ys (i + 1) M := fun x => by
  rw [h]
  constructor
  · rintro ⟨h1, h2⟩
    refine ⟨h1, ?_⟩
    rintro ⟨z, hz, h4, h5⟩
    rcases (take_one hy z).1 hz with q | rfl
    · exact h2 ⟨z, q, h4, h5⟩
    · exact hk h5
  · rintro ⟨h1, h2⟩
    exact ⟨h1, fun ⟨z, hz, h4⟩ => h2 ⟨z, (take_one hy z).2 (.inl hz), h4⟩⟩
theorem way0_end {L ys M : List Cc} (h : Way0 L ys ys.length M) : Way1 L ys 0 M := fun x => by
  rw [h, List.take_length]
  simp
theorem way1_put {L ys M : List Cc} {i : Nat} {y : Cc} (hn : ys.Pairwise (fun x y => x.1 ≠ y.1)) (h : Way1 L ys i M) (hy : ys[i]? = some y) (hk : y.2.k ≠ 0) : Way1 L ys (i + 1) (putL M y.1 y.2) := fun x => by
  have hnot : ∀ z ∈ ys.take i, z.1 ≠ y.1 := fun z hz => by
    obtain ⟨t, ht⟩ := List.mem_iff_getElem?.1 hz
    rw [List.getElem?_take] at ht
    split at ht
    · rename_i htl
      obtain ⟨l1, e1⟩ := List.getElem?_eq_some_iff.1 ht
      obtain ⟨l2, e2⟩ := List.getElem?_eq_some_iff.1 hy
      have := List.pairwise_iff_getElem.1 hn t i l1 l2 htl
      rw [e1, e2] at this
      exact this
    · cases ht
  rw [putL_mem, h]
  constructor
  · rintro (e | ⟨⟨h1, h2⟩ | ⟨h1, h2, h3⟩, h4⟩)
    · subst e
      exact .inl ⟨(take_one hy _).2 (.inr rfl), hk⟩
    · exact .inl ⟨(take_one hy _).2 (.inl h1), h2⟩
    · refine .inr ⟨h1, h2, ?_⟩
      rintro ⟨z, hz, h5, h6⟩
      rcases (take_one hy z).1 hz with q | rfl
      · exact h3 ⟨z, q, h5, h6⟩
      · exact h4 h5.symm
  · rintro (⟨h1, h2⟩ | ⟨h1, h2, h3⟩)
    · rcases (take_one hy x).1 h1 with q | rfl
      · exact .inr ⟨.inl ⟨q, h2⟩, hnot x q⟩
      · exact .inl rfl
    · refine .inr ⟨.inr ⟨h1, h2, fun ⟨z, hz, h4⟩ => h3 ⟨z, (take_one hy z).2 (.inl hz), h4⟩⟩, fun e => h3 ⟨y, (take_one hy y).2 (.inr rfl), e.symm, hk⟩⟩
theorem way1_skip {L ys M : List Cc} {i : Nat} {y : Cc} (h : Way1 L ys i M) (hy : ys[i]? = some y) (hk : y.2.k = 0) : Way1 L ys (i + 1) M := fun x => by
  rw [h]
  constructor
  · rintro (⟨h1, h2⟩ | ⟨h1, h2, h3⟩)
    · exact .inl ⟨(take_one hy _).2 (.inl h1), h2⟩
    · refine .inr ⟨h1, h2, ?_⟩
      rintro ⟨z, hz, h5, h6⟩
      rcases (take_one hy z).1 hz with q | rfl
      · exact h3 ⟨z, q, h5, h6⟩
      · exact h6 hk
  · rintro (⟨h1, h2⟩ | ⟨h1, h2, h3⟩)
    · rcases (take_one hy x).1 h1 with q | rfl
      · exact .inl ⟨q, h2⟩
      · exact absurd hk h2
    · exact .inr ⟨h1, h2, fun ⟨z, hz, h4⟩ => h3 ⟨z, (take_one hy z).2 (.inl hz), h4⟩⟩
/-- What a way's puts are. -/
structure WayP (L B ys : List Cc) : Prop where
  once : ys.Pairwise (fun x y => x.1 ≠ y.1)
  mem : ∀ x, x ∈ ys.map (·.1) ↔ Un L B x
  put : ∀ y ∈ ys, PutOf B y
  gd : ∀ x ∈ B, x.2.k ≠ 0
  oL : L.Pairwise (fun x y => x.1 ≠ y.1)
  oB : B.Pairwise (fun x y => x.1 ≠ y.1)
theorem WayP.inB {L B ys : List Cc} (h : WayP L B ys) {y : Cc} (hy : y ∈ ys) (hk : y.2.k ≠ 0) : y ∈ B := by
  rcases h.put y hy with q | ⟨q, _⟩
  · exact q
  · rw [q] at hk; exact absurd rfl hk
/-- A key that stays is one of B's. -/
theorem WayP.stay {L B ys : List Cc} (h : WayP L B ys) {x : Cc} (hx : x ∈ L) (hn : ¬ ∃ y ∈ ys, y.1 = x.1 ∧ y.2.k = 0) : ∃ b, (x.1, b) ∈ B := by
  by_cases hb : ∃ b, (x.1, b) ∈ B
  · exact hb
  · exfalso
    have hb' : ∀ b, (x.1, b) ∉ B := fun b q => hb ⟨b, q⟩
    obtain ⟨y, hy, e⟩ := List.mem_map.1 ((h.mem x.1).2 (.inr ⟨⟨x.2, hx⟩, hb'⟩))
    rcases h.put y hy with q | ⟨q, _⟩
    · exact hb' y.2 (by rw [← e]; exact q)
    · exact hn ⟨y, hy, e, by rw [q]; rfl⟩
theorem WayP.keys {L B ys M : List Cc} {i : Nat} (h : WayP L B ys) (w : Way1 L ys i M) {x : Cc} (hx : x ∈ M) : ∃ b, (x.1, b) ∈ B := by
  rcases (w x).1 hx with ⟨h1, h2⟩ | ⟨h1, h2, _⟩
  · exact ⟨x.2, h.inB (List.mem_of_mem_take h1) h2⟩
  · exact h.stay h1 h2
/-- There is room. -/
theorem WayP.room {L B ys M : List Cc} {i : Nat} (h : WayP L B ys) (w : Way1 L ys i M) (oM : M.Pairwise (fun x y => x.1 ≠ y.1)) (lB : B.length ≤ 4096) {y : Cc} (hy : y ∈ ys) (hk : y.2.k ≠ 0) : M.length < 4096 ∨ ∃ c', (y.1, c') ∈ M := by
  by_cases hin : ∃ c', (y.1, c') ∈ M
  · exact .inr hin
  · left
    have nM : (y.1 :: M.map (·.1)).Nodup := by
      rw [List.nodup_cons]
      refine ⟨fun q => ?_, List.pairwise_map.2 oM⟩
      obtain ⟨z, hz, e⟩ := List.mem_map.1 q
      exact hin ⟨z.2, by rw [← e]; exact hz⟩
    have := nodup_le _ (B.map (·.1)) nM (fun k hk' => by
      rcases List.mem_cons.1 hk' with rfl | hk'
      · exact List.mem_map.2 ⟨y, h.inB hy hk, rfl⟩
      · obtain ⟨z, hz, rfl⟩ := List.mem_map.1 hk'
        obtain ⟨b, hb⟩ := h.keys w hz
        exact List.mem_map.2 ⟨_, hb, rfl⟩)
    simp only [List.length_cons, List.length_map] at this
    omega
/-- The way leads there. -/
theorem WayP.done {L B ys M : List Cc} (h : WayP L B ys) (w : Way1 L ys ys.length M) (oM : M.Pairwise (fun x y => x.1 ≠ y.1)) : EqC M B := by
  have hto : ∀ k a, (k, a) ∈ M → ∃ b, (k, b) ∈ B ∧ csame a b = true := fun k a hm => by
    rcases (w (k, a)).1 hm with ⟨h1, h2⟩ | ⟨h1, h2, h3⟩
    · exact ⟨a, h.inB (List.mem_of_mem_take h1) h2, csame_refl a⟩
    · rw [List.take_length] at h3
      obtain ⟨b, hb⟩ := h.stay h1 h2
      have hun : ¬ Un L B k := fun q => by
        obtain ⟨y, hy, e⟩ := List.mem_map.1 ((h.mem k).2 q)
        by_cases hk : y.2.k = 0
        · exact h2 ⟨y, hy, e, hk⟩
        · exact h3 ⟨y, hy, e, hk⟩
      have hp : ¬ UnP L k b := fun q => hun (.inl ⟨b, hb, q⟩)
      have hp' : ∃ a', (k, a') ∈ L ∧ csame a' b = true := Classical.not_not.1 hp
      obtain ⟨a', h4, h5⟩ := hp'
      rw [once_eq h.oL h4 h1] at h5
      exact ⟨b, hb, h5⟩
  refine ⟨Nat.le_antisymm ?_ ?_, hto⟩
  · have := nodup_le (M.map (·.1)) (B.map (·.1)) (List.pairwise_map.2 oM) (fun k hk => by
      obtain ⟨z, hz, rfl⟩ := List.mem_map.1 hk
      obtain ⟨b, hb, _⟩ := hto z.1 z.2 hz
      exact List.mem_map.2 ⟨_, hb, rfl⟩)
    simpa using this
  · have := nodup_le (B.map (·.1)) (M.map (·.1)) (List.pairwise_map.2 h.oB) (fun k hk => by
      obtain ⟨z, hz, rfl⟩ := List.mem_map.1 hk
      by_cases hun : Un L B z.1
      · obtain ⟨y, hy, e⟩ := List.mem_map.1 ((h.mem z.1).2 hun)
        have hyB : y ∈ B := by
          rcases h.put y hy with q | ⟨_, q⟩
          · exact q
          · have ez : (y.1, z.2) = z := Prod.ext e rfl
            exact absurd hz (fun q' => q z.2 (by rw [ez]; exact q'))
        exact List.mem_map.2 ⟨y, (w y).2 (.inl ⟨by rw [List.take_length]; exact hy, h.gd y hyB⟩), e⟩
      · have hp : ¬ UnP L z.1 z.2 := fun q => hun (.inl ⟨z.2, hz, q⟩)
        have hp' : ∃ a', (z.1, a') ∈ L ∧ csame a' z.2 = true := Classical.not_not.1 hp
        obtain ⟨a, h1, _⟩ := hp'
        have hno : ∀ y ∈ ys, y.1 ≠ z.1 := fun y hy e => hun ((h.mem _).1 (List.mem_map.2 ⟨y, hy, e⟩))
        exact List.mem_map.2 ⟨(z.1, a), (w _).2 (.inr ⟨h1, fun ⟨y, hy, e, _⟩ => hno y hy e, fun ⟨y, hy, e, _⟩ => hno y (List.mem_of_mem_take hy) e⟩), rfl⟩)
    simpa using this
end Go.Proofs.YtbkcebbddhaifaaGreatDoor
namespace Go.Proofs.YtbkcebbddhaifaaGreatDoor
open Go.RowKit Go.Maps Go.Sort Go.Lib

/-- A grid of one's own: its blocks lie beyond w. -/
structure Mine (w W : World) (F : Nat → Prop) (g : Nat) (L : List Cc) : Prop where
  gi : GridIn W F g L
  ok : Ok17 L
  lo : w.heap.size ≤ g
  mp : ∀ m, W.heap[g]? = some (.cells #[.map (some m)] 113 (0, 0)) → w.heap.size ≤ m
theorem Mine.g0 {w W : World} {F : Nat → Prop} {g : Nat} {L : List Cc} (h : Mine w W F g L) : GI 0 W g L := GridIn.mono h.gi (fun _ _ => Nat.zero_le _)
/-- Any block. -/
def FA : Nat → Prop := fun i => 0 ≤ i
theorem Mine.mono {w W : World} {F G : Nat → Prop} {g : Nat} {L : List Cc} (h : Mine w W F g L) (hFG : ∀ i, F i → G i) : Mine w W G g L := ⟨GridIn.mono h.gi hFG, h.ok, h.lo, h.mp⟩
/-- Three of them. -/
structure St3 (F1 F2 F3 : Nat → Prop) (w W : World) (g1 : Nat) (L1 : List Cc) (g2 : Nat) (L2 : List Cc) (g3 : Nat) (L3 : List Cc) : Prop where
  m1 : Mine w W F1 g1 L1
  m2 : Mine w W F2 g2 L2
  m3 : Mine w W F3 g3 L3
  a12 : Apart W g1 g2
  a23 : Apart W g2 g3
  a31 : Apart W g3 g1
  kp : Kp w W Nul
theorem St3.rot {F1 F2 F3 : Nat → Prop} {w W : World} {g1 g2 g3 : Nat} {L1 L2 L3 : List Cc} (h : St3 F1 F2 F3 w W g1 L1 g2 L2 g3 L3) : St3 F2 F3 F1 w W g2 L2 g3 L3 g1 L1 := ⟨h.m2, h.m3, h.m1, h.a23, h.a31, h.a12, h.kp⟩
theorem Mine.nul {F : Nat → Prop} {w W W' : World} {g : Nat} {L : List Cc} (h : Mine w W F g L) (k : Kp W W' Nul) : Mine w W' F g L := by
  obtain ⟨mv, bg⟩ := h.g0.blk
  exact ⟨h.gi.kp k, h.ok, h.lo, fun m hm => h.mp m (by rw [← k.block g bg.lt (fun x => x)]; exact hm)⟩
theorem Mine.lt {F : Nat → Prop} {w W : World} {g : Nat} {L : List Cc} (h : Mine w W F g L) : g < W.heap.size := by
  obtain ⟨mv, bg⟩ := h.g0.blk
  exact bg.lt
theorem St3.nul {F1 F2 F3 : Nat → Prop} {w W W' : World} {g1 g2 g3 : Nat} {L1 L2 L3 : List Cc} (h : St3 F1 F2 F3 w W g1 L1 g2 L2 g3 L3) (k : Kp W W' Nul) : St3 F1 F2 F3 w W' g1 L1 g2 L2 g3 L3 :=
  ⟨h.m1.nul k, h.m2.nul k, h.m3.nul k, h.a12.nul k h.m1.lt h.m2.lt, h.a23.nul k h.m2.lt h.m3.lt, h.a31.nul k h.m3.lt h.m1.lt, h.kp.trans k⟩
/-- A step on the first. -/
theorem Mine.km {F : Nat → Prop} {w W W' : World} {g : Nat} {L : List Cc} (h : Mine w W F g L) (k : Km g W W') (hk : Kp w W Nul) : Kp w W' Nul :=
  hk.trans' k.kp (fun i hi e => by
    rcases e with e | ⟨e, _⟩
    · have := h.lo; omega
    · have := h.mp i e; omega)
theorem Mine.other {F F' : Nat → Prop} {w W W' : World} {g g' : Nat} {L L' : List Cc} (h : Mine w W F' g' L') (h1 : Mine w W F g L) (k : Km g W W') (ha : Apart W g g') : Mine w W' F' g' L' := by
  obtain ⟨mv, bg⟩ := h1.g0.blk
  obtain ⟨mv', bg'⟩ := h.g0.blk
  exact ⟨h.gi.other k bg ha, h.ok, h.lo, fun m hm => h.mp m (by
    have := k.blk bg' ha.1.symm
    unfold Blk at this bg'
    rw [bg', ← this]; exact hm)⟩
theorem St3.step {F1 F2 F3 : Nat → Prop} {w W W' : World} {g1 g2 g3 : Nat} {L1 L2 L3 L' : List Cc} (h : St3 F1 F2 F3 w W g1 L1 g2 L2 g3 L3) (k : Km g1 W W') (hg : GridIn W' F1 g1 L') (ho : Ok17 L') : St3 F1 F2 F3 w W' g1 L' g2 L2 g3 L3 := by
  obtain ⟨mv1, b1⟩ := h.m1.g0.blk
  obtain ⟨mv2, b2⟩ := h.m2.g0.blk
  obtain ⟨mv3, b3⟩ := h.m3.g0.blk
  refine ⟨⟨hg, ho, h.m1.lo, fun m hm => ?_⟩, h.m2.other h.m1 k h.a12, h.m3.other h.m1 k h.a31.symm, h.a12.step k h.m2.g0, h.a23.far k h.a12.1.symm h.a31.1 b2 b3, (h.a31.symm.step k h.m3.g0).symm, h.m1.km k h.kp⟩
  rcases k.own m hm with e | e
  · exact h.m1.mp m e
  · exact Nat.le_trans h.kp.size e
theorem Mine.new (w W : World) (h : w.heap.size ≤ W.heap.size) : Mine w (W.alloc (.cells #[.map none] 113)) FA W.heap.size [] :=
  ⟨grid_new W _ (Nat.zero_le _), Ok17.nil, h, fun m hm => by
    rw [heap_alloc_new] at hm
    simp at hm⟩
theorem apart_new {W' : World} {g g' : Nat} (hne : g ≠ g') (hn : Blk W' g [.map none] 113) : Apart W' g g' :=
  ⟨hne, fun m hm => by
    unfold Blk at hn
    rw [hn] at hm
    simp at hm⟩
/-- A put's cell and its content. -/
theorem pt_parts {w : World} {b o : Nat} {c s : Int} {a : Ct} {sa : Value} (h : w.rangeAt b o (ptCells ((c, s), a) sa)) : w.rangeAt b o [.int .i64 c, .int .i64 s] ∧ w.rangeAt b (o + 2) (a.cells sa) := by
  refine ⟨fun j v hj => h j v ?_, fun j v hj => ?_⟩
  · match j, hj with
    | 0, hj => exact hj
    | 1, hj => exact hj
  · have := h (2 + j) v (by rw [Nat.add_comm 2 j]; exact hj)
    rw [← Nat.add_assoc] at this
    exact this
/-- A list of puts that is handed in. -/
structure PutsIn (w : World) (v : Value) (xs : List (Cc × Value)) : Prop where
  sl : ∃ a c, v = .slice a xs.length c ∧ (0 < xs.length → ∃ b o, a = some ⟨b, o, none⟩ ∧ ∀ (i : Nat) y, xs[i]? = some y → w.rangeAt b (o + i * 23) (ptCells y.1 y.2))
  len : xs.length ≤ maxLen
  cn : ∀ y ∈ xs, Cn w y.1.2 y.2
/-- A list of ints that is handed in. -/
structure IntsIn (w : World) (v : Value) (zs : List Int) : Prop where
  sl : ∃ a c, v = .slice a zs.length c ∧ (0 < zs.length → ∃ b o, a = some ⟨b, o, none⟩ ∧ ∀ (i : Nat) y, zs[i]? = some y → w.cell? ⟨b, o + i, none⟩ = some (.int .i64 y))
  len : zs.length ≤ maxLen
  rng : ∀ z ∈ zs, I64 z
end Go.Proofs.YtbkcebbddhaifaaGreatDoor
namespace Go.Proofs.YtbkcebbddhaifaaGreatDoor
open Go.RowKit Go.Maps Go.Sort Go.Lib Go.Shelf

theorem wpListIn_append_tell {F : Fence} {n : Nat} {P : Program} (w : World) {ops : Array Oper} {rest : List Oper} {o : Oper} {a : Act} {Q : Exit → Act → World → Prop}
    (hg : o.guard = none) (s x : Operand) (t : TypeId) (hop : o.op = Op.call { callee := Callee.builtin Builtin.append, args := #[s, x], argTypes := #[t, t] })
    (base : Nat) (e : TypeId) (i : TypeInfo) (z : Value) (size bytes : Nat) (h1 : P.underlying t = some (.slice e)) (h2 : P.info? e = some i) (h3 : i.zero = some z) (h4 : i.size = size) (h5 : i.bytes = bytes) (h6 : z.cells.size = size) (h7 : 0 < size)
    (v : Value) (k : Nat) (xs : List Value) (hs : a.eval s = v) (hown : w.ownsRow base e size v k xs) (ad : Addr) (m c : Nat) (news : List Value) (hx : a.eval x = .slice (some ad) m c) (hn : news.length = m * size)
    (hc : ∀ j u, news[j]? = some u → w.cell? (ad.add j) = some u) (h1c : ∀ u ∈ news, u.oneCell' = true) (hm : 0 < m) (b1 : k + m ≤ maxLen) (b2 : (k + m) * bytes ≤ 140737488355328) (b3 : base ≤ w.heap.size)
    (hK : ∀ g c' w', w'.ownsRow base e size (.slice (some ⟨g, 0, none⟩) (k + m) c') (k + m) (xs ++ news) → w.grownBy w' v.ownBlock → (v.ownBlock = some g ∨ w.heap.size ≤ g) → wpListIn F n P ops Q rest (a.put o.dst (.slice (some ⟨g, 0, none⟩) (k + m) c')) w') :
    wpListIn F n P ops Q (o :: rest) a w := by
  refine wpListIn_plain hg fun K hK' => ?_
  obtain ⟨g, c', w', hrun, r1, r2, r3⟩ := run_append_tell (P := P) w base t o.type e i z size bytes h1 h2 h3 h4 h5 h6 h7 v k xs hown ad m c news hn hc h1c hm b1 b2 b3
  unfold Oper.wpIn
  refine ⟨?_, ?_⟩
  · simp [Oper.about, hop, resolve, Target.leads, Sem.run_pure]
  · rw [Oper.semAt_plain F _ _ (by rw [hop]; intro c hc'; cases hc')]
    simp [execOp, hop, resolve, invoke, builtin, hs, hx, hrun, Result.andThen]
    exact hK' _ _ (hK g c' w' r1 r2 r3)
/-- A variable of one cell gets another value, in a fence. -/
theorem storeIn_var {F : Fence} {n : Nat} {ops : Array Oper} {rest : List Oper} {o : Oper} {a : Act} {w : World} {Q : Exit → Act → World → Prop} (hgd : Region.wanted o (yielded ops a.tmps) = true) (ty : TypeId) (x y : Operand) (ho : o.op = .store ty x y)
    (b : Nat) (hx : a.eval x = .pointer (some ⟨b, 0, none⟩)) (v : Value) (hy : a.eval y = v) (h1 : v.oneCell' = true) (t : TypeId) (old : Value) (hb : Blk w b [old] t) (hi : (Tryz.prog.info? ty).map (·.size) = some 1)
    (h : ∀ W, Blk W b [v] t → Kp w W (fun i => i = b) → wpListIn F n Tryz.prog ops Q rest (a.put o.dst undef) W) : wpListIn F n Tryz.prog ops Q (o :: rest) a w := by
  subst hy
  refine wpInS hgd (by simp [Oper.about, ho]) (fun c hc' => by rw [ho] at hc'; cases hc') (w' := w.setRow b #[a.eval y]) ?_ (h _ (setRow_heap w b #[old] #[a.eval y] t (0, 0) hb) ?_)
  · unfold execOp
    simp only [ho, hx, Instr.storeAt, Instr.sureAddr, Sem.run_bind, Sem.run_pure, Result.andThen_ok, run_storeVar_one w b t ty old _ hb hi h1]
  · refine ⟨rfl, rfl, rfl, ?_, fun i _ hn => ?_⟩
    · unfold World.setRow; simp
    · unfold World.setRow
      simp only [Array.getElem?_modify]
      rw [if_neg (fun e => hn e.symm)]
/-- A grid's contents, in order. -/
theorem in_order {L : List Cc} (h : L.Pairwise (fun x y => x.1 ≠ y.1)) : ∃ K : List Cc, Strict (K.map (·.1)) ∧ ∀ x, x ∈ K ↔ x ∈ L := by
  refine ⟨L.mergeSort (fun x y => !(ltOf cfA) y.1 x.1), ?_, fun x => List.mem_mergeSort⟩
  rw [List.map_mergeSort (s := fun x y => !(ltOf cfA) y x) (fun a _ b _ => rfl)]
  exact merge_strict (List.pairwise_map.2 h)
/-- The list so far. -/
structure AllR (w5 w6 : World) (K : List Cc) (k : Nat) (Z : Nat → Prop) (W : World) (v : Value) (zs : List (Cc × Value)) : Prop where
  len : zs.length = k
  map : zs.map (·.1) = K.take k
  box : Blk W w5.heap.size [v] 22
  pts : Pts W (w6.heap.size + 2) (fun i => w6.heap.size + 2 ≤ i ∧ v.ownBlock ≠ some i) v zs
  z : ∀ i, Z i ↔ i = w5.heap.size ∨ v.ownBlock = some i
  kp : Kp w5 W Nul
def AllI (w5 w6 : World) (K : List Cc) (k : Nat) (Z : Nat → Prop) (W : World) : Prop := ∃ v zs, AllR w5 w6 K k Z W v zs
theorem AllR.hZ {w5 w6 : World} {K : List Cc} {k : Nat} {Z : Nat → Prop} {W : World} {v : Value} {zs : List (Cc × Value)} (h : AllR w5 w6 K k Z W v zs) (h6 : w6.heap.size = w5.heap.size + 1) : ¬ Z w6.heap.size ∧ ¬ Z (w6.heap.size + 1) := by
  have hb := own_block h.pts.row
  constructor
  · intro q
    rcases (h.z _).1 q with e | e
    · omega
    · have := hb _ e; omega
  · intro q
    rcases (h.z _).1 q with e | e
    · omega
    · have := hb _ e; omega
theorem AllR.hZl {w5 w6 : World} {K : List Cc} {k : Nat} {Z : Nat → Prop} {W : World} {v : Value} {zs : List (Cc × Value)} (h : AllR w5 w6 K k Z W v zs) : (∀ i, Z i → i < W.heap.size) ∧ ∀ i, i < w6.heap.size → Z i → i = w5.heap.size := by
  refine ⟨fun i q => ?_, fun i hi q => ?_⟩
  · rcases (h.z _).1 q with e | e
    · rw [e]; exact h.box.lt
    · exact (h.pts.row.lt _ e).2
  · rcases (h.z _).1 q with e | e
    · exact e
    · have := own_block h.pts.row _ e; omega
theorem AllR.hI {w5 w6 : World} {K : List Cc} {k : Nat} {Z : Nat → Prop} {W W' : World} {v : Value} {zs : List (Cc × Value)} (h : AllR w5 w6 K k Z W v zs) (h6 : w6.heap.size = w5.heap.size + 1) (g : Kp W W' (fun i => i = w6.heap.size ∨ i = w6.heap.size + 1)) : AllR w5 w6 K k Z W' v zs := by
  refine ⟨h.len, h.map, h.box.kp g (fun e => by rcases e with e | e <;> omega), ⟨row_kp h.pts.row g (fun i hi e => by rcases e with e | e <;> omega), fun y hy => (h.pts.tree y hy).kp g (fun i hi e => ?_)⟩, h.z, h.kp.trans' g (fun i hi e => by rcases e with e | e <;> omega)⟩
  have := hi.1
  rcases e with e | e <;> omega
/-- One more: what the append and the store leave. -/
theorem AllR.more {w5 w6 : World} {K : List Cc} {k : Nat} {Z : Nat → Prop} {W V V1 w7 X : World} {v : Value} {zs : List (Cc × Value)} {x : Cc} {sl : Value} {g6 c6 : Nat} (h6 : w6.heap.size = w5.heap.size + 1) (hW : W.heap.size ≤ V.heap.size)
    (h : AllR w5 w6 K k Z V v zs) (hx : K[k]? = some x) (ht : NdIn V (fun i => w6.heap.size + 2 ≤ i ∧ ¬ Z i) sl x.2.t) (k1 : Kp V V1 Nul)
    (hrow : w7.ownsRow (w6.heap.size + 2) 57 23 (.slice (some ⟨g6, 0, none⟩) (zs.length + 1) c6) (zs.length + 1) (rowP zs ++ ptCells x sl)) (hgr : V1.grownBy w7 v.ownBlock) (htell : v.ownBlock = some g6 ∨ V1.heap.size ≤ g6)
    (hbox : Blk X w5.heap.size [.slice (some ⟨g6, 0, none⟩) (zs.length + 1) c6] 22) (kX : Kp w7 X (fun i => i = w5.heap.size)) :
    Kp V X Z ∧ ∃ Z', AllI w5 w6 K (k + 1) Z' X ∧ More Z Z' W := by
  have hob := own_block h.pts.row
  have k17 : Kp V1 w7 (fun i => v.ownBlock = some i) := Kp.of_grown hgr (fun i e => e)
  have kVX : Kp V X Z := ((k1.of_nul.trans (k17.mono (fun i _ e => (h.z i).2 (.inr e)))).trans (kX.mono (fun i _ e => (h.z i).2 (.inl e))))
  refine ⟨kVX, fun i => i = w5.heap.size ∨ (Value.slice (some ⟨g6, 0, none⟩) (zs.length + 1) c6).ownBlock = some i, ⟨_, zs ++ [(x, sl)], ?_, ?_, hbox, ⟨?_, fun y hy => ?_⟩, fun i => Iff.rfl, ?_⟩, fun i q => ?_⟩
  · rw [List.length_append, h.len]; rfl
  · rw [List.map_append, h.map, List.take_add_one, hx]; rfl
  · rw [rowP_snoc, List.length_append]
    exact row_kp hrow kX (fun i hi e => by have : i = w5.heap.size := e; omega)
  · have hg : ∀ i, i < V.heap.size → v.ownBlock ≠ some i → (Value.slice (some ⟨g6, 0, none⟩) (zs.length + 1) c6).ownBlock ≠ some i := fun i hl hv e => by
      have e' : g6 = i := by simpa [Value.ownBlock] using e
      subst e'
      rcases htell with q | q
      · exact hv q
      · have := k1.size; omega
    rcases List.mem_append.1 hy with hy | hy
    · exact (h.pts.tree y hy).mono (fun i hi hl => ⟨kVX.block i hl (fun q => by
        rcases (h.z i).1 q with e | e
        · have := hi.1; omega
        · exact hi.2 e), hi.1, hg i hl hi.2⟩)
    · rw [List.mem_singleton] at hy
      subst hy
      exact ht.mono (fun i hi hl => ⟨kVX.block i hl hi.2, hi.1, hg i hl (fun e => hi.2 ((h.z i).2 (.inr e)))⟩)
  · exact h.kp.trans' kVX (fun i hi q => by
      rcases (h.z i).1 q with e | e
      · omega
      · have := hob i e; omega)
  · rcases q with q | q
    · exact .inl ((h.z i).2 (.inl q))
    · have e' : g6 = i := by simpa [Value.ownBlock] using q
      subst e'
      rcases htell with q | q
      · exact .inl ((h.z _).2 (.inr q))
      · exact .inr (by have := k1.size; omega)
end Go.Proofs.YtbkcebbddhaifaaGreatDoor
