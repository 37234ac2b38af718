/- A grid's own steps: which blocks they touch; a content less. No function of the program but keep here. A grid's has. Put: whatever the grid has. -/
import Derived.Test.YtbkcebbddhaifaaGreatDoorC9
import Derived.Test.YtbkcebbddhaifaaGreatDoorC12
import Derived.Test.YtbkcebbddhaifaaGreatDoorC20
namespace Go.Proofs.YtbkcebbddhaifaaGreatDoor
open Go.RowKit Go.Maps

/-- All blocks below B and all blocks of cells but g stand as they did. -/
def Sg (B : Nat) (w : World) (g : Nat) : Nat → Prop := fun i => i = g ∨ (B ≤ i ∧ ∀ cs t f, w.heap[i]? ≠ some (.cells cs t f))
def Kg (B g : Nat) (w w' : World) : Prop := Kp w w' (Sg B w g)
theorem Kg.trans {B g : Nat} {w w1 w2 : World} (h : Kg B g w w1) (k : Kg B g w1 w2) : Kg B g w w2 := by
  refine ⟨k.os.trans h.os, k.tape.trans h.tape, k.output.trans h.output, Nat.le_trans h.size k.size, fun i hi hs => ?_⟩
  have h1 := h.block i hi hs
  refine (k.block i (Nat.lt_of_lt_of_le hi h.size) (fun q => hs ?_)).trans h1
  rcases q with q | q
  · exact .inl q
  · exact .inr ⟨q.1, fun cs t f e => q.2 cs t f (h1.trans e)⟩
theorem Kg.refl (B g : Nat) (w : World) : Kg B g w w := Kp.refl _ _
theorem Kg.of_nul {B g : Nat} {w w' : World} (h : Kp w w' Nul) : Kg B g w w' := Kp.of_nul h
theorem Kg.of_g {B g : Nat} {w w' : World} (h : Kp w w' (fun i => i = g)) : Kg B g w w' := h.mono (fun _ _ e => .inl e)
theorem Kg.blk {B g b : Nat} {w w' : World} {cs : List Value} {t : TypeId} (h : Kg B g w w') (hb : Blk w b cs t) (hne : b ≠ g) : Blk w' b cs t :=
  hb.kp h (fun q => by
    rcases q with q | q
    · exact hne q
    · exact q.2 _ _ _ hb)
mutual
theorem NdIn.monoC {w w' : World} {F F' : Nat → Prop} (hF : ∀ b, F b → (∃ o k x, w.cell? ⟨b, o, none⟩ = some (.int k x)) → w'.heap[b]? = w.heap[b]? ∧ F' b) {sl : Value} : ∀ {t : Nd}, NdIn w F sl t → NdIn w' F' sl t
  | .mk _ ts, h => by
    rw [NdIn] at h ⊢
    obtain ⟨a, c, h1, h2, h3, h4⟩ := h
    refine ⟨a, c, h1, h2, h3, ?_⟩
    rcases h4 with h4 | ⟨b, o, h4, h5, h6⟩
    · exact .inl h4
    · cases ts with
      | nil =>
        subst h4
        exact .inl ⟨rfl, .inr (by simp)⟩
      | cons t ts =>
        have hb : ∃ o k x, w.cell? ⟨b, o, none⟩ = some (.int k x) := by
          rw [NdsIn] at h6
          obtain ⟨⟨_, h7, _⟩, _⟩ := h6
          exact ⟨o + 0, _, _, h7 0 _ rfl⟩
        exact .inr ⟨b, o, h4, (hF b h5 hb).2, NdsIn.monoC hF (hF b h5 hb).1 h6⟩
theorem NdsIn.monoC {w w' : World} {F F' : Nat → Prop} (hF : ∀ b, F b → (∃ o k x, w.cell? ⟨b, o, none⟩ = some (.int k x)) → w'.heap[b]? = w.heap[b]? ∧ F' b) {b : Nat} (hb : w'.heap[b]? = w.heap[b]?) : ∀ {ts : List Nd} {o : Nat}, NdsIn w F b o ts → NdsIn w' F' b o ts
  | [], _, _ => by rw [NdsIn]; trivial
  | t :: ts, o, h => by
    rw [NdsIn] at h ⊢
    obtain ⟨⟨sl, h1, h2⟩, h3⟩ := h
    exact ⟨⟨sl, rangeAt_block h1 hb, NdIn.monoC hF h2⟩, NdsIn.monoC hF hb h3⟩
end
theorem cells_of_int {w : World} {b o : Nat} {k : IntKind} {x : Int} (h : w.cell? ⟨b, o, none⟩ = some (.int k x)) : ∃ cs t f, w.heap[b]? = some (.cells cs t f) ∧ cs[o]? = some (.int k x) := by
  simp only [World.cell?] at h
  cases e : w.heap[b]? with
  | none => rw [e] at h; cases h
  | some ob =>
    rw [e] at h
    cases ob <;> simp at h
    exact ⟨_, _, _, rfl, h⟩
/-- Trees that lie in cells outlive it. -/
theorem NdIn.kg {B g : Nat} {w w' : World} {F : Nat → Prop} {sl : Value} {t : Nd} (h : NdIn w F sl t) (k : Kg B g w w') {mv : Option Nat} (hg : Blk w g [.map mv] 113) : NdIn w' F sl t :=
  h.monoC fun b hb hc => by
    obtain ⟨o, q, x, hc⟩ := hc
    obtain ⟨cs, ty, f, e1, e2⟩ := cells_of_int hc
    refine ⟨k.block b (Array.getElem?_eq_some_iff.1 e1).1 (fun q => ?_), hb⟩
    rcases q with q | q
    · subst q
      unfold Blk at hg
      rw [hg] at e1
      cases e1
      cases o <;> simp at e2
    · exact q.2 _ _ _ e1
theorem Kg.of_m {B g m : Nat} {w w' : World} {n : Nat} {D : DataW Value} (h : Kp w w' (fun i => i = m)) (hB : B ≤ m) (hown : w.ownsMap Tryz.prog 32 rawE m n D) : Kg B g w w' :=
  h.mono fun i _ e => .inr ⟨by have : i = m := e; omega, fun cs t f q => by
    obtain ⟨es, clock, h1, _⟩ := hown
    have e' : i = m := e
    subst e'
    rw [h1] at q
    cases q⟩
/-- What a grid has whose blocks lie from B on. -/
abbrev GI (B : Nat) (w : World) (g : Nat) (L : List Cc) : Prop := GridIn w (fun i => B ≤ i) g L
theorem GI.blk {B : Nat} {w : World} {g : Nat} {L : List Cc} (h : GI B w g L) : ∃ mv, Blk w g [.map mv] 113 := by
  obtain ⟨_, ⟨hb, _⟩ | ⟨m, D, hb, _⟩⟩ := h
  · exact ⟨_, hb⟩
  · exact ⟨_, hb⟩
/-- keep, whatever the grid has. -/
theorem keep_any (B g : Nat) (c r : Int) (hc : I64 c) (hr : I64 r) (ct : Ct) (sl : Value) (L : List Cc) (w : World) (h : GI B w g L) (hroom : (putL L (c, r) ct).length ≤ 4096) (hin : NdIn w (fun b => B ≤ b ∧ b ≠ g) sl ct.t) :
    Calls Tryz.prog 60 #[.pointer (some ⟨g, 0, none⟩), .agg #[.int .i64 c, .int .i64 r], ct.val sl] w fun e w' => e = .returned (.tuple #[]) ∧ GI B w' g (putL L (c, r) ct) ∧ Kg B g w w' := by
  obtain ⟨hg, ⟨hb, rfl⟩ | ⟨m, D, hb, hFm, hne, hown, hm⟩⟩ := h
  · have hglt : g < w.heap.size := (Array.getElem?_eq_some_iff.1 hb).1
    have hg' : B ≤ g := hg
    refine (keep_first g c r hc hr ct sl (fun i => B ≤ i) w hb hg (fun i hi => by show B ≤ i; omega) (hin.mono (fun b hB hlt => ⟨rfl, hB.1, hB.2, hlt⟩))).mono ?_
    rintro e w' ⟨rfl, h1, h2⟩
    exact ⟨rfl, h1, Kg.of_g h2⟩
  · have hin' : NdIn w (fun i => B ≤ i) sl ct.t := hin.mono (fun b hB _ => ⟨rfl, hB.1⟩)
    refine (keep_more g m c r hc hr ct sl (fun i => B ≤ i) D L w hb hg hFm hne hown hm hroom hin' (fun w' hk sl t ht => ht.kg (Kg.of_m (B := B) (g := g) hk hFm hown) hb)).mono ?_
    rintro e w' ⟨rfl, h1, h2⟩
    exact ⟨rfl, h1, Kg.of_m h2 hFm hown⟩
/-- The contents behind a delete. -/
def delL (L : List Cc) (k : Int × Int) : List Cc := L.filter (fun x => decide (x.1 ≠ k))
theorem delL_mem {L : List Cc} {k : Int × Int} (x : Cc) : x ∈ delL L k ↔ x ∈ L ∧ x.1 ≠ k := by
  unfold delL
  rw [List.mem_filter]
  simp
theorem grid_del {w w' : World} {F : Nat → Prop} {D : DataW Value} {L : List Cc} {m n : Nat} {c r : Int} (hown : w.ownsMap Tryz.prog 32 rawE m n D) (hm : MapHas w F D L) (hc : I64 c) (hr : I64 r) (hold : ∀ sl t, NdIn w F sl t → NdIn w' F sl t) :
    MapHas w' F (D.del (kl c r)) (delL L (c, r)) := by
  have hT := hown.tidy lawAddr
  have hne : ∀ x y, I64 x → I64 y → (x, y) ≠ (c, r) → kl x y ≠ kl c r := fun x y hx hy h e => h (by
    have := kl_inj hx hy hc hr e
    exact Prod.ext this.1 this.2)
  refine ⟨?_, fun x hx => hm.rng x ((delL_mem x).1 hx).1, fun x y hx hy => ?_, fun x y ct' h => ?_, List.Pairwise.filter _ hm.once⟩
  · have h1 := size_del (k := kl c r) hT
    rw [hm.size] at h1
    unfold delL
    by_cases hh : Maps.has D (kl c r) = true
    · obtain ⟨ct', hmem⟩ := (hm.keys c r hc hr).1 hh
      have h2 := filt_one hm.once hmem
      rw [if_pos hh] at h1
      omega
    · rw [if_neg hh] at h1
      rw [filt_none (fun ct' hmem => hh ((hm.keys c r hc hr).2 ⟨ct', hmem⟩))]
      omega
  · by_cases e : (x, y) = (c, r)
    · cases e
      rw [has_del_same]
      constructor
      · intro h; cases h
      · rintro ⟨ct', h⟩; exact absurd rfl ((delL_mem _).1 h).2
    · rw [has_del_other (hne x y hx hy e), hm.keys x y hx hy]
      constructor
      · rintro ⟨ct', h⟩; exact ⟨ct', (delL_mem _).2 ⟨h, e⟩⟩
      · rintro ⟨ct', h⟩; exact ⟨ct', ((delL_mem _).1 h).1⟩
  · obtain ⟨h, e⟩ := (delL_mem _).1 h
    have hxy := hm.rng _ h
    obtain ⟨sl', e1, e2⟩ := hm.vals x y ct' h
    exact ⟨sl', by rw [atKey_del_other (hne x y hxy.1 hxy.2 e)]; exact e1, hold _ _ e2⟩
/-- A grid out of which a cell is deleted. -/
theorem gi_del {B : Nat} {w : World} {g : Nat} {L : List Cc} (h : GI B w g L) {c r : Int} (hc : I64 c) (hr : I64 r) : ∃ mv w', w.cell? ⟨g, 0, none⟩ = some (.map mv) ∧ (∀ ty, (Builtin.delete_ #[111, 32] ty #[.map mv, .agg #[.int .i64 c, .int .i64 r]]).run Tryz.prog w = .ok (.tuple #[]) w') ∧ GI B w' g (delL L (c, r)) ∧ Kg B g w w' := by
  have hkey := kl_key hc hr
  obtain ⟨hg, ⟨hb, rfl⟩ | ⟨m, D, hb, hFm, hne, hown, hm⟩⟩ := h
  · exact ⟨none, w, Blk.cell (cs := [.map none]) hb rfl, fun ty => Maps.drop_nil lawAddr Tryz.underlying111 hkey ty, ⟨hg, .inl ⟨hb, rfl⟩⟩, Kg.refl _ _ _⟩
  · obtain ⟨w', h1, h2, h3⟩ := hown.drop lawAddr Tryz.underlying111 hkey 0
    have k := Kp.of_turned h3
    have kg : Kg B g w w' := Kg.of_m k hFm hown
    have hd := grid_del hown hm hc hr (fun sl t ht => ht.kg kg hb)
    refine ⟨some m, w', Blk.cell (cs := [.map (some m)]) hb rfl, fun ty => h1, ⟨hg, .inr ⟨m, _, (k.block g (Array.getElem?_eq_some_iff.1 hb).1 (fun e => hne e.symm)).trans hb, hFm, hne, h2, hd⟩⟩, kg⟩
/-- How many it has. -/
theorem gi_len {B : Nat} {w : World} {g : Nat} {L : List Cc} (h : GI B w g L) : ∃ mv, Blk w g [.map mv] 113 ∧ ∀ w', Kp w w' Nul → ∀ ty, (Builtin.len_ #[111] ty #[.map mv]).run Tryz.prog w' = .ok (.int .i64 L.length) w' := by
  obtain ⟨_, ⟨hb, rfl⟩ | ⟨m, D, hb, _, hne, hown, hm⟩⟩ := h
  · exact ⟨none, hb, fun w' _ ty => Maps.len_nil Tryz.underlying111 ty⟩
  · refine ⟨some m, hb, fun w' k ty => ?_⟩
    have := (ownsMap_block hown (k.block m hown.lt (fun x => x))).len Tryz.underlying111 ty
    rw [hm.size] at this
    exact this
end Go.Proofs.YtbkcebbddhaifaaGreatDoor
namespace Go.Proofs.YtbkcebbddhaifaaGreatDoor
open Go.RowKit Go.Maps

set_option maxRecDepth 20000 in
set_option maxHeartbeats 8000000 in
theorem has_at (g : Nat) (c r : Int) (mv : Option Nat) (cs : Array Value) (B : Bool) (w : World) (hcs : cs.size = 21) (hone : cs.all (·.oneCell') = true) (hlk : Lk w g c r mv (.agg cs) B) :
    Calls Tryz.prog 59 #[.pointer (some ⟨g, 0, none⟩), .agg #[.int .i64 c, .int .i64 r]] w fun e w' => e = .returned (.bool B) ∧ Kp w w' Nul := by
  obtain ⟨W1, hW1⟩ : ∃ W1, w.alloc (.cells #[.int .i64 c, .int .i64 r] 32) = W1 := ⟨_, rfl⟩
  have k1 : Kp w W1 Nul := by rw [← hW1]; exact (Kp.refl w Nul).alloc _
  have hA1 : Blk W1 w.heap.size [.int .i64 c, .int .i64 r] 32 := by rw [← hW1]; exact Blk.new w [.int .i64 c, .int .i64 r] _
  have hglt : g < w.heap.size := (Array.getElem?_eq_some_iff.1 hlk.cell).1
  have hg1 : Blk W1 g [.map mv] 113 := (k1.block g hglt (fun x => x)).trans hlk.cell
  have HS : Hid (∀ wq, Kp W1 wq Nul → (wq.cell? ⟨w.heap.size, 0, none⟩ = some (.int .i64 c) ∧ wq.cell? ⟨w.heap.size, 1, none⟩ = some (.int .i64 r) ∧ wq.cell? ⟨g, 0, none⟩ = some (.map mv) ∧ (Instr.lookup 111 (.map mv) (.agg #[.int .i64 c, .int .i64 r]) true).run Tryz.prog wq = .ok (.tuple #[.agg cs, .bool B]) wq)) := fun wq k => ⟨(hA1.kp k (fun x => x)).cell rfl, (hA1.kp k (fun x => x)).cell rfl, (hg1.kp k (fun x => x)).cell rfl, hlk.two wq (fun m hm => by
    have h2 := (hlk.ne m hm).2
    have h3 := k1.size
    exact (k.block m (by omega) (fun x => x)).trans (k1.block m h2 (fun x => x)))⟩
  have HW1 : Hid (w.alloc (.cells #[.int .i64 c, .int .i64 r] 32) = W1) := hW1
  have HK1 : Hid (Kp w W1 Nul) := k1
  have HCS : Hid (cs.size = 21) := hcs
  have HONE : Hid (cs.all (·.oneCell') = true) := hone
  clear hW1 k1 hA1 hg1 hlk hglt hcs hone
  go_enter Tryz.func59, Tryz.ntmps59
  go_wp2_with fail
  rw [HW1.out]
  clear HW1
  refine wp_region_noPanic ?_
  refine wp_region_hel (fun w' : World => Kp W1 w' Nul) (by kernel_rfl) ((Kp.refl W1 _).drew) (fun hHeld => ?_)
  refine wpH_takes (i := 0) (v := ?_) (some 8) rfl rfl (by kernel_rfl) (by kernel_rfl) (by kernel_rfl) (fun _ _ _ h => h) (Or.inl ⟨by rfl, ?_⟩) hHeld ?_
  rotate_left
  · intro w' hSw; obtain ⟨s0, s1, s2, s3⟩ := HS.out _ hSw; clear hSw; go_simp; try with_reducible rfl
  simp only [Act.put, List.setIfInBounds_toArray, List.set_cons_zero, List.set_cons_succ]
  refine wpH_takes (i := 1) (v := ?_) (some 9) rfl rfl (by kernel_rfl) (by kernel_rfl) (by kernel_rfl) (fun _ _ _ h => h) (Or.inl ⟨by rfl, ?_⟩) hHeld ?_
  rotate_left
  · intro w' hSw; obtain ⟨s0, s1, s2, s3⟩ := HS.out _ hSw; clear hSw; go_simp; try with_reducible rfl
  simp only [Act.put, List.setIfInBounds_toArray, List.set_cons_zero, List.set_cons_succ]
  refine wpH_takes (i := 2) (v := ?_) (some 10) rfl rfl (by kernel_rfl) (by kernel_rfl) (by kernel_rfl) (fun _ _ _ h => h) (Or.inl ⟨by rfl, ?_⟩) hHeld ?_
  rotate_left
  · intro w' hSw; obtain ⟨s0, s1, s2, s3⟩ := HS.out _ hSw; clear hSw; go_simp; try with_reducible rfl
  simp only [Act.put, List.setIfInBounds_toArray, List.set_cons_zero, List.set_cons_succ]
  refine wpH_takes (i := 3) (v := ?_) (some 11) rfl rfl (by kernel_rfl) (by kernel_rfl) (by kernel_rfl) (fun _ _ _ h => h) (Or.inl ⟨by rfl, ?_⟩) hHeld ?_
  rotate_left
  · intro w' hSw; obtain ⟨s0, s1, s2, s3⟩ := HS.out _ hSw; clear hSw; go_simp; try with_reducible rfl
  simp only [Act.put, List.setIfInBounds_toArray, List.set_cons_zero, List.set_cons_succ]
  refine wpH_takes (i := 4) (v := ?_) (some 12) rfl rfl (by kernel_rfl) (by kernel_rfl) (by kernel_rfl) (fun _ _ _ h => h) (Or.inl ⟨by rfl, ?_⟩) hHeld ?_
  rotate_left
  · intro w' hSw; obtain ⟨s0, s1, s2, s3⟩ := HS.out _ hSw; clear hSw; go_simp; try with_reducible rfl
  simp only [Act.put, List.setIfInBounds_toArray, List.set_cons_zero, List.set_cons_succ]
  refine wpH_takes (i := 5) (v := ?_) (some 13) rfl rfl (by kernel_rfl) (by kernel_rfl) (by kernel_rfl) (fun _ _ _ h => h) (Or.inl ⟨by rfl, ?_⟩) hHeld ?_
  rotate_left
  · intro w' hSw; obtain ⟨s0, s1, s2, s3⟩ := HS.out _ hSw; clear hSw; go_simp; try with_reducible rfl
  simp only [Act.put, List.setIfInBounds_toArray, List.set_cons_zero, List.set_cons_succ]
  refine wpH_takes (i := 6) (v := ?_) (some 7) rfl rfl (by kernel_rfl) (by kernel_rfl) (by kernel_rfl) (fun _ _ _ h => h) (Or.inl ⟨by rfl, ?_⟩) hHeld ?_
  rotate_left
  · intro w' hSw; obtain ⟨s0, s1, s2, s3⟩ := HS.out _ hSw; clear hSw; go_simp; try with_reducible rfl
  simp only [Act.put, List.setIfInBounds_toArray, List.set_cons_zero, List.set_cons_succ]
  refine wpH_takes (i := 7) (v := ?_) (some 14) rfl rfl (by kernel_rfl) (by kernel_rfl) (by kernel_rfl) (fun _ _ _ h => h) (Or.inl ⟨by rfl, ?_⟩) hHeld ?_
  rotate_left
  · intro w' hSw; obtain ⟨s0, s1, s2, s3⟩ := HS.out _ hSw; clear hSw; go_simp; try with_reducible rfl
  simp only [Act.put, List.setIfInBounds_toArray, List.set_cons_zero, List.set_cons_succ]
  refine wpH_takes (i := 8) (v := ?_) (some 15) rfl rfl (by kernel_rfl) (by kernel_rfl) (by kernel_rfl) (fun _ _ _ h => h) (Or.inl ⟨by rfl, ?_⟩) hHeld ?_
  rotate_left
  · intro w' hSw; obtain ⟨s0, s1, s2, s3⟩ := HS.out _ hSw; clear hSw; go_simp; try with_reducible rfl
  simp only [Act.put, List.setIfInBounds_toArray, List.set_cons_zero, List.set_cons_succ]
  refine wpH_step (i := 9) (by kernel_rfl) rfl rfl (fun K hK => ?_)
  go_simp
  obtain ⟨W2, hW2⟩ : ∃ W2, (W1.alloc (.cells #[.int .i64 0, .int .i64 0, .float .f64 0, .string ⟨#[]⟩, .bool false, .int .i64 0, .int .i64 0, .int .i64 0, .float .f64 0, .string ⟨#[]⟩, .bool false, .int .i64 0, .int .i64 0, .int .i64 0, .bool false, .bool false, .int .i64 0, .int .i64 0, .bool false, .bool false, .slice none 0 0] 55)).drew = W2 := ⟨_, rfl⟩
  have k12 : Kp W1 W2 Nul := by rw [← hW2]; exact ((Kp.refl W1 Nul).alloc _).drew
  have hB2 : W2.heap[W1.heap.size]? = some (.cells #[.int .i64 0, .int .i64 0, .float .f64 0, .string ⟨#[]⟩, .bool false, .int .i64 0, .int .i64 0, .int .i64 0, .float .f64 0, .string ⟨#[]⟩, .bool false, .int .i64 0, .int .i64 0, .int .i64 0, .bool false, .bool false, .int .i64 0, .int .i64 0, .bool false, .bool false, .slice none 0 0] 55 (0, 0)) := by rw [← hW2]; exact heap_alloc_new W1 _
  rw [hW2]
  refine hK.out _ _ k12 (fun hHeld2 => ?_)
  clear hK K hHeld hW2
  refine wpH_step (i := 10) (by kernel_rfl) rfl rfl (fun K hK => ?_)
  refine wp_store_mid 55 (.tmp 5) (.tmp 14) rfl W1.heap.size 0 cs rfl rfl (there_of_block hB2 _ _ (by rw [HCS.out]; simp)) (by rw [HCS.out]; exact infoContent) HONE.out ?_
  obtain ⟨W5, hW5⟩ : ∃ W5, W2.setCells W1.heap.size 0 cs.toList = W5 := ⟨_, rfl⟩
  have k25 : Kp W2 W5 (fun i => i = W1.heap.size) := by rw [← hW5]; exact setCells_kp (fun i => i = W1.heap.size) rfl _ _ _
  have k15 : Kp W1 W5 Nul := k12.trans' k25 (fun i hi e => by have : i = W1.heap.size := e; omega)
  show K _ (W2.setCells W1.heap.size 0 cs.toList)
  rw [hW5]
  refine hK.out _ _ k15 (fun hHeld3 => ?_)
  have HEND : Hid (Kp w W5 Nul) := HK1.out.trans k15
  clear hK K hHeld2 k12 k25 k15 hB2 hW5 HS HK1
  refine wpH_takes (i := 11) (v := ?_) (some 6) rfl rfl (by kernel_rfl) (by kernel_rfl) (by kernel_rfl) (fun _ _ _ h => h) (Or.inl ⟨by rfl, ?_⟩) hHeld3 ?_
  rotate_left
  · intro w' hSw; clear hSw; go_simp; try with_reducible rfl
  simp only [Act.put, List.setIfInBounds_toArray]
  refine wpAnyH_done (by kernel_rfl) ?_ _
  refine NoPanic.normal ?_
  clear hHeld3
  go_wp2_with fail
  go_ret
  exact ⟨rfl, HEND.out⟩
end Go.Proofs.YtbkcebbddhaifaaGreatDoor
namespace Go.Proofs.YtbkcebbddhaifaaGreatDoor
open Go.RowKit Go.Maps

theorem GI.once {B : Nat} {w : World} {g : Nat} {L : List Cc} (h : GI B w g L) : L.Pairwise (fun x y => x.1 ≠ y.1) := by
  obtain ⟨_, ⟨_, rfl⟩ | ⟨m, D, _, _, _, _, hm⟩⟩ := h
  · exact List.Pairwise.nil
  · exact hm.once
theorem putL_in {L : List Cc} {k : Int × Int} {ct : Ct} (ho : L.Pairwise (fun x y => x.1 ≠ y.1)) (h : ∃ c', (k, c') ∈ L) : (putL L k ct).length = L.length := by
  obtain ⟨c', hc⟩ := h
  unfold putL
  rw [List.length_cons, filt_one ho hc]
theorem putL_out {L : List Cc} {k : Int × Int} {ct : Ct} (h : ∀ c', (k, c') ∉ L) : (putL L k ct).length = L.length + 1 := by
  unfold putL
  rw [List.length_cons, filt_none h]
theorem delL_in {L : List Cc} {k : Int × Int} (ho : L.Pairwise (fun x y => x.1 ≠ y.1)) (h : ∃ c', (k, c') ∈ L) : (delL L k).length + 1 = L.length := by
  obtain ⟨c', hc⟩ := h
  exact filt_one ho hc
theorem delL_out {L : List Cc} {k : Int × Int} (h : ∀ c', (k, c') ∉ L) : delL L k = L := filt_none h
/-- has, of a grid's contents. -/
theorem has_gi {B0 : Nat} {w : World} {g : Nat} {L : List Cc} (h : GI B0 w g L) {c r : Int} (hc : I64 c) (hr : I64 r) :
    ∃ B, ((B = true ∧ ∃ ct, ((c, r), ct) ∈ L) ∨ (B = false ∧ ∀ ct, ((c, r), ct) ∉ L)) ∧ ∀ wq, Kp w wq Nul → Calls Tryz.prog 59 #[.pointer (some ⟨g, 0, none⟩), .agg #[.int .i64 c, .int .i64 r]] wq fun e w' => e = .returned (.bool B) ∧ Kp wq w' Nul := by
  obtain ⟨mv, v, B, hlk, hv⟩ := lk_of h hc hr
  have hlk' : ∀ wq, Kp w wq Nul → Lk wq g c r mv v B := fun wq k => ⟨(k.block g (Array.getElem?_eq_some_iff.1 hlk.cell).1 (fun x => x)).trans hlk.cell, fun m hm => ⟨(hlk.ne m hm).1, Nat.lt_of_lt_of_le (hlk.ne m hm).2 k.size⟩, fun w' hw' => hlk.two w' (fun m hm => (hw' m hm).trans (k.block m (hlk.ne m hm).2 (fun x => x))), fun w' hw' => hlk.one w' (fun m hm => (hw' m hm).trans (k.block m (hlk.ne m hm).2 (fun x => x)))⟩
  rcases hv with ⟨rfl, ct, sl, h1, rfl, h3⟩ | ⟨rfl, rfl, h2⟩
  · exact ⟨true, .inl ⟨rfl, ct, h1⟩, fun wq k => has_at g c r mv (ct.cells sl).toArray true wq rfl (ct.one h3.one) (hlk' wq k)⟩
  · exact ⟨false, .inr ⟨rfl, h2⟩, fun wq k => has_at g c r mv _ false wq rfl (Ct.one ⟨0, ⟨0, 0, ⟨#[]⟩, false, 0⟩, zNd⟩ (sl := .slice none 0 0) rfl) (hlk' wq k)⟩
set_option maxRecDepth 20000 in
set_option maxHeartbeats 8000000 in
theorem put_ok (B g : Nat) (c r : Int) (hx : vC c r = true) (ct : Ct) (hct : ct.k ≠ 0) (sl : Value) (L : List Cc) (w : World) (h : GI B w g L) (hlen : L.length ≤ 4096) (hroom : L.length < 4096 ∨ ∃ c', ((c, r), c') ∈ L)
    (hval : ∀ wq, Kp w wq Nul → Calls Tryz.prog 58 #[ct.val sl] wq fun e w' => e = .returned (.bool true) ∧ Kp wq w' Nul)
    (hcp : ∀ wq, Kp w wq Nul → Calls Tryz.prog 61 #[ct.val sl] wq fun e w' => ∃ sl' fp, e = .returned ((cpC ct).val sl') ∧ Own w' wq.heap.size sl' (cpC ct).t fp ∧ Kp wq w' Nul) :
    Calls Tryz.prog 16 #[.pointer (some ⟨g, 0, none⟩), .agg #[.int .i64 c, .int .i64 r], ct.val sl] w fun e w' => e = .returned (.int .i64 0) ∧ GI B w' g (putL L (c, r) (cpC ct)) ∧ Kg B g w w' := by
  have hi : I64 c ∧ I64 r := by
    have := (vC_iff c r).1 hx
    unfold I64
    omega
  obtain ⟨W1, hW1⟩ : ∃ W1, (w.alloc (.cells #[.int .i64 c, .int .i64 r] 32)).alloc (.cells (ct.cells sl).toArray 55) = W1 := ⟨_, rfl⟩
  have k1 : Kp w W1 Nul := by rw [← hW1]; exact ((Kp.refl w Nul).alloc _).alloc _
  have hA1 : Blk W1 w.heap.size [.int .i64 c, .int .i64 r] 32 := by rw [← hW1]; exact (Blk.new w [.int .i64 c, .int .i64 r] _).alloc _
  have hC1 : Blk W1 (w.heap.size + 1) (ct.cells sl) 55 := by
    have := Blk.new (w.alloc (.cells #[.int .i64 c, .int .i64 r] 32)) (ct.cells sl) 55
    rw [World.size_alloc] at this
    rw [← hW1]; exact this
  have HC1 : Hid (((w.alloc (.cells #[.int .i64 c, .int .i64 r] 32)).alloc (.cells (ct.cells sl).toArray 55)).heap[w.heap.size + 1]? = some (.cells (ct.cells sl).toArray 55 (0, 0))) := by show _ = _; rw [hW1]; exact hC1
  have HW1 : Hid ((w.alloc (.cells #[.int .i64 c, .int .i64 r] 32)).alloc (.cells #[.int .i64 ct.k, .int .i64 ct.v.k, .float .f64 ct.v.x, .string ct.v.s, .bool ct.v.b, .int .i64 ct.v.f, .int .i64 ct.t.hd.k, .int .i64 ct.t.hd.o, .float .f64 ct.t.hd.x, .string ct.t.hd.s, .bool ct.t.hd.b, .int .i64 ct.t.hd.f, .int .i64 ct.t.hd.c1, .int .i64 ct.t.hd.r1, .bool ct.t.hd.p1, .bool ct.t.hd.q1, .int .i64 ct.t.hd.c2, .int .i64 ct.t.hd.r2, .bool ct.t.hd.p2, .bool ct.t.hd.q2, sl] 55) = W1) := hW1
  obtain ⟨mv, hgb⟩ := h.blk
  have hglt0 : g < w.heap.size := hgb.lt
  have hgB : B ≤ g := h.1
  have HS : Hid (∀ wq, Kp W1 wq Nul → (wq.cell? ⟨w.heap.size, 0, none⟩ = some (.int .i64 c) ∧ wq.cell? ⟨w.heap.size, 1, none⟩ = some (.int .i64 r) ∧ wq.cell? ⟨w.heap.size + 1, 0, none⟩ = some (.int .i64 ct.k))) := fun wq k => ⟨(hA1.kp k (fun x => x)).cell rfl, (hA1.kp k (fun x => x)).cell rfl, (hC1.kp k (fun x => x)).cell (i := 0) rfl⟩
  have HV : Hid (Calls Tryz.prog 58 #[ct.val sl] W1 fun e w' => e = .returned (.bool true) ∧ Kp W1 w' Nul) := hval W1 k1
  have HA : Hid (∀ w, Calls Tryz.prog 30 #[.agg #[.int .i64 c, .int .i64 r]] w fun e w' => e = .returned (.bool true) ∧ Kp w w' Nul) := fun w => (pValid_at c r w).mono fun e w' ⟨h1, h2⟩ => ⟨by rw [h1, hx], by rw [h2]; exact (Kp.refl w Nul).alloc _⟩
  have HK1 : Hid (Kp w W1 Nul) := k1
  have HS2 : Hid (∀ wq, Kp W1 wq (Sg B W1 g) → (wq.cell? ⟨w.heap.size, 0, none⟩ = some (.int .i64 c) ∧ wq.cell? ⟨w.heap.size, 1, none⟩ = some (.int .i64 r) ∧ Blk wq (w.heap.size + 1) (ct.cells sl) 55)) := fun wq k => ⟨(Kg.blk k hA1 (by omega)).cell rfl, (Kg.blk k hA1 (by omega)).cell rfl, Kg.blk k hC1 (by omega)⟩
  have HCp : Hid (∀ wq, Kp W1 wq Nul → Calls Tryz.prog 61 #[ct.val sl] wq fun e w' => ∃ sl' fp, e = .returned ((cpC ct).val sl') ∧ Own w' wq.heap.size sl' (cpC ct).t fp ∧ Kp wq w' Nul) := fun wq k => hcp wq (k1.trans k)
  have HKeep : Hid (∀ wq sl', Kp W1 wq Nul → NdIn wq (fun b => W1.heap.size ≤ b ∧ b < wq.heap.size) sl' (cpC ct).t → Calls Tryz.prog 60 #[.pointer (some ⟨g, 0, none⟩), .agg #[.int .i64 c, .int .i64 r], (cpC ct).val sl'] wq fun e w' => e = .returned (.tuple #[]) ∧ GI B w' g (putL L (c, r) (cpC ct)) ∧ Kg B g wq w') := fun wq sl' k hin => by
    have hglt : g < W1.heap.size := Nat.lt_of_lt_of_le hglt0 k1.size
    refine keep_any B g c r hi.1 hi.2 (cpC ct) sl' L wq (h.kp (k1.trans k)) ?_ (hin.mono (fun b hB hlt => ⟨rfl, by omega, by omega⟩))
    by_cases hn : ∃ c', ((c, r), c') ∈ L
    · rw [putL_in h.once hn]; exact hlen
    · rw [putL_out (fun c' hc' => hn ⟨c', hc'⟩)]
      rcases hroom with h | h
      · omega
      · exact absurd h hn
  obtain ⟨mv', hgb', hlenq⟩ := gi_len h
  have HG : Hid (∀ wq, Kp W1 wq Nul → wq.cell? ⟨g, 0, none⟩ = some (.map mv') ∧ ∀ ty, (Builtin.len_ #[111] ty #[.map mv']).run Tryz.prog wq = .ok (.int .i64 L.length) wq) := fun wq k => ⟨(hgb'.kp (k1.trans k) (fun x => x)).cell rfl, hlenq wq (k1.trans k)⟩
  obtain ⟨b0, hB, hhas⟩ := has_gi h hi.1 hi.2
  have HH : Hid (∀ wq, Kp W1 wq Nul → Calls Tryz.prog 59 #[.pointer (some ⟨g, 0, none⟩), .agg #[.int .i64 c, .int .i64 r]] wq fun e w' => e = .returned (.bool b0) ∧ Kp wq w' Nul) := fun wq k => hhas wq (k1.trans k)
  have HRoom : Hid (¬ L.length < 4096 → b0 = true) := fun hn => by
    rcases hroom with h | h
    · exact absurd h hn
    · rcases hB with hB | hB
      · exact hB.1
      · obtain ⟨c', hc'⟩ := h; exact absurd hc' (hB.2 c')
  have hk0 : (ct.k == 0) = false := by simpa using hct
  have HL : Hid (L.length ≤ 4096) := hlen
  clear hval hcp hW1 k1 hA1 hC1 hx hi hct hglt0 hgB h hlen hroom hgb hgb' hlenq hhas hB mv
  go_enter Tryz.func16, Tryz.ntmps16
  go_wp2_with (first | (refine load_content_law rfl (.tmp 5) rfl (w.heap.size + 1) rfl _ HC1.out rfl ?_) | fail)
  rw [HW1.out]
  refine HV.out.mono ?_
  rintro e w2 ⟨rfl, hk2⟩
  obtain ⟨a1, a2, a3⟩ := HS.out w2 hk2
  have HK2 : Hid (Kp W1 w2 Nul) := hk2
  clear hk2 HV HC1 HW1
  go_wp2_with fail
  refine (HA.out _).mono ?_
  rintro e w3 ⟨rfl, hk3⟩
  obtain ⟨b1, b2, b3⟩ := HS.out w3 (HK2.out.trans hk3)
  obtain ⟨b4, hl3⟩ := HG.out w3 (HK2.out.trans hk3)
  have HK3 : Hid (Kp W1 w3 Nul) := HK2.out.trans hk3
  clear hk3 HA a1 a2 a3 HK2
  by_cases hl : L.length < 4096
  · have j : ¬ (4096 : Int) ≤ (L.length : Int) := by omega
    have j2 : decide ((4096 : Int) ≤ (L.length : Int)) = false := by simp; omega
    go_wp2_with fail
    refine wp_region_noPanic ?_
    refine wp_region_hel (fun w' : World => Kp W1 w' (Sg B W1 g)) (by kernel_rfl) (HK3.out.of_nul.drew) (fun hHeld => ?_)
    have tok0 : True := trivial
    have tok1 : True := trivial
    iterate 2 ((first | (clear tok0; refine wpH_takes (i := 0) (v := ?_) (some 41) rfl rfl (by kernel_rfl) (by kernel_rfl) (by kernel_rfl) (fun _ _ _ h => h) (Or.inl ⟨by rfl, ?_⟩) hHeld ?_) | (clear tok1; refine wpH_takes (i := 1) (v := ?_) (some 42) rfl rfl (by kernel_rfl) (by kernel_rfl) (by kernel_rfl) (fun _ _ _ h => h) (Or.inl ⟨by rfl, ?_⟩) hHeld ?_)); rotate_left; (· intro w hSw; obtain ⟨s0, s1, _⟩ := HS2.out _ hSw; clear hSw; go_simp; try with_reducible rfl); simp only [Act.put, List.setIfInBounds_toArray, List.set_cons_zero, List.set_cons_succ])
    refine wpH_takes (i := 2) (v := ct.val sl) (some 43) rfl rfl (by kernel_rfl) (by kernel_rfl) (by kernel_rfl) (fun _ _ _ h => h) (Or.inl ⟨by rfl, fun w' hSw => exec_load_content _ rfl rfl (HS2.out w' hSw).2.2 rfl⟩) hHeld ?_
    simp only [Act.put, List.setIfInBounds_toArray, List.set_cons_zero, List.set_cons_succ]
    refine wpH_step (i := 3) (by kernel_rfl) rfl rfl (fun K hK => ?_)
    go_simp
    refine (HCp.out _ HK3.out.drew).mono ?_
    rintro e w4 ⟨sl', fp, rfl, hown, hk4⟩
    have hk14 : Kp W1 w4 Nul := HK3.out.drew.trans hk4
    have hin4 := hown.isIn.mono (w' := w4) (F' := fun b => W1.heap.size ≤ b ∧ b < w4.heap.size) (fun b hB _ => ⟨rfl, by have h1 := hB.1; have h2 := HK3.out.size; have h3 : w3.drew.heap.size = w3.heap.size := rfl; omega, hB.2⟩)
    refine hK.out _ _ hk14.of_nul (fun hHeld2 => ?_)
    clear hK K hown hk4
    refine wpH_step (i := 4) (by kernel_rfl) rfl rfl (fun K hK => ?_)
    go_simp
    refine (HKeep.out w4 sl' hk14 hin4).mono ?_
    rintro e w5 ⟨rfl, hg5, hk5⟩
    refine hK.out _ _ ((Kg.of_nul hk14).trans hk5) (fun _ => ?_)
    have HEND : Hid (GI B w5 g (putL L (c, r) (cpC ct)) ∧ Kg B g w w5) := ⟨hg5, (Kg.of_nul (HK1.out.trans hk14)).trans hk5⟩
    clear hK K hHeld hHeld2 hg5 hk5 hk14 hin4
    refine wpAnyH_done (by kernel_rfl) ?_ _
    refine NoPanic.normal ?_
    go_wp2_with fail
    go_ret
    exact ⟨rfl, HEND.out⟩
  · have j : (4096 : Int) ≤ (L.length : Int) := by omega
    have hBt := HRoom.out hl
    subst hBt
    go_wp2_with fail
    refine (HH.out _ HK3.out).mono ?_
    rintro e w3' ⟨rfl, hk3'⟩
    have HK3' : Hid (Kp W1 w3' Nul) := HK3.out.trans hk3'
    clear hk3' b1 b2 b3 b4 hl3 HK3
    go_wp2_with fail
    refine wp_region_noPanic ?_
    refine wp_region_hel (fun w' : World => Kp W1 w' (Sg B W1 g)) (by kernel_rfl) (HK3'.out.of_nul.drew) (fun hHeld => ?_)
    have tok0 : True := trivial
    have tok1 : True := trivial
    iterate 2 ((first | (clear tok0; refine wpH_takes (i := 0) (v := ?_) (some 41) rfl rfl (by kernel_rfl) (by kernel_rfl) (by kernel_rfl) (fun _ _ _ h => h) (Or.inl ⟨by rfl, ?_⟩) hHeld ?_) | (clear tok1; refine wpH_takes (i := 1) (v := ?_) (some 42) rfl rfl (by kernel_rfl) (by kernel_rfl) (by kernel_rfl) (fun _ _ _ h => h) (Or.inl ⟨by rfl, ?_⟩) hHeld ?_)); rotate_left; (· intro w hSw; obtain ⟨s0, s1, _⟩ := HS2.out _ hSw; clear hSw; go_simp; try with_reducible rfl); simp only [Act.put, List.setIfInBounds_toArray, List.set_cons_zero, List.set_cons_succ])
    refine wpH_takes (i := 2) (v := ct.val sl) (some 43) rfl rfl (by kernel_rfl) (by kernel_rfl) (by kernel_rfl) (fun _ _ _ h => h) (Or.inl ⟨by rfl, fun w' hSw => exec_load_content _ rfl rfl (HS2.out w' hSw).2.2 rfl⟩) hHeld ?_
    simp only [Act.put, List.setIfInBounds_toArray, List.set_cons_zero, List.set_cons_succ]
    refine wpH_step (i := 3) (by kernel_rfl) rfl rfl (fun K hK => ?_)
    go_simp
    refine (HCp.out _ HK3'.out.drew).mono ?_
    rintro e w4 ⟨sl', fp, rfl, hown, hk4⟩
    have hk14 : Kp W1 w4 Nul := HK3'.out.drew.trans hk4
    have hin4 := hown.isIn.mono (w' := w4) (F' := fun b => W1.heap.size ≤ b ∧ b < w4.heap.size) (fun b hB _ => ⟨rfl, by have h1 := hB.1; have h2 := HK3'.out.size; have h3 : w3'.drew.heap.size = w3'.heap.size := rfl; omega, hB.2⟩)
    refine hK.out _ _ hk14.of_nul (fun hHeld2 => ?_)
    clear hK K hown hk4
    refine wpH_step (i := 4) (by kernel_rfl) rfl rfl (fun K hK => ?_)
    go_simp
    refine (HKeep.out w4 sl' hk14 hin4).mono ?_
    rintro e w5 ⟨rfl, hg5, hk5⟩
    refine hK.out _ _ ((Kg.of_nul hk14).trans hk5) (fun _ => ?_)
    have HEND : Hid (GI B w5 g (putL L (c, r) (cpC ct)) ∧ Kg B g w w5) := ⟨hg5, (Kg.of_nul (HK1.out.trans hk14)).trans hk5⟩
    clear hK K hHeld hHeld2 hg5 hk5 hk14 hin4
    refine wpAnyH_done (by kernel_rfl) ?_ _
    refine NoPanic.normal ?_
    go_wp2_with fail
    go_ret
    exact ⟨rfl, HEND.out⟩
set_option maxRecDepth 20000 in
set_option maxHeartbeats 8000000 in
theorem put_full (B g : Nat) (c r : Int) (hx : vC c r = true) (ct : Ct) (hct : ct.k ≠ 0) (sl : Value) (L : List Cc) (w : World) (h : GI B w g L) (hlen : 4096 ≤ L.length) (hno : ∀ c', ((c, r), c') ∉ L)
    (hval : ∀ wq, Kp w wq Nul → Calls Tryz.prog 58 #[ct.val sl] wq fun e w' => e = .returned (.bool true) ∧ Kp wq w' Nul) :
    Calls Tryz.prog 16 #[.pointer (some ⟨g, 0, none⟩), .agg #[.int .i64 c, .int .i64 r], ct.val sl] w fun e w' => e = .returned (.int .i64 41) ∧ Kp w w' Nul := by
  have hi : I64 c ∧ I64 r := by
    have := (vC_iff c r).1 hx
    unfold I64
    omega
  obtain ⟨W1, hW1⟩ : ∃ W1, (w.alloc (.cells #[.int .i64 c, .int .i64 r] 32)).alloc (.cells (ct.cells sl).toArray 55) = W1 := ⟨_, rfl⟩
  have k1 : Kp w W1 Nul := by rw [← hW1]; exact ((Kp.refl w Nul).alloc _).alloc _
  have hA1 : Blk W1 w.heap.size [.int .i64 c, .int .i64 r] 32 := by rw [← hW1]; exact (Blk.new w [.int .i64 c, .int .i64 r] _).alloc _
  have hC1 : Blk W1 (w.heap.size + 1) (ct.cells sl) 55 := by
    have := Blk.new (w.alloc (.cells #[.int .i64 c, .int .i64 r] 32)) (ct.cells sl) 55
    rw [World.size_alloc] at this
    rw [← hW1]; exact this
  have HC1 : Hid (((w.alloc (.cells #[.int .i64 c, .int .i64 r] 32)).alloc (.cells (ct.cells sl).toArray 55)).heap[w.heap.size + 1]? = some (.cells (ct.cells sl).toArray 55 (0, 0))) := by show _ = _; rw [hW1]; exact hC1
  have HW1 : Hid ((w.alloc (.cells #[.int .i64 c, .int .i64 r] 32)).alloc (.cells #[.int .i64 ct.k, .int .i64 ct.v.k, .float .f64 ct.v.x, .string ct.v.s, .bool ct.v.b, .int .i64 ct.v.f, .int .i64 ct.t.hd.k, .int .i64 ct.t.hd.o, .float .f64 ct.t.hd.x, .string ct.t.hd.s, .bool ct.t.hd.b, .int .i64 ct.t.hd.f, .int .i64 ct.t.hd.c1, .int .i64 ct.t.hd.r1, .bool ct.t.hd.p1, .bool ct.t.hd.q1, .int .i64 ct.t.hd.c2, .int .i64 ct.t.hd.r2, .bool ct.t.hd.p2, .bool ct.t.hd.q2, sl] 55) = W1) := hW1
  obtain ⟨mv, hgb⟩ := h.blk
  have hglt0 : g < w.heap.size := hgb.lt
  have hgB : B ≤ g := h.1
  have HS : Hid (∀ wq, Kp W1 wq Nul → (wq.cell? ⟨w.heap.size, 0, none⟩ = some (.int .i64 c) ∧ wq.cell? ⟨w.heap.size, 1, none⟩ = some (.int .i64 r) ∧ wq.cell? ⟨w.heap.size + 1, 0, none⟩ = some (.int .i64 ct.k))) := fun wq k => ⟨(hA1.kp k (fun x => x)).cell rfl, (hA1.kp k (fun x => x)).cell rfl, (hC1.kp k (fun x => x)).cell (i := 0) rfl⟩
  have HV : Hid (Calls Tryz.prog 58 #[ct.val sl] W1 fun e w' => e = .returned (.bool true) ∧ Kp W1 w' Nul) := hval W1 k1
  have HA : Hid (∀ w, Calls Tryz.prog 30 #[.agg #[.int .i64 c, .int .i64 r]] w fun e w' => e = .returned (.bool true) ∧ Kp w w' Nul) := fun w => (pValid_at c r w).mono fun e w' ⟨h1, h2⟩ => ⟨by rw [h1, hx], by rw [h2]; exact (Kp.refl w Nul).alloc _⟩
  have HK1 : Hid (Kp w W1 Nul) := k1
  obtain ⟨mv', hgb', hlenq⟩ := gi_len h
  have HG : Hid (∀ wq, Kp W1 wq Nul → wq.cell? ⟨g, 0, none⟩ = some (.map mv') ∧ ∀ ty, (Builtin.len_ #[111] ty #[.map mv']).run Tryz.prog wq = .ok (.int .i64 L.length) wq) := fun wq k => ⟨(hgb'.kp (k1.trans k) (fun x => x)).cell rfl, hlenq wq (k1.trans k)⟩
  obtain ⟨b0, hB, hhas⟩ := has_gi h hi.1 hi.2
  have hBf : b0 = false := by
    rcases hB with hB | hB
    · obtain ⟨_, c', hc'⟩ := hB; exact absurd hc' (hno c')
    · exact hB.1
  subst hBf
  have HH : Hid (∀ wq, Kp W1 wq Nul → Calls Tryz.prog 59 #[.pointer (some ⟨g, 0, none⟩), .agg #[.int .i64 c, .int .i64 r]] wq fun e w' => e = .returned (.bool false) ∧ Kp wq w' Nul) := fun wq k => hhas wq (k1.trans k)
  have hk0 : (ct.k == 0) = false := by simpa using hct
  have j : (4096 : Int) ≤ (L.length : Int) := by omega
  clear hval hW1 k1 hA1 hC1 hx hi hct hglt0 hgB h hlen hno hgb hgb' hlenq hhas hB mv
  go_enter Tryz.func16, Tryz.ntmps16
  go_wp2_with (first | (refine load_content_law rfl (.tmp 5) rfl (w.heap.size + 1) rfl _ HC1.out rfl ?_) | fail)
  rw [HW1.out]
  refine HV.out.mono ?_
  rintro e w2 ⟨rfl, hk2⟩
  obtain ⟨a1, a2, a3⟩ := HS.out w2 hk2
  have HK2 : Hid (Kp W1 w2 Nul) := hk2
  clear hk2 HV HC1 HW1
  go_wp2_with fail
  refine (HA.out _).mono ?_
  rintro e w3 ⟨rfl, hk3⟩
  obtain ⟨b1, b2, b3⟩ := HS.out w3 (HK2.out.trans hk3)
  obtain ⟨b4, hl3⟩ := HG.out w3 (HK2.out.trans hk3)
  have HK3 : Hid (Kp W1 w3 Nul) := HK2.out.trans hk3
  clear hk3 HA a1 a2 a3 HK2
  go_wp2_with fail
  refine (HH.out _ HK3.out).mono ?_
  rintro e w4 ⟨rfl, hk4⟩
  have HK4 : Hid (Kp w w4 Nul) := (HK1.out.trans HK3.out).trans hk4
  clear hk4 b1 b2 b3 b4 hl3 HK3
  go_wp2_with fail
  go_ret
  exact ⟨rfl, HK4.out⟩
set_option maxRecDepth 20000 in
set_option maxHeartbeats 8000000 in
theorem put_del (B g : Nat) (c r : Int) (hx : vC c r = true) (ct : Ct) (hct : ct.k = 0) (sl : Value) (L : List Cc) (w : World) (h : GI B w g L)
    (hval : ∀ wq, Kp w wq Nul → Calls Tryz.prog 58 #[ct.val sl] wq fun e w' => e = .returned (.bool true) ∧ Kp wq w' Nul) :
    Calls Tryz.prog 16 #[.pointer (some ⟨g, 0, none⟩), .agg #[.int .i64 c, .int .i64 r], ct.val sl] w fun e w' => e = .returned (.int .i64 0) ∧ GI B w' g (delL L (c, r)) ∧ Kg B g w w' := by
  have hi : I64 c ∧ I64 r := by
    have := (vC_iff c r).1 hx
    unfold I64
    omega
  obtain ⟨W1, hW1⟩ : ∃ W1, (w.alloc (.cells #[.int .i64 c, .int .i64 r] 32)).alloc (.cells (ct.cells sl).toArray 55) = W1 := ⟨_, rfl⟩
  have k1 : Kp w W1 Nul := by rw [← hW1]; exact ((Kp.refl w Nul).alloc _).alloc _
  have hA1 : Blk W1 w.heap.size [.int .i64 c, .int .i64 r] 32 := by rw [← hW1]; exact (Blk.new w [.int .i64 c, .int .i64 r] _).alloc _
  have hC1 : Blk W1 (w.heap.size + 1) (ct.cells sl) 55 := by
    have := Blk.new (w.alloc (.cells #[.int .i64 c, .int .i64 r] 32)) (ct.cells sl) 55
    rw [World.size_alloc] at this
    rw [← hW1]; exact this
  have HC1 : Hid (((w.alloc (.cells #[.int .i64 c, .int .i64 r] 32)).alloc (.cells (ct.cells sl).toArray 55)).heap[w.heap.size + 1]? = some (.cells (ct.cells sl).toArray 55 (0, 0))) := by show _ = _; rw [hW1]; exact hC1
  have HW1 : Hid ((w.alloc (.cells #[.int .i64 c, .int .i64 r] 32)).alloc (.cells #[.int .i64 ct.k, .int .i64 ct.v.k, .float .f64 ct.v.x, .string ct.v.s, .bool ct.v.b, .int .i64 ct.v.f, .int .i64 ct.t.hd.k, .int .i64 ct.t.hd.o, .float .f64 ct.t.hd.x, .string ct.t.hd.s, .bool ct.t.hd.b, .int .i64 ct.t.hd.f, .int .i64 ct.t.hd.c1, .int .i64 ct.t.hd.r1, .bool ct.t.hd.p1, .bool ct.t.hd.q1, .int .i64 ct.t.hd.c2, .int .i64 ct.t.hd.r2, .bool ct.t.hd.p2, .bool ct.t.hd.q2, sl] 55) = W1) := hW1
  obtain ⟨mv, hgb⟩ := h.blk
  have hglt0 : g < w.heap.size := hgb.lt
  have hgB : B ≤ g := h.1
  have HS : Hid (∀ wq, Kp W1 wq Nul → (wq.cell? ⟨w.heap.size, 0, none⟩ = some (.int .i64 c) ∧ wq.cell? ⟨w.heap.size, 1, none⟩ = some (.int .i64 r) ∧ wq.cell? ⟨w.heap.size + 1, 0, none⟩ = some (.int .i64 ct.k))) := fun wq k => ⟨(hA1.kp k (fun x => x)).cell rfl, (hA1.kp k (fun x => x)).cell rfl, (hC1.kp k (fun x => x)).cell (i := 0) rfl⟩
  have HV : Hid (Calls Tryz.prog 58 #[ct.val sl] W1 fun e w' => e = .returned (.bool true) ∧ Kp W1 w' Nul) := hval W1 k1
  have HA : Hid (∀ w, Calls Tryz.prog 30 #[.agg #[.int .i64 c, .int .i64 r]] w fun e w' => e = .returned (.bool true) ∧ Kp w w' Nul) := fun w => (pValid_at c r w).mono fun e w' ⟨h1, h2⟩ => ⟨by rw [h1, hx], by rw [h2]; exact (Kp.refl w Nul).alloc _⟩
  have HK1 : Hid (Kp w W1 Nul) := k1
  have HD : Hid (∀ wq, Kp W1 wq Nul → GI B wq g L) := fun wq k => h.kp (k1.trans k)
  have HI : Hid (I64 c ∧ I64 r) := hi
  rw [hct] at HS
  clear hval hW1 k1 hA1 hC1 hx hi hct hglt0 hgB h hgb mv
  go_enter Tryz.func16, Tryz.ntmps16
  go_wp2_with (first | (refine load_content_law rfl (.tmp 5) rfl (w.heap.size + 1) rfl _ HC1.out rfl ?_) | fail)
  rw [HW1.out]
  refine HV.out.mono ?_
  rintro e w2 ⟨rfl, hk2⟩
  obtain ⟨a1, a2, a3⟩ := HS.out w2 hk2
  have HK2 : Hid (Kp W1 w2 Nul) := hk2
  clear hk2 HV HC1 HW1
  go_wp2_with fail
  refine (HA.out _).mono ?_
  rintro e w3 ⟨rfl, hk3⟩
  obtain ⟨b1, b2, b3⟩ := HS.out w3 (HK2.out.trans hk3)
  have hk13 : Kp W1 w3 Nul := HK2.out.trans hk3
  obtain ⟨mv, W4, hmc, hdel, hl4, hk4⟩ := gi_del (B := B) (HD.out w3.drew hk13.drew) HI.out.1 HI.out.2
  have HEND : Hid (GI B W4 g (delL L (c, r)) ∧ Kg B g w W4) := ⟨hl4, (Kg.of_nul ((HK1.out.trans hk13).drew)).trans hk4⟩
  have d2 : w3.cell? ⟨g, 0, none⟩ = some (.map mv) := hmc
  clear hk3 HA a1 a2 a3 HK2 hl4 hk4 hmc hk13 HD
  go_wp2_with fail
  go_region
  all_goals
    go_wp2_with fail
    go_ret
    exact ⟨rfl, HEND.out⟩
end Go.Proofs.YtbkcebbddhaifaaGreatDoor
