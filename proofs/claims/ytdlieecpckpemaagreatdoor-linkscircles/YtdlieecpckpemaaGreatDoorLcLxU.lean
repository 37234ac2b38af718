/- A queue: a slice that is cut at its head and grows at its end; the document's uses by places. The document's far. -/
import Derived.Test.YtdlieecpckpemaaGreatDoorLcLxQ
import Derived.ArgAppend
import Derived.Deep.LoopGhost
import Derived.Test.YtdlieecpckpemaaGreatDoorLcTj
namespace Go.Proofs.YtdlieecpckpemaaGreatDoor
open Go.RowKit Go.Sort Go.Lib Go.Maps
/-- The numbers of a queue. -/
def QRow (w : World) (B : Nat) (v : Value) (xs : List Nat) : Prop :=
  ∃ g o c cur, v = .slice (some ⟨g, o, none⟩) xs.length c ∧ B ≤ g ∧ w.heap[g]? = some (.cells cur 3 (0, 0)) ∧ xs.length ≤ c ∧ o + c ≤ cur.size ∧ ∀ (i p : Nat), xs[i]? = some p → cur[o + i]? = some (.int .i64 (p : Int))
theorem QRow.kp {w w' : World} {B : Nat} {v : Value} {xs : List Nat} {S : Nat → Prop} (h : QRow w B v xs) (k : Kp w w' S) (hS : ∀ j, B ≤ j → ¬ S j) : QRow w' B v xs := by
  obtain ⟨g, o, c, cur, e, hb, hh, r⟩ := h
  exact ⟨g, o, c, cur, e, hb, (k.block g (Array.getElem?_eq_some_iff.1 hh).1 (hS g hb)).trans hh, r⟩
theorem QRow.slice {w : World} {B : Nat} {v : Value} {xs : List Nat} (h : QRow w B v xs) : ∃ g o c, v = .slice (some ⟨g, o, none⟩) xs.length c ∧ B ≤ g ∧ xs.length ≤ c := by
  obtain ⟨g, o, c, cur, e, hb, _, hc, _⟩ := h
  exact ⟨g, o, c, e, hb, hc⟩
theorem QRow.at' {w : World} {B g o n c : Nat} {xs : List Nat} (h : QRow w B (.slice (some ⟨g, o, none⟩) n c) xs) {i p : Nat} (hp : xs[i]? = some p) : w.cell? ⟨g, o + i, none⟩ = some (.int .i64 (p : Int)) := by
  obtain ⟨g', o', c', cur, e, _, hh, _, _, h6⟩ := h
  injection e with e1 e2 e3
  injection e1 with e1
  injection e1 with e1 e4
  subst e1 e4
  rw [cell_of_row w g _ cur 3 (0, 0) hh]
  exact h6 i p hp
theorem infoInt8 : ∃ i0, Tryz.prog.info? 3 = some i0 ∧ i0.zero = some (.int .i64 0) ∧ i0.size = 1 ∧ i0.bytes = 8 := by
  have h : (Tryz.prog.info? 3).map (fun i => (i.zero, i.size, i.bytes)) = some (some (.int .i64 0), 1, 8) := by kernel_rfl
  cases e : Tryz.prog.info? 3 with
  | none => rw [e] at h; cases h
  | some i =>
    rw [e] at h
    injection h with h
    injection h with h1 h2
    injection h2 with h2 h3
    exact ⟨i, rfl, h1, h2, h3⟩
theorem q_append (w : World) (ty : TypeId) (B : Nat) (v : Value) (xs : List Nat) (p : Nat) (ad : Addr) (c1 : Nat) (h : QRow w B v xs) (hc : w.cell? ad = some (.int .i64 (p : Int))) (hl : xs.length ≤ 8192) (hB : B ≤ w.heap.size) :
    ∃ v' w', (Builtin.append_ #[32, 32] ty #[v, .slice (some ad) 1 c1]).run Tryz.prog w = .ok v' w' ∧ QRow w' B v' (xs ++ [p]) ∧ Kp w w' (fun j => v.ownBlock = some j) := by
  obtain ⟨i0, hi, hz0, hz1, hz2⟩ := infoInt8
  obtain ⟨g, o, c, cur, rfl, hb, hh, h4, h5, h6⟩ := h
  have hnews : ∀ j u, [Value.int .i64 (p : Int)][j]? = some u → w.cell? (ad.add j) = some u := fun j u hj => by
    cases j with
    | zero =>
      have : u = Value.int .i64 (p : Int) := by simpa using hj.symm
      subst this
      have e : ad.add 0 = ad := by unfold Addr.add; simp
      rw [e]; exact hc
    | succ j => simp at hj
  by_cases hroom : xs.length + 1 ≤ c
  · have hcl : o + xs.length < cur.size := by omega
    have hrun := run_append_room_cells (P := Tryz.prog) w 32 ty 3 i0 Tryz.underlying32 hi g o xs.length c ad 1 c1 [.int .i64 (p : Int)] (by rw [hz1]; rfl) hnews (by intro u hu; rw [List.mem_singleton.1 hu]; rfl) hroom (fun j hj => by
      have e : j = 0 := by simpa using hj
      subst e
      rw [hz1, cell_of_row w g _ cur 3 (0, 0) hh, Array.getElem?_eq_getElem (by omega)]; rfl) (fun j hj => frozen_of_row w g _ cur 3 hh)
    rw [hz1, Nat.mul_one] at hrun
    refine ⟨_, _, hrun, ⟨g, o, c, cur.setIfInBounds (o + xs.length) (.int .i64 (p : Int)), by rw [List.length_append]; rfl, hb, ?_, by rw [List.length_append]; exact hroom, by rw [Array.size_setIfInBounds]; exact h5, fun i q hq => ?_⟩, (setCells_kp g _ _ _).mono (fun j _ e => by rw [e]; rfl)⟩
    · rw [World.setCells, World.setCells]
      exact heap_setCell_same w g (o + xs.length) cur 3 _ hh
    · rw [Array.getElem?_setIfInBounds]
      rcases Nat.lt_or_ge i xs.length with q1 | q1
      · rw [if_neg (by omega)]
        rw [List.getElem?_append_left q1] at hq
        exact h6 i q hq
      · rw [List.getElem?_append_right q1] at hq
        have e : i - xs.length = 0 := by
          have := (List.getElem?_eq_some_iff.1 hq).1
          simp at this; omega
        rw [e] at hq
        have : q = p := by simpa using hq.symm
        subst this
        rw [if_pos (by omega), if_pos hcl]
  · obtain ⟨v', w', hrun, ho, hg⟩ := run_append_arg_grows (P := Tryz.prog) w 32 ty 3 i0 _ 1 8 Tryz.underlying32 hi hz0 hz1 hz2 rfl (by decide) ⟨g, o, none⟩ xs.length c (xs.map fun q : Nat => Value.int .i64 (q : Int)) (by simp) (fun j u hj => by
      rw [List.getElem?_map] at hj
      cases hq : xs[j]? with
      | none => rw [hq] at hj; cases hj
      | some q =>
        rw [hq] at hj
        rw [Addr.add_lit, cell_of_row w g _ cur 3 (0, 0) hh, ← hj]
        exact h6 j q hq) ad 1 c1 [.int .i64 (p : Int)] rfl hnews (by omega) (by unfold maxLen; omega) (by omega)
    refine ⟨v', w', hrun, ?_, ⟨hg.os, hg.tape, hg.output, hg.size, fun k hk _ => hg.block k hk (by simp)⟩⟩
    rcases ho.2 with ⟨_, h0⟩ | ⟨g', c', cur', rfl, hbg, hh', hc', _, hs', ht'⟩
    · omega
    · refine ⟨g', 0, c', cur', by rw [List.length_append]; rfl, Nat.le_trans hB hbg, hh', by rw [List.length_append]; exact hc', by omega, fun i q hq => ?_⟩
      have : (xs ++ [p])[i]? = some q := hq
      have hm : ((xs ++ [p]).map fun q : Nat => Value.int .i64 (q : Int))[i]? = some (.int .i64 (q : Int)) := by rw [List.getElem?_map, hq]; rfl
      rw [List.map_append] at hm
      have hil := (List.getElem?_eq_some_iff.1 hq).1
      rw [List.length_append] at hil
      have e2 : List.map (fun q : Nat => Value.int .i64 (q : Int)) xs ++ [Value.int .i64 (p : Int)] = cur'.toList.take ((xs.length + 1) * 1) := ht'.symm
      rw [show List.map (fun q : Nat => Value.int .i64 (q : Int)) [p] = [Value.int .i64 (p : Int)] from rfl, e2, List.getElem?_take] at hm
      split at hm
      · rw [Nat.zero_add]; simpa using hm
      · cases hm
theorem wpList_append_q (w : World) {ops : Array Oper} {rest : List Oper} {o : Oper} {a : Act} {Q : Exit → Act → World → Prop}
    (hgd : o.guard = none) (s x : Operand) (ho : o.op = Op.call { callee := Callee.builtin Builtin.append, args := #[s, x], argTypes := #[32, 32] })
    (B : Nat) (v : Value) (xs : List Nat) (hs : a.eval s = v) (h : QRow w B v xs) (p : Nat) (ad : Addr) (c1 : Nat) (hx : a.eval x = .slice (some ad) 1 c1) (hc : w.cell? ad = some (.int .i64 (p : Int))) (hl : xs.length ≤ 8192) (hB : B ≤ w.heap.size)
    (hk : ∀ v' w', QRow w' B v' (xs ++ [p]) → Kp w w' (fun j => v.ownBlock = some j) → wpList Tryz.prog ops Q rest (a.put o.dst v') w') :
    wpList Tryz.prog ops Q (o :: rest) a w := by
  refine wpList_plain hgd fun _ hK => ?_
  obtain ⟨v', w', hr, h2, h3⟩ := q_append w o.type B v xs p ad c1 h hc hl hB
  unfold Oper.wp execOp
  simp only [ho, resolve, invoke, builtin, Sem.run_bind, Sem.run_pure, Result.andThen_ok, List.map_toArray, List.map_cons, List.map_nil, hs, hx, hr]
  exact hK _ _ (hk v' w' h2 h3)
theorem elemI : Tryz.prog.underlying 32 = some (.slice (Tryz.prog.elem 32)) := by kernel_rfl
theorem elemIz (w : World) : (Go.sizeOf (Tryz.prog.elem 32)).run Tryz.prog w = .ok 1 w := by
  have : Tryz.prog.elem 32 = 3 := by kernel_rfl
  rw [this]; exact Tryz.sizeOf3 w
/-- The queue without its first. -/
theorem q_pop {w : World} {B g o n c : Nat} {p : Nat} {xs : List Nat} (h : QRow w B (.slice (some ⟨g, o, none⟩) n c) (p :: xs)) : ∃ ad : Addr, (∀ wq, (Instr.sliceAt 32 (.slice (some ⟨g, o, none⟩) n c) (some (.int .i64 1)) none none).run Tryz.prog wq = .ok (.slice (some ad) (n - 1) (c - 1)) wq) ∧ QRow w B (.slice (some ad) (n - 1) (c - 1)) xs := by
  obtain ⟨g', o', c', cur, e, hb, hh, h4, h5, h6⟩ := h
  injection e with e1 e2 e3
  injection e1 with e1
  injection e1 with e1 e4
  subst e1 e4 e2 e3
  simp only [List.length_cons] at *
  refine ⟨if c = 1 then ⟨g, o, none⟩ else ⟨g, o + 1, none⟩, fun wq => ?_, ?_⟩
  · rw [run_sliceAt_slice wq _ _ _ _ _ elemI, run_slice_l wq _ _ _ _ elemI .i64 (1 : Int) (by omega) (by omega), elemIz]
    have e : Int.toNat (1 : Int) = 1 := rfl
    simp only [Result.andThen, sliced, e, Option.map_some, Addr.add]
    by_cases h1 : c = 1
    · simp only [if_pos h1]
    · simp only [if_neg h1]; rfl
  · by_cases h1 : c = 1
    · rw [if_pos h1]
      have : xs = [] := List.length_eq_zero_iff.1 (by omega)
      subst this
      exact ⟨g, o, c - 1, cur, rfl, hb, hh, Nat.zero_le _, by omega, fun i q hq => (by simp at hq)⟩
    · rw [if_neg h1]
      exact ⟨g, o + 1, c - 1, cur, by rw [Nat.add_sub_cancel], hb, hh, by omega, by omega, fun i q hq => by
        have := h6 (i + 1) q (by simpa using hq)
        rw [show o + 1 + i = o + (i + 1) by omega]; exact this⟩
/-- The document's uses, by places. -/
def UD (X : List Rl) (p q : Nat) : Bool := match X[p]?, X[q]? with
  | some ρ, some σ => ρ.al.any (fun a => a.has σ.x)
  | _, _ => false
def useD (X : List Rl) (p q : Nat) : Prop := UD X p q = true
theorem UD_some {X : List Rl} {p q : Nat} {ρ σ : Rl} (hp : X[p]? = some ρ) (hq : X[q]? = some σ) : UD X p q = ρ.al.any (fun a => a.has σ.x) := by unfold UD; rw [hp, hq]
theorem useD_lt {X : List Rl} {p q : Nat} (h : useD X p q) : p < X.length ∧ q < X.length := by
  unfold useD UD at h
  cases hp : X[p]? with
  | none => rw [hp] at h; cases h
  | some ρ =>
    cases hq : X[q]? with
    | none => rw [hp, hq] at h; cases h
    | some σ => exact ⟨(List.getElem?_eq_some_iff.1 hp).1, (List.getElem?_eq_some_iff.1 hq).1⟩
end Go.Proofs.YtdlieecpckpemaaGreatDoor
namespace Go.Proofs.YtdlieecpckpemaaGreatDoor
open Go.RowKit Go.Sort Go.Lib Go.Maps
theorem usesX_at {wq : World} {G : Nat → Prop} {x : Nat} {v : Value} {X : List Rl} (h : DX wq G x v X) {p q : Nat} {ρ σ : Rl} (hp : X[p]? = some ρ) (hq : X[q]? = some σ) (B : Bool) (hB : UD X p q = B) :
    Calls Tryz.prog 72 #[.agg #[.int .i64 ρ.x.1, .int .i64 ρ.x.2, .slice ρ.av ρ.al.length ρ.cv], .agg #[.int .i64 σ.x.1, .int .i64 σ.x.2]] wq fun e w' => e = .returned (.bool B) ∧ Kp wq w' Nul := by
  obtain ⟨h1, h2⟩ := h.ars ρ (List.mem_of_getElem? hp)
  rw [← hB, UD_some hp hq]
  exact uses18_at ρ.x.1 ρ.x.2 ρ.al ρ.av ρ.cv σ.x.1 σ.x.2 wq h1 (fun h0 => by obtain ⟨b, e, _, hc⟩ := h2 h0; exact ⟨b, 0, e, hc⟩)
/-- The first round of the search. -/
def P1R (w : World) (X : List Rl) (tq fb : Nat) (v s : Value) (wr : World) : Prop := ∃ (k : Nat) (line : List Nat) (far : Nat → Nat), k ≤ X.length ∧ s = .int .i64 (k : Int) ∧ QRow wr (fb + 1) v line ∧ Blk wr fb (nums (fun p => (far p : Int)) X.length) 3 ∧ Tj.B1 (useD X) X.length tq far line k ∧ (∀ p, far p ≤ line.length) ∧ line.length ≤ k ∧ Kp w wr Nul
/-- The later ones. -/
def P2R (w : World) (X : List Rl) (tq fb : Nat) (gk : Nat) (v : Value) (wr : World) : Prop := ∃ (line : List Nat) (far : Nat → Nat) (i : Nat), gk = X.length - i ∧ i ≤ line.length ∧ QRow wr (fb + 1) v (line.drop i) ∧ Blk wr fb (nums (fun p => (far p : Int)) X.length) 3 ∧ Tj.Bg (useD X) X.length tq far line i (fun _ => False) ∧ (∀ p, far p ≤ line.length) ∧ Kp w wr Nul
def P3R (w : World) (X : List Rl) (tq fb i c : Nat) (v s : Value) (wr : World) : Prop := ∃ (k : Nat) (line : List Nat) (far : Nat → Nat), k ≤ X.length ∧ s = .int .i64 (k : Int) ∧ i < line.length ∧ line[i]? = some c ∧ QRow wr (fb + 1) v (line.drop (i + 1)) ∧ Blk wr fb (nums (fun p => (far p : Int)) X.length) 3 ∧ Tj.Bg (useD X) X.length tq far line i (fun p => p < k) ∧ (∀ p, far p ≤ line.length) ∧ Kp w wr Nul
theorem bg_done {use : Nat → Nat → Prop} {N f i k : Nat} {far : Nat → Nat} {line : List Nat} (h : Tj.Bg use N f far line i (fun p => p = k ∨ p < k)) : Tj.Bg use N f far line i (fun p => p < k + 1) := by
  have e : (fun p : Nat => p = k ∨ p < k) = (fun p => p < k + 1) := by funext p; exact propext ⟨fun h => by omega, fun h => by omega⟩
  rw [e] at h; exact h
theorem bg_start {use : Nat → Nat → Prop} {N f i : Nat} {far : Nat → Nat} {line : List Nat} (h : Tj.Bg use N f far line i (fun _ => False)) : Tj.Bg use N f far line i (fun p => p < 0) := by
  have e : (fun _ : Nat => False) = (fun p => p < 0) := by funext p; exact propext ⟨fun h => h.elim, fun h => absurd h (Nat.not_lt_zero _)⟩
  rw [e] at h; exact h
theorem wrap_succ (n : Nat) (h : n ≤ 4096) : wrap64 ((n : Int) + 1) = (n : Int) + 1 ∧ IntKind.i64.wrap ((n : Int) + 1) = (n : Int) + 1 := by
  constructor
  · unfold wrap64; omega
  · rw [IntKind.wrap_i64]; omega
theorem infoI1 : (Tryz.prog.info? 3).map (·.size) = some 1 := by kernel_rfl
set_option maxRecDepth 20000 in
set_option maxHeartbeats 8000000 in
theorem far18_at (G : Nat → Prop) (x : Nat) (v : Value) (X : List Rl) (tq : Nat) (w : World) (h : DX w G x v X) (hX : X.length ≤ 4096) (hto : tq < X.length) :
    Calls Tryz.prog 71 #[.pointer (some ⟨x, 0, none⟩), .int .i64 (tq : Int)] w fun e w' => ∃ (fb : Nat) (far : Nat → Nat), e = .returned (.slice (some ⟨fb, 0, none⟩) X.length X.length) ∧ w.heap.size ≤ fb ∧ Blk w' fb (nums (fun p => (far p : Int)) X.length) 3 ∧ Tj.FarIs (useD X) tq far ∧ (∀ p, far p ≤ 4096) ∧ Kp w w' Nul := by
  obtain ⟨N, hN⟩ : ∃ N, X.length = N := ⟨_, rfl⟩
  have HN : Hid (X.length = N) := hN
  obtain ⟨va, vc, hv⟩ := h.slice
  subst hv
  obtain ⟨⟨⟨t1, t2⟩, tl, tv, tc⟩, hσ⟩ : ∃ σ, X[tq]? = some σ := ⟨_, List.getElem?_eq_getElem hto⟩
  obtain ⟨g, hva, _⟩ := h.get hσ
  subst hva
  have HC : Hid (∀ wq, Kp w wq Nul → (wq.cell? ⟨x, 0, none⟩ = some (.slice (some ⟨g, 0, none⟩) N vc)) ∧ ∀ k ρ, X[k]? = some ρ → wq.cell? ⟨g, k * 3, none⟩ = some (.int .i64 ρ.x.1) ∧ wq.cell? ⟨g, k * 3 + 1, none⟩ = some (.int .i64 ρ.x.2) ∧ wq.cell? ⟨g, k * 3 + 2, none⟩ = some (.slice ρ.av ρ.al.length ρ.cv)) := fun wq k => by
    refine ⟨by have := (h.kpn k).box.cell (i := 0) rfl; rw [hN] at this; exact this, fun j ρ hj => ?_⟩
    obtain ⟨g', e, _, c⟩ := (h.kpn k).get hj
    injection e with e
    injection e with e
    subst e
    exact c
  have HU : Hid (∀ wq, Kp w wq Nul → ∀ p q ρ σ B, X[p]? = some ρ → X[q]? = some σ → UD X p q = B → Calls Tryz.prog 72 #[.agg #[.int .i64 ρ.x.1, .int .i64 ρ.x.2, .slice ρ.av ρ.al.length ρ.cv], .agg #[.int .i64 σ.x.1, .int .i64 σ.x.2]] wq fun e w' => e = .returned (.bool B) ∧ Kp wq w' Nul) := fun wq k p q ρ σ B hp hq hB => usesX_at (h.kpn k) hp hq B hB
  have HS : Hid (X[tq]? = some ⟨(t1, t2), tl, tv, tc⟩) := hσ
  rw [hN] at hX hto ⊢
  have htoZ : (tq : Int) < (N : Int) := by omega
  obtain ⟨ds, hds, hmk⟩ := make_is 32 3 (.int .i64 0) 8 Tryz.underlying32 infoInt rfl N (by omega) (by omega)
  obtain ⟨fb, hfb⟩ : ∃ fb, w.heap.size = fb := ⟨_, rfl⟩
  have HFB : Hid (w.heap.size = fb) := hfb
  obtain ⟨W, hW⟩ : ∃ W, (w.alloc (.cells ds 3)).alloc (.cells #[] 3) = W := ⟨_, rfl⟩
  have HW : Hid ((w.alloc (.cells ds 3)).alloc (.cells #[] 3) = W) := hW
  have HKW : Hid (Kp w W Nul) := by show Kp _ _ _; rw [← hW]; exact ((Kp.refl w Nul).alloc _).alloc _
  have HB0 : Hid (Blk W fb (nums (fun _ => 0) N) 3) := by show Blk _ _ _ _; rw [← hW]; exact (Blk.atA hfb ds 3 (hds.trans (zeros_nums N))).alloc _
  have HQ0 : Hid (QRow W (fb + 1) (.slice (some ⟨fb + 1, 0, none⟩) 0 0) []) := by
    refine ⟨fb + 1, 0, 0, #[], rfl, Nat.le_refl _, ?_, Nat.le_refl _, by simp, fun i p hp => by simp at hp⟩
    have : Blk W (fb + 1) [] 3 := by rw [← hW]; exact Blk.at_ (by rw [World.size_alloc, hfb]) _ _
    exact this
  have c0 := (HC.out w (Kp.refl _ _)).1
  clear h hN hσ hfb hW hds
  go_enter Tryz.func71, Tryz.ntmps71
  go_upto_region 3 with fail
  rw [HW.out, HFB.out]
  obtain ⟨c1, _⟩ := HC.out W HKW.out
  clear c0 hmk
  go_wp2_with fail
  go_loopw [6, 7] (fun v s wr => P1R w X tq fb v s wr) (fun _ s _ => N - (intOf s).toNat)
  case atStart =>
    exact ⟨0, [], fun _ => 0, Nat.zero_le _, rfl, HQ0.out, by rw [HN.out]; exact HB0.out, Tj.B1.start, fun p => Nat.zero_le _, Nat.le_refl _, HKW.out⟩
  case round =>
    clear c1
    rename World => wk
    obtain ⟨k, line, far, hk, rfl, hq, hb, hb1, hbd, hlk, hkp⟩ := hrel
    rw [HN.out] at hk hb
    have HQ : Hid (QRow wk (fb + 1) u6 line) := hq
    have HB : Hid (Blk wk fb (nums (fun p => (far p : Int)) N) 3) := hb
    have HB1 : Hid (Tj.B1 (useD X) X.length tq far line k) := hb1
    have HBD : Hid (∀ p, far p ≤ line.length) := hbd
    have HKk : Hid (Kp w wk Nul) := hkp
    obtain ⟨gq, oq, cq, hu6, hgq, hcq⟩ := hq.slice
    have HU6 : Hid (u6 = .slice (some ⟨gq, oq, none⟩) line.length cq) := hu6
    clear hu6
    clear hq hb hb1 hbd hkp
    obtain ⟨c1, _⟩ := HC.out wk HKk.out
    by_cases hlt : k < N
    · have j1 : (k : Int) < (N : Int) := by omega
      obtain ⟨⟨⟨x1, x2⟩, al, av, cv⟩, hρ⟩ : ∃ ρ, X[k]? = some ρ := ⟨_, List.getElem?_eq_getElem (by rw [HN.out]; exact hlt)⟩
      obtain ⟨B, hB⟩ : ∃ B, UD X k tq = B := ⟨_, rfl⟩
      have HBu : Hid (UD X k tq = B) := hB
      have HUS : Hid (∀ wq, Kp wk wq Nul → Calls Tryz.prog 72 #[.agg #[.int .i64 x1, .int .i64 x2, .slice av al.length cv], .agg #[.int .i64 t1, .int .i64 t2]] wq fun e w' => e = .returned (.bool B) ∧ Kp wq w' Nul) := fun wq kq => HU.out wq (HKk.out.trans kq) k tq ⟨(x1, x2), al, av, cv⟩ ⟨(t1, t2), tl, tv, tc⟩ B hρ HS.out hB
      have KS : Hid (∀ wq, Kp wk wq Nul → (wq.cell? ⟨x, 0, none⟩ = some (.slice (some ⟨g, 0, none⟩) N vc) ∧ (wq.cell? ⟨g, k * 3, none⟩ = some (.int .i64 x1) ∧ wq.cell? ⟨g, k * 3 + 1, none⟩ = some (.int .i64 x2) ∧ wq.cell? ⟨g, k * 3 + 2, none⟩ = some (.slice av al.length cv)) ∧ (wq.cell? ⟨g, tq * 3, none⟩ = some (.int .i64 t1) ∧ wq.cell? ⟨g, tq * 3 + 1, none⟩ = some (.int .i64 t2)))) := fun wq kq => by
        obtain ⟨d1, d2⟩ := HC.out wq (HKk.out.trans kq)
        have e1 := d2 k _ hρ
        have e2 := d2 tq _ HS.out
        exact ⟨d1, e1, e2.1, e2.2.1⟩
      generalize al.length = an at *
      clear hρ hB
      go_upto_region 6 with fail
      clear c1
      refine wp_region_noPanic ?_
      refine wp_region_hel (fun w' : World => Kp wk w' Nul) (by kernel_rfl) ((Kp.refl wk Nul).drew) (fun hHeld => ?_)
      refine wpH_takes (i := 0) (v := ?_) (some 28) rfl rfl (by kernel_rfl) (by kernel_rfl) (by kernel_rfl) (fun _ _ _ h => h) (Or.inl ⟨by rfl, ?_⟩) hHeld ?_
      rotate_left
      · intro w' hSw; clear hSw; go_simp; try with_reducible rfl
      simp only [Act.put, List.setIfInBounds_toArray, List.set_cons_zero, List.set_cons_succ]
      refine wpH_takes (i := 1) (v := ?_) (some 29) rfl rfl (by kernel_rfl) (by kernel_rfl) (by kernel_rfl) (fun _ _ _ h => h) (Or.inl ⟨by rfl, ?_⟩) hHeld ?_
      rotate_left
      · intro w' hSw; clear hSw; go_simp; try with_reducible rfl
      simp only [Act.put, List.setIfInBounds_toArray, List.set_cons_zero, List.set_cons_succ]
      refine wpH_takes (i := 2) (v := ?_) (some 30) rfl rfl (by kernel_rfl) (by kernel_rfl) (by kernel_rfl) (fun _ _ _ h => h) (Or.inl ⟨by rfl, ?_⟩) hHeld ?_
      rotate_left
      · intro w' hSw; clear hSw; go_simp; try with_reducible rfl
      simp only [Act.put, List.setIfInBounds_toArray, List.set_cons_zero, List.set_cons_succ]
      refine wpH_takes (i := 3) (v := ?_) (some 31) rfl rfl (by kernel_rfl) (by kernel_rfl) (by kernel_rfl) (fun _ _ _ h => h) (Or.inl ⟨by rfl, ?_⟩) hHeld ?_
      rotate_left
      · intro w' hSw; obtain ⟨p1, ⟨p2, p3, p4⟩, p5, p6⟩ := KS.out _ hSw; clear hSw; go_simp; try with_reducible rfl
      simp only [Act.put, List.setIfInBounds_toArray, List.set_cons_zero, List.set_cons_succ]
      refine wpH_takes (i := 4) (v := ?_) (some 32) rfl rfl (by kernel_rfl) (by kernel_rfl) (by kernel_rfl) (fun _ _ _ h => h) (Or.inl ⟨by rfl, ?_⟩) hHeld ?_
      rotate_left
      · intro w' hSw; clear hSw; go_simp; try with_reducible rfl
      simp only [Act.put, List.setIfInBounds_toArray, List.set_cons_zero, List.set_cons_succ]
      refine wpH_takes (i := 5) (v := ?_) (some 33) rfl rfl (by kernel_rfl) (by kernel_rfl) (by kernel_rfl) (fun _ _ _ h => h) (Or.inl ⟨by rfl, ?_⟩) hHeld ?_
      rotate_left
      · intro w' hSw; clear hSw; go_simp; try with_reducible rfl
      simp only [Act.put, List.setIfInBounds_toArray, List.set_cons_zero, List.set_cons_succ]
      refine wpH_takes (i := 6) (v := ?_) (some 34) rfl rfl (by kernel_rfl) (by kernel_rfl) (by kernel_rfl) (fun _ _ _ h => h) (Or.inl ⟨by rfl, ?_⟩) hHeld ?_
      rotate_left
      · intro w' hSw; obtain ⟨p1, ⟨p2, p3, p4⟩, p5, p6⟩ := KS.out _ hSw; clear hSw; go_simp; try with_reducible rfl
      simp only [Act.put, List.setIfInBounds_toArray, List.set_cons_zero, List.set_cons_succ]
      refine wpH_takes (i := 7) (v := ?_) (some 35) rfl rfl (by kernel_rfl) (by kernel_rfl) (by kernel_rfl) (fun _ _ _ h => h) (Or.inl ⟨by rfl, ?_⟩) hHeld ?_
      rotate_left
      · intro w' hSw; clear hSw; go_simp; try with_reducible rfl
      simp only [Act.put, List.setIfInBounds_toArray, List.set_cons_zero, List.set_cons_succ]
      refine wpH_takes (i := 8) (v := ?_) (some 36) rfl rfl (by kernel_rfl) (by kernel_rfl) (by kernel_rfl) (fun _ _ _ h => h) (Or.inl ⟨by rfl, ?_⟩) hHeld ?_
      rotate_left
      · intro w' hSw; clear hSw; go_simp; try with_reducible rfl
      simp only [Act.put, List.setIfInBounds_toArray, List.set_cons_zero, List.set_cons_succ]
      refine wpH_takes (i := 9) (v := ?_) (some 37) rfl rfl (by kernel_rfl) (by kernel_rfl) (by kernel_rfl) (fun _ _ _ h => h) (Or.inl ⟨by rfl, ?_⟩) hHeld ?_
      rotate_left
      · intro w' hSw; clear hSw; go_simp; try with_reducible rfl
      simp only [Act.put, List.setIfInBounds_toArray, List.set_cons_zero, List.set_cons_succ]
      refine wpH_takes (i := 10) (v := ?_) (some 38) rfl rfl (by kernel_rfl) (by kernel_rfl) (by kernel_rfl) (fun _ _ _ h => h) (Or.inl ⟨by rfl, ?_⟩) hHeld ?_
      rotate_left
      · intro w' hSw; obtain ⟨p1, ⟨p2, p3, p4⟩, p5, p6⟩ := KS.out _ hSw; clear hSw; go_simp; try with_reducible rfl
      simp only [Act.put, List.setIfInBounds_toArray, List.set_cons_zero, List.set_cons_succ]
      refine wpH_takes (i := 11) (v := ?_) (some 39) rfl rfl (by kernel_rfl) (by kernel_rfl) (by kernel_rfl) (fun _ _ _ h => h) (Or.inl ⟨by rfl, ?_⟩) hHeld ?_
      rotate_left
      · intro w' hSw; clear hSw; go_simp; try with_reducible rfl
      simp only [Act.put, List.setIfInBounds_toArray, List.set_cons_zero, List.set_cons_succ]
      refine wpH_takes (i := 12) (v := ?_) (some 40) rfl rfl (by kernel_rfl) (by kernel_rfl) (by kernel_rfl) (fun _ _ _ h => h) (Or.inl ⟨by rfl, ?_⟩) hHeld ?_
      rotate_left
      · intro w' hSw; clear hSw; go_simp; try with_reducible rfl
      simp only [Act.put, List.setIfInBounds_toArray, List.set_cons_zero, List.set_cons_succ]
      refine wpH_takes (i := 13) (v := ?_) (some 41) rfl rfl (by kernel_rfl) (by kernel_rfl) (by kernel_rfl) (fun _ _ _ h => h) (Or.inl ⟨by rfl, ?_⟩) hHeld ?_
      rotate_left
      · intro w' hSw; clear hSw; go_simp; try with_reducible rfl
      simp only [Act.put, List.setIfInBounds_toArray, List.set_cons_zero, List.set_cons_succ]
      refine wpH_takes (i := 14) (v := ?_) (some 42) rfl rfl (by kernel_rfl) (by kernel_rfl) (by kernel_rfl) (fun _ _ _ h => h) (Or.inl ⟨by rfl, ?_⟩) hHeld ?_
      rotate_left
      · intro w' hSw; obtain ⟨p1, ⟨p2, p3, p4⟩, p5, p6⟩ := KS.out _ hSw; clear hSw; go_simp; try with_reducible rfl
      simp only [Act.put, List.setIfInBounds_toArray, List.set_cons_zero, List.set_cons_succ]
      refine wpH_step (i := 15) (by kernel_rfl) rfl rfl (fun K hK => ?_)
      go_simp
      refine (HUS.out _ (Kp.refl wk Nul).drew).mono ?_
      rintro e w5 ⟨rfl, hk5'⟩
      have hk5 : Kp wk w5 Nul := ((Kp.refl wk Nul).drew).trans hk5'
      clear hk5'
      refine hK.out _ _ hk5 (fun hHeld => ?_)
      clear hK K
      (try simp only [Act.put, List.setIfInBounds_toArray, List.set_cons_zero, List.set_cons_succ])
      refine wpH_takes (i := 16) (v := ?_) (some 8) rfl rfl (by kernel_rfl) (by kernel_rfl) (by kernel_rfl) (fun _ _ _ h => h) (Or.inl ⟨by rfl, ?_⟩) hHeld ?_
      rotate_left
      · intro w' hSw; clear hSw; go_simp; try with_reducible rfl
      simp only [Act.put, List.setIfInBounds_toArray, List.set_cons_zero, List.set_cons_succ]
      refine wpAnyH_done (by kernel_rfl) ?_ _
      refine NoPanic.normal ?_
      go_upto_region 7 with fail
      have HK5 : Hid (Kp wk w5 Nul) := hk5
      clear hk5
      cases B with
      | false =>
        go_wp2_with fail
        go_roundw
        case rel => exact ⟨k + 1, line, far, by rw [HN.out]; omega, by go_num, HQ.out.kp HK5.out (fun _ _ e => e), by rw [HN.out]; exact HB.out.kp HK5.out (fun e => e), HB1.out.no (fun e => by have := HBu.out; rw [show UD X k tq = true from e] at this; cases this), HBD.out, by omega, HKk.out.trans HK5.out⟩
        case measure => simp only [intOf]; omega
      | true =>
        have HB5 : Hid (Blk w5 fb (nums (fun p => (far p : Int)) N) 3) := HB.out.kp HK5.out (fun e => e)
        have HQ5 : Hid (QRow w5 (fb + 1) u6 line) := HQ.out.kp HK5.out (fun _ _ e => e)
        have HLK : Hid (line.length ≤ 4096) := by show _ ≤ _; omega
        go_upto_region 8 with fail
        go_wp2_with (first
          | (refine wpList_store_cell rfl 3 (.tmp 47) (.const (.int .i64 1)) rfl fb k rfl (.int .i64 1) rfl rfl _ _ HB5.out (by rw [nums_length]; exact hlt) infoI1 ?_; intro w6 hb6 hk6; refine (show _ → _ from fun hgo => hgo) ?_; have HQ6 : Hid (QRow (w6.alloc (.cells #[.int .i64 (k : Int)] 3)) (fb + 1) u6 line) := (HQ5.out.kp hk6 (fun j hj e => by have e' : j = fb := e; omega)).kp ((Kp.refl w6 Nul).alloc _) (fun _ _ e => e); have HC6 : Hid ((w6.alloc (.cells #[.int .i64 (k : Int)] 3)).cell? ⟨w6.heap.size, 0, none⟩ = some (.int .i64 (k : Int))) := (Blk.new w6 [.int .i64 (k : Int)] 3).cell rfl)
          | (at_builtin; refine wpList_append_q _ rfl (.tmp 48) (.tmp 50) rfl (fb + 1) u6 line rfl HQ6.out k ⟨w6.heap.size, 0, none⟩ 1 rfl HC6.out (by have := HLK.out; omega) (by rw [World.size_alloc]; have := hk6.size; have := HK5.out.size; have := HB.out.lt; omega) ?_; intro v7 w7 hq7 hk7)
          | fail)
        have hb6' := hb6
        rw [nums_set (s := fun p => (far p : Int)) (t := fun p => ((Tj.upd far k 1 p : Nat) : Int)) (i := k) 1 (fun _ => by unfold Tj.upd; rw [if_pos rfl]; rfl) (fun j _ hj => by unfold Tj.upd; rw [if_neg hj])] at hb6'
        have hown : ∀ j, u6.ownBlock = some j → fb + 1 ≤ j := fun j hj => by rw [HU6.out] at hj; have : gq = j := (by simpa [Value.ownBlock] using hj); omega
        have HNEW : Hid (P1R w X tq fb v7 (.int .i64 ((k + 1 : Nat) : Int)) w7) := by
          refine ⟨k + 1, line ++ [k], Tj.upd far k 1, by rw [HN.out]; omega, rfl, hq7, ?_, HB1.out.yes HBu.out, fun p => ?_, by rw [List.length_append]; simp; omega, ?_⟩
          · rw [HN.out]; exact (hb6'.kp ((Kp.refl w6 Nul).alloc _) (fun e => e)).kp hk7 (fun e => by have := hown fb e; omega)
          · rw [List.length_append]
            unfold Tj.upd
            split
            · simp
            · have := HBD.out p; simp; omega
          · refine (((HKk.out.trans HK5.out).trans' hk6 (fun j hj e => ?_)).alloc _).trans' hk7 (fun j hj e => ?_)
            · have e' : j = fb := e; have := HFB.out; omega
            · have := hown j e; have := HFB.out; omega
        clear hb6 hk6 hq7 hk7 hb6' hown HQ6 HC6
        go_wp2_with fail
        go_roundw
        case rel => exact HNEW.out
        case measure => simp only [intOf]; omega
    · have j1 : ¬ (k : Int) < (N : Int) := by omega
      have hkN : k = N := by omega
      have HST : Hid (P2R w X tq fb X.length u6 wk) := by
        have h1 := HB1.out
        rw [hkN, ← HN.out] at h1
        refine ⟨line, far, 0, by omega, Nat.zero_le _, by rw [List.drop_zero]; exact HQ.out, by rw [HN.out]; exact HB.out, h1.fin (fun p q hu => (useD_lt hu).1), HBD.out, HKk.out⟩
      clear HB1 HQ HB HBD hkN hlk
      go_wp2_with fail
      go_loopg [6] X.length (fun gk v wr => P2R w X tq fb gk v wr)
      case atStart => exact HST.out
      case round =>
        clear HST c1
        rename World => wi
        obtain ⟨line, far, i, hgk, hil, hq, hb, hbg, hbd, hkp⟩ := hrel
        rw [HN.out] at hgk hb
        have HB : Hid (Blk wi fb (nums (fun p => (far p : Int)) N) 3) := hb
        have HBG : Hid (Tj.Bg (useD X) X.length tq far line i (fun _ => False)) := hbg
        have HBD : Hid (∀ p, far p ≤ line.length) := hbd
        have HKi : Hid (Kp w wi Nul) := hkp
        have HLN : Hid (line.length ≤ N) := by show _ ≤ _; rw [← HN.out]; exact hbg.len
        clear hb hbg hbd hkp
        by_cases hend : line.length ≤ i
        · have hlen0 : (line.drop i).length = 0 := by rw [List.length_drop]; omega
          obtain ⟨gq, oq, cq, hu6, _, _⟩ := hq.slice
          rw [hlen0] at hu6
          subst hu6
          clear hq hlen0
          go_wp2_with fail
          go_ret
          exact ⟨fb, far, rfl, by rw [HFB.out]; exact Nat.le_refl _, HB.out, HBG.out.fin hend, fun p => by have := HBD.out p; have := HLN.out; omega, HKi.out⟩
        · obtain ⟨c, hc⟩ : ∃ c, line[i]? = some c := ⟨_, List.getElem?_eq_getElem (by omega)⟩
          have hdr : line.drop i = c :: line.drop (i + 1) := by
            rw [List.drop_eq_getElem_cons (by omega)]
            rw [(List.getElem?_eq_some_iff.1 hc).2]
          rw [hdr] at hq
          obtain ⟨gq, oq, cq, hu6, _, hcq⟩ := hq.slice
          subst hu6
          obtain ⟨m, hm⟩ : ∃ m, (c :: line.drop (i + 1)).length = m := ⟨_, rfl⟩
          rw [hm] at hq hcq ⊢
          have hm0 : (0 : Int) < (m : Int) := by rw [← hm]; simp
          have hm1 : 0 < m := by omega
          have hce := hq.at' (i := 0) (p := c) rfl
          rw [Nat.add_zero] at hce
          obtain ⟨ad, hsl, hq'⟩ := q_pop hq
          have hcN : c < N := by rw [← HN.out]; exact HBG.out.lt c (List.mem_of_getElem? hc)
          have hcZ : (c : Int) < (N : Int) := by omega
          have HCc : Hid (line[i]? = some c) := hc
          have HQ : Hid (QRow wi (fb + 1) (.slice (some ad) (m - 1) (cq - 1)) (line.drop (i + 1))) := hq'
          obtain ⟨⟨⟨y1, y2⟩, yl, yv, yc⟩, hyc⟩ : ∃ ρ, X[c]? = some ρ := ⟨_, List.getElem?_eq_getElem (by rw [HN.out]; exact hcN)⟩
          have HYc : Hid (X[c]? = some ⟨(y1, y2), yl, yv, yc⟩) := hyc
          have hil2 : i < line.length := by omega
          have HS3 : Hid (P3R w X tq fb i c (.slice (some ad) (m - 1) (cq - 1)) (.int .i64 0) wi) := ⟨0, line, far, Nat.zero_le _, rfl, hil2, hc, hq', by rw [HN.out]; exact HB.out, bg_start HBG.out, HBD.out, HKi.out⟩
          have HGK : Hid (gk = N - i ∧ i < N) := ⟨hgk, by have := HLN.out; omega⟩
          obtain ⟨c1, _⟩ := HC.out wi HKi.out
          clear hc hdr hq hq' hyc hgk hil hm HBD HBG HLN HB hend hil2
          go_wp2_with fail
          go_loopw [6, 10] (fun v s wr => P3R w X tq fb i c v s wr) (fun _ s _ => N - (intOf s).toNat)
          case atStart => exact HS3.out
          case round =>
            clear HS3 c1 hce hsl HQ
            rename World => wk
            obtain ⟨k, line, far, hk, rfl, hil, hci, hq, hb, hbg, hbd, hkp⟩ := hrel
            rw [HN.out] at hk hb
            have HCi : Hid (line[i]? = some c ∧ i < line.length) := ⟨hci, hil⟩
            have HQ : Hid (QRow wk (fb + 1) u6 (line.drop (i + 1))) := hq
            have HB : Hid (Blk wk fb (nums (fun p => (far p : Int)) N) 3) := hb
            have HBG : Hid (Tj.Bg (useD X) X.length tq far line i (fun p => p < k)) := hbg
            have HBD : Hid (∀ p, far p ≤ line.length) := hbd
            have HKk : Hid (Kp w wk Nul) := hkp
            have HLN : Hid (line.length ≤ N) := by show _ ≤ _; rw [← HN.out]; exact hbg.len
            obtain ⟨gq, oq, cq2, hu6, hgq, hcq2⟩ := hq.slice
            have HOW : Hid (∀ j, u6.ownBlock = some j → fb + 1 ≤ j) := fun j hj => by rw [hu6] at hj; have : gq = j := (by simpa [Value.ownBlock] using hj); omega
            clear hu6 hgq hcq2 hq hb hbg hbd hkp hil hci
            obtain ⟨c1, _⟩ := HC.out wk HKk.out
            by_cases hlt : k < N
            · have j1 : (k : Int) < (N : Int) := by omega
              have d1 : wk.cell? ⟨fb, k, none⟩ = some (.int .i64 (far k : Int)) := HB.out.cell (nums_get hlt)
              by_cases hf : far k = 0
              · rw [hf] at d1
                obtain ⟨⟨⟨x1, x2⟩, al, av, cv⟩, hρ⟩ : ∃ ρ, X[k]? = some ρ := ⟨_, List.getElem?_eq_getElem (by rw [HN.out]; exact hlt)⟩
                obtain ⟨B, hB⟩ : ∃ B, UD X k c = B := ⟨_, rfl⟩
                have HBu : Hid (UD X k c = B) := hB
                have HF0 : Hid (far k = 0) := hf
                have HUS : Hid (∀ wq, Kp wk wq Nul → Calls Tryz.prog 72 #[.agg #[.int .i64 x1, .int .i64 x2, .slice av al.length cv], .agg #[.int .i64 y1, .int .i64 y2]] wq fun e w' => e = .returned (.bool B) ∧ Kp wq w' Nul) := fun wq kq => HU.out wq (HKk.out.trans kq) k c ⟨(x1, x2), al, av, cv⟩ ⟨(y1, y2), yl, yv, yc⟩ B hρ HYc.out hB
                have KS : Hid (∀ wq, Kp wk wq Nul → (wq.cell? ⟨x, 0, none⟩ = some (.slice (some ⟨g, 0, none⟩) N vc) ∧ (wq.cell? ⟨g, k * 3, none⟩ = some (.int .i64 x1) ∧ wq.cell? ⟨g, k * 3 + 1, none⟩ = some (.int .i64 x2) ∧ wq.cell? ⟨g, k * 3 + 2, none⟩ = some (.slice av al.length cv)) ∧ (wq.cell? ⟨g, c * 3, none⟩ = some (.int .i64 y1) ∧ wq.cell? ⟨g, c * 3 + 1, none⟩ = some (.int .i64 y2)))) := fun wq kq => by
                  obtain ⟨d1, d2⟩ := HC.out wq (HKk.out.trans kq)
                  have e1 := d2 k _ hρ
                  have e2 := d2 c _ HYc.out
                  exact ⟨d1, e1, e2.1, e2.2.1⟩
                generalize al.length = an at *
                clear hρ hB hf
                go_upto_region 17 with fail
                clear c1 d1
                refine wp_region_noPanic ?_
                refine wp_region_hel (fun w' : World => Kp wk w' Nul) (by kernel_rfl) ((Kp.refl wk Nul).drew) (fun hHeld => ?_)
                refine wpH_takes (i := 0) (v := ?_) (some 74) rfl rfl (by kernel_rfl) (by kernel_rfl) (by kernel_rfl) (fun _ _ _ h => h) (Or.inl ⟨by rfl, ?_⟩) hHeld ?_
                rotate_left
                · intro w' hSw; clear hSw; go_simp; try with_reducible rfl
                simp only [Act.put, List.setIfInBounds_toArray, List.set_cons_zero, List.set_cons_succ]
                refine wpH_takes (i := 1) (v := ?_) (some 75) rfl rfl (by kernel_rfl) (by kernel_rfl) (by kernel_rfl) (fun _ _ _ h => h) (Or.inl ⟨by rfl, ?_⟩) hHeld ?_
                rotate_left
                · intro w' hSw; clear hSw; go_simp; try with_reducible rfl
                simp only [Act.put, List.setIfInBounds_toArray, List.set_cons_zero, List.set_cons_succ]
                refine wpH_takes (i := 2) (v := ?_) (some 76) rfl rfl (by kernel_rfl) (by kernel_rfl) (by kernel_rfl) (fun _ _ _ h => h) (Or.inl ⟨by rfl, ?_⟩) hHeld ?_
                rotate_left
                · intro w' hSw; clear hSw; go_simp; try with_reducible rfl
                simp only [Act.put, List.setIfInBounds_toArray, List.set_cons_zero, List.set_cons_succ]
                refine wpH_takes (i := 3) (v := ?_) (some 77) rfl rfl (by kernel_rfl) (by kernel_rfl) (by kernel_rfl) (fun _ _ _ h => h) (Or.inl ⟨by rfl, ?_⟩) hHeld ?_
                rotate_left
                · intro w' hSw; obtain ⟨p1, ⟨p2, p3, p4⟩, p5, p6⟩ := KS.out _ hSw; clear hSw; go_simp; try with_reducible rfl
                simp only [Act.put, List.setIfInBounds_toArray, List.set_cons_zero, List.set_cons_succ]
                refine wpH_takes (i := 4) (v := ?_) (some 78) rfl rfl (by kernel_rfl) (by kernel_rfl) (by kernel_rfl) (fun _ _ _ h => h) (Or.inl ⟨by rfl, ?_⟩) hHeld ?_
                rotate_left
                · intro w' hSw; clear hSw; go_simp; try with_reducible rfl
                simp only [Act.put, List.setIfInBounds_toArray, List.set_cons_zero, List.set_cons_succ]
                refine wpH_takes (i := 5) (v := ?_) (some 79) rfl rfl (by kernel_rfl) (by kernel_rfl) (by kernel_rfl) (fun _ _ _ h => h) (Or.inl ⟨by rfl, ?_⟩) hHeld ?_
                rotate_left
                · intro w' hSw; clear hSw; go_simp; try with_reducible rfl
                simp only [Act.put, List.setIfInBounds_toArray, List.set_cons_zero, List.set_cons_succ]
                refine wpH_takes (i := 6) (v := ?_) (some 80) rfl rfl (by kernel_rfl) (by kernel_rfl) (by kernel_rfl) (fun _ _ _ h => h) (Or.inl ⟨by rfl, ?_⟩) hHeld ?_
                rotate_left
                · intro w' hSw; obtain ⟨p1, ⟨p2, p3, p4⟩, p5, p6⟩ := KS.out _ hSw; clear hSw; go_simp; try with_reducible rfl
                simp only [Act.put, List.setIfInBounds_toArray, List.set_cons_zero, List.set_cons_succ]
                refine wpH_takes (i := 7) (v := ?_) (some 81) rfl rfl (by kernel_rfl) (by kernel_rfl) (by kernel_rfl) (fun _ _ _ h => h) (Or.inl ⟨by rfl, ?_⟩) hHeld ?_
                rotate_left
                · intro w' hSw; clear hSw; go_simp; try with_reducible rfl
                simp only [Act.put, List.setIfInBounds_toArray, List.set_cons_zero, List.set_cons_succ]
                refine wpH_takes (i := 8) (v := ?_) (some 82) rfl rfl (by kernel_rfl) (by kernel_rfl) (by kernel_rfl) (fun _ _ _ h => h) (Or.inl ⟨by rfl, ?_⟩) hHeld ?_
                rotate_left
                · intro w' hSw; clear hSw; go_simp; try with_reducible rfl
                simp only [Act.put, List.setIfInBounds_toArray, List.set_cons_zero, List.set_cons_succ]
                refine wpH_takes (i := 9) (v := ?_) (some 83) rfl rfl (by kernel_rfl) (by kernel_rfl) (by kernel_rfl) (fun _ _ _ h => h) (Or.inl ⟨by rfl, ?_⟩) hHeld ?_
                rotate_left
                · intro w' hSw; clear hSw; go_simp; try with_reducible rfl
                simp only [Act.put, List.setIfInBounds_toArray, List.set_cons_zero, List.set_cons_succ]
                refine wpH_takes (i := 10) (v := ?_) (some 84) rfl rfl (by kernel_rfl) (by kernel_rfl) (by kernel_rfl) (fun _ _ _ h => h) (Or.inl ⟨by rfl, ?_⟩) hHeld ?_
                rotate_left
                · intro w' hSw; obtain ⟨p1, ⟨p2, p3, p4⟩, p5, p6⟩ := KS.out _ hSw; clear hSw; go_simp; try with_reducible rfl
                simp only [Act.put, List.setIfInBounds_toArray, List.set_cons_zero, List.set_cons_succ]
                refine wpH_takes (i := 11) (v := ?_) (some 85) rfl rfl (by kernel_rfl) (by kernel_rfl) (by kernel_rfl) (fun _ _ _ h => h) (Or.inl ⟨by rfl, ?_⟩) hHeld ?_
                rotate_left
                · intro w' hSw; clear hSw; go_simp; try with_reducible rfl
                simp only [Act.put, List.setIfInBounds_toArray, List.set_cons_zero, List.set_cons_succ]
                refine wpH_takes (i := 12) (v := ?_) (some 86) rfl rfl (by kernel_rfl) (by kernel_rfl) (by kernel_rfl) (fun _ _ _ h => h) (Or.inl ⟨by rfl, ?_⟩) hHeld ?_
                rotate_left
                · intro w' hSw; clear hSw; go_simp; try with_reducible rfl
                simp only [Act.put, List.setIfInBounds_toArray, List.set_cons_zero, List.set_cons_succ]
                refine wpH_takes (i := 13) (v := ?_) (some 87) rfl rfl (by kernel_rfl) (by kernel_rfl) (by kernel_rfl) (fun _ _ _ h => h) (Or.inl ⟨by rfl, ?_⟩) hHeld ?_
                rotate_left
                · intro w' hSw; clear hSw; go_simp; try with_reducible rfl
                simp only [Act.put, List.setIfInBounds_toArray, List.set_cons_zero, List.set_cons_succ]
                refine wpH_takes (i := 14) (v := ?_) (some 88) rfl rfl (by kernel_rfl) (by kernel_rfl) (by kernel_rfl) (fun _ _ _ h => h) (Or.inl ⟨by rfl, ?_⟩) hHeld ?_
                rotate_left
                · intro w' hSw; obtain ⟨p1, ⟨p2, p3, p4⟩, p5, p6⟩ := KS.out _ hSw; clear hSw; go_simp; try with_reducible rfl
                simp only [Act.put, List.setIfInBounds_toArray, List.set_cons_zero, List.set_cons_succ]
                refine wpH_step (i := 15) (by kernel_rfl) rfl rfl (fun K hK => ?_)
                go_simp
                refine (HUS.out _ (Kp.refl wk Nul).drew).mono ?_
                rintro e w5 ⟨rfl, hk5'⟩
                have hk5 : Kp wk w5 Nul := ((Kp.refl wk Nul).drew).trans hk5'
                clear hk5'
                refine hK.out _ _ hk5 (fun hHeld => ?_)
                clear hK K
                (try simp only [Act.put, List.setIfInBounds_toArray, List.set_cons_zero, List.set_cons_succ])
                refine wpH_takes (i := 16) (v := ?_) (some 11) rfl rfl (by kernel_rfl) (by kernel_rfl) (by kernel_rfl) (fun _ _ _ h => h) (Or.inl ⟨by rfl, ?_⟩) hHeld ?_
                rotate_left
                · intro w' hSw; clear hSw; go_simp; try with_reducible rfl
                simp only [Act.put, List.setIfInBounds_toArray, List.set_cons_zero, List.set_cons_succ]
                refine wpAnyH_done (by kernel_rfl) ?_ _
                refine NoPanic.normal ?_
                go_upto_region 18 with fail
                have HK5 : Hid (Kp wk w5 Nul) := hk5
                clear hk5
                cases B with
                | false =>
                  go_wp2_with fail
                  go_roundw
                  case rel => exact ⟨k + 1, line, far, by rw [HN.out]; omega, by go_num, HCi.out.2, HCi.out.1, HQ.out.kp HK5.out (fun _ _ e => e), by rw [HN.out]; exact HB.out.kp HK5.out (fun e => e), bg_done (HBG.out.old HCi.out.1 (.inr (fun e => by have := HBu.out; rw [show UD X k c = true from e] at this; cases this))), HBD.out, HKk.out.trans HK5.out⟩
                  case measure => simp only [intOf]; omega
                | true =>
                  have HB5 : Hid (Blk w5 fb (nums (fun p => (far p : Int)) N) 3) := HB.out.kp HK5.out (fun e => e)
                  have HQ5 : Hid (QRow w5 (fb + 1) u6 (line.drop (i + 1))) := HQ.out.kp HK5.out (fun _ _ e => e)
                  have e1 : w5.cell? ⟨fb, c, none⟩ = some (.int .i64 (far c : Int)) := HB5.out.cell (nums_get hcN)
                  obtain ⟨fc, hfc⟩ : ∃ fc, far c = fc := ⟨_, rfl⟩
                  have HFC : Hid (far c = fc) := hfc
                  have hfb2 : fc ≤ 4096 := by rw [← hfc]; have := HBD.out c; have := HLN.out; omega
                  have g3 : wrap64 ((fc : Int) + 1) = (fc : Int) + 1 := (wrap_succ fc hfb2).1
                  have HDL : Hid ((line.drop (i + 1)).length ≤ 4096) := by show _ ≤ _; rw [List.length_drop]; have := HLN.out; omega
                  have g4 : IntKind.i64.wrap ((fc : Int) + 1) = (fc : Int) + 1 := (wrap_succ fc hfb2).2
                  rw [hfc] at e1
                  clear hfc
                  go_upto_region 19 with fail
                  go_wp2_with (first
                    | (refine wpList_store_cell rfl 3 (.tmp 98) (.tmp 97) rfl fb k rfl (.int .i64 ((fc : Int) + 1)) rfl rfl _ _ HB5.out (by rw [nums_length]; exact hlt) infoI1 ?_; intro w6 hb6 hk6; have HQ6 : Hid (QRow (w6.alloc (.cells #[.int .i64 (k : Int)] 3)) (fb + 1) u6 (line.drop (i + 1))) := (HQ5.out.kp hk6 (fun j hj e => by have e' : j = fb := e; omega)).kp ((Kp.refl w6 Nul).alloc _) (fun _ _ e => e); have HC6 : Hid ((w6.alloc (.cells #[.int .i64 (k : Int)] 3)).cell? ⟨w6.heap.size, 0, none⟩ = some (.int .i64 (k : Int))) := (Blk.new w6 [.int .i64 (k : Int)] 3).cell rfl)
                    | (at_builtin; refine wpList_append_q _ rfl (.tmp 99) (.tmp 101) rfl (fb + 1) u6 _ rfl HQ6.out k ⟨w6.heap.size, 0, none⟩ 1 rfl HC6.out (by have := HDL.out; omega) (by rw [World.size_alloc]; have := hk6.size; have := HK5.out.size; have := HB.out.lt; omega) ?_; intro v7 w7 hq7 hk7)
                    | fail)
                  have hb6' := hb6
                  try rw [g3] at hb6'
                  try rw [g4] at hb6'
                  rw [nums_set (s := fun p => (far p : Int)) (t := fun p => ((Tj.upd far k (far c + 1) p : Nat) : Int)) (i := k) ((fc : Int) + 1) (fun _ => by unfold Tj.upd; rw [if_pos rfl, HFC.out]; push_cast; rfl) (fun j _ hj => by unfold Tj.upd; rw [if_neg hj])] at hb6'
                  have HNEW : Hid (P3R w X tq fb i c v7 (.int .i64 ((k + 1 : Nat) : Int)) w7) := by
                    have hdl : line.drop (i + 1) ++ [k] = (line ++ [k]).drop (i + 1) := by rw [List.drop_append_of_le_length (by have := HCi.out.2; omega)]
                    rw [hdl] at hq7
                    refine ⟨k + 1, line ++ [k], Tj.upd far k (far c + 1), by rw [HN.out]; omega, rfl, by rw [List.length_append]; have := HCi.out.2; omega, by rw [List.getElem?_append_left HCi.out.2]; exact HCi.out.1, hq7, ?_, bg_done (HBG.out.new HCi.out.1 (by rw [HN.out]; exact hlt) HF0.out HBu.out), fun p => ?_, ?_⟩
                    · rw [HN.out]; exact (hb6'.kp ((Kp.refl w6 Nul).alloc _) (fun e => e)).kp hk7 (fun e => by have := HOW.out fb e; omega)
                    · rw [List.length_append]
                      unfold Tj.upd
                      split
                      · have := HBD.out c; simp; omega
                      · have := HBD.out p; simp; omega
                    · refine (((HKk.out.trans HK5.out).trans' hk6 (fun j hj e => ?_)).alloc _).trans' hk7 (fun j hj e => ?_)
                      · have e' : j = fb := e; have := HFB.out; omega
                      · have := HOW.out j e; have := HFB.out; omega
                  clear hb6 hk6 hq7 hk7 hb6' HQ6 HC6 e1 g3 g4
                  go_wp2_with fail
                  go_roundw
                  case rel => exact HNEW.out
                  case measure => simp only [intOf]; omega
              · have d2 : (0 : Int) < (far k : Int) := by omega
                have HF0 : Hid (far k ≠ 0) := hf
                go_wp2_with fail
                go_roundw
                case rel => exact ⟨k + 1, line, far, by rw [HN.out]; omega, by go_num, HCi.out.2, HCi.out.1, HQ.out, by rw [HN.out]; exact HB.out, bg_done (HBG.out.old HCi.out.1 (.inl HF0.out)), HBD.out, HKk.out⟩
                case measure => simp only [intOf]; omega
            · have j1 : ¬ (k : Int) < (N : Int) := by omega
              have hkN : k = N := by omega
              have HST : Hid (P2R w X tq fb (N - (i + 1)) u6 wk) := by
                refine ⟨line, far, i + 1, by rw [HN.out], HCi.out.2, HQ.out, by rw [HN.out]; exact HB.out, HBG.out.next HCi.out.1 (fun p hu => ?_), HBD.out, HKk.out⟩
                have := (useD_lt hu).1
                rw [HN.out] at this
                show p < k; omega
              clear HBG HQ HB HBD hkN
              go_wp2_with fail
              go_roundg (N - (i + 1))
              case measure => have := HGK.out; omega
              case rel => exact HST.out
end Go.Proofs.YtdlieecpckpemaaGreatDoor
