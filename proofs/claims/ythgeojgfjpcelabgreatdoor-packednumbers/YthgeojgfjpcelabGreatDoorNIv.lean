/- All; Put, whatever is put. GridBack's plain part: entries that change places; the way from one grid to another. pick. GridBack: what a grid tells is kept in a list of one's own. Fenced twins. GridBack: the list 'all' while its entries change places and a grid gets them. Move: brought. Move: known, the walk. formula.Nodes, the law's nodes; what goes over a formula's nodes. What goes over a formula's nodes (Nodes' own function) tells them in order, each without its parts. -/
import Derived.Test.YthgeojgfjpcelabGreatDoorNIg
import Derived.Test.YthgeojgfjpcelabGreatDoorNQl
import Derived.Test.YthgeojgfjpcelabGreatDoorNXk
import Derived.Test.YthgeojgfjpcelabGreatDoorNQa
import Derived.Test.YthgeojgfjpcelabGreatDoorNXs
import Derived.Deep.QuietTactic
import Derived.Test.YthgeojgfjpcelabGreatDoorNQq
import Derived.Test.YthgeojgfjpcelabGreatDoorNQr
import Derived.Deep.RegionHeld3
namespace Go.Proofs.YthgeojgfjpcelabGreatDoor
open Go.RowKit Go.Maps Go.Sort Go.Lib

set_option maxHeartbeats 2000000 in
theorem in_at (g : Nat) (w : World) : Calls Tryz.prog 58 #[.pointer (some ⟨g, 0, none⟩), .agg #[.int .i64 1, .int .i64 1, .int .i64 256, .int .i64 4096]] w fun e w' => ∃ x0 x1, e = .returned (.func (.func 89) #[] #[.pointer (some ⟨x0, 0, none⟩), .pointer (some ⟨x1, 0, none⟩)]) ∧ Blk w' x0 [.pointer (some ⟨g, 0, none⟩)] 23 ∧ Blk w' x1 [.int .i64 1, .int .i64 1, .int .i64 256, .int .i64 4096] 125 ∧ Kp w w' Nul := by
  obtain ⟨W, hW⟩ : ∃ W, (w.alloc (.cells #[.pointer (some ⟨g, 0, none⟩)] 23)).alloc (.cells #[.int .i64 1, .int .i64 1, .int .i64 256, .int .i64 4096] 125) = W := ⟨_, rfl⟩
  have HW : Hid ((w.alloc (.cells #[.pointer (some ⟨g, 0, none⟩)] 23)).alloc (.cells #[.int .i64 1, .int .i64 1, .int .i64 256, .int .i64 4096] 125) = W) := hW
  have HK : Hid (Kp w W Nul) := by show Kp w W Nul; rw [← hW]; exact ((Kp.refl w Nul).alloc _).alloc _
  have HB0 : Hid (Blk W w.heap.size [.pointer (some ⟨g, 0, none⟩)] 23) := by show Blk _ _ _ _; rw [← hW]; exact (Blk.new w [.pointer (some ⟨g, 0, none⟩)] _).alloc _
  have HB1 : Hid (Blk W (w.heap.size + 1) [.int .i64 1, .int .i64 1, .int .i64 256, .int .i64 4096] 125) := by
    have := Blk.new (w.alloc (.cells #[.pointer (some ⟨g, 0, none⟩)] 23)) [.int .i64 1, .int .i64 1, .int .i64 256, .int .i64 4096] 125
    rw [World.size_alloc] at this
    show Blk _ _ _ _
    rw [← hW]; exact this
  clear hW
  go_enter Tryz.func58, Tryz.ntmps58
  go_wp2_with fail
  rw [HW.out]
  go_ret
  exact ⟨_, _, rfl, HB0.out, HB1.out, HK.out⟩
set_option maxHeartbeats 2000000 in
theorem all_at (g : Nat) (w : World) : Calls Tryz.prog 26 #[.pointer (some ⟨g, 0, none⟩)] w fun e w' => ∃ x0 x1, e = .returned (.func (.func 89) #[] #[.pointer (some ⟨x0, 0, none⟩), .pointer (some ⟨x1, 0, none⟩)]) ∧ Blk w' x0 [.pointer (some ⟨g, 0, none⟩)] 23 ∧ Blk w' x1 [.int .i64 1, .int .i64 1, .int .i64 256, .int .i64 4096] 125 ∧ Kp w w' Nul := by
  have H : Hid (Calls Tryz.prog 58 #[.pointer (some ⟨g, 0, none⟩), .agg #[.int .i64 1, .int .i64 1, .int .i64 256, .int .i64 4096]] w fun e w' => ∃ x0 x1, e = .returned (.func (.func 89) #[] #[.pointer (some ⟨x0, 0, none⟩), .pointer (some ⟨x1, 0, none⟩)]) ∧ Blk w' x0 [.pointer (some ⟨g, 0, none⟩)] 23 ∧ Blk w' x1 [.int .i64 1, .int .i64 1, .int .i64 256, .int .i64 4096] 125 ∧ Kp w w' Nul) := in_at g w
  go_enter Tryz.func26, Tryz.ntmps26
  go_wp2_with fail
  refine H.out.mono ?_
  rintro e w1 ⟨x0, x1, rfl, h1, h2, h3⟩
  have HE : Hid (Blk w1 x0 [.pointer (some ⟨g, 0, none⟩)] 23 ∧ Blk w1 x1 [.int .i64 1, .int .i64 1, .int .i64 256, .int .i64 4096] 125 ∧ Kp w w1 Nul) := ⟨h1, h2, h3⟩
  clear h1 h2 h3 H
  go_wp2_with fail
  go_ret
  exact ⟨_, _, rfl, HE.out⟩
/-- What a grid may hold. -/
structure Ok17 (L : List Cc) : Prop where
  gd : ∀ x ∈ L, Gd x.2
  at' : ∀ x ∈ L, vC x.1.1 x.1.2 = true
  len : L.length ≤ 4096
theorem Ok17.nil : Ok17 [] := ⟨fun x h => by simp at h, fun x h => by simp at h, by simp⟩
theorem Ok17.okC {L : List Cc} (h : Ok17 L) : OkC L := fun x hx => ⟨(h.gd x hx).x, (h.gd x hx).ok⟩
theorem Ok17.put {L : List Cc} (h : Ok17 L) (ho : L.Pairwise (fun x y => x.1 ≠ y.1)) {c r : Int} {ct : Ct} (hx : vC c r = true) (hg : Gd ct) (hroom : L.length < 4096 ∨ ∃ c', ((c, r), c') ∈ L) : Ok17 (putL L (c, r) ct) := by
  refine ⟨fun x hx' => ?_, fun x hx' => ?_, ?_⟩
  · rcases (putL_mem x).1 hx' with rfl | h1
    · exact hg
    · exact h.gd x h1.1
  · rcases (putL_mem x).1 hx' with rfl | h1
    · exact hx
    · exact h.at' x h1.1
  · by_cases hin : ∃ c', ((c, r), c') ∈ L
    · rw [putL_in ho hin]; exact h.len
    · have hno : ∀ c', ((c, r), c') ∉ L := fun c' q => hin ⟨c', q⟩
      rw [putL_out hno]
      rcases hroom with h1 | h1
      · omega
      · exact absurd h1 hin
theorem Ok17.del {L : List Cc} (h : Ok17 L) (k : Int × Int) : Ok17 (delL L k) :=
  ⟨fun x hx => h.gd x ((delL_mem x).1 hx).1, fun x hx => h.at' x ((delL_mem x).1 hx).1, Nat.le_trans (List.length_filter_le _ _) h.len⟩
/-- What Put leaves: where it may. -/
structure PutR (L : List Cc) (c r : Int) (ct : Ct) (er : Int) (L' : List Cc) : Prop where
  ok : Ok17 L'
  put : vC c r = true → gv ct = true → ct.k ≠ 0 → (L.length < 4096 ∨ ∃ c', ((c, r), c') ∈ L) → er = 0 ∧ L' = putL L (c, r) (cpC ct)
  del : vC c r = true → gv ct = true → ct.k = 0 → er = 0 ∧ L' = delL L (c, r)
theorem put_any (G : Nat → Prop) (g : Nat) (c r : Int) (ct : Ct) (sl : Value) (F : Nat → Prop) (L : List Cc) (w : World) (hG : GridIn w G g L) (hnew : ∀ i, w.heap.size ≤ i → G i) (hL : Ok17 L) (hok : ct.t.ok) (hx : ct.v.x < 18446744073709551616) (hs : ct.t.size ≤ 1048576) (hin : NdIn w F sl ct.t) (U : VS w) :
    Calls Tryz.prog 22 #[.pointer (some ⟨g, 0, none⟩), .agg #[.int .i64 c, .int .i64 r], ct.val sl] w fun e w' => ∃ er L', e = .returned (.int .i64 er) ∧ GridIn w' G g L' ∧ PutR L c r ct er L' ∧ Km g w w' := by
  have h : GI 0 w g L := GridIn.mono hG (fun _ _ => Nat.zero_le _)
  obtain ⟨mv, bg⟩ := h.blk
  have hval : ∀ V, gv ct = V → ∀ wq, Kp w wq Nul → Calls Tryz.prog 51 #[ct.val sl] wq fun e w' => e = .returned (.bool V) ∧ Kp wq w' Nul := fun V hV wq k => by subst hV; exact gv_at ct sl F wq hok (hin.kp k (fun _ _ x => x)) (U.kp k)
  have hcp : ∀ wq, Kp w wq Nul → Calls Tryz.prog 55 #[ct.val sl] wq fun e w' => ∃ sl' fp, e = .returned ((cpC ct).val sl') ∧ Own w' wq.heap.size sl' (cpC ct).t fp ∧ Kp wq w' Nul := fun wq k => (gCopy_at ct sl F wq hx hs hok (hin.kp k (fun _ _ x => x))).mono (by
    rintro e w' ⟨sl', fp, h1, h2, h3⟩
    exact ⟨sl', fp, h1, h2, Kp.of_below h3⟩)
  have hno : ∀ er w', Kp w w' Nul → (vC c r = true → gv ct = true → False) → ∃ er' L', Ending.returned (.int .i64 er) = .returned (.int .i64 er') ∧ GridIn w' G g L' ∧ PutR L c r ct er' L' ∧ Km g w w' := fun er w' k hf => ⟨er, L, rfl, hG.kp k, ⟨hL, fun h1 h2 => (hf h1 h2).elim, fun h1 h2 => (hf h1 h2).elim⟩, Km.of_nul k bg.lt⟩
  cases hV : gv ct with
  | false =>
    refine (put_no g c r ct sl false w (fun e => by cases e) (hval false hV)).mono ?_
    rintro e w' ⟨rfl, k⟩
    exact hno _ w' k (fun _ h2 => by rw [hV] at h2; cases h2)
  | true =>
    cases hC : vC c r with
    | false =>
      refine (put_no g c r ct sl true w (fun _ => hC) (hval true hV)).mono ?_
      rintro e w' ⟨rfl, k⟩
      exact hno _ w' k (fun h1 _ => by rw [hC] at h1; cases h1)
    | true =>
      by_cases hk : ct.k = 0
      · refine (put_dm G g c r hC ct hk sl L w hG (hval true hV)).mono ?_
        rintro e w' ⟨rfl, h1, h2⟩
        exact ⟨0, _, rfl, h1, ⟨hL.del _, fun _ _ h => absurd hk h, fun _ _ _ => ⟨rfl, rfl⟩⟩, h2⟩
      · by_cases hroom : L.length < 4096 ∨ ∃ c', ((c, r), c') ∈ L
        · refine (put_m G g c r hC ct hk sl L w h hG hnew hL.len hroom (hval true hV) hcp).mono ?_
          rintro e w' ⟨rfl, h1, h2⟩
          exact ⟨0, _, rfl, h1, ⟨hL.put h.once hC (Gd.of hV hk hok hx hs) hroom, fun _ _ _ _ => ⟨rfl, rfl⟩, fun _ _ h => absurd h hk⟩, h2⟩
        · have hfull : 4096 ≤ L.length := by
            rcases Nat.lt_or_ge L.length 4096 with q | q
            · exact absurd (.inl q) hroom
            · exact q
          refine (put_full 0 g c r hC ct hk sl L w h hfull (fun c' q => hroom (.inr ⟨c', q⟩)) (hval true hV)).mono ?_
          rintro e w' ⟨rfl, k⟩
          exact ⟨41, L, rfl, hG.kp k, ⟨hL, fun _ _ _ q => absurd q hroom, fun _ _ q => absurd q hk⟩, Km.of_nul k bg.lt⟩
end Go.Proofs.YthgeojgfjpcelabGreatDoor
namespace Go.Proofs.YthgeojgfjpcelabGreatDoor
open Go.RowKit Go.Maps Go.Sort Go.Lib

/-- What pick tells. -/
def pkf (c m : Int) : Nat := if c < 0 then ((-(c + 1)) % m).toNat else (c % m).toNat
theorem pkf_val (c m : Int) (h1 : 1 ≤ m) : (pkf c m : Int) = (if c < 0 then (-(c + 1)) % m else c % m) ∧ (pkf c m : Int) < m := by
  have hm0 : m ≠ 0 := by omega
  unfold pkf
  by_cases h : c < 0
  · have e1 := Int.emod_nonneg (-(c + 1)) hm0
    have e2 := Int.emod_lt_of_pos (-(c + 1)) (b := m) (by omega)
    rw [if_pos h, if_pos h]; omega
  · have e1 := Int.emod_nonneg c hm0
    have e2 := Int.emod_lt_of_pos c (b := m) (by omega)
    rw [if_neg h, if_neg h]; omega
section
variable {α : Type}
end
end Go.Proofs.YthgeojgfjpcelabGreatDoor
namespace Go.Proofs.YthgeojgfjpcelabGreatDoor
open Go.RowKit Go.Maps Go.Sort Go.Lib Go.Shelf

/-- A variable of one cell gets another value, in a fence. -/
theorem storeIn_var {F : Fence} {n : Nat} {ops : Array Oper} {rest : List Oper} {o : Oper} {a : Act} {w : World} {Q : Exit → Act → World → Prop} (hgd : Region.wanted o (yielded ops a.tmps) = true) (ty : TypeId) (x y : Operand) (ho : o.op = .store ty x y)
    (b : Nat) (hx : a.eval x = .pointer (some ⟨b, 0, none⟩)) (v : Value) (hy : a.eval y = v) (h1 : v.oneCell' = true) (t : TypeId) (old : Value) (hb : Blk w b [old] t) (hi : (Tryz.prog.info? ty).map (·.size) = some 1)
    (h : ∀ W, Blk W b [v] t → Kp w W (fun i => i = b) → wpListIn F n Tryz.prog ops Q rest (a.put o.dst undef) W) : wpListIn F n Tryz.prog ops Q (o :: rest) a w := by
  subst hy
  refine wpInS hgd (by simp [Oper.about, ho]) (fun c hc' => by rw [ho] at hc'; cases hc') (w' := w.setRow b #[a.eval y]) ?_ (h _ (setRow_heap w b #[old] #[a.eval y] t (0, 0) hb) ?_)
  · unfold execOp
    simp only [ho, hx, Instr.storeAt, Instr.sureAddr, Sem.run_bind, Sem.run_pure, Result.andThen_ok, run_storeVar_one w b t ty old _ hb hi h1]
  · refine ⟨rfl, rfl, rfl, ?_, fun i _ hn => ?_⟩
    · unfold World.setRow; simp
    · unfold World.setRow
      simp only [Array.getElem?_modify]
      rw [if_neg (fun e => hn e.symm)]
end Go.Proofs.YthgeojgfjpcelabGreatDoor
namespace Go.Proofs.YthgeojgfjpcelabGreatDoor
open Go.RowKit Go.Maps Go.Sort Go.Lib Go.Shelf

/-- A grid outlives what is done to other blocks. -/
theorem GridIn.far {w w' : World} {F S : Nat → Prop} {g : Nat} {L : List Cc} (h : GridIn w F g L) (k : Kp w w' S) (hS : ∀ i, F i → ¬ S i) : GridIn w' F g L := by
  obtain ⟨hg, ⟨hb, rfl⟩ | ⟨m, D, hb, hFm, hne, hown, hm⟩⟩ := h
  · exact ⟨hg, .inl ⟨(k.block g (Array.getElem?_eq_some_iff.1 hb).1 (hS g hg)).trans hb, rfl⟩⟩
  · exact ⟨hg, .inr ⟨m, D, (k.block g (Array.getElem?_eq_some_iff.1 hb).1 (hS g hg)).trans hb, hFm, hne, ownsMap_block hown (k.block m hown.lt (hS m hFm)), ⟨hm.size, hm.rng, hm.keys, fun c r ct hc => by obtain ⟨sl, e1, e2⟩ := hm.vals c r ct hc; exact ⟨sl, e1, e2.kp k (fun i hi => hS i hi)⟩, hm.once⟩⟩⟩
end Go.Proofs.YthgeojgfjpcelabGreatDoor
namespace Go.Proofs.YthgeojgfjpcelabGreatDoor
open Go.RowKit Go.Maps Go.Sort Go.Lib Go.Shelf
attribute [local go_sem] Oper.semAt_some

theorem results_cells2 {fn : Func} {p q : Tmp} {ty tz : TypeId} (h : fn.results = #[.cell p ty, .cell q tz]) (tmps : Array Value) (P : Program) (w : World) :
    (results fn tmps).run P w = ((asAddr (tmps.getD p undef)).run P w).andThen fun a w1 => ((loadVar ty a).run P w1).andThen fun v w2 => ((asAddr (tmps.getD q undef)).run P w2).andThen fun b w3 => ((loadVar tz b).run P w3).andThen fun u w4 => .ok (.tuple #[v, u]) w4 := by
  simp only [results, h]
  simp [Sem.run_bind, Result.andThen]
end Go.Proofs.YthgeojgfjpcelabGreatDoor
namespace Go.Proofs.YthgeojgfjpcelabGreatDoor
open Go.RowKit Go.Maps

@[go_sem] theorem field_v (v0 v1 v2 v3 v4 v5 v6 v7 v8 v9 v10 v11 v12 v13 v14 v15 v16 v17 v18 v19 v20 : Value) (w : World) : (Instr.field 66 (.agg #[v0, v1, v2, v3, v4, v5, v6, v7, v8, v9, v10, v11, v12, v13, v14, v15, v16, v17, v18, v19, v20]) 1).run Tryz.prog w = .ok (.agg #[v1, v2, v3, v4, v5]) w := by
  unfold Instr.field
  rw [Sem.run_bind, run_underlying Tryz.underlying66 w]
  simp [part, asAgg, isAgg, run_underlying Tryz.underlying59 w, Sem.run_bind]
theorem grid_sm {W : World} {F : Nat → Prop} {g : Nat} {M : List Cc} (h : GridIn W F g M) {i : Nat} (hs : Sm W g i) : F i := by
  obtain ⟨hF, ⟨hb', _⟩ | ⟨m, D, hb', hm', _⟩⟩ := h
  · rcases hs with rfl | ⟨e, _⟩
    · exact hF
    · rw [hb'] at e; simp at e
  · rcases hs with rfl | ⟨e, _⟩
    · exact hF
    · rw [hb'] at e
      have em : m = i := by simpa using e
      rw [← em]; exact hm'
theorem put22 (w : World) (g : Nat) (c r : Int) (ct : Ct) (sl : Value) (L : List Cc) (wq : World) (hG : GI w.heap.size wq g L) (k : Kp w wq Nul) (hL : Ok17 L) (hgd : Gd ct) (hv : vC c r = true) (hin : NdIn wq (fun _ => True) sl ct.t) (hlen : L.length < 4096) (U : VS w) :
    Calls Tryz.prog 22 #[.pointer (some ⟨g, 0, none⟩), .agg #[.int .i64 c, .int .i64 r], ct.val sl] wq fun e w' => e = .returned (.int .i64 0) ∧ GI w.heap.size w' g (putL L (c, r) ct) ∧ Ok17 (putL L (c, r) ct) ∧ Kp w w' Nul := by
  refine (put_any (fun i => w.heap.size ≤ i) g c r ct sl (fun _ => True) L wq hG (fun i hi => Nat.le_trans k.size hi) hL hgd.ok hgd.x hgd.size hin (U.kp k)).mono ?_
  rintro e w' ⟨er, L', rfl, hg', hp, km⟩
  obtain ⟨rfl, rfl⟩ := hp.put hv hgd.val hgd.k (.inl hlen)
  have ho := hp.ok
  rw [hgd.cp] at hg' ho
  exact ⟨rfl, hg', ho, k.trans' km.kp (fun i hi hs => by have := grid_sm hG hs; omega)⟩
end Go.Proofs.YthgeojgfjpcelabGreatDoor
namespace Go.Proofs.YthgeojgfjpcelabGreatDoor
open Go.RowKit Go.Shelf
attribute [local go_sem] Oper.semAt_some

end Go.Proofs.YthgeojgfjpcelabGreatDoor
namespace Go.Proofs.YthgeojgfjpcelabGreatDoor
open Go.RowKit Go.Shelf
attribute [local go_sem] Oper.semAt_some

theorem res_none {fn : Func} (h : fn.results = #[]) (tmps : Array Value) (w : World) : (results fn tmps).run Tryz.prog w = .ok (.tuple #[]) w := by
  simp [results, h]
end Go.Proofs.YthgeojgfjpcelabGreatDoor
