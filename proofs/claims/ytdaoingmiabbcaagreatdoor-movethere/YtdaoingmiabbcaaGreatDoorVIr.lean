/- In, All: what they tell. In's closure: it tells a grid's contents, in order. All; Put, whatever is put. GridBack's plain part: entries that change places; the way from one grid to another. pick. GridBack: three grids and what is handed in. GridBack: what a grid tells is kept in a list of one's own. Fenced twins. In's closure tells a grid's contents, in order, each with a tree of the round's own: wip/grid/It, by wip/gen_seq2.py. -/
import Derived.Test.YtdaoingmiabbcaaGreatDoorVIp
import Derived.Test.YtdaoingmiabbcaaGreatDoorVQr
import Derived.Test.YtdaoingmiabbcaaGreatDoorVUp
namespace Go.Proofs.YtdaoingmiabbcaaGreatDoor
open Go.RowKit Go.Maps Go.Sort Go.Lib Go.Shelf
attribute [local go_sem] Oper.semAt_some

section
variable {n : Nat} {P : Program} {md : Region.Mode} {ops : Array Oper} {Q : Exit → Act → World → Prop} {fuel : Nat} {listed : Array Bool} {a : Act} {w w' : World}
/-- One operation of a drawn region, in a fence: it yields a value. -/
theorem any_val {i : Nat} {o : Oper} {v : Value} (d : Option Tmp) (ho : ops[i]? = some o) (hd : o.dst = d) (hg : o.guard = none) (hab : o.about P w a.eval = none) (hpl : ∀ c, o.op ≠ .defer c) (he : (execOp a.eval o).run P w = .ok (.value v) w')
    (h : wpAnyIn Fence.wide n P md ops Q fuel (listed.setIfInBounds i true) (a.put d v) w') : wpOpIn Fence.wide n P ops Q i (wpAnyIn Fence.wide n P md ops Q fuel (listed.setIfInBounds i true)) a w := by
  subst hd
  refine wpOpIn_step ho fun K hK => ?_
  simp only [Region.wanted, hg, if_true]
  unfold Oper.wpIn
  refine ⟨by simp [hab], ?_⟩
  rw [Oper.semAt_plain Fence.wide _ _ (fun c hc' => hpl c hc'), he]
  exact hK _ _ h
/-- It calls a function. -/
theorem any_call {i : Nat} {o : Oper} {f : FuncId} {args : Array Value} (d : Option Tmp) (ho : ops[i]? = some o) (hd : o.dst = d) (hg : o.guard = none) (hn : 1 ≤ n) (hpl : ∀ c, o.op ≠ .defer c) (he : (execOp a.eval o).run P w = .ok (.enter f args) w')
    (h : Calls P f args w' fun e w2 => ∃ v, e = .returned v ∧ wpAnyIn Fence.wide n P md ops Q fuel (listed.setIfInBounds i true) (a.put d v) w2) : wpOpIn Fence.wide n P ops Q i (wpAnyIn Fence.wide n P md ops Q fuel (listed.setIfInBounds i true)) a w := by
  subst hd
  refine wpOpIn_step ho fun K hK => ?_
  simp only [Region.wanted, hg, if_true]
  unfold Oper.wpIn
  refine ⟨fun _ _ => trivial, ?_⟩
  rw [Oper.semAt_plain Fence.wide _ _ (fun c hc' => hpl c hc'), he]
  refine ⟨fun _ => hn, (callsIn_wide.2 h).mono ?_⟩
  rintro e w2 ⟨v, rfl, h2⟩
  exact hK _ _ h2
/-- It yields. -/
theorem any_round {i : Nat} {o : Oper} {l f : Nat} {tms : Array Value} {asg bod : Code} (d : Option Tmp) (ho : ops[i]? = some o) (hd : o.dst = d) (hg : o.guard = none) (hn : 1 ≤ n) (hpl : ∀ c, o.op ≠ .defer c) (he : (execOp a.eval o).run P w = .ok (.round l f tms asg bod) w')
    (h : RoundIn Fence.wide (n - 1) P l f tms asg bod w' fun e w2 => ∃ v, e = .returned v ∧ wpAnyIn Fence.wide n P md ops Q fuel (listed.setIfInBounds i true) (a.put d v) w2) : wpOpIn Fence.wide n P ops Q i (wpAnyIn Fence.wide n P md ops Q fuel (listed.setIfInBounds i true)) a w := by
  subst hd
  refine wpOpIn_step ho fun K hK => ?_
  simp only [Region.wanted, hg, if_true]
  unfold Oper.wpIn
  refine ⟨fun _ _ => trivial, ?_⟩
  rw [Oper.semAt_plain Fence.wide _ _ (fun c hc' => hpl c hc'), he]
  refine ⟨fun _ => hn, h.mono ?_⟩
  rintro e w2 ⟨v, rfl, h2⟩
  exact hK _ _ h2
end
end Go.Proofs.YtdaoingmiabbcaaGreatDoor
namespace Go.Proofs.YtdaoingmiabbcaaGreatDoor
open Go.RowKit Go.Maps Go.Sort Go.Lib Go.Shelf
attribute [local go_sem] Oper.semAt_some

theorem loadIn_put {F : Fence} {n : Nat} {ops : Array Oper} {rest : List Oper} {o : Oper} {a : Act} {w : World} {Q : Exit → Act → World → Prop} (hgd : Region.wanted o (yielded ops a.tmps) = true) (x : Operand) (ho : o.op = .load 72 x) (b p : Nat) (hx : a.eval x = .pointer (some ⟨b, p, none⟩)) (cs : List Value) (hc : w.rangeAt b p cs) (hcs : cs.length = 23)
    (h : wpListIn F n Tryz.prog ops Q rest (a.put o.dst (.agg cs.toArray)) w) : wpListIn F n Tryz.prog ops Q (o :: rest) a w := by
  refine wpInV hgd (by simp [Oper.about, ho]) (fun c hc' => by rw [ho] at hc'; cases hc') ?_ h
  unfold execOp
  simp only [ho, hx, Instr.loadAt, Instr.sureAddr, Sem.run_bind, Sem.run_pure, Result.andThen_ok, run_loadVar_mid w b p 72 cs _ hc Tryz.underlying72 rfl (by rw [hcs]; exact infoPut)]
theorem storeIn_new' {F : Fence} {n : Nat} {ops : Array Oper} {rest : List Oper} {o : Oper} {a : Act} {Q : Exit → Act → World → Prop} (hgd : Region.wanted o (yielded ops a.tmps) = true) (ty : TypeId) (x y : Operand) (ho : o.op = .store ty x y) (w : World) (z cells : Array Value) (N : Nat) (hN : N = w.heap.size) (hx : a.eval x = .pointer (some ⟨N, 0, none⟩)) (hy : a.eval y = .agg cells)
    (hz : z.size = cells.size) (hi : (Tryz.prog.info? ty).map (·.size) = some cells.size) (h1 : cells.all (·.oneCell') = true)
    (h : wpListIn F n Tryz.prog ops Q rest (a.put o.dst undef) (w.alloc (.cells cells ty))) : wpListIn F n Tryz.prog ops Q (o :: rest) a (w.alloc (.cells z ty)) := by
  subst hN
  have ht : (w.alloc (.cells z ty)).there w.heap.size 0 cells.size := by
    intro j hj
    constructor
    · rw [World.cell?_alloc_at _ _ _ _ rfl, Array.getElem?_eq_getElem (by omega)]; rfl
    · rw [frozen?_alloc_cells, frozen_new]
  have hs := run_storeVar_mid (P := Tryz.prog) (w.alloc (.cells z ty)) w.heap.size 0 ty cells ht hi h1
  refine wpInS hgd (by simp [Oper.about, ho]) (fun c hc' => by rw [ho] at hc'; cases hc') ?_ h
  unfold execOp
  simp only [ho, hx, hy, Instr.storeAt, Instr.sureAddr, Sem.run_bind, Sem.run_pure, Result.andThen_ok, hs]
  rw [setCells_new w ty z cells hz]
/-- Lists in order with the same contents are the same. -/
theorem same_in_order {K K' : List Cc} (h : Strict (K.map (·.1))) (h' : Strict (K'.map (·.1))) (hm : ∀ x, x ∈ K ↔ x ∈ K') : K = K' :=
  sorted_same (lt := fun x y : Cc => ltOf cfA x.1 y.1) (fun x => swoA.irrefl x.1) (fun x y z => swoA.trans x.1 y.1 z.1) (List.pairwise_map.1 h) (List.pairwise_map.1 h') hm
/-- What the iterator yields. -/
abbrev encP (x : Cc × Value) : Array Value := #[.agg #[.int .i64 x.1.1.1, .int .i64 x.1.1.2], .agg (x.1.2.cells x.2).toArray]
theorem regIn_noPanic {F : Fence} {n : Nat} {P : Program} {id : Nat} {ops : Array Oper} {b : Bool} {Q : Exit → Act → World → Prop} {a : Act} {w : World} (h : (Code.region id ops b).wpIn F n P (NoPanic Q) a w) : (Code.region id ops b).wpIn F n P Q a w :=
  wpIn_mono h NoPanic.imp
theorem any_take {n : Nat} {P : Program} {md : Region.Mode} {ops : Array Oper} {Q : Exit → Act → World → Prop} {fuel : Nat} {listed : Array Bool} {a : Act} {w : World} {i : Nat} {oi : Oper} (v : Value) (d : Option Tmp) (hi : ops[i]? = some oi) (hd : oi.dst = d) (hs : Region.noSelect ops = true) (hf : Region.free md ops listed i = true) (hr : (Region.ready md ops listed).contains i = true)
    (hQ : ∀ c a w, Q (.panic c) (a.put d v) w → Q (.panic c) a w) (hw : Region.wanted oi (yielded ops a.tmps) = true) (hab : ∀ w, oi.about P w a.eval = none) (hy : ∀ w, (execOp a.eval oi).run P w = .ok (.value v) w)
    (h : wpAnyIn Fence.wide n P md ops Q fuel (listed.setIfInBounds i true) (a.put d v) w) : wpAnyIn Fence.wide n P md ops Q (fuel + 1) listed a w := by
  subst hd
  exact wpAnyIn_take rfl hi hs hf hr hQ ⟨.inl ⟨hw, hy⟩, hab⟩ h
theorem exec_load_row {o : Oper} {ρ : Operand → Value} {w : World} (ty : TypeId) (x : Operand) (ho : o.op = .load ty x) (b p : Nat) (hx : ρ x = .pointer (some ⟨b, p, none⟩)) (cs : List Value) (d : TypeDesc) (hc : w.rangeAt b p cs) (hu : Tryz.prog.underlying ty = some d) (hd : d.isRow = true) (hi : (Tryz.prog.info? ty).map (·.size) = some cs.length) :
    (execOp ρ o).run Tryz.prog w = .ok (.value (.agg cs.toArray)) w := by
  unfold execOp
  simp only [ho, hx, Instr.loadAt, Instr.sureAddr, Sem.run_bind, Sem.run_pure, Result.andThen_ok, run_loadVar_mid w b p ty cs d hc hu hd hi]
/-- How it stands between two rounds. -/
structure InR (W : World) (A b : Nat) (ys : List (Cc × Value)) (Z : Nat → Prop) (wr : World) : Prop where
  nz : ¬ Z b
  rng : ∀ i y, ys[i]? = some y → wr.rangeAt b (i * 23) (ptCells y.1 y.2)
  tree : ∀ y ∈ ys, NdIn wr (fun i => i < A) y.2 y.1.2.t
  size : W.heap.size ≤ wr.heap.size
end Go.Proofs.YtdaoingmiabbcaaGreatDoor
namespace Go.Proofs.YtdaoingmiabbcaaGreatDoor
open Go.RowKit Go.Maps Go.Sort Go.Lib

set_option maxHeartbeats 2000000 in
theorem in_at (g : Nat) (w : World) : Calls Tryz.prog 36 #[.pointer (some ⟨g, 0, none⟩), .agg #[.int .i64 1, .int .i64 1, .int .i64 256, .int .i64 4096]] w fun e w' => ∃ x0 x1, e = .returned (.func (.func 61) #[] #[.pointer (some ⟨x0, 0, none⟩), .pointer (some ⟨x1, 0, none⟩)]) ∧ Blk w' x0 [.pointer (some ⟨g, 0, none⟩)] 29 ∧ Blk w' x1 [.int .i64 1, .int .i64 1, .int .i64 256, .int .i64 4096] 26 ∧ Kp w w' Nul := by
  obtain ⟨W, hW⟩ : ∃ W, (w.alloc (.cells #[.pointer (some ⟨g, 0, none⟩)] 29)).alloc (.cells #[.int .i64 1, .int .i64 1, .int .i64 256, .int .i64 4096] 26) = W := ⟨_, rfl⟩
  have HW : Hid ((w.alloc (.cells #[.pointer (some ⟨g, 0, none⟩)] 29)).alloc (.cells #[.int .i64 1, .int .i64 1, .int .i64 256, .int .i64 4096] 26) = W) := hW
  have HK : Hid (Kp w W Nul) := by show Kp w W Nul; rw [← hW]; exact ((Kp.refl w Nul).alloc _).alloc _
  have HB0 : Hid (Blk W w.heap.size [.pointer (some ⟨g, 0, none⟩)] 29) := by show Blk _ _ _ _; rw [← hW]; exact (Blk.new w [.pointer (some ⟨g, 0, none⟩)] _).alloc _
  have HB1 : Hid (Blk W (w.heap.size + 1) [.int .i64 1, .int .i64 1, .int .i64 256, .int .i64 4096] 26) := by
    have := Blk.new (w.alloc (.cells #[.pointer (some ⟨g, 0, none⟩)] 29)) [.int .i64 1, .int .i64 1, .int .i64 256, .int .i64 4096] 26
    rw [World.size_alloc] at this
    show Blk _ _ _ _
    rw [← hW]; exact this
  clear hW
  go_enter Tryz.func36, Tryz.ntmps36
  go_wp2_with fail
  rw [HW.out]
  go_ret
  exact ⟨_, _, rfl, HB0.out, HB1.out, HK.out⟩
set_option maxHeartbeats 2000000 in
theorem all_at (g : Nat) (w : World) : Calls Tryz.prog 31 #[.pointer (some ⟨g, 0, none⟩)] w fun e w' => ∃ x0 x1, e = .returned (.func (.func 61) #[] #[.pointer (some ⟨x0, 0, none⟩), .pointer (some ⟨x1, 0, none⟩)]) ∧ Blk w' x0 [.pointer (some ⟨g, 0, none⟩)] 29 ∧ Blk w' x1 [.int .i64 1, .int .i64 1, .int .i64 256, .int .i64 4096] 26 ∧ Kp w w' Nul := by
  have H : Hid (Calls Tryz.prog 36 #[.pointer (some ⟨g, 0, none⟩), .agg #[.int .i64 1, .int .i64 1, .int .i64 256, .int .i64 4096]] w fun e w' => ∃ x0 x1, e = .returned (.func (.func 61) #[] #[.pointer (some ⟨x0, 0, none⟩), .pointer (some ⟨x1, 0, none⟩)]) ∧ Blk w' x0 [.pointer (some ⟨g, 0, none⟩)] 29 ∧ Blk w' x1 [.int .i64 1, .int .i64 1, .int .i64 256, .int .i64 4096] 26 ∧ Kp w w' Nul) := in_at g w
  go_enter Tryz.func31, Tryz.ntmps31
  go_wp2_with fail
  refine H.out.mono ?_
  rintro e w1 ⟨x0, x1, rfl, h1, h2, h3⟩
  have HE : Hid (Blk w1 x0 [.pointer (some ⟨g, 0, none⟩)] 29 ∧ Blk w1 x1 [.int .i64 1, .int .i64 1, .int .i64 256, .int .i64 4096] 26 ∧ Kp w w1 Nul) := ⟨h1, h2, h3⟩
  clear h1 h2 h3 H
  go_wp2_with fail
  go_ret
  exact ⟨_, _, rfl, HE.out⟩
/-- What a grid may hold. -/
structure Ok17 (L : List Cc) : Prop where
  gd : ∀ x ∈ L, Gd x.2
  at' : ∀ x ∈ L, vC x.1.1 x.1.2 = true
  len : L.length ≤ 4096
theorem Ok17.nil : Ok17 [] := ⟨fun x h => by simp at h, fun x h => by simp at h, by simp⟩
theorem Ok17.okC {L : List Cc} (h : Ok17 L) : OkC L := fun x hx => ⟨(h.gd x hx).x, (h.gd x hx).ok⟩
theorem Ok17.put {L : List Cc} (h : Ok17 L) (ho : L.Pairwise (fun x y => x.1 ≠ y.1)) {c r : Int} {ct : Ct} (hx : vC c r = true) (hg : Gd ct) (hroom : L.length < 4096 ∨ ∃ c', ((c, r), c') ∈ L) : Ok17 (putL L (c, r) ct) := by
  refine ⟨fun x hx' => ?_, fun x hx' => ?_, ?_⟩
  · rcases (putL_mem x).1 hx' with rfl | h1
    · exact hg
    · exact h.gd x h1.1
  · rcases (putL_mem x).1 hx' with rfl | h1
    · exact hx
    · exact h.at' x h1.1
  · by_cases hin : ∃ c', ((c, r), c') ∈ L
    · rw [putL_in ho hin]; exact h.len
    · have hno : ∀ c', ((c, r), c') ∉ L := fun c' q => hin ⟨c', q⟩
      rw [putL_out hno]
      rcases hroom with h1 | h1
      · omega
      · exact absurd h1 hin
theorem Ok17.del {L : List Cc} (h : Ok17 L) (k : Int × Int) : Ok17 (delL L k) :=
  ⟨fun x hx => h.gd x ((delL_mem x).1 hx).1, fun x hx => h.at' x ((delL_mem x).1 hx).1, Nat.le_trans (List.length_filter_le _ _) h.len⟩
/-- What Put leaves: where it may. -/
structure PutR (L : List Cc) (c r : Int) (ct : Ct) (er : Int) (L' : List Cc) : Prop where
  ok : Ok17 L'
  put : vC c r = true → gv ct = true → ct.k ≠ 0 → (L.length < 4096 ∨ ∃ c', ((c, r), c') ∈ L) → er = 0 ∧ L' = putL L (c, r) (cpC ct)
  del : vC c r = true → gv ct = true → ct.k = 0 → er = 0 ∧ L' = delL L (c, r)
theorem put_any (G : Nat → Prop) (g : Nat) (c r : Int) (ct : Ct) (sl : Value) (F : Nat → Prop) (L : List Cc) (w : World) (hG : GridIn w G g L) (hnew : ∀ i, w.heap.size ≤ i → G i) (hL : Ok17 L) (hok : ct.t.ok) (hx : ct.v.x < 18446744073709551616) (hs : ct.t.size ≤ 1048576) (hin : NdIn w F sl ct.t) (U : VS w) :
    Calls Tryz.prog 26 #[.pointer (some ⟨g, 0, none⟩), .agg #[.int .i64 c, .int .i64 r], ct.val sl] w fun e w' => ∃ er L', e = .returned (.int .i64 er) ∧ GridIn w' G g L' ∧ PutR L c r ct er L' ∧ Km g w w' := by
  have h : GI 0 w g L := GridIn.mono hG (fun _ _ => Nat.zero_le _)
  obtain ⟨mv, bg⟩ := h.blk
  have hval : ∀ V, gv ct = V → ∀ wq, Kp w wq Nul → Calls Tryz.prog 53 #[ct.val sl] wq fun e w' => e = .returned (.bool V) ∧ Kp wq w' Nul := fun V hV wq k => by subst hV; exact gv_at ct sl F wq hok (hin.kp k (fun _ _ x => x)) (U.kp k)
  have hcp : ∀ wq, Kp w wq Nul → Calls Tryz.prog 40 #[ct.val sl] wq fun e w' => ∃ sl' fp, e = .returned ((cpC ct).val sl') ∧ Own w' wq.heap.size sl' (cpC ct).t fp ∧ Kp wq w' Nul := fun wq k => (gCopy_at ct sl F wq hx hs hok (hin.kp k (fun _ _ x => x))).mono (by
    rintro e w' ⟨sl', fp, h1, h2, h3⟩
    exact ⟨sl', fp, h1, h2, Kp.of_below h3⟩)
  have hno : ∀ er w', Kp w w' Nul → (vC c r = true → gv ct = true → False) → ∃ er' L', Ending.returned (.int .i64 er) = .returned (.int .i64 er') ∧ GridIn w' G g L' ∧ PutR L c r ct er' L' ∧ Km g w w' := fun er w' k hf => ⟨er, L, rfl, hG.kp k, ⟨hL, fun h1 h2 => (hf h1 h2).elim, fun h1 h2 => (hf h1 h2).elim⟩, Km.of_nul k bg.lt⟩
  cases hV : gv ct with
  | false =>
    refine (put_no g c r ct sl false w (fun e => by cases e) (hval false hV)).mono ?_
    rintro e w' ⟨rfl, k⟩
    exact hno _ w' k (fun _ h2 => by rw [hV] at h2; cases h2)
  | true =>
    cases hC : vC c r with
    | false =>
      refine (put_no g c r ct sl true w (fun _ => hC) (hval true hV)).mono ?_
      rintro e w' ⟨rfl, k⟩
      exact hno _ w' k (fun h1 _ => by rw [hC] at h1; cases h1)
    | true =>
      by_cases hk : ct.k = 0
      · refine (put_dm G g c r hC ct hk sl L w hG (hval true hV)).mono ?_
        rintro e w' ⟨rfl, h1, h2⟩
        exact ⟨0, _, rfl, h1, ⟨hL.del _, fun _ _ h => absurd hk h, fun _ _ _ => ⟨rfl, rfl⟩⟩, h2⟩
      · by_cases hroom : L.length < 4096 ∨ ∃ c', ((c, r), c') ∈ L
        · refine (put_m G g c r hC ct hk sl L w h hG hnew hL.len hroom (hval true hV) hcp).mono ?_
          rintro e w' ⟨rfl, h1, h2⟩
          exact ⟨0, _, rfl, h1, ⟨hL.put h.once hC (Gd.of hV hk hok hx hs) hroom, fun _ _ _ _ => ⟨rfl, rfl⟩, fun _ _ h => absurd h hk⟩, h2⟩
        · have hfull : 4096 ≤ L.length := by
            rcases Nat.lt_or_ge L.length 4096 with q | q
            · exact absurd (.inl q) hroom
            · exact q
          refine (put_full 0 g c r hC ct hk sl L w h hfull (fun c' q => hroom (.inr ⟨c', q⟩)) (hval true hV)).mono ?_
          rintro e w' ⟨rfl, k⟩
          exact ⟨41, L, rfl, hG.kp k, ⟨hL, fun _ _ _ q => absurd q hroom, fun _ _ q => absurd q hk⟩, Km.of_nul k bg.lt⟩
end Go.Proofs.YtdaoingmiabbcaaGreatDoor
namespace Go.Proofs.YtdaoingmiabbcaaGreatDoor
open Go.RowKit Go.Maps Go.Sort Go.Lib

/-- What pick tells. -/
def pkf (c m : Int) : Nat := if c < 0 then ((-(c + 1)) % m).toNat else (c % m).toNat
theorem pkf_val (c m : Int) (h1 : 1 ≤ m) : (pkf c m : Int) = (if c < 0 then (-(c + 1)) % m else c % m) ∧ (pkf c m : Int) < m := by
  have hm0 : m ≠ 0 := by omega
  unfold pkf
  by_cases h : c < 0
  · have e1 := Int.emod_nonneg (-(c + 1)) hm0
    have e2 := Int.emod_lt_of_pos (-(c + 1)) (b := m) (by omega)
    rw [if_pos h, if_pos h]; omega
  · have e1 := Int.emod_nonneg c hm0
    have e2 := Int.emod_lt_of_pos c (b := m) (by omega)
    rw [if_neg h, if_neg h]; omega
section
variable {α : Type}
end
end Go.Proofs.YtdaoingmiabbcaaGreatDoor
namespace Go.Proofs.YtdaoingmiabbcaaGreatDoor
open Go.RowKit Go.Maps Go.Sort Go.Lib

/-- A put's cell and its content. -/
theorem pt_parts {w : World} {b o : Nat} {c s : Int} {a : Ct} {sa : Value} (h : w.rangeAt b o (ptCells ((c, s), a) sa)) : w.rangeAt b o [.int .i64 c, .int .i64 s] ∧ w.rangeAt b (o + 2) (a.cells sa) := by
  refine ⟨fun j v hj => h j v ?_, fun j v hj => ?_⟩
  · match j, hj with
    | 0, hj => exact hj
    | 1, hj => exact hj
  · have := h (2 + j) v (by rw [Nat.add_comm 2 j]; exact hj)
    rw [← Nat.add_assoc] at this
    exact this
/-- A list of puts that is handed in. -/
structure PutsIn (w : World) (v : Value) (xs : List (Cc × Value)) : Prop where
  sl : ∃ a c, v = .slice a xs.length c ∧ (0 < xs.length → ∃ b o, a = some ⟨b, o, none⟩ ∧ ∀ (i : Nat) y, xs[i]? = some y → w.rangeAt b (o + i * 23) (ptCells y.1 y.2))
  len : xs.length ≤ maxLen
  cn : ∀ y ∈ xs, Cn w y.1.2 y.2
end Go.Proofs.YtdaoingmiabbcaaGreatDoor
namespace Go.Proofs.YtdaoingmiabbcaaGreatDoor
open Go.RowKit Go.Maps Go.Sort Go.Lib Go.Shelf

/-- A variable of one cell gets another value, in a fence. -/
theorem storeIn_var {F : Fence} {n : Nat} {ops : Array Oper} {rest : List Oper} {o : Oper} {a : Act} {w : World} {Q : Exit → Act → World → Prop} (hgd : Region.wanted o (yielded ops a.tmps) = true) (ty : TypeId) (x y : Operand) (ho : o.op = .store ty x y)
    (b : Nat) (hx : a.eval x = .pointer (some ⟨b, 0, none⟩)) (v : Value) (hy : a.eval y = v) (h1 : v.oneCell' = true) (t : TypeId) (old : Value) (hb : Blk w b [old] t) (hi : (Tryz.prog.info? ty).map (·.size) = some 1)
    (h : ∀ W, Blk W b [v] t → Kp w W (fun i => i = b) → wpListIn F n Tryz.prog ops Q rest (a.put o.dst undef) W) : wpListIn F n Tryz.prog ops Q (o :: rest) a w := by
  subst hy
  refine wpInS hgd (by simp [Oper.about, ho]) (fun c hc' => by rw [ho] at hc'; cases hc') (w' := w.setRow b #[a.eval y]) ?_ (h _ (setRow_heap w b #[old] #[a.eval y] t (0, 0) hb) ?_)
  · unfold execOp
    simp only [ho, hx, Instr.storeAt, Instr.sureAddr, Sem.run_bind, Sem.run_pure, Result.andThen_ok, run_storeVar_one w b t ty old _ hb hi h1]
  · refine ⟨rfl, rfl, rfl, ?_, fun i _ hn => ?_⟩
    · unfold World.setRow; simp
    · unfold World.setRow
      simp only [Array.getElem?_modify]
      rw [if_neg (fun e => hn e.symm)]
/-- A grid's contents, in order. -/
theorem in_order {L : List Cc} (h : L.Pairwise (fun x y => x.1 ≠ y.1)) : ∃ K : List Cc, Strict (K.map (·.1)) ∧ ∀ x, x ∈ K ↔ x ∈ L := by
  refine ⟨L.mergeSort (fun x y => !(ltOf cfA) y.1 x.1), ?_, fun x => List.mem_mergeSort⟩
  rw [List.map_mergeSort (s := fun x y => !(ltOf cfA) y x) (fun a _ b _ => rfl)]
  exact merge_strict (List.pairwise_map.2 h)
end Go.Proofs.YtdaoingmiabbcaaGreatDoor
namespace Go.Proofs.YtdaoingmiabbcaaGreatDoor
open Go.RowKit Go.Maps Go.Sort Go.Lib Go.Shelf
attribute [local go_sem] Oper.semAt_some

/-- What the iterator yields: a content, with the blocks of its tree. -/
abbrev encQ (x : (Cc × Value) × List Nat) : Array Value := encP x.1
/-- What the round may write besides. -/
abbrev wtQ (x : (Cc × Value) × List Nat) : Nat → Prop := fun i => i ∈ x.2
def TellQ (w : World) (K : List Cc) (k : Nat) (x : (Cc × Value) × List Nat) (Z : Nat → Prop) (W : World) : Prop := K[k]? = some x.1.1 ∧ NdOwn W x.1.2 x.1.1.2.t x.2 ∧ x.2.Nodup ∧ ∀ i ∈ x.2, w.heap.size + 2 ≤ i ∧ ¬ Z i
set_option maxRecDepth 100000 in
set_option maxHeartbeats 16000000 in
theorem in1_seq2 (g x0 x1 A : Nat) (L K : List Cc) (w : World) (S : Nat → Prop) (hg : GI 0 w g L) (hF : GridIn w (fun b => b < A) g L) (gL : ∀ x ∈ L, Gd x.2) (hv : ∀ x ∈ L, vC x.1.1 x.1.2 = true) (lL : L.length ≤ 4096)
    (hK : Strict (K.map (·.1))) (hKL : ∀ x, x ∈ K ↔ x ∈ L) (hA : A ≤ w.heap.size) (hS : ∀ i, S i → A ≤ i) (b0 : Blk w x0 [.pointer (some ⟨g, 0, none⟩)] 29) (b1 : Blk w x1 [.int .i64 1, .int .i64 1, .int .i64 256, .int .i64 4096] 26) :
    SeqOw2 Tryz.prog 61 #[.pointer (some ⟨x0, 0, none⟩), .pointer (some ⟨x1, 0, none⟩)] encQ wtQ (TellQ w K) K.length S w := by
  intro J Z W hkw hsz hJ hJz hY hj0
  have c0 : W.cell? ⟨x0, 0, none⟩ = some (.pointer (some ⟨g, 0, none⟩)) := (b0.kp hkw (fun x => x)).cell rfl
  have d0 : W.cell? ⟨x1, 0, none⟩ = some (.int .i64 1) := (b1.kp hkw (fun x => x)).cell rfl
  have d1 : W.cell? ⟨x1, 1, none⟩ = some (.int .i64 1) := (b1.kp hkw (fun x => x)).cell rfl
  have d2 : W.cell? ⟨x1, 2, none⟩ = some (.int .i64 256) := (b1.kp hkw (fun x => x)).cell rfl
  have d3 : W.cell? ⟨x1, 3, none⟩ = some (.int .i64 4096) := (b1.kp hkw (fun x => x)).cell rfl
  have HWi : Hid (Calls Tryz.prog 62 #[.pointer (some ⟨g, 0, none⟩), .agg #[.int .i64 1, .int .i64 1, .int .i64 256, .int .i64 4096]] W fun e w' => ∃ b ys, e = .returned (.slice (some ⟨b, 0, none⟩) ys.length ys.length) ∧ WiR W w' (fun b => b < A) L b ys) := within_at g _ L W (hg.kp hkw) (hF.kp hkw) gL hv lL
  have HSZ : Hid (w.heap.size + 2 ≤ W.heap.size) := hsz
  have HJ : Hid (∀ k Z W W', J k Z W → Kp W W' Nul → J k Z W') := hJ
  have HJZ : Hid (∀ k Z W, J k Z W → (∀ i, Z i → i < W.heap.size) ∧ ∀ i, i < w.heap.size → Z i → S i) := hJz
  have HY : Hid (∀ m k x Z W1, k < K.length → J k Z W1 → TellQ w K k x Z W1 → YieldAt Fence.wide m Tryz.prog (w.heap.size + 1) (encQ x) W1 fun e W' => e = .returned (.bool true) ∧ (∃ Z', J (k + 1) Z' W' ∧ More Z Z' W1) ∧ Kp W1 W' (fun i => (Z i ∨ wtQ x i) ∨ i = w.heap.size + 1)) := hY
  have HJ0 : Hid (J 0 Z W) := hj0
  have HGd : Hid (∀ x ∈ L, Gd x.2) := gL
  have HA : Hid (A ≤ w.heap.size) := hA
  have HS : Hid (∀ i, S i → A ≤ i) := hS
  have HKK : Hid (∀ ys : List (Cc × Value), Strict (ys.map (·.1.1)) → (∀ x, x ∈ ys.map (·.1) ↔ x ∈ L) → ys.map (·.1) = K) := fun ys h1 h2 => same_in_order (by rw [List.map_map]; exact h1) hK (fun x => (h2 x).trans (hKL x).symm)
  have HLK : Hid (K.length ≤ 4096) := by
    have hnd : (K.map (·.1)).Nodup := strict_nodup hK
    have := nodup_le _ (L.map (·.1)) hnd (fun x hx => by
      obtain ⟨y, hy, rfl⟩ := List.mem_map.1 hx
      exact List.mem_map.2 ⟨y, (hKL y).1 hy, rfl⟩)
    rw [List.length_map, List.length_map] at this
    show _ ≤ _; omega
  clear hkw hsz hJ hJz hY hj0 hg hF gL hv lL hK hKL hA hS b0 b1
  simp only [List.append_toArray, List.cons_append, List.nil_append]
  refine (callsIn_wide (n := 8)).1 ?_
  refine callsIn_of_wp Tryz.func61 rfl trivial ?_ rfl
  simp only [Tryz.ntmps61, List.size_toArray, List.length_cons, List.length_nil, Nat.reduceAdd, Nat.reduceSub, Array.replicate_succ, Array.replicate_zero, List.push_toArray, List.append_toArray, List.nil_append, List.cons_append]
  gi_wp2_with (fail)
  refine ⟨trivial, (callsIn_wide.2 HWi.out).mono ?_⟩
  rintro e w2 ⟨b, ys, rfl, hwi⟩
  have HW2 : Hid (WiR W w2 (fun b => b < A) L b ys) := hwi
  have HYK : Hid (ys.map (·.1) = K) := HKK.out ys hwi.strict hwi.mem
  have hlen : ys.length = K.length := by rw [← HYK.out, List.length_map]
  clear hwi c0 d0 d1 d2 d3 HKK
  rw [hlen]
  generalize hn : K.length = n at *
  have HLEN : Hid (ys.length = n) := hlen
  have HN : Hid (K.length = n) := hn
  clear hn hlen
  gi_wp2_with (fail)
  gi_loopw [12] (fun i wr => ∃ (q : Nat) (Z : Nat → Prop), q ≤ n ∧ i = .int .i64 q ∧ J q Z wr ∧ InR W A b ys Z wr) (fun i _ => n - (RowKit.intOf i).toNat)
  case atStart =>
    refine ⟨0, Z, Nat.zero_le _, rfl, HJ.out _ _ _ _ HJ0.out HW2.out.kp, ?_⟩
    exact ⟨fun h => by have h1 := (HJZ.out _ _ _ HJ0.out).1 b h; have h2 := HW2.out.low; omega, HW2.out.rng, HW2.out.tree, HW2.out.kp.size⟩
  case round =>
    obtain ⟨q, Zq, hq, rfl, hjq, hin⟩ := hrel
    have HJQ : Hid (J q Zq wr) := hjq
    have HIN : Hid (InR W A b ys Zq wr) := hin
    clear hjq hin
    by_cases hlt : q < n
    · have hqt : q < ys.length := by rw [HLEN.out]; exact hlt
      obtain ⟨⟨⟨⟨c, s⟩, a⟩, sa⟩, hys⟩ : ∃ y, ys[q] = y := ⟨_, rfl⟩
      have hget : ys[q]? = some (((c, s), a), sa) := by rw [List.getElem?_eq_getElem hqt, hys]
      have HR : Hid (wr.rangeAt b (q * 23) (ptCells ((c, s), a) sa)) := HIN.out.rng q _ hget
      have htree : NdIn wr (fun i => i < A) sa a.t := HIN.out.tree _ (List.mem_of_getElem? hget)
      have O1 : Hid (sa.oneCell' = true) := htree.one
      have hKq : K[q]? = some ((c, s), a) := by rw [← HYK.out, List.getElem?_map, hget]; rfl
      have HKQ : Hid (K[q]? = some ((c, s), a)) := hKq
      have hgd : Gd a := HGd.out _ ((HW2.out.mem _).1 (List.mem_map.2 ⟨_, List.mem_of_getElem? hget, rfl⟩))
      have hbl : b < wr.heap.size := rangeAt_lt HR.out
      have HBL : Hid (b < wr.heap.size) := hbl
      have B5 : Blk (wr.alloc (.cells (ptCells ((c, s), a) sa).toArray 72)) wr.heap.size (ptCells ((c, s), a) sa) 72 := Blk.new wr _ _
      have HAt : Hid (∀ wq, Kp (wr.alloc (.cells (ptCells ((c, s), a) sa).toArray 72)) wq Nul → wq.rangeAt wr.heap.size 0 [.int .i64 c, .int .i64 s]) := fun wq k j v hj => by
        match j, hj with
        | 0, hj => cases hj; exact (B5.kp k (fun x => x)).cell rfl
        | 1, hj => cases hj; exact (B5.kp k (fun x => x)).cell rfl
      have HCo : Hid (∀ wq, Kp (wr.alloc (.cells (ptCells ((c, s), a) sa).toArray 72)) wq Nul → wq.rangeAt wr.heap.size 2 (a.cells sa)) := fun wq k j v hj => by
        refine (B5.kp k (fun x => x)).cell ?_
        show (ptCells ((c, s), a) sa)[2 + j]? = some v
        rw [Nat.add_comm 2 j]; exact hj
      have HCp : Hid (∀ wq, Kp (wr.alloc (.cells (ptCells ((c, s), a) sa).toArray 72)) wq Nul → Calls Tryz.prog 40 #[.agg (a.cells sa).toArray] wq fun e w' => ∃ sl', e = .returned (.agg (a.cells sl').toArray) ∧ (∃ fp, Own w' wq.heap.size sl' a.t fp) ∧ Kp wq w' Nul) := fun wq k => by
        have hk : Kp wr wq Nul := ((Kp.refl wr Nul).alloc _).trans k
        refine (gCopy_at a sa (fun i => i < A) wq hgd.x hgd.size hgd.ok (htree.kp hk (fun _ _ x => x))).mono ?_
        rintro e w' ⟨sl', fp, rfl, h1, h2⟩
        rw [hgd.cp] at h1 ⊢
        exact ⟨sl', rfl, ⟨fp, h1⟩, Kp.of_below h2⟩
      have hkb : (q : Int) + 1 ≤ 9223372036854775807 := by have := HLK.out; omega
      have hq0 : (0 : Int) ≤ (q : Int) := by omega
      have hqn : (q : Int) < (n : Int) := by omega
      clear hqt hys hget htree hKq hgd hbl B5
      gi_wp2_with (first
        | (refine loadIn_put rfl (.tmp 14) rfl b (q * 23) rfl (ptCells ((c, s), a) sa) HR.out rfl ?_)
        | (refine storeIn_new' rfl 72 (.tmp 5) (.tmp 15) rfl _ _ _ _ (by first | rfl | simp) rfl rfl rfl infoPut (all_oneCell_toArray (pt_one _ O1.out)) ?_)
        | fail)
      refine regIn_noPanic ?_
      refine wpIn_region_any (by kernel_rfl) ?_
      refine any_take (i := 0) (.func (.yield (w.heap.size + 1)) #[] #[]) (some 16) rfl rfl (by kernel_rfl) (by kernel_rfl) (by kernel_rfl) (fun _ _ _ h => h) rfl (fun _ => rfl) (fun _ => by go_simp) ?_
      simp only [Act.put, List.setIfInBounds_toArray, List.set_cons_zero, List.set_cons_succ]
      refine any_take (i := 1) (.pointer (some ⟨wr.heap.size, 0, none⟩)) (some 17) rfl rfl (by kernel_rfl) (by kernel_rfl) (by kernel_rfl) (fun _ _ _ h => h) rfl (fun _ => rfl) (fun _ => by go_simp) ?_
      simp only [Act.put, List.setIfInBounds_toArray, List.set_cons_zero, List.set_cons_succ]
      refine any_take (i := 3) (.pointer (some ⟨wr.heap.size, 2, none⟩)) (some 19) rfl rfl (by kernel_rfl) (by kernel_rfl) (by kernel_rfl) (fun _ _ _ h => h) rfl (fun _ => rfl) (fun _ => by go_simp) ?_
      simp only [Act.put, List.setIfInBounds_toArray, List.set_cons_zero, List.set_cons_succ]
      refine wpAnyIn_ready (rs := [2, 4]) (by kernel_rfl) (by simp) ?_
      intro i hi
      rcases List.mem_cons.1 hi with rfl | hi
      · clear hi
        refine any_val (v := .agg #[.int .i64 c, .int .i64 s]) (some 18) rfl rfl rfl rfl (fun c h => by cases h) (w' := (wr.alloc (.cells (ptCells ((c, s), a) sa).toArray 72)).drew) (exec_load_row 24 (.tmp 17) rfl wr.heap.size 0 rfl [.int .i64 c, .int .i64 s] _ (HAt.out (wr.alloc (.cells (ptCells ((c, s), a) sa).toArray 72)).drew ((Kp.refl _ _).drew)) Tryz.underlying24 rfl infoAddr2) ?_
        simp only [Act.put, List.setIfInBounds_toArray, List.set_cons_zero, List.set_cons_succ]
        refine wpAnyIn_ready (rs := [4]) (by kernel_rfl) (by simp) ?_
        intro i hi
        obtain rfl := List.mem_singleton.1 hi
        clear hi
        refine any_val (v := .agg (a.cells sa).toArray) (some 20) rfl rfl rfl rfl (fun c h => by cases h) (w' := (wr.alloc (.cells (ptCells ((c, s), a) sa).toArray 72)).drew) (exec_load_row 51 (.tmp 19) rfl wr.heap.size 2 rfl (a.cells sa) _ (HCo.out _ ((Kp.refl _ _).drew)) Tryz.underlying51 rfl infoContent) ?_
        simp only [Act.put, List.setIfInBounds_toArray, List.set_cons_zero, List.set_cons_succ]
        refine wpAnyIn_ready (rs := [5]) (by kernel_rfl) (by simp) ?_
        intro i hi
        obtain rfl := List.mem_singleton.1 hi
        clear hi
        refine any_call (f := 40) (args := #[.agg (a.cells sa).toArray]) (some 21) rfl rfl rfl (by decide) (fun c h => by cases h) (w' := (wr.alloc (.cells (ptCells ((c, s), a) sa).toArray 72)).drew) (by go_simp) ?_
        refine (HCp.out _ ((Kp.refl _ _).drew)).mono ?_
        rintro e w4 ⟨s4, rfl, ⟨f4, ho4⟩, hk4⟩
        refine ⟨_, rfl, ?_⟩
        simp only [Act.put, List.setIfInBounds_toArray, List.set_cons_zero, List.set_cons_succ]
        refine wpAnyIn_ready (rs := [6]) (by kernel_rfl) (by simp) ?_
        intro i hi
        obtain rfl := List.mem_singleton.1 hi
        clear hi
        have hK4 : Kp wr w4 Nul := ((Kp.refl wr Nul).alloc _).drew.trans hk4
        have hs5 : (wr.alloc (.cells (ptCells ((c, s), a) sa).toArray 72)).drew.heap.size = wr.heap.size + 1 := World.size_alloc _ _
        obtain ⟨fn, tms, asg, bod, hy, hR⟩ := HY.out 7 q ((((c, s), a), s4), f4) Zq w4 hlt (HJ.out _ _ _ _ HJQ.out hK4) ⟨HKQ.out, ho4.own, ho4.nodup, fun i hi => by
          have h1 := (ho4.new i hi).1
          have h2 := HSZ.out
          have h3 := HIN.out.size
          exact ⟨by omega, fun hz => by have := (HJZ.out _ _ _ HJQ.out).1 i hz; omega⟩⟩
        refine any_round (l := w.heap.size + 1) (f := fn) (tms := tms) (asg := asg) (bod := bod) (some 22) rfl rfl rfl (by decide) (fun c h => by cases h) (w' := w4) ?_ ?_
        · first
          | (go_simp; done)
          | (go_simp; exact hy)
        refine hR.mono ?_
        rintro e w6 ⟨rfl, ⟨Z6, hj6, hm6⟩, hk6⟩
        refine ⟨_, rfl, ?_⟩
        simp only [Act.put, List.setIfInBounds_toArray, List.set_cons_zero, List.set_cons_succ]
        have HJ6 : Hid (J (q + 1) Z6 w6) := hj6
        have HIN6 : Hid (InR W A b ys Z6 w6) := by
          have k6 : Kp wr w6 (fun i => (Zq i ∨ i ∈ f4) ∨ i = w.heap.size + 1) := hK4.of_nul.trans hk6
          have hbl := HBL.out
          have hb2 := HW2.out.low
          have hb3 := HSZ.out
          refine ⟨fun hz => ?_, fun i y hy => rangeAt_kp (HIN.out.rng i y hy) k6 (fun e => ?_), fun y hy => (HIN.out.tree y hy).kp k6 (fun i hi e => ?_), Nat.le_trans HIN.out.size k6.size⟩
          · rcases hm6 b hz with h | h
            · exact HIN.out.nz h
            · have h1 := HBL.out
              have h2 := hK4.size
              omega
          · rcases e with (e | e) | e
            · exact HIN.out.nz e
            · have := (ho4.new _ e).1; omega
            · omega
          · have hi' : i < A := hi
            have h1 := HA.out
            rcases e with (e | e) | e
            · have := HS.out i ((HJZ.out _ _ _ HJQ.out).2 i (by omega) e)
              omega
            · have := (ho4.new _ e).1; have := HIN.out.size; omega
            · omega
        clear hy hR hj6 hm6 hk6 hk4 ho4 hK4 hs5
        refine wpAnyIn_ready (rs := [7]) (by kernel_rfl) (by simp) ?_
        intro i hi
        obtain rfl := List.mem_singleton.1 hi
        clear hi
        refine any_val (v := .bool false) (some 23) rfl rfl rfl rfl (fun c h => by cases h) (w' := w6) (by go_simp) ?_
        simp only [Act.put, List.setIfInBounds_toArray, List.set_cons_zero, List.set_cons_succ]
        refine wpAnyIn_done (by kernel_rfl) ?_ _
        refine NoPanic.normal ?_
        gi_wp2_with (fail)
        exact ⟨⟨q + 1, Z6, by omega, by go_num, HJ6.out, HIN6.out⟩, by simp only [RowKit.intOf]; omega⟩
      · obtain rfl := List.mem_singleton.1 hi
        clear hi
        refine any_val (v := .agg (a.cells sa).toArray) (some 20) rfl rfl rfl rfl (fun c h => by cases h) (w' := (wr.alloc (.cells (ptCells ((c, s), a) sa).toArray 72)).drew) (exec_load_row 51 (.tmp 19) rfl wr.heap.size 2 rfl (a.cells sa) _ (HCo.out _ ((Kp.refl _ _).drew)) Tryz.underlying51 rfl infoContent) ?_
        simp only [Act.put, List.setIfInBounds_toArray, List.set_cons_zero, List.set_cons_succ]
        refine wpAnyIn_ready (rs := [2, 5]) (by kernel_rfl) (by simp) ?_
        intro i hi
        rcases List.mem_cons.1 hi with rfl | hi
        · clear hi
          refine any_val (v := .agg #[.int .i64 c, .int .i64 s]) (some 18) rfl rfl rfl rfl (fun c h => by cases h) (w' := (wr.alloc (.cells (ptCells ((c, s), a) sa).toArray 72)).drew) (exec_load_row 24 (.tmp 17) rfl wr.heap.size 0 rfl [.int .i64 c, .int .i64 s] _ (HAt.out (wr.alloc (.cells (ptCells ((c, s), a) sa).toArray 72)).drew ((Kp.refl _ _).drew)) Tryz.underlying24 rfl infoAddr2) ?_
          simp only [Act.put, List.setIfInBounds_toArray, List.set_cons_zero, List.set_cons_succ]
          refine wpAnyIn_ready (rs := [5]) (by kernel_rfl) (by simp) ?_
          intro i hi
          obtain rfl := List.mem_singleton.1 hi
          clear hi
          refine any_call (f := 40) (args := #[.agg (a.cells sa).toArray]) (some 21) rfl rfl rfl (by decide) (fun c h => by cases h) (w' := (wr.alloc (.cells (ptCells ((c, s), a) sa).toArray 72)).drew) (by go_simp) ?_
          refine (HCp.out _ ((Kp.refl _ _).drew)).mono ?_
          rintro e w4 ⟨s4, rfl, ⟨f4, ho4⟩, hk4⟩
          refine ⟨_, rfl, ?_⟩
          simp only [Act.put, List.setIfInBounds_toArray, List.set_cons_zero, List.set_cons_succ]
          refine wpAnyIn_ready (rs := [6]) (by kernel_rfl) (by simp) ?_
          intro i hi
          obtain rfl := List.mem_singleton.1 hi
          clear hi
          have hK4 : Kp wr w4 Nul := ((Kp.refl wr Nul).alloc _).drew.trans hk4
          have hs5 : (wr.alloc (.cells (ptCells ((c, s), a) sa).toArray 72)).drew.heap.size = wr.heap.size + 1 := World.size_alloc _ _
          obtain ⟨fn, tms, asg, bod, hy, hR⟩ := HY.out 7 q ((((c, s), a), s4), f4) Zq w4 hlt (HJ.out _ _ _ _ HJQ.out hK4) ⟨HKQ.out, ho4.own, ho4.nodup, fun i hi => by
            have h1 := (ho4.new i hi).1
            have h2 := HSZ.out
            have h3 := HIN.out.size
            exact ⟨by omega, fun hz => by have := (HJZ.out _ _ _ HJQ.out).1 i hz; omega⟩⟩
          refine any_round (l := w.heap.size + 1) (f := fn) (tms := tms) (asg := asg) (bod := bod) (some 22) rfl rfl rfl (by decide) (fun c h => by cases h) (w' := w4) ?_ ?_
          · first
            | (go_simp; done)
            | (go_simp; exact hy)
          refine hR.mono ?_
          rintro e w6 ⟨rfl, ⟨Z6, hj6, hm6⟩, hk6⟩
          refine ⟨_, rfl, ?_⟩
          simp only [Act.put, List.setIfInBounds_toArray, List.set_cons_zero, List.set_cons_succ]
          have HJ6 : Hid (J (q + 1) Z6 w6) := hj6
          have HIN6 : Hid (InR W A b ys Z6 w6) := by
            have k6 : Kp wr w6 (fun i => (Zq i ∨ i ∈ f4) ∨ i = w.heap.size + 1) := hK4.of_nul.trans hk6
            have hbl := HBL.out
            have hb2 := HW2.out.low
            have hb3 := HSZ.out
            refine ⟨fun hz => ?_, fun i y hy => rangeAt_kp (HIN.out.rng i y hy) k6 (fun e => ?_), fun y hy => (HIN.out.tree y hy).kp k6 (fun i hi e => ?_), Nat.le_trans HIN.out.size k6.size⟩
            · rcases hm6 b hz with h | h
              · exact HIN.out.nz h
              · have h1 := HBL.out
                have h2 := hK4.size
                omega
            · rcases e with (e | e) | e
              · exact HIN.out.nz e
              · have := (ho4.new _ e).1; omega
              · omega
            · have hi' : i < A := hi
              have h1 := HA.out
              rcases e with (e | e) | e
              · have := HS.out i ((HJZ.out _ _ _ HJQ.out).2 i (by omega) e)
                omega
              · have := (ho4.new _ e).1; have := HIN.out.size; omega
              · omega
          clear hy hR hj6 hm6 hk6 hk4 ho4 hK4 hs5
          refine wpAnyIn_ready (rs := [7]) (by kernel_rfl) (by simp) ?_
          intro i hi
          obtain rfl := List.mem_singleton.1 hi
          clear hi
          refine any_val (v := .bool false) (some 23) rfl rfl rfl rfl (fun c h => by cases h) (w' := w6) (by go_simp) ?_
          simp only [Act.put, List.setIfInBounds_toArray, List.set_cons_zero, List.set_cons_succ]
          refine wpAnyIn_done (by kernel_rfl) ?_ _
          refine NoPanic.normal ?_
          gi_wp2_with (fail)
          exact ⟨⟨q + 1, Z6, by omega, by go_num, HJ6.out, HIN6.out⟩, by simp only [RowKit.intOf]; omega⟩
        · obtain rfl := List.mem_singleton.1 hi
          clear hi
          refine any_call (f := 40) (args := #[.agg (a.cells sa).toArray]) (some 21) rfl rfl rfl (by decide) (fun c h => by cases h) (w' := (wr.alloc (.cells (ptCells ((c, s), a) sa).toArray 72)).drew) (by go_simp) ?_
          refine (HCp.out _ ((Kp.refl _ _).drew)).mono ?_
          rintro e w4 ⟨s4, rfl, ⟨f4, ho4⟩, hk4⟩
          refine ⟨_, rfl, ?_⟩
          simp only [Act.put, List.setIfInBounds_toArray, List.set_cons_zero, List.set_cons_succ]
          refine wpAnyIn_ready (rs := [2]) (by kernel_rfl) (by simp) ?_
          intro i hi
          obtain rfl := List.mem_singleton.1 hi
          clear hi
          refine any_val (v := .agg #[.int .i64 c, .int .i64 s]) (some 18) rfl rfl rfl rfl (fun c h => by cases h) (w' := w4) (exec_load_row 24 (.tmp 17) rfl wr.heap.size 0 rfl [.int .i64 c, .int .i64 s] _ (HAt.out w4 (((Kp.refl _ _).drew).trans hk4)) Tryz.underlying24 rfl infoAddr2) ?_
          simp only [Act.put, List.setIfInBounds_toArray, List.set_cons_zero, List.set_cons_succ]
          refine wpAnyIn_ready (rs := [6]) (by kernel_rfl) (by simp) ?_
          intro i hi
          obtain rfl := List.mem_singleton.1 hi
          clear hi
          have hK4 : Kp wr w4 Nul := ((Kp.refl wr Nul).alloc _).drew.trans hk4
          have hs5 : (wr.alloc (.cells (ptCells ((c, s), a) sa).toArray 72)).drew.heap.size = wr.heap.size + 1 := World.size_alloc _ _
          obtain ⟨fn, tms, asg, bod, hy, hR⟩ := HY.out 7 q ((((c, s), a), s4), f4) Zq w4 hlt (HJ.out _ _ _ _ HJQ.out hK4) ⟨HKQ.out, ho4.own, ho4.nodup, fun i hi => by
            have h1 := (ho4.new i hi).1
            have h2 := HSZ.out
            have h3 := HIN.out.size
            exact ⟨by omega, fun hz => by have := (HJZ.out _ _ _ HJQ.out).1 i hz; omega⟩⟩
          refine any_round (l := w.heap.size + 1) (f := fn) (tms := tms) (asg := asg) (bod := bod) (some 22) rfl rfl rfl (by decide) (fun c h => by cases h) (w' := w4) ?_ ?_
          · first
            | (go_simp; done)
            | (go_simp; exact hy)
          refine hR.mono ?_
          rintro e w6 ⟨rfl, ⟨Z6, hj6, hm6⟩, hk6⟩
          refine ⟨_, rfl, ?_⟩
          simp only [Act.put, List.setIfInBounds_toArray, List.set_cons_zero, List.set_cons_succ]
          have HJ6 : Hid (J (q + 1) Z6 w6) := hj6
          have HIN6 : Hid (InR W A b ys Z6 w6) := by
            have k6 : Kp wr w6 (fun i => (Zq i ∨ i ∈ f4) ∨ i = w.heap.size + 1) := hK4.of_nul.trans hk6
            have hbl := HBL.out
            have hb2 := HW2.out.low
            have hb3 := HSZ.out
            refine ⟨fun hz => ?_, fun i y hy => rangeAt_kp (HIN.out.rng i y hy) k6 (fun e => ?_), fun y hy => (HIN.out.tree y hy).kp k6 (fun i hi e => ?_), Nat.le_trans HIN.out.size k6.size⟩
            · rcases hm6 b hz with h | h
              · exact HIN.out.nz h
              · have h1 := HBL.out
                have h2 := hK4.size
                omega
            · rcases e with (e | e) | e
              · exact HIN.out.nz e
              · have := (ho4.new _ e).1; omega
              · omega
            · have hi' : i < A := hi
              have h1 := HA.out
              rcases e with (e | e) | e
              · have := HS.out i ((HJZ.out _ _ _ HJQ.out).2 i (by omega) e)
                omega
              · have := (ho4.new _ e).1; have := HIN.out.size; omega
              · omega
          clear hy hR hj6 hm6 hk6 hk4 ho4 hK4 hs5
          refine wpAnyIn_ready (rs := [7]) (by kernel_rfl) (by simp) ?_
          intro i hi
          obtain rfl := List.mem_singleton.1 hi
          clear hi
          refine any_val (v := .bool false) (some 23) rfl rfl rfl rfl (fun c h => by cases h) (w' := w6) (by go_simp) ?_
          simp only [Act.put, List.setIfInBounds_toArray, List.set_cons_zero, List.set_cons_succ]
          refine wpAnyIn_done (by kernel_rfl) ?_ _
          refine NoPanic.normal ?_
          gi_wp2_with (fail)
          exact ⟨⟨q + 1, Z6, by omega, by go_num, HJ6.out, HIN6.out⟩, by simp only [RowKit.intOf]; omega⟩
    · have hqe : q = n := by omega
      subst hqe
      have hqn : ¬ ((q : Int) < (q : Int)) := by omega
      have HJN : Hid (∃ Z', J q Z' wr) := ⟨_, HJQ.out⟩
      gi_wp2_with (fail)
      go_end0
      exact ⟨⟨_, rfl⟩, by rw [HN.out]; exact HJN.out⟩
end Go.Proofs.YtdaoingmiabbcaaGreatDoor
