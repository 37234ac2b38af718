/- formula.Nodes, the law's nodes; what goes over a formula's nodes. What goes over a formula's nodes (Nodes' own function) tells them in order, each without its parts. The law's faults. The law's lost: faults of all formulas of a grid. Grid.In's own function, for rounds that may leave by return: wip/move/Mvj, by wip/gen_ow3.py. The law's low: has an area of a formula of a grid one of the last lines? Move: MoveBack, plain: grids whose lines were put in and taken out. No function of the program here. MoveThere, plain: where a move's cells come to; there .. -/
import Derived.Test.YtdaoingmiabbcaaGreatDoorVIh
import Derived.Test.YtdaoingmiabbcaaGreatDoorVMvn
import Derived.Test.YtdaoingmiabbcaaGreatDoorVXk
import Derived.Test.YtdaoingmiabbcaaGreatDoorVQr
import Derived.Test.YtdaoingmiabbcaaGreatDoorVIr
import Derived.Test.YtdaoingmiabbcaaGreatDoorVMvd
namespace Go.Proofs.YtdaoingmiabbcaaGreatDoor
open Go.RowKit Go.Shelf
attribute [local go_sem] Oper.semAt_some

/-- What Nodes keeps: a copy of the formula, in memory of its own. -/
structure NdsK (w w' : World) (t : Nd) (nb : Nat) (sl : Value) (fp : List Nat) : Prop where
  blk : Blk w' nb ((cpy t).hd.cells sl) 49
  own : Own w' w.heap.size sl (cpy t) fp
  new : w.heap.size ≤ nb
  ne : nb ∉ fp
  kp : Kp w w' Nul
set_option maxRecDepth 20000 in
set_option maxHeartbeats 4000000 in
theorem fNodes_at (t : Nd) (sl : Value) (F : Nat → Prop) (w : World) (hsz : t.size ≤ 1048576) (hok : t.ok) (hin : NdIn w F sl t) : Calls Tryz.prog 32 #[t.hd.val sl] w fun e w' => ∃ nb sl' fp, e = .returned (.func (.func 57) #[] #[.pointer (some ⟨nb, 0, none⟩)]) ∧ NdsK w w' t nb sl' fp := by
  obtain ⟨W1, hW1⟩ : ∃ W1, w.alloc (.cells (t.hd.cells sl).toArray 49) = W1 := ⟨_, rfl⟩
  have k1 : Kp w W1 Nul := by rw [← hW1]; exact (Kp.refl w Nul).alloc _
  have b1 : Blk W1 w.heap.size (t.hd.cells sl) 49 := by rw [← hW1]; exact Blk.new w _ _
  have HW1 : Hid (w.alloc (.cells #[.int .i64 t.hd.k, .int .i64 t.hd.o, .float .f64 t.hd.x, .string t.hd.s, .bool t.hd.b, .int .i64 t.hd.f, .int .i64 t.hd.c1, .int .i64 t.hd.r1, .bool t.hd.p1, .bool t.hd.q1, .int .i64 t.hd.c2, .int .i64 t.hd.r2, .bool t.hd.p2, .bool t.hd.q2, sl] 49) = W1) := hW1
  have HK1 : Hid (Kp w W1 Nul) := k1
  have HBn : Hid (W1.heap[w.heap.size]? = some (.cells (t.hd.cells sl).toArray 49 (0, 0))) := b1
  have HCp : Hid (∀ wq, Kp w wq Nul → Calls Tryz.prog 56 #[t.hd.val sl] wq fun e w' => ∃ sl' fp, e = .returned ((cpy t).hd.val sl') ∧ Own w' wq.heap.size sl' (cpy t) fp ∧ Kp wq w' Nul) := fun wq k => (copy_at t sl F wq hsz hok (hin.kp k (fun _ _ x => x))).mono (by
    rintro e w' ⟨sl', fp, h1, h2, h3⟩
    exact ⟨sl', fp, h1, h2, Kp.of_below h3⟩)
  have HEND : Hid (∀ w2 sl' fp, Own w2 W1.heap.size sl' (cpy t) fp → Kp W1 w2 Nul → NdsK w (w2.alloc (.cells ((cpy t).hd.cells sl').toArray 49)) t w2.heap.size sl' fp) := fun w2 sl' fp ho hk => by
    have hs := k1.size
    refine ⟨Blk.new w2 _ _, (ho.below (((Kp.refl w2 Nul).alloc _).below)).le hs, by have := hk.size; omega, fun hm => by have := (ho.new _ hm).2; omega, (k1.trans hk).alloc _⟩
  clear hW1 k1 b1 hsz hok hin
  obtain ⟨hc, hhc⟩ : ∃ hc, (cpy t).hd = hc := ⟨_, rfl⟩
  rw [hhc] at HCp HEND
  clear hhc
  generalize t.hd = h at *
  go_enter Tryz.func32, Tryz.ntmps32
  go_wp2_with (first | (rw [HW1.out]; refine load_node_law rfl (.tmp 1) rfl w.heap.size rfl (h.cells sl).toArray HBn.out rfl ?_) | fail)
  refine (HCp.out _ HK1.out).mono ?_
  rintro e w2 ⟨sl', fp, rfl, hown, hk2⟩
  have HOW : Hid (Own w2 W1.heap.size sl' (cpy t) fp) := hown
  have K2 : Hid (Kp W1 w2 Nul) := hk2
  have ONW : Hid (sl'.oneCell' = true) := hown.own.one
  clear hown hk2 HCp HW1
  go_wp2_with (first | (refine wpList_store_new rfl 49 (.tmp 3) (.tmp 5) rfl _ _ _ _ _ (by first | rfl | simp) rfl rfl rfl infoNode (Hd.one hc ONW.out) ?_) | fail)
  go_ret
  exact ⟨_, sl', fp, rfl, HEND.out w2 sl' fp HOW.out K2.out⟩
set_option maxRecDepth 20000 in
set_option maxHeartbeats 4000000 in
theorem lNodes_at (t : Nd) (sl : Value) (F : Nat → Prop) (w : World) (hsz : t.size ≤ 1048576) (hok : t.ok) (hin : NdIn w F sl t) : Calls Tryz.prog 50 #[t.hd.val sl] w fun e w' => ∃ nb sl' fp, e = .returned (.func (.func 57) #[] #[.pointer (some ⟨nb, 0, none⟩)]) ∧ NdsK w w' t nb sl' fp := by
  obtain ⟨W1, hW1⟩ : ∃ W1, w.alloc (.cells (t.hd.cells sl).toArray 49) = W1 := ⟨_, rfl⟩
  have k1 : Kp w W1 Nul := by rw [← hW1]; exact (Kp.refl w Nul).alloc _
  have b1 : Blk W1 w.heap.size (t.hd.cells sl) 49 := by rw [← hW1]; exact Blk.new w _ _
  have HW1 : Hid (w.alloc (.cells #[.int .i64 t.hd.k, .int .i64 t.hd.o, .float .f64 t.hd.x, .string t.hd.s, .bool t.hd.b, .int .i64 t.hd.f, .int .i64 t.hd.c1, .int .i64 t.hd.r1, .bool t.hd.p1, .bool t.hd.q1, .int .i64 t.hd.c2, .int .i64 t.hd.r2, .bool t.hd.p2, .bool t.hd.q2, sl] 49) = W1) := hW1
  have HBn : Hid (W1.heap[w.heap.size]? = some (.cells (t.hd.cells sl).toArray 49 (0, 0))) := b1
  have HNd : Hid (Calls Tryz.prog 32 #[t.hd.val sl] W1 fun e w' => ∃ nb sl' fp, e = .returned (.func (.func 57) #[] #[.pointer (some ⟨nb, 0, none⟩)]) ∧ NdsK w w' t nb sl' fp) := (fNodes_at t sl F W1 hsz hok (hin.kp k1 (fun _ _ x => x))).mono (by
    rintro e w' ⟨nb, sl', fp, rfl, h⟩
    exact ⟨nb, sl', fp, rfl, ⟨h.blk, h.own.le k1.size, Nat.le_trans k1.size h.new, h.ne, k1.trans h.kp⟩⟩)
  clear hW1 k1 b1 hsz hok hin
  generalize t.hd = h at *
  have hn2 := eq_nilN 57
  go_enter Tryz.func50, Tryz.ntmps50
  go_wp2_with (first | (rw [HW1.out]; refine load_node_law rfl (.tmp 1) rfl w.heap.size rfl (h.cells sl).toArray HBn.out rfl ?_) | fail)
  refine HNd.out.mono ?_
  rintro e w2 ⟨nb, sl', fp, rfl, hk⟩
  have HK : Hid (NdsK w w2 t nb sl' fp) := hk
  clear hk HNd
  go_wp2_with fail
  go_ret
  exact ⟨nb, sl', fp, rfl, HK.out⟩
end Go.Proofs.YtdaoingmiabbcaaGreatDoor
namespace Go.Proofs.YtdaoingmiabbcaaGreatDoor
open Go.RowKit Go.Shelf
attribute [local go_sem] Oper.semAt_some

theorem res_none {fn : Func} (h : fn.results = #[]) (tmps : Array Value) (w : World) : (results fn tmps).run Tryz.prog w = .ok (.tuple #[]) w := by
  simp [results, h]
set_option maxRecDepth 100000 in
set_option maxHeartbeats 16000000 in
theorem nodes1_seq (l B : Nat) (t : Nd) (nb : Nat) (sl : Value) (fp : List Nat) (w : World) (hb : Blk w nb ((cpy t).hd.cells sl) 49) (ho : NdOwn w sl (cpy t) fp) (S : Nat → Prop) (hS : ∀ i, S i → i < w.heap.size) (hd : ∀ b, (b = nb ∨ b ∈ fp) → ¬ S b) (hl1 : w.heap.size ≤ l) (hl2 : l < B)
    (J : Nat → World → Prop) (Jx : World → Prop) (W : World) (hk : Kp w W Nul) (hsz : B ≤ W.heap.size) (hJ : ∀ k W W', J k W → Kp W W' (fun i => B ≤ i) → J k W') (hJx : ∀ W W', Jx W → Kp W W' (fun i => B ≤ i) → Jx W')
    (hY : ∀ m k (x : Hd) W1, k < t.size → (preN (cpy t))[k]? = some x → J k W1 → YieldAt Fence.wide m Tryz.prog (l) #[x.val (.slice none 0 0)] W1 fun e W' => (e = .returned (.bool true) ∧ J (k + 1) W' ∧ Kp W1 W' (fun i => S i ∨ i = l)) ∨ (e = .returned (.bool false) ∧ Jx W' ∧ Kp W1 W' (fun i => S i ∨ i = l)))
    (h0 : J 0 W) :
    Calls Tryz.prog 57 #[.func (.yield (l)) #[] #[], .pointer (some ⟨nb, 0, none⟩)] W fun e W' => (∃ v, e = .returned v) ∧ (J t.size W' ∨ Jx W') := by
  have hcs : (cpy t).size = t.size := cpy_size t
  have hnb : nb < w.heap.size := hb.lt
  generalize hT : cpy t = T at *
  have hbW : Blk W nb (T.hd.cells sl) 49 := hb.kp hk (fun x => x)
  have hin : NdIn W (fun b => b ∈ fp) sl T := (ho.mono (fun b hb => hk.block b (node_lt (ho.node b hb)) (fun x => x))).isIn (fun _ h => h)
  have hfl : ∀ b ∈ fp, b < w.heap.size := fun b hb => node_lt (ho.node b hb)
  have HE : Hid (∀ w, Calls Tryz.prog 58 #[T.hd.val sl] w fun e w' => e = .returned (.func (.func 81) #[] #[.pointer (some ⟨w.heap.size, 0, none⟩)]) ∧ w' = w.alloc (.cells (T.hd.cells sl).toArray 49)) := each_at T.hd sl
  obtain ⟨W1, hW1⟩ : ∃ W1, W.alloc (.cells #[.func (.yield (l)) #[] #[]] 107) = W1 := ⟨_, rfl⟩
  have HW1 : Hid (W.alloc (.cells #[.func (.yield (l)) #[] #[]] 107) = W1) := hW1
  have s1 : W1.heap.size = W.heap.size + 1 := by rw [← hW1, World.size_alloc]
  have k1 : Kp W W1 Nul := by rw [← hW1]; exact (Kp.refl W Nul).alloc _
  have by1 : Blk W1 W.heap.size [.func (.yield (l)) #[] #[]] 107 := by rw [← hW1]; exact Blk.new W _ _
  have HR1 : Hid (W1.rangeAt nb 0 (T.hd.cells sl)) := fun j u hj => by rw [Nat.zero_add]; exact (hbW.kp k1 (fun x => x)).cell hj
  clear hW1
  refine (callsIn_wide (n := 12)).1 ?_
  refine callsIn_of_wp_marks Tryz.func57 rfl trivial ?_ rfl
  simp only [Tryz.ntmps57, List.size_toArray, List.length_cons, List.length_nil, Nat.reduceAdd, Nat.reduceSub, Array.replicate_succ, Array.replicate_zero, List.push_toArray, List.append_toArray, List.nil_append, List.cons_append]
  gi_wp2_with (first | (rw [HW1.out]; refine loadIn_node rfl (.tmp 1) rfl nb 0 rfl (T.hd.cells sl) HR1.out rfl ?_) | fail)
  refine ⟨trivial, (callsIn_wide.2 (HE.out _)).mono ?_⟩
  rintro e w2 ⟨rfl, hw2⟩
  have s2 : w2.heap.size = W.heap.size + 2 := by rw [hw2, World.size_alloc, s1]
  have k2 : Kp W1 w2 Nul := by rw [hw2]; exact (Kp.refl W1 Nul).alloc _
  have by2 : Blk w2 W.heap.size [.func (.yield (l)) #[] #[]] 107 := by1.kp k2 (fun x => x)
  have be2 : Blk w2 (W.heap.size + 1) (T.hd.cells sl) 49 := by
    have := Blk.new W1 (T.hd.cells sl) 49
    rw [s1] at this
    rw [hw2]; exact this
  clear hw2 HE HW1 HR1
  gi_wp2_with (fail)
  have kW2 : Kp W w2 Nul := k1.trans k2
  have hf : ∀ {V V' : World}, Kp V V' (fun i => w2.heap.size ≤ i) → ∀ {b : Nat} {cs : List Value} {ty : TypeId}, b < w2.heap.size → Blk V b cs ty → Blk V' b cs ty := fun hk _ _ _ hb h => h.kp hk (by omega)
  have far : ∀ {V V' : World}, Kp V V' (fun i => w2.heap.size ≤ i) → Kp V V' (fun i => B ≤ i) := fun hk => hk.mono (fun i _ e => by show B ≤ i; have e' : w2.heap.size ≤ i := e; omega)
  have hj2 : J 0 w2 := hJ 0 W w2 h0 kW2.of_nul
  generalize hact : Act.mk _ _ = a0
  refine wpIn_range_told (α := Hd × Value) (N := t.size) (by decide) (gf := 81) (lb := #[.pointer (some ⟨W.heap.size + 1, 0, none⟩)]) (by rw [← hact, ← s1]; rfl) (enters_of Tryz.func81 (by kernel_rfl) rfl)
    (encs := fun x => #[x.1.val x.2]) (fun _ => rfl) (fun k x => (preN T)[k]? = some x.1 ∧ x.2.oneCell' = true) (fun i => S i ∨ i = l) (fun i h => by rcases h with h | h; have := hS i h; omega; omega)
    ?hseq
    (fun k V => J k V ∧ Blk V W.heap.size [.func (.yield (l)) #[] #[]] 107)
    (fun V => Jx V)
    ?hI ?hIx ⟨hj2, by2⟩ ?hround ?hdone ?hstop
  case hseq =>
    intro J' Jx' W' hk' hsz' hJ' hJx' hY' h0'
    have hkW : Kp w W' Nul := ((hk.trans kW2).trans hk')
    have := each1_pre (w2.heap.size + 1) t.size (fun i => (S i ∨ i = l) ∨ i = w2.heap.size + 1) (preN T) J' Jx' (w2.heap.size + 2) (fun i h => by rcases h with (h | h) | h; have := hS i h; omega; omega; omega) (fun k A B h q => hJ' k A B h q.of_nul) (fun A B h q => hJx' A B h q.of_nul)
      (fun m k x sx W1 hkN hp ho hj => by
        obtain ⟨fn', tms, asg, bo, y1, y2⟩ := hY' m k (x, sx) W1 hkN ⟨hp, ho⟩ hj
        refine ⟨fn', tms, asg, bo, y1, y2.mono ?_⟩
        rintro e Z (q | q)
        · exact .inl q
        · exact .inr ⟨q.1, q.2.1⟩)
      (fun b => b ∈ fp) (fun b hb h => by have h1 := hfl b hb; rcases h with (h | h) | h; exact hd b (.inr hb) h; omega; omega) T sl 0 (W.heap.size + 1) W' (by omega) (PreAt.self T) (by omega) ((hin.kp kW2 (fun _ _ x => x)).kp hk' (fun _ _ x => x)) h0' (be2.kp hk' (fun x => x))
    rw [Nat.zero_add, hcs] at this
    exact this
  case hI =>
    rintro k V V' ⟨q1, q2⟩ hk
    exact ⟨hJ _ _ _ q1 (far hk), hf hk (by omega) q2⟩
  case hIx =>
    intro V V' q1 hk
    exact hJx _ _ q1 (far hk)
  case hround =>
    subst hact
    rintro l' k ⟨x, sx⟩ V K _ hl hkN ⟨hpk, hox⟩ ⟨hj, hby⟩ hK
    simp only [List.zip_toArray, List.zip_cons_cons, List.zip_nil_right, List.foldl_toArray', List.foldl_cons, List.foldl_nil]
    have OX : Hid (sx.oneCell' = true) := hox
    gi_wp2_with (first
      | (refine storeIn_new' rfl 49 (.tmp 3) (.tmp 6) rfl _ _ _ _ (by first | rfl | simp) rfl rfl rfl infoNode (x.one OX.out) ?_)
      | fail)
    refine hK _ _ ((Kp.refl V Nul).alloc _) (fun U hU => ?_)
    have hVs : w2.heap.size + 2 ≤ V.heap.size := hl
    have bm : Blk U V.heap.size (x.cells sx) 49 := (Blk.new V _ _).kp hU (by show ¬ V.heap.size = w2.heap.size + 1; omega)
    have kVU : Kp V U (fun i => i = w2.heap.size + 1) := ((Kp.refl V _).alloc _).trans hU
    have hyU : Blk U W.heap.size [.func (.yield (l)) #[] #[]] 107 := hby.kp kVU (by show ¬ W.heap.size = w2.heap.size + 1; omega)
    have hjU : J k U := hJ _ _ _ hj (far (kVU.mono (fun i _ e => by show w2.heap.size ≤ i; have e' : i = w2.heap.size + 1 := e; omega)))
    clear hK
    obtain ⟨X, hX⟩ : ∃ X, U.setCell ⟨V.heap.size, 14, none⟩ (.slice none 0 0) = X := ⟨_, rfl⟩
    have bX : Blk X V.heap.size (x.cells (.slice none 0 0)) 49 := by rw [← hX]; exact bm.set 14 _
    have yX : Blk X W.heap.size [.func (.yield (l)) #[] #[]] 107 := by rw [← hX]; exact hyU.other _ _ (by show W.heap.size ≠ V.heap.size; omega)
    have kUX : Kp U X (fun i => i = V.heap.size) := by rw [← hX]; exact (Kp.refl U _).setCell _ _ (.inr rfl)
    have hjX : J k X := hJ _ _ _ hjU (kUX.mono (fun i _ e => by show B ≤ i; have e' : i = V.heap.size := e; omega))
    obtain ⟨fn, tms, asg, bod, hy, hR⟩ := hY 7 k x X hkN hpk hjX
    have HY : Hid (RoundIn Fence.wide 7 Tryz.prog (l) fn tms asg bod X _) := hR
    have HX : Hid (U.setCell ⟨V.heap.size, 14, none⟩ (.slice none 0 0) = X) := hX
    have HRX : Hid (X.rangeAt V.heap.size 0 (x.cells (.slice none 0 0))) := fun j u hj => by rw [Nat.zero_add]; exact bX.cell hj
    have u14 : U.cell? ⟨V.heap.size, 14, none⟩ = some sx := bm.cell rfl
    have f14 : U.frozen? ⟨V.heap.size, 14, none⟩ = false := bm.froz _
    have y0 : (U.setCell ⟨V.heap.size, 14, none⟩ (.slice none 0 0)).cell? ⟨W.heap.size, 0, none⟩ = some (.func (.yield (l)) #[] #[]) := by rw [hX]; exact yX.cell rfl
    have HkUX : Hid (Kp U X (fun i => i = V.heap.size)) := kUX
    have HyX : Hid (Blk X W.heap.size [.func (.yield (l)) #[] #[]] 107) := yX
    have HSW : Hid ((w.heap.size ≤ l ∧ l < B ∧ B ≤ W.heap.size) ∧ w2.heap.size = W.heap.size + 2 ∧ w2.heap.size + 2 ≤ V.heap.size) := ⟨⟨hl1, hl2, hsz⟩, s2, hVs⟩
    have HS : Hid (∀ i, S i → i < w.heap.size) := hS
    have HYR : Hid (Sem.run Tryz.prog (Instr.yield (l) #[Value.agg (x.cells (.slice none 0 0)).toArray]) X = _) := hy
    clear hX hR bm kVU hyU hjU hjX kUX yX bX hU hVs hy hby hj hY hJ hJx hf far kW2 by1 by2 be2 k1 k2 s1 s2 hj2 hd hS hin hbW hb ho hk hsz hfl hnb hcs h0
    gi_wp2_with (first
      | (rw [HX.out]; refine loadIn_node rfl (.tmp 3) rfl V.heap.size 0 rfl (x.cells (.slice none 0 0)) HRX.out rfl ?_)
      | fail)
    rw [HYR.out, Oper.uponIn_round]
    refine ⟨fun _ => by decide, (show RoundIn (Fence.wide.inRound l') _ _ _ _ _ _ _ _ _ from (roundIn_any (m' := 9) HY.out)).mono ?_⟩
    clear HY HYR y0 u14 f14
    rintro e w3 (⟨rfl, hj1, hk1⟩ | ⟨rfl, hx1, hk1⟩)
    · have HJ1 : Hid (J (k + 1) w3) := hj1
      have HK1 : Hid (Kp X w3 (fun i => S i ∨ i = l)) := hk1
      clear hj1 hk1
      gi_wp2_with (fail)
      exact ⟨(HkUX.out.mono (fun i _ e => .inr (by show V.heap.size ≤ i; have e' : i = V.heap.size := e; omega))).trans (HK1.out.mono (fun i _ e => .inl e)), HJ1.out, HyX.out.kp HK1.out (fun e => by have := HSW.out.1; rcases e with e | e; have := HS.out _ e; omega; omega)⟩
    · have HJ1 : Hid (Jx w3) := hx1
      have HK1 : Hid (Kp X w3 (fun i => S i ∨ i = l)) := hk1
      clear hx1 hk1
      gi_wp2_with (fail)
      exact ⟨(HkUX.out.mono (fun i _ e => .inr (by show V.heap.size ≤ i; have e' : i = V.heap.size := e; omega))).trans (HK1.out.mono (fun i _ e => .inl e)), HJ1.out⟩
  case hdone =>
    subst hact
    rintro D V hD ⟨h1, h2⟩ hK
    have H1 : Hid (J t.size V) := h1
    have HX : Hid (V.heap[D]? = some (.deferred (some []))) := hK
    have HP : Hid (J t.size (V.putObj D (.deferred none))) := hJ _ _ _ h1 (putObj_self.mono (fun i _ e => by show B ≤ i; have e' : i = D := e; omega))
    clear h1 h2 hK
    gi_wp2_with (fail)
    refine ⟨by simp, .inl ⟨_, _, rfl, run_takeDeferred HX.out, ?_⟩⟩
    refine ⟨_, res_none rfl _ _, ⟨_, rfl⟩, .inl HP.out⟩
  case hstop =>
    subst hact
    rintro D V hD h1 hK
    have H1 : Hid (Jx V) := h1
    have HX : Hid (V.heap[D]? = some (.deferred (some []))) := hK
    have HP : Hid (Jx (V.putObj D (.deferred none))) := hJx _ _ h1 (putObj_self.mono (fun i _ e => by show B ≤ i; have e' : i = D := e; omega))
    clear h1 hK
    gi_wp2_with (fail)
    refine ⟨by simp, .inl ⟨_, _, rfl, run_takeDeferred HX.out, ?_⟩⟩
    refine ⟨_, res_none rfl _ _, ⟨_, rfl⟩, .inr HP.out⟩
end Go.Proofs.YtdaoingmiabbcaaGreatDoor
namespace Go.Proofs.YtdaoingmiabbcaaGreatDoor
open Go.RowKit Go.Shelf
attribute [local go_sem] Oper.semAt_some

mutual
theorem fl_pre : ∀ t : Nd, fl t = ((preN t).filter (fun h => h.k == 4)).length
  | .mk h ts => by
    rw [fl, preN, List.filter_cons, flL_pre ts]
    by_cases e : h.k = 4
    · rw [if_pos e, if_pos (by simpa using e), List.length_cons]; omega
    · rw [if_neg e, if_neg (by simpa using e)]; omega
theorem flL_pre : ∀ ts : List Nd, flL ts = ((preL ts).filter (fun h => h.k == 4)).length
  | [] => by rw [flL, preL]; rfl
  | t :: ts => by rw [flL, preL, List.filter_append, List.length_append, fl_pre t, flL_pre ts]
end
mutual
theorem fl_cpy : ∀ t : Nd, fl (cpy t) = fl t
  | .mk h ts => by rw [cpy, fl, fl, flL_cpy ts]
theorem flL_cpy : ∀ ts : List Nd, flL (cpyL ts) = flL ts
  | [] => by rw [cpyL]
  | t :: ts => by rw [cpyL, flL, flL, fl_cpy t, flL_cpy ts]
end
/-- Faults among the first k. -/
def fcnt (l : List Hd) (k : Nat) : Nat := ((l.take k).filter (fun h => h.k == 4)).length
theorem fcnt_next {l : List Hd} {k : Nat} {x : Hd} (h : l[k]? = some x) : fcnt l (k + 1) = fcnt l k + if x.k = 4 then 1 else 0 := by
  unfold fcnt
  rw [List.take_add_one, h, List.filter_append, List.length_append]
  congr 1
  by_cases e : x.k = 4
  · simp [e]
  · simp [e]
theorem fcnt_le (l : List Hd) (k : Nat) : fcnt l k ≤ l.length := by
  unfold fcnt
  have h1 := List.length_filter_le (fun h : Hd => h.k == 4) (l.take k)
  rw [List.length_take] at h1
  omega
theorem fcnt_all (t : Nd) : fcnt (preN (cpy t)) t.size = fl t := by
  unfold fcnt
  rw [List.take_of_length_le (by rw [preN_len, cpy_size]; exact Nat.le_refl _), ← fl_pre, fl_cpy]
set_option maxRecDepth 100000 in
set_option maxHeartbeats 8000000 in
theorem faults_at (t : Nd) (sl : Value) (F : Nat → Prop) (w : World) (hsz : t.size ≤ 1048576) (hok : t.ok) (hin : NdIn w F sl t) :
    Calls Tryz.prog 49 #[t.hd.val sl] w fun e w' => e = .returned (.int .i64 (fl t : Nat)) ∧ Kp w w' Nul := by
  obtain ⟨W1, hW1⟩ : ∃ W1, (w.alloc (.cells (t.hd.cells sl).toArray 49)).alloc (.cells #[.int .i64 0] 3) = W1 := ⟨_, rfl⟩
  have k1 : Kp w W1 Nul := by rw [← hW1]; exact ((Kp.refl w Nul).alloc _).alloc _
  have b1 : Blk W1 w.heap.size (t.hd.cells sl) 49 := by rw [← hW1]; exact (Blk.new w _ _).alloc _
  have c1 : Blk W1 (w.heap.size + 1) [.int .i64 0] 3 := by
    rw [← hW1]
    have := Blk.new (w.alloc (.cells (t.hd.cells sl).toArray 49)) [.int .i64 0] 3
    rw [World.size_alloc] at this
    exact this
  have s1 : W1.heap.size = w.heap.size + 2 := by rw [← hW1, World.size_alloc, World.size_alloc]
  have HW1 : Hid ((w.alloc (.cells #[.int .i64 t.hd.k, .int .i64 t.hd.o, .float .f64 t.hd.x, .string t.hd.s, .bool t.hd.b, .int .i64 t.hd.f, .int .i64 t.hd.c1, .int .i64 t.hd.r1, .bool t.hd.p1, .bool t.hd.q1, .int .i64 t.hd.c2, .int .i64 t.hd.r2, .bool t.hd.p2, .bool t.hd.q2, sl] 49)).alloc (.cells #[.int .i64 0] 3) = W1) := hW1
  have HR1 : Hid (W1.rangeAt w.heap.size 0 (t.hd.cells sl)) := fun j u hj => by rw [Nat.zero_add]; exact b1.cell hj
  have HNd : Hid (Calls Tryz.prog 50 #[t.hd.val sl] W1 fun e w' => ∃ nb sl' fp, e = .returned (.func (.func 57) #[] #[.pointer (some ⟨nb, 0, none⟩)]) ∧ NdsK W1 w' t nb sl' fp) := lNodes_at t sl F W1 hsz hok (hin.kp k1 (fun _ _ x => x))
  have hbd : ∀ k, fcnt (preN (cpy t)) k ≤ 1048576 := fun k => by
    have := fcnt_le (preN (cpy t)) k
    rw [preN_len, cpy_size] at this
    omega
  clear hW1 hok hin b1
  refine (callsIn_wide (n := 12)).1 ?_
  refine callsIn_of_wp_marks Tryz.func49 rfl trivial ?_ rfl
  simp only [Tryz.ntmps49, List.size_toArray, List.length_cons, List.length_nil, Nat.reduceAdd, Nat.reduceSub, Array.replicate_succ, Array.replicate_zero, List.push_toArray, List.append_toArray, List.nil_append, List.cons_append]
  gi_wp2_with (first | (rw [HW1.out]; refine loadIn_node rfl (.tmp 1) rfl w.heap.size 0 rfl (t.hd.cells sl) HR1.out rfl ?_) | fail)
  refine ⟨trivial, (callsIn_wide.2 HNd.out).mono ?_⟩
  rintro e w2 ⟨nb, sl', fp, rfl, hK⟩
  have c2 : Blk w2 (w.heap.size + 1) [.int .i64 0] 3 := c1.kp hK.kp (fun x => x)
  have k2 : Kp w w2 Nul := k1.trans hK.kp
  have hs2 := hK.kp.size
  clear HW1 HR1 HNd c1
  gi_wp2_with (fail)
  generalize hact : Act.mk _ _ = a0
  refine wpIn_range_told (α := Hd) (N := t.size) (by decide) (gf := 57) (lb := #[.pointer (some ⟨nb, 0, none⟩)]) (by rw [← hact]; rfl) (enters_of Tryz.func57 (by kernel_rfl) rfl)
    (encs := fun x => #[x.val (.slice none 0 0)]) (fun _ => rfl) (fun k x => (preN (cpy t))[k]? = some x) (fun i => i = w.heap.size + 1) (fun i h => by have h' : i = w.heap.size + 1 := h; omega)
    ?hseq
    (fun k V => Blk V (w.heap.size + 1) [.int .i64 (fcnt (preN (cpy t)) k : Nat)] 3 ∧ Kp w V Nul)
    (fun _ => False)
    ?hI ?hIx ⟨c2, k2⟩ ?hround ?hdone ?hstop
  case hseq =>
    intro J Jx W hk' hsz' hJ' hJx' hY' h0'
    exact nodes1_seq (w2.heap.size + 1) (w2.heap.size + 2) t nb sl' fp w2 hK.blk hK.own.own (fun i => i = w.heap.size + 1) (fun i h => by have h' : i = w.heap.size + 1 := h; omega) (fun b hb e => by
      have e' : b = w.heap.size + 1 := e
      rcases hb with hb | hb
      · have := hK.new; omega
      · have := (hK.own.new b hb).1; omega) (Nat.le_succ _) (Nat.lt_succ_self _) J Jx W hk' hsz' hJ' hJx' hY' h0'
  case hI =>
    rintro k V V' ⟨q1, q2⟩ hk
    exact ⟨q1.kp hk (by show ¬ w2.heap.size ≤ w.heap.size + 1; omega), q2.trans' hk (fun i hi e => by have e' : w2.heap.size ≤ i := e; omega)⟩
  case hIx => intro _ _ h; exact h.elim
  case hround =>
    subst hact
    rintro l k x V K _ hl hkN hpk ⟨q1, q2⟩ hK'
    simp only [List.zip_toArray, List.zip_cons_cons, List.zip_nil_right, List.foldl_toArray', List.foldl_cons, List.foldl_nil]
    gi_wp2_with (first
      | (refine storeIn_new' rfl 49 (.tmp 4) (.tmp 7) rfl _ _ _ _ (by first | rfl | simp) rfl rfl rfl infoNode (x.one rfl) ?_)
      | fail)
    refine hK' _ _ ((Kp.refl V Nul).alloc _) (fun U hU => ?_)
    have bm : Blk U V.heap.size (x.cells (.slice none 0 0)) 49 := (Blk.new V _ _).kp hU (by show ¬ V.heap.size = w2.heap.size + 1; omega)
    have kVU : Kp V U (fun i => i = w2.heap.size + 1) := ((Kp.refl V _).alloc _).trans hU
    have cU : Blk U (w.heap.size + 1) [.int .i64 (fcnt (preN (cpy t)) k : Nat)] 3 := q1.kp kVU (by show ¬ w.heap.size + 1 = w2.heap.size + 1; omega)
    have kU : Kp w U Nul := q2.trans' kVU (fun i hi e => by have e' : i = w2.heap.size + 1 := e; omega)
    have x0 : U.cell? ⟨V.heap.size, 0, none⟩ = some (.int .i64 x.k) := bm.cell rfl
    have y0 : U.cell? ⟨w.heap.size + 1, 0, none⟩ = some (.int .i64 (fcnt (preN (cpy t)) k : Nat)) := cU.cell rfl
    have f0 : U.frozen? ⟨w.heap.size + 1, 0, none⟩ = false := cU.froz _
    have HN : Hid (fcnt (preN (cpy t)) (k + 1) = fcnt (preN (cpy t)) k + if x.k = 4 then 1 else 0) := fcnt_next hpk
    have HcU : Hid (Blk U (w.heap.size + 1) [.int .i64 (fcnt (preN (cpy t)) k : Nat)] 3) := cU
    have HkU : Hid (Kp w U Nul) := kU
    have hb := hbd k
    clear hK' bm kVU cU kU hU q1 q2 hK c2 k2 k1 hpk hbd hs2 s1 hsz
    generalize fcnt (preN (cpy t)) k = C at *
    have hb0 : (0 : Int) ≤ (C : Int) := by omega
    have hb1 : (C : Int) ≤ 1048576 := by omega
    by_cases h4 : x.k = 4
    · rw [h4] at x0
      gi_wp2_with (fail)
      have hn := HN.out
      rw [if_pos h4] at hn
      refine ⟨(Kp.refl U _).setCell _ _ (.inr (.inl rfl)), ?_, HkU.out.setCell _ _ (.inl (by show w.heap.size ≤ w.heap.size + 1; omega))⟩
      have := HcU.out.set 0 (.int .i64 ((C : Int) + 1))
      rw [hn]
      exact this
    · gi_wp2_with (fail)
      have hn := HN.out
      rw [if_neg h4, Nat.add_zero] at hn
      rw [hn]
      exact ⟨Kp.refl U _, HcU.out, HkU.out⟩
  case hdone =>
    subst hact
    rintro D V hD ⟨q1, q2⟩ hX
    have HX : Hid (V.heap[D]? = some (.deferred (some []))) := hX
    have y0 : V.cell? ⟨w.heap.size + 1, 0, none⟩ = some (.int .i64 (fcnt (preN (cpy t)) t.size : Nat)) := q1.cell rfl
    have HV : Hid (Kp w V Nul) := q2
    have HD : Hid (w.heap.size ≤ D) := by show _ ≤ _; omega
    rw [fcnt_all] at y0
    clear q1 q2 hX hK c2 k2 k1 hbd
    gi_wp2_with (fail)
    refine ⟨by simp, .inl ⟨_, _, rfl, run_takeDeferred HX.out, ?_⟩⟩
    refine ⟨_, results_tmp rfl _ _ _, rfl, ?_⟩
    exact putObj_kp HV.out HD.out
  case hstop => intro _ _ _ h; exact h.elim
end Go.Proofs.YtdaoingmiabbcaaGreatDoor
namespace Go.Proofs.YtdaoingmiabbcaaGreatDoor
open Go.RowKit Go.Maps Go.Sort Go.Lib Go.Shelf
attribute [local go_sem] Oper.semAt_some

/-- Faults of all formulas of a list of cells. -/
def flS : List Cc → Nat
  | [] => 0
  | x :: l => fl x.2.t + flS l
theorem flS_app (a b : List Cc) : flS (a ++ b) = flS a + flS b := by
  induction a with
  | nil => rw [List.nil_append, flS]; omega
  | cons x a ih => rw [List.cons_append, flS, flS, ih]; omega
theorem flS_le : ∀ {a b : List Cc}, a.Nodup → (∀ x ∈ a, x ∈ b) → flS a ≤ flS b
  | [], _, _, _ => by rw [flS]; omega
  | x :: a, b, hn, hm => by
    obtain ⟨s, t, rfl⟩ := List.append_of_mem (hm x List.mem_cons_self)
    have h := flS_le (a := a) (b := s ++ t) (List.nodup_cons.1 hn).2 (fun y hy => by
      have := hm y (List.mem_cons_of_mem _ hy)
      rcases List.mem_append.1 this with q | q
      · exact List.mem_append_left _ q
      · rcases List.mem_cons.1 q with q | q
        · subst q; exact absurd hy (List.nodup_cons.1 hn).1
        · exact List.mem_append_right _ q)
    rw [flS_app] at h ⊢
    rw [flS, flS]
    omega
theorem flS_eq {a b : List Cc} (ha : a.Nodup) (hb : b.Nodup) (h : ∀ x, x ∈ a ↔ x ∈ b) : flS a = flS b :=
  Nat.le_antisymm (flS_le ha (fun x q => (h x).1 q)) (flS_le hb (fun x q => (h x).2 q))
theorem flS_next {K : List Cc} {j : Nat} {x : Cc} (h : K[j]? = some x) : flS (K.take (j + 1)) = flS (K.take j) + fl x.2.t := by
  rw [List.take_add_one, h, flS_app]
  show _ + flS [x] = _
  rw [flS, flS]
  omega
mutual
theorem fl_size : ∀ t : Nd, fl t ≤ t.size
  | .mk h ts => by rw [fl, Nd.size]; have := flL_size ts; split <;> omega
theorem flL_size : ∀ ts : List Nd, flL ts ≤ sizeL ts
  | [] => by rw [flL, sizeL]; omega
  | t :: ts => by rw [flL, sizeL]; have := fl_size t; have := flL_size ts; omega
end
theorem flS_bd {K : List Cc} (h : ∀ x ∈ K, x.2.t.size ≤ 256) : flS K ≤ 256 * K.length := by
  induction K with
  | nil => rw [flS]; omega
  | cons x K ih =>
    rw [flS, List.length_cons]
    have h1 := ih (fun y hy => h y (List.mem_cons_of_mem _ hy))
    have h2 := h x List.mem_cons_self
    have h3 := fl_size x.2.t
    omega
theorem gd_small {a : Ct} (h : Gd a) : a.t.size ≤ 256 := by
  have hv := h.val
  unfold gv validC at hv
  simp only [Bool.or_eq_true, Bool.and_eq_true, beq_iff_eq] at hv
  rcases hv with (q | q) | q
  · exact absurd q.1 h.k
  · obtain ⟨_, h2⟩ := zeroN_k q.2.2
    rw [Nd.eta a.t, h2, Nd.size, sizeL]
    omega
  · exact chk_size q.2.2
theorem ct_row6 {w : World} {b : Nat} {a : Ct} {sl : Value} {t : TypeId} (h : Blk w b (a.cells sl) t) : w.rangeAt b 6 (a.t.hd.cells sl) := rangeAt_mid (pre := [.int .i64 a.k, .int .i64 a.v.k, .float .f64 a.v.x, .string a.v.s, .bool a.v.b, .int .i64 a.v.f]) (l := a.t.hd.cells sl) (post := []) (by unfold Blk at h; rw [h]; rfl)
/-- The region within a round, S holding behind each operation but z. -/
theorem regIn_but {P : Program} {l n : Nat} {a : Act} {w : World} {Q : Exit → Act → World → Prop} {id : Nat} {ops : Array Oper} (S : World → Prop) (z : Nat) (hm : P.follows .mixedOrders = true) (hd : noDefer ops = true) (hL : ¬ LetsOut Q) (hS : S w.drew) (h : S w.drew → wpBut P .any ops Q S z ops.size (Array.replicate ops.size false) a w.drew) : (Code.region id ops true).wpIn (Fence.wide.inRound l) n P Q a w :=
  wpIn_region_any hm (wpAnyIn_of_any hd hL _ _ _ _ (wpBut_any _ _ _ _ (h hS)))
/-- What the rounds keep. -/
structure LoI (w : World) (K : List Cc) (j : Nat) (Z : Nat → Prop) (W : World) : Prop where
  c : Blk W w.heap.size [.int .i64 (flS (K.take j) : Nat)] 3
  z : ∀ i, Z i ↔ i = w.heap.size
  kp : Kp w W Nul
theorem nodup_of_strict {K : List Cc} (h : Strict (K.map (·.1))) : K.Nodup := (List.pairwise_map.1 (strict_nodup h)).imp (fun {x y} q e => q (by rw [e]))
set_option maxRecDepth 20000 in
set_option maxHeartbeats 16000000 in
theorem lost22_at (g : Nat) (L : List Cc) (w : World) (hg : GI 0 w g L) (hok : Ok17 L) :
    Calls Tryz.prog 22 #[.pointer (some ⟨g, 0, none⟩)] w fun e w' => e = .returned (.int .i64 (flS L : Nat)) ∧ Kp w w' Nul := by
  obtain ⟨W1, hW1⟩ : ∃ W1, w.alloc (.cells #[.int .i64 0] 3) = W1 := ⟨_, rfl⟩
  have k1 : Kp w W1 Nul := by rw [← hW1]; exact (Kp.refl w Nul).alloc _
  have c1 : Blk W1 w.heap.size [.int .i64 0] 3 := by rw [← hW1]; exact Blk.new w _ _
  have s1 : W1.heap.size = w.heap.size + 1 := by rw [← hW1, World.size_alloc]
  have HW1 : Hid (w.alloc (.cells #[.int .i64 0] 3) = W1) := hW1
  have HAll : Hid (Calls Tryz.prog 19 #[.pointer (some ⟨g, 0, none⟩)] W1 fun e w' => ∃ x0 x1, e = .returned (.func (.func 61) #[] #[.pointer (some ⟨x0, 0, none⟩), .pointer (some ⟨x1, 0, none⟩)]) ∧ Blk w' x0 [.pointer (some ⟨g, 0, none⟩)] 29 ∧ Blk w' x1 [.int .i64 1, .int .i64 1, .int .i64 256, .int .i64 4096] 26 ∧ Kp W1 w' Nul) := all22 g W1
  have HOk : Hid (Ok17 L) := hok
  have HG : Hid (GI 0 w g L) := hg
  clear hW1 hg hok
  refine (callsIn_wide (n := 12)).1 ?_
  refine callsIn_of_wp_marks Tryz.func22 rfl trivial ?_ rfl
  simp only [Tryz.ntmps22, List.size_toArray, List.length_cons, List.length_nil, Nat.reduceAdd, Nat.reduceSub, Array.replicate_succ, Array.replicate_zero, List.push_toArray, List.append_toArray, List.nil_append, List.cons_append]
  refine wpIn_wide.2 ?_
  go_wp2_with fail
  rw [HW1.out]
  clear HW1
  refine HAll.out.mono ?_
  rintro e w6 ⟨x0, x1, rfl, hb0, hb1, hk6⟩
  have c6 : Blk w6 w.heap.size [.int .i64 0] 3 := c1.kp hk6 (fun x => x)
  have k6 : Kp w w6 Nul := k1.trans hk6
  have hs6 : w.heap.size + 1 ≤ w6.heap.size := by have := hk6.size; omega
  have HX0 : Hid (Blk w6 x0 [.pointer (some ⟨g, 0, none⟩)] 29) := hb0
  have HX1 : Hid (Blk w6 x1 [.int .i64 1, .int .i64 1, .int .i64 256, .int .i64 4096] 26) := hb1
  clear hb0 hb1 hk6 HAll c1 k1 s1
  go_wp2_with fail
  obtain ⟨K, hKs, hKm⟩ := in_order HG.out.once
  have hKl : K.length ≤ 4096 := by
    have := nodup_le _ (L.map (·.1)) (strict_nodup hKs) (fun x hx => by
      obtain ⟨y, hy, rfl⟩ := List.mem_map.1 hx
      exact List.mem_map.2 ⟨y, (hKm y).1 hy, rfl⟩)
    rw [List.length_map, List.length_map] at this
    have := HOk.out.len
    omega
  have hbd : ∀ j, flS (K.take j) ≤ 1048576 := fun j => by
    have h1 := flS_bd (K := K.take j) (fun x hx => gd_small (HOk.out.gd x ((hKm x).1 (List.mem_of_mem_take hx))))
    rw [List.length_take] at h1
    have : min j K.length ≤ 4096 := by omega
    have : 256 * min j K.length ≤ 256 * 4096 := Nat.mul_le_mul_left _ this
    omega
  have HKm : Hid (∀ x, x ∈ K ↔ x ∈ L) := hKm
  have HKs : Hid (Strict (K.map (·.1))) := hKs
  have HBd : Hid (∀ j, flS (K.take j) ≤ 1048576) := hbd
  have HI0 : LoI w K 0 (fun i => i = w.heap.size) w6 := ⟨by rw [List.take_zero, flS]; exact c6, fun i => Iff.rfl, k6⟩
  have hgA : GridIn w6 (fun b => b < w.heap.size) g L := HG.out.low.kp k6
  have HK6 : Hid (Kp w w6 Nul) := k6
  clear hKs hKm hbd hKl c6
  generalize hact : Act.mk _ _ = a0
  refine wp_range_ow2 (α := (Cc × Value) × List Nat) (N := K.length) (gf := 61) (lb := #[.pointer (some ⟨x0, 0, none⟩), .pointer (some ⟨x1, 0, none⟩)]) (by rw [← hact]; rfl) (enters_of Tryz.func61 (by kernel_rfl) rfl) (encs := encQ) wtQ (fun _ => rfl) (TellQ w6 K) ?hT (fun i => i = w.heap.size) ?hseq (fun j Z W => LoI w K j Z W) ?hZ ?hZl ?hI (fun i => i = w.heap.size) ?h0 ?hround ?hdone
  case hT => rintro k x Z W ⟨_, _, _, h⟩; exact ⟨fun q => by have := (h _ q).1; omega, fun q => by have := (h _ q).1; omega⟩
  case hseq => exact in1_seq2 g x0 x1 w.heap.size L K w6 _ (HG.out.kp k6) hgA HOk.out.gd HOk.out.at' HOk.out.len HKs.out HKm.out k6.size (fun i e => by have e' : i = w.heap.size := e; omega) HX0.out HX1.out
  case hZ =>
    intro j Z W h
    exact ⟨fun q => by have := (h.z _).1 q; omega, fun q => by have := (h.z _).1 q; omega⟩
  case hZl =>
    intro j Z W h
    exact ⟨fun i hi => by have := (h.z _).1 hi; have h2 := h.c.lt; omega, fun i _ hi => (h.z _).1 hi⟩
  case hI =>
    intro j Z W W' h q
    exact ⟨h.c.kp q (fun e => by rcases e with e | e <;> omega), h.z, h.kp.trans' q (fun i hi e => by rcases e with e | e <;> omega)⟩
  case h0 => exact HI0
  case hround =>
    subst hact
    rintro j ⟨⟨⟨⟨c, s⟩, a⟩, sl⟩, fp⟩ Z W KK hkN hsW hI ⟨hKk, hown, hnd, hfz⟩ hcont
    have HIj : Hid (LoI w K j Z W) := hI
    have HOwn : Hid (NdOwn W sl a.t fp) := hown
    have HFz : Hid (∀ i ∈ fp, w6.heap.size + 2 ≤ i ∧ ¬ Z i) := hfz
    have HSW : Hid (w6.heap.size + 2 ≤ W.heap.size) := hsW
    have O1 : Hid (sl.oneCell' = true) := hown.one
    have hmem : ((c, s), a) ∈ L := (HKm.out _).1 (List.mem_of_getElem? hKk)
    have HGd : Hid (Gd a) := HOk.out.gd _ hmem
    have HNx : Hid (flS (K.take (j + 1)) = flS (K.take j) + fl a.t) := flS_next hKk
    have HBj : Hid (flS (K.take j) ≤ 1048576) := HBd.out j
    have HS6 : Hid (w.heap.size + 1 ≤ w6.heap.size) := hs6
    clear hI hKk hown hnd hfz hsW hmem HX0 HX1 HI0 hgA k6 HG
    simp only [List.zip_toArray, List.zip_cons_cons, List.zip_nil_right, List.foldl_toArray', List.foldl_cons, List.foldl_nil]
    gi_wp2_with (first
      | (refine storeIn_new' rfl 51 (.tmp 5) (.tmp 9) rfl _ _ _ _ (by first | rfl | simp) rfl rfl rfl infoContent (a.one O1.out) ?_)
      | fail)
    refine hcont _ _ ((Kp.refl W Nul).alloc _) (fun V hV => ?_)
    have hWV : Kp W V (fun i => i = w6.heap.size + 1) := ((Kp.refl W _).alloc _).trans hV
    have HIV : Hid (LoI w K j Z V) := ⟨HIj.out.c.kp hWV (fun e => by have e' : w.heap.size = w6.heap.size + 1 := e; omega), HIj.out.z, HIj.out.kp.trans' hWV (fun i hi e => by have e' : i = w6.heap.size + 1 := e; omega)⟩
    have HbC : Hid (Blk V W.heap.size (a.cells sl) 51) := (Blk.new W (a.cells sl) 51).kp hV (fun e => by have e' : W.heap.size = w6.heap.size + 1 := e; have := HSW.out; omega)
    have HOwnV : Hid (NdOwn V sl a.t fp) := HOwn.out.mono (fun i hi => hWV.block i (node_lt (HOwn.out.node i hi)) (fun e => by have e' : i = w6.heap.size + 1 := e; have := (HFz.out i hi).1; omega))
    have HFa : Hid (∀ wq, Kp V wq Nul → Calls Tryz.prog 49 #[.agg (a.t.hd.cells sl).toArray] wq fun e w' => e = .returned (.int .i64 (fl a.t : Nat)) ∧ Kp wq w' Nul) := fun wq q => faults_at a.t sl (fun _ => True) wq (by have := HGd.out.size; omega) HGd.out.ok ((HOwnV.out.mono (fun i hi => q.block i (node_lt (HOwnV.out.node i hi)) (fun x => x))).isIn (fun _ _ => trivial))
    have hfs : fl a.t ≤ 256 := by have := fl_size a.t; have := gd_small HGd.out; omega
    clear hcont hV hWV HIj
    obtain ⟨N, hN⟩ : ∃ N, flS (K.take j) = N := ⟨_, rfl⟩
    obtain ⟨M, hM⟩ : ∃ M, fl a.t = M := ⟨_, rfl⟩
    have HC : Hid (∀ wq, Kp V wq Nul → Blk wq w.heap.size [.int .i64 (N : Nat)] 3) := fun wq q => by have := HIV.out.c.kp q (fun x => x); rw [hN] at this; exact this
    have HEN : Hid (∀ X, Kp V X (fun i => i = w.heap.size) → Blk X w.heap.size [.int .i64 ((N : Int) + (M : Int))] 3 → Kp V X (fun i => (Z i ∨ wtQ ((((c, s), a), sl), fp) i) ∨ W.heap.size ≤ i) ∧ ∃ Z', LoI w K (j + 1) Z' X ∧ More Z Z' W) := fun X kX bX => by
      refine ⟨kX.mono (fun i _ e => .inl (.inl ((HIV.out.z i).2 e))), Z, ⟨?_, HIV.out.z, HIV.out.kp.trans' kX (fun i hi e => by have e' : i = w.heap.size := e; omega)⟩, fun i hi => .inl hi⟩
      rw [HNx.out, hN, hM]
      have : (((N + M : Nat)) : Int) = (N : Int) + (M : Int) := by omega
      rw [this]
      exact bX
    have hNb := HBj.out
    rw [hN] at hNb
    rw [hM] at hfs HFa
    clear hN hM HNx HBj
    have wn : IntKind.i64.wrap ((N : Int) + (M : Int)) = (N : Int) + (M : Int) := by rw [IntKind.wrap_i64]; omega
    have hN0 : (0 : Int) ≤ (N : Int) := by omega
    have hM0 : (0 : Int) ≤ (M : Int) := by omega
    have hN1 : (N : Int) ≤ 1048576 := by omega
    have hM1 : (M : Int) ≤ 256 := by omega
    gi_wp2_with (fail)
    refine regIn_noPanic ?_
    refine regIn_but (fun w' : World => Kp V w' Nul) 5 (by kernel_rfl) (by kernel_rfl) (noPanic_lets (fun a w h => Exit.noConfusion (And.left h))) ((Kp.refl _ _).drew) (fun hHeld => ?_)
    refine wpBut_takes (i := 0) (v := .int .i64 (N : Int)) (some 10) rfl rfl (by kernel_rfl) (by kernel_rfl) (by kernel_rfl) (by kernel_rfl) (fun _ _ _ h => h) (Or.inl ⟨by rfl, ?_⟩) hHeld ?_
    · intro w' hSw; have s0 := (HC.out w' hSw).cell (i := 0) rfl; clear hSw; go_simp
    simp only [Act.put, List.setIfInBounds_toArray, List.set_cons_zero, List.set_cons_succ]
    refine wpBut_takes (i := 1) (v := ?_) (some 11) rfl rfl (by kernel_rfl) (by kernel_rfl) (by kernel_rfl) (by kernel_rfl) (fun _ _ _ h => h) (Or.inl ⟨by rfl, ?_⟩) hHeld ?_
    rotate_left
    · intro w' hSw; clear hSw; go_simp; try with_reducible rfl
    simp only [Act.put, List.setIfInBounds_toArray, List.set_cons_zero, List.set_cons_succ]
    refine wpBut_takes (i := 2) (v := .agg (a.t.hd.cells sl).toArray) (some 12) rfl rfl (by kernel_rfl) (by kernel_rfl) (by kernel_rfl) (by kernel_rfl) (fun _ _ _ h => h) (Or.inl ⟨by rfl, fun w' hSw => exec_load_row 49 (.tmp 11) rfl W.heap.size 6 rfl (a.t.hd.cells sl) _ (ct_row6 (HbC.out.kp hSw (fun x => x))) Tryz.underlying49 rfl infoNode⟩) hHeld ?_
    simp only [Act.put, List.setIfInBounds_toArray, List.set_cons_zero, List.set_cons_succ]
    refine wpBut_step (i := 3) (by kernel_rfl) rfl rfl (fun K hK => ?_)
    go_simp
    refine (HFa.out _ ((Kp.refl V Nul).drew)).mono ?_
    rintro e wA ⟨rfl, hkA⟩
    have KA : Hid (Kp V wA Nul) := (Kp.refl V Nul).drew.trans hkA
    refine hK.out _ _ (fun _ => KA.out) (fun _ => ?_)
    clear hK K hkA hHeld
    (try simp only [Act.put, List.setIfInBounds_toArray, List.set_cons_zero, List.set_cons_succ])
    refine wpBut_step (i := 4) (by kernel_rfl) rfl rfl (fun K hK => ?_)
    go_simp
    refine hK.out _ _ (fun _ => KA.out) (fun _ => ?_)
    clear hK K
    (try simp only [Act.put, List.setIfInBounds_toArray, List.set_cons_zero, List.set_cons_succ])
    refine wpBut_step (i := 5) (by kernel_rfl) rfl rfl (fun K hK => ?_)
    refine wp_store_var 3 (.tmp 3) (.tmp 14) rfl w.heap.size rfl (.int .i64 ((N : Int) + (M : Int))) rfl rfl 3 (.int .i64 (N : Int)) (HC.out _ KA.out) (by kernel_rfl) ?_
    intro X hbX hkX
    have KX : Kp V X (fun i => i = w.heap.size) := KA.out.of_nul.trans hkX
    refine hK.out _ _ (fun h => absurd rfl h) (fun _ => ?_)
    clear hK K
    refine wpBut_done (by kernel_rfl) ?_
    refine NoPanic.normal ?_
    exact ⟨rfl, HEN.out X KX hbX⟩
  case hdone =>
    subst hact
    intro D Z W hD hI hdef
    have HDf : Hid (W.heap[D]? = some (.deferred (some []))) := hdef
    have HKW : Hid (Kp w W Nul) := hI.kp
    have HDD : Hid (w.heap.size ≤ D) := by show _ ≤ _; omega
    have y0 : W.cell? ⟨w.heap.size, 0, none⟩ = some (.int .i64 (flS L : Nat)) := by
      have := hI.c.cell (i := 0) rfl
      rw [List.take_length, flS_eq (nodup_of_strict HKs.out) (HG.out.once.imp (fun {x y} q e => q (by rw [e]))) HKm.out] at this
      exact this
    clear hI hdef hD HI0 hgA k6
    go_wp2_with fail
    refine ⟨by simp, .inl ⟨_, _, rfl, run_takeDeferred HDf.out, ?_⟩⟩
    refine ⟨_, results_tmp rfl _ _ _, rfl, ?_⟩
    exact putObj_kp HKW.out HDD.out
end Go.Proofs.YtdaoingmiabbcaaGreatDoor
namespace Go.Proofs.YtdaoingmiabbcaaGreatDoor
open Go.RowKit Go.Maps Go.Sort Go.Lib Go.Shelf
attribute [local go_sem] Oper.semAt_some

set_option maxRecDepth 100000 in
set_option maxHeartbeats 16000000 in
theorem in1_seq3 (g x0 x1 A : Nat) (L K : List Cc) (w : World) (S : Nat → Prop) (hg : GI 0 w g L) (hF : GridIn w (fun b => b < A) g L) (gL : ∀ x ∈ L, Gd x.2) (hv : ∀ x ∈ L, vC x.1.1 x.1.2 = true) (lL : L.length ≤ 4096)
    (hK : Strict (K.map (·.1))) (hKL : ∀ x, x ∈ K ↔ x ∈ L) (hA : A ≤ w.heap.size) (hS : ∀ i, S i → A ≤ i) (b0 : Blk w x0 [.pointer (some ⟨g, 0, none⟩)] 29) (b1 : Blk w x1 [.int .i64 1, .int .i64 1, .int .i64 256, .int .i64 4096] 26) :
    SeqOw3 Tryz.prog 61 #[.pointer (some ⟨x0, 0, none⟩), .pointer (some ⟨x1, 0, none⟩)] encQ wtQ (TellQ w K) K.length S w := by
  intro J Jx Z W hkw hsz hJ _ hJz hY hj0
  have c0 : W.cell? ⟨x0, 0, none⟩ = some (.pointer (some ⟨g, 0, none⟩)) := (b0.kp hkw (fun x => x)).cell rfl
  have d0 : W.cell? ⟨x1, 0, none⟩ = some (.int .i64 1) := (b1.kp hkw (fun x => x)).cell rfl
  have d1 : W.cell? ⟨x1, 1, none⟩ = some (.int .i64 1) := (b1.kp hkw (fun x => x)).cell rfl
  have d2 : W.cell? ⟨x1, 2, none⟩ = some (.int .i64 256) := (b1.kp hkw (fun x => x)).cell rfl
  have d3 : W.cell? ⟨x1, 3, none⟩ = some (.int .i64 4096) := (b1.kp hkw (fun x => x)).cell rfl
  have HWi : Hid (Calls Tryz.prog 62 #[.pointer (some ⟨g, 0, none⟩), .agg #[.int .i64 1, .int .i64 1, .int .i64 256, .int .i64 4096]] W fun e w' => ∃ b ys, e = .returned (.slice (some ⟨b, 0, none⟩) ys.length ys.length) ∧ WiR W w' (fun b => b < A) L b ys) := within_at g _ L W (hg.kp hkw) (hF.kp hkw) gL hv lL
  have HSZ : Hid (w.heap.size + 2 ≤ W.heap.size) := hsz
  have HJ : Hid (∀ k Z W W', J k Z W → Kp W W' Nul → J k Z W') := hJ
  have HJZ : Hid (∀ k Z W, J k Z W → (∀ i, Z i → i < W.heap.size) ∧ ∀ i, i < w.heap.size → Z i → S i) := hJz
  have HY : Hid (∀ m k x Z W1, k < K.length → J k Z W1 → TellQ w K k x Z W1 → YieldAt Fence.wide m Tryz.prog (w.heap.size + 1) (encQ x) W1 fun e W' => (e = .returned (.bool true) ∧ (∃ Z', J (k + 1) Z' W' ∧ More Z Z' W1) ∧ Kp W1 W' (fun i => (Z i ∨ wtQ x i) ∨ i = w.heap.size + 1)) ∨ (e = .returned (.bool false) ∧ Jx W')) := hY
  have HJ0 : Hid (J 0 Z W) := hj0
  have HGd : Hid (∀ x ∈ L, Gd x.2) := gL
  have HA : Hid (A ≤ w.heap.size) := hA
  have HS : Hid (∀ i, S i → A ≤ i) := hS
  have HKK : Hid (∀ ys : List (Cc × Value), Strict (ys.map (·.1.1)) → (∀ x, x ∈ ys.map (·.1) ↔ x ∈ L) → ys.map (·.1) = K) := fun ys h1 h2 => same_in_order (by rw [List.map_map]; exact h1) hK (fun x => (h2 x).trans (hKL x).symm)
  have HLK : Hid (K.length ≤ 4096) := by
    have hnd : (K.map (·.1)).Nodup := strict_nodup hK
    have := nodup_le _ (L.map (·.1)) hnd (fun x hx => by
      obtain ⟨y, hy, rfl⟩ := List.mem_map.1 hx
      exact List.mem_map.2 ⟨y, (hKL y).1 hy, rfl⟩)
    rw [List.length_map, List.length_map] at this
    show _ ≤ _; omega
  clear hkw hsz hJ hJz hY hj0 hg hF gL hv lL hK hKL hA hS b0 b1
  simp only [List.append_toArray, List.cons_append, List.nil_append]
  refine (callsIn_wide (n := 8)).1 ?_
  refine callsIn_of_wp Tryz.func61 rfl trivial ?_ rfl
  simp only [Tryz.ntmps61, List.size_toArray, List.length_cons, List.length_nil, Nat.reduceAdd, Nat.reduceSub, Array.replicate_succ, Array.replicate_zero, List.push_toArray, List.append_toArray, List.nil_append, List.cons_append]
  gi_wp2_with (fail)
  refine ⟨trivial, (callsIn_wide.2 HWi.out).mono ?_⟩
  rintro e w2 ⟨b, ys, rfl, hwi⟩
  have HW2 : Hid (WiR W w2 (fun b => b < A) L b ys) := hwi
  have HYK : Hid (ys.map (·.1) = K) := HKK.out ys hwi.strict hwi.mem
  have hlen : ys.length = K.length := by rw [← HYK.out, List.length_map]
  clear hwi c0 d0 d1 d2 d3 HKK
  rw [hlen]
  generalize hn : K.length = n at *
  have HLEN : Hid (ys.length = n) := hlen
  have HN : Hid (K.length = n) := hn
  clear hn hlen
  gi_wp2_with (fail)
  gi_loopw [12] (fun i wr => ∃ (q : Nat) (Z : Nat → Prop), q ≤ n ∧ i = .int .i64 q ∧ J q Z wr ∧ InR W A b ys Z wr) (fun i _ => n - (RowKit.intOf i).toNat)
  case atStart =>
    refine ⟨0, Z, Nat.zero_le _, rfl, HJ.out _ _ _ _ HJ0.out HW2.out.kp, ?_⟩
    exact ⟨fun h => by have h1 := (HJZ.out _ _ _ HJ0.out).1 b h; have h2 := HW2.out.low; omega, HW2.out.rng, HW2.out.tree, HW2.out.kp.size⟩
  case round =>
    obtain ⟨q, Zq, hq, rfl, hjq, hin⟩ := hrel
    have HJQ : Hid (J q Zq wr) := hjq
    have HIN : Hid (InR W A b ys Zq wr) := hin
    clear hjq hin
    by_cases hlt : q < n
    · have hqt : q < ys.length := by rw [HLEN.out]; exact hlt
      obtain ⟨⟨⟨⟨c, s⟩, a⟩, sa⟩, hys⟩ : ∃ y, ys[q] = y := ⟨_, rfl⟩
      have hget : ys[q]? = some (((c, s), a), sa) := by rw [List.getElem?_eq_getElem hqt, hys]
      have HR : Hid (wr.rangeAt b (q * 23) (ptCells ((c, s), a) sa)) := HIN.out.rng q _ hget
      have htree : NdIn wr (fun i => i < A) sa a.t := HIN.out.tree _ (List.mem_of_getElem? hget)
      have O1 : Hid (sa.oneCell' = true) := htree.one
      have hKq : K[q]? = some ((c, s), a) := by rw [← HYK.out, List.getElem?_map, hget]; rfl
      have HKQ : Hid (K[q]? = some ((c, s), a)) := hKq
      have hgd : Gd a := HGd.out _ ((HW2.out.mem _).1 (List.mem_map.2 ⟨_, List.mem_of_getElem? hget, rfl⟩))
      have hbl : b < wr.heap.size := rangeAt_lt HR.out
      have HBL : Hid (b < wr.heap.size) := hbl
      have B5 : Blk (wr.alloc (.cells (ptCells ((c, s), a) sa).toArray 72)) wr.heap.size (ptCells ((c, s), a) sa) 72 := Blk.new wr _ _
      have HAt : Hid (∀ wq, Kp (wr.alloc (.cells (ptCells ((c, s), a) sa).toArray 72)) wq Nul → wq.rangeAt wr.heap.size 0 [.int .i64 c, .int .i64 s]) := fun wq k j v hj => by
        match j, hj with
        | 0, hj => cases hj; exact (B5.kp k (fun x => x)).cell rfl
        | 1, hj => cases hj; exact (B5.kp k (fun x => x)).cell rfl
      have HCo : Hid (∀ wq, Kp (wr.alloc (.cells (ptCells ((c, s), a) sa).toArray 72)) wq Nul → wq.rangeAt wr.heap.size 2 (a.cells sa)) := fun wq k j v hj => by
        refine (B5.kp k (fun x => x)).cell ?_
        show (ptCells ((c, s), a) sa)[2 + j]? = some v
        rw [Nat.add_comm 2 j]; exact hj
      have HCp : Hid (∀ wq, Kp (wr.alloc (.cells (ptCells ((c, s), a) sa).toArray 72)) wq Nul → Calls Tryz.prog 40 #[.agg (a.cells sa).toArray] wq fun e w' => ∃ sl', e = .returned (.agg (a.cells sl').toArray) ∧ (∃ fp, Own w' wq.heap.size sl' a.t fp) ∧ Kp wq w' Nul) := fun wq k => by
        have hk : Kp wr wq Nul := ((Kp.refl wr Nul).alloc _).trans k
        refine (gCopy_at a sa (fun i => i < A) wq hgd.x hgd.size hgd.ok (htree.kp hk (fun _ _ x => x))).mono ?_
        rintro e w' ⟨sl', fp, rfl, h1, h2⟩
        rw [hgd.cp] at h1 ⊢
        exact ⟨sl', rfl, ⟨fp, h1⟩, Kp.of_below h2⟩
      have hkb : (q : Int) + 1 ≤ 9223372036854775807 := by have := HLK.out; omega
      have hq0 : (0 : Int) ≤ (q : Int) := by omega
      have hqn : (q : Int) < (n : Int) := by omega
      clear hqt hys hget htree hKq hgd hbl B5
      gi_wp2_with (first
        | (refine loadIn_put rfl (.tmp 14) rfl b (q * 23) rfl (ptCells ((c, s), a) sa) HR.out rfl ?_)
        | (refine storeIn_new' rfl 72 (.tmp 5) (.tmp 15) rfl _ _ _ _ (by first | rfl | simp) rfl rfl rfl infoPut (all_oneCell_toArray (pt_one _ O1.out)) ?_)
        | fail)
      refine regIn_noPanic ?_
      refine wpIn_region_any (by kernel_rfl) ?_
      refine any_take (i := 0) (.func (.yield (w.heap.size + 1)) #[] #[]) (some 16) rfl rfl (by kernel_rfl) (by kernel_rfl) (by kernel_rfl) (fun _ _ _ h => h) rfl (fun _ => rfl) (fun _ => by go_simp) ?_
      simp only [Act.put, List.setIfInBounds_toArray, List.set_cons_zero, List.set_cons_succ]
      refine any_take (i := 1) (.pointer (some ⟨wr.heap.size, 0, none⟩)) (some 17) rfl rfl (by kernel_rfl) (by kernel_rfl) (by kernel_rfl) (fun _ _ _ h => h) rfl (fun _ => rfl) (fun _ => by go_simp) ?_
      simp only [Act.put, List.setIfInBounds_toArray, List.set_cons_zero, List.set_cons_succ]
      refine any_take (i := 3) (.pointer (some ⟨wr.heap.size, 2, none⟩)) (some 19) rfl rfl (by kernel_rfl) (by kernel_rfl) (by kernel_rfl) (fun _ _ _ h => h) rfl (fun _ => rfl) (fun _ => by go_simp) ?_
      simp only [Act.put, List.setIfInBounds_toArray, List.set_cons_zero, List.set_cons_succ]
      refine wpAnyIn_ready (rs := [2, 4]) (by kernel_rfl) (by simp) ?_
      intro i hi
      rcases List.mem_cons.1 hi with rfl | hi
      · clear hi
        refine any_val (v := .agg #[.int .i64 c, .int .i64 s]) (some 18) rfl rfl rfl rfl (fun c h => by cases h) (w' := (wr.alloc (.cells (ptCells ((c, s), a) sa).toArray 72)).drew) (exec_load_row 24 (.tmp 17) rfl wr.heap.size 0 rfl [.int .i64 c, .int .i64 s] _ (HAt.out (wr.alloc (.cells (ptCells ((c, s), a) sa).toArray 72)).drew ((Kp.refl _ _).drew)) Tryz.underlying24 rfl infoAddr2) ?_
        simp only [Act.put, List.setIfInBounds_toArray, List.set_cons_zero, List.set_cons_succ]
        refine wpAnyIn_ready (rs := [4]) (by kernel_rfl) (by simp) ?_
        intro i hi
        obtain rfl := List.mem_singleton.1 hi
        clear hi
        refine any_val (v := .agg (a.cells sa).toArray) (some 20) rfl rfl rfl rfl (fun c h => by cases h) (w' := (wr.alloc (.cells (ptCells ((c, s), a) sa).toArray 72)).drew) (exec_load_row 51 (.tmp 19) rfl wr.heap.size 2 rfl (a.cells sa) _ (HCo.out _ ((Kp.refl _ _).drew)) Tryz.underlying51 rfl infoContent) ?_
        simp only [Act.put, List.setIfInBounds_toArray, List.set_cons_zero, List.set_cons_succ]
        refine wpAnyIn_ready (rs := [5]) (by kernel_rfl) (by simp) ?_
        intro i hi
        obtain rfl := List.mem_singleton.1 hi
        clear hi
        refine any_call (f := 40) (args := #[.agg (a.cells sa).toArray]) (some 21) rfl rfl rfl (by decide) (fun c h => by cases h) (w' := (wr.alloc (.cells (ptCells ((c, s), a) sa).toArray 72)).drew) (by go_simp) ?_
        refine (HCp.out _ ((Kp.refl _ _).drew)).mono ?_
        rintro e w4 ⟨s4, rfl, ⟨f4, ho4⟩, hk4⟩
        refine ⟨_, rfl, ?_⟩
        simp only [Act.put, List.setIfInBounds_toArray, List.set_cons_zero, List.set_cons_succ]
        refine wpAnyIn_ready (rs := [6]) (by kernel_rfl) (by simp) ?_
        intro i hi
        obtain rfl := List.mem_singleton.1 hi
        clear hi
        have hK4 : Kp wr w4 Nul := ((Kp.refl wr Nul).alloc _).drew.trans hk4
        have hs5 : (wr.alloc (.cells (ptCells ((c, s), a) sa).toArray 72)).drew.heap.size = wr.heap.size + 1 := World.size_alloc _ _
        obtain ⟨fn, tms, asg, bod, hy, hR⟩ := HY.out 7 q ((((c, s), a), s4), f4) Zq w4 hlt (HJ.out _ _ _ _ HJQ.out hK4) ⟨HKQ.out, ho4.own, ho4.nodup, fun i hi => by
          have h1 := (ho4.new i hi).1
          have h2 := HSZ.out
          have h3 := HIN.out.size
          exact ⟨by omega, fun hz => by have := (HJZ.out _ _ _ HJQ.out).1 i hz; omega⟩⟩
        refine any_round (l := w.heap.size + 1) (f := fn) (tms := tms) (asg := asg) (bod := bod) (some 22) rfl rfl rfl (by decide) (fun c h => by cases h) (w' := w4) ?_ ?_
        · first
          | (go_simp; done)
          | (go_simp; exact hy)
        refine hR.mono ?_
        rintro e w6 (⟨rfl, ⟨Z6, hj6, hm6⟩, hk6⟩ | ⟨rfl, hx6⟩)
        rotate_left
        · have HX6 : Hid (Jx w6) := hx6
          refine ⟨_, rfl, ?_⟩
          simp only [Act.put, List.setIfInBounds_toArray, List.set_cons_zero, List.set_cons_succ]
          clear hy hR hx6 hk4 ho4 hK4 hs5
          refine wpAnyIn_ready (rs := [7]) (by kernel_rfl) (by simp) ?_
          intro i hi
          obtain rfl := List.mem_singleton.1 hi
          clear hi
          refine any_val (v := .bool true) (some 23) rfl rfl rfl rfl (fun c h => by cases h) (w' := w6) (by go_simp) ?_
          simp only [Act.put, List.setIfInBounds_toArray, List.set_cons_zero, List.set_cons_succ]
          refine wpAnyIn_done (by kernel_rfl) ?_ _
          refine NoPanic.normal ?_
          gi_wp2_with (fail)
          refine bodyPost_ret (res_none rfl _ _) rfl ?_
          exact ⟨⟨_, rfl⟩, .inr HX6.out⟩
        refine ⟨_, rfl, ?_⟩
        simp only [Act.put, List.setIfInBounds_toArray, List.set_cons_zero, List.set_cons_succ]
        have HJ6 : Hid (J (q + 1) Z6 w6) := hj6
        have HIN6 : Hid (InR W A b ys Z6 w6) := by
          have k6 : Kp wr w6 (fun i => (Zq i ∨ i ∈ f4) ∨ i = w.heap.size + 1) := hK4.of_nul.trans hk6
          have hbl := HBL.out
          have hb2 := HW2.out.low
          have hb3 := HSZ.out
          refine ⟨fun hz => ?_, fun i y hy => rangeAt_kp (HIN.out.rng i y hy) k6 (fun e => ?_), fun y hy => (HIN.out.tree y hy).kp k6 (fun i hi e => ?_), Nat.le_trans HIN.out.size k6.size⟩
          · rcases hm6 b hz with h | h
            · exact HIN.out.nz h
            · have h1 := HBL.out
              have h2 := hK4.size
              omega
          · rcases e with (e | e) | e
            · exact HIN.out.nz e
            · have := (ho4.new _ e).1; omega
            · omega
          · have hi' : i < A := hi
            have h1 := HA.out
            rcases e with (e | e) | e
            · have := HS.out i ((HJZ.out _ _ _ HJQ.out).2 i (by omega) e)
              omega
            · have := (ho4.new _ e).1; have := HIN.out.size; omega
            · omega
        clear hy hR hj6 hm6 hk6 hk4 ho4 hK4 hs5
        refine wpAnyIn_ready (rs := [7]) (by kernel_rfl) (by simp) ?_
        intro i hi
        obtain rfl := List.mem_singleton.1 hi
        clear hi
        refine any_val (v := .bool false) (some 23) rfl rfl rfl rfl (fun c h => by cases h) (w' := w6) (by go_simp) ?_
        simp only [Act.put, List.setIfInBounds_toArray, List.set_cons_zero, List.set_cons_succ]
        refine wpAnyIn_done (by kernel_rfl) ?_ _
        refine NoPanic.normal ?_
        gi_wp2_with (fail)
        exact ⟨⟨q + 1, Z6, by omega, by go_num, HJ6.out, HIN6.out⟩, by simp only [RowKit.intOf]; omega⟩
      · obtain rfl := List.mem_singleton.1 hi
        clear hi
        refine any_val (v := .agg (a.cells sa).toArray) (some 20) rfl rfl rfl rfl (fun c h => by cases h) (w' := (wr.alloc (.cells (ptCells ((c, s), a) sa).toArray 72)).drew) (exec_load_row 51 (.tmp 19) rfl wr.heap.size 2 rfl (a.cells sa) _ (HCo.out _ ((Kp.refl _ _).drew)) Tryz.underlying51 rfl infoContent) ?_
        simp only [Act.put, List.setIfInBounds_toArray, List.set_cons_zero, List.set_cons_succ]
        refine wpAnyIn_ready (rs := [2, 5]) (by kernel_rfl) (by simp) ?_
        intro i hi
        rcases List.mem_cons.1 hi with rfl | hi
        · clear hi
          refine any_val (v := .agg #[.int .i64 c, .int .i64 s]) (some 18) rfl rfl rfl rfl (fun c h => by cases h) (w' := (wr.alloc (.cells (ptCells ((c, s), a) sa).toArray 72)).drew) (exec_load_row 24 (.tmp 17) rfl wr.heap.size 0 rfl [.int .i64 c, .int .i64 s] _ (HAt.out (wr.alloc (.cells (ptCells ((c, s), a) sa).toArray 72)).drew ((Kp.refl _ _).drew)) Tryz.underlying24 rfl infoAddr2) ?_
          simp only [Act.put, List.setIfInBounds_toArray, List.set_cons_zero, List.set_cons_succ]
          refine wpAnyIn_ready (rs := [5]) (by kernel_rfl) (by simp) ?_
          intro i hi
          obtain rfl := List.mem_singleton.1 hi
          clear hi
          refine any_call (f := 40) (args := #[.agg (a.cells sa).toArray]) (some 21) rfl rfl rfl (by decide) (fun c h => by cases h) (w' := (wr.alloc (.cells (ptCells ((c, s), a) sa).toArray 72)).drew) (by go_simp) ?_
          refine (HCp.out _ ((Kp.refl _ _).drew)).mono ?_
          rintro e w4 ⟨s4, rfl, ⟨f4, ho4⟩, hk4⟩
          refine ⟨_, rfl, ?_⟩
          simp only [Act.put, List.setIfInBounds_toArray, List.set_cons_zero, List.set_cons_succ]
          refine wpAnyIn_ready (rs := [6]) (by kernel_rfl) (by simp) ?_
          intro i hi
          obtain rfl := List.mem_singleton.1 hi
          clear hi
          have hK4 : Kp wr w4 Nul := ((Kp.refl wr Nul).alloc _).drew.trans hk4
          have hs5 : (wr.alloc (.cells (ptCells ((c, s), a) sa).toArray 72)).drew.heap.size = wr.heap.size + 1 := World.size_alloc _ _
          obtain ⟨fn, tms, asg, bod, hy, hR⟩ := HY.out 7 q ((((c, s), a), s4), f4) Zq w4 hlt (HJ.out _ _ _ _ HJQ.out hK4) ⟨HKQ.out, ho4.own, ho4.nodup, fun i hi => by
            have h1 := (ho4.new i hi).1
            have h2 := HSZ.out
            have h3 := HIN.out.size
            exact ⟨by omega, fun hz => by have := (HJZ.out _ _ _ HJQ.out).1 i hz; omega⟩⟩
          refine any_round (l := w.heap.size + 1) (f := fn) (tms := tms) (asg := asg) (bod := bod) (some 22) rfl rfl rfl (by decide) (fun c h => by cases h) (w' := w4) ?_ ?_
          · first
            | (go_simp; done)
            | (go_simp; exact hy)
          refine hR.mono ?_
          rintro e w6 (⟨rfl, ⟨Z6, hj6, hm6⟩, hk6⟩ | ⟨rfl, hx6⟩)
          rotate_left
          · have HX6 : Hid (Jx w6) := hx6
            refine ⟨_, rfl, ?_⟩
            simp only [Act.put, List.setIfInBounds_toArray, List.set_cons_zero, List.set_cons_succ]
            clear hy hR hx6 hk4 ho4 hK4 hs5
            refine wpAnyIn_ready (rs := [7]) (by kernel_rfl) (by simp) ?_
            intro i hi
            obtain rfl := List.mem_singleton.1 hi
            clear hi
            refine any_val (v := .bool true) (some 23) rfl rfl rfl rfl (fun c h => by cases h) (w' := w6) (by go_simp) ?_
            simp only [Act.put, List.setIfInBounds_toArray, List.set_cons_zero, List.set_cons_succ]
            refine wpAnyIn_done (by kernel_rfl) ?_ _
            refine NoPanic.normal ?_
            gi_wp2_with (fail)
            refine bodyPost_ret (res_none rfl _ _) rfl ?_
            exact ⟨⟨_, rfl⟩, .inr HX6.out⟩
          refine ⟨_, rfl, ?_⟩
          simp only [Act.put, List.setIfInBounds_toArray, List.set_cons_zero, List.set_cons_succ]
          have HJ6 : Hid (J (q + 1) Z6 w6) := hj6
          have HIN6 : Hid (InR W A b ys Z6 w6) := by
            have k6 : Kp wr w6 (fun i => (Zq i ∨ i ∈ f4) ∨ i = w.heap.size + 1) := hK4.of_nul.trans hk6
            have hbl := HBL.out
            have hb2 := HW2.out.low
            have hb3 := HSZ.out
            refine ⟨fun hz => ?_, fun i y hy => rangeAt_kp (HIN.out.rng i y hy) k6 (fun e => ?_), fun y hy => (HIN.out.tree y hy).kp k6 (fun i hi e => ?_), Nat.le_trans HIN.out.size k6.size⟩
            · rcases hm6 b hz with h | h
              · exact HIN.out.nz h
              · have h1 := HBL.out
                have h2 := hK4.size
                omega
            · rcases e with (e | e) | e
              · exact HIN.out.nz e
              · have := (ho4.new _ e).1; omega
              · omega
            · have hi' : i < A := hi
              have h1 := HA.out
              rcases e with (e | e) | e
              · have := HS.out i ((HJZ.out _ _ _ HJQ.out).2 i (by omega) e)
                omega
              · have := (ho4.new _ e).1; have := HIN.out.size; omega
              · omega
          clear hy hR hj6 hm6 hk6 hk4 ho4 hK4 hs5
          refine wpAnyIn_ready (rs := [7]) (by kernel_rfl) (by simp) ?_
          intro i hi
          obtain rfl := List.mem_singleton.1 hi
          clear hi
          refine any_val (v := .bool false) (some 23) rfl rfl rfl rfl (fun c h => by cases h) (w' := w6) (by go_simp) ?_
          simp only [Act.put, List.setIfInBounds_toArray, List.set_cons_zero, List.set_cons_succ]
          refine wpAnyIn_done (by kernel_rfl) ?_ _
          refine NoPanic.normal ?_
          gi_wp2_with (fail)
          exact ⟨⟨q + 1, Z6, by omega, by go_num, HJ6.out, HIN6.out⟩, by simp only [RowKit.intOf]; omega⟩
        · obtain rfl := List.mem_singleton.1 hi
          clear hi
          refine any_call (f := 40) (args := #[.agg (a.cells sa).toArray]) (some 21) rfl rfl rfl (by decide) (fun c h => by cases h) (w' := (wr.alloc (.cells (ptCells ((c, s), a) sa).toArray 72)).drew) (by go_simp) ?_
          refine (HCp.out _ ((Kp.refl _ _).drew)).mono ?_
          rintro e w4 ⟨s4, rfl, ⟨f4, ho4⟩, hk4⟩
          refine ⟨_, rfl, ?_⟩
          simp only [Act.put, List.setIfInBounds_toArray, List.set_cons_zero, List.set_cons_succ]
          refine wpAnyIn_ready (rs := [2]) (by kernel_rfl) (by simp) ?_
          intro i hi
          obtain rfl := List.mem_singleton.1 hi
          clear hi
          refine any_val (v := .agg #[.int .i64 c, .int .i64 s]) (some 18) rfl rfl rfl rfl (fun c h => by cases h) (w' := w4) (exec_load_row 24 (.tmp 17) rfl wr.heap.size 0 rfl [.int .i64 c, .int .i64 s] _ (HAt.out w4 (((Kp.refl _ _).drew).trans hk4)) Tryz.underlying24 rfl infoAddr2) ?_
          simp only [Act.put, List.setIfInBounds_toArray, List.set_cons_zero, List.set_cons_succ]
          refine wpAnyIn_ready (rs := [6]) (by kernel_rfl) (by simp) ?_
          intro i hi
          obtain rfl := List.mem_singleton.1 hi
          clear hi
          have hK4 : Kp wr w4 Nul := ((Kp.refl wr Nul).alloc _).drew.trans hk4
          have hs5 : (wr.alloc (.cells (ptCells ((c, s), a) sa).toArray 72)).drew.heap.size = wr.heap.size + 1 := World.size_alloc _ _
          obtain ⟨fn, tms, asg, bod, hy, hR⟩ := HY.out 7 q ((((c, s), a), s4), f4) Zq w4 hlt (HJ.out _ _ _ _ HJQ.out hK4) ⟨HKQ.out, ho4.own, ho4.nodup, fun i hi => by
            have h1 := (ho4.new i hi).1
            have h2 := HSZ.out
            have h3 := HIN.out.size
            exact ⟨by omega, fun hz => by have := (HJZ.out _ _ _ HJQ.out).1 i hz; omega⟩⟩
          refine any_round (l := w.heap.size + 1) (f := fn) (tms := tms) (asg := asg) (bod := bod) (some 22) rfl rfl rfl (by decide) (fun c h => by cases h) (w' := w4) ?_ ?_
          · first
            | (go_simp; done)
            | (go_simp; exact hy)
          refine hR.mono ?_
          rintro e w6 (⟨rfl, ⟨Z6, hj6, hm6⟩, hk6⟩ | ⟨rfl, hx6⟩)
          rotate_left
          · have HX6 : Hid (Jx w6) := hx6
            refine ⟨_, rfl, ?_⟩
            simp only [Act.put, List.setIfInBounds_toArray, List.set_cons_zero, List.set_cons_succ]
            clear hy hR hx6 hk4 ho4 hK4 hs5
            refine wpAnyIn_ready (rs := [7]) (by kernel_rfl) (by simp) ?_
            intro i hi
            obtain rfl := List.mem_singleton.1 hi
            clear hi
            refine any_val (v := .bool true) (some 23) rfl rfl rfl rfl (fun c h => by cases h) (w' := w6) (by go_simp) ?_
            simp only [Act.put, List.setIfInBounds_toArray, List.set_cons_zero, List.set_cons_succ]
            refine wpAnyIn_done (by kernel_rfl) ?_ _
            refine NoPanic.normal ?_
            gi_wp2_with (fail)
            refine bodyPost_ret (res_none rfl _ _) rfl ?_
            exact ⟨⟨_, rfl⟩, .inr HX6.out⟩
          refine ⟨_, rfl, ?_⟩
          simp only [Act.put, List.setIfInBounds_toArray, List.set_cons_zero, List.set_cons_succ]
          have HJ6 : Hid (J (q + 1) Z6 w6) := hj6
          have HIN6 : Hid (InR W A b ys Z6 w6) := by
            have k6 : Kp wr w6 (fun i => (Zq i ∨ i ∈ f4) ∨ i = w.heap.size + 1) := hK4.of_nul.trans hk6
            have hbl := HBL.out
            have hb2 := HW2.out.low
            have hb3 := HSZ.out
            refine ⟨fun hz => ?_, fun i y hy => rangeAt_kp (HIN.out.rng i y hy) k6 (fun e => ?_), fun y hy => (HIN.out.tree y hy).kp k6 (fun i hi e => ?_), Nat.le_trans HIN.out.size k6.size⟩
            · rcases hm6 b hz with h | h
              · exact HIN.out.nz h
              · have h1 := HBL.out
                have h2 := hK4.size
                omega
            · rcases e with (e | e) | e
              · exact HIN.out.nz e
              · have := (ho4.new _ e).1; omega
              · omega
            · have hi' : i < A := hi
              have h1 := HA.out
              rcases e with (e | e) | e
              · have := HS.out i ((HJZ.out _ _ _ HJQ.out).2 i (by omega) e)
                omega
              · have := (ho4.new _ e).1; have := HIN.out.size; omega
              · omega
          clear hy hR hj6 hm6 hk6 hk4 ho4 hK4 hs5
          refine wpAnyIn_ready (rs := [7]) (by kernel_rfl) (by simp) ?_
          intro i hi
          obtain rfl := List.mem_singleton.1 hi
          clear hi
          refine any_val (v := .bool false) (some 23) rfl rfl rfl rfl (fun c h => by cases h) (w' := w6) (by go_simp) ?_
          simp only [Act.put, List.setIfInBounds_toArray, List.set_cons_zero, List.set_cons_succ]
          refine wpAnyIn_done (by kernel_rfl) ?_ _
          refine NoPanic.normal ?_
          gi_wp2_with (fail)
          exact ⟨⟨q + 1, Z6, by omega, by go_num, HJ6.out, HIN6.out⟩, by simp only [RowKit.intOf]; omega⟩
    · have hqe : q = n := by omega
      subst hqe
      have hqn : ¬ ((q : Int) < (q : Int)) := by omega
      have HJN : Hid (∃ Z', J q Z' wr) := ⟨_, HJQ.out⟩
      gi_wp2_with (fail)
      go_end0
      exact ⟨⟨_, rfl⟩, .inl (by rw [HN.out]; exact HJN.out)⟩
end Go.Proofs.YtdaoingmiabbcaaGreatDoor
namespace Go.Proofs.YtdaoingmiabbcaaGreatDoor
open Go.RowKit Go.Maps Go.Sort Go.Lib Go.Shelf
attribute [local go_sem] Oper.semAt_some

theorem take_more {α : Type} {l : List α} {k : Nat} {x : α} {P : α → Prop} (hx : l[k]? = some x) (h : ∀ y ∈ l.take k, P y) (h1 : P x) : ∀ y ∈ l.take (k + 1), P y := by
  intro y hy
  rw [List.take_add_one, hx, List.mem_append] at hy
  rcases hy with q | q
  · exact h y q
  · have : y = x := by simpa using q
    rw [this]; exact h1
end Go.Proofs.YtdaoingmiabbcaaGreatDoor
namespace Go.Proofs.YtdaoingmiabbcaaGreatDoor
open Go.RowKit

/-- A content's formula: what may be, or nothing that names a cell. -/
theorem gd_fe {a : Ct} (h : Gd a) : a.t.fe false = 0 ∨ zeroN a.t = true := by
  have hv := h.val
  unfold gv validC at hv
  simp only [Bool.or_eq_true, Bool.and_eq_true, beq_iff_eq] at hv
  rcases hv with (q | q) | q
  · exact absurd q.1 h.k
  · exact .inr q.2.2
  · refine .inl ?_
    have := q.2.2
    unfold chk at this
    split at this
    · omega
    · split at this
      · omega
      · exact this
theorem alC_then {f g h : Fate} (hf : FateOk f) {a : Ct} (ha : Gd a) (hq : a.t.fe false = 0 → nmAll (fun d => Then f g h (nmA d)) a.t) : alC g (alC f a) = alC h a := by
  unfold alC
  simp only [Ct.mk.injEq, true_and]
  rcases gd_fe ha with q | q
  · exact al_then hf a.t false q (hq q)
  · rw [alN_zero f q, alN_zero g q, alN_zero h q]
theorem alC_stay (a : Ct) : alC stayF a = a := by unfold alC; rw [al_stay]
/-- Of a formula of which nothing is lost, what f does to it. -/
def keepsC (f : Fate) (a : Ct) : Prop := a.t.fe false = 0 → keepsN f a.t
theorem flC_le (f : Fate) {a : Ct} (ha : Gd a) : fl a.t ≤ fl (alC f a).t ∧ (fl (alC f a).t = fl a.t → keepsC f a) := by
  rcases gd_fe ha with q | q
  · have := fl_al f a.t false q
    exact ⟨this.1, fun e _ => this.2 e⟩
  · have e : (alC f a).t = a.t := alN_zero f q
    rw [e]
    refine ⟨Nat.le_refl _, fun _ h => ?_⟩
    obtain ⟨h1, h2⟩ := zeroN_k q
    rw [Nd.eta a.t, keepsN, h2, keepsL]
    exact ⟨fun z => by omega, trivial⟩
theorem flS_br {f : Fate} : ∀ {L : List Cc}, (∀ x ∈ L, Gd x.2) → (∀ x ∈ L, f (x.1, x.1) ≠ none) → flS L ≤ flS (brL f L) ∧ (flS (brL f L) = flS L → ∀ x ∈ L, keepsC f x.2)
  | [], _, _ => by
    refine ⟨by unfold brL; exact Nat.le_refl _, fun _ x hx => ?_⟩
    simp at hx
  | x :: L, hg, hn => by
    have ih := flS_br (f := f) (L := L) (fun y hy => hg y (List.mem_cons_of_mem _ hy)) (fun y hy => hn y (List.mem_cons_of_mem _ hy))
    have h1 := flC_le f (hg x List.mem_cons_self)
    have hx := hn x List.mem_cons_self
    cases e : f (x.1, x.1) with
    | none => exact absurd e hx
    | some b =>
      have eb : brL f (x :: L) = (b.1, alC f x.2) :: brL f L := by
        unfold brL
        rw [List.filterMap_cons, e]
        rfl
      rw [eb, flS, flS]
      refine ⟨by have := ih.1; have := h1.1; show _ ≤ fl (alC f x.2).t + _; omega, fun q y hy => ?_⟩
      have q' : fl (alC f x.2).t + flS (brL f L) = fl x.2.t + flS L := q
      rcases List.mem_cons.1 hy with rfl | hy
      · exact h1.2 (by have := ih.1; have := h1.1; omega)
      · exact ih.2 (by have := ih.1; have := h1.1; omega) y hy
/-- Lists of the same cells. -/
theorem eqC_mem {A B : List Cc} (ha : A.Nodup) (hb : B.Nodup) (h : ∀ y, y ∈ A ↔ y ∈ B) : EqC A B := by
  haveI : DecidableEq Cc := fun a b => Classical.propDecidable _
  refine ⟨Nat.le_antisymm (nodup_le _ _ ha (fun y q => (h y).1 q)) (nodup_le _ _ hb (fun y q => (h y).2 q)), fun k a q => ⟨a, (h _).1 q, csame_refl a⟩⟩
theorem once_nodup {A : List Cc} (h : A.Pairwise (fun x y => x.1 ≠ y.1)) : A.Nodup := h.imp (fun {x y} q e => q (by rw [e]))
/-- What is known of a grid that was brought. -/
structure Br (f : Fate) (L M : List Cc) : Prop where
  ok : Ok17 M
  once : M.Pairwise (fun x y => x.1 ≠ y.1)
  mem : ∀ y, y ∈ M ↔ y ∈ brL f L
section
variable {cols : Bool} {k p q : Int} {L M1 M2 M3 M4 M5 M6 M7 : List Cc}
end
end Go.Proofs.YtdaoingmiabbcaaGreatDoor
namespace Go.Proofs.YtdaoingmiabbcaaGreatDoor
open Go.RowKit

/-- Does a node name a cell of an area? -/
def hitH (B : Ar4) (h : Hd) : Bool := (h.k == 5 && inB B (h.c1, h.r1)) || (h.k == 6 && mtO B.1.1 B.1.2 B.2.1 B.2.2 h.c1 h.r1 h.c2 h.r2)
mutual
/-- Does a formula? -/
def hitN (B : Ar4) : Nd → Bool
  | .mk h ts => hitH B h || hitL B ts
def hitL (B : Ar4) : List Nd → Bool
  | [] => false
  | t :: ts => hitN B t || hitL B ts
end
/-- The law's 'empty'. -/
def emptyS (B : Ar4) (L : List Cc) : Bool := !(L.any fun x => inB B x.1 || hitN B x.2.t)
mutual
theorem nmAll_hit {Q : Hd → Prop} {B : Ar4} (hQ : ∀ h : Hd, (h.k = 5 ∨ h.k = 6) → lnIn h → hitH B h = false → Q h) : ∀ (t : Nd) (c : Bool), t.fe c = 0 → hitN B t = false → nmAll Q t
  | .mk h ts, c, h0, hl => by
    obtain ⟨hin, _⟩ := fe_lnIn h0
    obtain ⟨_, c', hfl⟩ := fe_own h0
    rw [hitN, Bool.or_eq_false_iff] at hl
    rw [nmAll]
    exact ⟨fun q => hQ h q hin hl.1, nmAllL_hit hQ ts c' hfl hl.2⟩
theorem nmAllL_hit {Q : Hd → Prop} {B : Ar4} (hQ : ∀ h : Hd, (h.k = 5 ∨ h.k = 6) → lnIn h → hitH B h = false → Q h) : ∀ (ts : List Nd) (c : Bool), feL ts c = 0 → hitL B ts = false → nmAllL Q ts
  | [], _, _, _ => by rw [nmAllL]; trivial
  | t :: ts, c, h0, hl => by
    rw [feL] at h0
    rw [hitL, Bool.or_eq_false_iff] at hl
    rw [nmAllL]
    by_cases ht : t.fe c = 0
    · rw [if_neg (by rw [ht]; decide)] at h0
      exact ⟨nmAll_hit hQ t c ht hl.1, nmAllL_hit hQ ts c h0 hl.2⟩
    · rw [if_pos ht] at h0; exact absurd h0 ht
end
theorem mvOk.back {A B : Ar4} (h : mvOk A B) : mvOk B A := ⟨h.b, h.a, h.c.symm, h.r.symm⟩
theorem mvP_in {A B : Ar4} (h : mvOk A B) (p : Int × Int) : inB B (mvP A B p) = inB A p := by
  have hc := h.c
  have hr := h.r
  rw [Bool.eq_iff_iff, inB_iff h.b, inB_iff h.a]
  unfold mvP
  simp only
  omega
theorem mvP_back (A B : Ar4) (p : Int × Int) : mvP B A (mvP A B p) = p := by
  unfold mvP
  simp only
  refine Prod.ext ?_ ?_
  · simp only; omega
  · simp only; omega
/-- There and back, of what does not lie there altogether. -/
theorem mv_then {A B : Ar4} (h : mvOk A B) {a : Ar4} (hb : ¬ (inB B a.1 && inB B a.2) = true) : Then (mvF A B) (mvF B A) stayF a := by
  unfold Then stayF
  unfold mvF
  by_cases q : (inB A a.1 && inB A a.2) = true
  · rw [if_pos q, Option.bind_some]
    have q2 : (inB B (mvP A B a.1) && inB B (mvP A B a.2)) = true := by rw [mvP_in h, mvP_in h]; exact q
    rw [if_pos q2, mvP_back, mvP_back]
  · rw [if_neg q, if_neg hb, Option.bind_some, if_neg hb, if_neg q]
/-- A cell's fate. -/
theorem mv_cell (A B : Ar4) (p : Int × Int) : mvF A B (p, p) = if inB A p = true then some (mvP A B p, mvP A B p) else if inB B p = true then none else some (p, p) := by
  unfold mvF
  simp only [Bool.and_self]
theorem hit_in {B : Ar4} (hB : Ar4.ok B = true) {h : Hd} (hk : h.k = 5 ∨ h.k = 6) (hi : lnIn h) (hh : hitH B h = false) : ¬ (inB B (nmA h).1 && inB B (nmA h).2) = true := by
  intro q
  rw [Bool.and_eq_true, inB_iff hB, inB_iff hB] at q
  unfold hitH at hh
  rw [Bool.or_eq_false_iff] at hh
  have hb := (ar_ok B).1 hB
  rcases hk with e | e
  · have h1 := hh.1
    unfold nmA at q
    rw [if_neg (show ¬ h.k = 6 by omega)] at q
    have : inB B (h.c1, h.r1) = true := (inB_iff hB _).2 q.1
    rw [this, e] at h1
    simp at h1
  · have h2 := hh.2
    obtain ⟨i1, i2, i3, i4, i5, i6⟩ := hi.2 e
    unfold nmA at q
    rw [if_pos e] at q
    simp only at q
    have : mtO B.1.1 B.1.2 B.2.1 B.2.2 h.c1 h.r1 h.c2 h.r2 = true := by
      unfold mtO
      rw [Bool.and_eq_true, Bool.and_eq_true]
      refine ⟨⟨hB, ?_⟩, ?_⟩
      · have := (ar_ok ((h.c1, h.r1), (h.c2, h.r2))).2 ⟨i1, i2, i3, i4, i5, i6⟩
        exact this
      · have := (ar_ok ((max B.1.1 h.c1, max B.1.2 h.r1), (min B.2.1 h.c2, min B.2.2 h.r2))).2 (by simp only; omega)
        exact this
    rw [this, e] at h2
    simp at h2
section
variable {A B : Ar4} {L M N : List Cc}
theorem emptyS_mem (h : emptyS B L = true) : ∀ x ∈ L, inB B x.1 = false ∧ hitN B x.2.t = false := by
  intro x hx
  unfold emptyS at h
  simp only [Bool.not_eq_true'] at h
  rw [List.any_eq_false] at h
  have := h x hx
  simpa [Bool.or_eq_false_iff] using this
theorem there_ct (h : mvOk A B) {a : Ct} (ha : Gd a) (hn : hitN B a.t = false) : alC (mvF B A) (alC (mvF A B) a) = a := by
  rw [alC_then (mvF_ok h) (h := stayF) ha (fun h0 => nmAll_hit (fun d hk hi hh => mv_then h (hit_in h.b hk hi hh)) a.t false h0 hn), alC_stay]
theorem there_none (he : emptyS B L = true) : ∀ x ∈ L, mvF A B (x.1, x.1) ≠ none := by
  intro x hx e
  rw [mv_cell] at e
  have hb := (emptyS_mem he x hx).1
  by_cases q : inB A x.1 = true
  · rw [if_pos q] at e; cases e
  · rw [if_neg q, if_neg (by rw [hb]; decide)] at e; cases e
theorem there_cell (h : mvOk A B) {p : Int × Int} {b : Ar4} (hb : inB B p = false) (e : mvF A B (p, p) = some b) : mvF B A (b.1, b.1) = some (p, p) := by
  have ht := mv_then h (a := (p, p)) (by rw [hb]; decide)
  unfold Then stayF at ht
  rw [e, Option.bind_some] at ht
  rw [show (b.1, b.1) = b from Prod.ext rfl ((mvF_ok h).cell p b e)]
  exact ht
/-- Moved there and back is the grid. -/
theorem there_eq (h : mvOk A B) (hL : Ok17 L) (ho : L.Pairwise (fun x y => x.1 ≠ y.1)) (he : emptyS B L = true) (h1 : Br (mvF A B) L M) (h2 : Br (mvF B A) M N) : EqC N L := by
  refine eqC_mem (once_nodup h2.once) (once_nodup ho) (fun y => ?_)
  rw [h2.mem, brL_mem]
  constructor
  · rintro ⟨z, hz, b, hb, rfl⟩
    obtain ⟨x, hx, b1, hb1, rfl⟩ := brL_mem.1 ((h1.mem z).1 hz)
    have hm := emptyS_mem he x hx
    have hc := there_cell h hm.1 hb1
    have : some b = some (x.1, x.1) := hb.symm.trans hc
    injection this with this
    rw [this, there_ct h (hL.gd x hx) hm.2]
    exact hx
  · intro hy
    have hm := emptyS_mem he y hy
    cases e : mvF A B (y.1, y.1) with
    | none => exact absurd e (there_none he y hy)
    | some b1 => exact ⟨(b1.1, alC (mvF A B) y.2), (h1.mem _).2 (brL_mem.2 ⟨y, hy, b1, e, rfl⟩), (y.1, y.1), there_cell h hm.1 e, by rw [there_ct h (hL.gd y hy) hm.2]⟩
theorem brL_nodup {f : Fate} {L : List Cc} (hi : FateInj f) (hL : Ok17 L) (ho : L.Pairwise (fun x y => x.1 ≠ y.1)) : (brL f L).Nodup := by
  unfold brL List.Nodup
  rw [List.pairwise_filterMap]
  refine (List.Pairwise.and_mem.1 ho).imp ?_
  rintro x y ⟨hx, hy, hne⟩ b hb b' hb' e'
  rw [Option.map_eq_some_iff] at hb hb'
  obtain ⟨u, hu, rfl⟩ := hb
  obtain ⟨u', hu', rfl⟩ := hb'
  exact hi x.1 y.1 u u' (hL.at' x hx) (hL.at' y hy) hne hu hu' (Prod.mk.inj e').1
theorem Br.fl_le {f : Fate} {L M : List Cc} (h : Br f L M) (hi : FateInj f) (hL : Ok17 L) (ho : L.Pairwise (fun x y => x.1 ≠ y.1)) (hn : ∀ x ∈ L, f (x.1, x.1) ≠ none) : Go.Proofs.YtdaoingmiabbcaaGreatDoor.flS L ≤ Go.Proofs.YtdaoingmiabbcaaGreatDoor.flS M := by
  rw [flS_eq (once_nodup h.once) (brL_nodup hi hL ho) h.mem]
  exact (flS_br hL.gd hn).1
theorem brL_short {f : Fate} : ∀ {L : List Cc}, (brL f L).length ≤ L.length ∧ ((brL f L).length = L.length → ∀ x ∈ L, f (x.1, x.1) ≠ none)
  | [] => by
    refine ⟨by unfold brL; simp, fun _ x hx => ?_⟩
    simp at hx
  | x :: L => by
    have ih := brL_short (f := f) (L := L)
    cases e : f (x.1, x.1) with
    | none =>
      have eb : brL f (x :: L) = brL f L := by
        unfold brL
        rw [List.filterMap_cons, e]
        rfl
      rw [eb, List.length_cons]
      exact ⟨by omega, fun q => by omega⟩
    | some b =>
      have eb : brL f (x :: L) = (b.1, alC f x.2) :: brL f L := by
        unfold brL
        rw [List.filterMap_cons, e]
        rfl
      rw [eb, List.length_cons, List.length_cons]
      refine ⟨by omega, fun q y hy => ?_⟩
      rcases List.mem_cons.1 hy with rfl | hy
      · rw [e]; exact fun z => by cases z
      · exact ih.2 (by omega) y hy
/-- As many cells: as many faults, or more. -/
theorem move_lost (h : mvOk A B) (hL : Ok17 L) (ho : L.Pairwise (fun x y => x.1 ≠ y.1)) (h1 : Br (mvF A B) L M) (hl : M.length = L.length) : flS L ≤ flS M := by
  refine h1.fl_le (mvF_inj h) hL ho (brL_short.2 ?_)
  rw [brL_len (mvF_inj h) hL.at' ho (fun x => Iff.rfl) h1.once h1.mem, hl]
/-- There and back: as many faults. -/
theorem there_lost (h : mvOk A B) (hL : Ok17 L) (ho : L.Pairwise (fun x y => x.1 ≠ y.1)) (he : emptyS B L = true) (h1 : Br (mvF A B) L M) (h2 : Br (mvF B A) M N) : flS M = flS L := by
  have q1 := h1.fl_le (mvF_inj h) hL ho (there_none he)
  have hn2 : ∀ y ∈ M, mvF B A (y.1, y.1) ≠ none := fun y hy e => by
    obtain ⟨x, hx, b, hb, rfl⟩ := brL_mem.1 ((h1.mem y).1 hy)
    rw [there_cell h (emptyS_mem he x hx).1 hb] at e
    cases e
  have q2 := h2.fl_le (mvF_inj h.back) h1.ok h1.once hn2
  have q3 : flS N = flS L := by
    refine flS_eq (once_nodup h2.once) (once_nodup ho) (fun y => ?_)
    rw [h2.mem, brL_mem]
    constructor
    · rintro ⟨z, hz, b, hb, rfl⟩
      obtain ⟨x, hx, b1, hb1, rfl⟩ := brL_mem.1 ((h1.mem z).1 hz)
      have hm := emptyS_mem he x hx
      have : some b = some (x.1, x.1) := hb.symm.trans (there_cell h hm.1 hb1)
      injection this with this
      rw [this, there_ct h (hL.gd x hx) hm.2]
      exact hx
    · intro hy
      have hm := emptyS_mem he y hy
      cases e : mvF A B (y.1, y.1) with
      | none => exact absurd e (there_none he y hy)
      | some b1 => exact ⟨(b1.1, alC (mvF A B) y.2), (h1.mem _).2 (brL_mem.2 ⟨y, hy, b1, e, rfl⟩), (y.1, y.1), there_cell h hm.1 e, by rw [there_ct h (hL.gd y hy) hm.2]⟩
  omega
/-- Where what is now at a cell came from: no cell, where nothing is there. -/
theorem move_now (h : mvOk A B) (h1 : Br (mvF A B) L M) (c : Int × Int) (a : Ct) : (c, a) ∈ M ↔ (if inB B c = true then ∃ a', (mvP B A c, a') ∈ L ∧ a = alC (mvF A B) a' else ¬ inB A c = true ∧ ∃ a', (c, a') ∈ L ∧ a = alC (mvF A B) a') := by
  rw [h1.mem, brL_mem]
  constructor
  · rintro ⟨x, hx, b, hb, e⟩
    obtain ⟨e1, e2⟩ := Prod.mk.inj e
    rw [mv_cell] at hb
    by_cases q : inB A x.1 = true
    · rw [if_pos q] at hb
      injection hb with hb
      have ec : c = mvP A B x.1 := by rw [e1, ← hb]
      rw [if_pos (by rw [ec, mvP_in h]; exact q)]
      exact ⟨x.2, by rw [ec, mvP_back]; exact hx, e2⟩
    · rw [if_neg q] at hb
      by_cases q2 : inB B x.1 = true
      · rw [if_pos q2] at hb; cases hb
      · rw [if_neg q2] at hb
        injection hb with hb
        have ec : c = x.1 := by rw [e1, ← hb]
        rw [if_neg (by rw [ec]; exact q2)]
        exact ⟨by rw [ec]; exact q, x.2, by rw [ec]; exact hx, e2⟩
  · intro hc
    by_cases q : inB B c = true
    · rw [if_pos q] at hc
      obtain ⟨a', h1, h2⟩ := hc
      refine ⟨_, h1, (mvP A B (mvP B A c), mvP A B (mvP B A c)), ?_, ?_⟩
      · rw [mv_cell, if_pos (by rw [mvP_in h.back]; exact q)]
      · rw [mvP_back, h2]
    · rw [if_neg q] at hc
      obtain ⟨hA, a', h1, h2⟩ := hc
      refine ⟨_, h1, (c, c), ?_, ?_⟩
      · rw [mv_cell, if_neg hA, if_neg q]
      · rw [h2]
end
end Go.Proofs.YtdaoingmiabbcaaGreatDoor
namespace Go.Proofs.YtdaoingmiabbcaaGreatDoor
open Go.RowKit Go.Shelf
attribute [local go_sem] Oper.semAt_some

/-- What Get tells. -/
def Rd (L : List Cc) (p : Int × Int) (u : Ct) : Prop := (p, u) ∈ L ∨ (u = ct0 ∧ ∀ a, (p, a) ∉ L)
theorem get_any (g : Nat) (M : List Cc) (w : World) (hg : GI 0 w g M) (hM : Ok17 M) (c s : Int) (hc : I64 c) (hs : I64 s) :
    ∃ u, Rd M (c, s) u ∧ u.v.x < 18446744073709551616 ∧ u.t.ok ∧ ∀ wq, Kp w wq Nul → Calls Tryz.prog 13 #[.pointer (some ⟨g, 0, none⟩), .agg #[.int .i64 c, .int .i64 s]] wq fun e w' => ∃ sl' fp, e = .returned (u.val sl') ∧ Own w' wq.heap.size sl' u.t fp ∧ Kp wq w' Nul := by
  obtain ⟨mv, bo⟩ := hg.blk
  obtain ⟨a', sa, bb, hlk, hinA, hax, hao, hasz, hacp, hcase⟩ := look_ct hg hM.gd hc hs bo
  refine ⟨a', ?_, hax, hao, fun wq0 k0 => ?_⟩
  · rcases hcase with ⟨_, h⟩ | ⟨_, h1, _, h2⟩
    · exact .inl h
    · exact .inr ⟨h1, h2⟩
  · have hg2 : GI 0 wq0 g M := GridIn.kp hg k0
    obtain ⟨mv2, bo2⟩ := hg2.blk
    obtain ⟨b', sb, bb2, hlk2, hinB, hbx, hbo, hbsz, hbcp, hcase2⟩ := look_ct hg2 hM.gd hc hs bo2
    have e : b' = a' := by
      rcases hcase with ⟨_, h⟩ | ⟨_, h1, _, h2⟩
      · rcases hcase2 with ⟨_, h'⟩ | ⟨_, _, _, h2'⟩
        · exact once_eq hg.once h' h
        · exact absurd h (h2' _)
      · rcases hcase2 with ⟨_, h'⟩ | ⟨_, h1', _, h2'⟩
        · exact absurd h' (h2 _)
        · rw [h1, h1']
    subst e
    refine get_own g c s mv2 (b'.val sb) bb2 b' wq0 hlk2 (fun wq k => ?_)
    refine (gCopy_at b' sb (fun b => 0 ≤ b) wq hbx hbsz hbo (hinB.kp k (fun _ _ x => x))).mono ?_
    rintro e w' ⟨sl', fp, rfl, h1, h2⟩
    rw [hbcp] at h1 ⊢
    exact ⟨sl', fp, rfl, h1, Kp.of_below h2⟩
section
variable {A B : Ar4} {L M : List Cc}
theorem ct0_k : ct0.k = 0 := rfl
theorem rd_no {p : Int × Int} {u : Ct} (h : Rd L p u) (hn : ∀ a, (p, a) ∉ L) : u = ct0 := by
  rcases h with h | h
  · exact absurd h (hn u)
  · exact h.1
theorem rd_in {p : Int × Int} {u a : Ct} (ho : L.Pairwise (fun x y => x.1 ≠ y.1)) (h : Rd L p u) (ha : (p, a) ∈ L) : u = a := by
  rcases h with h | h
  · exact once_eq ho h ha
  · exact absurd ha (h.2 a)
/-- What is now at a cell, beside what was there, or where it came from. -/
theorem now_was (h : mvOk A B) (hL : Ok17 L) (h1 : Br (mvF A B) L M) (c : Int × Int) (was now : Ct) (hn : Rd M c now)
    (hw : if inB B c = true then Rd L (mvP B A c) was else if inB A c = true then was = ct0 else Rd L c was) : now.k = was.k ∧ (was.k = 1 → Gd was ∧ Gd now ∧ csame now was = true) := by
  have key : ∀ p, (∀ a, (c, a) ∈ M ↔ ∃ a', (p, a') ∈ L ∧ a = alC (mvF A B) a') → Rd L p was → now.k = was.k ∧ (was.k = 1 → Gd was ∧ Gd now ∧ csame now was = true) := by
    intro p hp hr
    rcases hr with hr | ⟨rfl, hr⟩
    · have hm : (c, alC (mvF A B) was) ∈ M := (hp _).2 ⟨was, hr, rfl⟩
      have e := rd_in h1.once hn hm
      subst e
      refine ⟨rfl, fun hk => ?_⟩
      have hg := hL.gd _ hr
      have e2 : alC (mvF A B) was = was := alC_plain _ hg.val (by omega)
      exact ⟨hg, h1.ok.gd _ hm, by rw [e2]; exact csame_refl was⟩
    · have e := rd_no hn (fun a ha => by
        obtain ⟨a', h2, _⟩ := (hp a).1 ha
        exact hr a' h2)
      subst e
      exact ⟨rfl, fun hk => by rw [ct0_k] at hk; omega⟩
  by_cases q : inB B c = true
  · rw [if_pos q] at hw
    refine key _ (fun a => ?_) hw
    rw [move_now h h1, if_pos q]
  · rw [if_neg q] at hw
    by_cases q2 : inB A c = true
    · rw [if_pos q2] at hw
      subst hw
      have e := rd_no hn (fun a ha => by
        rw [move_now h h1, if_neg q] at ha
        exact ha.1 q2)
      subst e
      exact ⟨rfl, fun hk => by rw [ct0_k] at hk; omega⟩
    · rw [if_neg q2] at hw
      refine key _ (fun a => ?_) hw
      rw [move_now h h1, if_neg q]
      exact ⟨fun x => x.2, fun x => ⟨q2, x⟩⟩
end
/-- The cells of A1:L12. -/
def c12 (k : Nat) : Int × Int := (1 + (k % 12 : Nat), 1 + (k / 12 : Nat))
theorem c12_at (x y : Nat) (hx : x < 12) : c12 (y * 12 + x) = (1 + (x : Int), 1 + (y : Int)) := by
  unfold c12
  refine Prod.ext ?_ ?_
  · simp only; omega
  · simp only; omega
abbrev encX (x : Int × Int) : Array Value := #[.agg #[.int .i64 x.1, .int .i64 x.2]]
def Tell12 (k : Nat) (x : Int × Int) (_ : Nat → Prop) (_ : World) : Prop := x = c12 k
set_option maxHeartbeats 1000000 in
theorem cellsB (a b c d : Int) (w : World) : Calls Tryz.prog 33 #[.agg #[.int .i64 a, .int .i64 b, .int .i64 c, .int .i64 d]] w fun e w' => ∃ p, e = .returned (.func (.func 59) #[] #[.pointer (some ⟨p, 0, none⟩)]) ∧ Blk w' p [.int .i64 a, .int .i64 b, .int .i64 c, .int .i64 d] 26 ∧ Kp w w' Nul := by
  go_enter Tryz.func33, Tryz.ntmps33
  go_wp2_with fail
  go_ret
  exact ⟨_, rfl, Blk.new w _ _, (Kp.refl _ _).alloc _⟩
set_option maxHeartbeats 1000000 in
theorem cellsL (a b c d : Int) (w : World) : Calls Tryz.prog 11 #[.agg #[.int .i64 a, .int .i64 b, .int .i64 c, .int .i64 d]] w fun e w' => ∃ p, e = .returned (.func (.func 59) #[] #[.pointer (some ⟨p, 0, none⟩)]) ∧ Blk w' p [.int .i64 a, .int .i64 b, .int .i64 c, .int .i64 d] 26 ∧ Kp w w' Nul := by
  have HC : Hid (∀ wq, Calls Tryz.prog 33 #[.agg #[.int .i64 a, .int .i64 b, .int .i64 c, .int .i64 d]] wq fun e w' => ∃ p, e = .returned (.func (.func 59) #[] #[.pointer (some ⟨p, 0, none⟩)]) ∧ Blk w' p [.int .i64 a, .int .i64 b, .int .i64 c, .int .i64 d] 26 ∧ Kp wq w' Nul) := fun wq => cellsB a b c d wq
  go_enter Tryz.func11, Tryz.ntmps11
  go_wp2_with fail
  refine (HC.out _).mono ?_
  rintro e w1 ⟨p, rfl, h1, h2⟩
  have HH : Hid (Blk w1 p [.int .i64 a, .int .i64 b, .int .i64 c, .int .i64 d] 26 ∧ Kp w w1 Nul) := ⟨h1, ((Kp.refl w Nul).alloc _).trans h2⟩
  clear h1 h2 HC
  have hn1 := eq_nilA 59
  go_wp2_with fail
  go_ret
  exact ⟨_, rfl, HH.out⟩
set_option maxRecDepth 100000 in
set_option maxHeartbeats 8000000 in
theorem cells12_own (Bn : Nat) (w : World) (hB : Blk w Bn [.int .i64 1, .int .i64 1, .int .i64 12, .int .i64 12] 26) (S : Nat → Prop) (hS : ¬ S Bn) : SeqOwn Tryz.prog 59 #[.pointer (some ⟨Bn, 0, none⟩)] encX Tell12 144 S w := by
  intro J Z W hkW hsz hJ hJZ hY h0
  have HV : Hid (∀ w, Calls Tryz.prog 41 #[.agg #[.int .i64 1, .int .i64 1, .int .i64 12, .int .i64 12]] w fun e w' => e = .returned (.bool true) ∧ Kp w w' Nul) := fun w => (pValidArea_any 1 1 12 12 w).mono fun e w' h => ⟨h.1, Kp.of_gr h.2⟩
  have hBlt : Bn < w.heap.size := hB.lt
  have HBk : Hid (∀ k Z W1 W', J k Z W1 → Kp W1 W' (fun i => Z i ∨ i = w.heap.size + 1) → Blk W1 Bn [.int .i64 1, .int .i64 1, .int .i64 12, .int .i64 12] 26 → Blk W' Bn [.int .i64 1, .int .i64 1, .int .i64 12, .int .i64 12] 26) := fun k Z W1 W' hj hk hb => hb.kp hk (fun e => by
    rcases e with e | e
    · exact hS ((hJZ _ _ _ hj).2 _ hBlt e)
    · omega)
  have HB : Hid (Blk W Bn [.int .i64 1, .int .i64 1, .int .i64 12, .int .i64 12] 26) := hB.kp hkW (fun x => x)
  have HJ : Hid (∀ k Z W W', J k Z W → Kp W W' Nul → J k Z W') := hJ
  have HJ0 : Hid (J 0 Z W) := h0
  have HY : Hid (∀ m k x Z W1, k < 144 → J k Z W1 → Tell12 k x Z W1 → YieldAt Fence.wide m Tryz.prog (w.heap.size + 1) (encX x) W1 fun e W' => e = .returned (.bool true) ∧ (∃ Z', J (k + 1) Z' W' ∧ More Z Z' W1) ∧ Kp W1 W' (fun i => Z i ∨ i = w.heap.size + 1)) := hY
  obtain ⟨l, hl⟩ : ∃ l, w.heap.size + 1 = l := ⟨_, rfl⟩
  rw [hl] at HY HBk ⊢
  clear hB hkW hsz hJ hJZ hY h0 hl hBlt hS
  refine (callsIn_wide (n := 9)).1 ?_
  refine callsIn_of_wp Tryz.func59 rfl trivial ?_ rfl
  simp only [Tryz.ntmps59, List.size_toArray, List.length_cons, List.length_nil, Nat.reduceAdd, Nat.reduceSub, Array.replicate_succ, Array.replicate_zero, List.push_toArray, List.append_toArray, List.nil_append, List.cons_append]
  have a0 : W.cell? ⟨Bn, 0, none⟩ = some (.int .i64 1) := HB.out.cell rfl
  have a1 : W.cell? ⟨Bn, 1, none⟩ = some (.int .i64 1) := HB.out.cell rfl
  have a2 : W.cell? ⟨Bn, 2, none⟩ = some (.int .i64 12) := HB.out.cell rfl
  have a3 : W.cell? ⟨Bn, 3, none⟩ = some (.int .i64 12) := HB.out.cell rfl
  gi_wp2_with (fail)
  refine ⟨trivial, (callsIn_wide.2 (HV.out _)).mono ?_⟩
  rintro e W1 ⟨rfl, hk⟩
  have J1 : Hid (∃ Z, J 0 Z W1) := ⟨Z, HJ.out 0 Z W W1 HJ0.out hk⟩
  have A1 : Hid (Blk W1 Bn [.int .i64 1, .int .i64 1, .int .i64 12, .int .i64 12] 26) := HB.out.kp hk (fun x => x)
  clear hk a0 a1 a2 a3 HJ0 HJ HB HV
  have a0 : W1.cell? ⟨Bn, 0, none⟩ = some (.int .i64 1) := A1.out.cell rfl
  have a1 : W1.cell? ⟨Bn, 1, none⟩ = some (.int .i64 1) := A1.out.cell rfl
  have a2 : W1.cell? ⟨Bn, 2, none⟩ = some (.int .i64 12) := A1.out.cell rfl
  have a3 : W1.cell? ⟨Bn, 3, none⟩ = some (.int .i64 12) := A1.out.cell rfl
  gi_wp2_with (fail)
  clear a0 a1 a2 a3
  gi_loopw [3, 4] (fun sr sc wr => ∃ y : Nat, y ≤ 12 ∧ sr = .int .i64 (1 + y) ∧ (∃ Z, J (y * 12) Z wr) ∧ Blk wr Bn [.int .i64 1, .int .i64 1, .int .i64 12, .int .i64 12] 26) (fun sr _ _ => (13 - intOf sr).toNat)
  case atStart => exact ⟨0, Nat.zero_le _, by simp, J1.out, A1.out⟩
  case round =>
    obtain ⟨y, hy, rfl, hJs, hnx⟩ := hrel
    have JS : Hid (∃ Z, J (y * 12) Z wr) := hJs
    have NX : Hid (Blk wr Bn [.int .i64 1, .int .i64 1, .int .i64 12, .int .i64 12] 26) := hnx
    clear hJs hnx
    have c0 : wr.cell? ⟨Bn, 0, none⟩ = some (.int .i64 1) := NX.out.cell rfl
    have c3 : wr.cell? ⟨Bn, 3, none⟩ = some (.int .i64 12) := NX.out.cell rfl
    by_cases hlt : y < 12
    · have hys : (1 : Int) + (y : Int) ≤ 12 := by omega
      gi_wp2_with (fail)
      clear c0 c3
      gi_loopw [4] (fun sc wq => ∃ x : Nat, x ≤ 12 ∧ sc = .int .i64 (1 + x) ∧ (∃ Z, J (y * 12 + x) Z wq) ∧ Blk wq Bn [.int .i64 1, .int .i64 1, .int .i64 12, .int .i64 12] 26) (fun sc _ => (13 - intOf sc).toNat)
      case atStart => exact ⟨0, Nat.zero_le _, by simp, JS.out, NX.out⟩
      case round =>
        clear JS NX
        obtain ⟨x, hx, rfl, hJs, hnx⟩ := hrel
        have NX : Hid (Blk wr Bn [.int .i64 1, .int .i64 1, .int .i64 12, .int .i64 12] 26) := hnx
        obtain ⟨Zq, hJs⟩ := hJs
        have JS : Hid (J (y * 12 + x) Zq wr) := hJs
        clear hJs hnx
        have c2 : wr.cell? ⟨Bn, 2, none⟩ = some (.int .i64 12) := NX.out.cell rfl
        by_cases hlx : x < 12
        · have hxs : (1 : Int) + (x : Int) ≤ 12 := by omega
          obtain ⟨fn, tmps, assign, body, hy', hR⟩ := HY.out (9 - 1) (y * 12 + x) (1 + (x : Int), 1 + (y : Int)) Zq wr (by omega) JS.out (c12_at x y hlx).symm
          dsimp only [encX] at hy'
          gi_wp2_with (fail)
          refine hR.mono ?_
          rintro e W3 ⟨rfl, ⟨Z3, hJ3, _⟩, hk3⟩
          have J3 : Hid (∃ Z, J (y * 12 + (x + 1)) Z W3) := ⟨Z3, hJ3⟩
          have K3 : Hid (Blk W3 Bn [.int .i64 1, .int .i64 1, .int .i64 12, .int .i64 12] 26) := HBk.out _ _ _ _ JS.out hk3 NX.out
          clear hJ3 hk3
          gi_wp2_with (fail)
          go_roundw
          case rel => exact ⟨x + 1, by omega, by go_num, J3.out, K3.out⟩
          case measure => simp only [intOf]; omega
        · have hxe : x = 12 := by omega
          subst hxe
          have JE : Hid (∃ Z, J ((y + 1) * 12) Z wr) := ⟨Zq, by rw [Nat.add_mul, Nat.one_mul]; exact JS.out⟩
          gi_wp2_with (fail)
          go_roundw
          case rel => exact ⟨y + 1, by omega, by go_num, JE.out, NX.out⟩
          case measure => simp only [intOf]; omega
    · have hye : y = 12 := by omega
      subst hye
      gi_wp2_with (fail)
      go_end0
      exact ⟨⟨_, rfl⟩, JS.out⟩
end Go.Proofs.YtdaoingmiabbcaaGreatDoor
