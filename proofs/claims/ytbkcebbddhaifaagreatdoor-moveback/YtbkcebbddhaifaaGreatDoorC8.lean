/- keep: the first content of a grid. Blocks that are known whole. No function of the program here. A region that draws its order, walked by hand: S holds behind each operation. No function of the program here. keep: a grid's first content. -/
import Derived.Test.YtbkcebbddhaifaaGreatDoorC7
import Derived.Test.YtbkcebbddhaifaaGreatDoorC4
import Derived.Deep.RegionHeld3
namespace Go.Proofs.YtbkcebbddhaifaaGreatDoor
open Go.RowKit Go.Maps

theorem Kp.of_turned {w w' : World} {m : Nat} (h : w.mapTurned w' m) : Kp w w' (fun i => i = m) := Kp.of_grown h.grown (fun i e => by cases e; rfl)
theorem ownsMap_le {w : World} {m n n' : Nat} {D : DataW Value} (h : w.ownsMap Tryz.prog 32 rawE m n D) (hn : n ≤ n') : w.ownsMap Tryz.prog 32 rawE m n' D := by
  obtain ⟨es, clock, h1, h2, h3, h4⟩ := h
  exact ⟨es, clock, h1, h2, Nat.le_trans h3 hn, h4⟩
theorem eqIn_nilmap (w : World) (d : Nat) (p : Option Nat) : (Op.equalIn (d + 1) 111 (.map p) (.map none)).run Tryz.prog w = .ok p.isNone w := by
  cases p <;> simp [Op.equalIn, run_underlying Tryz.underlying111]
theorem eq_nilmap (p : Option Nat) (w : World) : (binOp .eql 111 (.map p) (.map none)).run Tryz.prog w = .ok (.bool p.isNone) w := by
  simp only [binOp]
  simp [show Op.equal 111 (.map p) (.map none) = Op.equalIn (9999 + 1) 111 (.map p) (.map none) from rfl, eqIn_nilmap w 9999 p]
theorem key_put {k : TypeId} (K : Keyed Tryz.prog k) {v : Value} {l : Lit} (h : keyOf Tryz.prog k v = some l) {D : DataW Value} (hD : IsMap D) (d : DataW Value) : Maps.has (D.put l d) l = true ∧ ∀ z, (D.put l d).atKey l z = d := ⟨has_put_same hD (K.key h) d, fun z => atKey_put_same hD (K.key h) d z⟩
/-- A map with one content. -/
theorem has_one {w : World} {F : Nat → Prop} {c r : Int} {ct : Ct} {sl : Value} (hc : I64 c) (hr : I64 r) (hin : NdIn w F sl ct.t) :
    MapHas w F ((DataW.map [] : DataW Value).put (kl c r) (.held (ct.val sl))) [((c, r), ct)] := by
  have hk := kl_key hc hr
  have hput := key_put lawAddr hk (D := (.map [] : DataW Value)) ⟨_, rfl⟩ (.held (ct.val sl))
  have hne : ∀ x y, I64 x → I64 y → (x, y) ≠ (c, r) → kl x y ≠ kl c r := fun x y hx hy h e => h (by
    have := kl_inj hx hy hc hr e
    exact Prod.ext this.1 this.2)
  refine ⟨?_, fun x hx => ?_, fun x y hx hy => ?_, fun x y ct' h => ?_, List.pairwise_singleton _ _⟩
  · generalize kl c r = K at *
    have hT : Tidy (DataW.map [] : DataW Value) := by simp [Tidy]
    rw [size_put hT]
    rfl
  · rw [List.mem_singleton] at hx; subst hx; exact ⟨hc, hr⟩
  · by_cases e : (x, y) = (c, r)
    · cases e
      exact ⟨fun _ => ⟨ct, List.mem_singleton.2 rfl⟩, fun _ => hput.1⟩
    · rw [has_put_other (hne x y hx hy e)]
      constructor
      · intro h; cases h
      · rintro ⟨ct', h⟩
        rw [List.mem_singleton] at h
        cases h
        exact absurd rfl e
  · rw [List.mem_singleton] at h
    cases h
    exact ⟨sl, hput.2 _, hin⟩
end Go.Proofs.YtbkcebbddhaifaaGreatDoor
namespace Go.Proofs.YtbkcebbddhaifaaGreatDoor
open Go.RowKit

/-- Block b has just these cells; none is frozen. -/
def Blk (w : World) (b : Nat) (cs : List Value) (t : TypeId) : Prop := w.heap[b]? = some (.cells cs.toArray t (0, 0))
namespace Blk
theorem lt {w : World} {b : Nat} {cs : List Value} {t : TypeId} (h : Blk w b cs t) : b < w.heap.size := by
  rcases Nat.lt_or_ge b w.heap.size with c | c
  · exact c
  · unfold Blk at h; rw [Array.getElem?_eq_none c] at h; cases h
theorem at' {w : World} {b i : Nat} {cs : List Value} {t : TypeId} (h : Blk w b cs t) : w.cell? ⟨b, i, none⟩ = cs[i]? := by
  unfold Blk at h
  simp [World.cell?, h]
theorem cell {w : World} {b i : Nat} {cs : List Value} {t : TypeId} {v : Value} (h : Blk w b cs t) (hi : cs[i]? = some v) : w.cell? ⟨b, i, none⟩ = some v := h.at'.trans hi
theorem froz {w : World} {b : Nat} {cs : List Value} {t : TypeId} (h : Blk w b cs t) (i : Nat) : w.frozen? ⟨b, i, none⟩ = false := by
  unfold Blk at h
  simp [World.frozen?, h]
theorem set {w : World} {b : Nat} {cs : List Value} {t : TypeId} (h : Blk w b cs t) (i : Nat) (v : Value) : Blk (w.setCell ⟨b, i, none⟩ v) b (cs.set i v) t := by
  have := heap_setCell_same w b i cs.toArray t v h
  unfold Blk
  rw [this]
  simp
theorem other {w : World} {b : Nat} {cs : List Value} {t : TypeId} (h : Blk w b cs t) (a : Addr) (v : Value) (hb : b ≠ a.block) : Blk (w.setCell a v) b cs t := by
  unfold Blk
  rw [heap_setCell_other w a b v hb]; exact h
theorem kp {w w' : World} {b : Nat} {cs : List Value} {t : TypeId} {S : Nat → Prop} (h : Blk w b cs t) (g : Kp w w' S) (hb : ¬ S b) : Blk w' b cs t :=
  (g.block b h.lt hb).trans h
theorem gr {w w' : World} {b : Nat} {cs : List Value} {t : TypeId} (h : Blk w b cs t) (g : Gr w w') : Blk w' b cs t := h.kp (S := Nul) (Kp.of_gr g) (fun x => x)
theorem alloc {w : World} {b : Nat} {cs : List Value} {t : TypeId} (h : Blk w b cs t) (o : Obj) : Blk (w.alloc o) b cs t := h.kp (S := Nul) ((Kp.refl w Nul).alloc o) (fun x => x)
theorem drewN {w : World} {b : Nat} {cs : List Value} {t : TypeId} (h : Blk w b cs t) (n : Nat) : Blk (w.drewN n) b cs t := h
theorem drew {w : World} {b : Nat} {cs : List Value} {t : TypeId} (h : Blk w b cs t) : Blk w.drew b cs t := h
theorem ne {w : World} {b b' : Nat} {cs cs' : List Value} {t t' : TypeId} (h : Blk w b cs t) (h' : Blk w b' cs' t') (ht : t ≠ t') : b ≠ b' := by
  intro e; subst e
  unfold Blk at h h'
  rw [h] at h'
  simp only [Option.some.injEq, Obj.cells.injEq] at h'
  exact ht h'.2.1
theorem new (w : World) (cs : List Value) (t : TypeId) : Blk (w.alloc (.cells cs.toArray t)) w.heap.size cs t := heap_alloc_new _ _
theorem new' (w : World) (z : Array Value) (t : TypeId) : Blk (w.alloc (.cells z t)) w.heap.size z.toList t := by
  have := heap_alloc_new w (.cells z t)
  unfold Blk
  rw [this]
end Blk
end Go.Proofs.YtbkcebbddhaifaaGreatDoor
namespace Go.Proofs.YtbkcebbddhaifaaGreatDoor
open Go.RowKit

section
variable {P : Program} {ops : Array Oper} {Q : Exit → Act → World → Prop} {md : Region.Mode} {S : World → Prop}
theorem wpH_takes {i : Nat} {oi : Oper} {v : Value} {n : Nat} {on : Array Bool} {a : Act} {w : World} (d : Option Tmp) (hi : ops[i]? = some oi) (hd : oi.dst = d) (hs : Region.noSelect ops = true) (hf : Region.free md ops on i = true) (hr : (Region.ready md ops on).contains i = true)
    (hQ : ∀ c a w, Q (.panic c) (a.put d v) w → Q (.panic c) a w) (hy : YieldsIf P ops S oi v a) (hS : S w) (h : wpAnyH P md ops Q S n (on.setIfInBounds i true) (a.put d v) w) : wpAnyH P md ops Q S (n + 1) on a w := by
  subst hd
  exact wpAnyH_take hi hs hf hr hQ hy hS h
theorem wpH_step {i : Nat} {o : Oper} {n : Nat} {on : Array Bool} {a : Act} {w : World} (hr : Region.ready md ops on = [i]) (ho : ops[i]? = some o) (hg : o.guard = none)
    (h : ∀ K' : Act → World → Prop, Hid (∀ a w, S w → (S w → wpAnyH P md ops Q S n (on.setIfInBounds i true) a w) → K' a w) → o.wp P a w K' Q) : wpAnyH P md ops Q S (n + 1) on a w := by
  refine wpAnyH_all hr (by simp) (fun j hj => ?_)
  obtain rfl := List.mem_singleton.1 hj
  unfold wpOp
  rw [ho]
  simp only [Region.wanted, hg, if_true]
  exact .inl (h _ (fun a w hS hW => ⟨hS, hW hS⟩))
theorem wp_region_hel {id : Nat} {a : Act} {w : World} (S : World → Prop) (hm : P.follows .mixedOrders = true) (hS : S w.drew) (h : S w.drew → wpAnyH P .any ops Q S ops.size (Array.replicate ops.size false) a w.drew) : (Code.region id ops true).wp P Q a w :=
  wp_region_held hm (h hS)
end
end Go.Proofs.YtbkcebbddhaifaaGreatDoor
namespace Go.Proofs.YtbkcebbddhaifaaGreatDoor
open Go.RowKit Go.Maps

/-- A variable that has a content, loaded whole. -/
theorem exec_load_content {o : Oper} {a : Act} {x : Operand} {g : Nat} {w : World} (cs : Array Value) (ho : o.op = .load 55 x) (hx : a.eval x = .pointer (some ⟨g, 0, none⟩)) (hg : w.heap[g]? = some (.cells cs 55 (0, 0))) (hcs : cs.size = 21) :
    (execOp a.eval o).run Tryz.prog w = .ok (.value (.agg cs)) w := by
  have hl := run_loadVar_row (P := Tryz.prog) w g 55 55 cs (0, 0) _ hg Tryz.underlying55 rfl (by rw [hcs]; exact infoContent)
  unfold execOp
  simp only [ho, hx, Instr.loadAt, Instr.sureAddr, Sem.run_bind, Sem.run_pure, Result.andThen_ok, hl]
set_option maxRecDepth 20000 in
set_option maxHeartbeats 8000000 in
theorem keep_first (g : Nat) (c r : Int) (hc : I64 c) (hr : I64 r) (ct : Ct) (sl : Value) (F : Nat → Prop) (w : World) (hb : Blk w g [.map none] 113) (hF : F g) (hFn : ∀ i, w.heap.size ≤ i → F i) (hin : NdIn w (fun b => F b ∧ b ≠ g ∧ b < w.heap.size) sl ct.t) :
    Calls Tryz.prog 60 #[.pointer (some ⟨g, 0, none⟩), .agg #[.int .i64 c, .int .i64 r], ct.val sl] w fun e w' => e = .returned (.tuple #[]) ∧ GridIn w' F g [((c, r), ct)] ∧ Kp w w' (fun i => i = g) := by
  have hkey := kl_key hc hr
  obtain ⟨W1, hW1⟩ : ∃ W1, (w.alloc (.cells #[.int .i64 c, .int .i64 r] 32)).alloc (.cells (ct.cells sl).toArray 55) = W1 := ⟨_, rfl⟩
  have k1 : Kp w W1 Nul := by rw [← hW1]; exact ((Kp.refl w Nul).alloc _).alloc _
  have s1 : W1.heap.size = w.heap.size + 1 + 1 := by rw [← hW1]; simp
  have hglt : g < w.heap.size := hb.lt
  have hA1 : Blk W1 w.heap.size [.int .i64 c, .int .i64 r] 32 := by rw [← hW1]; exact (Blk.new w [.int .i64 c, .int .i64 r] _).alloc _
  have hC1 : Blk W1 (w.heap.size + 1) (ct.cells sl) 55 := by
    have := Blk.new (w.alloc (.cells #[.int .i64 c, .int .i64 r] 32)) (ct.cells sl) 55
    rw [World.size_alloc] at this
    rw [← hW1]; exact this
  have hb1 := hb.kp k1 (fun x => x)
  obtain ⟨W2, hW2⟩ : ∃ W2, W1.alloc (.map #[] 0) = W2 := ⟨_, rfl⟩
  obtain ⟨W3, hW3⟩ : ∃ W3, W2.setCell ⟨g, 0, none⟩ (.map (some W1.heap.size)) = W3 := ⟨_, rfl⟩
  have k2 : Kp W1 W2 Nul := by rw [← hW2]; exact (Kp.refl W1 Nul).alloc _
  have hlne : W1.heap.size ≠ g := by omega
  have hown2 : W2.ownsMap Tryz.prog 32 rawE W1.heap.size 0 (.map []) := by rw [← hW2]; exact World.ownsMap_made W1 _ _ _
  have hown3 : W3.ownsMap Tryz.prog 32 rawE W1.heap.size 0 (.map []) := by rw [← hW3]; exact hown2.setCell hlne _
  have k3 : Kp W2 W3 (fun i => i = g) := by rw [← hW3]; exact (Kp.refl W2 _).setCell ⟨g, 0, none⟩ _ (.inr rfl)
  have hb2 := hb1.kp k2 (fun x => x)
  have hb3 : Blk W3 g [.map (some W1.heap.size)] 113 := by rw [← hW3]; exact hb2.set 0 _
  have hA3 := (hA1.kp k2 (fun x => x)).kp k3 (by show ¬ w.heap.size = g; omega)
  have hC3 := (hC1.kp k2 (fun x => x)).kp k3 (by show ¬ w.heap.size + 1 = g; omega)
  obtain ⟨W4, hrun, hown4, hturn⟩ := hown3.drew.store lawAddr Tryz.underlying111 (by decide) hkey (val := ct.val sl) (d := .held (ct.val sl)) (ps := []) rfl
  have k4 : Kp W3 W4 (fun i => i = W1.heap.size) := ((Kp.refl W3 _).drew).trans (Kp.of_turned hturn)
  have k03 : Kp w W3 (fun i => i = g) := (k1.trans k2).of_nul.trans' k3 (fun i _ e => e)
  have k04 : Kp w W4 (fun i => i = g) := k03.trans' k4 (fun i hi e => absurd e (by omega))
  have hin4 : NdIn W4 F sl ct.t := hin.mono (fun b hB _ => ⟨k04.block b hB.2.2 hB.2.1, hB.1⟩)
  have hHas := has_one (F := F) hc hr hin4
  have HEND : Hid (GridIn W4 F g [((c, r), ct)] ∧ Kp w W4 (fun i => i = g)) := ⟨⟨hF, .inr ⟨W1.heap.size, _, hb3.kp k4 (by show ¬ g = W1.heap.size; omega), hFn _ (by omega), hlne, ownsMap_le hown4 (by decide), hHas⟩⟩, k04⟩
  have HW1 : Hid ((w.alloc (.cells #[.int .i64 c, .int .i64 r] 32)).alloc (.cells (ct.cells sl).toArray 55) = W1) := hW1
  have HW2 : Hid (W1.alloc (.map #[] 0) = W2) := hW2
  have HW3 : Hid (W2.setCell ⟨g, 0, none⟩ (.map (some W1.heap.size)) = W3) := hW3
  have c1 : W1.cell? ⟨g, 0, none⟩ = some (.map none) := hb1.cell rfl
  have c2 : W2.cell? ⟨g, 0, none⟩ = some (.map none) := hb2.cell rfl
  have f2 : W2.frozen? ⟨g, 0, none⟩ = false := hb2.froz _
  have c3 : W3.cell? ⟨g, 0, none⟩ = some (.map (some W1.heap.size)) := hb3.cell rfl
  have c4 : W3.cell? ⟨w.heap.size, 0, none⟩ = some (.int .i64 c) := hA3.cell rfl
  have c5 : W3.cell? ⟨w.heap.size, 1, none⟩ = some (.int .i64 r) := hA3.cell rfl
  have hmm : (Instr.makeMap 111 none).run Tryz.prog W1 = .ok (.map (some W1.heap.size)) W2 := by rw [← hW2]; rfl
  have HS3 : Hid (W3.cell? ⟨g, 0, none⟩ = some (.map (some (w.heap.size + 1 + 1))) ∧ W3.cell? ⟨w.heap.size, 0, none⟩ = some (.int .i64 c) ∧ W3.cell? ⟨w.heap.size, 1, none⟩ = some (.int .i64 r) ∧ Blk W3 (w.heap.size + 1) (ct.cells sl) 55) := ⟨by rw [← s1]; exact c3, c4, c5, hC3⟩
  have HS4 : Hid (W4.cell? ⟨g, 0, none⟩ = some (.map (some (w.heap.size + 1 + 1))) ∧ W4.cell? ⟨w.heap.size, 0, none⟩ = some (.int .i64 c) ∧ W4.cell? ⟨w.heap.size, 1, none⟩ = some (.int .i64 r) ∧ Blk W4 (w.heap.size + 1) (ct.cells sl) 55) := ⟨by rw [← s1]; exact (hb3.kp k4 (by show ¬ g = W1.heap.size; omega)).cell rfl, (hA3.kp k4 (by show ¬ w.heap.size = W1.heap.size; omega)).cell rfl, (hA3.kp k4 (by show ¬ w.heap.size = W1.heap.size; omega)).cell rfl, hC3.kp k4 (by show ¬ w.heap.size + 1 = W1.heap.size; omega)⟩
  rw [s1] at HW3 c3 hmm hrun
  have hnil := eq_nilmap none
  clear hb hin hF hFn hW2 hW3 k1 k2 k3 k4 k03 k04 hA1 hC1 hA3 hC3 hb1 hb2 hb3 hown2 hown3 hown4 hturn hHas hin4 hkey s1 hlne hglt
  go_enter Tryz.func60, Tryz.ntmps60
  go_wp2_with fail
  rw [HW3.out]
  clear HW1 HW2 HW3 hW1
  refine wp_region_noPanic ?_
  refine wp_region_hel (fun w' : World => w'.cell? ⟨g, 0, none⟩ = some (.map (some (w.heap.size + 1 + 1))) ∧ w'.cell? ⟨w.heap.size, 0, none⟩ = some (.int .i64 c) ∧ w'.cell? ⟨w.heap.size, 1, none⟩ = some (.int .i64 r) ∧ Blk w' (w.heap.size + 1) (ct.cells sl) 55) (by kernel_rfl) (HS3.out) (fun hHeld => ?_)
  have tok0 : True := trivial
  have tok1 : True := trivial
  have tok2 : True := trivial
  have tok3 : True := trivial
  have tok4 : True := trivial
  iterate 5 ((first | (clear tok0; refine wpH_takes (i := 0) (v := ?_) (some 15) rfl rfl (by kernel_rfl) (by kernel_rfl) (by kernel_rfl) (fun _ _ _ h => h) (Or.inl ⟨by rfl, ?_⟩) hHeld ?_) | (clear tok1; refine wpH_takes (i := 1) (v := ?_) (some 16) rfl rfl (by kernel_rfl) (by kernel_rfl) (by kernel_rfl) (fun _ _ _ h => h) (Or.inl ⟨by rfl, ?_⟩) hHeld ?_) | (clear tok2; refine wpH_takes (i := 2) (v := ?_) (some 17) rfl rfl (by kernel_rfl) (by kernel_rfl) (by kernel_rfl) (fun _ _ _ h => h) (Or.inl ⟨by rfl, ?_⟩) hHeld ?_) | (clear tok3; refine wpH_takes (i := 3) (v := ?_) (some 18) rfl rfl (by kernel_rfl) (by kernel_rfl) (by kernel_rfl) (fun _ _ _ h => h) (Or.inl ⟨by rfl, ?_⟩) hHeld ?_) | (clear tok4; refine wpH_takes (i := 4) (v := ?_) (some 19) rfl rfl (by kernel_rfl) (by kernel_rfl) (by kernel_rfl) (fun _ _ _ h => h) (Or.inl ⟨by rfl, ?_⟩) hHeld ?_)); rotate_left; (· intro w hSw; obtain ⟨s0, s1, s2, s3⟩ := hSw; clear s3; go_simp; try with_reducible rfl); simp only [Act.put, List.setIfInBounds_toArray, List.set_cons_zero, List.set_cons_succ])
  refine wpH_takes (i := 5) (v := ct.val sl) (some 20) rfl rfl (by kernel_rfl) (by kernel_rfl) (by kernel_rfl) (fun _ _ _ h => h) (Or.inl ⟨by rfl, fun w' hSw => exec_load_content _ rfl rfl hSw.2.2.2 rfl⟩) hHeld ?_
  simp only [Act.put, List.setIfInBounds_toArray, List.set_cons_zero, List.set_cons_succ]
  generalize ct.val sl = V at *
  refine wpH_step (i := 6) (by kernel_rfl) rfl rfl (fun K hK => ?_)
  go_simp
  refine hK.out _ _ HS4.out (fun _ => ?_)
  clear hK K hHeld
  refine wpAnyH_done (by kernel_rfl) ?_ _
  refine NoPanic.normal ?_
  go_wp2_with fail
  go_end0
  exact ⟨rfl, HEND.out⟩
end Go.Proofs.YtbkcebbddhaifaaGreatDoor
