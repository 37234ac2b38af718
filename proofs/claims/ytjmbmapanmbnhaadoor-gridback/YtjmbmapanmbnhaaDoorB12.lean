/- Bounds, of a grid with one content. awake: its contents and callees. -/
import Derived.Test.YtjmbmapanmbnhaaDoorB10
import Derived.Test.YtjmbmapanmbnhaaDoorB11
import Derived.Deep.CutRange
namespace Go.Proofs.YtjmbmapanmbnhaaDoor
open Go.RowKit Go.Maps

set_option maxRecDepth 20000 in
theorem addr_inv {key : Value} {l : Lit} (h : keyOf Tryd.prog 26 key = some l) : ∃ x y, key = .agg #[.int .i64 x, .int .i64 y] ∧ I64 x ∧ I64 y := by
  unfold keyOf at h
  rw [Tryd.underlying26] at h
  simp only at h
  split at h
  · rename_i hf
    rw [Bool.and_eq_true] at hf
    obtain ⟨n, hn⟩ : ∃ n, Tryd.prog.types.size = n + 1 := by
      have h := rowAddr
      generalize Tryd.prog.types.size = s at h
      cases s with
      | zero => exact absurd h (Nat.not_lt_zero _)
      | succ n => exact ⟨n, rfl⟩
    rw [hn] at h
    have hfm := hf.2
    cases key <;> simp only [Value.formed, Tryd.underlying26, cellsAddr2, Bool.false_eq_true, beq_iff_eq] at hfm
    rename_i cs
    obtain ⟨c0, c1, rfl⟩ : ∃ c0 c1, cs = #[c0, c1] := by
      obtain ⟨l⟩ := cs
      match l, hfm with
      | [c0, c1], _ => exact ⟨c0, c1, rfl⟩
    simp [Program.keyLits, Tryd.underlying26, Tryd.underlying3, Value.cells, cellsInt1, cellsAddr2] at h
    have wf : ∀ z : Int, (Lit.int .i64 z).wf = true → I64 z := fun z hz => by
      have hm : IntKind.i64.min = -9223372036854775808 := rfl
      simp [Lit.wf, hm] at hz
      unfold I64
      omega
    cases c0 with
    | int q0 x =>
      by_cases h0 : q0 = .i64 ∧ (Lit.int .i64 x).wf = true
      · simp only [h0, and_self, if_true, Option.bind_some, Function.comp] at h
        cases c1 with
        | int q1 y =>
          by_cases h1 : q1 = .i64 ∧ (Lit.int .i64 y).wf = true
          · obtain ⟨rfl, h0⟩ := h0
            obtain ⟨rfl, h1⟩ := h1
            exact ⟨x, y, rfl, wf x h0, wf y h1⟩
          · simp [h1] at h
        | _ => simp at h
      · simp [h0] at h
    | _ => simp at h
  · cases h
theorem kl_of {x y : Int} {l : Lit} (h : keyOf Tryd.prog 26 (.agg #[.int .i64 x, .int .i64 y]) = some l) : I64 x ∧ I64 y ∧ l = kl x y := by
  obtain ⟨x', y', e, hx, hy⟩ := addr_inv h
  have e2 : x = x' ∧ y = y' := by simpa using e
  obtain ⟨rfl, rfl⟩ := e2
  refine ⟨hx, hy, ?_⟩
  have := kl_key hx hy
  rw [h] at this
  exact Option.some.inj this
set_option maxRecDepth 20000 in
/-- A range's step over a grid. -/
theorem wpList_next_cells (w : World) {ops : Array Oper} {rest : List Oper} {o : Oper} {a : Act} {Q : Exit → Act → World → Prop} (hg : o.guard = none) (it : Operand) (hop : o.op = Op.next it false)
    (b r n : Nat) (D : DataW Value) (left : Lit → Bool) (cnt : Nat) (hit : a.eval it = .pointer (some ⟨r, 0, none⟩)) (h : w.ranges Tryd.prog 26 rawE b r n D left cnt)
    (hDone : cnt = 0 → (∀ kl, left kl = false) → wpList Tryd.prog ops Q rest (a.put o.dst (.tuple #[.bool false])) w)
    (hMore : ∀ (x : Int × Int) (c : Value) (w' : World) (cnt' : Nat), (I64 x.1 ∧ I64 x.2) → left (kl x.1 x.2) = true → (∀ zd, D.atKey (kl x.1 x.2) zd = .held c) → w'.ranges Tryd.prog 26 rawE b r n D (fun z => left z && !z.sameKey (kl x.1 x.2)) cnt' → cnt' < cnt →
      w.grownBy w' (some r) → w'.heap.size = w.heap.size → (Instr.entry (.pointer (some ⟨r, 0, none⟩))).run Tryd.prog w' = .ok (.tuple #[.agg #[.int .i64 x.1, .int .i64 x.2], c]) w' → wpList Tryd.prog ops Q rest (a.put o.dst (.tuple #[.bool true, .agg #[.int .i64 x.1, .int .i64 x.2], c])) w') :
    wpList Tryd.prog ops Q (o :: rest) a w :=
  wpList_next_ranges w hg it hop 26 lawAddr rawE (fun x : Int × Int => Value.agg #[.int .i64 x.1, .int .i64 x.2]) (fun c : Value => c) (fun key kl hkey => by obtain ⟨x, y, rfl, _⟩ := addr_inv hkey; exact ⟨(x, y), rfl⟩) (fun v y hv => ⟨v, rfl⟩)
    b r n D left cnt hit h hDone (fun x c kl' y w' cnt' hkey hlk hv hat hrg hlt hgr hsz hen => by
      obtain ⟨hx, hy, he⟩ := kl_of (x := x.1) (y := x.2) (l := kl') hkey
      subst he
      have hy2 : y.1 = .held c := (congrArg Prod.fst (Option.some.inj hv)).symm
      rw [hy2] at hat
      exact hMore x c w' cnt' ⟨hx, hy⟩ hlk hat hrg hlt hgr hsz hen)

/-- How it stands between two rounds. -/
def BdR (w : World) (m : Nat) (D : DataW Value) (c r : Int) (wr : World) : Prop := ∃ left cnt, wr.ranges Tryd.prog 26 rawE m (w.heap.size + 1 + 1) 4096 D left cnt ∧ (∀ k, left k = true → Maps.has D k = true) ∧
  ((left (kl c r) = true ∧ Blk wr (w.heap.size + 1) [.int .i64 256, .int .i64 4096, .int .i64 1, .int .i64 1] 58) ∨ (left (kl c r) = false ∧ Blk wr (w.heap.size + 1) [.int .i64 c, .int .i64 r, .int .i64 c, .int .i64 r] 58)) ∧ Blk wr w.heap.size [.int .i64 0, .int .i64 0, .int .i64 0, .int .i64 0] 58 ∧ Kp w wr Nul
set_option maxRecDepth 20000 in
set_option maxHeartbeats 8000000 in
theorem bounds_one (g : Nat) (ct : Ct) (w : World) (h : GridIn w (fun _ => True) g [((1, 1), ct)]) :
    Calls Tryd.prog 27 #[.pointer (some ⟨g, 0, none⟩)] w fun e w' => e = .returned (.tuple #[.agg #[.int .i64 1, .int .i64 1, .int .i64 1, .int .i64 1], .bool true]) ∧ Kp w w' Nul := by
  have hgin := h
  obtain ⟨_, h⟩ := h
  rcases h with ⟨_, he⟩ | ⟨m, D, hb, _, hne, hown, hm⟩
  · cases he
  have hic : I64 1 := by unfold I64; omega
  have hir : I64 1 := hic
  obtain ⟨W1, hW1⟩ : ∃ W1, w.alloc (.cells #[.int .i64 0, .int .i64 0, .int .i64 0, .int .i64 0] 58) = W1 := ⟨_, rfl⟩
  have k1 : Kp w W1 Nul := by rw [← hW1]; exact (Kp.refl w Nul).alloc _
  have hL : Hid (Calls Tryd.prog 22 #[.pointer (some ⟨g, 0, none⟩)] W1 fun e w' => e = .returned (.int .i64 1) ∧ w' = W1) := by
    have hg1 : GridIn W1 (fun _ => True) g [((1, 1), ct)] := by
      obtain ⟨h0, _⟩ := hgin
      refine ⟨h0, .inr ⟨m, D, (k1.block g (Array.getElem?_eq_some_iff.1 hb).1 (fun x => x)).trans hb, trivial, hne, ownsMap_block hown (k1.block m hown.lt (fun x => x)), ⟨hm.size, hm.rng, hm.keys, fun c' r' ct' h' => by obtain ⟨sl, e1, e2⟩ := hm.vals c' r' ct' h'; exact ⟨sl, e1, e2.kpn k1⟩, hm.once⟩⟩⟩
    exact len_at W1 (fun _ => True) g [((1, 1), ct)] hg1
  have hself : Lit.sameKey (kl 1 1) (kl 1 1) = true := WideAt.sameKey_self (lawAddr.key (kl_key hic hir))
  obtain ⟨W2, hW2⟩ : ∃ W2, W1.alloc (.cells #[.int .i64 256, .int .i64 4096, .int .i64 1, .int .i64 1] 58) = W2 := ⟨_, rfl⟩
  have s1 : W1.heap.size = w.heap.size + 1 := by rw [← hW1]; exact World.size_alloc _ _
  have s2 : W2.heap.size = w.heap.size + 1 + 1 := by rw [← hW2, World.size_alloc, s1]
  have k2 : Kp W1 W2 Nul := by rw [← hW2]; exact (Kp.refl W1 Nul).alloc _
  have hR2 : Blk W2 w.heap.size [.int .i64 0, .int .i64 0, .int .i64 0, .int .i64 0] 58 := by
    have : Blk W1 w.heap.size [.int .i64 0, .int .i64 0, .int .i64 0, .int .i64 0] 58 := by rw [← hW1]; exact Blk.new w [.int .i64 0, .int .i64 0, .int .i64 0, .int .i64 0] _
    exact this.kp k2 (fun x => x)
  have hB2 : Blk W2 (w.heap.size + 1) [.int .i64 256, .int .i64 4096, .int .i64 1, .int .i64 1] 58 := by
    rw [← s1, ← hW2]; exact Blk.new W1 [.int .i64 256, .int .i64 4096, .int .i64 1, .int .i64 1] _
  have hgb : Blk w g [.map (some m)] 77 := hb
  have cg : W2.cell? ⟨g, 0, none⟩ = some (.map (some m)) := ((hgb.kp k1 (fun x => x)).kp k2 (fun x => x)).cell rfl
  have hmlt := hown.lt
  have HOwn : Hid (W2.ownsMap Tryd.prog 26 rawE m 4096 D) := ownsMap_block hown ((k1.trans k2).block m hmlt (fun x => x))
  have HKey : Hid (∀ x y, I64 x → I64 y → Maps.has D (kl x y) = true → x = 1 ∧ y = 1) := fun x y hx hy hh => by
    obtain ⟨ct', h'⟩ := (hm.keys x y hx hy).1 hh
    rw [List.mem_singleton] at h'
    cases h'
    exact ⟨rfl, rfl⟩
  have HHas : Hid (Maps.has D (kl 1 1) = true) := (hm.keys 1 1 hic hir).2 ⟨ct, List.mem_singleton.2 rfl⟩
  have HSelf : Hid (Lit.sameKey (kl 1 1) (kl 1 1) = true) := hself
  have HW1 : Hid (w.alloc (.cells #[.int .i64 0, .int .i64 0, .int .i64 0, .int .i64 0] 58) = W1) := hW1
  have HK2 : Hid (Kp w W2 Nul) := k1.trans k2
  have HR2 : Hid (Blk W2 w.heap.size [.int .i64 0, .int .i64 0, .int .i64 0, .int .i64 0] 58) := hR2
  have HB2 : Hid (Blk W2 (w.heap.size + 1) [.int .i64 256, .int .i64 4096, .int .i64 1, .int .i64 1] 58) := hB2
  have HS2 : Hid (W2.heap.size = w.heap.size + 1 + 1) := s2
  have HS1 : Hid (W1.heap.size = w.heap.size + 1) := s1
  clear hgin hb hne hown hm hW1 k1 k2 hR2 hB2 hgb hself s1 s2
  subst hW2
  go_enter Tryd.func27, Tryd.ntmps27
  go_wp2_with fail
  rw [HW1.out]
  refine hL.out.mono ?_
  rintro e w1 ⟨rfl, hz⟩
  replace hz := hz.symm
  subst hz
  have hs1 := HS1.out
  go_wp2_with (first
    | (at_range; refine wpList_range_own _ rfl _ 75 rfl 26 33 lawAddr Tryd.underlying75 _ m 4096 D rfl HOwn.out ?_; intro w0 hrg0 hg0 hs0)
    | fail)
  have HStart : Hid (BdR w m D 1 1 w0) := by
    rw [HS2.out] at hrg0
    have k0 := Kp.of_grown (S := Nul) hg0 (fun i e => by cases e)
    exact ⟨_, _, hrg0, fun k hk => hk, .inl ⟨HHas.out, HB2.out.kp k0 (fun x => x)⟩, HR2.out.kp k0 (fun x => x), HK2.out.trans k0⟩
  rw [HS2.out]
  clear hrg0 hg0 hs0 HOwn HB2 HR2 HK2 HS2 cg hL HW1
  go_frame
  go_loopw [] (fun wr => BdR w m D 1 1 wr) (fun wr => wr.rangeLeft m (w.heap.size + 1 + 1))
  case atStart => exact HStart.out
  case round =>
    clear HStart
    obtain ⟨left, cnt, hrg, hleft, hcase, hR, hkp⟩ := hrel
    have HRG : Hid (wr.ranges Tryd.prog 26 rawE m (w.heap.size + 1 + 1) 4096 D left cnt) := hrg
    have HLEFT : Hid (∀ k, left k = true → Maps.has D k = true) := hleft
    have HCase : Hid ((left (kl 1 1) = true ∧ Blk wr (w.heap.size + 1) [.int .i64 256, .int .i64 4096, .int .i64 1, .int .i64 1] 58) ∨ (left (kl 1 1) = false ∧ Blk wr (w.heap.size + 1) [.int .i64 1, .int .i64 1, .int .i64 1, .int .i64 1] 58)) := hcase
    have HR : Hid (Blk wr w.heap.size [.int .i64 0, .int .i64 0, .int .i64 0, .int .i64 0] 58) := hR
    have HKP : Hid (Kp w wr Nul) := hkp
    clear hrg hleft hcase hR hkp
    go_wp2_with (first
      | (at_next; refine wpList_next_cells _ rfl _ rfl m (w.heap.size + 1 + 1) 4096 D left cnt rfl HRG.out ?_ ?_)
      | fail)
    · intro hc0 hl0
      have hlf : left (kl 1 1) = false := hl0 _
      have hBf : Blk wr (w.heap.size + 1) [.int .i64 1, .int .i64 1, .int .i64 1, .int .i64 1] 58 := by
        rcases HCase.out with ⟨h, _⟩ | ⟨_, h⟩
        · rw [hlf] at h; cases h
        · exact h
      have e0 : wr.cell? ⟨w.heap.size + 1, 0, none⟩ = some (.int .i64 1) := hBf.cell rfl
      have e1 : wr.cell? ⟨w.heap.size + 1, 1, none⟩ = some (.int .i64 1) := hBf.cell rfl
      have e2 : wr.cell? ⟨w.heap.size + 1, 2, none⟩ = some (.int .i64 1) := hBf.cell rfl
      have e3 : wr.cell? ⟨w.heap.size + 1, 3, none⟩ = some (.int .i64 1) := hBf.cell rfl
      have f0 : wr.cell? ⟨w.heap.size, 0, none⟩ = some (.int .i64 0) := HR.out.cell rfl
      have f1 : wr.cell? ⟨w.heap.size, 1, none⟩ = some (.int .i64 0) := HR.out.cell rfl
      have f2 : wr.cell? ⟨w.heap.size, 2, none⟩ = some (.int .i64 0) := HR.out.cell rfl
      have f3 : wr.cell? ⟨w.heap.size, 3, none⟩ = some (.int .i64 0) := HR.out.cell rfl
      have g0 : wr.frozen? ⟨w.heap.size, 0, none⟩ = false := HR.out.froz _
      have g1 : wr.frozen? ⟨w.heap.size, 1, none⟩ = false := HR.out.froz _
      have g2 : wr.frozen? ⟨w.heap.size, 2, none⟩ = false := HR.out.froz _
      have g3 : wr.frozen? ⟨w.heap.size, 3, none⟩ = false := HR.out.froz _
      clear hc0 hl0 hlf hBf
      go_wp2_with fail
      refine bodyPost_ret (v := .tuple #[.agg #[.int .i64 1, .int .i64 1, .int .i64 1, .int .i64 1], .bool true]) ?_ rfl ⟨rfl, ?_⟩
      · rw [results_cell_tmp' rfl]
        go_simp
      · exact (((HKP.out.setCell ⟨w.heap.size, 0, none⟩ _ (.inl (Nat.le_refl _))).setCell ⟨w.heap.size, 1, none⟩ _ (.inl (Nat.le_refl _))).setCell ⟨w.heap.size, 2, none⟩ _ (.inl (Nat.le_refl _))).setCell ⟨w.heap.size, 3, none⟩ _ (.inl (Nat.le_refl _))
    · intro x1 x2 cv w1 cnt1 hi1 hi2 hlx hat hrg1 hlt hg1 hs1' hen
      obtain ⟨ex, er⟩ := HKey.out x1 x2 hi1 hi2 (HLEFT.out _ hlx)
      subst ex er
      have hBl : Blk wr (w.heap.size + 1) [.int .i64 256, .int .i64 4096, .int .i64 1, .int .i64 1] 58 := by
        rcases HCase.out with ⟨_, h⟩ | ⟨h, _⟩
        · exact h
        · rw [hlx] at h; cases h
      have kr : Kp wr w1 (fun i => i = w.heap.size + 1 + 1) := Kp.of_grown hg1 (fun i e => by cases e; rfl)
      have hB1 := hBl.kp kr (by show ¬ w.heap.size + 1 = w.heap.size + 1 + 1; omega)
      have hR1 := HR.out.kp kr (by show ¬ w.heap.size = w.heap.size + 1 + 1; omega)
      have hk1 : Kp w w1 Nul := HKP.out.trans' kr (fun i hi e => by have : i = w.heap.size + 1 + 1 := e; omega)
      obtain ⟨W3, hW3⟩ : ∃ W3, w1.alloc (.cells #[.int .i64 1, .int .i64 1] 26) = W3 := ⟨_, rfl⟩
      have k3 : Kp w1 W3 Nul := by rw [← hW3]; exact (Kp.refl w1 Nul).alloc _
      have hB3 := hB1.kp k3 (fun x => x)
      have hR3 := hR1.kp k3 (fun x => x)
      have hA3 : Blk W3 wr.heap.size [.int .i64 1, .int .i64 1] 26 := by rw [← hs1', ← hW3]; exact Blk.new w1 [.int .i64 1, .int .i64 1] _
      have hw3 : w.heap.size + 1 < wr.heap.size := hBl.lt
      have e0 : W3.cell? ⟨w.heap.size + 1, 0, none⟩ = some (.int .i64 256) := hB3.cell rfl
      have e1 : W3.cell? ⟨w.heap.size + 1, 1, none⟩ = some (.int .i64 4096) := hB3.cell rfl
      have e2 : W3.cell? ⟨w.heap.size + 1, 2, none⟩ = some (.int .i64 1) := hB3.cell rfl
      have e3 : W3.cell? ⟨w.heap.size + 1, 3, none⟩ = some (.int .i64 1) := hB3.cell rfl
      have g0 : W3.frozen? ⟨w.heap.size + 1, 0, none⟩ = false := hB3.froz _
      have g1 : W3.frozen? ⟨w.heap.size + 1, 1, none⟩ = false := hB3.froz _
      have g2 : W3.frozen? ⟨w.heap.size + 1, 2, none⟩ = false := hB3.froz _
      have g3 : W3.frozen? ⟨w.heap.size + 1, 3, none⟩ = false := hB3.froz _
      have a0 : W3.cell? ⟨wr.heap.size, 0, none⟩ = some (.int .i64 1) := hA3.cell rfl
      have a1 : W3.cell? ⟨wr.heap.size, 1, none⟩ = some (.int .i64 1) := hA3.cell rfl
      have HRG1 : Hid (w1.ranges Tryd.prog 26 rawE m (w.heap.size + 1 + 1) 4096 D (fun z => left z && !z.sameKey (kl 1 1)) cnt1) := hrg1
      have HB3 : Hid (Blk W3 (w.heap.size + 1) [.int .i64 256, .int .i64 4096, .int .i64 1, .int .i64 1] 58) := hB3
      have HR3 : Hid (Blk W3 w.heap.size [.int .i64 0, .int .i64 0, .int .i64 0, .int .i64 0] 58) := hR3
      have HK3 : Hid (Kp w1 W3 Nul) := k3
      have HK1 : Hid (Kp w w1 Nul) := hk1
      have HLT : Hid (cnt1 < cnt) := hlt
      have hne1 : w.heap.size + 1 ≠ wr.heap.size := by omega
      clear hlx hat hrg1 hlt hg1 hBl kr hB1 hR1 hk1 k3 hB3 hR3 hA3 hi1 hi2
      have HW3 : Hid (w1.alloc (.cells #[.int .i64 1, .int .i64 1] 26) = W3) := hW3
      clear hW3
      go_upto_region 7 with fail
      rw [HW3.out]
      clear HW3
      go_wp2_with fail
      have k4 : Kp W3 ((((W3.setCell ⟨w.heap.size + 1, 0, none⟩ (.int .i64 1)).setCell ⟨w.heap.size + 1, 1, none⟩ (.int .i64 1)).setCell ⟨w.heap.size + 1, 2, none⟩ (.int .i64 1)).setCell ⟨w.heap.size + 1, 3, none⟩ (.int .i64 1)) (fun i => i = w.heap.size + 1) := ((((Kp.refl W3 (fun i => i = w.heap.size + 1)).setCell ⟨w.heap.size + 1, 0, none⟩ _ (.inr rfl)).setCell ⟨w.heap.size + 1, 1, none⟩ _ (.inr rfl)).setCell ⟨w.heap.size + 1, 2, none⟩ _ (.inr rfl)).setCell ⟨w.heap.size + 1, 3, none⟩ _ (.inr rfl)
      have hB4 := (((HB3.out.set 0 (.int .i64 1)).set 1 (.int .i64 1)).set 2 (.int .i64 1)).set 3 (.int .i64 1)
      have HEND : Hid (((((W3.setCell ⟨w.heap.size + 1, 0, none⟩ (.int .i64 1)).setCell ⟨w.heap.size + 1, 1, none⟩ (.int .i64 1)).setCell ⟨w.heap.size + 1, 2, none⟩ (.int .i64 1)).setCell ⟨w.heap.size + 1, 3, none⟩ (.int .i64 1)).ranges Tryd.prog 26 rawE m (w.heap.size + 1 + 1) 4096 D (fun z => left z && !z.sameKey (kl 1 1)) cnt1 ∧ BdR w m D 1 1 ((((W3.setCell ⟨w.heap.size + 1, 0, none⟩ (.int .i64 1)).setCell ⟨w.heap.size + 1, 1, none⟩ (.int .i64 1)).setCell ⟨w.heap.size + 1, 2, none⟩ (.int .i64 1)).setCell ⟨w.heap.size + 1, 3, none⟩ (.int .i64 1))) := by
        have k14 : Kp w1 ((((W3.setCell ⟨w.heap.size + 1, 0, none⟩ (.int .i64 1)).setCell ⟨w.heap.size + 1, 1, none⟩ (.int .i64 1)).setCell ⟨w.heap.size + 1, 2, none⟩ (.int .i64 1)).setCell ⟨w.heap.size + 1, 3, none⟩ (.int .i64 1)) (fun i => i = w.heap.size + 1) := HK3.out.of_nul.trans k4
        generalize ((((W3.setCell ⟨w.heap.size + 1, 0, none⟩ (.int .i64 1)).setCell ⟨w.heap.size + 1, 1, none⟩ (.int .i64 1)).setCell ⟨w.heap.size + 1, 2, none⟩ (.int .i64 1)).setCell ⟨w.heap.size + 1, 3, none⟩ (.int .i64 1)) = W5 at *
        have hgr : w1.grownBy W5 (some (w.heap.size + 1)) := ⟨k14.os, k14.tape, k14.output, k14.size, fun i hi hn => k14.block i hi (fun e => hn (by have : i = w.heap.size + 1 := e; rw [this]))⟩
        have hrg5 := HRG1.out.kept hgr (fun e => by have := Option.some.inj e; omega) (fun e => by have := Option.some.inj e; omega)
        refine ⟨hrg5, _, _, hrg5, fun k hk => HLEFT.out k (by rw [Bool.and_eq_true] at hk; exact hk.1), .inr ⟨by rw [HSelf.out]; simp, hB4⟩, HR3.out.kp k4 (by show ¬ w.heap.size = w.heap.size + 1; omega), HK1.out.trans' k14 (fun i hi e => by have : i = w.heap.size + 1 := e; omega)⟩
      clear k4 hB4
      go_roundw
      case rel => exact HEND.out.2
      case measure => rw [HEND.out.1.left_eq, HRG.out.left_eq]; exact HLT.out
end Go.Proofs.YtjmbmapanmbnhaaDoor
namespace Go.Proofs.YtjmbmapanmbnhaaDoor
open Go.RowKit Go.Maps

def ct7 : Ct := ⟨1, ⟨1, 4619567317775286272, ⟨#[]⟩, false, 0⟩, zNd⟩
def ct3 : Ct := ⟨3, ⟨0, 0, ⟨#[]⟩, false, 0⟩, zNd⟩
theorem zsize : zNd.size = 1 := by unfold zNd; rw [Nd.size, sizeL]
theorem cpy_zNd : cpy zNd = zNd := by
  unfold zNd
  rw [cpy, cpyL]
  rfl
theorem zeroN_z : zeroN zNd = true := by
  unfold zeroN zNd
  simp [tsame, hsame]
  try decide
theorem valid7 : validC ct7 false 0 = true := by
  have h1 : bareV ct7.v = true := by simp [bareV, ct7]
  have h2 : zeroN ct7.t = true := zeroN_z
  simp [validC, validV, h1, h2]
  simp [ct7]
theorem valid3 : validC ct3 false 0 = false := by simp [validC, ct3]
theorem cp7 : cpC ct7 = ct7 := by
  unfold cpC ct7
  simp only [cpy_zNd]
  congr 1
theorem valid_ct (ct : Ct) (ht : ct.t = zNd) (hk : ct.v.k ≠ 2) (hk2 : ct.k ≠ 2) (V : Bool) (hV : validC ct false 0 = V) (w : World) : Calls Tryd.prog 9 #[ct.val (.slice none 0 0)] w fun e w' => e = .returned (.bool V) ∧ Kp w w' Nul := by
  refine (gValid_at ct (.slice none 0 0) (fun _ => True) false 0 w (by rw [ht]; exact zNd_ok) (by rw [ht]; exact zNd_in w _) (fun _ h => absurd h hk) (fun h => absurd h hk2)).mono ?_
  rintro e w' ⟨h1, h2⟩
  rw [hV] at h1
  exact ⟨h1, Kp.of_below h2⟩
theorem copy_ct (ct : Ct) (sl : Value) (F : Nat → Prop) (ht : ct.t = zNd) (hx : ct.v.x < 18446744073709551616) (w : World) (hin : NdIn w F sl ct.t) : Calls Tryd.prog 14 #[ct.val sl] w fun e w' => ∃ sl' fp, e = .returned ((cpC ct).val sl') ∧ Own w' w.heap.size sl' (cpC ct).t fp ∧ Kp w w' Nul := by
  refine (gCopy_at ct sl F w hx (by rw [ht, zsize]; decide) (by rw [ht]; exact zNd_ok) hin).mono ?_
  rintro e w' ⟨sl', fp, h1, h2, h3⟩
  exact ⟨sl', fp, h1, h2, Kp.of_below h3⟩
set_option maxHeartbeats 1000000 in
theorem cell_at (x y : Int) (w : World) : Calls Tryd.prog 21 #[.int .i64 x, .int .i64 y] w fun e w' => e = .returned (.agg #[.int .i64 x, .int .i64 y]) ∧ Kp w w' Nul := by
  go_enter Tryd.func21, Tryd.ntmps21
  go_wp2_with fail
  refine bodyPost_ret (results_cell_row rfl _ _ w.heap.size 26 _ (0, 0) _ rfl (heap_alloc_new _ _) Tryd.underlying26 rfl (by kernel_rfl)) rfl ?_
  exact ⟨rfl, (Kp.refl w Nul).alloc _⟩
set_option maxRecDepth 20000 in
set_option maxHeartbeats 1000000 in
theorem number_at (w : World) : Calls Tryd.prog 30 #[.float .f64 4619567317775286272] w fun e w' => e = .returned (ct7.val (.slice none 0 0)) ∧ Kp w w' Nul := by
  go_enter Tryd.func30, Tryd.ntmps30
  go_wp2_with (refine wpList_store_new rfl 33 (.tmp 2) (.tmp 5) rfl _ _ _ _ _ (by simp) rfl rfl rfl infoContent (Ct.one ct7 (sl := .slice none 0 0) rfl) ?_)
  refine bodyPost_ret (results_cell_row rfl _ _ w.heap.size 33 _ (0, 0) _ rfl (heap_alloc_new _ _) Tryd.underlying33 rfl infoContent) rfl ?_
  exact ⟨rfl, (Kp.refl w Nul).alloc _⟩
theorem GridIn.kp {w w' : World} {F : Nat → Prop} {g : Nat} {L : List Cc} (h : GridIn w F g L) (k : Kp w w' Nul) : GridIn w' F g L := by
  obtain ⟨h0, h⟩ := h
  refine ⟨h0, ?_⟩
  rcases h with ⟨hb, he⟩ | ⟨m, D, hb, hFm, hne, hown, hm⟩
  · exact .inl ⟨(k.block g (Array.getElem?_eq_some_iff.1 hb).1 (fun x => x)).trans hb, he⟩
  · exact .inr ⟨m, D, (k.block g (Array.getElem?_eq_some_iff.1 hb).1 (fun x => x)).trans hb, hFm, hne, ownsMap_block hown (k.block m hown.lt (fun x => x)), ⟨hm.size, hm.rng, hm.keys, fun c' r' ct' h' => by obtain ⟨sl, e1, e2⟩ := hm.vals c' r' ct' h'; exact ⟨sl, e1, e2.kpn k⟩, hm.once⟩⟩
theorem eql_area1 (w : World) : (binOp .eql 58 (.agg #[.int .i64 1, .int .i64 1, .int .i64 1, .int .i64 1]) (.agg #[.int .i64 1, .int .i64 1, .int .i64 1, .int .i64 1])).run Tryd.prog w = .ok (.bool true) w := by simp [go_sem]
theorem seven : FloatKind.f64.format.order 4619567317775286272 4619567317775286272 = some .eq := by decide +kernel
end Go.Proofs.YtjmbmapanmbnhaaDoor
