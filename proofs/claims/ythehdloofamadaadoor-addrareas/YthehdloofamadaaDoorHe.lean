/- The program's forms: the closure that tells the beginnings of a text that have a cell's form. -/
import Derived.Test.YthehdloofamadaaDoorHd
import Derived.Test.YthehdloofamadaaDoorGf
import Derived.Lib.OthersKept
import Derived.Laws.RangeAny
namespace Go.Proofs.YthehdloofamadaaDoor
open Go.RowKit Go.Shelf
attribute [local go_sem] Oper.semAt_some

/-- What a round keeps: the text's block, and all cells and walks laid since the loop began. -/
structure Kq (bT n₁ : Nat) (W W' : World) : Prop where
  size : W.heap.size ≤ W'.heap.size
  txt : W'.heap[bT]? = W.heap[bT]?
  far : ∀ (k : Nat) (o : Obj), n₁ ≤ k → W.heap[k]? = some o → o.isCells = true ∨ o.isWalk = true → W'.heap[k]? = some o
theorem Kq.trans {bT n₁ : Nat} {A B C : World} (h : Kq bT n₁ A B) (k : Kq bT n₁ B C) : Kq bT n₁ A C :=
  ⟨Nat.le_trans h.size k.size, k.txt.trans h.txt, fun i o hi ho hc => k.far i o hi (h.far i o hi ho hc) hc⟩
theorem Kq.book {bT n₁ : Nat} {w : World} (hT : bT < w.heap.size) (W : World) (l : Nat) (o o' : Obj) (hl : w.heap.size ≤ l) (h : W.heap[l]? = some o) (h1 : o.isCells = false) (h2 : o.isWalk = false) : Kq bT n₁ W (W.putObj l o') :=
  ⟨by simp [World.putObj], World.putObj_heap_other (by omega), fun k q _ hk hc => (World.putObj_heap_other (fun e => by
    subst e
    rw [h] at hk
    have := Option.some.inj hk
    subst this
    rw [h1, h2] at hc
    rcases hc with hc | hc <;> exact absurd hc (by decide))).trans hk⟩
def encF (x : Int × Rs) : Array Value := #[.int .i64 x.1, .agg #[.int .i64 x.2.c, .int .i64 x.2.r, .bool x.2.cf, .bool x.2.rf]]
def FormsSeq (lb : Array Value) (bT : Nat) (l : List UInt8) (w : World) : Prop :=
  ∀ n, 1 ≤ n → SeqFar n Tryd.prog 55 lb encF (Kq bT w.heap.size) (fun xs => xs = ups l l.length) (fun pre => pre <+: ups l l.length) l.length w

theorem iterAt_grown (w : World) (k : Nat) (s : ByteArray) (pos : Nat) : w.grownBy (w.iterAt k s pos) (some k) :=
  ⟨rfl, rfl, rfl, by rw [Lib.iterAt_size]; exact Nat.le_refl _, fun j _ hj => Lib.iterAt_other w k j s pos (fun e => hj (by rw [e]))⟩
theorem gr_grown {w w' : World} (h : Gr w w') : w.grownBy w' none := ⟨h.ext.os, h.ext.tape, h.ext.output, h.ext.size, fun k hk _ => h.ext.block k hk⟩
theorem setCell_grown (w : World) (b j : Nat) (v : Value) : w.grownBy (w.setCell ⟨b, j, none⟩ v) (some b) :=
  ⟨rfl, rfl, rfl, (KeepsWalks.setCell w _ v).size, fun k _ hk => Below.heap_setCell _ _ _ k (fun e => hk (by rw [e]))⟩
theorem put4_grown (w : World) (b : Nat) (x y z u : Value) : w.grownBy ((((w.setCell ⟨b, 0, none⟩ x).setCell ⟨b, 1, none⟩ y).setCell ⟨b, 2, none⟩ z).setCell ⟨b, 3, none⟩ u) (some b) := by
  refine ⟨rfl, rfl, rfl, ?_, fun k hk hne => ?_⟩
  · exact Nat.le_trans (KeepsWalks.setCell w _ x).size (Nat.le_trans (KeepsWalks.setCell _ _ y).size (Nat.le_trans (KeepsWalks.setCell _ _ z).size (KeepsWalks.setCell _ _ u).size))
  · have hkb : k ≠ b := fun e => hne (by rw [e])
    rw [Below.heap_setCell _ _ _ k hkb, Below.heap_setCell _ _ _ k hkb, Below.heap_setCell _ _ _ k hkb, Below.heap_setCell _ _ _ k hkb]
theorem has4_block {w w' : World} {b : Nat} {x y z u : Value} (h : Has4 w b x y z u) (e : w'.heap[b]? = w.heap[b]?) : Has4 w' b x y z u :=
  ⟨(World.cell?_of_block e).trans h.c0, (World.cell?_of_block e).trans h.c1, (World.cell?_of_block e).trans h.c2, (World.cell?_of_block e).trans h.c3, (World.frozen?_of_block e).trans h.f0, (World.frozen?_of_block e).trans h.f1, (World.frozen?_of_block e).trans h.f2, (World.frozen?_of_block e).trans h.f3⟩

theorem bel_grown {W W' : World} (h : Below W.heap.size W W') : W.grownBy W' none := ⟨h.os, h.tape, h.output, h.size, fun k hk _ => h.block k hk⟩

set_option maxRecDepth 100000 in
set_option maxHeartbeats 8000000 in
theorem pforms_core (n : Nat) (hn : 1 ≤ n) (l : List UInt8) (N : Int) (hN : (l.length : Int) = N) (hNb : N < 140737488355328) (lp bT n₁ : Nat) (J Jx : List (Int × Rs) → World → Prop) (W : World) (hn1 : n₁ ≤ W.heap.size) (hT : bT < n₁) (hJ : Far W.heap.size J)
    (hY : ∀ pre x W1, J pre W1 → pre.length < l.length → YieldAt Fence.wide (n - 1) Tryd.prog lp (encF x) W1 fun e W' =>
      (e = .returned (.bool true) ∧ J (pre ++ [x]) W' ∧ Kq bT n₁ W1 W') ∨ (e = .returned (.bool false) ∧ Jx (pre ++ [x]) W'))
    (hA : W.cell? ⟨bT, 0, none⟩ = some (.string ⟨l.toArray⟩)) (h0 : J [] W) :
    CallsIn Fence.wide n Tryd.prog 55 #[.func (.yield lp) #[] #[], .pointer (some ⟨bT, 0, none⟩)] W fun e W' => (∃ v, e = .returned v) ∧
      ((∃ xs, xs = ups l l.length ∧ J xs W') ∨ (∃ pre, pre <+: ups l l.length ∧ Jx pre W')) := by
  refine callsIn_of_wp Tryd.func55 rfl trivial ?_ rfl
  simp only [Tryd.ntmps55, List.size_toArray, List.length_cons, List.length_nil, Nat.reduceAdd, Nat.reduceSub, Array.replicate_succ, Array.replicate_zero, List.push_toArray, List.append_toArray, List.nil_append, List.cons_append]
  have HJ0 : Hid (J [] W) := h0
  have HJA : Hid (Far W.heap.size J) := hJ
  have HA : Hid (W.cell? ⟨bT, 0, none⟩ = some (.string ⟨l.toArray⟩)) := hA
  have HN1 : Hid (n₁ ≤ W.heap.size) := hn1
  have HT : Hid (bT < n₁) := hT
  have hTW : bT < W.heap.size := by omega
  clear h0 hJ hn1 hT
  gi_wp2_with (fail)
  clear hTW hA
  gi_loopw [] (fun wr => ∃ (pos : Nat) (st : Rs), pos ≤ l.length ∧ rn rs0 (l.take pos) = some st ∧ (0 ≤ st.c ∧ st.c ≤ 257 ∧ 0 ≤ st.r ∧ st.r ≤ 4097) ∧ J (ups l pos) wr ∧ wr.heap[W.heap.size + 1]? = some (.stringIter ⟨l.toArray⟩ pos) ∧ Has4 wr W.heap.size (.int .i64 st.c) (.int .i64 st.r) (.bool st.cf) (.bool st.rf)) (fun wr => l.length - wr.iterPos (W.heap.size + 1))
  case atStart =>
    refine ⟨0, rs0, Nat.zero_le _, rfl, by decide, ?_, ?_, ?_⟩
    · refine HJA.out [] W _ none HJ0.out ?_ (fun r e => by cases e)
      exact bel_grown (((Below.refl _ W).alloc (Nat.le_refl _) _).alloc (by simp) _)
    · have := World.iter_heap (W.alloc (.cells #[.int .i64 0, .int .i64 0, .bool false, .bool false] 25)) ⟨l.toArray⟩ 0
      simpa using this
    · exact (has4_new W (.int .i64 0) (.int .i64 0) (.bool false) (.bool false) 25).bel ((Below.refl _ _).alloc (Nat.le_refl _) _)
  case round =>
    obtain ⟨pos, st, hpos, hrn, hbd, hJs, hit, hst⟩ := hrel
    have JS : Hid (J (ups l pos) wr) := hJs
    have IT : Hid (wr.heap[W.heap.size + 1]? = some (.stringIter ⟨l.toArray⟩ pos)) := hit
    have ST : Hid (Has4 wr W.heap.size (.int .i64 st.c) (.int .i64 st.r) (.bool st.cf) (.bool st.rf)) := hst
    have HR : Hid (rn rs0 (l.take pos) = some st) := hrn
    have HB : Hid (0 ≤ st.c ∧ st.c ≤ 257 ∧ 0 ≤ st.r ∧ st.r ≤ 4097) := hbd
    clear hJs hit hst hrn hbd
    by_cases hp : pos < l.length
    · obtain ⟨b, hb⟩ : ∃ b, l[pos]? = some b := ⟨l[pos], List.getElem?_eq_getElem hp⟩
      have hps : pos < (ByteArray.mk l.toArray).size := hp
      have hbb : (ByteArray.mk l.toArray)[pos]'hps = b := by
        have e1 : (ByteArray.mk l.toArray)[pos]'hps = l[pos] := rfl
        rw [e1]
        exact Option.some.inj ((List.getElem?_eq_getElem hp).symm.trans hb)
      obtain ⟨ch, wd, hlow, hhigh, hnx0⟩ : ∃ (ch : Int) (wd : Nat), (b.toNat < 128 → ch = b.toNat ∧ wd = 1) ∧ (128 ≤ b.toNat → 128 ≤ ch) ∧ (∀ ty, (Instr.next (.pointer (some ⟨W.heap.size + 1, 0, none⟩)) true ty).run Tryd.prog wr = .ok (.tuple #[.bool true, .int .i64 pos, .int .i32 ch]) (wr.iterAt (W.heap.size + 1) ⟨l.toArray⟩ (pos + wd))) := by
        refine ⟨(Utf8.decode ⟨l.toArray⟩ pos).1, (Utf8.decode ⟨l.toArray⟩ pos).2, ?_, ?_, fun ty => Lib.run_next_any_at wr (W.heap.size + 1) ⟨l.toArray⟩ pos ty IT.out hps⟩
        · intro h
          rw [decode_ascii ⟨l.toArray⟩ pos hps (by rw [hbb]; exact h), hbb]
          exact ⟨rfl, rfl⟩
        · intro h
          have := (decode_high ⟨l.toArray⟩ pos hps (by rw [hbb]; exact h)).1
          omega
      obtain ⟨wr1, hwr1⟩ : ∃ wr1, wr.iterAt (W.heap.size + 1) ⟨l.toArray⟩ (pos + wd) = wr1 := ⟨_, rfl⟩
      obtain ⟨i, hi⟩ : ∃ i : Int, (pos : Int) = i := ⟨_, rfl⟩
      rw [hwr1, hi] at hnx0
      have hnx : ∀ ty, (Instr.next (.pointer (some ⟨W.heap.size + 1, 0, none⟩)) true ty).run Tryd.prog wr = .ok (.tuple #[.bool true, .int .i64 i, .int .i32 ch]) wr1 := hnx0
      have i0 : 0 ≤ i := by omega
      have i1 : i < 140737488355328 := by omega
      have J1 : Hid (J (ups l pos) wr1) := by
        show J _ _
        rw [← hwr1]
        exact HJA.out _ wr _ _ JS.out (iterAt_grown wr _ _ _) (fun r e => by cases e; omega)
      have S1 : Hid (Has4 wr1 W.heap.size (.int .i64 st.c) (.int .i64 st.r) (.bool st.cf) (.bool st.rf)) := has4_block ST.out (by rw [← hwr1]; exact Lib.iterAt_other _ _ _ _ _ (by omega))
      have I1 : Hid (wr1.heap[W.heap.size + 1]? = some (.stringIter ⟨l.toArray⟩ (pos + wd))) := by show _ = _; rw [← hwr1]; exact Lib.iterAt_heap wr _ _ pos _ IT.out
      have H1 : Hid (∀ w, Calls Tryd.prog 56 #[.agg #[.int .i64 st.c, .int .i64 st.r, .bool st.cf, .bool st.rf], .int .i32 ch] w fun e w' => e = .returned (.tuple #[rsV (bhS st ch), .bool (bhO st ch)]) ∧ Gr w w') := fun w => pbehind_any st ch w HB.out.1 HB.out.2.1 HB.out.2.2.1 HB.out.2.2.2
      have HNX : Hid (wr.iterPos (W.heap.size + 1) = pos) := by show _ = _; simp only [World.iterPos, IT.out]
      clear hnx0 hwr1 JS ST hps hbb
      obtain ⟨x0, x1, x2, x3, _, _, _, _⟩ := S1.out
      cases hbh : bh st ch with
      | none =>
        have hgone : Hid (ups l pos = ups l l.length) := by
          show _ = _
          refine (ups_gone l pos l.length ?_ hpos).symm
          rw [rn_step l pos b hb, HR.out]
          show bh st (b.toNat : Int) = none
          rcases Nat.lt_or_ge b.toNat 128 with h | h
          · rw [← (hlow h).1]; exact hbh
          · cases hq : bh st (b.toNat : Int) with
            | none => rfl
            | some s' => have := bh_low _ _ _ hq; omega
        have H2 : Hid (∀ w, Calls Tryd.prog 56 #[.agg #[.int .i64 st.c, .int .i64 st.r, .bool st.cf, .bool st.rf], .int .i32 ch] w fun e w' => e = .returned (.tuple #[.agg #[.int .i64 0, .int .i64 0, .bool false, .bool false], .bool false]) ∧ Gr w w') := fun w => by
          have := H1.out w
          unfold bhS bhO at this
          rw [hbh] at this
          exact this
        clear H1 hbh hlow hhigh IT HR HB hb hi HNX
        gi_wp2_with (fail)
        refine ⟨trivial, (callsIn_wide.2 (H2.out _)).mono ?_⟩
        rintro e w2 ⟨rfl, hg⟩
        have J2 : Hid (J (ups l pos) w2) := HJA.out _ wr1 _ none J1.out (gr_grown hg) (fun r e => by cases e)
        have S2 : Hid (Has4 w2 W.heap.size (.int .i64 st.c) (.int .i64 st.r) (.bool st.cf) (.bool st.rf)) := S1.out.gr hg
        clear hg x0 x1 x2 x3 J1 S1 I1 hnx
        obtain ⟨x0, x1, x2, x3, y0, y1, y2, y3⟩ := S2.out
        gi_wp2_with (fail)
        refine bodyPost_ret (results_none rfl _ _ _) rfl ?_
        refine ⟨⟨_, rfl⟩, .inl ⟨_, hgone.out, HJA.out _ w2 _ (some W.heap.size) J2.out (put4_grown w2 W.heap.size _ _ _ _) (fun r e => by cases e; exact Nat.le_refl _)⟩⟩
      | some st' =>
        have hc128 := bh_low _ _ _ hbh
        have hb128 : b.toNat < 128 := by
          rcases Nat.lt_or_ge b.toNat 128 with h | h
          · exact h
          · have := hhigh h; omega
        obtain ⟨hch, hwd⟩ := hlow hb128
        have hrn' : Hid (rn rs0 (l.take (pos + 1)) = some st') := by
          show _ = _
          rw [rn_step l pos b hb, HR.out]
          show bh st (b.toNat : Int) = some st'
          rw [← hch]; exact hbh
        have hbd' : Hid (0 ≤ st'.c ∧ st'.c ≤ 257 ∧ 0 ≤ st'.r ∧ st'.r ≤ 4097) := bh_bd st st' ch hbh HB.out.1 HB.out.2.1 HB.out.2.2.1 HB.out.2.2.2
        have H2 : Hid (∀ w, Calls Tryd.prog 56 #[.agg #[.int .i64 st.c, .int .i64 st.r, .bool st.cf, .bool st.rf], .int .i32 ch] w fun e w' => e = .returned (.tuple #[.agg #[.int .i64 st'.c, .int .i64 st'.r, .bool st'.cf, .bool st'.rf], .bool true]) ∧ Gr w w') := fun w => by
          have := H1.out w
          unfold bhS bhO at this
          rw [hbh] at this
          exact this
        have HPI : Hid ((pos : Int) = i) := hi
        have HWD : Hid (wd = 1) := hwd
        clear H1 hbh hlow hhigh IT HR HB hb hi hch hwd hc128 hb128
        obtain ⟨c', r', cf', rf'⟩ := st'
        simp only at hbd' H2
        gi_wp2_with (fail)
        refine ⟨trivial, (callsIn_wide.2 (H2.out _)).mono ?_⟩
        rintro e w2 ⟨rfl, hg⟩
        have S2 : Hid (Has4 w2 W.heap.size (.int .i64 st.c) (.int .i64 st.r) (.bool st.cf) (.bool st.rf)) := S1.out.gr hg
        obtain ⟨w3, hw3⟩ : ∃ w3, (((w2.setCell ⟨W.heap.size, 0, none⟩ (.int .i64 c')).setCell ⟨W.heap.size, 1, none⟩ (.int .i64 r')).setCell ⟨W.heap.size, 2, none⟩ (.bool cf')).setCell ⟨W.heap.size, 3, none⟩ (.bool rf') = w3 := ⟨_, rfl⟩
        have J3 : Hid (J (ups l pos) w3) := by
          show J _ _
          rw [← hw3]
          exact HJA.out _ w2 _ (some W.heap.size) (HJA.out _ wr1 _ none J1.out (gr_grown hg) (fun r e => by cases e)) (put4_grown w2 W.heap.size _ _ _ _) (fun r e => by cases e; exact Nat.le_refl _)
        have S3 : Hid (Has4 w3 W.heap.size (.int .i64 c') (.int .i64 r') (.bool cf') (.bool rf')) := by
          show Has4 _ _ _ _ _ _
          rw [← hw3]; exact S2.out.put _ _ _ _
        have I3 : Hid (w3.heap[W.heap.size + 1]? = some (.stringIter ⟨l.toArray⟩ (pos + 1))) := by
          show _ = _
          have e1 : W.heap.size + 1 < wr1.heap.size := (Array.getElem?_eq_some_iff.1 I1.out).1
          have e2 : w2.heap[W.heap.size + 1]? = wr1.heap[W.heap.size + 1]? := hg.ext.block _ e1
          have e3 : w3.heap[W.heap.size + 1]? = w2.heap[W.heap.size + 1]? := by
            rw [← hw3]
            exact (put4_grown w2 W.heap.size _ _ _ _).block _ (by have := hg.ext.size; omega) (fun e => by have := Option.some.inj e; omega)
          rw [e3, e2, I1.out, HWD.out]
        clear hg x0 x1 x2 x3 J1 S1 I1 hnx
        obtain ⟨x0, x1, x2, x3, y0, y1, y2, y3⟩ := S2.out
        obtain ⟨z0, z1, z2, z3, _, _, _, _⟩ := S3.out
        by_cases hr : 0 < r'
        · have hyl : Hid (ups l (pos + 1) = ups l pos ++ [(i + 1, (⟨c', r', cf', rf'⟩ : Rs))]) := by
            show _ = _
            rw [ups_succ]
            have : yl l pos = some (i + 1, (⟨c', r', cf', rf'⟩ : Rs)) := by
              unfold yl
              rw [hrn'.out]
              show (if 0 < r' then _ else _) = _
              rw [if_pos hr, HPI.out]
            rw [this]; rfl
          have hlen : (ups l pos).length < l.length := by have := ups_len l pos; omega
          obtain ⟨fn, tmps, assign, body, hy', hR⟩ := hY _ (i + 1, (⟨c', r', cf', rf'⟩ : Rs)) w3 J3.out hlen
          dsimp only [encF] at hy'
          have HR' : Hid (RoundIn Fence.wide (n - 1) Tryd.prog lp fn tmps assign body w3 _) := hR
          clear hR hlen
          have hs0 : wrap64 (i + 1) = i + 1 := by unfold wrap64; omega
          gi_wp2_with (fail)
          refine HR'.out.mono ?_
          rintro e W4 (⟨rfl, hJ4, hk4⟩ | ⟨rfl, hJx4⟩)
          · have J4 : Hid (J (ups l (pos + 1)) W4) := by show J _ _; rw [hyl.out]; exact hJ4
            have I4 : Hid (W4.heap[W.heap.size + 1]? = some (.stringIter ⟨l.toArray⟩ (pos + 1))) := hk4.far _ _ (by have := HN1.out; omega) I3.out (.inr rfl)
            have S4 : Hid (Has4 W4 W.heap.size (.int .i64 c') (.int .i64 r') (.bool cf') (.bool rf')) := by
              obtain ⟨o, ho, hoc⟩ := cells_of_cell S3.out.c0
              exact has4_block S3.out ((hk4.far _ _ HN1.out ho (.inl hoc)).trans ho.symm)
            have HK : Hid (W4.iterPos (W.heap.size + 1) = pos + 1) := by show _ = _; simp only [World.iterPos, I4.out]
            clear hJ4 hk4
            gi_wp2_with (fail)
            go_roundw
            case rel => exact ⟨pos + 1, ⟨c', r', cf', rf'⟩, by omega, hrn'.out, hbd'.out, J4.out, I4.out, S4.out⟩
            case measure => rw [HK.out, HNX.out]; omega
          · have JX : Hid (Jx (ups l (pos + 1)) W4) := by show Jx _ _; rw [hyl.out]; exact hJx4
            clear hJx4
            gi_wp2_with (fail)
            refine bodyPost_ret (results_none rfl _ _ _) rfl ?_
            exact ⟨⟨_, rfl⟩, .inr ⟨_, ups_pre l (pos + 1) l.length hp, JX.out⟩⟩
        · have hyl : Hid (ups l (pos + 1) = ups l pos) := by
            show _ = _
            rw [ups_succ]
            have : yl l pos = none := by
              unfold yl
              rw [hrn'.out]
              show (if 0 < r' then _ else _) = _
              rw [if_neg hr]
            rw [this]; simp
          have hr' : r' ≤ 0 := by omega
          have HK : Hid (w3.iterPos (W.heap.size + 1) = pos + 1) := by show _ = _; simp only [World.iterPos, I3.out]
          clear hr
          gi_wp2_with (fail)
          refine ⟨fun _ h => (by cases h), ?_⟩
          gi_wp2_with (fail)
          go_roundw
          case rel => exact ⟨pos + 1, ⟨c', r', cf', rf'⟩, by omega, hrn'.out, hbd'.out, by rw [hyl.out]; exact J3.out, I3.out, S3.out⟩
          case measure => rw [HK.out, HNX.out]; omega
    · have hpe : pos = l.length := by omega
      have hnx : ∀ ty, (Instr.next (.pointer (some ⟨W.heap.size + 1, 0, none⟩)) true ty).run Tryd.prog wr = _ := fun ty => Lib.run_next_end_at wr (W.heap.size + 1) ⟨l.toArray⟩ pos ty IT.out (by show ¬ pos < l.length; omega)
      subst hpe
      gi_wp2_with (fail)
      go_end0
      exact ⟨⟨_, rfl⟩, .inl ⟨_, rfl, JS.out⟩⟩

set_option maxHeartbeats 1000000 in
theorem pforms_at (l : List UInt8) (w : World) :
    Calls Tryd.prog 47 #[.string ⟨l.toArray⟩] w fun e w' => e = .returned (.func (.func 55) #[] #[.pointer (some ⟨w.heap.size, 0, none⟩)]) ∧ w' = w.alloc (.cells #[.string ⟨l.toArray⟩] 9) := by
  go_enter Tryd.func47, Tryd.ntmps47
  go_wp2_with fail
  go_ret
  exact ⟨rfl, rfl⟩
theorem pforms_seq (l : List UInt8) (hl : (l.length : Int) < 140737488355328) (w : World) : FormsSeq #[.pointer (some ⟨w.heap.size, 0, none⟩)] w.heap.size l (w.alloc (.cells #[.string ⟨l.toArray⟩] 9)) := by
  intro n hn lp J Jx W hW hJ hJx hY h0
  have hs := hW.size
  rw [World.size_alloc] at hs
  refine pforms_core n hn l l.length rfl hl lp w.heap.size (w.alloc (.cells #[.string ⟨l.toArray⟩] 9)).heap.size J Jx W hW.size (by simp) hJ hY ?_ h0
  rw [hW.cell (p := ⟨w.heap.size, 0, none⟩) (by simp)]
  exact (Boxed.new w 9 (.string ⟨l.toArray⟩)).cell
end Go.Proofs.YthehdloofamadaaDoor
