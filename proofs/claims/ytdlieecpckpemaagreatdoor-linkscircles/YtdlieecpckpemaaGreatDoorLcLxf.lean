/- maps.Keys' own function goes over a map's keys, in any order. -/
import Derived.Test.YtdlieecpckpemaaGreatDoorLcTl
import Derived.Test.YtdlieecpckpemaaGreatDoorLcLxe
import Derived.Test.YtdlieecpckpemaaGreatDoorLcTq
import Derived.Test.YtdlieecpckpemaaGreatDoorLcZq
import Derived.Sort.MapsRangeIn
import Derived.LoopNIn
namespace Go.Proofs.YtdlieecpckpemaaGreatDoor
open Go.RowKit Go.Shelf Go.Sort Go.Maps
attribute [local go_sem] Oper.semAt_some
set_option maxRecDepth 20000 in
/-- A range's step over links, within a fence. -/
theorem wpListIn_next_links {F : Fence} {nf : Nat} (w : World) {ops : Array Oper} {rest : List Oper} {o : Oper} {a : Act} {Q : Exit → Act → World → Prop} (hg : o.guard = none) (it : Operand) (hop : o.op = Op.next it false)
    (b r n : Nat) (D : DataW Value) (left : Lit → Bool) (cnt : Nat) (hit : a.eval it = .pointer (some ⟨r, 0, none⟩)) (h : w.ranges Tryz.prog 29 rawE b r n D left cnt)
    (hDone : cnt = 0 → (∀ kl, left kl = false) → wpListIn F nf Tryz.prog ops Q rest (a.put o.dst (.tuple #[.bool false])) w)
    (hMore : ∀ (x1 x2 : Int) (c : Value) (w' : World) (cnt' : Nat), (I64 x1 ∧ I64 x2) → left (kl x1 x2) = true → (∀ zd, D.atKey (kl x1 x2) zd = .held c) → w'.ranges Tryz.prog 29 rawE b r n D (fun z => left z && !z.sameKey (kl x1 x2)) cnt' → cnt' < cnt →
      w.grownBy w' (some r) → w'.heap.size = w.heap.size → (Instr.entry (.pointer (some ⟨r, 0, none⟩))).run Tryz.prog w' = .ok (.tuple #[.agg #[.int .i64 x1, .int .i64 x2], c]) w' → wpListIn F nf Tryz.prog ops Q rest (a.put o.dst (.tuple #[.bool true, .agg #[.int .i64 x1, .int .i64 x2], c])) w') :
    wpListIn F nf Tryz.prog ops Q (o :: rest) a w :=
  wpListIn_next_ranges w hg it hop 29 lawAddr rawE (fun x : Int × Int => Value.agg #[.int .i64 x.1, .int .i64 x.2]) (fun c : Value => c) (fun key kl hkey => by obtain ⟨x, y, rfl, _⟩ := addr_inv hkey; exact ⟨(x, y), rfl⟩) (fun v y hv => ⟨v, rfl⟩)
    b r n D left cnt hit h hDone (fun x c kl' y w' cnt' hkey hlk hv hat hrg hlt hgr hsz hen => by
      obtain ⟨hx, hy, he⟩ := kl_of (x := x.1) (y := x.2) (l := kl') hkey
      subst he
      have hy2 : y.1 = .held c := (congrArg Prod.fst (Option.some.inj hv)).symm
      rw [hy2] at hat
      exact hMore x.1 x.2 c w' cnt' ⟨hx, hy⟩ hlk hat hrg hlt hgr hsz hen)
/-- One more cell is told. -/
def stepK (us : Int × Int → Option (List Ar)) (n : Nat) (acc : List (Int × Int)) (ev : Array Value) (acc' : List (Int × Int)) : Prop :=
  ∃ x : Int × Int, ev = #[.agg #[.int .i64 x.1, .int .i64 x.2]] ∧ (us x).isSome = true ∧ x ∉ acc ∧ acc.length < n ∧ acc' = acc ++ [x]
def finK (us : Int × Int → Option (List Ar)) (acc : List (Int × Int)) : Prop := ∀ x, (us x).isSome = true → x ∈ acc
/-- How its range stands. -/
def KeR (J : List (Int × Int) → (Nat → Prop) → World → Prop) (us : Int × Int → Option (List Ar)) (m r n : Nat) (D : DataW Value) (wr : World) : Prop :=
  ∃ (acc : List (Int × Int)) (Z : Nat → Prop) (left : Lit → Bool) (cnt : Nat), J acc Z wr ∧ wr.ranges Tryz.prog 29 rawE m r n D left cnt ∧ acc.length + cnt ≤ n ∧ ¬ Z r ∧ (∀ x, x ∈ acc ↔ ((us x).any (fun _ => true) = true ∧ left (kl x.1 x.2) = false)) ∧ (∀ k, left k = true → Maps.has D k = true)
theorem any_true {us : Int × Int → Option (List Ar)} (x : Int × Int) : (us x).any (fun _ => true) = (us x).isSome := by cases us x <;> rfl
theorem ranges_same {w w' : World} {P : Program} {k : TypeId} {H : Type} {R : Value → Option (DataW H × List MemPlace)} {b r n : Nat} {D : DataW H} {left : Lit → Bool} {cnt : Nat} (h : w.ranges P k R b r n D left cnt) (hb' : w'.heap[b]? = w.heap[b]?) (hr' : w'.heap[r]? = w.heap[r]?) : w'.ranges P k R b r n D left cnt := by
  obtain ⟨es, clock, since, seen, c0, hb, F, hs, hD, hr, rest⟩ := h
  exact ⟨es, clock, since, seen, c0, hb'.trans hb, F, hs, hD, hr'.trans hr, rest⟩
set_option maxRecDepth 100000 in
set_option maxHeartbeats 8000000 in
theorem keys1_seq (F : Nat → Prop) (mb m n : Nat) (D : DataW Value) (us : Int × Int → Option (List Ar)) (w : World) (hown : w.ownsMap Tryz.prog 29 rawE m n D) (hm : MapHas w F D us n) (_hmb : mb < w.heap.size) :
    SeqSt Tryz.prog 112 #[.pointer (some ⟨mb, 0, none⟩)] (stepK us n) [] (finK us) (fun W => W.cell? ⟨mb, 0, none⟩ = some (.map (some m)) ∧ W.heap[m]? = w.heap[m]?) w := by
  intro J Jx Z0 W hkw hsz hM hJ hJx hY h0
  have hmlt := hown.lt
  have HM : Hid (∀ s Z W, J s Z W → (W.cell? ⟨mb, 0, none⟩ = some (.map (some m)) ∧ W.heap[m]? = w.heap[m]?) ∧ w.heap.size + 2 ≤ W.heap.size ∧ ∀ i, Z i → i < W.heap.size) := hM
  have HJ : Hid (∀ s Z W W' S, J s Z W → Kp W W' S → (∀ i, S i → w.heap.size + 2 ≤ i ∧ ¬ Z i) → J s Z W') := hJ
  have HOwn : Hid (∀ W' : World, W'.heap[m]? = w.heap[m]? → W'.ownsMap Tryz.prog 29 rawE m n D) := fun W' e => ownsMap_block hown e
  have HMH : Hid (MapHas w F D us n) := hm
  have HY : Hid (∀ s Z (x1 x2 : Int) W1, (us (x1, x2)).isSome = true → (x1, x2) ∉ s → s.length < n → J s Z W1 → YieldAt Fence.wide 7 Tryz.prog (w.heap.size + 1) #[.agg #[.int .i64 x1, .int .i64 x2]] W1 fun e W' => (e = .returned (.bool true) ∧ ∃ Z', J (s ++ [(x1, x2)]) Z' W' ∧ Kp W1 W' (fun i => Z i ∨ i < w.heap.size + 2) ∧ ∀ i, Z' i → Z i ∨ W1.heap.size ≤ i) ∨ (e = .returned (.bool false) ∧ Jx W')) := fun s Z x1 x2 W1 h1 h2 h4 h3 => hY 7 s Z _ _ W1 ⟨(x1, x2), rfl, h1, h2, h4, rfl⟩ h3
  have H0 : Hid (J [] Z0 W) := h0
  have hc := (hM _ _ _ h0).1.1
  have hb := (hM _ _ _ h0).1.2
  have hownW := ownsMap_block hown hb
  clear hkw hM hJ hJx hY h0 hown hm hb
  simp only [List.append_toArray, List.cons_append, List.nil_append]
  refine (callsIn_wide (n := 8)).1 ?_
  refine callsIn_of_wp Tryz.func112 rfl trivial ?_ rfl
  simp only [Tryz.ntmps112, List.size_toArray, List.length_cons, List.length_nil, Nat.reduceAdd, Nat.reduceSub, Array.replicate_succ, Array.replicate_zero, List.push_toArray, List.append_toArray, List.nil_append, List.cons_append]
  have HOW : Hid (W.ownsMap Tryz.prog 29 rawE m n D) := hownW
  clear hownW
  gi_wp2_with (first
    | (refine wpListIn_range_own _ rfl _ 64 rfl 29 31 lawAddr Tryz.underlying64 _ m n D rfl HOW.out ?_; intro w0 hrg0 hg0 hs0)
    | fail)
  have hkW : Kp W w0 Nul := Kp.of_grown hg0 (fun i e => by cases e)
  obtain ⟨r, hr⟩ : ∃ r, W.heap.size = r := ⟨_, rfl⟩
  have HZ0 : Hid (∀ i, Z0 i → i < r) := fun i q => by rw [← hr]; exact (HM.out _ _ _ H0.out).2.2 i q
  have HR2 : Hid (w.heap.size + 2 ≤ r) := by show _ ≤ _; omega
  have HStart : Hid (KeR J us m r n D w0) := by
    refine ⟨[], Z0, _, _, HJ.out _ _ _ _ _ H0.out hkW (fun i q => q.elim), by rw [← hr]; exact hrg0, by rw [HMH.out.size]; simp, fun q => Nat.lt_irrefl _ (HZ0.out r q), fun x => ?_, fun k hk => hk⟩
    constructor
    · intro h; cases h
    · rintro ⟨h1, h2⟩
      cases hu : us x with
      | none => rw [hu] at h1; cases h1
      | some al =>
        have hi := (HMH.out.rng x al hu).i64
        have := HMH.out.keys x.1 x.2 hi.1 hi.2
        rw [h2, hu] at this
        cases this
  rw [hr]
  clear hrg0 hg0 hkW hr hs0 HOW
  simp only [Act.put, List.setIfInBounds_toArray, List.set_cons_zero, List.set_cons_succ]
  gi_loopw [3] (fun _ wr => KeR J us m r n D wr) (fun _ wr => wr.rangeLeft m r)
  case atStart => exact HStart.out
  case round =>
    clear HStart
    obtain ⟨acc, Z, left, cnt, hj, hrg, hln, hzr, hmem, hleft⟩ := hrel
    have HLN : Hid (acc.length + cnt ≤ n) := hln
    have HJA : Hid (J acc Z wr) := hj
    have HRG : Hid (wr.ranges Tryz.prog 29 rawE m r n D left cnt) := hrg
    have HZR : Hid (¬ Z r) := hzr
    have HMEM : Hid (∀ x, x ∈ acc ↔ ((us x).any (fun _ => true) = true ∧ left (kl x.1 x.2) = false)) := hmem
    have HLEFT : Hid (∀ k, left k = true → Maps.has D k = true) := hleft
    clear hj hrg hzr hmem hleft hln
    gi_wp2_with (first
      | (refine wpListIn_next_links _ rfl _ rfl m r n D left cnt rfl HRG.out ?_ ?_)
      | fail)
    · intro hc0 hl0
      have HFin : Hid (finK us acc) := fun x hx => (HMEM.out x).2 ⟨by rw [any_true]; exact hx, hl0 _⟩
      clear hc0 hl0
      gi_wp2_with (fail)
      go_end0
      exact ⟨⟨_, rfl⟩, .inl ⟨acc, Z, HFin.out, HJA.out⟩⟩
    · intro x1 x2 c w1 cnt1 hi1 hi2 hlx hat hrg1 hlt hg1 hs1 hen
      have hi : I64 x1 ∧ I64 x2 := ⟨hi1, hi2⟩
      obtain ⟨al, hu⟩ : ∃ al, us (x1, x2) = some al := by
        have h1 := HLEFT.out _ hlx
        rw [HMH.out.keys x1 x2 hi.1 hi.2] at h1
        exact Option.isSome_iff_exists.1 h1
      have hstep := wh_step (pr := fun _ => true) (x := (x1, x2)) HMH.out.rng hi hu HMEM.out hlx
      have HNX : Hid ((x1, x2) ∉ acc) := hstep.1
      have HST : Hid (∀ y, y ∈ acc ++ [(x1, x2)] ↔ ((us y).any (fun _ => true) = true ∧ (left (kl y.1 y.2) && !Lit.sameKey (kl y.1 y.2) (kl x1 x2)) = false)) := hstep.2
      have HSO : Hid ((us (x1, x2)).isSome = true) := by show _ = true; rw [hu]; rfl
      have hsz1 := HM.out _ _ _ HJA.out
      have k1 : Kp wr w1 (fun i => i = r) := Kp.of_grown hg1 (fun i e => by cases e; rfl)
      have k1b : Kp wr (w1.alloc (.cells #[.int .i64 x1, .int .i64 x2] 29)) (fun i => i = r) := k1.alloc _
      have HJ1 : Hid (J acc Z (w1.alloc (.cells #[.int .i64 x1, .int .i64 x2] 29))) := HJ.out _ _ _ _ _ HJA.out k1b (fun i e => by
        have e' : i = r := e
        subst e'
        exact ⟨HR2.out, HZR.out⟩)
      have HR1 : Hid ((w1.alloc (.cells #[.int .i64 x1, .int .i64 x2] 29)).ranges Tryz.prog 29 rawE m r n D (fun z => left z && !z.sameKey (kl x1 x2)) cnt1) := hrg1.alloc _
      have HLF : Hid (∀ k, (left k && !k.sameKey (kl x1 x2)) = true → Maps.has D k = true) := fun k hk => HLEFT.out k (by rw [Bool.and_eq_true] at hk; exact hk.1)
      have HLT : Hid (cnt1 < cnt) := hlt
      have hrl : r < w1.heap.size := by have := HRG.out.lt; have := k1.size; omega
      have HRL : Hid (r < w1.heap.size) := hrl
      obtain ⟨fn, tms, asg, bod, hy, hR⟩ := HY.out acc Z x1 x2 _ HSO.out HNX.out (by have := HLN.out; have := HLT.out; omega) HJ1.out
      clear hi hi1 hi2 hlx hat hrg1 hlt hg1 hu hstep hsz1 k1 k1b hrl
      gi_wp2_with (fail)
      refine hR.mono ?_
      rintro e w3 (⟨rfl, Z', hj3, hk3, hz3⟩ | ⟨rfl, hj3⟩)
      · have hm3 := (HM.out _ _ _ hj3).1.2
        have hm1 := (HM.out _ _ _ HJ1.out).1.2
        have HR3 : Hid (w3.ranges Tryz.prog 29 rawE m r n D (fun z => left z && !z.sameKey (kl x1 x2)) cnt1) := ranges_same HR1.out (hm3.trans hm1.symm) (hk3.block r (by rw [World.size_alloc]; have := HRL.out; omega) (fun e => by
          rcases e with e | e
          · exact HZR.out e
          · have := HR2.out; omega))
        have HEND : Hid (KeR J us m r n D w3) := ⟨acc ++ [(x1, x2)], Z', _, cnt1, hj3, HR3.out, by have := HLN.out; have := HLT.out; rw [List.length_append, List.length_singleton]; omega, fun q => by
          rcases hz3 r q with e | e
          · exact HZR.out e
          · rw [World.size_alloc] at e; have := HRL.out; omega, HST.out, HLF.out⟩
        have hme : w3.rangeLeft m r < wr.rangeLeft m r := by rw [HR3.out.left_eq, HRG.out.left_eq]; exact HLT.out
        clear hj3 hk3 hz3 hm3 hm1 hR hy
        gi_wp2_with (fail)
        go_roundw
        case rel => exact HEND.out
        case measure => exact hme
      · have HJ3 : Hid (Jx w3) := hj3
        clear hj3 hR hy
        gi_wp2_with (fail)
        refine bodyPost_ret (res_none rfl _ _) rfl ?_
        exact ⟨⟨_, rfl⟩, .inr HJ3.out⟩
set_option maxRecDepth 100000 in
set_option maxHeartbeats 8000000 in
/-- No map: none. -/
theorem keys1_none (n : Nat) (us : Int × Int → Option (List Ar)) (hus : us = fun _ => none) (mb : Nat) (w : World) :
    SeqSt Tryz.prog 112 #[.pointer (some ⟨mb, 0, none⟩)] (stepK us n) [] (finK us) (fun W => W.cell? ⟨mb, 0, none⟩ = some (.map none)) w := by
  intro J Jx Z0 W hkw hsz hM hJ hJx hY h0
  have hc := (hM _ _ _ h0).1
  have HJ : Hid (J [] Z0 (W.alloc (.mapIter none 0 #[] 0))) := hJ _ _ _ _ _ h0 ((Kp.refl W Nul).alloc _) (fun i q => q.elim)
  have HF : Hid (finK us []) := fun x hx => by rw [hus] at hx; cases hx
  have hrg := run_range_nilMap (P := Tryz.prog) W 64 29 31 Tryz.underlying64
  have hnx : ∀ ty, (Instr.next (.pointer (some ⟨W.heap.size, 0, none⟩)) false ty).run Tryz.prog (W.alloc (.mapIter none 0 #[] 0)) = .ok (.tuple #[.bool false]) (W.alloc (.mapIter none 0 #[] 0)) := fun ty => run_next_nilMap W ty 0 0 #[]
  clear hkw hsz hM hJ hJx hY h0
  simp only [List.append_toArray, List.cons_append, List.nil_append]
  go_enter Tryz.func112, Tryz.ntmps112
  go_wp2_with fail
  refine wp_loop_rounds 1 ?_
  rw [rounds_succ]
  go_wp2_with fail
  go_end0
  exact ⟨⟨_, rfl⟩, .inl ⟨[], Z0, HF.out, HJ.out⟩⟩
end Go.Proofs.YtdlieecpckpemaaGreatDoor
