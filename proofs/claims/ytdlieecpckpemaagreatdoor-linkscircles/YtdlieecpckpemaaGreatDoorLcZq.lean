/- Users' closures; a range over links. whose; Users. -/
import Derived.Test.YtdlieecpckpemaaGreatDoorLcZn
import Derived.Test.YtdlieecpckpemaaGreatDoorLcZe
import Derived.Laws.IdiomRangeMap
namespace Go.Proofs.YtdlieecpckpemaaGreatDoor
open Go.RowKit Go.Sort Go.Lib Go.Maps

set_option maxRecDepth 20000 in
set_option maxHeartbeats 1000000 in
theorem u1_at (ab : Nat) (x y c r d s : Int) (w : World) (hb : Blk w ab [.int .i64 x, .int .i64 y] 29) :
    Calls Tryz.prog 42 #[.agg #[.int .i64 c, .int .i64 r, .int .i64 d, .int .i64 s], .pointer (some ⟨ab, 0, none⟩)] w fun e w' => e = .returned (.bool (inA c r d s x y)) ∧ Kp w w' Nul := by
  have H1 : Hid (∀ wq, Kp w wq Nul → Calls Tryz.prog 43 #[.agg #[.int .i64 c, .int .i64 r, .int .i64 d, .int .i64 s], .agg #[.int .i64 x, .int .i64 y]] wq fun e w' => e = .returned (.bool (inA c r d s x y)) ∧ Kp w w' Nul) := fun wq k => (pIn_any c r d s x y wq).mono fun e w' ⟨h1, h2⟩ => ⟨h1, k.trans (Kp.of_gr h2)⟩
  have hb2 := hb.alloc (.cells #[.int .i64 c, .int .i64 r, .int .i64 d, .int .i64 s] 52)
  have c0 : (w.alloc (.cells #[.int .i64 c, .int .i64 r, .int .i64 d, .int .i64 s] 52)).cell? ⟨ab, 0, none⟩ = some (.int .i64 x) := hb2.cell rfl
  have c1 : (w.alloc (.cells #[.int .i64 c, .int .i64 r, .int .i64 d, .int .i64 s] 52)).cell? ⟨ab, 1, none⟩ = some (.int .i64 y) := hb2.cell rfl
  generalize inA c r d s x y = V at *
  clear hb hb2
  go_enter Tryz.func42, Tryz.ntmps42
  go_wp2_with (go_at_call 43; refine (H1.out _ ((Kp.refl _ _).alloc _)).mono ?_; rintro e w' ⟨rfl, hg⟩)
  go_ret
  exact ⟨rfl, hg⟩
/-- Has one of the areas the cell? -/
def anyHas (x : Int × Int) (al : List Ar) : Bool := al.any (fun a => inA a.c1 a.r1 a.c2 a.r2 x.1 x.2)
set_option maxHeartbeats 1000000 in
theorem u2_at (ab fb : Nat) (x : Int × Int) (al : List Ar) (av : Option Addr) (cv : Nat) (w : World) (hb : Blk w ab [.int .i64 x.1, .int .i64 x.2] 29) (hf : w.cell? ⟨fb, 0, none⟩ = some (.func (.func 42) #[] #[.pointer (some ⟨ab, 0, none⟩)])) (hal : al.length ≤ 9223372036854775807) (ha : 0 < al.length → ∃ b o, av = some ⟨b, o, none⟩ ∧ AreasAt w b o al) :
    Calls Tryz.prog 45 #[.slice av al.length cv, .pointer (some ⟨fb, 0, none⟩)] w fun e w' => e = .returned (.bool (anyHas x al)) ∧ Kp w w' Nul := by
  have H1 : Hid (Calls Tryz.prog 46 #[.slice av al.length cv, .func (.func 42) #[] #[.pointer (some ⟨ab, 0, none⟩)]] w fun e w' => e = .returned (.bool (anyHas x al)) ∧ Kp w w' Nul) :=
    containsR_at (fun a => inA a.c1 a.r1 a.c2 a.r2 x.1 x.2) 42 #[.pointer (some ⟨ab, 0, none⟩)] (enters_of Tryz.func42 (by kernel_rfl) rfl) al av cv w hal ha (fun W a k => u1_at ab x.1 x.2 a.c1 a.r1 a.c2 a.r2 W (hb.kp k (fun x => x)))
  generalize anyHas x al = V at *
  generalize al.length = N at *
  clear hb hal ha
  go_enter Tryz.func45, Tryz.ntmps45
  go_wp2_with fail
  refine H1.out.mono ?_
  rintro e w' ⟨rfl, hg⟩
  go_wp2_with fail
  go_ret
  exact ⟨rfl, hg⟩
set_option maxRecDepth 20000 in
theorem addr_inv {key : Value} {l : Lit} (h : keyOf Tryz.prog 29 key = some l) : ∃ x y, key = .agg #[.int .i64 x, .int .i64 y] ∧ I64 x ∧ I64 y := by
  unfold keyOf at h
  rw [Tryz.underlying29] at h
  simp only at h
  split at h
  · rename_i hf
    rw [Bool.and_eq_true] at hf
    obtain ⟨n, hn⟩ : ∃ n, Tryz.prog.types.size = n + 1 := by
      have h := rowAddr
      generalize Tryz.prog.types.size = s at h
      cases s with
      | zero => exact absurd h (Nat.not_lt_zero _)
      | succ n => exact ⟨n, rfl⟩
    rw [hn] at h
    have hfm := hf.2
    cases key <;> simp only [Value.formed, Tryz.underlying29, cellsAddr2, Bool.false_eq_true, beq_iff_eq] at hfm
    rename_i cs
    obtain ⟨c0, c1, rfl⟩ : ∃ c0 c1, cs = #[c0, c1] := by
      obtain ⟨l⟩ := cs
      match l, hfm with
      | [c0, c1], _ => exact ⟨c0, c1, rfl⟩
    simp [Program.keyLits, Tryz.underlying29, Tryz.underlying3, Value.cells, cellsInt1, cellsAddr2] at h
    have wf : ∀ z : Int, (Lit.int .i64 z).wf = true → I64 z := fun z hz => by
      have hm : IntKind.i64.min = -9223372036854775808 := rfl
      simp [Lit.wf, hm] at hz
      unfold I64
      omega
    cases c0 with
    | int q0 x =>
      by_cases h0 : q0 = .i64 ∧ (Lit.int .i64 x).wf = true
      · simp only [h0, and_self, if_true, Option.bind_some, Function.comp] at h
        cases c1 with
        | int q1 y =>
          by_cases h1 : q1 = .i64 ∧ (Lit.int .i64 y).wf = true
          · obtain ⟨rfl, h0⟩ := h0
            obtain ⟨rfl, h1⟩ := h1
            exact ⟨x, y, rfl, wf x h0, wf y h1⟩
          · simp [h1] at h
        | _ => simp at h
      · simp [h0] at h
    | _ => simp at h
  · cases h
theorem kl_of {x y : Int} {l : Lit} (h : keyOf Tryz.prog 29 (.agg #[.int .i64 x, .int .i64 y]) = some l) : I64 x ∧ I64 y ∧ l = kl x y := by
  obtain ⟨x', y', e, hx, hy⟩ := addr_inv h
  have e2 : x = x' ∧ y = y' := by simpa using e
  obtain ⟨rfl, rfl⟩ := e2
  refine ⟨hx, hy, ?_⟩
  have := kl_key hx hy
  rw [h] at this
  exact Option.some.inj this
set_option maxRecDepth 20000 in
/-- A range's step over links. -/
theorem wpList_next_links (w : World) {ops : Array Oper} {rest : List Oper} {o : Oper} {a : Act} {Q : Exit → Act → World → Prop} (hg : o.guard = none) (it : Operand) (hop : o.op = Op.next it false)
    (b r n : Nat) (D : DataW Value) (left : Lit → Bool) (cnt : Nat) (hit : a.eval it = .pointer (some ⟨r, 0, none⟩)) (h : w.ranges Tryz.prog 29 rawE b r n D left cnt)
    (hDone : cnt = 0 → (∀ kl, left kl = false) → wpList Tryz.prog ops Q rest (a.put o.dst (.tuple #[.bool false])) w)
    (hMore : ∀ (x : Int × Int) (c : Value) (w' : World) (cnt' : Nat), (I64 x.1 ∧ I64 x.2) → left (kl x.1 x.2) = true → (∀ zd, D.atKey (kl x.1 x.2) zd = .held c) → w'.ranges Tryz.prog 29 rawE b r n D (fun z => left z && !z.sameKey (kl x.1 x.2)) cnt' → cnt' < cnt →
      w.grownBy w' (some r) → w'.heap.size = w.heap.size → (Instr.entry (.pointer (some ⟨r, 0, none⟩))).run Tryz.prog w' = .ok (.tuple #[.agg #[.int .i64 x.1, .int .i64 x.2], c]) w' → wpList Tryz.prog ops Q rest (a.put o.dst (.tuple #[.bool true, .agg #[.int .i64 x.1, .int .i64 x.2], c])) w') :
    wpList Tryz.prog ops Q (o :: rest) a w :=
  wpList_next_ranges w hg it hop 29 lawAddr rawE (fun x : Int × Int => Value.agg #[.int .i64 x.1, .int .i64 x.2]) (fun c : Value => c) (fun key kl hkey => by obtain ⟨x, y, rfl, _⟩ := addr_inv hkey; exact ⟨(x, y), rfl⟩) (fun v y hv => ⟨v, rfl⟩)
    b r n D left cnt hit h hDone (fun x c kl' y w' cnt' hkey hlk hv hat hrg hlt hgr hsz hen => by
      obtain ⟨hx, hy, he⟩ := kl_of (x := x.1) (y := x.2) (l := kl') hkey
      subst he
      have hy2 : y.1 = .held c := (congrArg Prod.fst (Option.some.inj hv)).symm
      rw [hy2] at hat
      exact hMore x c w' cnt' ⟨hx, hy⟩ hlk hat hrg hlt hgr hsz hen)
theorem flat_cons (a : Int × Int) (l : List (Int × Int)) : (flatK encA 2 (a :: l).toArray).toList = encA a ++ (flatK encA 2 l.toArray).toList := by
  apply List.ext_getElem
  · simp [encA]; omega
  · intro t h1 h2
    have ht : t < (l.length + 1) * 2 := by simpa using h1
    have e1 := get_flatK encA 2 (a :: l).toArray t (by simpa using ht)
    rw [getElem!_pos _ t (by simpa using h1)] at e1
    rw [Array.getElem_toList, e1]
    by_cases h : t < 2
    · rw [List.getElem_append_left (by simpa [encA] using h)]
      have : t / 2 = 0 := by omega
      rw [this, Nat.mod_eq_of_lt h]
      simp [h, encA]
    · rw [List.getElem_append_right (by simpa [encA] using h), Array.getElem_toList]
      have hl : t - (encA a).length < l.length * 2 := by simp [encA]; omega
      have e2 := get_flatK encA 2 l.toArray (t - (encA a).length) (by simpa using hl)
      rw [getElem!_pos _ _ (by simpa using hl)] at e2
      rw [e2]
      have e3 : (t - (encA a).length) / 2 = t / 2 - 1 := by simp [encA]; omega
      have e4 : (t - (encA a).length) % 2 = t % 2 := by simp [encA]; omega
      rw [e3, e4]
      obtain ⟨q, hq⟩ : ∃ q, t / 2 = q + 1 := ⟨t / 2 - 1, by omega⟩
      rw [hq]
      simp
theorem flat_snoc (l : List (Int × Int)) (x : Int × Int) : (flatK encA 2 (l ++ [x]).toArray).toList = (flatK encA 2 l.toArray).toList ++ encA x := by
  induction l with
  | nil => rw [List.nil_append, flat_cons]; simp [flatK]
  | cons a l ih => rw [List.cons_append, flat_cons, flat_cons, ih, List.append_assoc]
theorem Kp.grown {w w' : World} (h : Kp w w' Nul) : w.grownBy w' none := ⟨h.os, h.tape, h.output, h.size, fun i hi _ => h.block i hi (fun x => x)⟩
theorem row_kp {w w' : World} {S : Nat → Prop} {base size n : Nat} {e : TypeId} {v : Value} {xs : List Value} (h : w.ownsRow base e size v n xs) (g : Kp w w' S) (hS : ∀ i, base ≤ i → ¬ S i) : w'.ownsRow base e size v n xs := by
  obtain ⟨h0, h⟩ := h
  refine ⟨h0, ?_⟩
  rcases h with h | ⟨gb, cap, cur, h1, h2, h3, h4⟩
  · exact .inl h
  · refine .inr ⟨gb, cap, cur, h1, h2, ?_, h4⟩
    have hl : gb < w.heap.size := (Array.getElem?_eq_some_iff.1 h3).1
    rw [g.block gb hl (hS gb h2)]; exact h3
end Go.Proofs.YtdlieecpckpemaaGreatDoor
namespace Go.Proofs.YtdlieecpckpemaaGreatDoor
open Go.RowKit Go.Sort Go.Lib Go.Maps

@[go_sem] theorem run_store_fn (P : Program) (w : World) (a : Addr) (m : Mode) (fn : Fn) (first captured : Array Value) : (store a (.func fn first captured) m).run P w = stored P w a (.func fn first captured) m := run_store P w a _ m rfl
theorem own1_row {w : World} {B n : Nat} {v : Value} {A : List (Int × Int)} (hn : A.length = n) (h : w.ownsRow B 29 2 v n (flatK encA 2 A.toArray).toList) : Own1 encA 2 B w v A := by
  subst hn
  have h0 := h
  obtain ⟨_, h1⟩ := h0
  rcases h1 with ⟨e1, e2⟩ | _
  · exact .inl ⟨List.length_eq_zero_iff.1 e2, e1⟩
  · rcases own_holds h with e | ⟨g, cap, h1, h2, h3, h4, h5, h6⟩
    · obtain ⟨_, h2⟩ := h
      rcases h2 with ⟨_, e2⟩ | ⟨g, cap, cur, e3, _⟩
      · exact .inl ⟨List.length_eq_zero_iff.1 e2, e⟩
      · rw [e] at e3; cases e3
    · exact .inr ⟨g, cap, h1, h2, h3, h4, h5, h6⟩
theorem own1_from {w : World} {B : Nat} {v : Value} {A : List (Int × Int)} (h : Own1 encA 2 B w v A) : CellsFrom B w v A := by
  rcases h with ⟨rfl, rfl⟩ | ⟨g, cap, rfl, h2, h3, h4, h5, h6⟩
  · exact ⟨none, 0, rfl, .inl ⟨rfl, rfl⟩⟩
  · exact ⟨_, _, rfl, .inr ⟨g, rfl, h2, (holds_enc encA_len h4).cells⟩⟩
theorem merge_strict {A : List (Int × Int)} (h : A.Nodup) : Strict (A.mergeSort fun x y => !(ltOf cfA) y x) := by
  have hnd : (A.mergeSort fun x y => !(ltOf cfA) y x).Nodup := (List.mergeSort_perm A _).nodup_iff.2 h
  refine List.pairwise_iff_getElem.2 (fun i j hi hj hij => ?_)
  have h1 := merge_sorted swoA A i j hij (by simpa using hj)
  rw [getElem!_pos _ j (by simpa using hj), getElem!_pos _ i (by simpa using hi)] at h1
  simp only [List.getElem_toArray] at h1
  cases h2 : ltOf cfA (A.mergeSort fun x y => !(ltOf cfA) y x)[i] (A.mergeSort fun x y => !(ltOf cfA) y x)[j] with
  | true => rfl
  | false =>
    have e := cfA_same _ _ h2 h1
    have := List.pairwise_iff_getElem.1 hnd i j hi hj hij
    exact absurd e this
theorem own_block {w : World} {base size n : Nat} {e : TypeId} {v : Value} {xs : List Value} (h : w.ownsRow base e size v n xs) (i : Nat) (hi : v.ownBlock = some i) : base ≤ i := by
  obtain ⟨_, h⟩ := h
  rcases h with ⟨rfl, _⟩ | ⟨g, cap, cur, rfl, h2, _⟩
  · cases hi
  · simp [Value.ownBlock] at hi
    omega
theorem nodup_snoc {A : List (Int × Int)} {x : Int × Int} (h : A.Nodup) (hx : x ∉ A) : (A ++ [x]).Nodup := by
  rw [List.nodup_append]
  refine ⟨h, by simp, fun a ha b hb e => ?_⟩
  have : b = x := by simpa using hb
  subst this
  subst e
  exact hx ha
/-- A range over links as it stands. -/
def WhR (w : World) (m n : Nat) (D : DataW Value) (us : Int × Int → Option (List Ar)) (pr : List Ar → Bool) (v : Value) (wr : World) : Prop :=
  ∃ (left : Lit → Bool) (cnt : Nat) (acc : List (Int × Int)), wr.ranges Tryz.prog 29 rawE m w.heap.size n D left cnt ∧ wr.ownsRow (w.heap.size + 1) 29 2 v acc.length (flatK encA 2 acc.toArray).toList ∧ acc.length + cnt ≤ n ∧ acc.Nodup ∧
    (∀ x, x ∈ acc ↔ ((us x).any pr = true ∧ left (kl x.1 x.2) = false)) ∧ (∀ k, left k = true → Maps.has D k = true) ∧ Kp w wr Nul
theorem sameKey_kl {x y : Int × Int} (hx : VC x) (hy : I64 y.1 ∧ I64 y.2) : Lit.sameKey (kl x.1 x.2) (kl y.1 y.2) = true ↔ x = y := by
  have hi := hx.i64
  constructor
  · intro h
    have e := WideAt.sameKey_eq h
    have := kl_inj hi.1 hi.2 hy.1 hy.2 e
    exact Prod.ext this.1 this.2
  · rintro rfl
    have hk := kl_key hy.1 hy.2
    generalize kl x.1 x.2 = l at hk ⊢
    exact WideAt.sameKey_self (lawAddr.key hk)
/-- What one more entry does. -/
theorem wh_step {us : Int × Int → Option (List Ar)} {pr : List Ar → Bool} {left : Lit → Bool} {acc : List (Int × Int)} {x : Int × Int} {al : List Ar} (hr : ∀ y al, us y = some al → VC y) (hi : I64 x.1 ∧ I64 x.2) (hu : us x = some al) (hm : ∀ y, y ∈ acc ↔ ((us y).any pr = true ∧ left (kl y.1 y.2) = false)) (hl : left (kl x.1 x.2) = true) :
    x ∉ acc ∧ ∀ y, y ∈ (if pr al = true then acc ++ [x] else acc) ↔ ((us y).any pr = true ∧ (left (kl y.1 y.2) && !Lit.sameKey (kl y.1 y.2) (kl x.1 x.2)) = false) := by
  have hx : x ∉ acc := fun h => by
    have := ((hm x).1 h).2
    rw [hl] at this; cases this
  refine ⟨hx, fun y => ?_⟩
  have hy0 : (us y).any pr = true → VC y := fun h => by
    cases hu2 : us y with
    | none => rw [hu2] at h; cases h
    | some al' => exact hr y al' hu2
  by_cases e : y = x
  · subst e
    rw [hu]
    have hs : Lit.sameKey (kl y.1 y.2) (kl y.1 y.2) = true := (sameKey_kl (hr y al hu) hi).2 rfl
    rw [hs]
    cases hp : pr al
    · simp [hx, hp]
    · simp [hp]
  · have h1 : y ∈ (if pr al = true then acc ++ [x] else acc) ↔ y ∈ acc := by
      split
      · simp [e]
      · exact Iff.rfl
    rw [h1, hm]
    constructor
    · rintro ⟨h2, h3⟩
      exact ⟨h2, by rw [h3]; rfl⟩
    · rintro ⟨h2, h3⟩
      refine ⟨h2, ?_⟩
      have hs : Lit.sameKey (kl y.1 y.2) (kl x.1 x.2) = false := by
        cases h4 : Lit.sameKey (kl y.1 y.2) (kl x.1 x.2) with
        | false => rfl
        | true => exact absurd ((sameKey_kl (hy0 h2) hi).1 h4) e
      rw [hs] at h3
      simpa using h3
set_option maxHeartbeats 2000000 in
theorem whose_nil (l fb : Nat) (w : World) (hb : Blk w l [.map none] 66) :
    Calls Tryz.prog 44 #[.pointer (some ⟨l, 0, none⟩), .func (.func 45) #[] #[.pointer (some ⟨fb, 0, none⟩)]] w fun e w' => e = .returned (.slice none 0 0) ∧ Kp w w' Nul := by
  have c0 : w.cell? ⟨l, 0, none⟩ = some (.map none) := hb.cell rfl
  have hrg := run_range_nilMap (P := Tryz.prog) w 64 29 31 Tryz.underlying64
  have hnx : ∀ ty, (Instr.next (.pointer (some ⟨w.heap.size, 0, none⟩)) false ty).run Tryz.prog (w.alloc (.mapIter none 0 #[] 0)) = .ok (.tuple #[.bool false]) (w.alloc (.mapIter none 0 #[] 0)) := fun ty => run_next_nilMap w ty 0 0 #[]
  have HS : Hid (∀ wq, Calls Tryz.prog 80 #[.slice none 0 0, .func (.func 50) #[] #[]] wq fun e w' => e = .returned (.tuple #[]) ∧ w' = wq) := fun wq => AnyF.slices_SortFunc_none Tryz.laySortFuncAddr none 0 _ wq
  have HK : Hid (Kp w (w.alloc (.mapIter none 0 #[] 0)) Nul) := (Kp.refl w Nul).alloc _
  clear hb
  go_enter Tryz.func44, Tryz.ntmps44
  go_wp2_with fail
  refine wp_loop_rounds 1 ?_
  rw [rounds_succ]
  go_wp2_with (go_at_call 80; refine (HS.out _).mono ?_; rintro e w' ⟨rfl, hz⟩; subst hz)
  go_ret
  exact ⟨rfl, HK.out⟩
set_option maxRecDepth 20000 in
set_option maxHeartbeats 8000000 in
theorem whose_at (F : Nat → Prop) (l m n fb : Nat) (D : DataW Value) (us : Int × Int → Option (List Ar)) (pr : List Ar → Bool) (w : World) (hb : Blk w l [.map (some m)] 66) (hown : w.ownsMap Tryz.prog 29 rawE m n D) (hm : MapHas w F D us n) (hn : n ≤ 1048576)
    (hu2 : ∀ wq av al cv, Kp w wq Nul → al.length ≤ 9223372036854775807 → (0 < al.length → ∃ b o, av = some ⟨b, o, none⟩ ∧ AreasAt wq b o al) → Calls Tryz.prog 45 #[.slice av al.length cv, .pointer (some ⟨fb, 0, none⟩)] wq fun e w' => e = .returned (.bool (pr al)) ∧ Kp wq w' Nul) :
    Calls Tryz.prog 44 #[.pointer (some ⟨l, 0, none⟩), .func (.func 45) #[] #[.pointer (some ⟨fb, 0, none⟩)]] w fun e w' => ∃ L v', e = .returned v' ∧ CellsFrom w.heap.size w' v' L ∧ Strict L ∧ (∀ x, x ∈ L ↔ (us x).any pr = true) ∧ Kp w w' Nul := by
  have c0 : w.cell? ⟨l, 0, none⟩ = some (.map (some m)) := hb.cell rfl
  obtain ⟨i0, hi, hz0, hz1, hz2⟩ := infoAddr
  have hmlt := hown.lt
  have HM : Hid (MapHas w F D us n) := hm
  have HU2 : Hid (∀ wq av al cv, Kp w wq Nul → al.length ≤ 9223372036854775807 → (0 < al.length → ∃ b o, av = some ⟨b, o, none⟩ ∧ AreasAt wq b o al) → Calls Tryz.prog 45 #[.slice av al.length cv, .pointer (some ⟨fb, 0, none⟩)] wq fun e w' => e = .returned (.bool (pr al)) ∧ Kp wq w' Nul) := hu2
  have HOwn : Hid (w.ownsMap Tryz.prog 29 rawE m n D) := hown
  clear hb hm hu2 hown
  go_enter Tryz.func44, Tryz.ntmps44
  go_wp2_with (first
    | (at_range; refine wpList_range_own _ rfl _ 64 rfl 29 31 lawAddr Tryz.underlying64 _ m n D rfl HOwn.out ?_; intro w0 hrg0 hg0 hs0)
    | fail)
  have HStart : Hid (WhR w m n D us pr (.slice none 0 0) w0) := by
    refine ⟨_, _, [], hrg0, ⟨by simp, .inl ⟨rfl, rfl⟩⟩, ?_, List.nodup_nil, fun x => ?_, fun k hk => hk, Kp.of_grown hg0 (fun i e => by cases e)⟩
    · rw [HM.out.size]; simp
    · constructor
      · intro h; cases h
      · rintro ⟨h1, h2⟩
        cases hu : us x with
        | none => rw [hu] at h1; cases h1
        | some al =>
          have hi := (HM.out.rng x al hu).i64
          have := HM.out.keys x.1 x.2 hi.1 hi.2
          rw [h2, hu] at this
          cases this
  clear hrg0 hg0
  go_frame
  go_loopw [5] (fun v wr => WhR w m n D us pr v wr) (fun _ wr => wr.rangeLeft m w.heap.size)
  case atStart => exact HStart.out
  case round =>
    clear HStart
    obtain ⟨left, cnt, acc, hrg, hrow, hlen, hnd, hmem, hleft, hkp⟩ := hrel
    have HROW : Hid (wr.ownsRow (w.heap.size + 1) 29 2 u5 acc.length (flatK encA 2 acc.toArray).toList) := hrow
    have HLEN : Hid (acc.length + cnt ≤ n) := hlen
    have HND : Hid acc.Nodup := hnd
    have HMEM : Hid (∀ x, x ∈ acc ↔ ((us x).any pr = true ∧ left (kl x.1 x.2) = false)) := hmem
    have HLEFT : Hid (∀ k, left k = true → Maps.has D k = true) := hleft
    have HKP : Hid (Kp w wr Nul) := hkp
    have HRG : Hid (wr.ranges Tryz.prog 29 rawE m w.heap.size n D left cnt) := hrg
    clear hrow hlen hnd hmem hleft hkp hrg
    go_wp2_with (first
      | (at_next; refine wpList_next_links _ rfl _ rfl m w.heap.size n D left cnt rfl HRG.out ?_ ?_)
      | fail)
    · intro hc0 hl0
      have HSort : Hid (Calls Tryz.prog 80 #[u5, .func (.func 50) #[] #[]] wr fun e w' => e = .returned (.tuple #[]) ∧ CellsFrom w.heap.size w' u5 (acc.mergeSort fun x y => !(ltOf cfA) y x) ∧ Kp w w' Nul) := by
        have hacc : acc.length ≤ 1048576 := by have := HLEN.out; omega
        refine (sort_cells acc u5 (w.heap.size + 1) wr hacc (own1_row rfl HROW.out)).mono ?_
        rintro e w' ⟨rfl, h1, h2⟩
        refine ⟨rfl, ?_, HKP.out.trans' h2 (fun i hi e => absurd e (by omega))⟩
        obtain ⟨a, c, e1, e2⟩ := own1_from h1
        refine ⟨a, c, e1, ?_⟩
        rcases e2 with e2 | ⟨b, f1, f2, f3⟩
        · exact .inl e2
        · exact .inr ⟨b, f1, by omega, f3⟩
      have HM2 : Hid (∀ x, x ∈ (acc.mergeSort fun x y => !(ltOf cfA) y x) ↔ (us x).any pr = true) := fun x => by
        rw [List.mem_mergeSort, HMEM.out, hl0]
        simp
      clear hc0 hl0
      go_wp2_with fail
      refine HSort.out.mono ?_
      rintro e w' ⟨rfl, hcf, hk⟩
      go_wp2_with fail
      go_ret
      exact ⟨_, _, rfl, hcf, merge_strict HND.out, HM2.out, hk⟩
    · intro x1 x2 c w1 cnt1 hi1 hi2 hlx hat hrg1 hlt hg1 hs1 hen
      obtain ⟨al, hu⟩ : ∃ al, us (x1, x2) = some al := by
        have h1 := HLEFT.out _ hlx
        rw [HM.out.keys x1 x2 hi1 hi2] at h1
        exact Option.isSome_iff_exists.1 h1
      obtain ⟨v0, hv0, har⟩ := HM.out.vals x1 x2 al hu
      rw [hat] at hv0
      have hcv : c = v0 := DataW.held.inj hv0
      subst hcv
      obtain ⟨av, cv, hce, hl1, hl2, hal⟩ := har
      subst hce
      have k1 : Kp wr w1 (fun i => i = w.heap.size) := Kp.of_grown hg1 (fun i e => by cases e; rfl)
      have HK1 : Hid (Kp w w1 Nul) := HKP.out.trans' k1 (fun i hi e => absurd e (by omega))
      have hstep := wh_step (pr := pr) (x := (x1, x2)) HM.out.rng ⟨hi1, hi2⟩ hu HMEM.out hlx
      have HNX : Hid ((x1, x2) ∉ acc) := hstep.1
      have HST : Hid (∀ y, y ∈ (if pr al = true then acc ++ [(x1, x2)] else acc) ↔ ((us y).any pr = true ∧ (left (kl y.1 y.2) && !Lit.sameKey (kl y.1 y.2) (kl x1 x2)) = false)) := hstep.2
      have HR1 : Hid (w1.ranges Tryz.prog 29 rawE m w.heap.size n D (fun z => left z && !z.sameKey (kl x1 x2)) cnt1) := hrg1
      have HRow1 : Hid (w1.ownsRow (w.heap.size + 1) 29 2 u5 acc.length (flatK encA 2 acc.toArray).toList) := row_kp HROW.out k1 (fun i hi e => by omega)
      have HLF : Hid (∀ k, (left k && !k.sameKey (kl x1 x2)) = true → Maps.has D k = true) := fun k hk => HLEFT.out k (by rw [Bool.and_eq_true] at hk; exact hk.1)
      have hcl : Hid (∀ wq, Kp w1 wq Nul → Calls Tryz.prog 45 #[.slice av al.length cv, .pointer (some ⟨fb, 0, none⟩)] wq fun e w' => e = .returned (.bool (pr al)) ∧ Kp wq w' Nul) := fun wq k => by
        have kq := HK1.out.trans k
        have hmx : maxLen ≤ 9223372036854775807 := by decide
        refine HU2.out wq av al cv kq (by omega) (fun h => ?_)
        obtain ⟨b, o, e1, _, e3⟩ := hal h
        exact ⟨b, o, e1, e3.kp kq (fun x => x)⟩
      have hA : Blk (w1.alloc (.cells #[.int .i64 x1, .int .i64 x2] 29)) w1.heap.size [.int .i64 x1, .int .i64 x2] 29 := Blk.new w1 [.int .i64 x1, .int .i64 x2] _
      have HA : Hid (∀ wq, Kp (w1.alloc (.cells #[.int .i64 x1, .int .i64 x2] 29)) wq Nul → Blk wq w1.heap.size [.int .i64 x1, .int .i64 x2] 29) := fun wq k => hA.kp k (fun x => x)
      have hcntlt : cnt1 < cnt := hlt
      have hs1' := HKP.out.size
      generalize al.length = nl at *
      obtain ⟨pv, hpv⟩ : ∃ pv, pr al = pv := ⟨_, rfl⟩
      have HPV : Hid (pr al = pv) := hpv
      rw [hpv] at hcl HST
      clear hi1 hi2 hlx hat hrg1 hlt hg1 hu hv0 hl1 hl2 hal k1 hstep hA hpv
      go_wp2_with fail
      refine (hcl.out _ ((Kp.refl _ _).alloc _)).mono ?_
      rintro e w3 ⟨rfl, hk3⟩
      have hk13 : Kp w1 w3 Nul := ((Kp.refl w1 Nul).alloc _).trans hk3
      have HK3 : Hid (Kp w w3 Nul) := HK1.out.trans hk13
      have HR3 : Hid (w3.ranges Tryz.prog 29 rawE m w.heap.size n D (fun z => left z && !z.sameKey (kl x1 x2)) cnt1) := HR1.out.kept hk13.grown (by simp) (by simp)
      have HRow3 : Hid (w3.ownsRow (w.heap.size + 1) 29 2 u5 acc.length (flatK encA 2 acc.toArray).toList) := row_kp HRow1.out hk13 (fun i _ e => e)
      have hbx := HA.out w3 hk3
      rw [hs1] at hbx
      have q0 : w3.cell? ⟨wr.heap.size, 0, none⟩ = some (.int .i64 x1) := hbx.cell rfl
      have q1 : w3.cell? ⟨wr.heap.size, 1, none⟩ = some (.int .i64 x2) := hbx.cell rfl
      have hs3 : w1.heap.size ≤ w3.heap.size := hk13.size
      clear hk3 hk13 hbx hcl HA
      cases pv with
      | false =>
        go_wp2_with fail
        go_roundw
        case rel => exact ⟨_, cnt1, acc, HR3.out, HRow3.out, by have := HLEN.out; omega, HND.out, HST.out, HLF.out, HK3.out⟩
        case measure => rw [HR3.out.left_eq, HRG.out.left_eq]; exact hcntlt
      | true =>
        have hb4 := Blk.new w3 [.int .i64 x1, .int .i64 x2] 29
        have HB4 : Hid (Blk (w3.alloc (.cells #[.int .i64 x1, .int .i64 x2] 29)) w3.heap.size [.int .i64 x1, .int .i64 x2] 29) := hb4
        have HRow4 : Hid ((w3.alloc (.cells #[.int .i64 x1, .int .i64 x2] 29)).ownsRow (w.heap.size + 1) 29 2 u5 acc.length (flatK encA 2 acc.toArray).toList) := row_kp HRow3.out ((Kp.refl w3 Nul).alloc _) (fun i _ e => e)
        clear hb4
        go_wp2_with (at_builtin; refine wpList_append_own _ rfl _ _ 30 rfl (w.heap.size + 1) 29 i0 _ 2 16 Tryz.underlying30 hi hz0 hz1 hz2 rfl (by decide) _ _ _ rfl HRow4.out ⟨w3.heap.size, 0, none⟩ 1 1 (encA (x1, x2)) rfl ?qc1 ?qc2 ?qc3 ?qc4 ?qc5 ?qc6 ?_)
        case qc1 => rfl
        case qc2 =>
          intro j u hj
          rw [Addr.add_lit, Nat.zero_add]
          exact HB4.out.at'.trans hj
        case qc3 => exact encA_one _
        case qc4 => have := HLEN.out; unfold maxLen; omega
        case qc5 => have := HLEN.out; omega
        case qc6 => rw [World.size_alloc]; have := HK3.out.size; omega
        intro v5 w5 hrow5 hg5 hnil5
        have hob := own_block HRow4.out
        have k45 := Kp.of_grown (S := fun i => u5.ownBlock = some i) hg5 (fun i e => e)
        have HK5 : Hid (Kp w w5 Nul) := (HK3.out.alloc _).trans' k45 (fun i hi e => by have := hob i e; omega)
        have HR5 : Hid (w5.ranges Tryz.prog 29 rawE m w.heap.size n D (fun z => left z && !z.sameKey (kl x1 x2)) cnt1) := (HR3.out.alloc _).kept hg5 (fun e => by have := hob m e.symm; omega) (fun e => by have := hob _ e.symm; omega)
        have HRow5 : Hid (w5.ownsRow (w.heap.size + 1) 29 2 v5 (acc ++ [(x1, x2)]).length (flatK encA 2 (acc ++ [(x1, x2)]).toArray).toList) := by
          show World.ownsRow _ _ _ _ _ _ _
          rw [flat_snoc, List.length_append]
          exact hrow5
        clear hrow5 hg5 hnil5 k45 hob
        go_wp2_with fail
        go_roundw
        case rel => exact ⟨_, cnt1, acc ++ [(x1, x2)], HR5.out, HRow5.out, by have := HLEN.out; simp; omega, nodup_snoc HND.out HNX.out, HST.out, HLF.out, HK5.out⟩
        case measure => rw [HR5.out.left_eq, HRG.out.left_eq]; exact hcntlt
set_option maxRecDepth 20000 in
set_option maxHeartbeats 2000000 in
theorem users_at (F : Nat → Prop) (l n : Nat) (us : Int × Int → Option (List Ar)) (c r : Int) (w : World) (h : LinksIn w F l us n) (hn : n ≤ 1048576) :
    Calls Tryz.prog 19 #[.pointer (some ⟨l, 0, none⟩), .agg #[.int .i64 c, .int .i64 r]] w fun e w' => ∃ L v', e = .returned v' ∧ CellsFrom w.heap.size w' v' L ∧ Strict L ∧ (∀ x, x ∈ L ↔ (us x).any (anyHas (c, r)) = true) ∧ Kp w w' Nul := by
  obtain ⟨W, hW⟩ : ∃ W, (w.alloc (.cells #[.int .i64 c, .int .i64 r] 29)).alloc (.cells #[.func (.func 42) #[] #[.pointer (some ⟨w.heap.size, 0, none⟩)]] 72) = W := ⟨_, rfl⟩
  have kW : Kp w W Nul := by rw [← hW]; exact ((Kp.refl w Nul).alloc _).alloc _
  have hA : Blk W w.heap.size [.int .i64 c, .int .i64 r] 29 := by rw [← hW]; exact (Blk.new w [.int .i64 c, .int .i64 r] _).alloc _
  have hF : W.cell? ⟨w.heap.size + 1, 0, none⟩ = some (.func (.func 42) #[] #[.pointer (some ⟨w.heap.size, 0, none⟩)]) := by
    have := Blk.new (w.alloc (.cells #[.int .i64 c, .int .i64 r] 29)) [.func (.func 42) #[] #[.pointer (some ⟨w.heap.size, 0, none⟩)]] 72
    rw [World.size_alloc] at this
    rw [← hW]
    exact this.cell rfl
  have hu2 : ∀ wq av al cv, Kp W wq Nul → al.length ≤ 9223372036854775807 → (0 < al.length → ∃ b o, av = some ⟨b, o, none⟩ ∧ AreasAt wq b o al) → Calls Tryz.prog 45 #[.slice av al.length cv, .pointer (some ⟨w.heap.size + 1, 0, none⟩)] wq fun e w' => e = .returned (.bool (anyHas (c, r) al)) ∧ Kp wq w' Nul := fun wq av al cv k hal ha => by
    refine u2_at w.heap.size (w.heap.size + 1) (c, r) al av cv wq (hA.kp k (fun x => x)) ?_ hal ha
    have e := k.block (w.heap.size + 1) (cell_lt hF) (fun x => x)
    have h1 := hF
    simp only [World.cell?] at h1 ⊢
    rw [e]; exact h1
  have HWh : Hid (Calls Tryz.prog 44 #[.pointer (some ⟨l, 0, none⟩), .func (.func 45) #[] #[.pointer (some ⟨w.heap.size + 1, 0, none⟩)]] W fun e w' => ∃ L v', e = .returned v' ∧ CellsFrom w.heap.size w' v' L ∧ Strict L ∧ (∀ x, x ∈ L ↔ (us x).any (anyHas (c, r)) = true) ∧ Kp w w' Nul) := by
    have hl := h.kp kW (fun _ _ x => x)
    obtain ⟨_, hl⟩ := hl
    rcases hl with ⟨hb, rfl, _⟩ | ⟨m, D, hb, _, _, hown, hm⟩
    · refine (whose_nil l _ W hb).mono ?_
      rintro e w' ⟨rfl, hk⟩
      exact ⟨[], _, rfl, ⟨none, 0, rfl, .inl ⟨rfl, rfl⟩⟩, List.Pairwise.nil, fun x => by simp, kW.trans hk⟩
    · refine (whose_at F l m n _ D us (anyHas (c, r)) W hb hown hm hn hu2).mono ?_
      rintro e w' ⟨L, v', rfl, ⟨a, c', e1, e2⟩, h2, h3, h4⟩
      refine ⟨L, v', rfl, ⟨a, c', e1, ?_⟩, h2, h3, kW.trans h4⟩
      rcases e2 with e2 | ⟨b, f1, f2, f3⟩
      · exact .inl e2
      · exact .inr ⟨b, f1, Nat.le_trans kW.size f2, f3⟩
  have HW : Hid ((w.alloc (.cells #[.int .i64 c, .int .i64 r] 29)).alloc (.cells #[.func (.func 42) #[] #[.pointer (some ⟨w.heap.size, 0, none⟩)]] 72) = W) := hW
  clear hW kW hA hF hu2 h
  go_enter Tryz.func19, Tryz.ntmps19
  go_wp2_with fail
  rw [HW.out]
  refine HWh.out.mono ?_
  rintro e w' ⟨L, v', rfl, h1, h2, h3, h4⟩
  go_wp2_with fail
  go_ret
  exact ⟨L, v', rfl, h1, h2, h3, h4⟩
end Go.Proofs.YtdlieecpckpemaaGreatDoor
