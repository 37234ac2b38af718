/- Users' closures; a range over links. -/
import Derived.Test.YtkgolfmnlbmmeaaGreatDoorZn
import Derived.Test.YtkgolfmnlbmmeaaGreatDoorZh
import Derived.Laws.IdiomRangeMap
namespace Go.Proofs.YtkgolfmnlbmmeaaGreatDoor
open Go.RowKit Go.Sort Go.Lib Go.Maps

set_option maxRecDepth 20000 in
set_option maxHeartbeats 1000000 in
theorem u1_at (ab : Nat) (x y c r d s : Int) (w : World) (hb : Blk w ab [.int .i64 x, .int .i64 y] 29) :
    Calls Tryz.prog 43 #[.agg #[.int .i64 c, .int .i64 r, .int .i64 d, .int .i64 s], .pointer (some ⟨ab, 0, none⟩)] w fun e w' => e = .returned (.bool (inA c r d s x y)) ∧ Kp w w' Nul := by
  have H1 : Hid (∀ wq, Kp w wq Nul → Calls Tryz.prog 44 #[.agg #[.int .i64 c, .int .i64 r, .int .i64 d, .int .i64 s], .agg #[.int .i64 x, .int .i64 y]] wq fun e w' => e = .returned (.bool (inA c r d s x y)) ∧ Kp w w' Nul) := fun wq k => (pIn_any c r d s x y wq).mono fun e w' ⟨h1, h2⟩ => ⟨h1, k.trans (Kp.of_gr h2)⟩
  have hb2 := hb.alloc (.cells #[.int .i64 c, .int .i64 r, .int .i64 d, .int .i64 s] 52)
  have c0 : (w.alloc (.cells #[.int .i64 c, .int .i64 r, .int .i64 d, .int .i64 s] 52)).cell? ⟨ab, 0, none⟩ = some (.int .i64 x) := hb2.cell rfl
  have c1 : (w.alloc (.cells #[.int .i64 c, .int .i64 r, .int .i64 d, .int .i64 s] 52)).cell? ⟨ab, 1, none⟩ = some (.int .i64 y) := hb2.cell rfl
  generalize inA c r d s x y = V at *
  clear hb hb2
  go_enter Tryz.func43, Tryz.ntmps43
  go_wp2_with (go_at_call 44; refine (H1.out _ ((Kp.refl _ _).alloc _)).mono ?_; rintro e w' ⟨rfl, hg⟩)
  go_ret
  exact ⟨rfl, hg⟩
/-- Has one of the areas the cell? -/
def anyHas (x : Int × Int) (al : List Ar) : Bool := al.any (fun a => inA a.c1 a.r1 a.c2 a.r2 x.1 x.2)
set_option maxHeartbeats 1000000 in
theorem u2_at (ab fb : Nat) (x : Int × Int) (al : List Ar) (av : Option Addr) (cv : Nat) (w : World) (hb : Blk w ab [.int .i64 x.1, .int .i64 x.2] 29) (hf : w.cell? ⟨fb, 0, none⟩ = some (.func (.func 43) #[] #[.pointer (some ⟨ab, 0, none⟩)])) (hal : al.length ≤ 9223372036854775807) (ha : 0 < al.length → ∃ b o, av = some ⟨b, o, none⟩ ∧ AreasAt w b o al) :
    Calls Tryz.prog 46 #[.slice av al.length cv, .pointer (some ⟨fb, 0, none⟩)] w fun e w' => e = .returned (.bool (anyHas x al)) ∧ Kp w w' Nul := by
  have H1 : Hid (Calls Tryz.prog 47 #[.slice av al.length cv, .func (.func 43) #[] #[.pointer (some ⟨ab, 0, none⟩)]] w fun e w' => e = .returned (.bool (anyHas x al)) ∧ Kp w w' Nul) :=
    containsR_at (fun a => inA a.c1 a.r1 a.c2 a.r2 x.1 x.2) 43 #[.pointer (some ⟨ab, 0, none⟩)] (enters_of Tryz.func43 (by kernel_rfl) rfl) al av cv w hal ha (fun W a k => u1_at ab x.1 x.2 a.c1 a.r1 a.c2 a.r2 W (hb.kp k (fun x => x)))
  generalize anyHas x al = V at *
  generalize al.length = N at *
  clear hb hal ha
  go_enter Tryz.func46, Tryz.ntmps46
  go_wp2_with fail
  refine H1.out.mono ?_
  rintro e w' ⟨rfl, hg⟩
  go_wp2_with fail
  go_ret
  exact ⟨rfl, hg⟩
set_option maxRecDepth 20000 in
theorem addr_inv {key : Value} {l : Lit} (h : keyOf Tryz.prog 29 key = some l) : ∃ x y, key = .agg #[.int .i64 x, .int .i64 y] ∧ I64 x ∧ I64 y := by
  unfold keyOf at h
  rw [Tryz.underlying29] at h
  simp only at h
  split at h
  · rename_i hf
    rw [Bool.and_eq_true] at hf
    obtain ⟨n, hn⟩ : ∃ n, Tryz.prog.types.size = n + 1 := by
      have h := rowAddr
      generalize Tryz.prog.types.size = s at h
      cases s with
      | zero => exact absurd h (Nat.not_lt_zero _)
      | succ n => exact ⟨n, rfl⟩
    rw [hn] at h
    have hfm := hf.2
    cases key <;> simp only [Value.formed, Tryz.underlying29, cellsAddr2, Bool.false_eq_true, beq_iff_eq] at hfm
    rename_i cs
    obtain ⟨c0, c1, rfl⟩ : ∃ c0 c1, cs = #[c0, c1] := by
      obtain ⟨l⟩ := cs
      match l, hfm with
      | [c0, c1], _ => exact ⟨c0, c1, rfl⟩
    simp [Program.keyLits, Tryz.underlying29, Tryz.underlying3, Value.cells, cellsInt1, cellsAddr2] at h
    have wf : ∀ z : Int, (Lit.int .i64 z).wf = true → I64 z := fun z hz => by
      have hm : IntKind.i64.min = -9223372036854775808 := rfl
      simp [Lit.wf, hm] at hz
      unfold I64
      omega
    cases c0 with
    | int q0 x =>
      by_cases h0 : q0 = .i64 ∧ (Lit.int .i64 x).wf = true
      · simp only [h0, and_self, if_true, Option.bind_some, Function.comp] at h
        cases c1 with
        | int q1 y =>
          by_cases h1 : q1 = .i64 ∧ (Lit.int .i64 y).wf = true
          · obtain ⟨rfl, h0⟩ := h0
            obtain ⟨rfl, h1⟩ := h1
            exact ⟨x, y, rfl, wf x h0, wf y h1⟩
          · simp [h1] at h
        | _ => simp at h
      · simp [h0] at h
    | _ => simp at h
  · cases h
theorem kl_of {x y : Int} {l : Lit} (h : keyOf Tryz.prog 29 (.agg #[.int .i64 x, .int .i64 y]) = some l) : I64 x ∧ I64 y ∧ l = kl x y := by
  obtain ⟨x', y', e, hx, hy⟩ := addr_inv h
  have e2 : x = x' ∧ y = y' := by simpa using e
  obtain ⟨rfl, rfl⟩ := e2
  refine ⟨hx, hy, ?_⟩
  have := kl_key hx hy
  rw [h] at this
  exact Option.some.inj this
set_option maxRecDepth 20000 in
/-- A range's step over links. -/
theorem wpList_next_links (w : World) {ops : Array Oper} {rest : List Oper} {o : Oper} {a : Act} {Q : Exit → Act → World → Prop} (hg : o.guard = none) (it : Operand) (hop : o.op = Op.next it false)
    (b r n : Nat) (D : DataW Value) (left : Lit → Bool) (cnt : Nat) (hit : a.eval it = .pointer (some ⟨r, 0, none⟩)) (h : w.ranges Tryz.prog 29 rawE b r n D left cnt)
    (hDone : cnt = 0 → (∀ kl, left kl = false) → wpList Tryz.prog ops Q rest (a.put o.dst (.tuple #[.bool false])) w)
    (hMore : ∀ (x : Int × Int) (c : Value) (w' : World) (cnt' : Nat), (I64 x.1 ∧ I64 x.2) → left (kl x.1 x.2) = true → (∀ zd, D.atKey (kl x.1 x.2) zd = .held c) → w'.ranges Tryz.prog 29 rawE b r n D (fun z => left z && !z.sameKey (kl x.1 x.2)) cnt' → cnt' < cnt →
      w.grownBy w' (some r) → w'.heap.size = w.heap.size → (Instr.entry (.pointer (some ⟨r, 0, none⟩))).run Tryz.prog w' = .ok (.tuple #[.agg #[.int .i64 x.1, .int .i64 x.2], c]) w' → wpList Tryz.prog ops Q rest (a.put o.dst (.tuple #[.bool true, .agg #[.int .i64 x.1, .int .i64 x.2], c])) w') :
    wpList Tryz.prog ops Q (o :: rest) a w :=
  wpList_next_ranges w hg it hop 29 lawAddr rawE (fun x : Int × Int => Value.agg #[.int .i64 x.1, .int .i64 x.2]) (fun c : Value => c) (fun key kl hkey => by obtain ⟨x, y, rfl, _⟩ := addr_inv hkey; exact ⟨(x, y), rfl⟩) (fun v y hv => ⟨v, rfl⟩)
    b r n D left cnt hit h hDone (fun x c kl' y w' cnt' hkey hlk hv hat hrg hlt hgr hsz hen => by
      obtain ⟨hx, hy, he⟩ := kl_of (x := x.1) (y := x.2) (l := kl') hkey
      subst he
      have hy2 : y.1 = .held c := (congrArg Prod.fst (Option.some.inj hv)).symm
      rw [hy2] at hat
      exact hMore x c w' cnt' ⟨hx, hy⟩ hlk hat hrg hlt hgr hsz hen)
theorem flat_cons (a : Int × Int) (l : List (Int × Int)) : (flatK encA 2 (a :: l).toArray).toList = encA a ++ (flatK encA 2 l.toArray).toList := by
  apply List.ext_getElem
  · simp [encA]; omega
  · intro t h1 h2
    have ht : t < (l.length + 1) * 2 := by simpa using h1
    have e1 := get_flatK encA 2 (a :: l).toArray t (by simpa using ht)
    rw [getElem!_pos _ t (by simpa using h1)] at e1
    rw [Array.getElem_toList, e1]
    by_cases h : t < 2
    · rw [List.getElem_append_left (by simpa [encA] using h)]
      have : t / 2 = 0 := by omega
      rw [this, Nat.mod_eq_of_lt h]
      simp [h, encA]
    · rw [List.getElem_append_right (by simpa [encA] using h), Array.getElem_toList]
      have hl : t - (encA a).length < l.length * 2 := by simp [encA]; omega
      have e2 := get_flatK encA 2 l.toArray (t - (encA a).length) (by simpa using hl)
      rw [getElem!_pos _ _ (by simpa using hl)] at e2
      rw [e2]
      have e3 : (t - (encA a).length) / 2 = t / 2 - 1 := by simp [encA]; omega
      have e4 : (t - (encA a).length) % 2 = t % 2 := by simp [encA]; omega
      rw [e3, e4]
      obtain ⟨q, hq⟩ : ∃ q, t / 2 = q + 1 := ⟨t / 2 - 1, by omega⟩
      rw [hq]
      simp
theorem flat_snoc (l : List (Int × Int)) (x : Int × Int) : (flatK encA 2 (l ++ [x]).toArray).toList = (flatK encA 2 l.toArray).toList ++ encA x := by
  induction l with
  | nil => rw [List.nil_append, flat_cons]; simp [flatK]
  | cons a l ih => rw [List.cons_append, flat_cons, flat_cons, ih, List.append_assoc]
theorem Kp.grown {w w' : World} (h : Kp w w' Nul) : w.grownBy w' none := ⟨h.os, h.tape, h.output, h.size, fun i hi _ => h.block i hi (fun x => x)⟩
theorem row_kp {w w' : World} {S : Nat → Prop} {base size n : Nat} {e : TypeId} {v : Value} {xs : List Value} (h : w.ownsRow base e size v n xs) (g : Kp w w' S) (hS : ∀ i, base ≤ i → ¬ S i) : w'.ownsRow base e size v n xs := by
  obtain ⟨h0, h⟩ := h
  refine ⟨h0, ?_⟩
  rcases h with h | ⟨gb, cap, cur, h1, h2, h3, h4⟩
  · exact .inl h
  · refine .inr ⟨gb, cap, cur, h1, h2, ?_, h4⟩
    have hl : gb < w.heap.size := (Array.getElem?_eq_some_iff.1 h3).1
    rw [g.block gb hl (hS gb h2)]; exact h3
end Go.Proofs.YtkgolfmnlbmmeaaGreatDoor
