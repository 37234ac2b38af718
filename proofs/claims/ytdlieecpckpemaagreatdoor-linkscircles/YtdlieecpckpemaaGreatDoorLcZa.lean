/- Links in memory: a struct of one cell, which leads to a map by cells, whose elements are lists of areas. -/
import Derived.Test.YtdlieecpckpemaaGreatDoorLcYi
import Derived.Maps.OwnSet
import Derived.Maps.RangeWalk
import Derived.Maps.Ext
import Derived.DeepKeys4
namespace Go.Proofs.YtdlieecpckpemaaGreatDoor
open Go.RowKit Go.Maps

theorem laidOutP : laidOutB Tryz.prog = true := by kernel_rfl
theorem rowAddr : (29 : TypeId) < Tryz.prog.types.size := of_decide_eq_true (by kernel_rfl)
theorem cellsAddr2 : Tryz.prog.cellsOf 29 = 2 := by kernel_rfl
theorem cellsInt1 : Tryz.prog.cellsOf 3 = 1 := by kernel_rfl
theorem wideAddr : (match Tryz.prog.underlying 29 with | some (.array _ _) | some (.struct _) => true | _ => false) = true := by rw [Tryz.underlying29]
set_option maxRecDepth 20000 in
theorem keyAtAddr : Tryz.prog.keyTypeAt 2 29 = true := by kernel_rfl
set_option maxRecDepth 20000 in
theorem lawAddr : Keyed Tryz.prog 29 := Keyed.of_law (deep_law_laid laidOutP (m := 2) (by decide) rowAddr keyAtAddr wideAddr)
theorem keyTypeAddr : Tryz.prog.keyType 29 = true := by kernel_rfl
theorem formedAddr {c0 c1 : Value} : (Value.agg #[c0, c1]).formed Tryz.prog 29 = true := by simp [Value.formed, Tryz.underlying29, cellsAddr2]

/-- Between the least and the greatest int. -/
def I64 (x : Int) : Prop := -9223372036854775808 ≤ x ∧ x ≤ 9223372036854775807
theorem I64.wf {x : Int} (h : I64 x) : (Lit.int .i64 x).wf = true := by
  obtain ⟨h1, h2⟩ := h
  exact WalkArith.wf_i64 (by omega)
theorem keyOf_addr (c r : Int) (hc : I64 c) (hr : I64 r) : ∃ l, keyOf Tryz.prog 29 (.agg #[.int .i64 c, .int .i64 r]) = some l := by
  unfold keyOf
  rw [Tryz.underlying29]
  simp only [keyTypeAddr, formedAddr, Bool.and_self, if_true]
  obtain ⟨n, hn⟩ : ∃ n, Tryz.prog.types.size = n + 1 := by
    have h := rowAddr
    generalize Tryz.prog.types.size = s at h
    cases s with
    | zero => exact absurd h (Nat.not_lt_zero _)
    | succ n => exact ⟨n, rfl⟩
  rw [hn]
  simp [Program.keyLits, Tryz.underlying29, Tryz.underlying3, Value.cells, cellsInt1, cellsAddr2, hc.wf, hr.wf]
/-- What a cell's address reads as, as a key. -/
noncomputable def kl (c r : Int) : Lit := (keyOf Tryz.prog 29 (.agg #[.int .i64 c, .int .i64 r])).getD (.bool false)
theorem kl_key {c r : Int} (hc : I64 c) (hr : I64 r) : keyOf Tryz.prog 29 (.agg #[.int .i64 c, .int .i64 r]) = some (kl c r) := by
  obtain ⟨l, hl⟩ := keyOf_addr c r hc hr
  have e : kl c r = l := by unfold kl; rw [hl, Option.getD_some]
  rw [e]; exact hl
theorem kl_inj {c r c' r' : Int} (hc : I64 c) (hr : I64 r) (hc' : I64 c') (hr' : I64 r') (h : kl c r = kl c' r') : c = c' ∧ r = r' := by
  have h1 := kl_key hc hr
  have h2 := kl_key hc' hr'
  rw [← h] at h2
  have := lawAddr.inj h1 h2
  simpa using this
/-- Elements as they stand. -/
def rawE : Value → Option (DataW Value × List MemPlace) := fun v => some (.held v, [])
theorem raw_inj {v : Value} {d : DataW Value} {ps : List MemPlace} (h : rawE v = some (d, ps)) : .held v = d := congrArg Prod.fst (Option.some.inj h)
theorem zeroSl (w : World) : (zeroValue 31).run Tryz.prog w = .ok (.slice none 0 0) w := by kernel_rfl

/-- A cell that may be. -/
def VC (x : Int × Int) : Prop := 1 ≤ x.1 ∧ x.1 ≤ 256 ∧ 1 ≤ x.2 ∧ x.2 ≤ 4096
theorem VC.i64 {x : Int × Int} (h : VC x) : I64 x.1 ∧ I64 x.2 := by
  obtain ⟨h1, h2, h3, h4⟩ := h
  exact ⟨⟨by omega, by omega⟩, ⟨by omega, by omega⟩⟩
/-- The map D has just what us tells, n cells (each list of areas in a block of F). -/
structure MapHas (w : World) (F : Nat → Prop) (D : DataW Value) (us : Int × Int → Option (List Ar)) (n : Nat) : Prop where
  size : Maps.size D = n
  keys : ∀ c r, I64 c → I64 r → Maps.has D (kl c r) = (us (c, r)).isSome
  vals : ∀ c r al, us (c, r) = some al → ∃ v, D.atKey (kl c r) (.held (.slice none 0 0)) = .held v ∧ ArSl w F v al
  rng : ∀ x al, us x = some al → VC x
  oks : ∀ x al, us x = some al → (∀ a ∈ al, a.ok) ∧ al.length ≤ 256
/-- Block l are links that have just what us tells; F has their blocks. -/
def LinksIn (w : World) (F : Nat → Prop) (l : Nat) (us : Int × Int → Option (List Ar)) (n : Nat) : Prop :=
  F l ∧ ((Blk w l [.map none] 66 ∧ us = (fun _ => none) ∧ n = 0) ∨
    ∃ m D, Blk w l [.map (some m)] 66 ∧ F m ∧ m ≠ l ∧ w.ownsMap Tryz.prog 29 rawE m n D ∧ MapHas w F D us n)
theorem ownsMap_block {w w' : World} {m n : Nat} {D : DataW Value} (h : w.ownsMap Tryz.prog 29 rawE m n D) (hb : w'.heap[m]? = w.heap[m]?) : w'.ownsMap Tryz.prog 29 rawE m n D := by
  obtain ⟨es, clock, h1, h2⟩ := h
  exact ⟨es, clock, hb.trans h1, h2⟩
theorem ownsMap_tight {w : World} {m n : Nat} {D : DataW Value} (h : w.ownsMap Tryz.prog 29 rawE m n D) : w.ownsMap Tryz.prog 29 rawE m (Maps.size D) D := by
  obtain ⟨es, clock, h1, h2, h3, rfl⟩ := h
  refine ⟨es, clock, h1, h2, ?_, rfl⟩
  show es.size ≤ List.length _
  rw [length_read]
  exact Nat.le_refl _
theorem MapHas.kp {w w' : World} {F S : Nat → Prop} {D : DataW Value} {us : Int × Int → Option (List Ar)} {n : Nat} (h : MapHas w F D us n) (g : Kp w w' S) (hF : ∀ b, F b → ¬ S b) : MapHas w' F D us n :=
  ⟨h.size, h.keys, fun c r al hu => by obtain ⟨v, h1, h2⟩ := h.vals c r al hu; exact ⟨v, h1, h2.kp g hF⟩, h.rng, h.oks⟩
theorem LinksIn.kp {w w' : World} {F S : Nat → Prop} {l n : Nat} {us : Int × Int → Option (List Ar)} (h : LinksIn w F l us n) (g : Kp w w' S) (hF : ∀ b, F b → ¬ S b) : LinksIn w' F l us n := by
  obtain ⟨h0, h⟩ := h
  refine ⟨h0, ?_⟩
  rcases h with ⟨h1, h2⟩ | ⟨m, D, h1, h2, h3, h4, h5⟩
  · exact .inl ⟨h1.kp g (hF l h0), h2⟩
  · exact .inr ⟨m, D, h1.kp g (hF l h0), h2, h3, ownsMap_block h4 (g.block m h4.lt (hF m h2)), h5.kp g hF⟩
theorem LinksIn.mono {w : World} {F G : Nat → Prop} {l n : Nat} {us : Int × Int → Option (List Ar)} (h : LinksIn w F l us n) (hG : ∀ b, b < w.heap.size → F b → G b) : LinksIn w G l us n := by
  have har : ∀ v al, ArSl w F v al → ArSl w G v al := fun v al ⟨a, c, e1, e2, e3, e4⟩ => ⟨a, c, e1, e2, e3, fun hl => by
    obtain ⟨b, o, f1, f2, f3⟩ := e4 hl
    obtain ⟨x, hx⟩ : ∃ x, al[0]? = some x := ⟨_, List.getElem?_eq_getElem hl⟩
    exact ⟨b, o, f1, hG b (cell_lt (f3 0 x hx).1) f2, f3⟩⟩
  obtain ⟨h0, h⟩ := h
  rcases h with ⟨h1, h2⟩ | ⟨m, D, h1, h2, h3, h4, h5⟩
  · exact ⟨hG l h1.lt h0, .inl ⟨h1, h2⟩⟩
  · exact ⟨hG l h1.lt h0, .inr ⟨m, D, h1, hG m h4.lt h2, h3, h4, h5.size, h5.keys, fun c r al hu => by obtain ⟨v, e1, e2⟩ := h5.vals c r al hu; exact ⟨v, e1, har _ _ e2⟩, h5.rng, h5.oks⟩⟩
/-- The links l's map, asked at (c, r), tells v, and whether it is there: b; in every world in which the map stands as it does. -/
structure Lk (w : World) (l : Nat) (c r : Int) (mv : Option Nat) (v : Value) (b : Bool) : Prop where
  cell : Blk w l [.map mv] 66
  ne : ∀ m, mv = some m → m ≠ l ∧ m < w.heap.size
  two : ∀ w' : World, (∀ m, mv = some m → w'.heap[m]? = w.heap[m]?) → (Instr.lookup 64 (.map mv) (.agg #[.int .i64 c, .int .i64 r]) true).run Tryz.prog w' = .ok (.tuple #[v, .bool b]) w'
  one : ∀ w' : World, (∀ m, mv = some m → w'.heap[m]? = w.heap[m]?) → (Instr.lookup 64 (.map mv) (.agg #[.int .i64 c, .int .i64 r]) false).run Tryz.prog w' = .ok v w'
theorem lk_of {w : World} {F : Nat → Prop} {l n : Nat} {us : Int × Int → Option (List Ar)} (h : LinksIn w F l us n) {c r : Int} (hc : I64 c) (hr : I64 r) :
    ∃ mv v, Lk w l c r mv v (us (c, r)).isSome ∧ ArSl w F v ((us (c, r)).getD []) := by
  obtain ⟨_, h⟩ := h
  have hk := kl_key hc hr
  have harz : ArSl w F (.slice none 0 0) [] := ⟨none, 0, rfl, Nat.le_refl _, by decide, fun h => absurd h (Nat.lt_irrefl _)⟩
  rcases h with ⟨hb, rfl, _⟩ | ⟨m, D, hb, _, hne, hown, hm⟩
  · refine ⟨none, .slice none 0 0, ⟨hb, fun m e => (by cases e), fun w' _ => ?_, fun w' _ => ?_⟩, harz⟩
    · exact Maps.look_nil true lawAddr Tryz.underlying64 (zeroSl w') hk
    · exact Maps.look_nil false lawAddr Tryz.underlying64 (zeroSl w') hk
  · have key2 : ∀ w' : World, (∀ m', some m = some m' → w'.heap[m']? = w.heap[m']?) → ∃ v, (Instr.lookup 64 (.map (some m)) (.agg #[.int .i64 c, .int .i64 r]) true).run Tryz.prog w' = .ok (.tuple #[v, .bool (Maps.has D (kl c r))]) w' ∧ D.atKey (kl c r) (.held (.slice none 0 0)) = .held v := by
      intro w' hw'
      obtain ⟨v, ps, h1, h2⟩ := (ownsMap_block hown (hw' m rfl)).look_ok lawAddr Tryz.underlying64 (zeroSl w') (zd := .held (.slice none 0 0)) (zp := []) rfl hk
      exact ⟨v, h1, (raw_inj h2).symm⟩
    have key1 : ∀ w' : World, (∀ m', some m = some m' → w'.heap[m']? = w.heap[m']?) → ∃ v, (Instr.lookup 64 (.map (some m)) (.agg #[.int .i64 c, .int .i64 r]) false).run Tryz.prog w' = .ok v w' ∧ D.atKey (kl c r) (.held (.slice none 0 0)) = .held v := by
      intro w' hw'
      obtain ⟨v, ps, h1, h2⟩ := (ownsMap_block hown (hw' m rfl)).lookup lawAddr Tryz.underlying64 (zeroSl w') (zd := .held (.slice none 0 0)) (zp := []) rfl hk
      exact ⟨v, h1, (raw_inj h2).symm⟩
    obtain ⟨v, _, hv⟩ := key2 w (fun _ _ => rfl)
    have two : ∀ w' : World, (∀ m', some m = some m' → w'.heap[m']? = w.heap[m']?) → (Instr.lookup 64 (.map (some m)) (.agg #[.int .i64 c, .int .i64 r]) true).run Tryz.prog w' = .ok (.tuple #[v, .bool (Maps.has D (kl c r))]) w' := by
      intro w' hw'
      obtain ⟨v', h1, h2⟩ := key2 w' hw'
      rw [hv] at h2
      rw [DataW.held.inj h2]; exact h1
    have one : ∀ w' : World, (∀ m', some m = some m' → w'.heap[m']? = w.heap[m']?) → (Instr.lookup 64 (.map (some m)) (.agg #[.int .i64 c, .int .i64 r]) false).run Tryz.prog w' = .ok v w' := by
      intro w' hw'
      obtain ⟨v', h1, h2⟩ := key1 w' hw'
      rw [hv] at h2
      rw [DataW.held.inj h2]; exact h1
    rw [hm.keys c r hc hr] at two
    refine ⟨some m, v, ⟨hb, fun m' e => by cases e; exact ⟨hne, hown.lt⟩, two, one⟩, ?_⟩
    cases hu : us (c, r) with
    | some al =>
      obtain ⟨v', h1, h2⟩ := hm.vals c r al hu
      rw [hv] at h1
      rw [DataW.held.inj h1]; exact h2
    | none =>
      have hf := hm.keys c r hc hr
      rw [hu] at hf
      have := atKey_of_not_has hf (.held (.slice none 0 0))
      rw [hv] at this
      rw [DataW.held.inj this]; exact harz
end Go.Proofs.YtdlieecpckpemaaGreatDoor
