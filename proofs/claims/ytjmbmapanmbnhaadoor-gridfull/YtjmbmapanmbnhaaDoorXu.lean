/- What a look into a grid's map tells. -/
import Derived.Test.YtjmbmapanmbnhaaDoorXr
namespace Go.Proofs.YtjmbmapanmbnhaaDoor
open Go.RowKit Go.Maps

/-- The grid g's map, asked at (c, r), tells v, and whether it is there: b; in every world in which the map stands as it does. -/
structure Lk (w : World) (g : Nat) (c r : Int) (mv : Option Nat) (v : Value) (b : Bool) : Prop where
  cell : w.heap[g]? = some (.cells #[.map mv] 77 (0, 0))
  ne : ∀ m, mv = some m → m ≠ g ∧ m < w.heap.size
  two : ∀ w' : World, (∀ m, mv = some m → w'.heap[m]? = w.heap[m]?) → (Instr.lookup 75 (.map mv) (.agg #[.int .i64 c, .int .i64 r]) true).run Tryd.prog w' = .ok (.tuple #[v, .bool b]) w'
  one : ∀ w' : World, (∀ m, mv = some m → w'.heap[m]? = w.heap[m]?) → (Instr.lookup 75 (.map mv) (.agg #[.int .i64 c, .int .i64 r]) false).run Tryd.prog w' = .ok v w'

theorem ownsMap_block {w w' : World} {m n : Nat} {D : DataW Value} (h : w.ownsMap Tryd.prog 26 rawE m n D) (hb : w'.heap[m]? = w.heap[m]?) : w'.ownsMap Tryd.prog 26 rawE m n D := by
  obtain ⟨es, clock, h1, h2⟩ := h
  exact ⟨es, clock, hb.trans h1, h2⟩
theorem raw_inj {v : Value} {d : DataW Value} {ps : List MemPlace} (h : rawE v = some (d, ps)) : .held v = d := congrArg Prod.fst (Option.some.inj h)
theorem lk_of {w : World} {F : Nat → Prop} {g : Nat} {L : List Cc} (h : GridIn w F g L) {c r : Int} (hc : I64 c) (hr : I64 r) :
    ∃ mv v b, Lk w g c r mv v b ∧ ((b = true ∧ ∃ ct sl, ((c, r), ct) ∈ L ∧ v = ct.val sl ∧ NdIn w F sl ct.t) ∨ (b = false ∧ v = zCv ∧ ∀ ct, ((c, r), ct) ∉ L)) := by
  obtain ⟨_, h⟩ := h
  have hk := kl_key hc hr
  rcases h with ⟨hb, rfl⟩ | ⟨m, D, hb, _, hne, hown, hm⟩
  · refine ⟨none, zCv, false, ⟨hb, fun m e => (by cases e), fun w' _ => ?_, fun w' _ => ?_⟩, .inr ⟨rfl, rfl, fun ct hct => (by cases hct)⟩⟩
    · exact Maps.look_nil true lawAddr Tryd.underlying75 (zeroC w') hk
    · exact Maps.look_nil false lawAddr Tryd.underlying75 (zeroC w') hk
  · have key2 : ∀ w' : World, (∀ m', some m = some m' → w'.heap[m']? = w.heap[m']?) → ∃ v, (Instr.lookup 75 (.map (some m)) (.agg #[.int .i64 c, .int .i64 r]) true).run Tryd.prog w' = .ok (.tuple #[v, .bool (Maps.has D (kl c r))]) w' ∧ D.atKey (kl c r) (.held zCv) = .held v := by
      intro w' hw'
      obtain ⟨v, ps, h1, h2⟩ := (ownsMap_block hown (hw' m rfl)).look_ok lawAddr Tryd.underlying75 (zeroC w') (zd := .held zCv) (zp := []) rfl hk
      refine ⟨v, h1, ?_⟩
      exact (raw_inj h2).symm
    have key1 : ∀ w' : World, (∀ m', some m = some m' → w'.heap[m']? = w.heap[m']?) → ∃ v, (Instr.lookup 75 (.map (some m)) (.agg #[.int .i64 c, .int .i64 r]) false).run Tryd.prog w' = .ok v w' ∧ D.atKey (kl c r) (.held zCv) = .held v := by
      intro w' hw'
      obtain ⟨v, ps, h1, h2⟩ := (ownsMap_block hown (hw' m rfl)).lookup lawAddr Tryd.underlying75 (zeroC w') (zd := .held zCv) (zp := []) rfl hk
      refine ⟨v, h1, ?_⟩
      exact (raw_inj h2).symm
    obtain ⟨v, _, hv⟩ := key2 w (fun _ _ => rfl)
    have two : ∀ w' : World, (∀ m', some m = some m' → w'.heap[m']? = w.heap[m']?) → (Instr.lookup 75 (.map (some m)) (.agg #[.int .i64 c, .int .i64 r]) true).run Tryd.prog w' = .ok (.tuple #[v, .bool (Maps.has D (kl c r))]) w' := by
      intro w' hw'
      obtain ⟨v', h1, h2⟩ := key2 w' hw'
      rw [hv] at h2
      rw [DataW.held.inj h2]; exact h1
    have one : ∀ w' : World, (∀ m', some m = some m' → w'.heap[m']? = w.heap[m']?) → (Instr.lookup 75 (.map (some m)) (.agg #[.int .i64 c, .int .i64 r]) false).run Tryd.prog w' = .ok v w' := by
      intro w' hw'
      obtain ⟨v', h1, h2⟩ := key1 w' hw'
      rw [hv] at h2
      rw [DataW.held.inj h2]; exact h1
    refine ⟨some m, v, Maps.has D (kl c r), ⟨hb, fun m' e => by cases e; exact ⟨hne, hown.lt⟩, two, one⟩, ?_⟩
    by_cases hh : Maps.has D (kl c r) = true
    · obtain ⟨ct, hct⟩ := (hm.keys c r hc hr).1 hh
      obtain ⟨sl, h1, h2⟩ := hm.vals c r ct hct
      rw [hv] at h1
      exact .inl ⟨hh, ct, sl, hct, DataW.held.inj h1, h2⟩
    · have hf : Maps.has D (kl c r) = false := by simpa using hh
      refine .inr ⟨hf, ?_, fun ct hct => hh ((hm.keys c r hc hr).2 ⟨ct, hct⟩)⟩
      have := atKey_of_not_has hf (.held zCv)
      rw [hv] at this
      exact DataW.held.inj this
end Go.Proofs.YtjmbmapanmbnhaaDoor
