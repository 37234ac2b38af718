/- Grids in memory: a struct of one cell, which leads to a map by cells, whose elements are contents. -/
import Derived.Test.YtjmbmapanmbnhaaDoorXm
import Derived.Test.YtjmbmapanmbnhaaDoorXy
namespace Go.Proofs.YtjmbmapanmbnhaaDoor
open Go.RowKit Go.Maps

/-- What a cell's address reads as, as a key. -/
noncomputable def kl (c r : Int) : Lit := (keyOf Tryd.prog 26 (.agg #[.int .i64 c, .int .i64 r])).getD (.bool false)
theorem kl_key {c r : Int} (hc : I64 c) (hr : I64 r) : keyOf Tryd.prog 26 (.agg #[.int .i64 c, .int .i64 r]) = some (kl c r) := by
  obtain ⟨l, hl⟩ := keyOf_addr c r hc hr
  have e : kl c r = l := by unfold kl; rw [hl, Option.getD_some]
  rw [e]; exact hl
theorem kl_inj {c r c' r' : Int} (hc : I64 c) (hr : I64 r) (hc' : I64 c') (hr' : I64 r') (h : kl c r = kl c' r') : c = c' ∧ r = r' := by
  have h1 := kl_key hc hr
  have h2 := kl_key hc' hr'
  rw [← h] at h2
  have := lawAddr.inj h1 h2
  simpa using this
/-- Elements as they stand. -/
def rawE : Value → Option (DataW Value × List MemPlace) := fun v => some (.held v, [])
/-- The zero content, as a value. -/
def zCv : Value := .agg #[.int .i64 0, .int .i64 0, .float .f64 0, .string ⟨#[]⟩, .bool false, .int .i64 0, .int .i64 0, .int .i64 0, .float .f64 0, .string ⟨#[]⟩, .bool false, .int .i64 0, .int .i64 0, .int .i64 0, .bool false, .bool false, .int .i64 0, .int .i64 0, .bool false, .bool false, .slice none 0 0]
theorem zeroC (w : World) : (zeroValue 33).run Tryd.prog w = .ok zCv w := by kernel_rfl

/-- A cell and its content. -/
abbrev Cc := (Int × Int) × Ct
/-- The map D has just the contents L (each list of nodes in blocks of F). -/
structure MapHas (w : World) (F : Nat → Prop) (D : DataW Value) (L : List Cc) : Prop where
  size : Maps.size D = L.length
  rng : ∀ x ∈ L, I64 x.1.1 ∧ I64 x.1.2
  keys : ∀ c r, I64 c → I64 r → (Maps.has D (kl c r) = true ↔ ∃ ct, ((c, r), ct) ∈ L)
  vals : ∀ c r ct, ((c, r), ct) ∈ L → ∃ sl, D.atKey (kl c r) (.held zCv) = .held (ct.val sl) ∧ NdIn w F sl ct.t
  once : L.Pairwise (fun x y => x.1 ≠ y.1)
/-- Block g is a grid that has just L; F has its blocks. -/
def GridIn (w : World) (F : Nat → Prop) (g : Nat) (L : List Cc) : Prop :=
  F g ∧ ((w.heap[g]? = some (.cells #[.map none] 77 (0, 0)) ∧ L = []) ∨
    ∃ m D, w.heap[g]? = some (.cells #[.map (some m)] 77 (0, 0)) ∧ F m ∧ m ≠ g ∧ w.ownsMap Tryd.prog 26 rawE m 4096 D ∧ MapHas w F D L)

set_option maxHeartbeats 1000000 in
theorem new_at (w : World) : Calls Tryd.prog 18 #[] w fun e w' => e = .returned (.pointer (some ⟨w.heap.size, 0, none⟩)) ∧ w' = w.alloc (.cells #[.map none] 77) := by
  go_enter Tryd.func18, Tryd.ntmps18
  go_wp2
  go_ret
  exact ⟨rfl, rfl⟩
theorem grid_new (w : World) (F : Nat → Prop) (hF : F w.heap.size) : GridIn (w.alloc (.cells #[.map none] 77)) F w.heap.size [] :=
  ⟨hF, .inl ⟨heap_alloc_new _ _, rfl⟩⟩
end Go.Proofs.YtjmbmapanmbnhaaDoor
