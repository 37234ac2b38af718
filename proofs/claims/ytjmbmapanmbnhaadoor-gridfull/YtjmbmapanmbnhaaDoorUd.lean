/- keep: the first content of a grid. -/
import Derived.Test.YtjmbmapanmbnhaaDoorXu
namespace Go.Proofs.YtjmbmapanmbnhaaDoor
open Go.RowKit Go.Maps

theorem Kp.of_turned {w w' : World} {m : Nat} (h : w.mapTurned w' m) : Kp w w' (fun i => i = m) := Kp.of_grown h.grown (fun i e => by cases e; rfl)
theorem ownsMap_le {w : World} {m n n' : Nat} {D : DataW Value} (h : w.ownsMap Tryd.prog 26 rawE m n D) (hn : n ≤ n') : w.ownsMap Tryd.prog 26 rawE m n' D := by
  obtain ⟨es, clock, h1, h2, h3, h4⟩ := h
  exact ⟨es, clock, h1, h2, Nat.le_trans h3 hn, h4⟩
theorem eqIn_nilmap (w : World) (d : Nat) (p : Option Nat) : (Op.equalIn (d + 1) 75 (.map p) (.map none)).run Tryd.prog w = .ok p.isNone w := by
  cases p <;> simp [Op.equalIn, run_underlying Tryd.underlying75]
theorem eq_nilmap (p : Option Nat) (w : World) : (binOp .eql 75 (.map p) (.map none)).run Tryd.prog w = .ok (.bool p.isNone) w := by
  simp only [binOp]
  simp [show Op.equal 75 (.map p) (.map none) = Op.equalIn (9999 + 1) 75 (.map p) (.map none) from rfl, eqIn_nilmap w 9999 p]
theorem key_put {k : TypeId} (K : Keyed Tryd.prog k) {v : Value} {l : Lit} (h : keyOf Tryd.prog k v = some l) {D : DataW Value} (hD : IsMap D) (d : DataW Value) : Maps.has (D.put l d) l = true ∧ ∀ z, (D.put l d).atKey l z = d := ⟨has_put_same hD (K.key h) d, fun z => atKey_put_same hD (K.key h) d z⟩
/-- A map with one content. -/
theorem has_one {w : World} {F : Nat → Prop} {c r : Int} {ct : Ct} {sl : Value} (hc : I64 c) (hr : I64 r) (hin : NdIn w F sl ct.t) :
    MapHas w F ((DataW.map [] : DataW Value).put (kl c r) (.held (ct.val sl))) [((c, r), ct)] := by
  have hk := kl_key hc hr
  have hput := key_put lawAddr hk (D := (.map [] : DataW Value)) ⟨_, rfl⟩ (.held (ct.val sl))
  have hne : ∀ x y, I64 x → I64 y → (x, y) ≠ (c, r) → kl x y ≠ kl c r := fun x y hx hy h e => h (by
    have := kl_inj hx hy hc hr e
    exact Prod.ext this.1 this.2)
  refine ⟨?_, fun x hx => ?_, fun x y hx hy => ?_, fun x y ct' h => ?_, List.pairwise_singleton _ _⟩
  · generalize kl c r = K at *
    have hT : Tidy (DataW.map [] : DataW Value) := by simp [Tidy]
    rw [size_put hT]
    rfl
  · rw [List.mem_singleton] at hx; subst hx; exact ⟨hc, hr⟩
  · by_cases e : (x, y) = (c, r)
    · cases e
      exact ⟨fun _ => ⟨ct, List.mem_singleton.2 rfl⟩, fun _ => hput.1⟩
    · rw [has_put_other (hne x y hx hy e)]
      constructor
      · intro h; cases h
      · rintro ⟨ct', h⟩
        rw [List.mem_singleton] at h
        cases h
        exact absurd rfl e
  · rw [List.mem_singleton] at h
    cases h
    exact ⟨sl, hput.2 _, hin⟩
end Go.Proofs.YtjmbmapanmbnhaaDoor
