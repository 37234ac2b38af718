/- A region that draws its order and whose last operation, number z, writes a cell that others of it read: what is read may be taken first, for z waits for it. The condition S need not hold behind z. No function of the program here. -/
import Derived.Test.YtdlieecpckpemaaGreatDoorLcYk
import Derived.Deep.RegionHeld3
namespace Go.Proofs.YtdlieecpckpemaaGreatDoor
open Go.RowKit

section
variable {P : Program} {ops : Array Oper} {Q : Exit → Act → World → Prop} {md : Region.Mode} {S : World → Prop} {z : Nat}

/-- Whatever order is picked from here on; S holds behind each operation but z. -/
def wpBut (P : Program) (md : Region.Mode) (ops : Array Oper) (Q : Exit → Act → World → Prop) (S : World → Prop) (z : Nat) : Nat → Array Bool → Act → World → Prop
  | 0, on, a, w => Region.ready md ops on = [] ∧ Q .normal a w
  | n + 1, on, a, w => (Region.ready md ops on = [] → Q .normal a w) ∧
      ∀ i ∈ Region.ready md ops on, wpOp P ops Q i (fun a' w' => (i ≠ z → S w') ∧ wpBut P md ops Q S z n (on.setIfInBounds i true) a' w') a w
theorem wpBut_any : ∀ (n : Nat) (on : Array Bool) (a : Act) (w : World), wpBut P md ops Q S z n on a w → wpAny P md ops Q n on a w
  | 0, _, _, _, h => h
  | n + 1, _, _, _, h => ⟨h.1, fun i hi => wpOp_mono (fun a' w' h' => wpBut_any n _ a' w' h'.2) (h.2 i hi)⟩
/-- z waits for i. -/
def zWaits (md : Region.Mode) (ops : Array Oper) (z i : Nat) : Bool := match ops[z]? with | some o => o.after.any (fun e => Region.binds md e && e.on == i) | none => false
theorem not_ready_of_waits {on : Array Bool} {i : Nat} (h : zWaits md ops z i = true) (hi : on.getD i false = false) : z ∉ Region.ready md ops on := by
  intro hz
  obtain ⟨_, o, ho, hall⟩ := mem_ready.1 hz
  unfold zWaits at h
  rw [ho] at h
  obtain ⟨e, he, hb⟩ := Array.any_eq_true'.1 h
  simp only [Bool.and_eq_true, beq_iff_eq] at hb
  have := hall e he hb.1
  rw [hb.2, hi] at this
  cases this
theorem getD_swap {on : Array Bool} {i : Nat} (h : on.getD i true = false) : on.getD i false = false := by
  rcases Nat.lt_or_ge i on.size with hl | hl
  · simp [hl] at h ⊢; exact h
  · simp [Nat.not_lt.2 hl] at h
theorem wpBut_front {i : Nat} {oi : Oper} {v : Value} (hi : ops[i]? = some oi) (hsel : ∀ (j : Nat) (o : Oper) cs b, ops[j]? = some o → o.op ≠ .select cs b) (hzi : zWaits md ops z i = true)
    (hQ : ∀ c a w, Q (.panic c) (a.put oi.dst v) w → Q (.panic c) a w) (n : Nat) :
    ∀ (on : Array Bool) (a : Act) (w : World),
      (∀ j oj, ops[j]? = some oj → j ≠ i → on.getD j true = false → (∀ e ∈ oj.after, Region.binds md e = true → e.on ≠ i) → oi.apart ops oj = true) →
      i ∈ Region.ready md ops on → YieldsIf P ops S oi v a → S w → wpBut P md ops Q S z n (on.setIfInBounds i true) (a.put oi.dst v) w → wpBut P md ops Q S z (n + 1) on a w := by
  have hiz : ∀ on : Array Bool, i ∈ Region.ready md ops on → z ∉ Region.ready md ops on := fun on hr => not_ready_of_waits hzi (getD_swap (mem_ready.1 hr).1)
  induction n with
  | zero =>
    intro on a w _ hr hy hS H
    refine ⟨fun h => (by rw [h] at hr; cases hr), fun j hj => ?_⟩
    rcases Decidable.em (j = i) with rfl | hji
    · exact hy.wpOp hi hS ⟨fun _ => hS, H⟩
    · have hc := ready_mono hj hji
      rw [H.1] at hc
      cases hc
  | succ n ih =>
    intro on a w hfree hr hy hS H
    refine ⟨fun h => (by rw [h] at hr; cases hr), fun j hj => ?_⟩
    rcases Decidable.em (j = i) with rfl | hji
    · exact hy.wpOp hi hS ⟨fun _ => hS, H⟩
    · have hjz : j ≠ z := fun e => hiz on hr (e ▸ hj)
      obtain ⟨hjun, oj, hoj, hall⟩ := mem_ready.1 hj
      have hun := getD_swap (mem_ready.1 hr).1
      have hno : ∀ e ∈ oj.after, Region.binds md e = true → e.on ≠ i := fun e he hb heq => by
        have h1 := hall e he hb
        rw [heq, hun] at h1
        cases h1
      have h2 := wpOp_putIf hoj (hfree j oj hoj hji hjun hno) (fun cs b => hsel i oi cs b hi) (fun cs b => hsel j oj cs b hoj) hQ hy (H.2 j (ready_mono hj hji))
      refine wpOp_mono (fun a' w' h3 => ⟨fun _ => h3.2.1 hjz, ih (on.setIfInBounds j true) a' w' ?_ (ready_mono hr (Ne.symm hji)) h3.1 (h3.2.1 hjz) ?_⟩) h2
      · intro k ok hk hki hkun hkno
        refine hfree k ok hk hki ?_ hkno
        rcases Decidable.em (j = k) with rfl | hjk
        · exact hjun
        · rw [getD_set_ne true hjk] at hkun; exact hkun
      · rw [Array.setIfInBounds_comm _ _ hji]
        exact h3.2.2
theorem wpBut_take {i : Nat} {oi : Oper} {v : Value} {n : Nat} {on : Array Bool} {a : Act} {w : World} (hi : ops[i]? = some oi) (hs : Region.noSelect ops = true) (hf : Region.free md ops on i = true) (hr : (Region.ready md ops on).contains i = true) (hz : zWaits md ops z i = true)
    (hQ : ∀ c a w, Q (.panic c) (a.put oi.dst v) w → Q (.panic c) a w) (hy : YieldsIf P ops S oi v a) (hS : S w) (h : wpBut P md ops Q S z n (on.setIfInBounds i true) (a.put oi.dst v) w) : wpBut P md ops Q S z (n + 1) on a w :=
  wpBut_front hi (Region.noSelect_spec hs) hz hQ n on a w (Region.free_spec hi hf) (by simpa using hr) hy hS h
/-- The same, the slot that it writes told. -/
theorem wpBut_takes {i : Nat} {oi : Oper} {v : Value} {n : Nat} {on : Array Bool} {a : Act} {w : World} (d : Option Tmp) (hi : ops[i]? = some oi) (hd : oi.dst = d) (hs : Region.noSelect ops = true) (hf : Region.free md ops on i = true) (hr : (Region.ready md ops on).contains i = true) (hz : zWaits md ops z i = true)
    (hQ : ∀ c a w, Q (.panic c) (a.put d v) w → Q (.panic c) a w) (hy : YieldsIf P ops S oi v a) (hS : S w) (h : wpBut P md ops Q S z n (on.setIfInBounds i true) (a.put d v) w) : wpBut P md ops Q S z (n + 1) on a w := by
  subst hd
  exact wpBut_take hi hs hf hr hz hQ hy hS h
/-- The one that comes up. -/
theorem wpBut_one {i : Nat} {n : Nat} {on : Array Bool} {a : Act} {w : World} (hr : Region.ready md ops on = [i]) (h : wpOp P ops Q i (fun a' w' => (i ≠ z → S w') ∧ wpBut P md ops Q S z n (on.setIfInBounds i true) a' w') a w) : wpBut P md ops Q S z (n + 1) on a w :=
  ⟨fun h0 => (by rw [hr] at h0; cases h0), fun j hj => (by rw [hr] at hj; obtain rfl := List.mem_singleton.1 hj; exact h)⟩
theorem wpBut_done {n : Nat} {on : Array Bool} {a : Act} {w : World} (hr : Region.ready md ops on = []) (h : Q .normal a w) : wpBut P md ops Q S z n on a w := by
  cases n with
  | zero => exact ⟨hr, h⟩
  | succ n => exact ⟨fun _ => h, by rw [hr]; simp⟩
/-- The step is handed over behind a 'for every K'. -/
theorem wpBut_step {i : Nat} {o : Oper} {n : Nat} {on : Array Bool} {a : Act} {w : World} (hr : Region.ready md ops on = [i]) (ho : ops[i]? = some o) (hg : o.guard = none)
    (h : ∀ K' : Act → World → Prop, Hid (∀ a w, (i ≠ z → S w) → ((i ≠ z → S w) → wpBut P md ops Q S z n (on.setIfInBounds i true) a w) → K' a w) → o.wp P a w K' Q) : wpBut P md ops Q S z (n + 1) on a w := by
  refine wpBut_one hr ?_
  unfold wpOp
  rw [ho]
  simp only [Region.wanted, hg, if_true]
  exact .inl (h _ (fun a w hS hW => ⟨hS, hW hS⟩))
theorem wp_region_but {id : Nat} {a : Act} {w : World} (S : World → Prop) (z : Nat) (hm : P.follows .mixedOrders = true) (hS : S w.drew) (h : S w.drew → wpBut P .any ops Q S z ops.size (Array.replicate ops.size false) a w.drew) : (Code.region id ops true).wp P Q a w :=
  wp_region_any hm (wpBut_any _ _ _ _ (h hS))
end
end Go.Proofs.YtdlieecpckpemaaGreatDoor
