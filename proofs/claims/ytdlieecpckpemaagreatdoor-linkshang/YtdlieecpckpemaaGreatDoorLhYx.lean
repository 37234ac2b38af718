/- A region that draws its order, walked by hand: S holds behind each operation. No function of the program here. -/
import Derived.Test.YtdlieecpckpemaaGreatDoorLhYk
import Derived.Deep.RegionHeld3
namespace Go.Proofs.YtdlieecpckpemaaGreatDoor
open Go.RowKit

section
variable {P : Program} {ops : Array Oper} {Q : Exit → Act → World → Prop} {md : Region.Mode} {S : World → Prop}
theorem wpH_takes {i : Nat} {oi : Oper} {v : Value} {n : Nat} {on : Array Bool} {a : Act} {w : World} (d : Option Tmp) (hi : ops[i]? = some oi) (hd : oi.dst = d) (hs : Region.noSelect ops = true) (hf : Region.free md ops on i = true) (hr : (Region.ready md ops on).contains i = true)
    (hQ : ∀ c a w, Q (.panic c) (a.put d v) w → Q (.panic c) a w) (hy : YieldsIf P ops S oi v a) (hS : S w) (h : wpAnyH P md ops Q S n (on.setIfInBounds i true) (a.put d v) w) : wpAnyH P md ops Q S (n + 1) on a w := by
  subst hd
  exact wpAnyH_take hi hs hf hr hQ hy hS h
theorem wpH_step {i : Nat} {o : Oper} {n : Nat} {on : Array Bool} {a : Act} {w : World} (hr : Region.ready md ops on = [i]) (ho : ops[i]? = some o) (hg : o.guard = none)
    (h : ∀ K' : Act → World → Prop, Hid (∀ a w, S w → (S w → wpAnyH P md ops Q S n (on.setIfInBounds i true) a w) → K' a w) → o.wp P a w K' Q) : wpAnyH P md ops Q S (n + 1) on a w := by
  refine wpAnyH_all hr (by simp) (fun j hj => ?_)
  obtain rfl := List.mem_singleton.1 hj
  unfold wpOp
  rw [ho]
  simp only [Region.wanted, hg, if_true]
  exact .inl (h _ (fun a w hS hW => ⟨hS, hW hS⟩))
theorem wp_region_hel {id : Nat} {a : Act} {w : World} (S : World → Prop) (hm : P.follows .mixedOrders = true) (hS : S w.drew) (h : S w.drew → wpAnyH P .any ops Q S ops.size (Array.replicate ops.size false) a w.drew) : (Code.region id ops true).wp P Q a w :=
  wp_region_held hm (h hS)
end
end Go.Proofs.YtdlieecpckpemaaGreatDoor
