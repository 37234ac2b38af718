/- value's isFault, bare, Valid, OfNumber; grid's isZeroValue. -/
import Derived.Test.YtjmbmapanmbnhaaDoorXc
import Derived.Test.YtjmbmapanmbnhaaDoorXp
import Derived.Test.YtjmbmapanmbnhaaDoorXk
namespace Go.Proofs.YtjmbmapanmbnhaaDoor
open Go.RowKit

def isF (f : Int) : Bool := decide (1 ≤ f) && decide (f ≤ 5)
set_option maxHeartbeats 1000000 in
theorem isFault_at (f : Int) (w : World) : Calls Tryd.prog 60 #[.int .i64 f] w fun e w' => e = .returned (.bool (isF f)) ∧ w' = w := by
  have hV : Hid (isF f = (decide (1 ≤ f) && decide (f ≤ 5))) := rfl
  generalize isF f = V at *
  go_enter Tryd.func60, Tryd.ntmps60
  go_wp2
  all_goals
    go_ret
    refine ⟨rBool ?_, rfl⟩
    rw [hV.out]
    clear hV
    (try simp_all) <;> (try omega)

/-- All fields that don't count are zero? -/
def bareV (v : Vl) : Bool := (v.k == 1 || (v.x : Int) == 0) && (v.k == 2 || decide (v.s.toList = [])) && (v.k == 3 || !v.b) && (v.k == 4 || v.f == 0)
set_option maxRecDepth 20000 in
set_option maxHeartbeats 4000000 in
theorem bare_at (v : Vl) (w : World) : Calls Tryd.prog 58 #[v.val] w fun e w' => e = .returned (.bool (bareV v)) ∧ Gr w w' := by
  have G0 : Hid (∀ a t, Gr w (w.alloc (.cells a t))) := fun a t => (Gr.refl w).alloc _ _
  have hV : Hid (bareV v = ((v.k == 1 || (v.x : Int) == 0) && (v.k == 2 || decide (v.s.toList = [])) && (v.k == 3 || !v.b) && (v.k == 4 || v.f == 0))) := rfl
  generalize bareV v = V at *
  obtain ⟨k, x, s, b, f⟩ := v
  simp only at *
  go_enter Tryd.func58, Tryd.ntmps58
  go_wp2
  all_goals
    go_ret
    refine ⟨rBool ?_, G0.out _ _⟩
    rw [hV.out]
    clear hV G0
    simp_all
end Go.Proofs.YtjmbmapanmbnhaaDoor
