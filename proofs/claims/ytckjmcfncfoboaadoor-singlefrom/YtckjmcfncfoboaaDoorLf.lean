/- SingleFrom: whole numbers to numbers and singles, as the document answers. -/
import Derived.Test.YtckjmcfncfoboaaDoorNr
import Derived.Test.YtckjmcfncfoboaaDoorLfa
namespace Go.Proofs.YtckjmcfncfoboaaDoor
open Go.RowKit
open Ieee

theorem from_walk (n u mode : Int) (h0 : -9223372036854775808 ≤ n) (h1 : n ≤ 9223372036854775807) (u0 : 0 ≤ u) (u1 : Hid (u < 18446744073709551616)) (_m0 : -9223372036854775808 ≤ mode) (_m1 : mode ≤ 9223372036854775807) (w : World) (hT : Tab w) :
    Calls Tryd.prog 7 #[.int .i64 n, .int .u64 u, .int .i64 mode] w fun e w' => e = .returned (.bool true) ∧ Gr w w' := by
  obtain ⟨v, rfl⟩ : ∃ v : Nat, u = v := ⟨u.toNat, by omega⟩
  have hv : v < 18446744073709551616 := by have := u1.out; omega
  exact from_law n v mode (rfE mode) (rfW mode (decide (n < 0)) n.natAbs) (rfW mode false v) (rfS mode (decide (n < 0)) n.natAbs) (rfX mode n.natAbs 53) (rfX mode v 53) (rfX mode n.natAbs 24) (fun w hT => awake4_any w hT)
    (fun w hT => pfint_all n mode h0 h1 w hT) (fun w => rfint_all n mode h0 h1 w) (fun w hT => pfuint_all v mode hv w hT) (fun w => rfuint_all v mode hv w) (fun w hT => psint_all n mode h0 h1 w hT) (fun w => rsint_all n mode h0 h1 w)
    (fun w => is4_yes _ _ rfl w) (fun w => is4_yes _ _ rfl w) (fun w => has_yes _ _ rfl w) w hT
end Go.Proofs.YtckjmcfncfoboaaDoor
