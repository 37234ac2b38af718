/- The document's Own of contents (quadrilleref17), number and OfNumber (quadrilleref14). -/
import Derived.Test.YtdaoingmiabbcaaGreatDoorVXk
import Derived.ArgAppend
import Derived.Test.YtdaoingmiabbcaaGreatDoorVXs
import Derived.Test.YtdaoingmiabbcaaGreatDoorVXy
import Derived.Test.YtdaoingmiabbcaaGreatDoorVQa
namespace Go.Proofs.YtdaoingmiabbcaaGreatDoor
open Go.RowKit

/-- The zero content's cells. -/
abbrev zC21 : List Value := [.int .i64 0, .int .i64 0, .float .f64 0, .string ⟨#[]⟩, .bool false, .int .i64 0, .int .i64 0, .int .i64 0, .float .f64 0, .string ⟨#[]⟩, .bool false, .int .i64 0, .int .i64 0, .int .i64 0, .bool false, .bool false, .int .i64 0, .int .i64 0, .bool false, .bool false, .slice none 0 0]
theorem Blk.range {w : World} {b : Nat} {pre l post : List Value} {t : TypeId} (h : Blk w b (pre ++ l ++ post) t) : w.rangeAt b pre.length l := rangeAt_mid h
end Go.Proofs.YtdaoingmiabbcaaGreatDoor
