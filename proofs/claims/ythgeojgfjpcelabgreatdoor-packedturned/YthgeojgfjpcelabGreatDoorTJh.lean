/- The document's Own of contents (quadrilleref17), number and OfNumber (quadrilleref14). -/
import Derived.Test.YthgeojgfjpcelabGreatDoorTXd
import Derived.Test.YthgeojgfjpcelabGreatDoorTQa
namespace Go.Proofs.YthgeojgfjpcelabGreatDoor
open Go.RowKit

/-- The zero content's cells. -/
abbrev zC21 : List Value := [.int .i64 0, .int .i64 0, .float .f64 0, .string ⟨#[]⟩, .bool false, .int .i64 0, .int .i64 0, .int .i64 0, .float .f64 0, .string ⟨#[]⟩, .bool false, .int .i64 0, .int .i64 0, .int .i64 0, .bool false, .bool false, .int .i64 0, .int .i64 0, .bool false, .bool false, .slice none 0 0]
theorem Blk.all {w : World} {b : Nat} {l : List Value} {t : TypeId} (h : Blk w b l t) : w.rangeAt b 0 l := fun j v hj => by rw [Nat.zero_add]; exact h.cell hj
end Go.Proofs.YthgeojgfjpcelabGreatDoor
