/- UTF-8 as the document reads it, over lists of bytes: the same as the model's decoder's. No function of the program here. The document's first and Check (quadrilleref12). The document's Same of nodes (quadrilleref12): all of it. The document's Same of contents (quadrilleref17). -/
import Derived.Test.YtnceajanlnnfoaaGreatDoorQmQa
import Derived.Lib.ValidLaws
import Derived.Test.YtnceajanlnnfoaaGreatDoorQmGa
import Derived.Deep.RegionWith
import Derived.Test.YtnceajanlnnfoaaGreatDoorQmXk
namespace Go.Proofs.YtnceajanlnnfoaaGreatDoor
open Go.RowKit Go.Lib
def acc (B : Nat → Nat) (c0 : Int) : Nat → Int
 | 0 => c0
 | j + 1 => acc B c0 j * 64 + (B (j + 1) : Int) - 128
end Go.Proofs.YtnceajanlnnfoaaGreatDoor
namespace Go.Proofs.YtnceajanlnnfoaaGreatDoor
open Go.RowKit Go.Lib
attribute [local irreducible] Nd.fe feL
end Go.Proofs.YtnceajanlnnfoaaGreatDoor
namespace Go.Proofs.YtnceajanlnnfoaaGreatDoor
open Go.RowKit Go.Lib
attribute [local irreducible] tsame lsame
theorem hsame_all {h g : Hd} (e : hsame h g = true) : h.k = g.k ∧ h.o = g.o ∧ fsame h.x g.x = true ∧ h.s.toList = g.s.toList ∧ h.b = g.b ∧ h.f = g.f ∧ (h.c1 == g.c1 && h.r1 == g.r1 && h.p1 == g.p1 && h.q1 == g.q1) = true ∧ (h.c2 == g.c2 && h.r2 == g.r2 && h.p2 == g.p2 && h.q2 == g.q2) = true := by
 unfold hsame at e
 simp only [Bool.and_eq_true] at e ⊢
 obtain ⟨⟨⟨⟨⟨⟨⟨e1, e2⟩, e3⟩, e4⟩, e5⟩, e6⟩, e7⟩, e8⟩ := e
 exact ⟨by simpa using e1, by simpa using e2, e3, by simpa using e4, by simpa using e5, by simpa using e6, e7, e8⟩
end Go.Proofs.YtnceajanlnnfoaaGreatDoor
namespace Go.Proofs.YtnceajanlnnfoaaGreatDoor
open Go.RowKit Go.Lib
attribute [local irreducible] tsame lsame
def csame (a b : Ct) : Bool := a.k == b.k && (if a.k = 1 then vsame a.v b.v else if a.k = 2 then tsame a.t b.t else true)
end Go.Proofs.YtnceajanlnnfoaaGreatDoor
