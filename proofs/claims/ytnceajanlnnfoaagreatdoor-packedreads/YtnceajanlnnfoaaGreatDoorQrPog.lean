/-Packed, the document's Doubles, Singles (quadrilleref24). -/
import Derived.Test.YtnceajanlnnfoaaGreatDoorQrPoa
import Derived.Test.YtnceajanlnnfoaaGreatDoorQrPlh
import Derived.Test.YtnceajanlnnfoaaGreatDoorQrPko
namespace Go.Proofs.YtnceajanlnnfoaaGreatDoor
open Go.RowKit Go.Shelf
theorem jDW {w:World}{g:Option Nat}{v:Value}{l:List UInt8}(h:By 5 w g v (Lib.byteCells l)):(convert 70 9 v).run Tryz.prog w=.ok (.string ⟨l.toArray⟩) w:=by
 have h0:=h;cases hf:h.form with
 | inl q=>
  obtain⟨rfl,_,q2⟩:=q;have hl:l=[]:=by
   have:=congrArg List.length q2;rw[Lib.byteCells_length] at this;exact List.length_eq_zero_iff.1 (by simpa using this)
  subst hl;exact run_convert_bytes_nil w 70 5 Tryz.underlying70 Tryz.underlying5 0 0 9 Tryz.underlying9
 | inr q=>
  obtain⟨b,c,rfl,_⟩:=q;rw[Lib.byteCells_length] at h0 ⊢;refine run_convert_bytes_back (P:=Tryz.prog) w 70 9 5 ⟨b,0,none⟩ c l Tryz.underlying70 Tryz.underlying5 Tryz.underlying9 (fun j hj=>?_);have hadd:(⟨b,0,none⟩:Addr).add j=⟨b,j,none⟩:=by unfold Addr.add;split <;> simp_all
  rw[hadd];refine h0.cell j _ ?_;unfold Lib.byteCells;rw[List.getElem?_map,List.getElem?_eq_getElem hj]
  rfl
end Go.Proofs.YtnceajanlnnfoaaGreatDoor
