/- The document's Text. -/
import Derived.Test.YthehdloofamadaaDoorAs
import Derived.Test.YthehdloofamadaaDoorAv
namespace Go.Proofs.YthehdloofamadaaDoor
open Go.RowKit

/-- A cell's text. -/
def txt (c r : Int) (cf rf : Bool) : List UInt8 := (if cf then [36] else []) ++ lets 9 c.toNat ++ (if rf then [36] else []) ++ digs 13 r.toNat
def txtL (c r : Int) (cf rf : Bool) : List UInt8 := if vC c r then txt c r cf rf else []
def txtE (c r : Int) : Int := if vC c r then 0 else 20

theorem add_lists (x y : List UInt8) (hx : x.length ≤ 100) (hy : y.length ≤ 100) : ∀ w, (Op.stringOp .add ⟨x.toArray⟩ ⟨y.toArray⟩).run Tryd.prog w = .ok (.string ⟨(x ++ y).toArray⟩) w :=
  fun w => run_string_add_lists w _ _ (by omega) (by omega)

set_option maxHeartbeats 4000000 in
theorem rText_any (c r : Int) (cf rf : Bool) (w : World) :
    Calls Tryd.prog 14 #[.agg #[.int .i64 c, .int .i64 r, .bool cf, .bool rf]] w fun e w' =>
      e = .returned (.tuple #[.string ⟨(txtL c r cf rf).toArray⟩, .int .i64 (txtE c r)]) ∧ Gr w w' := by
  have H1 : Hid (∀ w, Calls Tryd.prog 10 #[.agg #[.int .i64 c, .int .i64 r]] w fun e w' => e = .returned (.bool (vC c r)) ∧ w' = w.alloc (.cells #[.int .i64 c, .int .i64 r] 23)) := rValid_at c r
  have hv := vC_iff c r
  have hE : Hid (txtE c r = if vC c r then 0 else 20) := rfl
  have hL : Hid (txtL c r cf rf = if vC c r then txt c r cf rf else []) := rfl
  generalize txtE c r = E at *
  generalize txtL c r cf rf = T at *
  generalize vC c r = V at *
  cases V
  · have hE' : E = 20 := hE.out
    have hL' : T = [] := hL.out
    subst hE' hL'
    clear hE hL hv
    go_enter Tryd.func14, Tryd.ntmps14
    go_wp2_with fail
    refine (H1.out _).mono ?_
    rintro e w' ⟨rfl, rfl⟩
    go_wp2_with fail
    go_ret2
    refine ⟨rfl, ?_⟩
    repeat (first | exact Gr.refl _ | refine Gr.alloc ?_ _ _)
  · obtain ⟨b1, b2, b3, b4⟩ := hv.1 rfl
    have hE' : E = 0 := hE.out
    have hL' : T = txt c r cf rf := hL.out
    have H2 : Hid (∀ w, Calls Tryd.prog 44 #[.int .i64 c] w fun e w' => e = .returned (.string ⟨(lets 9 c.toNat).toArray⟩) ∧ Gr w w') := fun w => rletters_any 9 c w (by decide) (by omega) (by omega) (by have : (2 : Nat) ^ 9 = 512 := rfl; omega)
    have H3 : Hid (∀ w, Calls Tryd.prog 45 #[.int .i64 r] w fun e w' => e = .returned (.string ⟨(digs 13 r.toNat).toArray⟩) ∧ Gr w w') := fun w => rdigits_any 13 r w (by decide) (by omega) (by omega) (by have : (2 : Nat) ^ 13 = 8192 := rfl; omega)
    have hl := lets_len 9 c.toNat
    have hd := digs_len 13 r.toNat
    unfold txt at hL'
    subst hE'
    clear hE hL hv
    generalize lets 9 c.toNat = L at *
    generalize digs 13 r.toNat = D at *
    have a1 := add_lists [36] L (by simp) (by omega)
    have a2 := add_lists L [36] (by omega) (by simp)
    have a3 := add_lists (36 :: L) [36] (by simp; omega) (by simp)
    have a4 := add_lists L D (by omega) (by omega)
    have a5 := add_lists (36 :: L) D (by simp; omega) (by omega)
    have a6 := add_lists (L ++ [36]) D (by simp; omega) (by omega)
    have a7 := add_lists (36 :: (L ++ [36])) D (by simp; omega) (by omega)
    clear hl hd
    have hT : Hid (T = (if cf then [36] else []) ++ L ++ (if rf then [36] else []) ++ D) := hL'
    clear hL'
    cases cf <;> cases rf
    all_goals
      go_enter Tryd.func14, Tryd.ntmps14
      go_wp2_with fail
      refine (H1.out _).mono ?_
      rintro e w' ⟨rfl, rfl⟩
      go_wp2_with fail
      refine (H2.out _).mono ?_
      rintro e w1 ⟨rfl, hg⟩
      have hcell := hg.ext.cell
      have G1 : Hid (Gr w w1) := Gr.trans (by repeat (first | exact Gr.refl _ | refine Gr.alloc ?_ _ _)) hg
      clear hg
      go_wp2_with fail
      refine (H3.out _).mono ?_
      rintro e w2 ⟨rfl, hg⟩
      have G2 : Hid (Gr w w2) := Gr.trans G1.out hg
      clear hg hcell
      go_wp2_with fail
      go_ret2
      exact ⟨rTwo (vStr (by rw [hT.out]; simp)) rfl, G2.out⟩
end Go.Proofs.YthehdloofamadaaDoor
