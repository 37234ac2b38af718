/- What the program's calls of layer 10 must answer; the document's, told the same way. -/
import Derived.Test.YthehdloofamadaaDoorLa
import Derived.Test.YthehdloofamadaaDoorAy
import Derived.Test.YthehdloofamadaaDoorBd
import Derived.Test.YthehdloofamadaaDoorAu
import Derived.Test.YthehdloofamadaaDoorTt
namespace Go.Proofs.YthehdloofamadaaDoor
open Go.RowKit

theorem Below.of_gr {P : Ending → Prop} {f : FuncId} {args : Array Value} {w : World} (h : Calls Tryd.prog f args w fun e w' => P e ∧ Gr w w') : Calls Tryd.prog f args w fun e w' => P e ∧ Below w.heap.size w w' :=
  h.mono fun _ _ g => ⟨g.1, g.2.below⟩

def SaysValid (f : Nat) : Prop := ∀ (c r : Int) (w : World), Calls Tryd.prog f #[.agg #[.int .i64 c, .int .i64 r]] w fun e w' => e = .returned (.bool (vC c r)) ∧ Below w.heap.size w w'
def SaysOrder (f : Nat) : Prop := ∀ (c r d s : Int) (w : World), Calls Tryd.prog f #[.agg #[.int .i64 c, .int .i64 r], .agg #[.int .i64 d, .int .i64 s]] w fun e w' => e = .returned (.int .i64 (ordC c r d s)) ∧ Below w.heap.size w w'
def SaysText (f : Nat) : Prop := ∀ (c r : Int) (cf rf : Bool) (w : World), Calls Tryd.prog f #[.agg #[.int .i64 c, .int .i64 r, .bool cf, .bool rf]] w fun e w' => e = .returned (.tuple #[.string ⟨(txtL c r cf rf).toArray⟩, .int .i64 (txtE c r)]) ∧ Below w.heap.size w w'
/-- The same where the table of the powers of ten lies. -/
def SaysTextT (f : Nat) : Prop := ∀ (c r : Int) (cf rf : Bool) (w : World), Tw w → Calls Tryd.prog f #[.agg #[.int .i64 c, .int .i64 r, .bool cf, .bool rf]] w fun e w' => e = .returned (.tuple #[.string ⟨(txtL c r cf rf).toArray⟩, .int .i64 (txtE c r)]) ∧ Below w.heap.size w w'
def SaysText27 (f : Nat) : Prop := ∀ (w : World), Calls Tryd.prog f #[.agg #[.int .i64 27, .int .i64 10, .bool false, .bool true]] w fun e w' => e = .returned (.tuple #[.string ⟨#[65, 65, 36, 49, 48]⟩, .int .i64 0]) ∧ Below w.heap.size w w'
def SaysParse (f : Nat) : Prop := ∀ (l : List UInt8) (n : Int) (_ : (l.length : Int) = n) (_ : n < 140737488355328) (w : World), Calls Tryd.prog f #[.string ⟨l.toArray⟩] w fun e w' => e = .returned (.tuple #[.agg #[.int .i64 (pc l), .int .i64 (pr l), .bool (pcf l), .bool (prf l)], .int .i64 (pE l)]) ∧ Below w.heap.size w w'
def SaysPrefix (f : Nat) : Prop := ∀ (l : List UInt8) (n : Int) (_ : (l.length : Int) = n) (_ : n < 140737488355328) (w : World), Calls Tryd.prog f #[.string ⟨l.toArray⟩] w fun e w' => e = .returned (.int .i64 (pfx l : Nat)) ∧ Below w.heap.size w w'
def SaysValidArea (f : Nat) : Prop := ∀ (c r d s : Int) (w : World), Calls Tryd.prog f #[.agg #[.int .i64 c, .int .i64 r, .int .i64 d, .int .i64 s]] w fun e w' => e = .returned (.bool (vA c r d s)) ∧ Below w.heap.size w w'
def SaysIn (f : Nat) : Prop := ∀ (c r d s x y : Int) (w : World), Calls Tryd.prog f #[.agg #[.int .i64 c, .int .i64 r, .int .i64 d, .int .i64 s], .agg #[.int .i64 x, .int .i64 y]] w fun e w' => e = .returned (.bool (inA c r d s x y)) ∧ Below w.heap.size w w'
def SaysSize (f : Nat) : Prop := ∀ (c r d s : Int) (w : World), Calls Tryd.prog f #[.agg #[.int .i64 c, .int .i64 r, .int .i64 d, .int .i64 s]] w fun e w' => e = .returned (.int .i64 (sizeA c r d s)) ∧ Below w.heap.size w w'
def SaysAreaText (f : Nat) : Prop := ∀ (c r d s : Int) (w : World), Calls Tryd.prog f #[.agg #[.int .i64 c, .int .i64 r, .int .i64 d, .int .i64 s]] w fun e w' => e = .returned (.tuple #[.string ⟨(atx c r d s).toArray⟩, .int .i64 (atxE c r d s)]) ∧ Below w.heap.size w w'

def SaysAreaTextT (f : Nat) : Prop := ∀ (c r d s : Int) (w : World), Tw w → Calls Tryd.prog f #[.agg #[.int .i64 c, .int .i64 r, .int .i64 d, .int .i64 s]] w fun e w' => e = .returned (.tuple #[.string ⟨(atx c r d s).toArray⟩, .int .i64 (atxE c r d s)]) ∧ Below w.heap.size w w'
/-- The corners of the least area that has both; zeros, if one is no cell. -/
def ar1 (c r d s : Int) : Int := if vC c r && vC d s then min c d else 0
def ar2 (c r d s : Int) : Int := if vC c r && vC d s then min r s else 0
def ar3 (c r d s : Int) : Int := if vC c r && vC d s then max c d else 0
def ar4 (c r d s : Int) : Int := if vC c r && vC d s then max r s else 0
def SaysArea (f : Nat) : Prop := ∀ (c r d s : Int) (w : World), Calls Tryd.prog f #[.agg #[.int .i64 c, .int .i64 r], .agg #[.int .i64 d, .int .i64 s]] w fun e w' => e = .returned (.tuple #[.agg #[.int .i64 (ar1 c r d s), .int .i64 (ar2 c r d s), .int .i64 (ar3 c r d s), .int .i64 (ar4 c r d s)], .int .i64 (arE c r d s)]) ∧ Below w.heap.size w w'
/-- The corners of the area that is read. -/
def pa1 (l : List UInt8) : Int := if atF 0 l < 0 then pc l else if pE (ahead l) = 0 ∧ pE (behind l) = 0 then ar1 (pc (ahead l)) (pr (ahead l)) (pc (behind l)) (pr (behind l)) else 0
def pa2 (l : List UInt8) : Int := if atF 0 l < 0 then pr l else if pE (ahead l) = 0 ∧ pE (behind l) = 0 then ar2 (pc (ahead l)) (pr (ahead l)) (pc (behind l)) (pr (behind l)) else 0
def pa3 (l : List UInt8) : Int := if atF 0 l < 0 then pc l else if pE (ahead l) = 0 ∧ pE (behind l) = 0 then ar3 (pc (ahead l)) (pr (ahead l)) (pc (behind l)) (pr (behind l)) else 0
def pa4 (l : List UInt8) : Int := if atF 0 l < 0 then pr l else if pE (ahead l) = 0 ∧ pE (behind l) = 0 then ar4 (pc (ahead l)) (pr (ahead l)) (pc (behind l)) (pr (behind l)) else 0
theorem paV_eq (l : List UInt8) : paV l = areaV (pa1 l) (pa2 l) (pa3 l) (pa4 l) := by
  unfold paV pa1 pa2 pa3 pa4
  by_cases h1 : atF 0 l < 0
  · simp only [if_pos h1]
    by_cases h2 : pE l = 0
    · rw [if_pos h2]
    · rw [if_neg h2]; unfold pc pr; rw [if_neg h2, if_neg h2]
  · simp only [if_neg h1]
    by_cases h2 : pE (ahead l) = 0 ∧ pE (behind l) = 0
    · simp only [if_pos h2]; rw [arV_eq]; rfl
    · simp only [if_neg h2]
def SaysParseArea (f : Nat) : Prop := ∀ (l : List UInt8) (n : Int) (_ : (l.length : Int) = n) (_ : n < 140737488355328) (w : World), Calls Tryd.prog f #[.string ⟨l.toArray⟩] w fun e w' => e = .returned (.tuple #[.agg #[.int .i64 (pa1 l), .int .i64 (pa2 l), .int .i64 (pa3 l), .int .i64 (pa4 l)], .int .i64 (paE l)]) ∧ Below w.heap.size w w'
def SaysMeet (f : Nat) : Prop := ∀ (c r d s c' r' d' s' : Int) (w : World), Calls Tryd.prog f #[.agg #[.int .i64 c, .int .i64 r, .int .i64 d, .int .i64 s], .agg #[.int .i64 c', .int .i64 r', .int .i64 d', .int .i64 s']] w fun e w' => e = .returned (.tuple #[.agg #[.int .i64 (mt1 c r d s c' r' d' s'), .int .i64 (mt2 c r d s c' r' d' s'), .int .i64 (mt3 c r d s c' r' d' s'), .int .i64 (mt4 c r d s c' r' d' s')], .bool (mtO c r d s c' r' d' s')]) ∧ Below w.heap.size w w'
/-- Where one is copied to; zeros, if there is no way. -/
def sh1 (c r : Int) (cf rf : Bool) (x y : Int) : Int := if shOk c r cf rf x y then (shN c x 256 cf).1 else 0
def sh2 (c r : Int) (cf rf : Bool) (x y : Int) : Int := if shOk c r cf rf x y then (shN r y 4096 rf).1 else 0
def sh3 (c r : Int) (cf rf : Bool) (x y : Int) : Bool := if shOk c r cf rf x y then cf else false
def sh4 (c r : Int) (cf rf : Bool) (x y : Int) : Bool := if shOk c r cf rf x y then rf else false
theorem shV_eq (c r : Int) (cf rf : Bool) (x y : Int) : shV c r cf rf x y = refV (sh1 c r cf rf x y) (sh2 c r cf rf x y) (sh3 c r cf rf x y) (sh4 c r cf rf x y) := by
  unfold shV sh1 sh2 sh3 sh4
  split <;> rfl
def SaysShift (f : Nat) : Prop := ∀ (c r : Int) (cf rf : Bool) (x y : Int) (w : World), Calls Tryd.prog f #[.agg #[.int .i64 c, .int .i64 r, .bool cf, .bool rf], .int .i64 x, .int .i64 y] w fun e w' => e = .returned (.tuple #[.agg #[.int .i64 (sh1 c r cf rf x y), .int .i64 (sh2 c r cf rf x y), .bool (sh3 c r cf rf x y), .bool (sh4 c r cf rf x y)], .bool (shOk c r cf rf x y)]) ∧ Below w.heap.size w w'
/-- The same by any int. -/
def SaysShiftB (f : Nat) : Prop := ∀ (c r : Int) (cf rf : Bool) (x y : Int) (_ : -9223372036854775808 ≤ x) (_ : x ≤ 9223372036854775807) (_ : -9223372036854775808 ≤ y) (_ : y ≤ 9223372036854775807) (w : World), Calls Tryd.prog f #[.agg #[.int .i64 c, .int .i64 r, .bool cf, .bool rf], .int .i64 x, .int .i64 y] w fun e w' => e = .returned (.tuple #[.agg #[.int .i64 (sh1 c r cf rf x y), .int .i64 (sh2 c r cf rf x y), .bool (sh3 c r cf rf x y), .bool (sh4 c r cf rf x y)], .bool (shOk c r cf rf x y)]) ∧ Below w.heap.size w w'
def SaysCells (f gf : Nat) : Prop := ∀ (c r d s : Int) (w : World), Calls Tryd.prog f #[.agg #[.int .i64 c, .int .i64 r, .int .i64 d, .int .i64 s]] w fun e w' => ∃ lb, e = .returned (.func (.func gf) #[] lb) ∧ CellsSeq gf lb c r d s w' ∧ Below w.heap.size w w'

theorem refValid : SaysValid 10 := fun c r w => Below.of_gr (rValid_any c r w)
theorem refOrder : SaysOrder 12 := fun c r d s w => Below.of_gr (rOrder_any c r d s w)
theorem refText : SaysText 14 := fun c r cf rf w => Below.of_gr (rText_any c r cf rf w)
theorem refParse : SaysParse 18 := fun l n hn hl w => Below.of_gr (rParse_any l n hn hl w)
theorem refPrefix : SaysPrefix 22 := fun l n hn hl w => Below.of_gr (rPrefix_any l n hn hl w)
theorem refValidArea : SaysValidArea 24 := fun c r d s w => (rValidArea_at c r d s w).mono fun e w' h => ⟨h.1, by
  rw [h.2]
  exact ((((Gr.refl w).alloc _ _).alloc _ _).alloc _ _).below⟩
theorem refIn : SaysIn 26 := fun c r d s x y w => Below.of_gr (rIn_any c r d s x y w)
theorem refSize : SaysSize 28 := fun c r d s w => Below.of_gr (rSize_any c r d s w)
theorem refAreaText : SaysAreaText 32 := fun c r d s w => Below.of_gr (rAreaText_any c r d s w)
theorem refArea : SaysArea 30 := fun c r d s w => by
  have := Below.of_gr (P := fun e => e = .returned (.tuple #[arV c r d s, .int .i64 (arE c r d s)])) (rArea_any c r d s w)
  rw [arV_eq] at this
  exact this
theorem refParseArea : SaysParseArea 20 := fun l n hn hl w => by
  have := Below.of_gr (P := fun e => e = .returned (.tuple #[paV l, .int .i64 (paE l)])) (rParseArea_any l n hn hl w)
  rw [paV_eq] at this
  exact this
theorem refMeet : SaysMeet 34 := fun c r d s c' r' d' s' w => by
  have := Below.of_gr (P := fun e => e = .returned (.tuple #[mtV c r d s c' r' d' s', .bool (mtO c r d s c' r' d' s')])) (rMeet_any c r d s c' r' d' s' w)
  rw [mtV_eq] at this
  exact this
theorem refShift : SaysShift 16 := fun c r cf rf x y w => by
  have := Below.of_gr (P := fun e => e = .returned (.tuple #[shV c r cf rf x y, .bool (shOk c r cf rf x y)])) (rShift_any c r x y cf rf w)
  rw [shV_eq] at this
  exact this

/-- All that the program's calls must answer. -/
structure AddrSays : Prop where
  valid : SaysValid 9
  order : SaysOrder 11
  text : SaysTextT 13
  text27 : SaysText27 13
  parse : SaysParse 17
  prefix' : SaysPrefix 21
  validArea : SaysValidArea 23
  area : SaysArea 29
  areaText : SaysAreaTextT 31
  parseArea : SaysParseArea 19
  inn : SaysIn 25
  meet : SaysMeet 33
  size : SaysSize 27
  cells : SaysCells 37 52
  shift : SaysShiftB 15

theorem awake_any (h : AddrSays) (w : World) : Calls Tryd.prog 8 #[] w fun e w' => e = .returned (.bool true) ∧ Below w.heap.size w w' := by
  refine awake_core w (fun w => ?_) (fun w => ?_) (fun w => ?_) (fun w => h.cells 1 7 2 9 w)
  · exact h.text27 w
  · exact h.parse [98, 55] 2 rfl (by decide) w
  · exact h.parseArea [98, 57, 58, 36, 65, 55] 6 rfl (by decide) w
end Go.Proofs.YthehdloofamadaaDoor
