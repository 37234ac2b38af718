/- Texts of cells: plain functions over bytes. No function of the program here. -/
import Derived.Test.YthehdloofamadaaDoorAx
namespace Go.Proofs.YthehdloofamadaaDoor
open Go.RowKit

/-- A text's byte. -/
def bi (l : List UInt8) (i : Nat) : Int := ((l.getD i 0).toNat : Int)
@[go_sem] theorem byte_at (l : List UInt8) (j : Nat) (h : j < (ByteArray.mk l.toArray).size) : ((((ByteArray.mk l.toArray)[j]'h).toNat : Nat) : Int) = bi l j := by
  have hl : j < l.length := h
  unfold bi
  rw [List.getD, List.getElem?_eq_getElem hl, Option.getD_some]
  rfl
theorem bi_split {l pre s : List UInt8} {b : UInt8} (h : l = pre ++ b :: s) : bi l pre.length = (b.toNat : Int) := by
  subst h
  unfold bi
  rw [List.getD, List.getElem?_append_right (Nat.le_refl _), Nat.sub_self]
  rfl

def isL (b : UInt8) : Bool := (decide (65 ≤ b.toNat) && decide (b.toNat ≤ 90)) || (decide (97 ≤ b.toNat) && decide (b.toNat ≤ 122))
def upB (b : UInt8) : UInt8 := if 97 ≤ b.toNat then UInt8.ofNat (b.toNat - 32) else b
def isD (b : UInt8) : Bool := decide (48 ≤ b.toNat) && decide (b.toNat ≤ 57)

/-- Has a text a first byte of such a kind? -/
def hd (p : UInt8 → Bool) : List UInt8 → Bool
  | [] => false
  | b :: _ => p b
/-- Does a text begin with $? -/
def dol : List UInt8 → Bool
  | [] => false
  | b :: _ => b == 36
def cutD (l : List UInt8) : List UInt8 := if dol l then l.drop 1 else l
def fWord (l : List UInt8) : List UInt8 := ((cutD l).takeWhile isL).map upB
def fB (l : List UInt8) : List UInt8 := (cutD l).dropWhile isL
def fRow (l : List UInt8) : Bool := !(fWord l).isEmpty && dol (fB l)
def fC (l : List UInt8) : List UInt8 := if fRow l then (fB l).drop 1 else fB l
def fDig (l : List UInt8) : List UInt8 := (fC l).takeWhile isD
def fEnd (l : List UInt8) : List UInt8 := (fC l).dropWhile isD
def nz : List UInt8 → Bool
  | [] => false
  | b :: _ => b != 48
/-- Has it a cell's form? -/
def fOk (l : List UInt8) : Bool := (fEnd l).isEmpty && !(fWord l).isEmpty && nz (fDig l)

theorem hd_false {p : UInt8 → Bool} {s : List UInt8} (h : hd p s = false) : ∀ b t, s = b :: t → p b = false := by
  rintro b t rfl; exact h
theorem while_split (p : UInt8 → Bool) (pre s : List UInt8) (h : ∀ b ∈ pre, p b = true) (hs : ∀ b t, s = b :: t → p b = false) :
    (pre ++ s).takeWhile p = pre ∧ (pre ++ s).dropWhile p = s := by
  induction pre with
  | nil =>
    cases s with
    | nil => exact ⟨rfl, rfl⟩
    | cons b t =>
      have := hs b t rfl
      exact ⟨by simp [this], by simp [this]⟩
  | cons a pre ih =>
    have ha := h a (by simp)
    obtain ⟨h1, h2⟩ := ih (fun b hb => h b (by simp [hb]))
    exact ⟨by simp [ha, h1], by simp [ha, h2]⟩
/-- q is what stands in l from the place i on. -/
def Suf (l q : List UInt8) (i : Int) : Prop := ∃ p, l = p ++ q ∧ (p.length : Int) = i
theorem Suf.byte {l s : List UInt8} {b : UInt8} {i : Int} (h : Suf l (b :: s) i) : bi l i.toNat = (b.toNat : Int) := by
  obtain ⟨p, h1, h2⟩ := h
  subst h2
  exact bi_split h1
theorem Suf.next {l s : List UInt8} {b : UInt8} {i : Int} (h : Suf l (b :: s) i) : Suf l s (i + 1) := by
  obtain ⟨p, h1, h2⟩ := h
  exact ⟨p ++ [b], by rw [h1]; simp, by rw [← h2]; simp⟩
theorem Suf.place {l s : List UInt8} {i n : Int} (h : Suf l s i) (hn : (l.length : Int) = n) : 0 ≤ i ∧ i + s.length = n := by
  obtain ⟨p, h1, h2⟩ := h
  subst h1
  rw [List.length_append] at hn
  omega
theorem suf_all (l : List UInt8) : Suf l l 0 := ⟨[], rfl, rfl⟩
theorem Suf.take {l pre s : List UInt8} {i : Int} (h : Suf l (pre ++ s) i) : (l.drop i.toNat).take ((i + pre.length).toNat - i.toNat) = pre := by
  obtain ⟨p, h1, h2⟩ := h
  subst h1 h2
  rw [Int.toNat_natCast, List.drop_left, show ((p.length : Int) + pre.length).toNat - p.length = pre.length by omega, List.take_left]
theorem Suf.app {l pre s : List UInt8} {i : Int} (h : Suf l (pre ++ s) i) : Suf l s (i + pre.length) := by
  obtain ⟨p, h1, h2⟩ := h
  exact ⟨p ++ pre, by rw [h1]; simp, by rw [← h2]; simp⟩
theorem upB_low {b : UInt8} (h : (b.toNat : Int) < 97) : upB b = UInt8.ofNat (b.toNat : Int).toNat := by
  unfold upB
  rw [if_neg (by omega), Int.toNat_natCast, UInt8.ofNat_toNat]
theorem upB_high {b : UInt8} (h : 97 ≤ (b.toNat : Int)) : upB b = UInt8.ofNat ((b.toNat : Int) - 32).toNat := by
  unfold upB
  rw [if_pos (by omega), show ((b.toNat : Int) - 32).toNat = b.toNat - 32 by omega]
end Go.Proofs.YthehdloofamadaaDoor
