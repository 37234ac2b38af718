/- The document's one and Known (quadrilleref12): a name in a row of names. The document's Known (quadrilleref12). -/
import Derived.Test.YtbkcebbddhaifaaDoorB13
namespace Go.Proofs.YtbkcebbddhaifaaDoor
open Go.RowKit

/-- The words of a row, blanks between; cur: the word that has begun. -/
def wds (cur : List UInt8) : List UInt8 → List (List UInt8)
  | [] => [cur]
  | c :: cs => if c = 32 then cur :: wds [] cs else wds (cur ++ [c]) cs
def oneB (s : ByteArray) (l : List UInt8) : Bool := decide (s.toList ≠ []) && (wds [] l).any (fun x => x == s.toList)
/-- How it stands at place i, with the word that began at f. -/
def oneAt (s : ByteArray) (l : List UInt8) (f i : Nat) : Bool := decide (s.toList ≠ []) && (wds ((l.take i).drop f) (l.drop i)).any (fun x => x == s.toList)
theorem oneAt_end (s : ByteArray) (l : List UInt8) (f : Nat) : oneAt s l f l.length = (decide (s.toList ≠ []) && ((l.take l.length).drop f == s.toList)) := by
  unfold oneAt
  rw [List.drop_length, wds]
  simp
theorem oneAt_blank {s : ByteArray} {l : List UInt8} {f i : Nat} (h : i < l.length) (hb : l[i] = 32) : oneAt s l f i = (decide (s.toList ≠ []) && ((l.take i).drop f == s.toList) || oneAt s l (i + 1) (i + 1)) := by
  unfold oneAt
  rw [List.drop_eq_getElem_cons h, wds, if_pos hb]
  have : (l.take (i + 1)).drop (i + 1) = [] := by rw [List.drop_eq_nil_iff, List.length_take]; omega
  rw [this]
  simp only [List.any_cons]
  cases decide (s.toList ≠ []) <;> simp
theorem oneAt_more {s : ByteArray} {l : List UInt8} {f i : Nat} (h : i < l.length) (hf : f ≤ i) (hb : l[i] ≠ 32) : oneAt s l f i = oneAt s l f (i + 1) := by
  unfold oneAt
  rw [List.drop_eq_getElem_cons h, wds, if_neg hb]
  have : (l.take (i + 1)).drop f = (l.take i).drop f ++ [l[i]] := by
    rw [List.take_add_one, List.getElem?_eq_getElem h, List.drop_append_of_le_length (by rw [List.length_take]; omega)]
    rfl
  rw [this]
theorem isAny_eq (s : ByteArray) (l : List UInt8) (nm : List ByteArray) (h : wds [] l = nm.map (fun n => n.data.toList)) (hne : ∀ n ∈ nm, n.data.toList ≠ []) : oneB s l = isAny s nm := by
  unfold oneB isAny
  rw [h, List.any_map]
  rw [Bool.eq_iff_iff, Bool.and_eq_true, List.any_eq_true, List.any_eq_true]
  constructor
  · rintro ⟨_, n, hn, e⟩
    refine ⟨n, hn, ?_⟩
    simp only [Function.comp, beq_iff_eq] at e
    rw [beq_iff_eq, Lib.toList_data n, e]
  · rintro ⟨n, hn, e⟩
    rw [beq_iff_eq, Lib.toList_data n] at e
    refine ⟨?_, n, hn, ?_⟩
    · rw [decide_eq_true_eq, e]; exact hne n hn
    · simp only [Function.comp, beq_iff_eq]; exact e.symm
end Go.Proofs.YtbkcebbddhaifaaDoor
namespace Go.Proofs.YtbkcebbddhaifaaDoor
open Go.RowKit

theorem rknown_ret {s : ByteArray} {a b : Int} {c : Bool} (h : known s = (a, b, c)) : Ending.returned (.tuple #[.int .i64 a, .int .i64 b, .bool c]) = .returned (.tuple #[.int .i64 (known s).1, .int .i64 (known s).2.1, .bool (known s).2.2]) := by rw [h]
end Go.Proofs.YtbkcebbddhaifaaDoor
