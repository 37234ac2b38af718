/- UTF-8 as the document reads it, over lists of bytes: the same as the model's decoder's. No function of the program here. The document's UTF8 (quadrilleref12). The document's Valid of a value (quadrilleref14); noValue, noNode (quadrilleref17). -/
import Derived.Test.YtbkcebbddhaifaaDoorB13
import Derived.Lib.ValidLaws
namespace Go.Proofs.YtbkcebbddhaifaaDoor
open Go.RowKit Go.Lib

/-- What stands behind j more bytes. -/
def acc (B : Nat → Nat) (c0 : Int) : Nat → Int
  | 0 => c0
  | j + 1 => acc B c0 j * 64 + (B (j + 1) : Int) - 128
/-- A first byte: how many more, the least number, what it gives. -/
def Lead (b0 m : Nat) (least c0 : Int) : Prop := (m = 0 ∧ b0 < 128 ∧ least = 0 ∧ c0 = b0) ∨ (m = 1 ∧ 194 ≤ b0 ∧ b0 < 224 ∧ least = 128 ∧ c0 = (b0 : Int) - 192) ∨ (m = 2 ∧ 224 ≤ b0 ∧ b0 < 240 ∧ least = 2048 ∧ c0 = (b0 : Int) - 224) ∨ (m = 3 ∧ 240 ≤ b0 ∧ b0 < 245 ∧ least = 65536 ∧ c0 = (b0 : Int) - 240)
def Cont (n : Nat) (B : Nat → Nat) (t : Nat) : Prop := t < n ∧ 128 ≤ B t ∧ B t ≤ 191
def Bad (least v : Int) : Prop := v < least ∨ 1114111 < v ∨ (55296 ≤ v ∧ v < 57344)
set_option maxHeartbeats 4000000 in
theorem lead_fail {n b0 m : Nat} {least c0 : Int} {B : Nat → Nat} (h : Lead b0 m least c0) {t : Nat} (h1 : 1 ≤ t) (ht : t ≤ m) (hB : ∀ t, B t < 256) (hn : ¬ Cont n B t) : decodeN n b0 (B 1) (B 2) (B 3) = (65533, 1) := by
  have b1 := hB 1
  have b2 := hB 2
  have b3 := hB 3
  unfold Cont at hn
  unfold decodeN
  rcases h with h | h | h | h
  · omega
  · have : t = 1 := by omega
    subst this
    rw [if_neg (by omega), if_neg (by omega), if_neg (by omega), if_neg (by omega)]
  · rcases (show t = 1 ∨ t = 2 by omega) with rfl | rfl
    all_goals rw [if_neg (by omega), if_neg (by omega), if_neg (by omega), if_neg (by omega)]
  · rcases (show t = 1 ∨ t = 2 ∨ t = 3 by omega) with rfl | rfl | rfl
    all_goals rw [if_neg (by omega), if_neg (by omega), if_neg (by omega), if_neg (by omega)]
set_option maxHeartbeats 4000000 in
theorem lead_bad {n b0 m : Nat} {least c0 : Int} {B : Nat → Nat} (h : Lead b0 m least c0) (hm : 1 ≤ m) (hc : ∀ t, 1 ≤ t → t ≤ m → Cont n B t) (hb : Bad least (acc B c0 m)) : decodeN n b0 (B 1) (B 2) (B 3) = (65533, 1) := by
  unfold Cont at hc
  unfold Bad at hb
  unfold decodeN
  rcases h with h | ⟨rfl, h⟩ | ⟨rfl, h⟩ | ⟨rfl, h⟩
  · omega
  · have c1 := hc 1 (by omega) (by omega)
    simp only [acc, Nat.zero_add] at hb
    rw [if_neg (by omega), if_pos (by omega), if_neg (by omega)]
  · have c1 := hc 1 (by omega) (by omega)
    have c2 := hc 2 (by omega) (by omega)
    simp only [acc, Nat.zero_add, Nat.reduceAdd] at hb
    rw [if_neg (by omega), if_neg (by omega), if_pos (by omega), if_neg (by omega)]
  · have c1 := hc 1 (by omega) (by omega)
    have c2 := hc 2 (by omega) (by omega)
    have c3 := hc 3 (by omega) (by omega)
    simp only [acc, Nat.zero_add, Nat.reduceAdd] at hb
    rw [if_neg (by omega), if_neg (by omega), if_neg (by omega), if_pos (by omega), if_neg (by omega)]
set_option maxHeartbeats 4000000 in
theorem lead_ok {n b0 m : Nat} {least c0 : Int} {B : Nat → Nat} (h : Lead b0 m least c0) (hc : ∀ t, 1 ≤ t → t ≤ m → Cont n B t) (hb : ¬ Bad least (acc B c0 m)) : (decodeN n b0 (B 1) (B 2) (B 3)).2 = m + 1 ∧ ¬ ((decodeN n b0 (B 1) (B 2) (B 3)).1 = 65533 ∧ (decodeN n b0 (B 1) (B 2) (B 3)).2 = 1) := by
  unfold Cont at hc
  unfold Bad at hb
  unfold decodeN
  rcases h with ⟨rfl, h⟩ | ⟨rfl, h⟩ | ⟨rfl, h⟩ | ⟨rfl, h⟩
  · rw [if_pos (by omega)]
    exact ⟨rfl, by simp; omega⟩
  · have c1 := hc 1 (by omega) (by omega)
    simp only [acc, Nat.zero_add] at hb
    rw [if_neg (by omega), if_pos (by omega), if_pos (by omega)]
    exact ⟨rfl, by simp⟩
  · have c1 := hc 1 (by omega) (by omega)
    have c2 := hc 2 (by omega) (by omega)
    simp only [acc, Nat.zero_add, Nat.reduceAdd] at hb
    rw [if_neg (by omega), if_neg (by omega), if_pos (by omega), if_pos (by omega)]
    exact ⟨rfl, by simp⟩
  · have c1 := hc 1 (by omega) (by omega)
    have c2 := hc 2 (by omega) (by omega)
    have c3 := hc 3 (by omega) (by omega)
    simp only [acc, Nat.zero_add, Nat.reduceAdd] at hb
    rw [if_neg (by omega), if_neg (by omega), if_neg (by omega), if_pos (by omega), if_pos (by omega)]
    exact ⟨rfl, by simp⟩
theorem lead_none {n b0 b1 b2 b3 : Nat} (h : (128 ≤ b0 ∧ b0 < 194) ∨ (245 ≤ b0 ∧ b0 < 256)) : decodeN n b0 b1 b2 b3 = (65533, 1) := decodeN_bad n b0 b1 b2 b3 h
/-- The bytes from a place on. -/
def byt (l : List UInt8) (p t : Nat) : Nat := (l.getD (p + t) 0).toNat
theorem byt_lt (l : List UInt8) (p t : Nat) : byt l p t < 256 := UInt8.toNat_lt _
theorem valid_at_p {l : List UInt8} {p : Nat} (hp : p < l.length) : validD (l.drop p) = if (decodeN (l.length - p) (byt l p 0) (byt l p 1) (byt l p 2) (byt l p 3)).1 = 65533 ∧ (decodeN (l.length - p) (byt l p 0) (byt l p 1) (byt l p 2) (byt l p 3)).2 = 1 then false else validD (l.drop (p + (decodeN (l.length - p) (byt l p 0) (byt l p 1) (byt l p 2) (byt l p 3)).2)) := by
  have hne : l.drop p ≠ [] := by rw [Ne, List.drop_eq_nil_iff]; omega
  have hg : ∀ t, (l.drop p).getD t 0 = l.getD (p + t) 0 := fun t => by simp [List.getD_eq_getElem?_getD, List.getElem?_drop]
  rw [validD_step _ hne, decodeL_N, List.length_drop, hg, hg, hg, hg, List.drop_drop]
  rfl
theorem u_fail {l : List UInt8} {p m t : Nat} {least c0 : Int} (hp : p < l.length) (h : Lead (byt l p 0) m least c0) (h1 : 1 ≤ t) (ht : t ≤ m) (hn : ¬ Cont (l.length - p) (byt l p) t) : validD (l.drop p) = false := by
  rw [valid_at_p hp, lead_fail h h1 ht (byt_lt l p) hn]; simp
theorem u_bad {l : List UInt8} {p m : Nat} {least c0 : Int} (hp : p < l.length) (h : Lead (byt l p 0) m least c0) (hm : 1 ≤ m) (hc : ∀ t, 1 ≤ t → t ≤ m → Cont (l.length - p) (byt l p) t) (hb : Bad least (acc (byt l p) c0 m)) : validD (l.drop p) = false := by
  rw [valid_at_p hp, lead_bad h hm hc hb]; simp
theorem u_ok {l : List UInt8} {p m : Nat} {least c0 : Int} (hp : p < l.length) (h : Lead (byt l p 0) m least c0) (hc : ∀ t, 1 ≤ t → t ≤ m → Cont (l.length - p) (byt l p) t) (hb : ¬ Bad least (acc (byt l p) c0 m)) : validD (l.drop p) = validD (l.drop (p + m + 1)) := by
  obtain ⟨h1, h2⟩ := lead_ok h hc hb
  rw [valid_at_p hp, if_neg h2, h1, Nat.add_assoc]
theorem u_none {l : List UInt8} {p : Nat} (hp : p < l.length) (h : (128 ≤ byt l p 0 ∧ byt l p 0 < 194) ∨ 245 ≤ byt l p 0) : validD (l.drop p) = false := by
  have := byt_lt l p 0
  rw [valid_at_p hp, lead_none (by omega)]; simp
theorem acc_bd {n : Nat} {B : Nat → Nat} {c0 : Int} (h0 : 0 ≤ c0) (h1 : c0 ≤ 255) : ∀ {j : Nat}, j ≤ 3 → (∀ t, 1 ≤ t → t ≤ j → Cont n B t) → 0 ≤ acc B c0 j ∧ acc B c0 j ≤ 67108863 := by
  intro j hj hc
  unfold Cont at hc
  rcases (show j = 0 ∨ j = 1 ∨ j = 2 ∨ j = 3 by omega) with rfl | rfl | rfl | rfl
  · simp only [acc]; omega
  · have c1 := hc 1 (by omega) (by omega)
    simp only [acc, Nat.zero_add]; omega
  · have c1 := hc 1 (by omega) (by omega)
    have c2 := hc 2 (by omega) (by omega)
    simp only [acc, Nat.zero_add, Nat.reduceAdd]; omega
  · have c1 := hc 1 (by omega) (by omega)
    have c2 := hc 2 (by omega) (by omega)
    have c3 := hc 3 (by omega) (by omega)
    simp only [acc, Nat.zero_add, Nat.reduceAdd]; omega
end Go.Proofs.YtbkcebbddhaifaaDoor
namespace Go.Proofs.YtbkcebbddhaifaaDoor
open Go.RowKit Go.Lib

theorem byt_get {l : List UInt8} {p t : Nat} (h : p + t < (ByteArray.mk l.toArray).size) : ((ByteArray.mk l.toArray)[p + t]'h).toNat = byt l p t := by
  have h' : p + t < l.length := by simpa [ByteArray.size] using h
  unfold byt
  rw [List.getD_eq_getElem?_getD, List.getElem?_eq_getElem h']
  rfl
end Go.Proofs.YtbkcebbddhaifaaDoor
namespace Go.Proofs.YtbkcebbddhaifaaDoor
open Go.RowKit Go.Lib

end Go.Proofs.YtbkcebbddhaifaaDoor
