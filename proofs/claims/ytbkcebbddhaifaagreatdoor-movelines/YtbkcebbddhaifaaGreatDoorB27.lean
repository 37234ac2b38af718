/- The document's one and Known (quadrilleref12): a name in a row of names. The document's Known (quadrilleref12). -/
import Derived.Test.YtbkcebbddhaifaaGreatDoorB13
namespace Go.Proofs.YtbkcebbddhaifaaGreatDoor
open Go.RowKit

/-- The words of a row, blanks between; cur: the word that has begun. -/
def wds (cur : List UInt8) : List UInt8 → List (List UInt8)
  | [] => [cur]
  | c :: cs => if c = 32 then cur :: wds [] cs else wds (cur ++ [c]) cs
def oneB (s : ByteArray) (l : List UInt8) : Bool := decide (s.toList ≠ []) && (wds [] l).any (fun x => x == s.toList)
/-- How it stands at place i, with the word that began at f. -/
def oneAt (s : ByteArray) (l : List UInt8) (f i : Nat) : Bool := decide (s.toList ≠ []) && (wds ((l.take i).drop f) (l.drop i)).any (fun x => x == s.toList)
theorem oneAt_end (s : ByteArray) (l : List UInt8) (f : Nat) : oneAt s l f l.length = (decide (s.toList ≠ []) && ((l.take l.length).drop f == s.toList)) := by
  unfold oneAt
  rw [List.drop_length, wds]
  simp
theorem oneAt_blank {s : ByteArray} {l : List UInt8} {f i : Nat} (h : i < l.length) (hb : l[i] = 32) : oneAt s l f i = (decide (s.toList ≠ []) && ((l.take i).drop f == s.toList) || oneAt s l (i + 1) (i + 1)) := by
  unfold oneAt
  rw [List.drop_eq_getElem_cons h, wds, if_pos hb]
  have : (l.take (i + 1)).drop (i + 1) = [] := by rw [List.drop_eq_nil_iff, List.length_take]; omega
  rw [this]
  simp only [List.any_cons]
  cases decide (s.toList ≠ []) <;> simp
theorem oneAt_more {s : ByteArray} {l : List UInt8} {f i : Nat} (h : i < l.length) (hf : f ≤ i) (hb : l[i] ≠ 32) : oneAt s l f i = oneAt s l f (i + 1) := by
  unfold oneAt
  rw [List.drop_eq_getElem_cons h, wds, if_neg hb]
  have : (l.take (i + 1)).drop f = (l.take i).drop f ++ [l[i]] := by
    rw [List.take_add_one, List.getElem?_eq_getElem h, List.drop_append_of_le_length (by rw [List.length_take]; omega)]
    rfl
  rw [this]
set_option maxRecDepth 20000 in
set_option maxHeartbeats 4000000 in
theorem one_at (s : ByteArray) (l : List UInt8) (hl : l.length ≤ 1048576) (w : World) :
    Calls Tryz.prog 179 #[.string s, .string ⟨l.toArray⟩] w fun e w' => e = .returned (.bool (oneB s l)) ∧ w' = w := by
  have h0 : oneB s l = oneAt s l 0 0 := by unfold oneB oneAt; simp
  rw [h0]
  obtain ⟨ANS, hA⟩ : ∃ A, oneAt s l 0 0 = A := ⟨_, rfl⟩
  rw [hA]
  have HA : Hid (oneAt s l 0 0 = ANS) := hA
  have hsz : (ByteArray.mk l.toArray).size = l.length := by simp [ByteArray.size]
  obtain ⟨n, hn⟩ : ∃ n, l.length = n := ⟨_, rfl⟩
  have HN : Hid (l.length = n) := hn
  have HL : Hid (n ≤ 1048576) := by show _ ≤ _; omega
  have HEX : Hid (∀ f i : Nat, (ByteArray.mk l.toArray).extract f i = ⟨((l.take i).drop f).toArray⟩) := fun f i => by
    show _ = _
    rw [ByteArray.extract_mk]
    congr 1
    apply Array.ext'
    simp [List.drop_take]
  rw [hn] at hsz
  clear hA h0 hl hn
  go_enter Tryz.func179, Tryz.ntmps179
  go_wp2_with fail
  go_loopw [5, 6] (fun f i wr => wr = w ∧ ∃ a b : Nat, f = .int .i64 a ∧ i = .int .i64 b ∧ ((a ≤ b ∧ b ≤ n ∧ oneAt s l a b = ANS) ∨ (b = n + 1 ∧ ANS = false))) (fun _ i _ => n + 2 - (intOf i).toNat)
  case atStart => exact ⟨rfl, 0, 0, rfl, rfl, .inl ⟨Nat.le_refl _, Nat.zero_le _, HA.out⟩⟩
  case round =>
    obtain ⟨rfl, a, b, rfl, rfl, hab⟩ := hrel
    rcases hab with ⟨h1, h2, h3⟩ | ⟨rfl, h3⟩
    · have j1 : (b : Int) ≤ (n : Int) := by omega
      have jb : (b : Int) + 1 ≤ 9223372036854775807 := by have := HL.out; omega
      have hx := HEX.out a b
      have ja : (a : Int) ≤ (b : Int) := by omega
      have tl : (ByteArray.mk ((l.take b).drop a).toArray).toList = (l.take b).drop a := ByteArray.toList_mk _
      by_cases hbn : b = n
      · subst hbn
        have HE : Hid (ANS = (decide (s.toList ≠ []) && ((l.take b).drop a == s.toList))) := by
          show _ = _
          rw [← h3, ← HN.out, oneAt_end]
        clear h3 j1 h1 h2 HA
        generalize (l.take b).drop a = X at *
        cases hq : X == s.toList with
        | true =>
          cases hs : s.toList == ([] : List UInt8) with
          | true =>
            have HE2 : Hid (ANS = false) := by show _ = _; rw [HE.out]; simp at hs; simp [hs]
            clear HE
            go_wp2_with fail
            go_roundw
            case rel => exact ⟨trivial, b + 1, b + 1, by go_num, by go_num, .inr ⟨rfl, HE2.out⟩⟩
            case measure => simp only [intOf]; omega
          | false =>
            have HE2 : Hid (ANS = true) := by show _ = _; rw [HE.out, hq]; simp at hs; simp [hs]
            clear HE
            go_wp21
            go_ret
            exact ⟨rBool HE2.out.symm, rfl⟩
        | false =>
          have HE2 : Hid (ANS = false) := by show _ = _; rw [HE.out, hq]; simp
          clear HE
          go_wp2_with fail
          go_roundw
          case rel => exact ⟨trivial, b + 1, b + 1, by go_num, by go_num, .inr ⟨rfl, HE2.out⟩⟩
          case measure => simp only [intOf]; omega
      · have hlt : b < n := by omega
        have hll : b < l.length := by rw [HN.out]; exact hlt
        have hbsz : b < (ByteArray.mk l.toArray).size := by rw [hsz]; exact hlt
        have hgt : (ByteArray.mk l.toArray)[b]'hbsz = l[b] := rfl
        have jbn : ((b : Int) == (n : Int)) = false := by simp; omega
        have jb2 : (b : Int) < (n : Int) := by omega
        have jb0 : (0 : Int) ≤ (b : Int) := by omega
        by_cases h32 : l[b] = 32
        · have HE : Hid (ANS = (decide (s.toList ≠ []) && ((l.take b).drop a == s.toList) || oneAt s l (b + 1) (b + 1))) := by
            show _ = _
            rw [← h3, oneAt_blank hll h32]
          have h32n : (l[b]).toNat = 32 := by rw [h32]; rfl
          clear h3 h1 h2 HA h32
          generalize l[b] = ch at *
          have h32j : ((ch.toNat : Nat) : Int) = 32 := by omega
          clear h32n
          generalize (l.take b).drop a = X at *
          generalize hO : oneAt s l (b + 1) (b + 1) = O at *
          cases hq : X == s.toList with
          | true =>
            cases hs : s.toList == ([] : List UInt8) with
            | true =>
              have HE2 : Hid (O = ANS) := by show _ = _; rw [HE.out]; simp at hs; simp [hs]
              have HO : Hid (oneAt s l (b + 1) (b + 1) = O) := hO
              clear HE hO
              go_wp2_with fail
              go_roundw
              case rel => exact ⟨trivial, b + 1, b + 1, by go_num, by go_num, .inl ⟨Nat.le_refl _, by omega, HO.out.trans HE2.out⟩⟩
              case measure => simp only [intOf]; omega
            | false =>
              have HE2 : Hid (ANS = true) := by show _ = _; rw [HE.out, hq]; simp at hs; simp [hs]
              clear HE hO
              go_wp21
              go_ret
              exact ⟨rBool HE2.out.symm, rfl⟩
          | false =>
            have HE2 : Hid (O = ANS) := by show _ = _; rw [HE.out, hq]; simp
            have HO : Hid (oneAt s l (b + 1) (b + 1) = O) := hO
            clear HE hO
            go_wp2_with fail
            go_roundw
            case rel => exact ⟨trivial, b + 1, b + 1, by go_num, by go_num, .inl ⟨Nat.le_refl _, by omega, HO.out.trans HE2.out⟩⟩
            case measure => simp only [intOf]; omega
        · have HE : Hid (oneAt s l a (b + 1) = ANS) := by show _ = _; rw [← h3, oneAt_more hll h1 h32]
          have h32n : ¬ (l[b]).toNat = 32 := fun e => h32 (by rw [← UInt8.toNat_inj]; exact e)
          generalize l[b] = ch at *
          have h32i : (((ch.toNat : Nat) : Int) == 32) = false := by simp; omega
          have h32j : ¬ ((ch.toNat : Nat) : Int) = 32 := by omega
          clear h3 HA
          go_wp2_with fail
          go_roundw
          case rel => exact ⟨trivial, a, b + 1, rfl, by go_num, .inl ⟨by omega, by omega, HE.out⟩⟩
          case measure => simp only [intOf]; omega
    · have j1 : ¬ ((n + 1 : Nat) : Int) ≤ (n : Int) := by omega
      have H3 : Hid (ANS = false) := h3
      clear h3
      go_wp2_with fail
      go_ret
      exact ⟨rBool H3.out.symm, rfl⟩
theorem isAny_eq (s : ByteArray) (l : List UInt8) (nm : List ByteArray) (h : wds [] l = nm.map (fun n => n.data.toList)) (hne : ∀ n ∈ nm, n.data.toList ≠ []) : oneB s l = isAny s nm := by
  unfold oneB isAny
  rw [h, List.any_map]
  rw [Bool.eq_iff_iff, Bool.and_eq_true, List.any_eq_true, List.any_eq_true]
  constructor
  · rintro ⟨_, n, hn, e⟩
    refine ⟨n, hn, ?_⟩
    simp only [Function.comp, beq_iff_eq] at e
    rw [beq_iff_eq, Lib.toList_data n, e]
  · rintro ⟨n, hn, e⟩
    rw [beq_iff_eq, Lib.toList_data n] at e
    refine ⟨?_, n, hn, ?_⟩
    · rw [decide_eq_true_eq, e]; exact hne n hn
    · simp only [Function.comp, beq_iff_eq]; exact e.symm
theorem rone_row {s : ByteArray} {l : List UInt8} {nm : List ByteArray} (hl : l.length ≤ 1048576) (h : wds [] l = nm.map (fun n => n.data.toList)) (hne : ∀ n ∈ nm, n.data.toList ≠ []) (w : World) :
    Calls Tryz.prog 179 #[.string s, .string ⟨l.toArray⟩] w fun e w' => e = .returned (.bool (isAny s nm)) ∧ w' = w := by
  rw [← isAny_eq s l nm h hne]
  exact one_at s l hl w
end Go.Proofs.YtbkcebbddhaifaaGreatDoor
namespace Go.Proofs.YtbkcebbddhaifaaGreatDoor
open Go.RowKit

theorem rknown_ret {s : ByteArray} {a b : Int} {c : Bool} (h : known s = (a, b, c)) : Ending.returned (.tuple #[.int .i64 a, .int .i64 b, .bool c]) = .returned (.tuple #[.int .i64 (known s).1, .int .i64 (known s).2.1, .bool (known s).2.2]) := by rw [h]
set_option maxRecDepth 20000 in
set_option maxHeartbeats 4000000 in
theorem rknown_at (s : ByteArray) (w : World) :
    Calls Tryz.prog 162 #[.string s] w fun e w' => e = .returned (.tuple #[.int .i64 (known s).1, .int .i64 (known s).2.1, .bool (known s).2.2]) ∧ w' = w := by
  have H1 : Hid (∀ (l : List UInt8) (nm : List ByteArray), l.length ≤ 1048576 → wds [] l = nm.map (fun n => n.data.toList) → (∀ n ∈ nm, n.data.toList ≠ []) → ∀ w, Calls Tryz.prog 179 #[.string s, .string ⟨l.toArray⟩] w fun e w' => e = .returned (.bool (isAny s nm)) ∧ w' = w) := fun l nm h1 h2 h3 w => rone_row h1 h2 h3 w
  have e0 : (s.toList == [78, 65]) = isAny s nm0 := by unfold isAny nm0; simp
  have e6 : (s.toList == [67, 72, 79, 79, 83, 69]) = isAny s nm6 := by unfold isAny nm6; simp
  have HKn : Hid (known s = (if isAny s nm0 = true then (0, 0, true) else if isAny s nm1 = true then (1, 1, true) else if isAny s nm2 = true then (2, 2, true) else if isAny s nm3 = true then (2, 3, true) else if isAny s nm4 = true then (3, 3, true) else if isAny s nm5 = true then (1, 256, true) else if isAny s nm6 = true then (2, 256, true) else (0, 0, false))) := rfl
  go_enter Tryz.func162, Tryz.ntmps162
  cases h0 : isAny s nm0 with
  | true =>
    rw [h0] at e0
    have HE : Hid (known s = (0, 0, true)) := by show _ = _; rw [HKn.out]; simp [h0]
    go_wp2_with fail
    refine bodyPost_ret (results_three rfl _ _ _) rfl ?_
    exact ⟨rknown_ret HE.out, rfl⟩
  | false =>
  rw [h0] at e0
  go_wp2_with fail
  refine (H1.out _ nm1 ?a1 ?b1 ?c1 _).mono ?d1
  case a1 => decide
  case b1 => rfl
  case c1 => decide
  rintro e w1 ⟨rfl, hw1⟩
  replace hw1 := hw1.symm
  subst hw1
  cases h1 : isAny s nm1 with
  | true =>
    have HE : Hid (known s = (1, 1, true)) := by show _ = _; rw [HKn.out]; simp [h0, h1]
    go_wp2_with fail
    refine bodyPost_ret (results_three rfl _ _ _) rfl ?_
    exact ⟨rknown_ret HE.out, rfl⟩
  | false =>
  go_wp2_with fail
  refine (H1.out _ nm2 ?a2 ?b2 ?c2 _).mono ?d2
  case a2 => decide
  case b2 => rfl
  case c2 => decide
  rintro e w2 ⟨rfl, hw2⟩
  replace hw2 := hw2.symm
  subst hw2
  cases h2 : isAny s nm2 with
  | true =>
    have HE : Hid (known s = (2, 2, true)) := by show _ = _; rw [HKn.out]; simp [h0, h1, h2]
    go_wp2_with fail
    refine bodyPost_ret (results_three rfl _ _ _) rfl ?_
    exact ⟨rknown_ret HE.out, rfl⟩
  | false =>
  go_wp2_with fail
  refine (H1.out _ nm3 ?a3 ?b3 ?c3 _).mono ?d3
  case a3 => decide
  case b3 => rfl
  case c3 => decide
  rintro e w3 ⟨rfl, hw3⟩
  replace hw3 := hw3.symm
  subst hw3
  cases h3 : isAny s nm3 with
  | true =>
    have HE : Hid (known s = (2, 3, true)) := by show _ = _; rw [HKn.out]; simp [h0, h1, h2, h3]
    go_wp2_with fail
    refine bodyPost_ret (results_three rfl _ _ _) rfl ?_
    exact ⟨rknown_ret HE.out, rfl⟩
  | false =>
  go_wp2_with fail
  refine (H1.out _ nm4 ?a4 ?b4 ?c4 _).mono ?d4
  case a4 => decide
  case b4 => rfl
  case c4 => decide
  rintro e w4 ⟨rfl, hw4⟩
  replace hw4 := hw4.symm
  subst hw4
  cases h4 : isAny s nm4 with
  | true =>
    have HE : Hid (known s = (3, 3, true)) := by show _ = _; rw [HKn.out]; simp [h0, h1, h2, h3, h4]
    go_wp2_with fail
    refine bodyPost_ret (results_three rfl _ _ _) rfl ?_
    exact ⟨rknown_ret HE.out, rfl⟩
  | false =>
  go_wp2_with fail
  refine (H1.out _ nm5 ?a5 ?b5 ?c5 _).mono ?d5
  case a5 => decide
  case b5 => rfl
  case c5 => decide
  rintro e w5 ⟨rfl, hw5⟩
  replace hw5 := hw5.symm
  subst hw5
  cases h5 : isAny s nm5 with
  | true =>
    have HE : Hid (known s = (1, 256, true)) := by show _ = _; rw [HKn.out]; simp [h0, h1, h2, h3, h4, h5]
    go_wp2_with fail
    refine bodyPost_ret (results_three rfl _ _ _) rfl ?_
    exact ⟨rknown_ret HE.out, rfl⟩
  | false =>
  cases h6 : isAny s nm6 with
  | true =>
    rw [h6] at e6
    have HE : Hid (known s = (2, 256, true)) := by show _ = _; rw [HKn.out]; simp [h0, h1, h2, h3, h4, h5, h6]
    go_wp2_with fail
    refine bodyPost_ret (results_three rfl _ _ _) rfl ?_
    exact ⟨rknown_ret HE.out, rfl⟩
  | false =>
  rw [h6] at e6
  have HE : Hid (known s = (0, 0, false)) := by show _ = _; rw [HKn.out]; simp [h0, h1, h2, h3, h4, h5, h6]
  go_wp2_with fail
  refine bodyPost_ret (results_three rfl _ _ _) rfl ?_
  exact ⟨rknown_ret HE.out, rfl⟩
end Go.Proofs.YtbkcebbddhaifaaGreatDoor
