/- The document's order of numbers. -/
import Derived.Test.YtokfmeainfkjfaaDoorWo
namespace Go.Proofs.YtokfmeainfkjfaaDoor
open Go.RowKit

def key (b : Nat) : Int := if isN b then 9223372036854775807 else if sgb b then -1 - magZ b else magZ b
theorem key_bd (b : Nat) : -9223372036854775808 ≤ key b ∧ key b ≤ 9223372036854775807 := by
  have := magZ_bd b
  unfold key; split
  · omega
  · split <;> omega
theorem key_plc (b : Nat) (h : isN b = false) : key b = plc b := by unfold key plc; rw [h]; rfl
theorem plc_top (b : Nat) (h : isN b = false) : plc b ≤ 9218868437227405312 ∧ -9218868437227405313 ≤ plc b := by
  have h1 := isN_not h
  unfold plc; rw [h]
  have h2 : magZ b ≤ 9218868437227405312 := by unfold magZ; omega
  have h3 := magZ_bd b
  cases sgb b
  · show magZ b ≤ _ ∧ _; omega
  · show -1 - magZ b ≤ _ ∧ _; omega
theorem ord_key (a b : Nat) : ord (plc a) (plc b) = ord (key a) (key b) := by
  cases ha : isN a <;> cases hb : isN b
  · rw [key_plc a ha, key_plc b hb]
  · have t := plc_top a ha
    have e1 : plc b = 9221120237041090560 := by unfold plc; rw [hb]; rfl
    have e2 : key b = 9223372036854775807 := by unfold key; rw [hb]; rfl
    rw [key_plc a ha, e1, e2]; unfold ord; rw [if_pos (by omega), if_pos (by omega)]
  · have t := plc_top b hb
    have e1 : plc a = 9221120237041090560 := by unfold plc; rw [ha]; rfl
    have e2 : key a = 9223372036854775807 := by unfold key; rw [ha]; rfl
    rw [key_plc b hb, e1, e2]; unfold ord; rw [if_neg (by omega), if_pos (by omega), if_neg (by omega), if_pos (by omega)]
  · have e1 : plc a = 9221120237041090560 := by unfold plc; rw [ha]; rfl
    have e2 : key a = 9223372036854775807 := by unfold key; rw [ha]; rfl
    have e3 : plc b = 9221120237041090560 := by unfold plc; rw [hb]; rfl
    have e4 : key b = 9223372036854775807 := by unfold key; rw [hb]; rfl
    rw [e1, e2, e3, e4]; unfold ord; rw [if_neg (by omega), if_neg (by omega), if_neg (by omega), if_neg (by omega)]

set_option maxHeartbeats 400000 in
theorem rkey_core (a z : Int) (n s : Bool) (hz0 : 0 ≤ z) (hz1 : z ≤ 9223372036854775807) (K1 : Hid (bits .andNot .u64 a 9223372036854775808 = z)) (K2 : Hid ((bits .and .u64 a 9223372036854775808 != 0) = s))
    (N0 : Hid (∀ w, Calls Tryd.prog 38 #[.int .u64 a] w fun e w' => e = .returned (.bool n) ∧ w' = w)) (w : World) :
    Calls Tryd.prog 46 #[.int .u64 a] w fun e w' => e = .returned (.int .i64 (if n then 9223372036854775807 else if s then -1 - z else z)) ∧ w' = w := by
  cases n
  · cases s
    all_goals
      go_enter Tryd.func46, Tryd.ntmps46
      go_wp2_with (first | (go_at_call 38; refine (N0.out _).mono ?_; rintro e w' ⟨rfl, rfl⟩) | (simp only [K1.out]) | (simp only [K2.out]))
      all_goals go_ret
      all_goals refine ⟨ret_int ?_, rfl⟩
      all_goals first | rfl | omega | exact absurd (K2.out.symm.trans ‹(bits BinOp.and IntKind.u64 a 9223372036854775808 != 0) = true›) (by decide) | exact absurd (K2.out.symm.trans ‹(bits BinOp.and IntKind.u64 a 9223372036854775808 != 0) = false›) (by decide)
  · go_enter Tryd.func46, Tryd.ntmps46
    go_wp2_with (first | (go_at_call 38; refine (N0.out _).mono ?_; rintro e w' ⟨rfl, rfl⟩) | (simp only [K1.out]) | (simp only [K2.out]))
    go_ret
    exact ⟨rfl, rfl⟩
theorem rkey_any (a : Int) (h0 : Hid (0 ≤ a)) (h : Hid (a < 18446744073709551616)) (w : World) :
    Calls Tryd.prog 46 #[.int .u64 a] w fun e w' => e = .returned (.int .i64 (key a.toNat)) ∧ w' = w := by
  have bd := magZ_bd a.toNat
  exact rkey_core a (magZ a.toNat) (isN a.toNat) (sgb a.toNat) bd.1 (by omega) (andNot63I a h0.out h.out) (and63_neI a h0.out h.out) (isnan_any a h0 h) w

set_option maxHeartbeats 400000 in
theorem rat_any (k : Int) (h0 : -9223372036854775808 ≤ k) (h1 : k ≤ 9223372036854775807) (w : World) :
    Calls Tryd.prog 48 #[.int .i64 k] w fun e w' => e = .returned (.int .u64 (wordAt k : Nat)) ∧ w' = w := by
  by_cases h : k < 0
  · obtain ⟨n, hn⟩ : ∃ n : Nat, k = -1 - (n : Int) := ⟨(-1 - k).toNat, by omega⟩
    subst hn
    have hn' : Hid (n < 9223372036854775808) := by unfold Hid; omega
    have e1 : Hid (wordAt (-1 - (n : Int)) = 9223372036854775808 + n) := by
      show wordAt (-1 - (n : Int)) = 9223372036854775808 + n
      unfold wordAt; rw [if_pos h]; omega
    go_enter Tryd.func48, Tryd.ntmps48
    go_wp2
    go_ret
    refine ⟨ret_int ?_, rfl⟩
    rw [show -(-1 - (n : Int) + 1) = (n : Int) by omega, or63 n hn'.out, e1.out]
  · go_enter Tryd.func48, Tryd.ntmps48
    go_wp2
    go_ret
    refine ⟨ret_int ?_, rfl⟩
    unfold wordAt; rw [if_neg (by omega)]; omega

set_option maxHeartbeats 400000 in
theorem rorder_core (a b p q : Int) (H1 : Hid (∀ w, Calls Tryd.prog 46 #[.int .u64 a] w fun e w' => e = .returned (.int .i64 p) ∧ w' = w))
    (H2 : Hid (∀ w, Calls Tryd.prog 46 #[.int .u64 b] w fun e w' => e = .returned (.int .i64 q) ∧ w' = w)) (w : World) :
    Calls Tryd.prog 23 #[.int .u64 a, .int .u64 b] w fun e w' => e = .returned (.int .i64 (ord p q)) ∧ w' = w := by
  go_enter Tryd.func23, Tryd.ntmps23
  go_wp2_with fail
  refine (H1.out _).mono ?_
  rintro e w' ⟨rfl, rfl⟩
  go_wp2_with fail
  refine (H2.out _).mono ?_
  rintro e w' ⟨rfl, rfl⟩
  go_wp2
  all_goals go_ret
  all_goals refine ⟨ret_int ?_, rfl⟩
  · unfold ord; rw [if_pos ‹_›]
  · unfold ord; rw [if_neg (by omega), if_pos ‹_›]
  · unfold ord; rw [if_neg (by omega), if_neg (by omega)]
theorem rorder_any (a b : Int) (h0 : Hid (0 ≤ a)) (h : Hid (a < 18446744073709551616)) (g0 : Hid (0 ≤ b)) (g : Hid (b < 18446744073709551616)) (w : World) :
    Calls Tryd.prog 23 #[.int .u64 a, .int .u64 b] w fun e w' => e = .returned (.int .i64 (ord (plc a.toNat) (plc b.toNat))) ∧ w' = w := by
  rw [ord_key]
  exact rorder_core a b _ _ (rkey_any a h0 h) (rkey_any b g0 g) w
set_option maxHeartbeats 400000 in
theorem rsame_core (a b p : Int) (H1 : Hid (∀ w, Calls Tryd.prog 23 #[.int .u64 a, .int .u64 b] w fun e w' => e = .returned (.int .i64 p) ∧ w' = w)) (w : World) :
    Calls Tryd.prog 25 #[.int .u64 a, .int .u64 b] w fun e w' => e = .returned (.bool (p == 0)) ∧ w' = w := by
  go_enter Tryd.func25, Tryd.ntmps25
  go_wp2_with (go_at_call 23; refine (H1.out _).mono ?_; rintro e w' ⟨rfl, rfl⟩)
  go_ret
  exact ⟨rfl, rfl⟩

set_option maxHeartbeats 400000 in
theorem rnext_edge (a o : Int) (n : Bool) (hn : (n || a == 9218868437227405312) = true) (N0 : Hid (∀ w, Calls Tryd.prog 38 #[.int .u64 a] w fun e w' => e = .returned (.bool n) ∧ w' = w))
    (O1 : Hid (∀ w, Calls Tryd.prog 12 #[.int .u64 a] w fun e w' => e = .returned (.int .u64 o) ∧ w' = w)) (w : World) :
    Calls Tryd.prog 27 #[.int .u64 a] w fun e w' => e = .returned (.int .u64 o) ∧ w' = w := by
  cases n
  all_goals
    go_enter Tryd.func27, Tryd.ntmps27
    go_wp2_with (first | (go_at_call 38; refine (N0.out _).mono ?_; rintro e w' ⟨rfl, rfl⟩) | (go_at_call 12; refine (O1.out _).mono ?_; rintro e w' ⟨rfl, rfl⟩))
    go_ret
    exact ⟨rfl, rfl⟩
set_option maxHeartbeats 400000 in
theorem rprev_edge (a o : Int) (n : Bool) (hn : (n || a == 18442240474082181120) = true) (N0 : Hid (∀ w, Calls Tryd.prog 38 #[.int .u64 a] w fun e w' => e = .returned (.bool n) ∧ w' = w))
    (O1 : Hid (∀ w, Calls Tryd.prog 12 #[.int .u64 a] w fun e w' => e = .returned (.int .u64 o) ∧ w' = w)) (w : World) :
    Calls Tryd.prog 29 #[.int .u64 a] w fun e w' => e = .returned (.int .u64 o) ∧ w' = w := by
  cases n
  all_goals
    go_enter Tryd.func29, Tryd.ntmps29
    go_wp2_with (first | (go_at_call 38; refine (N0.out _).mono ?_; rintro e w' ⟨rfl, rfl⟩) | (go_at_call 12; refine (O1.out _).mono ?_; rintro e w' ⟨rfl, rfl⟩))
    go_ret
    exact ⟨rfl, rfl⟩
set_option maxHeartbeats 400000 in
theorem rnext_in (a p o : Int) (hn : (a == 9218868437227405312) = false) (hp0 : -9223372036854775808 ≤ p) (hp1 : p ≤ 9223372036854775806) (N0 : Hid (∀ w, Calls Tryd.prog 38 #[.int .u64 a] w fun e w' => e = .returned (.bool false) ∧ w' = w))
    (K0 : Hid (∀ w, Calls Tryd.prog 46 #[.int .u64 a] w fun e w' => e = .returned (.int .i64 p) ∧ w' = w))
    (T0 : Hid (∀ w, Calls Tryd.prog 48 #[.int .i64 (p + 1)] w fun e w' => e = .returned (.int .u64 o) ∧ w' = w)) (w : World) :
    Calls Tryd.prog 27 #[.int .u64 a] w fun e w' => e = .returned (.int .u64 o) ∧ w' = w := by
  go_enter Tryd.func27, Tryd.ntmps27
  go_wp2_with (first | (go_at_call 38; refine (N0.out _).mono ?_; rintro e w' ⟨rfl, rfl⟩) | (go_at_call 46; refine (K0.out _).mono ?_; rintro e w' ⟨rfl, rfl⟩) | (go_at_call 48; refine (T0.out _).mono ?_; rintro e w' ⟨rfl, rfl⟩))
  go_ret
  exact ⟨rfl, rfl⟩
set_option maxHeartbeats 400000 in
theorem rprev_in (a p o : Int) (hn : (a == 18442240474082181120) = false) (hp0 : -9223372036854775807 ≤ p) (hp1 : p ≤ 9223372036854775807) (N0 : Hid (∀ w, Calls Tryd.prog 38 #[.int .u64 a] w fun e w' => e = .returned (.bool false) ∧ w' = w))
    (K0 : Hid (∀ w, Calls Tryd.prog 46 #[.int .u64 a] w fun e w' => e = .returned (.int .i64 p) ∧ w' = w))
    (T0 : Hid (∀ w, Calls Tryd.prog 48 #[.int .i64 (p - 1)] w fun e w' => e = .returned (.int .u64 o) ∧ w' = w)) (w : World) :
    Calls Tryd.prog 29 #[.int .u64 a] w fun e w' => e = .returned (.int .u64 o) ∧ w' = w := by
  go_enter Tryd.func29, Tryd.ntmps29
  go_wp2_with (first | (go_at_call 38; refine (N0.out _).mono ?_; rintro e w' ⟨rfl, rfl⟩) | (go_at_call 46; refine (K0.out _).mono ?_; rintro e w' ⟨rfl, rfl⟩) | (go_at_call 48; refine (T0.out _).mono ?_; rintro e w' ⟨rfl, rfl⟩))
  go_ret
  exact ⟨rfl, rfl⟩

theorem plc_edges (a : Int) (h0 : 0 ≤ a) (h1 : a < 18446744073709551616) (hn : isN a.toNat = false) :
    (plc a.toNat < 9218868437227405312 ↔ a ≠ 9218868437227405312) ∧ (-9218868437227405313 < plc a.toNat ↔ a ≠ 18442240474082181120) := by
  have hm := mag_of a.toNat (by omega)
  have ht := isN_not hn
  unfold plc magZ
  rw [hn]
  cases hs : sgb a.toNat
  · rw [hs] at hm
    simp only [Bool.false_eq_true, if_false] at hm ⊢
    have := of_decide_eq_false hs
    omega
  · rw [hs] at hm
    simp only [Bool.false_eq_true, if_false, if_true] at hm ⊢
    omega

theorem rnext_any (a : Int) (h0 : Hid (0 ≤ a)) (h : Hid (a < 18446744073709551616)) (w : World) :
    Calls Tryd.prog 27 #[.int .u64 a] w fun e w' => e = .returned (.int .u64 (nxt a.toNat : Nat)) ∧ w' = w := by
  by_cases hn : isN a.toNat = true
  · have e : nxt a.toNat = one a.toNat := by
      unfold nxt plc; rw [hn, if_pos rfl, if_neg (by decide)]
    rw [e]
    exact rnext_edge a _ _ (by rw [hn]; rfl) (isnan_any a h0 h) (rone_any a h0 h) w
  · have hn' : isN a.toNat = false := by simpa using hn
    have ed := (plc_edges a h0.out h.out hn').1
    have N0 := isnan_any a h0 h
    rw [hn'] at N0
    by_cases he : a = 9218868437227405312
    · have e : nxt a.toNat = one a.toNat := by unfold nxt; rw [if_neg (fun c => (ed.1 c) he)]
      rw [e]
      exact rnext_edge a _ _ (by rw [he]; rfl) N0 (rone_any a h0 h) w
    · have hp := ed.2 he
      have e : nxt a.toNat = wordAt (key a.toNat + 1) := by unfold nxt; rw [if_pos hp, key_plc _ hn']
      rw [e]
      have kb := key_bd a.toNat
      have kp := key_plc _ hn'
      exact rnext_in a _ _ (by simpa using he) kb.1 (by omega) N0 (rkey_any a h0 h) (rat_any _ (by omega) (by omega)) w
theorem rprev_any (a : Int) (h0 : Hid (0 ≤ a)) (h : Hid (a < 18446744073709551616)) (w : World) :
    Calls Tryd.prog 29 #[.int .u64 a] w fun e w' => e = .returned (.int .u64 (prv a.toNat : Nat)) ∧ w' = w := by
  by_cases hn : isN a.toNat = true
  · have e : prv a.toNat = one a.toNat := by
      unfold prv plc; rw [hn, if_pos rfl, if_neg (by decide)]
    rw [e]
    exact rprev_edge a _ _ (by rw [hn]; rfl) (isnan_any a h0 h) (rone_any a h0 h) w
  · have hn' : isN a.toNat = false := by simpa using hn
    have ed := (plc_edges a h0.out h.out hn').2
    have tp := plc_top _ hn'
    have N0 := isnan_any a h0 h
    rw [hn'] at N0
    by_cases he : a = 18442240474082181120
    · have e : prv a.toNat = one a.toNat := by unfold prv; rw [if_neg (fun c => (ed.1 c.2) he)]
      rw [e]
      exact rprev_edge a _ _ (by rw [he]; rfl) N0 (rone_any a h0 h) w
    · have hp := ed.2 he
      have e : prv a.toNat = wordAt (key a.toNat - 1) := by unfold prv; rw [if_pos ⟨tp.1, hp⟩, key_plc _ hn']
      rw [e]
      have kb := key_bd a.toNat
      have kp := key_plc _ hn'
      exact rprev_in a _ _ (by simpa using he) (by omega) kb.2 N0 (rkey_any a h0 h) (rat_any _ (by omega) (by omega)) w
end Go.Proofs.YtokfmeainfkjfaaDoor
