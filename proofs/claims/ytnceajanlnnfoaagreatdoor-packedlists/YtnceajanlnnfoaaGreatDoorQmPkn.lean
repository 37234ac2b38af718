/- Packed: the reader's must, take, number, small. Packed: strings.HasPrefix with the mark. Packed: howMany. Packed: the closure that sheet defers: of a frame that panics it takes the panic back and lays (nil, ErrForm); of one that returns it leaves all as it is. Packed: sheet's door: what is left of it where its body panics, and where it returns. -/
import Derived.Test.YtnceajanlnnfoaaGreatDoorQmPkl
import Derived.WalkLawsBesides
import Derived.Laws.IdiomStrings
import Derived.Laws.Bits64
import Derived.Laws.Bits64b
import Derived.Test.YtnceajanlnnfoaaGreatDoorQmXk
import Derived.Recover
namespace Go.Proofs.YtnceajanlnnfoaaGreatDoor
open Go.RowKit Go.Shelf
abbrev ef : List PanicEntry := [{ v := .iface 27 (.int .i64 3), recovered := false }]
abbrev Rr (w : World) (r : Nat) (l : List UInt8) (k : Int) : Prop := Blk w r [.string ⟨l.toArray⟩, .int .i64 k] 114
inductive RdP (r : Nat) (w : World) (k : Int) : Option (Value × List UInt8) → Ending → World → Prop
 | ok {v : Value} {l : List UInt8} {w' : World} (h : Rr w' r l k) (kp : Kp w w' (fun i => i = r)) : RdP r w k (some (v, l)) (.returned v) w'
 | no {w' : World} (kp : Kp w w' (fun i => i = r)) : RdP r w k none (.panicked ef) w'
set_option maxHeartbeats 1000000 in
theorem must_at (r : Value) (t : Bool) (w : World) : Calls Tryz.prog 133 #[r, .bool t] w fun e w' => (if t then e = .returned (.tuple #[]) else e = .panicked ef) ∧ w' = w := by
 go_enter Tryz.func133, Tryz.ntmps133
 cases t
 ·go_wp2
  exact ⟨rfl, rfl, rfl⟩
 ·go_wp2
  go_end0
  exact ⟨rfl, rfl⟩
theorem ba_take (l : List UInt8) (n : Nat) : (ByteArray.mk l.toArray).extract 0 n = ⟨(l.take n).toArray⟩ := by
 have h : ((ByteArray.mk l.toArray).extract 0 n).data = (l.take n).toArray := by
  rw [ByteArray.data_extract]
  simp [List.extract_eq_take_drop]
 exact congrArg ByteArray.mk h
theorem ba_drop (l : List UInt8) (n : Nat) : (ByteArray.mk l.toArray).extract n l.length = ⟨(l.drop n).toArray⟩ := by
 have h : ((ByteArray.mk l.toArray).extract n l.length).data = (l.drop n).toArray := by
  rw [ByteArray.data_extract]
  simp [List.extract_eq_take_drop]
  rw [List.take_of_length_le (by rw [List.length_drop]; omega)]
 exact congrArg ByteArray.mk h
set_option maxHeartbeats 1000000 in
theorem take_at (r : Nat) (l : List UInt8) (k : Int) (n : Nat) (w : World) (h : Rr w r l k) :
  Calls Tryz.prog 103 #[.pointer (some ⟨r, 0, none⟩), .int .i64 n] w fun e w' => RdP r w k (if n ≤ l.length then some (.string ⟨(l.take n).toArray⟩, l.drop n) else none) e w' := by
 have H : Hid (∀ v t w, Calls Tryz.prog 133 #[v, .bool t] w fun e w' => (if t then e = .returned (.tuple #[]) else e = .panicked ef) ∧ w' = w) := fun v t w => must_at v t w
 have l0 : w.cell? ⟨r, 0, none⟩ = some (.string ⟨l.toArray⟩) := h.cell rfl
 have f0 : w.frozen? ⟨r, 0, none⟩ = false := h.froz 0
 have HB : Hid (Rr w r l k) := h
 have hsz : ((ByteArray.mk l.toArray).size : Int) = (l.length : Int) := by show ((l.toArray.size : Nat) : Int) = _; rw [List.size_toArray]
 clear h
 by_cases hq : n ≤ l.length
 ·rw [if_pos hq]
  have hq' : (n : Int) ≤ (l.length : Int) := by omega
  have hd : decide ((n : Int) ≤ (l.length : Int)) = true := decide_eq_true hq'
  go_enter Tryz.func103, Tryz.ntmps103
  go_wp2_with fail
  refine (H.out _ true _).mono ?_
  rintro e w1 ⟨he, hz⟩
  replace hz := hz.symm
  subst hz
  rw [if_pos rfl] at he
  subst he
  have HS : Hid (Rr (w.setCell ⟨r, 0, none⟩ (.string ((ByteArray.mk l.toArray).extract n l.length))) r (l.drop n) k) := by
   have h1 := HB.out.set 0 (.string ((ByteArray.mk l.toArray).extract n l.length))
   rw [ba_drop] at h1 ⊢
   exact h1
  have HKf : Hid (Kp w (w.setCell ⟨r, 0, none⟩ (.string ((ByteArray.mk l.toArray).extract n l.length))) (fun i => i = r)) := (Kp.refl w _).setCell _ _ (.inr rfl)
  go_wp2_with fail
  refine bodyPost_ret (results_tmp rfl _ _ _) rfl ?_
  have e : (Value.string ((ByteArray.mk l.toArray).extract 0 n)) = .string ⟨(l.take n).toArray⟩ := by rw [ba_take]
  have := RdP.ok (r := r) (w := w) (k := k) (v := .string ((ByteArray.mk l.toArray).extract 0 n)) HS.out HKf.out
  rw [e] at this
  simp only [Array.getD_eq_getD_getElem?]
  rw [← e] at this ⊢
  exact this
 ·rw [if_neg hq]
  have hq' : ¬ (n : Int) ≤ (l.length : Int) := by omega
  have hd : decide ((n : Int) ≤ (l.length : Int)) = false := decide_eq_false hq'
  go_enter Tryz.func103, Tryz.ntmps103
  go_wp2_with fail
  refine (H.out _ false _).mono ?_
  rintro e w1 ⟨he, hz⟩
  replace hz := hz.symm
  subst hz
  rw [if_neg (by decide)] at he
  subst he
  go_wp2_with fail
  exact ⟨rfl, RdP.no (Kp.refl _ _)⟩
theorem run_bytes (t : List UInt8) (w : World) : ∃ cap w2, (convert 9 70 (.string ⟨t.toArray⟩)).run Tryz.prog w = .ok (.slice (some ⟨w.heap.size, 0, none⟩) t.length cap) w2 ∧ Kp w w2 Nul ∧ ∀ j b, t[j]? = some b → w2.cell? ⟨w.heap.size, j, none⟩ = some (.int .u8 (UInt8.toNat b)) := by
 have h := run_bytes_of_string (P := Tryz.prog) w 9 70 5 ⟨t.toArray⟩ Tryz.underlying9 Tryz.underlying70 Tryz.underlying5
 have hs : (ByteArray.mk t.toArray).size = t.length := by show t.toArray.size = _; rw [List.size_toArray]
 rw [hs] at h
 refine ⟨_, _, h, ((Kp.refl w Nul).drew).alloc _, fun j b hj => ?_⟩
 have h1 := World.alloc_heap_new w.drew (.cells (bytesRow ⟨t.toArray⟩ (grownCap w t.length 0 5)) 5 ((bytesRow ⟨t.toArray⟩ (grownCap w t.length 0 5)).size, (bytesRow ⟨t.toArray⟩ (grownCap w t.length 0 5)).size + 1))
 have h2 : ∀ X : World, X.heap[w.heap.size]? = some (.cells (bytesRow ⟨t.toArray⟩ (grownCap w t.length 0 5)) 5 ((bytesRow ⟨t.toArray⟩ (grownCap w t.length 0 5)).size, (bytesRow ⟨t.toArray⟩ (grownCap w t.length 0 5)).size + 1)) → X.cell? ⟨w.heap.size, j, none⟩ = (bytesRow ⟨t.toArray⟩ (grownCap w t.length 0 5))[j]? := fun X hX => Lib.cell_of_heap hX j
 rw [h2 _ h1]
 unfold bytesRow
 have hlt : j < t.length := (List.getElem?_eq_some_iff.1 hj).1
 rw [Array.getElem?_append_left (by simpa using hlt)]
 simp [hj]
theorem unle_snoc : ∀ (l : List UInt8) (b : UInt8), unle (l ++ [b]) = unle l + 256 ^ l.length * b.toNat
 | [], b => by rw [List.nil_append, unle, unle, unle]; simp
 | a :: l, b => by
  rw [List.cons_append, unle, unle, unle_snoc l b, List.length_cons, Nat.pow_succ, Nat.mul_add]
  have : 256 ^ l.length * 256 * b.toNat = 256 * (256 ^ l.length * b.toNat) := by rw [Nat.mul_comm (256 ^ l.length) 256, Nat.mul_assoc]
  omega
theorem or_unle (a : List UInt8) (b : UInt8) (i : Nat) (ha : a.length = i) (hi : i < 8) : bits .or .u64 ((unle a : Nat) : Int) (IntKind.u64.wrap (IntKind.u64.wrap (b.toNat : Int) * 2 ^ (8 * i))) = ((unle (a ++ [b]) : Nat) : Int) := by
 have hb := b.toNat_lt
 have hu := unle_lt a
 have e256 : (256 : Nat) ^ i = 2 ^ (8 * i) := by rw [show (256 : Nat) = 2 ^ 8 from rfl, ← Nat.pow_mul]
 rw [ha, e256] at hu
 have hp : (2 : Nat) ^ (8 * i) * 256 ≤ 18446744073709551616 := by
  have h1 : (2 : Nat) ^ (8 * i) * 2 ^ 8 = 2 ^ (8 * i + 8) := (Nat.pow_add 2 _ _).symm
  have h2 : (2 : Nat) ^ (8 * i + 8) ≤ 2 ^ 64 := Nat.pow_le_pow_right (by decide) (by omega)
  omega
 have hm : b.toNat * 2 ^ (8 * i) < 18446744073709551616 := by
  have h1 : b.toNat * 2 ^ (8 * i) < 256 * 2 ^ (8 * i) := Nat.mul_lt_mul_of_pos_right (by omega) (Nat.two_pow_pos _)
  omega
 have hu2 : unle a < 18446744073709551616 := by omega
 have w1 : IntKind.u64.wrap (b.toNat : Int) = ((b.toNat : Nat) : Int) := by rw [IntKind.wrap_u64]; omega
 have w2 : IntKind.u64.wrap (((b.toNat : Nat) : Int) * 2 ^ (8 * i)) = ((b.toNat * 2 ^ (8 * i) : Nat) : Int) := by
  have e : (((b.toNat : Nat) : Int) * 2 ^ (8 * i)) = ((b.toNat * 2 ^ (8 * i) : Nat) : Int) := by
   rw [Int.natCast_mul, Int.natCast_pow]
   rfl
  rw [e, IntKind.wrap_u64]
  omega
 rw [w1, w2, bits_or_u64_nat _ _ hu2 hm, unle_snoc, ha, e256]
 have h3 := Nat.two_pow_add_eq_or_of_lt hu b.toNat
 rw [Nat.or_comm, Nat.mul_comm b.toNat, ← h3]
 congr 1
 omega
set_option maxRecDepth 20000 in
set_option maxHeartbeats 2000000 in
theorem rnum_at (r : Nat) (l : List UInt8) (k : Int) (n : Nat) (w : World) (h : Rr w r l k) (hn : n ≤ 8) :
  Calls Tryz.prog 52 #[.pointer (some ⟨r, 0, none⟩), .int .i64 n] w fun e w' => RdP r w k ((rNum n l).map fun p => (.int .u64 p.1, p.2)) e w' := by
 have H : Hid (Calls Tryz.prog 103 #[.pointer (some ⟨r, 0, none⟩), .int .i64 n] w fun e w' => RdP r w k (if n ≤ l.length then some (.string ⟨(l.take n).toArray⟩, l.drop n) else none) e w') := take_at r l k n w h
 unfold rNum
 clear h
 by_cases hq : n ≤ l.length
 ·rw [if_pos hq] at H ⊢
  have HT : Hid ((l.take n).length = n) := by show _ = _; rw [List.length_take]; omega
  generalize l.take n = t at *
  generalize l.drop n = d at *
  go_enter Tryz.func52, Tryz.ntmps52
  go_wp2_with fail
  refine H.out.mono ?_
  intro e w1 hr
  cases hr with
  | ok h1 kp1 =>
   have HB1 : Hid (Rr w1 r d k) := h1
   have HK1 : Hid (Kp w w1 (fun i => i = r)) := kp1
   obtain ⟨cap, w2, hcv, hk2, hc2⟩ := run_bytes t w1
   have HK2 : Hid (Kp w1 w2 Nul) := hk2
   have HC2 : Hid (∀ j b, t[j]? = some b → w2.cell? ⟨w1.heap.size, j, none⟩ = some (.int .u8 (UInt8.toNat b))) := hc2
   rw [HT.out] at hcv
   clear h1 kp1 H hk2 hc2
   go_wp2_with fail
   clear hcv
   go_loopw [5, 13] (fun s5 s13 wr => ∃ i : Nat, i ≤ n ∧ s13 = .int .i64 i ∧ s5 = .int .u64 (unle (t.take i) : Nat) ∧ wr = w2) (fun _ s13 _ => ((n : Int) - intOf s13).toNat)
   case atStart => exact ⟨0, Nat.zero_le _, by simp, by rw [List.take_zero]; rfl, rfl⟩
   case round =>
    rename_i wr _ _
    obtain ⟨i, hi, rfl, rfl, hwr⟩ := hrel
    by_cases hlt : i < n
    ·obtain ⟨b, hb⟩ : ∃ b, t[i]? = some b := ⟨_, List.getElem?_eq_getElem (by rw [HT.out]; exact hlt)⟩
     have hlc := HC2.out i b hb
     have hlt' : (i : Int) < (n : Int) := by omega
     have hi8 : (i : Int) ≤ 7 := by omega
     have HO : Hid (bits .or .u64 ((unle (t.take i) : Nat) : Int) (IntKind.u64.wrap (IntKind.u64.wrap (b.toNat : Int) * 2 ^ (8 * i))) = ((unle (t.take (i + 1)) : Nat) : Int)) := by
      have h := or_unle (t.take i) b i (by rw [List.length_take, HT.out]; omega) (by omega)
      have e : t.take (i + 1) = t.take i ++ [b] := by rw [List.take_add_one, hb]; rfl
      rw [← e] at h
      exact h
     go_wp2_with fail
     exact ⟨⟨i + 1, by omega, by go_num, by rw [HO.out], by trivial⟩, by simp only [intOf]; omega⟩
    ·have hie : i = n := by omega
     subst hie
     subst hwr
     have HF : Hid (RdP r w k ((some (unle t, d)).map fun p => (Value.int .u64 (p.1 : Nat), p.2)) (.returned (.int .u64 (unle (t.take i) : Nat))) wr) := by
      have e : t.take i = t := by rw [← HT.out, List.take_length]
      rw [e]
      exact RdP.ok (HB1.out.kp HK2.out (fun x => x)) (HK1.out.trans HK2.out.of_nul)
     go_wp2_with fail
     refine bodyPost_ret (results_tmp rfl _ _ _) rfl ?_
     exact HF.out
 ·rw [if_neg hq] at H ⊢
  go_enter Tryz.func52, Tryz.ntmps52
  go_wp2_with fail
  refine H.out.mono ?_
  intro e w1 hr
  cases hr with
  | no kp1 =>
   go_wp2_with fail
   exact ⟨rfl, RdP.no kp1⟩
end Go.Proofs.YtnceajanlnnfoaaGreatDoor
namespace Go.Proofs.YtnceajanlnnfoaaGreatDoor
open Go.RowKit Go.Shelf
theorem mark_size : (ByteArray.mk markB.toArray).size = 4 := rfl
set_option maxRecDepth 20000 in
set_option maxHeartbeats 4000000 in
theorem prefix_at (l : List UInt8) (w : World) :
  Calls Tryz.prog 80 #[.string ⟨l.toArray⟩, .string ⟨markB.toArray⟩] w fun e w' => e = .returned (.bool (decide (l.take 4 = markB))) ∧ w' = w := by
 have hsz : ((ByteArray.mk l.toArray).size : Int) = (l.length : Int) := by show ((l.toArray.size : Nat) : Int) = _; rw [List.size_toArray]
 have hms : ((ByteArray.mk markB.toArray).size : Int) = 4 := by rw [mark_size]; rfl
 obtain ⟨m, hm⟩ : ∃ m, ByteArray.mk markB.toArray = m := ⟨_, rfl⟩
 rw [hm] at hms ⊢
 by_cases hq : 4 ≤ l.length
 ·have hq' : (4 : Int) ≤ (l.length : Int) := by omega
  have HE : Hid ((((ByteArray.mk l.toArray).extract 0 4).toList == m.toList) = decide (l.take 4 = markB)) := by
   show _ = _
   rw [ba_take, ← hm, ByteArray.toList_eq, ByteArray.toList_eq, Bool.eq_iff_iff]
   simp
  go_enter Tryz.func80, Tryz.ntmps80
  go_wp2
  refine bodyPost_ret (results_tmp rfl _ _ _) rfl ⟨?_, rfl⟩
  show Ending.returned (.bool (((ByteArray.mk l.toArray).extract 0 4).toList == m.toList)) = _
  rw [HE.out]
 ·have hq' : ¬ (4 : Int) ≤ (l.length : Int) := by omega
  have HN : Hid (decide (l.take 4 = markB) = false) := decide_eq_false (fun e => by
   have := congrArg List.length e
   rw [List.length_take, show markB.length = 4 from rfl] at this
   omega)
  go_enter Tryz.func80, Tryz.ntmps80
  go_wp2
  refine bodyPost_ret (results_tmp rfl _ _ _) rfl ⟨?_, rfl⟩
  show Ending.returned (.bool false) = _
  rw [HN.out]
end Go.Proofs.YtnceajanlnnfoaaGreatDoor
namespace Go.Proofs.YtnceajanlnnfoaaGreatDoor
open Go.RowKit Go.Shelf
def hmN (n s : Nat) : Nat × Nat := if n % s = 0 then if 65536 < n / s then (0, 2) else (n / s, 0) else (0, 3)
set_option maxRecDepth 20000 in
set_option maxHeartbeats 2000000 in
theorem howMany_at (l : List UInt8) (s : Nat) (hs : 0 < s ∧ s ≤ 8) (hl : l.length ≤ 9223372036854775807) (w : World) :
  Calls Tryz.prog 49 #[.string ⟨l.toArray⟩, .int .i64 s] w fun e w' => e = .returned (.tuple #[.int .i64 (hmN l.length s).1, .int .i64 (hmN l.length s).2]) ∧ w' = w := by
 have hsz : ((ByteArray.mk l.toArray).size : Int) = (l.length : Int) := by show ((l.toArray.size : Nat) : Int) = _; rw [List.size_toArray]
 have hs0 : ¬ (s : Int) = 0 := by omega
 have hsm : ¬ (s : Int) = -1 := by omega
 have hqn : l.length / s ≤ l.length := Nat.div_le_self _ _
 unfold hmN
 have hmod : (l.length : Int) % (s : Int) = ((l.length % s : Nat) : Int) := (Int.natCast_emod _ _).symm
 have hdiv : wrap64 ((l.length : Int) / (s : Int)) = ((l.length / s : Nat) : Int) := by
  have e : (l.length : Int) / (s : Int) = ((l.length / s : Nat) : Int) := (Int.natCast_ediv _ _).symm
  rw [e]
  generalize l.length / s = q at *
  unfold wrap64
  omega
 generalize l.length / s = q at *
 generalize l.length % s = m at *
 clear hl hqn
 by_cases h0 : m = 0
 ·rw [if_pos h0]
  have h0' : ((m : Int) != 0) = false := by simp [h0]
  by_cases h1 : 65536 < q
  ·rw [if_pos h1]
   have h1' : (65536 : Int) < (q : Int) := by omega
   clear h0
   go_enter Tryz.func49, Tryz.ntmps49
   go_wp2
   refine bodyPost_ret (results_tmp2 rfl _ _ _) rfl ?_
   exact ⟨rfl, rfl⟩
  ·rw [if_neg h1]
   have h1' : ¬ (65536 : Int) < (q : Int) := by omega
   clear h0
   go_enter Tryz.func49, Tryz.ntmps49
   go_wp2
   refine bodyPost_ret (results_tmp2 rfl _ _ _) rfl ?_
   exact ⟨rfl, rfl⟩
 ·rw [if_neg h0]
  have h0' : ((m : Int) != 0) = true := by simp; omega
  clear h0
  go_enter Tryz.func49, Tryz.ntmps49
  go_wp2
  refine bodyPost_ret (results_tmp2 rfl _ _ _) rfl ?_
  exact ⟨rfl, rfl⟩
end Go.Proofs.YtnceajanlnnfoaaGreatDoor
namespace Go.Proofs.YtnceajanlnnfoaaGreatDoor
open Go.RowKit Go.Shelf
theorem sheet1_idle (p q : Addr) (w : World) :
  CallsD Tryz.prog 131 #[.pointer (some p), .pointer (some q)] .returning w fun e u' w' => e = .returned (.tuple #[]) ∧ u' = .returning ∧ w' = w := by
 refine callsD_of_wpS Tryz.func131 rfl fun c₀ cs hu => ?_
 apply wpS_seq
 apply wpS_region
 simp [wpOpsS, go_sem, recoverD, hu, Tryz.ntmps131, Exit.thenS]
 apply wpS_seq
 apply wpS_region
 simp [wpOpsS, go_sem, Exit.thenS]
 refine wpS_cond (t := false) (by simp [Act.eval, Array.replicate]) ?_
 simp only [Bool.false_eq_true, if_false]
 refine wpS_of_wp (wp_skip ?_)
 cases c₀
 simp_all [bodyPostS, results, Tryz.results131]
theorem run_assert (X : TypeId) (w : World) : (Instr.typeAssert (.iface 27 (.int .i64 3)) X 27 false).run Tryz.prog w = .ok (.int .i64 3) w := by
 unfold Instr.typeAssert
 simp [Sem.run_bind, run_underlying Tryz.underlying27]
theorem sheet1_panicking (p q : Nat) (vp vq : Value) (older : List PanicEntry) (w : World) {T1 T2 : TypeId} (hp : Blk w p [vp] T1) (hq : Blk w q [vq] T2) (hne : p ≠ q) :
  CallsD Tryz.prog 131 #[.pointer (some ⟨p, 0, none⟩), .pointer (some ⟨q, 0, none⟩)] (.panicking (ef ++ older)) w fun e u' w' =>
   e = .returned (.tuple #[]) ∧ (∃ v, u' = .panicking ({ v := v, recovered := true } :: older)) ∧ w' = ((w.drew).setCell ⟨p, 0, none⟩ (.pointer none)).setCell ⟨q, 0, none⟩ (.int .i64 3) := by
 refine callsD_of_wpS Tryz.func131 rfl fun c₀ cs hu => ?_
 apply wpS_seq
 apply wpS_region
 simp [wpOpsS, go_sem, recoverD, hu, Tryz.ntmps131, Exit.thenS, ef]
 apply wpS_seq
 apply wpS_region
 simp [wpOpsS, go_sem, Exit.thenS]
 refine wpS_cond (t := true) (by simp [Act.eval, Array.replicate]) ?_
 simp only [if_true]
 refine wpS_of_wp ?_
 refine wp_region_ph (fun _ : World => True) (fun _ => false) (by kernel_rfl) trivial (fun _ => ?_)
 refine (show wpPh _ _ _ _ _ _ _ _ { tmps := #[.pointer (some ⟨p, 0, none⟩), .pointer (some ⟨q, 0, none⟩), .iface 27 (.int .i64 3), .iface 27 (.int .i64 3), .iface 27 (.int .i64 3), .bool true, undef, undef], defers := [] } w.drew from ?_)
 have c1 : w.cell? ⟨p, 0, none⟩ = some vp := hp.cell rfl
 have f1 : w.frozen? ⟨p, 0, none⟩ = false := hp.froz 0
 have c2 : (w.setCell ⟨p, 0, none⟩ (.pointer none)).cell? ⟨q, 0, none⟩ = some vq := (hq.other _ _ (fun e => hne e.symm)).cell rfl
 have f2 : (w.setCell ⟨p, 0, none⟩ (.pointer none)).frozen? ⟨q, 0, none⟩ = false := (hq.other _ _ (fun e => hne e.symm)).froz 0
 refine wpPh_takes (i := 0) (v := .iface 27 (.int .i64 3)) (some 6) rfl rfl (by kernel_rfl) (by kernel_rfl) (by kernel_rfl) (by kernel_rfl) (fun _ _ _ h => h) (Or.inl ⟨by rfl, fun w' _ => by go_simp⟩) trivial ?_
 simp only [Act.put, List.setIfInBounds_toArray, List.set_cons_zero, List.set_cons_succ]
 have hta := fun X w => run_assert X w
 refine wpPh_takes (i := 1) (v := .int .i64 3) (some 7) rfl rfl (by kernel_rfl) (by kernel_rfl) (by kernel_rfl) (by kernel_rfl) (fun _ _ _ h => h) (Or.inl ⟨by rfl, fun w' _ => by go_simp⟩) trivial ?_
 simp only [Act.put, List.setIfInBounds_toArray, List.set_cons_zero, List.set_cons_succ]
 refine wpPh_step (i := 2) (by kernel_rfl) rfl rfl (fun K hK => ?_)
 go_simp
 refine hK.out _ _ (fun _ => trivial) ?_
 clear hK K
 refine wpPh_step (i := 3) (by kernel_rfl) rfl rfl (fun K hK => ?_)
 go_simp
 refine hK.out _ _ (fun _ => trivial) ?_
 clear hK K
 refine wpPh_done (by kernel_rfl) ?_
 simp [bodyPostS, results, Tryz.results131]
end Go.Proofs.YtnceajanlnnfoaaGreatDoor
namespace Go.Proofs.YtnceajanlnnfoaaGreatDoor
open Go.RowKit Go.Shelf
theorem sheet_no (R : Ending → World → Prop) (p q : Nat) (vp vq : Value) {T1 T2 : TypeId} (t0 t1 : Value) (ts : List Value) (w : World) (hp : Blk w p [vp] T1) (hq : Blk w q [vq] T2) (hne : p ≠ q)
  (h : ∀ W, Kp w W (fun i => i = p ∨ i = q) → R (.returned (.tuple #[.pointer none, .int .i64 3])) W) :
  bodyPostD Tryz.prog Tryz.f81 R (Exit.panic ef) { tmps := (t0 :: t1 :: .pointer (some ⟨p, 0, none⟩) :: .pointer (some ⟨q, 0, none⟩) :: ts).toArray, defers := [{ target := .fn (.func 131) #[.pointer (some ⟨p, 0, none⟩), .pointer (some ⟨q, 0, none⟩)], args := #[] }] } w := by
 refine leaves_cons (f := 131) (args := #[.pointer (some ⟨p, 0, none⟩), .pointer (some ⟨q, 0, none⟩)]) (by simp) (by simp [go_sem]) ?_
 refine (sheet1_panicking p q _ _ [] w hp hq hne).mono ?_
 rintro e u' w'' ⟨rfl, ⟨v, rfl⟩, rfl⟩
 have b1 : Blk w.drew p [vp] T1 := hp
 have b2 : Blk w.drew q [vq] T2 := hq
 have e1 := ((b1.set 0 (.pointer none)).other ⟨q, 0, none⟩ (.int .i64 3) hne).cell (i := 0) rfl
 have e2 := ((b2.other ⟨p, 0, none⟩ (.pointer none) (Ne.symm hne)).set 0 (.int .i64 3)).cell (i := 0) rfl
 have hk := h _ ((((Kp.refl w (fun i => i = p ∨ i = q)).drew).setCell ⟨p, 0, none⟩ (.pointer none) (.inr (.inl rfl))).setCell ⟨q, 0, none⟩ (.int .i64 3) (.inr (.inr rfl)))
 generalize ((w.drew.setCell ⟨p, 0, none⟩ (.pointer none)).setCell ⟨q, 0, none⟩ (.int .i64 3)) = WW at *
 simp [Leaves, settle, results, Tryz.results81, go_sem, e1, e2]
 exact hk
theorem sheet_yes (R : Ending → World → Prop) (p q : Nat) (vp vq : Value) {T1 T2 : TypeId} (t0 t1 : Value) (ts : List Value) (w : World) (hp : Blk w p [vp] T1) (hq : Blk w q [vq] T2)
  (h : R (.returned (.tuple #[vp, vq])) w) :
  bodyPostD Tryz.prog Tryz.f81 R Exit.ret { tmps := (t0 :: t1 :: .pointer (some ⟨p, 0, none⟩) :: .pointer (some ⟨q, 0, none⟩) :: ts).toArray, defers := [{ target := .fn (.func 131) #[.pointer (some ⟨p, 0, none⟩), .pointer (some ⟨q, 0, none⟩)], args := #[] }] } w := by
 refine leaves_cons (f := 131) (args := #[.pointer (some ⟨p, 0, none⟩), .pointer (some ⟨q, 0, none⟩)]) (by simp) (by simp [go_sem]) ?_
 refine (sheet1_idle ⟨p, 0, none⟩ ⟨q, 0, none⟩ w).mono ?_
 rintro e u' w'' ⟨rfl, rfl, rfl⟩
 have e1 := hp.cell (i := 0) rfl
 have e2 := hq.cell (i := 0) rfl
 simp [Leaves, settle, results, Tryz.results81, go_sem, e1, e2]
 exact h
end Go.Proofs.YtnceajanlnnfoaaGreatDoor
