/- Packed: Widen of any single; FromDoubles, FromSingles. Packed: FromSingles. -/
import Derived.Test.YtnceajanlnnfoaaGreatDoorQmPlh
import Derived.Test.YtnceajanlnnfoaaGreatDoorQmPkn
import Derived.Test.YtnceajanlnnfoaaGreatDoorQmPko
namespace Go.Proofs.YtnceajanlnnfoaaGreatDoor
open Go.RowKit Go.Shelf
def wdN (b : Nat) : Nat := if isN32 b = true then 9221120237041090560 else wdW (sgb32 b) (mag32 b)
theorem made1 (z : Value) (n : Nat) : (madeCells #[z] n).toList = List.replicate n z := by
 apply List.ext_getElem?
 intro i
 simp only [madeCells, Array.toList_map, Array.toList_range, List.getElem?_map]
 by_cases h : i < n
 ·rw [List.getElem?_range h, List.getElem?_replicate, if_pos h]; simp [Nat.mod_one]
 ·rw [List.getElem?_eq_none (by simp; omega), List.getElem?_replicate, if_neg h]; rfl
theorem make64 (n : Nat) (hn : n ≤ 65536) (w : World) :
  (Instr.makeSlice 37 (.int .i64 (n : Int)) (.int .i64 (n : Int))).run Tryz.prog w = .ok (.slice (some ⟨w.heap.size, 0, none⟩) n n) (w.alloc (.cells (madeCells #[.float .f64 0] n) 50)) := by
 have hi : Tryz.prog.info? 50 = some ((Tryz.prog.info? 50).getD default) := by kernel_rfl
 have := run_make (P := Tryz.prog) w 37 50 _ (.float .f64 0) Tryz.underlying37 hi (by kernel_rfl) .i64 .i64 n n (by omega) (by omega) (by
  have : ((Tryz.prog.info? 50).getD default).bytes = 8 := by kernel_rfl
  rw [this]; omega) (by omega)
 have hs : ((Tryz.prog.info? 50).getD default).size = 1 := by kernel_rfl
 rw [hs, Nat.mul_one, Int.toNat_natCast] at this
 exact this
def nums (s : Nat) (l : List UInt8) : Nat → List Nat
 | 0 => []
 | n + 1 => unle (l.take s) :: nums s (l.drop s) n
theorem nums_len (s : Nat) : ∀ (n : Nat) (l : List UInt8), (nums s l n).length = n
 | 0, _ => rfl
 | n + 1, l => by rw [nums, List.length_cons, nums_len s n]
theorem nums_get (s : Nat) : ∀ (n i : Nat) (l : List UInt8), i < n → (nums s l n)[i]? = some (unle ((l.drop (s * i)).take s))
 | n + 1, 0, l, _ => by rw [nums]; simp
 | n + 1, i + 1, l, h => by
  rw [nums, List.getElem?_cons_succ, nums_get s n i _ (by omega), List.drop_drop]
  congr 4
  rw [Nat.mul_add, Nat.mul_one, Nat.add_comm]
theorem word_of (b : Nat) (hb : b < 4294967296) : Ieee.single.word (sgb32 b) (mag32 b) = b := by
 unfold Ieee.Format.word sgb32 mag32
 by_cases h : 2147483648 ≤ b
 ·rw [decide_eq_true h, if_pos rfl]
  show 2147483648 + b % 2147483648 = b
  omega
 ·rw [decide_eq_false h, if_neg Bool.false_ne_true]
  omega
theorem widen24 (b : Nat) (hb : b < 4294967296) (w : World) : Calls Tryz.prog 50 #[.float .f32 b] w fun e w' => e = .returned (.float .f64 (wdN b)) ∧ Kp w w' Nul := by
 cases hn : isN32 b with
 | true =>
  have e : wdN b = 9221120237041090560 := if_pos hn
  rw [e]
  exact (widen_nan b hb hn w).mono fun e w' h => ⟨h.1, by obtain ⟨d, hd⟩ := h.2; rw [hd]; exact (Kp.refl w Nul).drewN d⟩
 | false =>
  have e : wdN b = wdW (sgb32 b) (mag32 b) := if_neg (by rw [hn]; exact Bool.false_ne_true)
  have hm : mag32 b ≤ 2139095040 := by have := of_decide_eq_false hn; omega
  have h := widen_any (sgb32 b) (mag32 b) hm w
  rw [word_of b hb] at h
  rw [e]
  exact h.mono fun e w' h => ⟨h.1, by rw [h.2]; exact Kp.refl _ _⟩
inductive FrP (w : World) (xs : List Nat) : Nat → Ending → World → Prop
 | ok {b : Nat} {w' : World} (hb : w.heap.size ≤ b) (bl : Blk w' b (xs.map fun x => .float .f64 x) 50) (kp : Kp w w' Nul) : FrP w xs 0 (.returned (.tuple #[.slice (some ⟨b, 0, none⟩) xs.length xs.length, .int .i64 0])) w'
 | no {er : Nat} {w' : World} (h : er ≠ 0) (kp : Kp w w' Nul) : FrP w xs er (.returned (.tuple #[.slice none 0 0, .int .i64 er])) w'
theorem fl_set (f : Nat → Nat) (xs : List Nat) (i x : Nat) (hx : xs[i]? = some x) (hn : i < xs.length) :
  ((xs.take i).map (fun x => Value.float .f64 (f x)) ++ List.replicate (xs.length - i) (Value.float .f64 0)).set i (.float .f64 (f x)) = (xs.take (i + 1)).map (fun x => Value.float .f64 (f x)) ++ List.replicate (xs.length - (i + 1)) (Value.float .f64 0) := by
 have hl : ((xs.take i).map (fun x => Value.float .f64 (f x))).length = i := by rw [List.length_map, List.length_take]; omega
 have h1 : (xs.take i).map (fun x => Value.float .f64 (f x)) ++ List.replicate (xs.length - i) (Value.float .f64 0) = (xs.take i).map (fun x => Value.float .f64 (f x)) ++ (Value.float .f64 0 :: List.replicate (xs.length - (i + 1)) (Value.float .f64 0)) := by
  rw [show xs.length - i = (xs.length - (i + 1)) + 1 from by omega, List.replicate_succ]
 rw [h1, List.set_append_right _ _ (by omega), hl, Nat.sub_self, List.set_cons_zero, List.take_add_one, hx, List.map_append]
 simp
set_option maxRecDepth 40000 in
set_option maxHeartbeats 8000000 in
theorem fromD_at (l : List UInt8) (hl : l.length ≤ 9223372036854775807) (w : World) :
  Calls Tryz.prog 20 #[.string ⟨l.toArray⟩] w fun e w' => FrP w ((nums 8 l (hmN l.length 8).1).map one) (hmN l.length 8).2 e w' := by
 obtain ⟨n, hn⟩ : ∃ n, (hmN l.length 8).1 = n := ⟨_, rfl⟩
 obtain ⟨er, her⟩ : ∃ er, (hmN l.length 8).2 = er := ⟨_, rfl⟩
 have HM : Hid (∀ w, Calls Tryz.prog 49 #[.string ⟨l.toArray⟩, .int .i64 8] w fun e w' => e = .returned (.tuple #[.int .i64 n, .int .i64 er]) ∧ w' = w) := fun w => by
  have := howMany_at l 8 (by decide) hl w
  rw [hn, her] at this
  exact this
 rw [hn, her]
 have hcase : (er ≠ 0) ∨ (er = 0 ∧ n ≤ 65536 ∧ l.length = 8 * n) := by
  rw [← her, ← hn]
  unfold hmN
  by_cases q1 : l.length % 8 = 0
  ·rw [if_pos q1]
   by_cases q2 : 65536 < l.length / 8
   ·rw [if_pos q2]; exact .inl (by decide)
   ·rw [if_neg q2]; exact .inr ⟨rfl, by show l.length / 8 ≤ _; omega, by show l.length = 8 * (l.length / 8); omega⟩
  ·rw [if_neg q1]; exact .inl (by decide)
 clear hn her hl
 rcases hcase with h | ⟨rfl, hn1, hn2⟩
 ·have hne : ((er : Int) != 0) = true := by simp; omega
  have HF : Hid (∀ xs, FrP w xs er (.returned (.tuple #[.slice none 0 0, .int .i64 er])) w) := fun xs => .no h (Kp.refl _ _)
  clear h
  go_enter Tryz.func20, Tryz.ntmps20
  go_wp2_with fail
  refine (HM.out _).mono ?_
  rintro e w1 ⟨rfl, hz⟩
  replace hz := hz.symm
  subst hz
  go_wp2_with fail
  refine bodyPost_ret (results_tmp2 rfl _ _ _) rfl ?_
  exact HF.out _
 ·obtain ⟨xs, hxs⟩ : ∃ xs, nums 8 l n = xs := ⟨_, rfl⟩
  have hxl : xs.length = n := by rw [← hxs]; exact nums_len 8 n l
  rw [hxs]
  obtain ⟨W1, hW1⟩ : ∃ W1, w.alloc (.cells #[.string ⟨l.toArray⟩, .int .i64 0] 114) = W1 := ⟨_, rfl⟩
  have s1 : W1.heap.size = w.heap.size + 1 := by rw [← hW1, World.size_alloc]
  obtain ⟨W2, hW2⟩ : ∃ W2, W1.alloc (.cells (madeCells #[.float .f64 0] n) 50) = W2 := ⟨_, rfl⟩
  have hmk := make64 n hn1 W1
  rw [hW2, s1] at hmk
  have k1 : Kp w W1 Nul := by rw [← hW1]; exact (Kp.refl _ _).alloc _
  have k2 : Kp W1 W2 Nul := by rw [← hW2]; exact (Kp.refl _ _).alloc _
  have HR2 : Hid (Rr W2 w.heap.size l 0) := by
   have : Rr W1 w.heap.size l 0 := by rw [← hW1]; exact Blk.new w _ _
   exact this.kp k2 (fun x => x)
  have HB2 : Hid (Blk W2 (w.heap.size + 1) (List.replicate n (.float .f64 0)) 50) := by
   have := Blk.new W1 (List.replicate n (.float .f64 0)) 50
   rw [s1] at this
   show Blk _ _ _ _
   have e : madeCells #[.float .f64 0] n = (List.replicate n (Value.float .f64 0)).toArray := by rw [← made1]
   rw [← hW2, e]
   exact this
  have HK2 : Hid (Kp w W2 Nul) := k1.trans k2
  have HW1 : Hid (w.alloc (.cells #[.string ⟨l.toArray⟩, .int .i64 0] 114) = W1) := hW1
  have HNM : Hid (∀ d k W, Rr W w.heap.size d k → Calls Tryz.prog 52 #[.pointer (some ⟨w.heap.size, 0, none⟩), .int .i64 8] W fun e w' => RdP w.heap.size W k ((rNum 8 d).map fun p => (.int .u64 p.1, p.2)) e w') := fun d k W h => rnum_at _ d k 8 W h (by decide)
  have HO : Hid (∀ x w, x < 18446744073709551616 → Calls Tryz.prog 55 #[.float .f64 x] w fun e w' => e = .returned (.float .f64 (one x)) ∧ w' = w) := fun x w h => one_any x h w
  have HX : Hid (∀ i, i < n → xs[i]? = some (unle ((l.drop (8 * i)).take 8)) ∧ rNum 8 (l.drop (8 * i)) = some (unle ((l.drop (8 * i)).take 8), l.drop (8 * (i + 1)))) := fun i hi => by
   refine ⟨by rw [← hxs]; exact nums_get 8 n i l hi, ?_⟩
   unfold rNum
   rw [if_pos (by rw [List.length_drop]; omega), List.drop_drop]
   congr 3
  have HXL : Hid (xs.length = n ∧ n ≤ 65536) := ⟨hxl, hn1⟩
  clear hW1 hW2 k1 k2 s1 hxs hxl hn1 hn2
  go_enter Tryz.func20, Tryz.ntmps20
  go_wp2_with fail
  refine (HM.out _).mono ?_
  rintro e w1 ⟨rfl, hz⟩
  replace hz := hz.symm
  subst hz
  go_wp2_with (first | (rw [HW1.out]) | fail)
  go_loopw [23] (fun s23 wr => ∃ i : Nat, i ≤ n ∧ s23 = .int .i64 i ∧ Rr wr w.heap.size (l.drop (8 * i)) 0 ∧ Blk wr (w.heap.size + 1) ((xs.take i).map (fun x => .float .f64 (one x)) ++ List.replicate (xs.length - i) (.float .f64 0)) 50 ∧ Kp w wr Nul) (fun s23 _ => ((n : Int) - intOf s23).toNat)
  case atStart => exact ⟨0, Nat.zero_le _, by simp, by rw [Nat.mul_zero, List.drop_zero]; exact HR2.out, by rw [List.take_zero, List.map_nil, List.nil_append, Nat.sub_zero, HXL.out.1]; exact HB2.out, HK2.out⟩
  case round =>
   obtain ⟨i, hi, rfl, hr, hb, hk⟩ := hrel
   have HR : Hid (Rr wr w.heap.size (l.drop (8 * i)) 0) := hr
   have HB : Hid (Blk wr (w.heap.size + 1) ((xs.take i).map (fun x => .float .f64 (one x)) ++ List.replicate (xs.length - i) (.float .f64 0)) 50) := hb
   have HK : Hid (Kp w wr Nul) := hk
   clear hr hb hk hmk
   by_cases hlt : i < n
   ·have hlt' : (i : Int) < (n : Int) := by omega
    have hi0 : (0 : Int) ≤ (i : Int) := by omega
    have hib : (i : Int) + 1 ≤ 9223372036854775807 := by have := HXL.out.2; omega
    obtain ⟨hx1, hx2⟩ := HX.out i hlt
    obtain ⟨x, hx⟩ : ∃ x, unle ((l.drop (8 * i)).take 8) = x := ⟨_, rfl⟩
    rw [hx] at hx1 hx2
    have hxl : x < 18446744073709551616 := by have := rNum_lt hx2; omega
    have HLT : Hid (i < n) := hlt
    have hfb := run_f64from24 x
    have HXL2 : Hid (x < 18446744073709551616) := hxl
    have HX1 : Hid (xs[i]? = some x) := hx1
    have HNM1 : Hid (Calls Tryz.prog 52 #[.pointer (some ⟨w.heap.size, 0, none⟩), .int .i64 8] wr fun e w' => RdP w.heap.size wr 0 (some (.int .u64 (x : Nat), l.drop (8 * (i + 1)))) e w') := by
     have := HNM.out _ _ wr HR.out
     rw [hx2] at this
     exact this
    clear hx hx1 hx2 hxl hlt hi
    go_wp2_with fail
    refine HNM1.out.mono ?_
    intro e w2 hr
    cases hr with
    | ok h2 kp2 =>
    have HR2' : Hid (Rr w2 w.heap.size (l.drop (8 * (i + 1))) 0) := h2
    have HB2' : Hid (Blk w2 (w.heap.size + 1) ((xs.take i).map (fun x => .float .f64 (one x)) ++ List.replicate (xs.length - i) (.float .f64 0)) 50) := HB.out.kp kp2 (fun e => by omega)
    have HK2' : Hid (Kp w w2 Nul) := HK.out.trans' kp2 (fun j hj e => by have e' : j = w.heap.size := e; omega)
    clear h2 kp2 HR HB HK HNM1
    go_wp2_with fail
    refine (HO.out x _ HXL2.out).mono ?_
    rintro e w3 ⟨rfl, hz⟩
    replace hz := hz.symm
    subst hz
    have hcl : w2.cell? ⟨w.heap.size + 1, i, none⟩ = some (.float .f64 0) := HB2'.out.cell (by
     have h1 := HXL.out.1
     have h2 := HLT.out
     rw [List.getElem?_append_right (by rw [List.length_map, List.length_take]; omega), List.length_map, List.length_take, Nat.min_eq_left (by omega), Nat.sub_self, List.getElem?_replicate, if_pos (by omega)])
    have hfz : w2.frozen? ⟨w.heap.size + 1, i, none⟩ = false := HB2'.out.froz i
    have HNX : Hid (Rr (w2.setCell ⟨w.heap.size + 1, i, none⟩ (.float .f64 (one x))) w.heap.size (l.drop (8 * (i + 1))) 0 ∧ Blk (w2.setCell ⟨w.heap.size + 1, i, none⟩ (.float .f64 (one x))) (w.heap.size + 1) ((xs.take (i + 1)).map (fun x => .float .f64 (one x)) ++ List.replicate (xs.length - (i + 1)) (.float .f64 0)) 50 ∧ Kp w (w2.setCell ⟨w.heap.size + 1, i, none⟩ (.float .f64 (one x))) Nul) := by
     refine ⟨HR2'.out.other _ _ (by simp), ?_, HK2'.out.setCell ⟨w.heap.size + 1, i, none⟩ _ (.inl (by show w.heap.size ≤ w.heap.size + 1; omega))⟩
     have := HB2'.out.set i (.float .f64 (one x))
     rw [fl_set one xs i x HX1.out (by have := HXL.out.1; have := HLT.out; omega)] at this
     exact this
    clear hfb
    go_wp2_with fail
    go_roundw
    case rel => exact ⟨i + 1, by have := HLT.out; omega, by go_num, HNX.out⟩
    case measure => simp only [intOf]; have := HLT.out; omega
   ·have hie : i = n := by omega
    subst hie
    have HT : Hid ((xs.take i).map (fun x => Value.float .f64 (one x)) ++ List.replicate (xs.length - i) (Value.float .f64 0) = (xs.map one).map (fun x => Value.float .f64 x)) := by
     show _ = _
     rw [HXL.out.1, Nat.sub_self, List.replicate_zero, List.append_nil, ← HXL.out.1, List.take_length, List.map_map]
     rfl
    have HF : Hid (FrP w (xs.map one) 0 (.returned (.tuple #[.slice (some ⟨w.heap.size + 1, 0, none⟩) i i, .int .i64 0])) wr) := by
     have hb := HB.out
     rw [HT.out] at hb
     have := FrP.ok (w := w) (xs := xs.map one) (b := w.heap.size + 1) (by omega) hb HK.out
     rw [List.length_map, HXL.out.1] at this
     exact this
    clear hi hlt
    go_wp2_with fail
    refine bodyPost_ret (results_tmp2 rfl _ _ _) rfl ?_
    exact HF.out
end Go.Proofs.YtnceajanlnnfoaaGreatDoor
namespace Go.Proofs.YtnceajanlnnfoaaGreatDoor
open Go.RowKit Go.Shelf
theorem run_f32from24 (b : Nat) (w : World) : (callFunc 51 #[.int .u32 (b : Int)]).run Tryz.prog w = .ok (.value (.float .f32 b)) w := by
 have := run_f32frombits (b : Int) w
 rwa [Int.toNat_natCast] at this
theorem run_u64u32 (n : Nat) (hn : n < 4294967296) (w : World) : (convert 80 86 (.int .u64 n)).run Tryz.prog w = .ok (.int .u32 n) w := by
 have e : (n : Int) % 4294967296 = n := by omega
 simp [go_sem, convert, run_underlying Tryz.underlying80, run_underlying Tryz.underlying86, IntKind.wrap, IntKind.signed, e]
set_option maxRecDepth 40000 in
set_option maxHeartbeats 8000000 in
theorem fromS_at (l : List UInt8) (hl : l.length ≤ 9223372036854775807) (w : World) :
  Calls Tryz.prog 18 #[.string ⟨l.toArray⟩] w fun e w' => FrP w ((nums 4 l (hmN l.length 4).1).map wdN) (hmN l.length 4).2 e w' := by
 obtain ⟨n, hn⟩ : ∃ n, (hmN l.length 4).1 = n := ⟨_, rfl⟩
 obtain ⟨er, her⟩ : ∃ er, (hmN l.length 4).2 = er := ⟨_, rfl⟩
 have HM : Hid (∀ w, Calls Tryz.prog 49 #[.string ⟨l.toArray⟩, .int .i64 4] w fun e w' => e = .returned (.tuple #[.int .i64 n, .int .i64 er]) ∧ w' = w) := fun w => by
  have := howMany_at l 4 (by decide) hl w
  rw [hn, her] at this
  exact this
 rw [hn, her]
 have hcase : (er ≠ 0) ∨ (er = 0 ∧ n ≤ 65536 ∧ l.length = 4 * n) := by
  rw [← her, ← hn]
  unfold hmN
  by_cases q1 : l.length % 4 = 0
  ·rw [if_pos q1]
   by_cases q2 : 65536 < l.length / 4
   ·rw [if_pos q2]; exact .inl (by decide)
   ·rw [if_neg q2]; exact .inr ⟨rfl, by show l.length / 4 ≤ _; omega, by show l.length = 4 * (l.length / 4); omega⟩
  ·rw [if_neg q1]; exact .inl (by decide)
 clear hn her hl
 rcases hcase with h | ⟨rfl, hn1, hn2⟩
 ·have hne : ((er : Int) != 0) = true := by simp; omega
  have HF : Hid (∀ xs, FrP w xs er (.returned (.tuple #[.slice none 0 0, .int .i64 er])) w) := fun xs => .no h (Kp.refl _ _)
  clear h
  go_enter Tryz.func18, Tryz.ntmps18
  go_wp2_with fail
  refine (HM.out _).mono ?_
  rintro e w1 ⟨rfl, hz⟩
  replace hz := hz.symm
  subst hz
  go_wp2_with fail
  refine bodyPost_ret (results_tmp2 rfl _ _ _) rfl ?_
  exact HF.out _
 ·obtain ⟨xs, hxs⟩ : ∃ xs, nums 4 l n = xs := ⟨_, rfl⟩
  have hxl : xs.length = n := by rw [← hxs]; exact nums_len 4 n l
  rw [hxs]
  obtain ⟨W1, hW1⟩ : ∃ W1, w.alloc (.cells #[.string ⟨l.toArray⟩, .int .i64 0] 114) = W1 := ⟨_, rfl⟩
  have s1 : W1.heap.size = w.heap.size + 1 := by rw [← hW1, World.size_alloc]
  obtain ⟨W2, hW2⟩ : ∃ W2, W1.alloc (.cells (madeCells #[.float .f64 0] n) 50) = W2 := ⟨_, rfl⟩
  have hmk := make64 n hn1 W1
  rw [hW2, s1] at hmk
  have k1 : Kp w W1 Nul := by rw [← hW1]; exact (Kp.refl _ _).alloc _
  have k2 : Kp W1 W2 Nul := by rw [← hW2]; exact (Kp.refl _ _).alloc _
  have HR2 : Hid (Rr W2 w.heap.size l 0) := by
   have : Rr W1 w.heap.size l 0 := by rw [← hW1]; exact Blk.new w _ _
   exact this.kp k2 (fun x => x)
  have HB2 : Hid (Blk W2 (w.heap.size + 1) (List.replicate n (.float .f64 0)) 50) := by
   have := Blk.new W1 (List.replicate n (.float .f64 0)) 50
   rw [s1] at this
   show Blk _ _ _ _
   have e : madeCells #[.float .f64 0] n = (List.replicate n (Value.float .f64 0)).toArray := by rw [← made1]
   rw [← hW2, e]
   exact this
  have HK2 : Hid (Kp w W2 Nul) := k1.trans k2
  have HW1 : Hid (w.alloc (.cells #[.string ⟨l.toArray⟩, .int .i64 0] 114) = W1) := hW1
  have HNM : Hid (∀ d k W, Rr W w.heap.size d k → Calls Tryz.prog 52 #[.pointer (some ⟨w.heap.size, 0, none⟩), .int .i64 4] W fun e w' => RdP w.heap.size W k ((rNum 4 d).map fun p => (.int .u64 p.1, p.2)) e w') := fun d k W h => rnum_at _ d k 4 W h (by decide)
  have HO : Hid (∀ x w, x < 4294967296 → Calls Tryz.prog 50 #[.float .f32 x] w fun e w' => e = .returned (.float .f64 (wdN x)) ∧ Kp w w' Nul) := fun x w h => widen24 x h w
  have HX : Hid (∀ i, i < n → xs[i]? = some (unle ((l.drop (4 * i)).take 4)) ∧ rNum 4 (l.drop (4 * i)) = some (unle ((l.drop (4 * i)).take 4), l.drop (4 * (i + 1)))) := fun i hi => by
   refine ⟨by rw [← hxs]; exact nums_get 4 n i l hi, ?_⟩
   unfold rNum
   rw [if_pos (by rw [List.length_drop]; omega), List.drop_drop]
   congr 3
  have HXL : Hid (xs.length = n ∧ n ≤ 65536) := ⟨hxl, hn1⟩
  clear hW1 hW2 k1 k2 s1 hxs hxl hn1 hn2
  go_enter Tryz.func18, Tryz.ntmps18
  go_wp2_with fail
  refine (HM.out _).mono ?_
  rintro e w1 ⟨rfl, hz⟩
  replace hz := hz.symm
  subst hz
  go_wp2_with (first | (rw [HW1.out]) | fail)
  go_loopw [23] (fun s23 wr => ∃ i : Nat, i ≤ n ∧ s23 = .int .i64 i ∧ Rr wr w.heap.size (l.drop (4 * i)) 0 ∧ Blk wr (w.heap.size + 1) ((xs.take i).map (fun x => .float .f64 (wdN x)) ++ List.replicate (xs.length - i) (.float .f64 0)) 50 ∧ Kp w wr Nul) (fun s23 _ => ((n : Int) - intOf s23).toNat)
  case atStart => exact ⟨0, Nat.zero_le _, by simp, by rw [Nat.mul_zero, List.drop_zero]; exact HR2.out, by rw [List.take_zero, List.map_nil, List.nil_append, Nat.sub_zero, HXL.out.1]; exact HB2.out, HK2.out⟩
  case round =>
   obtain ⟨i, hi, rfl, hr, hb, hk⟩ := hrel
   have HR : Hid (Rr wr w.heap.size (l.drop (4 * i)) 0) := hr
   have HB : Hid (Blk wr (w.heap.size + 1) ((xs.take i).map (fun x => .float .f64 (wdN x)) ++ List.replicate (xs.length - i) (.float .f64 0)) 50) := hb
   have HK : Hid (Kp w wr Nul) := hk
   clear hr hb hk hmk
   by_cases hlt : i < n
   ·have hlt' : (i : Int) < (n : Int) := by omega
    have hi0 : (0 : Int) ≤ (i : Int) := by omega
    have hib : (i : Int) + 1 ≤ 9223372036854775807 := by have := HXL.out.2; omega
    obtain ⟨hx1, hx2⟩ := HX.out i hlt
    obtain ⟨x, hx⟩ : ∃ x, unle ((l.drop (4 * i)).take 4) = x := ⟨_, rfl⟩
    rw [hx] at hx1 hx2
    have hxl : x < 4294967296 := by have := rNum_lt hx2; omega
    have HLT : Hid (i < n) := hlt
    have hfb := run_f32from24 x
    have hcv := run_u64u32 x hxl
    have HXL2 : Hid (x < 4294967296) := hxl
    have HX1 : Hid (xs[i]? = some x) := hx1
    have HNM1 : Hid (Calls Tryz.prog 52 #[.pointer (some ⟨w.heap.size, 0, none⟩), .int .i64 4] wr fun e w' => RdP w.heap.size wr 0 (some (.int .u64 (x : Nat), l.drop (4 * (i + 1)))) e w') := by
     have := HNM.out _ _ wr HR.out
     rw [hx2] at this
     exact this
    clear hx hx1 hx2 hxl hlt hi
    go_wp2_with fail
    refine HNM1.out.mono ?_
    intro e w2 hr
    cases hr with
    | ok h2 kp2 =>
    have HR2' : Hid (Rr w2 w.heap.size (l.drop (4 * (i + 1))) 0) := h2
    have HB2' : Hid (Blk w2 (w.heap.size + 1) ((xs.take i).map (fun x => .float .f64 (wdN x)) ++ List.replicate (xs.length - i) (.float .f64 0)) 50) := HB.out.kp kp2 (fun e => by omega)
    have HK2' : Hid (Kp w w2 Nul) := HK.out.trans' kp2 (fun j hj e => by have e' : j = w.heap.size := e; omega)
    clear h2 kp2 HR HB HK HNM1
    go_wp2_with fail
    refine (HO.out x _ HXL2.out).mono ?_
    rintro e w3 ⟨rfl, k3⟩
    have HR3' : Hid (Rr w3 w.heap.size (l.drop (4 * (i + 1))) 0) := HR2'.out.kp k3 (fun x => x)
    have HB3' : Hid (Blk w3 (w.heap.size + 1) ((xs.take i).map (fun x => .float .f64 (wdN x)) ++ List.replicate (xs.length - i) (.float .f64 0)) 50) := HB2'.out.kp k3 (fun x => x)
    have HK3' : Hid (Kp w w3 Nul) := HK2'.out.trans k3
    clear k3 HR2' HB2' HK2'
    have hcl : w3.cell? ⟨w.heap.size + 1, i, none⟩ = some (.float .f64 0) := HB3'.out.cell (by
     have h1 := HXL.out.1
     have h2 := HLT.out
     rw [List.getElem?_append_right (by rw [List.length_map, List.length_take]; omega), List.length_map, List.length_take, Nat.min_eq_left (by omega), Nat.sub_self, List.getElem?_replicate, if_pos (by omega)])
    have hfz : w3.frozen? ⟨w.heap.size + 1, i, none⟩ = false := HB3'.out.froz i
    have HNX : Hid (Rr (w3.setCell ⟨w.heap.size + 1, i, none⟩ (.float .f64 (wdN x))) w.heap.size (l.drop (4 * (i + 1))) 0 ∧ Blk (w3.setCell ⟨w.heap.size + 1, i, none⟩ (.float .f64 (wdN x))) (w.heap.size + 1) ((xs.take (i + 1)).map (fun x => .float .f64 (wdN x)) ++ List.replicate (xs.length - (i + 1)) (.float .f64 0)) 50 ∧ Kp w (w3.setCell ⟨w.heap.size + 1, i, none⟩ (.float .f64 (wdN x))) Nul) := by
     refine ⟨HR3'.out.other _ _ (by simp), ?_, HK3'.out.setCell ⟨w.heap.size + 1, i, none⟩ _ (.inl (by show w.heap.size ≤ w.heap.size + 1; omega))⟩
     have := HB3'.out.set i (.float .f64 (wdN x))
     rw [fl_set wdN xs i x HX1.out (by have := HXL.out.1; have := HLT.out; omega)] at this
     exact this
    clear hfb hcv
    go_wp2_with fail
    go_roundw
    case rel => exact ⟨i + 1, by have := HLT.out; omega, by go_num, HNX.out⟩
    case measure => simp only [intOf]; have := HLT.out; omega
   ·have hie : i = n := by omega
    subst hie
    have HT : Hid ((xs.take i).map (fun x => Value.float .f64 (wdN x)) ++ List.replicate (xs.length - i) (Value.float .f64 0) = (xs.map wdN).map (fun x => Value.float .f64 x)) := by
     show _ = _
     rw [HXL.out.1, Nat.sub_self, List.replicate_zero, List.append_nil, ← HXL.out.1, List.take_length, List.map_map]
     rfl
    have HF : Hid (FrP w (xs.map wdN) 0 (.returned (.tuple #[.slice (some ⟨w.heap.size + 1, 0, none⟩) i i, .int .i64 0])) wr) := by
     have hb := HB.out
     rw [HT.out] at hb
     have := FrP.ok (w := w) (xs := xs.map wdN) (b := w.heap.size + 1) (by omega) hb HK.out
     rw [List.length_map, HXL.out.1] at this
     exact this
    clear hi hlt
    go_wp2_with fail
    refine bodyPost_ret (results_tmp2 rfl _ _ _) rfl ?_
    exact HF.out
end Go.Proofs.YtnceajanlnnfoaaGreatDoor
