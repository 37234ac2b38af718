/- Packed: Widen of any single; FromDoubles, FromSingles. Packed: FromSingles. PackedNumbers, plain: singles widened and narrowed again; numbers out of their bytes. No function of the program here. -/
import Derived.Test.YthgeojgfjpcelabGreatDoorNPlh
import Derived.Test.YthgeojgfjpcelabGreatDoorNPkn
import Derived.Test.YthgeojgfjpcelabGreatDoorNPko
import Derived.Test.YthgeojgfjpcelabGreatDoorNSb
import Derived.Test.YthgeojgfjpcelabGreatDoorNWj
namespace Go.Proofs.YthgeojgfjpcelabGreatDoor
open Go.RowKit Go.Shelf

/-- The number of a single's 32 bits. -/
def wdN (b : Nat) : Nat := if isN32 b = true then 9221120237041090560 else wdW (sgb32 b) (mag32 b)
theorem made1 (z : Value) (n : Nat) : (madeCells #[z] n).toList = List.replicate n z := by
  apply List.ext_getElem?
  intro i
  simp only [madeCells, Array.toList_map, Array.toList_range, List.getElem?_map]
  by_cases h : i < n
  · rw [List.getElem?_range h, List.getElem?_replicate, if_pos h]; simp [Nat.mod_one]
  · rw [List.getElem?_eq_none (by simp; omega), List.getElem?_replicate, if_neg h]; rfl
theorem make64 (n : Nat) (hn : n ≤ 65536) (w : World) :
    (Instr.makeSlice 35 (.int .i64 (n : Int)) (.int .i64 (n : Int))).run Tryz.prog w = .ok (.slice (some ⟨w.heap.size, 0, none⟩) n n) (w.alloc (.cells (madeCells #[.float .f64 0] n) 36)) := by
  have hi : Tryz.prog.info? 36 = some ((Tryz.prog.info? 36).getD default) := by kernel_rfl
  have := run_make (P := Tryz.prog) w 35 36 _ (.float .f64 0) Tryz.underlying35 hi (by kernel_rfl) .i64 .i64 n n (by omega) (by omega) (by
    have : ((Tryz.prog.info? 36).getD default).bytes = 8 := by kernel_rfl
    rw [this]; omega) (by omega)
  have hs : ((Tryz.prog.info? 36).getD default).size = 1 := by kernel_rfl
  rw [hs, Nat.mul_one, Int.toNat_natCast] at this
  exact this
/-- The numbers of s bytes each that l holds. -/
def nums (s : Nat) (l : List UInt8) : Nat → List Nat
  | 0 => []
  | n + 1 => unle (l.take s) :: nums s (l.drop s) n
theorem nums_len (s : Nat) : ∀ (n : Nat) (l : List UInt8), (nums s l n).length = n
  | 0, _ => rfl
  | n + 1, l => by rw [nums, List.length_cons, nums_len s n]
theorem nums_get (s : Nat) : ∀ (n i : Nat) (l : List UInt8), i < n → (nums s l n)[i]? = some (unle ((l.drop (s * i)).take s))
  | n + 1, 0, l, _ => by rw [nums]; simp
  | n + 1, i + 1, l, h => by
    rw [nums, List.getElem?_cons_succ, nums_get s n i _ (by omega), List.drop_drop]
    congr 4
    rw [Nat.mul_add, Nat.mul_one, Nat.add_comm]
theorem word_of (b : Nat) (hb : b < 4294967296) : Ieee.single.word (sgb32 b) (mag32 b) = b := by
  unfold Ieee.Format.word sgb32 mag32
  by_cases h : 2147483648 ≤ b
  · rw [decide_eq_true h, if_pos rfl]
    show 2147483648 + b % 2147483648 = b
    omega
  · rw [decide_eq_false h, if_neg Bool.false_ne_true]
    omega
theorem widen24 (b : Nat) (hb : b < 4294967296) (w : World) : Calls Tryz.prog 19 #[.float .f32 b] w fun e w' => e = .returned (.float .f64 (wdN b)) ∧ Kp w w' Nul := by
  cases hn : isN32 b with
  | true =>
    have e : wdN b = 9221120237041090560 := if_pos hn
    rw [e]
    exact (widen_nan b hb hn w).mono fun e w' h => ⟨h.1, by obtain ⟨d, hd⟩ := h.2; rw [hd]; exact (Kp.refl w Nul).drewN d⟩
  | false =>
    have e : wdN b = wdW (sgb32 b) (mag32 b) := if_neg (by rw [hn]; exact Bool.false_ne_true)
    have hm : mag32 b ≤ 2139095040 := by have := of_decide_eq_false hn; omega
    have h := widen_any (sgb32 b) (mag32 b) hm w
    rw [word_of b hb] at h
    rw [e]
    exact h.mono fun e w' h => ⟨h.1, by rw [h.2]; exact Kp.refl _ _⟩
/-- Behind FromDoubles and FromSingles: xs are the numbers, er the error. -/
inductive FrP (w : World) (xs : List Nat) : Nat → Ending → World → Prop
  | ok {b : Nat} {w' : World} (hb : w.heap.size ≤ b) (bl : Blk w' b (xs.map fun x => .float .f64 x) 36) (kp : Kp w w' Nul) : FrP w xs 0 (.returned (.tuple #[.slice (some ⟨b, 0, none⟩) xs.length xs.length, .int .i64 0])) w'
  | no {er : Nat} {w' : World} (h : er ≠ 0) (kp : Kp w w' Nul) : FrP w xs er (.returned (.tuple #[.slice none 0 0, .int .i64 er])) w'
theorem fl_set (f : Nat → Nat) (xs : List Nat) (i x : Nat) (hx : xs[i]? = some x) (hn : i < xs.length) :
    ((xs.take i).map (fun x => Value.float .f64 (f x)) ++ List.replicate (xs.length - i) (Value.float .f64 0)).set i (.float .f64 (f x)) = (xs.take (i + 1)).map (fun x => Value.float .f64 (f x)) ++ List.replicate (xs.length - (i + 1)) (Value.float .f64 0) := by
  have hl : ((xs.take i).map (fun x => Value.float .f64 (f x))).length = i := by rw [List.length_map, List.length_take]; omega
  have h1 : (xs.take i).map (fun x => Value.float .f64 (f x)) ++ List.replicate (xs.length - i) (Value.float .f64 0) = (xs.take i).map (fun x => Value.float .f64 (f x)) ++ (Value.float .f64 0 :: List.replicate (xs.length - (i + 1)) (Value.float .f64 0)) := by
    rw [show xs.length - i = (xs.length - (i + 1)) + 1 from by omega, List.replicate_succ]
  rw [h1, List.set_append_right _ _ (by omega), hl, Nat.sub_self, List.set_cons_zero, List.take_add_one, hx, List.map_append]
  simp
set_option maxRecDepth 40000 in
set_option maxHeartbeats 8000000 in
theorem fromD_at (l : List UInt8) (hl : l.length ≤ 9223372036854775807) (w : World) :
    Calls Tryz.prog 14 #[.string ⟨l.toArray⟩] w fun e w' => FrP w ((nums 8 l (hmN l.length 8).1).map one) (hmN l.length 8).2 e w' := by
  obtain ⟨n, hn⟩ : ∃ n, (hmN l.length 8).1 = n := ⟨_, rfl⟩
  obtain ⟨er, her⟩ : ∃ er, (hmN l.length 8).2 = er := ⟨_, rfl⟩
  have HM : Hid (∀ w, Calls Tryz.prog 38 #[.string ⟨l.toArray⟩, .int .i64 8] w fun e w' => e = .returned (.tuple #[.int .i64 n, .int .i64 er]) ∧ w' = w) := fun w => by
    have := howMany_at l 8 (by decide) hl w
    rw [hn, her] at this
    exact this
  rw [hn, her]
  have hcase : (er ≠ 0) ∨ (er = 0 ∧ n ≤ 65536 ∧ l.length = 8 * n) := by
    rw [← her, ← hn]
    unfold hmN
    by_cases q1 : l.length % 8 = 0
    · rw [if_pos q1]
      by_cases q2 : 65536 < l.length / 8
      · rw [if_pos q2]; exact .inl (by decide)
      · rw [if_neg q2]; exact .inr ⟨rfl, by show l.length / 8 ≤ _; omega, by show l.length = 8 * (l.length / 8); omega⟩
    · rw [if_neg q1]; exact .inl (by decide)
  clear hn her hl
  rcases hcase with h | ⟨rfl, hn1, hn2⟩
  · have hne : ((er : Int) != 0) = true := by simp; omega
    have HF : Hid (∀ xs, FrP w xs er (.returned (.tuple #[.slice none 0 0, .int .i64 er])) w) := fun xs => .no h (Kp.refl _ _)
    clear h
    go_enter Tryz.func14, Tryz.ntmps14
    go_wp2_with fail
    refine (HM.out _).mono ?_
    rintro e w1 ⟨rfl, hz⟩
    replace hz := hz.symm
    subst hz
    go_wp2_with fail
    refine bodyPost_ret (results_tmp2 rfl _ _ _) rfl ?_
    exact HF.out _
  · obtain ⟨xs, hxs⟩ : ∃ xs, nums 8 l n = xs := ⟨_, rfl⟩
    have hxl : xs.length = n := by rw [← hxs]; exact nums_len 8 n l
    rw [hxs]
    obtain ⟨W1, hW1⟩ : ∃ W1, w.alloc (.cells #[.string ⟨l.toArray⟩, .int .i64 0] 91) = W1 := ⟨_, rfl⟩
    have s1 : W1.heap.size = w.heap.size + 1 := by rw [← hW1, World.size_alloc]
    obtain ⟨W2, hW2⟩ : ∃ W2, W1.alloc (.cells (madeCells #[.float .f64 0] n) 36) = W2 := ⟨_, rfl⟩
    have hmk := make64 n hn1 W1
    rw [hW2, s1] at hmk
    have k1 : Kp w W1 Nul := by rw [← hW1]; exact (Kp.refl _ _).alloc _
    have k2 : Kp W1 W2 Nul := by rw [← hW2]; exact (Kp.refl _ _).alloc _
    have HR2 : Hid (Rr W2 w.heap.size l 0) := by
      have : Rr W1 w.heap.size l 0 := by rw [← hW1]; exact Blk.new w _ _
      exact this.kp k2 (fun x => x)
    have HB2 : Hid (Blk W2 (w.heap.size + 1) (List.replicate n (.float .f64 0)) 36) := by
      have := Blk.new W1 (List.replicate n (.float .f64 0)) 36
      rw [s1] at this
      show Blk _ _ _ _
      have e : madeCells #[.float .f64 0] n = (List.replicate n (Value.float .f64 0)).toArray := by rw [← made1]
      rw [← hW2, e]
      exact this
    have HK2 : Hid (Kp w W2 Nul) := k1.trans k2
    have HW1 : Hid (w.alloc (.cells #[.string ⟨l.toArray⟩, .int .i64 0] 91) = W1) := hW1
    have HNM : Hid (∀ d k W, Rr W w.heap.size d k → Calls Tryz.prog 33 #[.pointer (some ⟨w.heap.size, 0, none⟩), .int .i64 8] W fun e w' => RdP w.heap.size W k ((rNum 8 d).map fun p => (.int .u64 p.1, p.2)) e w') := fun d k W h => rnum_at _ d k 8 W h (by decide)
    have HO : Hid (∀ x w, x < 18446744073709551616 → Calls Tryz.prog 11 #[.float .f64 x] w fun e w' => e = .returned (.float .f64 (one x)) ∧ w' = w) := fun x w h => one_any x h w
    have HX : Hid (∀ i, i < n → xs[i]? = some (unle ((l.drop (8 * i)).take 8)) ∧ rNum 8 (l.drop (8 * i)) = some (unle ((l.drop (8 * i)).take 8), l.drop (8 * (i + 1)))) := fun i hi => by
      refine ⟨by rw [← hxs]; exact nums_get 8 n i l hi, ?_⟩
      unfold rNum
      rw [if_pos (by rw [List.length_drop]; omega), List.drop_drop]
      congr 3
    have HXL : Hid (xs.length = n ∧ n ≤ 65536) := ⟨hxl, hn1⟩
    clear hW1 hW2 k1 k2 s1 hxs hxl hn1 hn2
    go_enter Tryz.func14, Tryz.ntmps14
    go_wp2_with fail
    refine (HM.out _).mono ?_
    rintro e w1 ⟨rfl, hz⟩
    replace hz := hz.symm
    subst hz
    go_wp2_with (first | (rw [HW1.out]) | fail)
    go_loopw [23] (fun s23 wr => ∃ i : Nat, i ≤ n ∧ s23 = .int .i64 i ∧ Rr wr w.heap.size (l.drop (8 * i)) 0 ∧ Blk wr (w.heap.size + 1) ((xs.take i).map (fun x => .float .f64 (one x)) ++ List.replicate (xs.length - i) (.float .f64 0)) 36 ∧ Kp w wr Nul) (fun s23 _ => ((n : Int) - intOf s23).toNat)
    case atStart => exact ⟨0, Nat.zero_le _, by simp, by rw [Nat.mul_zero, List.drop_zero]; exact HR2.out, by rw [List.take_zero, List.map_nil, List.nil_append, Nat.sub_zero, HXL.out.1]; exact HB2.out, HK2.out⟩
    case round =>
      obtain ⟨i, hi, rfl, hr, hb, hk⟩ := hrel
      have HR : Hid (Rr wr w.heap.size (l.drop (8 * i)) 0) := hr
      have HB : Hid (Blk wr (w.heap.size + 1) ((xs.take i).map (fun x => .float .f64 (one x)) ++ List.replicate (xs.length - i) (.float .f64 0)) 36) := hb
      have HK : Hid (Kp w wr Nul) := hk
      clear hr hb hk hmk
      by_cases hlt : i < n
      · have hlt' : (i : Int) < (n : Int) := by omega
        have hi0 : (0 : Int) ≤ (i : Int) := by omega
        have hib : (i : Int) + 1 ≤ 9223372036854775807 := by have := HXL.out.2; omega
        obtain ⟨hx1, hx2⟩ := HX.out i hlt
        obtain ⟨x, hx⟩ : ∃ x, unle ((l.drop (8 * i)).take 8) = x := ⟨_, rfl⟩
        rw [hx] at hx1 hx2
        have hxl : x < 18446744073709551616 := by have := rNum_lt hx2; omega
        have HLT : Hid (i < n) := hlt
        have hfb := run_f64from24 x
        have HXL2 : Hid (x < 18446744073709551616) := hxl
        have HX1 : Hid (xs[i]? = some x) := hx1
        have HNM1 : Hid (Calls Tryz.prog 33 #[.pointer (some ⟨w.heap.size, 0, none⟩), .int .i64 8] wr fun e w' => RdP w.heap.size wr 0 (some (.int .u64 (x : Nat), l.drop (8 * (i + 1)))) e w') := by
          have := HNM.out _ _ wr HR.out
          rw [hx2] at this
          exact this
        clear hx hx1 hx2 hxl hlt hi
        go_wp2_with fail
        refine HNM1.out.mono ?_
        intro e w2 hr
        cases hr with
        | ok h2 kp2 =>
        have HR2' : Hid (Rr w2 w.heap.size (l.drop (8 * (i + 1))) 0) := h2
        have HB2' : Hid (Blk w2 (w.heap.size + 1) ((xs.take i).map (fun x => .float .f64 (one x)) ++ List.replicate (xs.length - i) (.float .f64 0)) 36) := HB.out.kp kp2 (fun e => by omega)
        have HK2' : Hid (Kp w w2 Nul) := HK.out.trans' kp2 (fun j hj e => by have e' : j = w.heap.size := e; omega)
        clear h2 kp2 HR HB HK HNM1
        go_wp2_with fail
        refine (HO.out x _ HXL2.out).mono ?_
        rintro e w3 ⟨rfl, hz⟩
        replace hz := hz.symm
        subst hz
        have hcl : w2.cell? ⟨w.heap.size + 1, i, none⟩ = some (.float .f64 0) := HB2'.out.cell (by
          have h1 := HXL.out.1
          have h2 := HLT.out
          rw [List.getElem?_append_right (by rw [List.length_map, List.length_take]; omega), List.length_map, List.length_take, Nat.min_eq_left (by omega), Nat.sub_self, List.getElem?_replicate, if_pos (by omega)])
        have hfz : w2.frozen? ⟨w.heap.size + 1, i, none⟩ = false := HB2'.out.froz i
        have HNX : Hid (Rr (w2.setCell ⟨w.heap.size + 1, i, none⟩ (.float .f64 (one x))) w.heap.size (l.drop (8 * (i + 1))) 0 ∧ Blk (w2.setCell ⟨w.heap.size + 1, i, none⟩ (.float .f64 (one x))) (w.heap.size + 1) ((xs.take (i + 1)).map (fun x => .float .f64 (one x)) ++ List.replicate (xs.length - (i + 1)) (.float .f64 0)) 36 ∧ Kp w (w2.setCell ⟨w.heap.size + 1, i, none⟩ (.float .f64 (one x))) Nul) := by
          refine ⟨HR2'.out.other _ _ (by simp), ?_, HK2'.out.setCell ⟨w.heap.size + 1, i, none⟩ _ (.inl (by show w.heap.size ≤ w.heap.size + 1; omega))⟩
          have := HB2'.out.set i (.float .f64 (one x))
          rw [fl_set one xs i x HX1.out (by have := HXL.out.1; have := HLT.out; omega)] at this
          exact this
        clear hfb
        go_wp2_with fail
        go_roundw
        case rel => exact ⟨i + 1, by have := HLT.out; omega, by go_num, HNX.out⟩
        case measure => simp only [intOf]; have := HLT.out; omega
      · have hie : i = n := by omega
        subst hie
        have HT : Hid ((xs.take i).map (fun x => Value.float .f64 (one x)) ++ List.replicate (xs.length - i) (Value.float .f64 0) = (xs.map one).map (fun x => Value.float .f64 x)) := by
          show _ = _
          rw [HXL.out.1, Nat.sub_self, List.replicate_zero, List.append_nil, ← HXL.out.1, List.take_length, List.map_map]
          rfl
        have HF : Hid (FrP w (xs.map one) 0 (.returned (.tuple #[.slice (some ⟨w.heap.size + 1, 0, none⟩) i i, .int .i64 0])) wr) := by
          have hb := HB.out
          rw [HT.out] at hb
          have := FrP.ok (w := w) (xs := xs.map one) (b := w.heap.size + 1) (by omega) hb HK.out
          rw [List.length_map, HXL.out.1] at this
          exact this
        clear hi hlt
        go_wp2_with fail
        refine bodyPost_ret (results_tmp2 rfl _ _ _) rfl ?_
        exact HF.out
end Go.Proofs.YthgeojgfjpcelabGreatDoor
namespace Go.Proofs.YthgeojgfjpcelabGreatDoor
open Go.RowKit Go.Shelf

theorem run_f32from24 (b : Nat) (w : World) : (callFunc 40 #[.int .u32 (b : Int)]).run Tryz.prog w = .ok (.value (.float .f32 b)) w := by
  have := run_f32frombits (b : Int) w
  rwa [Int.toNat_natCast] at this
theorem run_u64u32 (n : Nat) (hn : n < 4294967296) (w : World) : (convert 39 85 (.int .u64 n)).run Tryz.prog w = .ok (.int .u32 n) w := by
  have e : (n : Int) % 4294967296 = n := by omega
  simp [go_sem, convert, run_underlying Tryz.underlying39, run_underlying Tryz.underlying85, IntKind.wrap, IntKind.signed, e]
set_option maxRecDepth 40000 in
set_option maxHeartbeats 8000000 in
theorem fromS_at (l : List UInt8) (hl : l.length ≤ 9223372036854775807) (w : World) :
    Calls Tryz.prog 16 #[.string ⟨l.toArray⟩] w fun e w' => FrP w ((nums 4 l (hmN l.length 4).1).map wdN) (hmN l.length 4).2 e w' := by
  obtain ⟨n, hn⟩ : ∃ n, (hmN l.length 4).1 = n := ⟨_, rfl⟩
  obtain ⟨er, her⟩ : ∃ er, (hmN l.length 4).2 = er := ⟨_, rfl⟩
  have HM : Hid (∀ w, Calls Tryz.prog 38 #[.string ⟨l.toArray⟩, .int .i64 4] w fun e w' => e = .returned (.tuple #[.int .i64 n, .int .i64 er]) ∧ w' = w) := fun w => by
    have := howMany_at l 4 (by decide) hl w
    rw [hn, her] at this
    exact this
  rw [hn, her]
  have hcase : (er ≠ 0) ∨ (er = 0 ∧ n ≤ 65536 ∧ l.length = 4 * n) := by
    rw [← her, ← hn]
    unfold hmN
    by_cases q1 : l.length % 4 = 0
    · rw [if_pos q1]
      by_cases q2 : 65536 < l.length / 4
      · rw [if_pos q2]; exact .inl (by decide)
      · rw [if_neg q2]; exact .inr ⟨rfl, by show l.length / 4 ≤ _; omega, by show l.length = 4 * (l.length / 4); omega⟩
    · rw [if_neg q1]; exact .inl (by decide)
  clear hn her hl
  rcases hcase with h | ⟨rfl, hn1, hn2⟩
  · have hne : ((er : Int) != 0) = true := by simp; omega
    have HF : Hid (∀ xs, FrP w xs er (.returned (.tuple #[.slice none 0 0, .int .i64 er])) w) := fun xs => .no h (Kp.refl _ _)
    clear h
    go_enter Tryz.func16, Tryz.ntmps16
    go_wp2_with fail
    refine (HM.out _).mono ?_
    rintro e w1 ⟨rfl, hz⟩
    replace hz := hz.symm
    subst hz
    go_wp2_with fail
    refine bodyPost_ret (results_tmp2 rfl _ _ _) rfl ?_
    exact HF.out _
  · obtain ⟨xs, hxs⟩ : ∃ xs, nums 4 l n = xs := ⟨_, rfl⟩
    have hxl : xs.length = n := by rw [← hxs]; exact nums_len 4 n l
    rw [hxs]
    obtain ⟨W1, hW1⟩ : ∃ W1, w.alloc (.cells #[.string ⟨l.toArray⟩, .int .i64 0] 91) = W1 := ⟨_, rfl⟩
    have s1 : W1.heap.size = w.heap.size + 1 := by rw [← hW1, World.size_alloc]
    obtain ⟨W2, hW2⟩ : ∃ W2, W1.alloc (.cells (madeCells #[.float .f64 0] n) 36) = W2 := ⟨_, rfl⟩
    have hmk := make64 n hn1 W1
    rw [hW2, s1] at hmk
    have k1 : Kp w W1 Nul := by rw [← hW1]; exact (Kp.refl _ _).alloc _
    have k2 : Kp W1 W2 Nul := by rw [← hW2]; exact (Kp.refl _ _).alloc _
    have HR2 : Hid (Rr W2 w.heap.size l 0) := by
      have : Rr W1 w.heap.size l 0 := by rw [← hW1]; exact Blk.new w _ _
      exact this.kp k2 (fun x => x)
    have HB2 : Hid (Blk W2 (w.heap.size + 1) (List.replicate n (.float .f64 0)) 36) := by
      have := Blk.new W1 (List.replicate n (.float .f64 0)) 36
      rw [s1] at this
      show Blk _ _ _ _
      have e : madeCells #[.float .f64 0] n = (List.replicate n (Value.float .f64 0)).toArray := by rw [← made1]
      rw [← hW2, e]
      exact this
    have HK2 : Hid (Kp w W2 Nul) := k1.trans k2
    have HW1 : Hid (w.alloc (.cells #[.string ⟨l.toArray⟩, .int .i64 0] 91) = W1) := hW1
    have HNM : Hid (∀ d k W, Rr W w.heap.size d k → Calls Tryz.prog 33 #[.pointer (some ⟨w.heap.size, 0, none⟩), .int .i64 4] W fun e w' => RdP w.heap.size W k ((rNum 4 d).map fun p => (.int .u64 p.1, p.2)) e w') := fun d k W h => rnum_at _ d k 4 W h (by decide)
    have HO : Hid (∀ x w, x < 4294967296 → Calls Tryz.prog 19 #[.float .f32 x] w fun e w' => e = .returned (.float .f64 (wdN x)) ∧ Kp w w' Nul) := fun x w h => widen24 x h w
    have HX : Hid (∀ i, i < n → xs[i]? = some (unle ((l.drop (4 * i)).take 4)) ∧ rNum 4 (l.drop (4 * i)) = some (unle ((l.drop (4 * i)).take 4), l.drop (4 * (i + 1)))) := fun i hi => by
      refine ⟨by rw [← hxs]; exact nums_get 4 n i l hi, ?_⟩
      unfold rNum
      rw [if_pos (by rw [List.length_drop]; omega), List.drop_drop]
      congr 3
    have HXL : Hid (xs.length = n ∧ n ≤ 65536) := ⟨hxl, hn1⟩
    clear hW1 hW2 k1 k2 s1 hxs hxl hn1 hn2
    go_enter Tryz.func16, Tryz.ntmps16
    go_wp2_with fail
    refine (HM.out _).mono ?_
    rintro e w1 ⟨rfl, hz⟩
    replace hz := hz.symm
    subst hz
    go_wp2_with (first | (rw [HW1.out]) | fail)
    go_loopw [23] (fun s23 wr => ∃ i : Nat, i ≤ n ∧ s23 = .int .i64 i ∧ Rr wr w.heap.size (l.drop (4 * i)) 0 ∧ Blk wr (w.heap.size + 1) ((xs.take i).map (fun x => .float .f64 (wdN x)) ++ List.replicate (xs.length - i) (.float .f64 0)) 36 ∧ Kp w wr Nul) (fun s23 _ => ((n : Int) - intOf s23).toNat)
    case atStart => exact ⟨0, Nat.zero_le _, by simp, by rw [Nat.mul_zero, List.drop_zero]; exact HR2.out, by rw [List.take_zero, List.map_nil, List.nil_append, Nat.sub_zero, HXL.out.1]; exact HB2.out, HK2.out⟩
    case round =>
      obtain ⟨i, hi, rfl, hr, hb, hk⟩ := hrel
      have HR : Hid (Rr wr w.heap.size (l.drop (4 * i)) 0) := hr
      have HB : Hid (Blk wr (w.heap.size + 1) ((xs.take i).map (fun x => .float .f64 (wdN x)) ++ List.replicate (xs.length - i) (.float .f64 0)) 36) := hb
      have HK : Hid (Kp w wr Nul) := hk
      clear hr hb hk hmk
      by_cases hlt : i < n
      · have hlt' : (i : Int) < (n : Int) := by omega
        have hi0 : (0 : Int) ≤ (i : Int) := by omega
        have hib : (i : Int) + 1 ≤ 9223372036854775807 := by have := HXL.out.2; omega
        obtain ⟨hx1, hx2⟩ := HX.out i hlt
        obtain ⟨x, hx⟩ : ∃ x, unle ((l.drop (4 * i)).take 4) = x := ⟨_, rfl⟩
        rw [hx] at hx1 hx2
        have hxl : x < 4294967296 := by have := rNum_lt hx2; omega
        have HLT : Hid (i < n) := hlt
        have hfb := run_f32from24 x
        have hcv := run_u64u32 x hxl
        have HXL2 : Hid (x < 4294967296) := hxl
        have HX1 : Hid (xs[i]? = some x) := hx1
        have HNM1 : Hid (Calls Tryz.prog 33 #[.pointer (some ⟨w.heap.size, 0, none⟩), .int .i64 4] wr fun e w' => RdP w.heap.size wr 0 (some (.int .u64 (x : Nat), l.drop (4 * (i + 1)))) e w') := by
          have := HNM.out _ _ wr HR.out
          rw [hx2] at this
          exact this
        clear hx hx1 hx2 hxl hlt hi
        go_wp2_with fail
        refine HNM1.out.mono ?_
        intro e w2 hr
        cases hr with
        | ok h2 kp2 =>
        have HR2' : Hid (Rr w2 w.heap.size (l.drop (4 * (i + 1))) 0) := h2
        have HB2' : Hid (Blk w2 (w.heap.size + 1) ((xs.take i).map (fun x => .float .f64 (wdN x)) ++ List.replicate (xs.length - i) (.float .f64 0)) 36) := HB.out.kp kp2 (fun e => by omega)
        have HK2' : Hid (Kp w w2 Nul) := HK.out.trans' kp2 (fun j hj e => by have e' : j = w.heap.size := e; omega)
        clear h2 kp2 HR HB HK HNM1
        go_wp2_with fail
        refine (HO.out x _ HXL2.out).mono ?_
        rintro e w3 ⟨rfl, k3⟩
        have HR3' : Hid (Rr w3 w.heap.size (l.drop (4 * (i + 1))) 0) := HR2'.out.kp k3 (fun x => x)
        have HB3' : Hid (Blk w3 (w.heap.size + 1) ((xs.take i).map (fun x => .float .f64 (wdN x)) ++ List.replicate (xs.length - i) (.float .f64 0)) 36) := HB2'.out.kp k3 (fun x => x)
        have HK3' : Hid (Kp w w3 Nul) := HK2'.out.trans k3
        clear k3 HR2' HB2' HK2'
        have hcl : w3.cell? ⟨w.heap.size + 1, i, none⟩ = some (.float .f64 0) := HB3'.out.cell (by
          have h1 := HXL.out.1
          have h2 := HLT.out
          rw [List.getElem?_append_right (by rw [List.length_map, List.length_take]; omega), List.length_map, List.length_take, Nat.min_eq_left (by omega), Nat.sub_self, List.getElem?_replicate, if_pos (by omega)])
        have hfz : w3.frozen? ⟨w.heap.size + 1, i, none⟩ = false := HB3'.out.froz i
        have HNX : Hid (Rr (w3.setCell ⟨w.heap.size + 1, i, none⟩ (.float .f64 (wdN x))) w.heap.size (l.drop (4 * (i + 1))) 0 ∧ Blk (w3.setCell ⟨w.heap.size + 1, i, none⟩ (.float .f64 (wdN x))) (w.heap.size + 1) ((xs.take (i + 1)).map (fun x => .float .f64 (wdN x)) ++ List.replicate (xs.length - (i + 1)) (.float .f64 0)) 36 ∧ Kp w (w3.setCell ⟨w.heap.size + 1, i, none⟩ (.float .f64 (wdN x))) Nul) := by
          refine ⟨HR3'.out.other _ _ (by simp), ?_, HK3'.out.setCell ⟨w.heap.size + 1, i, none⟩ _ (.inl (by show w.heap.size ≤ w.heap.size + 1; omega))⟩
          have := HB3'.out.set i (.float .f64 (wdN x))
          rw [fl_set wdN xs i x HX1.out (by have := HXL.out.1; have := HLT.out; omega)] at this
          exact this
        clear hfb hcv
        go_wp2_with fail
        go_roundw
        case rel => exact ⟨i + 1, by have := HLT.out; omega, by go_num, HNX.out⟩
        case measure => simp only [intOf]; have := HLT.out; omega
      · have hie : i = n := by omega
        subst hie
        have HT : Hid ((xs.take i).map (fun x => Value.float .f64 (wdN x)) ++ List.replicate (xs.length - i) (Value.float .f64 0) = (xs.map wdN).map (fun x => Value.float .f64 x)) := by
          show _ = _
          rw [HXL.out.1, Nat.sub_self, List.replicate_zero, List.append_nil, ← HXL.out.1, List.take_length, List.map_map]
          rfl
        have HF : Hid (FrP w (xs.map wdN) 0 (.returned (.tuple #[.slice (some ⟨w.heap.size + 1, 0, none⟩) i i, .int .i64 0])) wr) := by
          have hb := HB.out
          rw [HT.out] at hb
          have := FrP.ok (w := w) (xs := xs.map wdN) (b := w.heap.size + 1) (by omega) hb HK.out
          rw [List.length_map, HXL.out.1] at this
          exact this
        clear hi hlt
        go_wp2_with fail
        refine bodyPost_ret (results_tmp2 rfl _ _ _) rfl ?_
        exact HF.out
end Go.Proofs.YthgeojgfjpcelabGreatDoor
namespace Go.Proofs.YthgeojgfjpcelabGreatDoor
open Go.RowKit Go.Shelf
open Ieee

theorem sp24 (x : Nat) (hf : mag x < 9218868437227405312) (z : ¬ mag x = 0) : (spMz x).toNat = Fl.mantOf (mag x) ∧ spE x = Fl.placeOf (mag x) := by
  constructor
  · unfold spMz spM
    rw [Int.toNat_natCast]
    generalize mag x = g at *
    unfold Fl.mantOf
    have h : ¬ 9218868437227405312 ≤ g := by omega
    rw [if_neg h, Nat.add_comm]
  · unfold spE
    generalize mag x = g at *
    unfold Fl.placeOf
    have h : ¬ 9218868437227405312 ≤ g := by omega
    rw [if_neg h, if_neg z]
    by_cases c : g < 4503599627370496
    · rw [if_pos c]; omega
    · rw [if_neg c]; omega
theorem near_self (x : Nat) (hx : x < 18446744073709551616) (hf : mag x < 9218868437227405312) (z : ¬ mag x = 0) :
    double.nearest (sgb x) (oddM (spMz x)) (oddE (spMz x) (spE x)) = x ∧ oddM (spMz x) ≠ 0 := by
  have hw := word_mag x hx
  have z' : ¬ spMz x = 0 := fun c => z ((spMz_0 x hf).1 c)
  have mb := spMz_bd x
  obtain ⟨_, _, o1, m1, _⟩ := odd_facts (spMz x) (by omega) (by omega)
  obtain ⟨e2, e3⟩ := sp24 x hf z
  have c : Fl.canon (spMz x).toNat (spE x) := by rw [e2, e3]; exact Fl.canon_of _
  have r : Fl.rungOf (spMz x).toNat (spE x) = mag x := by rw [e2, e3]; exact Fl.rungOf_of _
  have s := Fl.nearest_shift (sgb x) (oddM (spMz x)) (oddE (spMz x) (spE x)) (Lib.ctz 64 (spMz x).toNat)
  refine ⟨?_, by omega⟩
  rw [← s, ← m1, show oddE (spMz x) (spE x) - (Lib.ctz 64 (spMz x).toNat : Nat) = spE x by unfold oddE; omega, Fl.nearest_canon _ c, r, Nat.min_eq_left (Nat.le_of_lt hf), hw]
/-- What is a single is one that was widened. -/
theorem sgl_wd (x : Nat) (hx : x < 18446744073709551616) (hn : isN x = false) (hs : sgl x = true) : ∃ r, r ≤ 2139095040 ∧ wdW (sgb x) r = x := by
  have hm := isN_not hn
  have hw := word_mag x hx
  by_cases hi : mag x = 9218868437227405312
  · exact ⟨2139095040, Nat.le_refl _, by unfold wdW; rw [if_pos rfl, ← hi]; exact hw⟩
  · by_cases h0 : mag x = 0
    · exact ⟨0, by decide, by unfold wdW; rw [if_neg (by decide), if_pos rfl, ← h0]; exact hw⟩
    · have hf : mag x < 9218868437227405312 := by omega
      obtain ⟨e1, e2⟩ := near_self x hx hf h0
      unfold sgl hld at hs
      rw [if_neg (by omega)] at hs
      have hs := of_decide_eq_true hs
      generalize oddM (spMz x) = m at *
      generalize oddE (spMz x) (spE x) = p at *
      have hl : m.log2 < 24 := by omega
      have f : Fs.Fits m p := ⟨e2, (Nat.log2_lt e2).1 hl, by omega, by omega⟩
      obtain ⟨k, c, r1, _, _⟩ := Fs.fit (sgb x) f
      have h1 := Fs.read_canon (sgb x) c r1
      have h2 := Fs.read_fin (sgb x) _ r1
      rw [h1] at h2
      injection h2 with _ h3 h4
      have hM : m * 2 ^ k ≠ 0 := Nat.mul_ne_zero e2 (by have := Nat.two_pow_pos k; omega)
      refine ⟨Fs.rungOf (m * 2 ^ k) (p - k), Nat.le_of_lt r1, ?_⟩
      unfold wdW
      rw [if_neg (Nat.ne_of_lt r1), if_neg (fun e => hM (by unfold Fs.rungOf at e; exact (Nat.add_eq_zero_iff.1 e).2)), ← h3, ← h4, Fl.nearest_shift]
      exact e1
theorem wdN_word (s : Bool) (r : Nat) (h : r ≤ 2139095040) : wdN (single.word s r) = wdW s r := by
  obtain ⟨_, h2, h3, _⟩ := word32_lt s r h
  unfold wdN
  rw [if_neg (by unfold isN32; rw [h2, decide_eq_true_eq]; omega), h2, h3]
theorem wdN_nan : wdN 2143289344 = 9221120237041090560 := by decide
theorem isN_nan : isN 9221120237041090560 = true := by decide
theorem sW_nan {mode : Int} {b : Nat} (h : isN b = true) : sW mode b = 2143289344 := if_pos h
theorem sI_nan {mode : Int} {b : Nat} (h : isN b = true) : sI mode b = false := by unfold sI; rw [h, Bool.not_true, Bool.false_and]
theorem sW_num {mode : Int} {b : Nat} (h : isN b = false) : sW mode b = nwW mode b := if_neg (by rw [h]; exact Bool.false_ne_true)
theorem sI_num {mode : Int} {b : Nat} (h : isN b = false) : sI mode b = nwI mode b := by unfold sI; rw [h, Bool.not_false, Bool.true_and]
/-- A single of a list of singles is it. -/
theorem sgl_back (mode : Int) (x : Nat) (hx : x < 18446744073709551616) (ho : one x = x) (hs : sgl x = true) : sI mode x = false ∧ wdN (sW mode x) = x := by
  cases hn : isN x with
  | true =>
    refine ⟨sI_nan hn, ?_⟩
    rw [sW_nan hn, wdN_nan, ← ho]
    unfold one
    rw [if_pos (isN_of hn)]
  | false =>
    obtain ⟨r, h1, h2⟩ := sgl_wd x hx hn hs
    obtain ⟨b1, b2, _, _⟩ := back_single mode (sgb x) r h1
    rw [h2] at b1 b2
    exact ⟨by rw [sI_num hn]; exact b2, by rw [sW_num hn, b1, wdN_word _ r h1, h2]⟩
/-- What was narrowed and widened is narrowed to the same, and is just that. -/
theorem wd_back (mode : Int) (x : Nat) : wdN (sW mode x) < 18446744073709551616 ∧ one (wdN (sW mode x)) = wdN (sW mode x) ∧ sW mode (wdN (sW mode x)) = sW mode x ∧ sI mode (wdN (sW mode x)) = false := by
  cases hn : isN x with
  | true =>
    rw [sW_nan hn, wdN_nan, sW_nan isN_nan, sI_nan isN_nan]
    exact ⟨by decide, by decide, rfl, rfl⟩
  | false =>
    obtain ⟨r, h1, h2⟩ := sW_word mode x hn
    obtain ⟨w1, w2⟩ := wd_word (sgb x) r h1
    obtain ⟨b1, b2, _, _⟩ := back_single mode (sgb x) r h1
    rw [h2, wdN_word _ r h1]
    exact ⟨w1, by unfold one; rw [if_neg (isN_not w2)], by rw [sW_num w2, b1], by rw [sI_num w2, b2]⟩
theorem nums_le (s : Nat) (f : Nat → Nat) : ∀ (l : List Nat), (∀ x ∈ l, f x < 256 ^ s) → nums s (l.flatMap fun b => le s (f b)) l.length = l.map f
  | [], _ => rfl
  | a :: l, h => by
    rw [List.flatMap_cons, List.length_cons, nums, List.map_cons, List.take_left' (le_len s _), List.drop_left' (le_len s _), unle_le, Nat.mod_eq_of_lt (h a (by simp)), nums_le s f l (fun x hx => h x (by simp [hx]))]
theorem nums_db (l : List Nat) (h : ∀ x ∈ l, x < 18446744073709551616 ∧ one x = x) : (nums 8 (dbB l) l.length).map one = l := by
  unfold dbB
  rw [nums_le 8 one l (fun x hx => by rw [(h x hx).2]; have := (h x hx).1; show x < 256 ^ 8; omega), List.map_map]
  refine (List.map_congr_left (g := id) fun x hx => ?_).trans (List.map_id _)
  show one (one x) = x
  rw [(h x hx).2, (h x hx).2]
theorem nums_sn (mode : Int) (l : List Nat) : (nums 4 (snB mode l) l.length).map wdN = l.map fun x => wdN (sW mode x) := by
  unfold snB
  rw [nums_le 4 (sW mode) l (fun x _ => by have := sW_lt mode x; show _ < 256 ^ 4; omega), List.map_map]
  rfl
theorem snB_wd (mode : Int) (l : List Nat) : snB mode (l.map fun x => wdN (sW mode x)) = snB mode l ∧ snI mode (l.map fun x => wdN (sW mode x)) = 0 := by
  constructor
  · unfold snB
    rw [List.flatMap_map]
    congr 1
    funext x
    rw [(wd_back mode x).2.2.1]
  · unfold snI
    rw [List.length_eq_zero_iff, List.filter_eq_nil_iff]
    intro y hy
    obtain ⟨x, _, rfl⟩ := List.mem_map.1 hy
    rw [(wd_back mode x).2.2.2]
    exact Bool.false_ne_true
theorem snB_cut (mode : Int) (l : List Nat) (c : Nat) : snB mode (l.take c) ++ snB mode (l.drop c) = snB mode l ∧ snI mode (l.take c) + snI mode (l.drop c) = snI mode l := by
  constructor
  · unfold snB
    rw [← List.flatMap_append, List.take_append_drop]
  · unfold snI
    rw [← List.length_append, ← List.filter_append, List.take_append_drop]
/-- A block of numbers is a slice of them. -/
theorem FlAt.of_blk {w : World} {b n c : Nat} {l : List Nat} {T : TypeId} (h : Blk w b (l.map fun x => .float .f64 x) T) (hl : ∀ x ∈ l, x < 18446744073709551616) (hn : l.length = n) : FlAt w (.slice (some ⟨b, 0, none⟩) n c) l := by
  subst hn
  refine ⟨_, c, rfl, fun i x hx => ⟨hl x (List.mem_of_getElem? hx), b, 0, rfl, h.lt, ?_⟩⟩
  rw [Nat.zero_add]
  exact h.cell (by rw [List.getElem?_map, hx]; rfl)
end Go.Proofs.YthgeojgfjpcelabGreatDoor
