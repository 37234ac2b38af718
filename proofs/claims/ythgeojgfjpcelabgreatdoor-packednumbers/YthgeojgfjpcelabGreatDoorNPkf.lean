/- Packed: the writer's number, small, text, truth, double, place, ref, value. Packed: the writer's double, ref, value, field. Packed: the writer's field; the table of shapes. -/
import Derived.Test.YthgeojgfjpcelabGreatDoorNXk
import Derived.Test.YthgeojgfjpcelabGreatDoorNWa
import Derived.Test.YthgeojgfjpcelabGreatDoorNQa
namespace Go.Proofs.YthgeojgfjpcelabGreatDoor
open Go.RowKit Go.Shelf

theorem le_succ : ∀ (i n : Nat), le (i + 1) n = le i n ++ [UInt8.ofNat (n / 256 ^ i)]
  | 0, n => by rw [le, le, le, Nat.pow_zero, Nat.div_one]; rfl
  | i + 1, n => by
    rw [le, le_succ i, le, List.cons_append, Nat.div_div_eq_div_mul, Nat.pow_succ, Nat.mul_comm 256]
/-- Behind a writer's call: the bytes are l. -/
def WrR (b : Nat) (l : List UInt8) (w : World) (g : Option Nat) (e : Ending) (w' : World) : Prop := e = .returned (.tuple #[]) ∧ ∃ g', Bw w' b g' l ∧ Wr b w w' g g'
theorem run_u8 (x : Nat) (w : World) : (convert 39 5 (.int .u64 x)).run Tryz.prog w = .ok (.int .u8 (UInt8.ofNat x).toNat) w := by
  have e : ((UInt8.ofNat x).toNat : Int) = (x : Int) % 256 := by rw [UInt8.toNat_ofNat']; omega
  rw [e]
  simp [go_sem, convert, run_underlying Tryz.underlying39, run_underlying Tryz.underlying5, IntKind.wrap, IntKind.signed]
set_option maxRecDepth 20000 in
set_option maxHeartbeats 2000000 in
theorem wnum_at (b : Nat) (g : Option Nat) (l : List UInt8) (n k : Nat) (w : World) (hn : n < 18446744073709551616) (h : Bw w b g l) (hl : l.length + k ≤ 140737488355328) :
    Calls Tryz.prog 24 #[.pointer (some ⟨b, 0, none⟩), .int .u64 n, .int .i64 k] w fun e w' => WrR b (l ++ le k n) w g e w' := by
  have H : Hid (∀ c g l w, Bw w b g l → l.length + 1 ≤ 140737488355328 → Calls Tryz.prog 57 #[.pointer (some ⟨b, 0, none⟩), .int .u8 (UInt8.toNat c)] w fun e w' => e = .returned .nilIface ∧ ∃ g', Bw w' b g' (l ++ [c]) ∧ Wr b w w' g g') := fun c g l w h hl => wbyte_at b g l c w h hl
  have HB : Hid (Bw w b g l) := h
  have HL : Hid (l.length + k ≤ 140737488355328) := hl
  have HN : Hid (n < 18446744073709551616) := hn
  have hk : (k : Int) ≤ 9223372036854775806 := by omega
  clear h hl hn
  go_enter Tryz.func24, Tryz.ntmps24
  go_wp2_with fail
  go_loopw [1, 7] (fun sn si wr => ∃ i : Nat, i ≤ k ∧ sn = .int .u64 ((n / 256 ^ i : Nat) : Int) ∧ si = .int .i64 i ∧ ∃ g', Bw wr b g' (l ++ le i n) ∧ Wr b w wr g g') (fun _ si _ => ((k : Int) - intOf si).toNat)
  case atStart => exact ⟨0, Nat.zero_le _, by simp, by simp, g, by rw [le, List.append_nil]; exact HB.out, Wr.refl _ _ _⟩
  case round =>
    obtain ⟨i, hi, rfl, rfl, g1, hb1, hw1⟩ := hrel
    have HB1 : Hid (Bw wr b g1 (l ++ le i n)) := hb1
    have HW1 : Hid (Wr b w wr g g1) := hw1
    clear hb1 hw1
    by_cases hlt : i < k
    · have hlt' : (i : Int) < (k : Int) := by omega
      obtain ⟨x, hx⟩ : ∃ x, n / 256 ^ i = x := ⟨_, rfl⟩
      have HX : Hid (n / 256 ^ i = x) := hx
      have hxl : x < 18446744073709551616 := by rw [← hx]; exact Nat.lt_of_le_of_lt (Nat.div_le_self _ _) HN.out
      rw [hx]
      have hcv := run_u8 x
      clear hx
      go_wp2_with fail
      refine (H.out (UInt8.ofNat x) g1 _ _ HB1.out (by rw [List.length_append, le_len]; have := HL.out; omega)).mono ?_
      rintro e w2 ⟨rfl, g2, hb2, hw2⟩
      have HB2 : Hid (Bw w2 b g2 (l ++ le (i + 1) n)) := by show Bw _ _ _ _; rw [le_succ, HX.out, ← List.append_assoc]; exact hb2
      have HW2 : Hid (Wr b w w2 g g2) := HW1.out.trans hw2
      have HX2 : Hid (((n / 256 ^ (i + 1) : Nat) : Int) = (x : Int) / 256) := by show _ = _; rw [Nat.pow_succ, ← Nat.div_div_eq_div_mul, HX.out]; omega
      clear hb2 hw2 hcv
      go_wp2_with fail
      go_roundw
      case rel => exact ⟨i + 1, by omega, by rw [HX2.out], by go_num, g2, HB2.out, HW2.out⟩
      case measure => simp only [intOf]; omega
    · have hie : i = k := by omega
      subst hie
      go_wp2_with fail
      go_end0
      exact ⟨rfl, g1, HB1.out, HW1.out⟩
theorem run_u64 (n : Nat) (hn : n < 9223372036854775808) (w : World) : (convert 3 39 (.int .i64 n)).run Tryz.prog w = .ok (.int .u64 n) w := by
  have e : (n : Int) % 18446744073709551616 = n := by omega
  simp [go_sem, convert, run_underlying Tryz.underlying39, run_underlying Tryz.underlying3, IntKind.wrap, IntKind.signed, e]
set_option maxHeartbeats 1000000 in
theorem wsmall_at (b : Nat) (g : Option Nat) (l : List UInt8) (n : Nat) (w : World) (hn : n < 9223372036854775808) (h : Bw w b g l) (hl : l.length + 1 ≤ 140737488355328) :
    Calls Tryz.prog 60 #[.pointer (some ⟨b, 0, none⟩), .int .i64 n] w fun e w' => WrR b (l ++ [UInt8.ofNat n]) w g e w' := by
  have H : Hid (Calls Tryz.prog 24 #[.pointer (some ⟨b, 0, none⟩), .int .u64 n, .int .i64 1] w fun e w' => WrR b (l ++ le 1 n) w g e w') := wnum_at b g l n 1 w (by omega) h hl
  have hc := run_u64 n hn
  clear h hl hn
  go_enter Tryz.func60, Tryz.ntmps60
  go_wp2_with fail
  refine H.out.mono ?_
  rintro e w1 ⟨rfl, h⟩
  have HH : Hid (∃ g', Bw w1 b g' (l ++ le 1 n) ∧ Wr b w w1 g g') := h
  clear h H hc
  go_wp2_with fail
  go_end0
  exact ⟨rfl, HH.out⟩
set_option maxHeartbeats 1000000 in
theorem wtext_at (b : Nat) (g : Option Nat) (l : List UInt8) (s : ByteArray) (w : World) (hs : s.size < 65536) (h : Bw w b g l) (hl : l.length + (2 + s.size) ≤ 140737488355328) :
    Calls Tryz.prog 92 #[.pointer (some ⟨b, 0, none⟩), .string s] w fun e w' => WrR b (l ++ txtB s) w g e w' := by
  have H : Hid (Calls Tryz.prog 24 #[.pointer (some ⟨b, 0, none⟩), .int .u64 s.size, .int .i64 2] w fun e w' => WrR b (l ++ le 2 s.size) w g e w') := wnum_at b g l s.size 2 w (by omega) h (by omega)
  have H2 : Hid (∀ g' w', Bw w' b g' (l ++ le 2 s.size) → Calls Tryz.prog 23 #[.pointer (some ⟨b, 0, none⟩), .string s] w' fun e w2 => (∃ v, e = .returned v) ∧ ∃ g2, Bw w2 b g2 (l ++ txtB s) ∧ Wr b w' w2 g' g2) := fun g' w' h' => by
    have := wstr_at b g' (l ++ le 2 s.size) s w' h' (by rw [List.length_append, le_len]; omega)
    rw [List.append_assoc] at this
    exact this
  have hc := run_u64 s.size (by omega)
  clear h hl hs
  go_enter Tryz.func92, Tryz.ntmps92
  go_wp2_with fail
  refine H.out.mono ?_
  rintro e w1 ⟨rfl, g1, hb1, hw1⟩
  have HB : Hid (Bw w1 b g1 (l ++ le 2 s.size)) := hb1
  have HW : Hid (Wr b w w1 g g1) := hw1
  clear hb1 hw1 H hc
  go_wp2_with fail
  refine (H2.out _ _ HB.out).mono ?_
  rintro e w2 ⟨⟨v, rfl⟩, g2, hb2, hw2⟩
  have HH : Hid (∃ g', Bw w2 b g' (l ++ txtB s) ∧ Wr b w w2 g g') := ⟨g2, hb2, HW.out.trans hw2⟩
  clear hb2 hw2 H2 HB HW
  go_wp2_with fail
  go_end0
  exact ⟨rfl, HH.out⟩
set_option maxHeartbeats 1000000 in
theorem wtruth_at (b : Nat) (g : Option Nat) (l : List UInt8) (t : Bool) (w : World) (h : Bw w b g l) (hl : l.length + 1 ≤ 140737488355328) :
    Calls Tryz.prog 93 #[.pointer (some ⟨b, 0, none⟩), .bool t] w fun e w' => WrR b (l ++ [tb t]) w g e w' := by
  have H : Hid (∀ n : Nat, n < 2 → Calls Tryz.prog 60 #[.pointer (some ⟨b, 0, none⟩), .int .i64 n] w fun e w' => WrR b (l ++ [UInt8.ofNat n]) w g e w') := fun n hn => wsmall_at b g l n w (by omega) h hl
  clear h hl
  go_enter Tryz.func93, Tryz.ntmps93
  cases t
  · go_wp2_with fail
    refine (H.out 0 (by decide)).mono ?_
    rintro e w1 ⟨rfl, h⟩
    have HH : Hid (∃ g', Bw w1 b g' (l ++ [tb false]) ∧ Wr b w w1 g g') := h
    clear h H
    go_wp2_with fail
    go_end0
    exact ⟨rfl, HH.out⟩
  · go_wp2_with fail
    refine (H.out 1 (by decide)).mono ?_
    rintro e w1 ⟨rfl, h⟩
    have HH : Hid (∃ g', Bw w1 b g' (l ++ [tb true]) ∧ Wr b w w1 g g') := h
    clear h H
    go_wp2_with fail
    go_end0
    exact ⟨rfl, HH.out⟩
set_option maxHeartbeats 1000000 in
theorem wplace_at (b : Nat) (g : Option Nat) (l : List UInt8) (c r : Nat) (w : World) (hc : c < 65536) (hr : r < 65536) (h : Bw w b g l) (hl : l.length + 4 ≤ 140737488355328) :
    Calls Tryz.prog 59 #[.pointer (some ⟨b, 0, none⟩), .agg #[.int .i64 c, .int .i64 r]] w fun e w' => WrR b (l ++ (le 2 c ++ le 2 r)) w g e w' := by
  obtain ⟨W, hW⟩ : ∃ W, w.alloc (.cells #[.int .i64 c, .int .i64 r] 57) = W := ⟨_, rfl⟩
  have k0 : Kp w W Nul := by rw [← hW]; exact (Kp.refl w Nul).alloc _
  have HBk : Hid (Blk W w.heap.size [.int .i64 c, .int .i64 r] 57) := by show Blk _ _ _ _; rw [← hW]; exact Blk.new w _ _
  have H : Hid (Calls Tryz.prog 24 #[.pointer (some ⟨b, 0, none⟩), .int .u64 c, .int .i64 2] W fun e w' => WrR b (l ++ le 2 c) W g e w') := wnum_at b g l c 2 W (by omega) (h.kp k0) (by omega)
  have H2 : Hid (∀ g' w', Bw w' b g' (l ++ le 2 c) → Calls Tryz.prog 24 #[.pointer (some ⟨b, 0, none⟩), .int .u64 r, .int .i64 2] w' fun e w2 => WrR b (l ++ (le 2 c ++ le 2 r)) w' g' e w2) := fun g' w' h' => by
    have := wnum_at b g' (l ++ le 2 c) r 2 w' (by omega) h' (by rw [List.length_append, le_len]; omega)
    rw [List.append_assoc] at this
    exact this
  have HK0 : Hid (Kp w W Nul) := k0
  have HNb : Hid (¬ w.heap.size = b ∧ ¬ g = some w.heap.size) := by
    obtain ⟨p, v, hp, hb, ho, hg, hne⟩ := h
    have h1 : b < w.heap.size := (Array.getElem?_eq_some_iff.1 hb).1
    refine ⟨by omega, fun e => ?_⟩
    obtain ⟨c', fz, hc'⟩ := Lib.ownsRowF_kind ho w.heap.size (hg.trans e)
    have := (Array.getElem?_eq_some_iff.1 hc').1
    omega
  have hcc := run_u64 c (by omega)
  have hcr := run_u64 r (by omega)
  have HW : Hid (w.alloc (.cells #[.int .i64 c, .int .i64 r] 57) = W) := hW
  clear hW h hl k0 hc hr
  have l0 : W.cell? ⟨w.heap.size, 0, none⟩ = some (.int .i64 c) := HBk.out.cell rfl
  go_enter Tryz.func59, Tryz.ntmps59
  go_wp2_with (first | (rw [HW.out]) | fail)
  refine H.out.mono ?_
  rintro e w1 ⟨rfl, g1, hb1, hw1⟩
  have HB : Hid (Bw w1 b g1 (l ++ le 2 c)) := hb1
  have HW1 : Hid (Wr b w w1 g g1) := (Wr.nul HK0.out).trans hw1
  have l1 : w1.cell? ⟨w.heap.size, 1, none⟩ = some (.int .i64 r) := (HBk.out.kp hw1.kp (fun e => by
    rcases e with e | e
    · exact HNb.out.1 e
    · exact HNb.out.2 e)).cell rfl
  clear hb1 hw1 H hcc l0
  go_wp2_with fail
  refine (H2.out _ _ HB.out).mono ?_
  rintro e w2 ⟨rfl, g2, hb2, hw2⟩
  have HH : Hid (∃ g', Bw w2 b g' (l ++ (le 2 c ++ le 2 r)) ∧ Wr b w w2 g g') := ⟨g2, hb2, HW1.out.trans hw2⟩
  clear hb2 hw2 H2 HB HW1 l1
  go_wp2_with fail
  go_end0
  exact ⟨rfl, HH.out⟩
end Go.Proofs.YthgeojgfjpcelabGreatDoor
namespace Go.Proofs.YthgeojgfjpcelabGreatDoor
open Go.RowKit Go.Shelf

/-- Blocks that writing leaves alone. -/
def Apt (F : Nat → Prop) (b : Nat) (g : Option Nat) (w : World) : Prop := ∀ i, F i → i ≠ b ∧ g ≠ some i ∧ i < w.heap.size
theorem Apt.wr {F : Nat → Prop} {b : Nat} {g g' : Option Nat} {w w' : World} (h : Apt F b g w) (k : Wr b w w' g g') : Apt F b g' w' := fun i hi => by
  obtain ⟨h1, h2, h3⟩ := h i hi
  refine ⟨h1, fun e => ?_, Nat.lt_of_lt_of_le h3 k.kp.size⟩
  rcases k.row with r | ⟨j, r, hj⟩
  · exact h2 (r.symm.trans e)
  · rw [r] at e
    injection e with e
    omega
theorem Apt.kp {F : Nat → Prop} {b : Nat} {g : Option Nat} {w w' : World} (h : Apt F b g w) (k : Kp w w' Nul) : Apt F b g w' := fun i hi => ⟨(h i hi).1, (h i hi).2.1, Nat.lt_of_lt_of_le (h i hi).2.2 k.size⟩
theorem Wr.not {F : Nat → Prop} {b : Nat} {g : Option Nat} {w : World} (h : Apt F b g w) : ∀ i, F i → ¬ (i = b ∨ g = some i) := fun i hi e => by
  rcases e with e | e
  · exact (h i hi).1 e
  · exact (h i hi).2.1 e
theorem Bw.new {w : World} {b : Nat} {g : Option Nat} {l : List UInt8} (h : Bw w b g l) {W : World} (hW : w.heap.size < W.heap.size) : Apt (fun i => i = w.heap.size) b g W := by
  obtain ⟨p, v, hp, hb, ho, hg, hne⟩ := h
  have h1 : b < w.heap.size := (Array.getElem?_eq_some_iff.1 hb).1
  intro i hi
  have hi' : i = w.heap.size := hi
  refine ⟨by omega, fun e => ?_, by omega⟩
  obtain ⟨c', fz, hc'⟩ := Lib.ownsRowF_kind ho i (hg.trans e)
  have := (Array.getElem?_eq_some_iff.1 hc').1
  omega
theorem Blk.wr {w w' : World} {N b : Nat} {g g' : Option Nat} {cs : List Value} {T : TypeId} (h : Blk w N cs T) (k : Wr b w w' g g') (a : Apt (fun i => i = N) b g w) : Blk w' N cs T := h.kp k.kp (Wr.not a N rfl)
set_option maxHeartbeats 1000000 in
theorem wdouble_at (b : Nat) (g : Option Nat) (l : List UInt8) (x : Nat) (w : World) (hx : x < 18446744073709551616) (h1 : one x = x) (h : Bw w b g l) (hl : l.length + 8 ≤ 140737488355328) :
    Calls Tryz.prog 37 #[.pointer (some ⟨b, 0, none⟩), .float .f64 x] w fun e w' => WrR b (l ++ le 8 x) w g e w' := by
  have H : Hid (Calls Tryz.prog 24 #[.pointer (some ⟨b, 0, none⟩), .int .u64 x, .int .i64 8] w fun e w' => WrR b (l ++ le 8 x) w g e w') := wnum_at b g l x 8 w hx h hl
  have HO : Hid (∀ w, Calls Tryz.prog 11 #[.float .f64 x] w fun e w' => e = .returned (.float .f64 x) ∧ w' = w) := fun w => by
    have := one_any x hx w
    rw [h1] at this
    exact this
  clear h hl hx h1
  go_enter Tryz.func37, Tryz.ntmps37
  go_wp2_with fail
  refine (HO.out _).mono ?_
  rintro e w1 ⟨rfl, hz⟩
  replace hz := hz.symm
  subst hz
  go_wp2_with fail
  refine H.out.mono ?_
  rintro e w1 ⟨rfl, h⟩
  have HH : Hid (∃ g', Bw w1 b g' (l ++ le 8 x) ∧ Wr b w w1 g g') := h
  clear h H HO
  go_wp2_with fail
  go_end0
  exact ⟨rfl, HH.out⟩
set_option maxRecDepth 20000 in
set_option maxHeartbeats 2000000 in
theorem wref_at (b : Nat) (g : Option Nat) (l : List UInt8) (c r : Nat) (p q : Bool) (w : World) (hc : c < 65536) (hr : r < 65536) (h : Bw w b g l) (hl : l.length + 5 ≤ 140737488355328) :
    Calls Tryz.prog 108 #[.pointer (some ⟨b, 0, none⟩), .agg #[.int .i64 c, .int .i64 r, .bool p, .bool q]] w fun e w' => WrR b (l ++ refB c r p q) w g e w' := by
  obtain ⟨W, hW⟩ : ∃ W, w.alloc (.cells #[.int .i64 c, .int .i64 r, .bool p, .bool q] 61) = W := ⟨_, rfl⟩
  have k0 : Kp w W Nul := by rw [← hW]; exact (Kp.refl w Nul).alloc _
  have HBk : Hid (Blk W w.heap.size [.int .i64 c, .int .i64 r, .bool p, .bool q] 61) := by show Blk _ _ _ _; rw [← hW]; exact Blk.new w _ _
  have HA : Hid (Apt (fun i => i = w.heap.size) b g W) := h.new HBk.out.lt
  have H : Hid (Calls Tryz.prog 59 #[.pointer (some ⟨b, 0, none⟩), .agg #[.int .i64 c, .int .i64 r]] W fun e w' => WrR b (l ++ (le 2 c ++ le 2 r)) W g e w') := wplace_at b g l c r W hc hr (h.kp k0) (by omega)
  have H2 : Hid (∀ (n : Nat) g' w', n < 256 → Bw w' b g' (l ++ (le 2 c ++ le 2 r)) → Calls Tryz.prog 60 #[.pointer (some ⟨b, 0, none⟩), .int .i64 n] w' fun e w2 => WrR b (l ++ (le 2 c ++ le 2 r) ++ [UInt8.ofNat n]) w' g' e w2) := fun n g' w' hn h' => wsmall_at b g' _ n w' (by omega) h' (by rw [List.length_append, List.length_append, le_len, le_len]; omega)
  have HK0 : Hid (Kp w W Nul) := k0
  have HW : Hid (w.alloc (.cells #[.int .i64 c, .int .i64 r, .bool p, .bool q] 61) = W) := hW
  clear hW h hl k0 hc hr
  have l0 : W.cell? ⟨w.heap.size, 0, none⟩ = some (.int .i64 c) := HBk.out.cell rfl
  have l1 : W.cell? ⟨w.heap.size, 1, none⟩ = some (.int .i64 r) := HBk.out.cell rfl
  go_enter Tryz.func108, Tryz.ntmps108
  go_wp2_with (first | (rw [HW.out]) | fail)
  refine H.out.mono ?_
  rintro e w1 ⟨rfl, g1, hb1, hw1⟩
  have HB : Hid (Bw w1 b g1 (l ++ (le 2 c ++ le 2 r))) := hb1
  have HW1 : Hid (Wr b w w1 g g1) := (Wr.nul HK0.out).trans hw1
  have l2 : w1.cell? ⟨w.heap.size, 2, none⟩ = some (.bool p) := (HBk.out.wr hw1 HA.out).cell rfl
  have l3 : w1.cell? ⟨w.heap.size, 3, none⟩ = some (.bool q) := (HBk.out.wr hw1 HA.out).cell rfl
  clear hb1 hw1 H l0 l1 HW HBk HA HK0
  have fin : ∀ n : Nat, n = (if p then 1 else 0) + (if q then 2 else 0) → ∀ w2, WrR b (l ++ (le 2 c ++ le 2 r) ++ [UInt8.ofNat n]) w1 g1 (.returned (.tuple #[])) w2 → WrR b (l ++ refB c r p q) w g (.returned (.tuple #[])) w2 := by
    rintro n rfl w2 ⟨_, g2, h1, h2⟩
    refine ⟨rfl, g2, ?_, HW1.out.trans h2⟩
    unfold refB
    rw [← List.append_assoc (le 2 c), ← List.append_assoc l]
    exact h1
  have FIN : Hid (∀ n : Nat, n = (if p then 1 else 0) + (if q then 2 else 0) → ∀ w2, WrR b (l ++ (le 2 c ++ le 2 r) ++ [UInt8.ofNat n]) w1 g1 (.returned (.tuple #[])) w2 → WrR b (l ++ refB c r p q) w g (.returned (.tuple #[])) w2) := fin
  clear fin
  cases p <;> cases q
  · go_wp2_with fail
    refine (H2.out 0 _ _ (by decide) HB.out).mono ?_
    rintro e w2 ⟨rfl, hh⟩
    have HH : Hid (WrR b (l ++ (le 2 c ++ le 2 r) ++ [UInt8.ofNat 0]) w1 g1 (.returned (.tuple #[])) w2) := ⟨rfl, hh⟩
    clear hh
    go_wp2_with fail
    go_end0
    exact FIN.out 0 (by simp) _ HH.out
  · go_wp2_with fail
    refine (H2.out 2 _ _ (by decide) HB.out).mono ?_
    rintro e w2 ⟨rfl, hh⟩
    have HH : Hid (WrR b (l ++ (le 2 c ++ le 2 r) ++ [UInt8.ofNat 2]) w1 g1 (.returned (.tuple #[])) w2) := ⟨rfl, hh⟩
    clear hh
    go_wp2_with fail
    go_end0
    exact FIN.out 2 (by simp) _ HH.out
  · go_wp2_with fail
    refine (H2.out 1 _ _ (by decide) HB.out).mono ?_
    rintro e w2 ⟨rfl, hh⟩
    have HH : Hid (WrR b (l ++ (le 2 c ++ le 2 r) ++ [UInt8.ofNat 1]) w1 g1 (.returned (.tuple #[])) w2) := ⟨rfl, hh⟩
    clear hh
    go_wp2_with fail
    go_end0
    exact FIN.out 1 (by simp) _ HH.out
  · go_wp2_with fail
    refine (H2.out 3 _ _ (by decide) HB.out).mono ?_
    rintro e w2 ⟨rfl, hh⟩
    have HH : Hid (WrR b (l ++ (le 2 c ++ le 2 r) ++ [UInt8.ofNat 3]) w1 g1 (.returned (.tuple #[])) w2) := ⟨rfl, hh⟩
    clear hh
    go_wp2_with fail
    go_end0
    exact FIN.out 3 (by simp) _ HH.out
/-- A value that may stand in a file. -/
structure KnV (v : Vl) : Prop where
  k : 1 ≤ v.k ∧ v.k ≤ 4
  x : v.x < 18446744073709551616 ∧ one v.x = v.x
  s : v.s.size < 65536
  f : 0 ≤ v.f ∧ v.f < 256
set_option maxRecDepth 20000 in
set_option maxHeartbeats 2000000 in
theorem wvalue_at (b : Nat) (g : Option Nat) (l : List UInt8) (v : Vl) (w : World) (hv : KnV v) (h : Bw w b g l) (hl : l.length + 70000 ≤ 140737488355328) :
    Calls Tryz.prog 62 #[.pointer (some ⟨b, 0, none⟩), v.val] w fun e w' => WrR b (l ++ vlB v) w g e w' := by
  obtain ⟨vk, x, s, t, f⟩ := v
  obtain ⟨⟨hk0, hk1⟩, ⟨hx, hx1⟩, hs, ⟨hf0, hf1⟩⟩ := hv
  simp only at hk0 hk1 hx hx1 hs hf0 hf1
  obtain ⟨fn, rfl⟩ : ∃ fn : Nat, f = fn := ⟨f.toNat, by omega⟩
  obtain ⟨kn, rfl⟩ : ∃ kn : Nat, vk = kn := ⟨vk.toNat, by omega⟩
  obtain ⟨W, hW⟩ : ∃ W, w.alloc (.cells #[.int .i64 kn, .float .f64 x, .string s, .bool t, .int .i64 fn] 59) = W := ⟨_, rfl⟩
  have k0 : Kp w W Nul := by rw [← hW]; exact (Kp.refl w Nul).alloc _
  have HBk : Hid (Blk W w.heap.size [.int .i64 kn, .float .f64 x, .string s, .bool t, .int .i64 fn] 59) := by show Blk _ _ _ _; rw [← hW]; exact Blk.new w _ _
  have HA : Hid (Apt (fun i => i = w.heap.size) b g W) := h.new HBk.out.lt
  have H : Hid (Calls Tryz.prog 60 #[.pointer (some ⟨b, 0, none⟩), .int .i64 kn] W fun e w' => WrR b (l ++ [UInt8.ofNat kn]) W g e w') := wsmall_at b g l kn W (by omega) (h.kp k0) (by omega)
  have bd : (l ++ [UInt8.ofNat kn]).length = l.length + 1 := by simp
  have H1 : Hid (∀ g' w', Bw w' b g' (l ++ [UInt8.ofNat kn]) → Calls Tryz.prog 37 #[.pointer (some ⟨b, 0, none⟩), .float .f64 x] w' fun e w2 => WrR b (l ++ [UInt8.ofNat kn] ++ le 8 x) w' g' e w2) := fun g' w' h' => wdouble_at b g' _ x w' hx hx1 h' (by omega)
  have H2 : Hid (∀ g' w', Bw w' b g' (l ++ [UInt8.ofNat kn]) → Calls Tryz.prog 92 #[.pointer (some ⟨b, 0, none⟩), .string s] w' fun e w2 => WrR b (l ++ [UInt8.ofNat kn] ++ txtB s) w' g' e w2) := fun g' w' h' => wtext_at b g' _ s w' hs h' (by omega)
  have H3 : Hid (∀ g' w', Bw w' b g' (l ++ [UInt8.ofNat kn]) → Calls Tryz.prog 93 #[.pointer (some ⟨b, 0, none⟩), .bool t] w' fun e w2 => WrR b (l ++ [UInt8.ofNat kn] ++ [tb t]) w' g' e w2) := fun g' w' h' => wtruth_at b g' _ t w' h' (by omega)
  have H4 : Hid (∀ g' w', Bw w' b g' (l ++ [UInt8.ofNat kn]) → Calls Tryz.prog 60 #[.pointer (some ⟨b, 0, none⟩), .int .i64 fn] w' fun e w2 => WrR b (l ++ [UInt8.ofNat kn] ++ [UInt8.ofNat fn]) w' g' e w2) := fun g' w' h' => wsmall_at b g' _ fn w' (by omega) h' (by omega)
  have HK0 : Hid (Kp w W Nul) := k0
  have HW : Hid (w.alloc (.cells #[.int .i64 kn, .float .f64 x, .string s, .bool t, .int .i64 fn] 59) = W) := hW
  have hkc : kn = 1 ∨ kn = 2 ∨ kn = 3 ∨ kn = 4 := by omega
  clear hW h hl k0 bd hs hx hx1 hf0 hf1 hk0 hk1
  have l0 : W.cell? ⟨w.heap.size, 0, none⟩ = some (.int .i64 kn) := HBk.out.cell rfl
  go_enter Tryz.func62, Tryz.ntmps62
  go_wp2_with (first | (rw [HW.out]) | fail)
  refine H.out.mono ?_
  rintro e w1 ⟨rfl, g1, hb1, hw1⟩
  have HB : Hid (Bw w1 b g1 (l ++ [UInt8.ofNat kn])) := hb1
  have HW1 : Hid (Wr b w w1 g g1) := (Wr.nul HK0.out).trans hw1
  have HBk1 : Hid (Blk w1 w.heap.size [.int .i64 kn, .float .f64 x, .string s, .bool t, .int .i64 fn] 59) := HBk.out.wr hw1 HA.out
  clear hb1 hw1 H l0 HW HBk HA HK0
  have l0 : w1.cell? ⟨w.heap.size, 0, none⟩ = some (.int .i64 kn) := HBk1.out.cell rfl
  have l1 : w1.cell? ⟨w.heap.size, 1, none⟩ = some (.float .f64 x) := HBk1.out.cell rfl
  have l2 : w1.cell? ⟨w.heap.size, 2, none⟩ = some (.string s) := HBk1.out.cell rfl
  have l3 : w1.cell? ⟨w.heap.size, 3, none⟩ = some (.bool t) := HBk1.out.cell rfl
  have l4 : w1.cell? ⟨w.heap.size, 4, none⟩ = some (.int .i64 fn) := HBk1.out.cell rfl
  have FIN : Hid (∀ m w2, vlF ⟨kn, x, s, t, fn⟩ = m → WrR b (l ++ [UInt8.ofNat kn] ++ m) w1 g1 (.returned (.tuple #[])) w2 → WrR b (l ++ vlB ⟨kn, x, s, t, fn⟩) w g (.returned (.tuple #[])) w2) := by
    rintro m w2 rfl ⟨_, g2, h1, h2⟩
    refine ⟨rfl, g2, ?_, HW1.out.trans h2⟩
    unfold vlB
    simp only [Int.toNat_natCast]
    rw [List.append_assoc] at h1
    exact h1
  rcases hkc with rfl | rfl | rfl | rfl
  · clear H2 H3 H4
    go_wp2_with fail
    refine (H1.out _ _ HB.out).mono ?_
    rintro e w2 ⟨rfl, hh⟩
    have HH : Hid (WrR b (l ++ [UInt8.ofNat 1] ++ le 8 x) w1 g1 (.returned (.tuple #[])) w2) := ⟨rfl, hh⟩
    clear hh
    go_wp2_with fail
    go_end0
    exact FIN.out _ _ rfl HH.out
  · clear H1 H3 H4
    go_wp2_with fail
    refine (H2.out _ _ HB.out).mono ?_
    rintro e w2 ⟨rfl, hh⟩
    have HH : Hid (WrR b (l ++ [UInt8.ofNat 2] ++ txtB s) w1 g1 (.returned (.tuple #[])) w2) := ⟨rfl, hh⟩
    clear hh
    go_wp2_with fail
    go_end0
    exact FIN.out _ _ rfl HH.out
  · clear H1 H2 H4
    go_wp2_with fail
    refine (H3.out _ _ HB.out).mono ?_
    rintro e w2 ⟨rfl, hh⟩
    have HH : Hid (WrR b (l ++ [UInt8.ofNat 3] ++ [tb t]) w1 g1 (.returned (.tuple #[])) w2) := ⟨rfl, hh⟩
    clear hh
    go_wp2_with fail
    go_end0
    exact FIN.out _ _ rfl HH.out
  · clear H1 H2 H3
    go_wp2_with fail
    refine (H4.out _ _ HB.out).mono ?_
    rintro e w2 ⟨rfl, hh⟩
    have HH : Hid (WrR b (l ++ [UInt8.ofNat 4] ++ [UInt8.ofNat fn]) w1 g1 (.returned (.tuple #[])) w2) := ⟨rfl, hh⟩
    clear hh
    go_wp2_with fail
    go_end0
    exact FIN.out _ _ rfl HH.out
end Go.Proofs.YthgeojgfjpcelabGreatDoor
namespace Go.Proofs.YthgeojgfjpcelabGreatDoor
open Go.RowKit Go.Shelf

/-- A field's bytes. -/
def fB (h : Hd) (i : Nat) : List UInt8 :=
  if i = 1 then le 8 h.x else if i = 2 then txtB h.s else if i = 3 then [tb h.b] else if i = 4 then [UInt8.ofNat h.f.toNat] else
  if i = 5 then refB h.c1.toNat h.r1.toNat h.p1 h.q1 else if i = 6 then refB h.c2.toNat h.r2.toNat h.p2 h.q2 else if i = 7 then [UInt8.ofNat h.o.toNat] else []
/-- The table: a Kind's fields, how many parts, are they counted. -/
def sh0 (k : Nat) : Nat := [0, 1, 2, 3, 4, 5, 5, 7, 7, 2].getD k 0
def sh1 (k : Nat) : Nat := if k = 6 then 6 else 0
def shP (k : Nat) : Nat := if k = 7 then 1 else if k = 8 then 2 else 0
def shC (k : Nat) : Bool := k == 9
theorem fld_eq {h : Hd} {n : Nat} (hk : 0 ≤ h.k ∧ h.k < 10) : fldB h n = fB h (sh0 h.k.toNat) ++ (fB h (sh1 h.k.toNat) ++ (if shC h.k.toNat then [UInt8.ofNat n] else [])) := by
  obtain ⟨b1, b2⟩ := hk
  have cases10 : h.k = 0 ∨ h.k = 1 ∨ h.k = 2 ∨ h.k = 3 ∨ h.k = 4 ∨ h.k = 5 ∨ h.k = 6 ∨ h.k = 7 ∨ h.k = 8 ∨ h.k = 9 := by omega
  unfold fldB
  rcases cases10 with q | q | q | q | q | q | q | q | q | q
  all_goals
    rw [q]
    simp [sh0, sh1, shC, fB]
def shCells : List Value := [.int .i64 0, .int .i64 0, .int .i64 0, .bool false, .int .i64 1, .int .i64 0, .int .i64 0, .bool false, .int .i64 2, .int .i64 0, .int .i64 0, .bool false, .int .i64 3, .int .i64 0, .int .i64 0, .bool false, .int .i64 4, .int .i64 0, .int .i64 0, .bool false,
  .int .i64 5, .int .i64 0, .int .i64 0, .bool false, .int .i64 5, .int .i64 6, .int .i64 0, .bool false, .int .i64 7, .int .i64 0, .int .i64 1, .bool false, .int .i64 7, .int .i64 0, .int .i64 2, .bool false, .int .i64 2, .int .i64 0, .int .i64 0, .bool true]
theorem shCells_at (k : Nat) (hk : k < 10) : shCells[k * 4]? = some (.int .i64 (sh0 k)) ∧ shCells[k * 4 + 1]? = some (.int .i64 (sh1 k)) ∧ shCells[k * 4 + 2]? = some (.int .i64 (shP k)) ∧ shCells[k * 4 + 3]? = some (.bool (shC k)) := by
  match k, hk with
  | 0, _ => exact ⟨rfl, rfl, rfl, rfl⟩
  | 1, _ => exact ⟨rfl, rfl, rfl, rfl⟩
  | 2, _ => exact ⟨rfl, rfl, rfl, rfl⟩
  | 3, _ => exact ⟨rfl, rfl, rfl, rfl⟩
  | 4, _ => exact ⟨rfl, rfl, rfl, rfl⟩
  | 5, _ => exact ⟨rfl, rfl, rfl, rfl⟩
  | 6, _ => exact ⟨rfl, rfl, rfl, rfl⟩
  | 7, _ => exact ⟨rfl, rfl, rfl, rfl⟩
  | 8, _ => exact ⟨rfl, rfl, rfl, rfl⟩
  | 9, _ => exact ⟨rfl, rfl, rfl, rfl⟩
/-- The table lies. -/
def Sh (w : World) : Prop := ∃ T fr, w.heap[1]? = some (.cells shCells.toArray T fr)
theorem Sh.kp {w w' : World} {S : Nat → Prop} (h : Sh w) (k : Kp w w' S) (hn : ¬ S 1) : Sh w' := by
  obtain ⟨T, fr, h⟩ := h
  exact ⟨T, fr, (k.block _ (Array.getElem?_eq_some_iff.1 h).1 hn).trans h⟩
theorem Sh.cell {w : World} (h : Sh w) {i : Nat} {v : Value} (hi : shCells[i]? = some v) : w.cell? ⟨1, i, none⟩ = some v := by
  obtain ⟨T, fr, h⟩ := h
  rw [Lib.cell_of_heap h]
  simpa using hi
set_option maxRecDepth 20000 in
set_option maxHeartbeats 4000000 in
theorem wfield_at (b : Nat) (g : Option Nat) (l : List UInt8) (h : Hd) (n i : Nat) (sa : Option Addr) (sm sc : Nat) (w : World) (hc : Kn h n) (hi : i < 8) (hb : Bw w b g l) (hl : l.length + 70000 ≤ 140737488355328) :
    Calls Tryz.prog 91 #[.pointer (some ⟨b, 0, none⟩), h.val (.slice sa sm sc), .int .i64 i] w fun e w' => WrR b (l ++ fB h i) w g e w' := by
  obtain ⟨-, -, ⟨hx, hx1⟩, hs, ⟨o0, o1⟩, ⟨f0, f1⟩, ⟨c0, c1⟩, ⟨r0, r1⟩, ⟨d0, d1⟩, ⟨s0, s1⟩, -, -⟩ := hc
  obtain ⟨k, o, x, s, t, f, c1', r1', p1, q1, c2', r2', p2, q2⟩ := h
  simp only at hx hx1 hs o0 o1 f0 f1 c0 c1 r0 r1 d0 d1 s0 s1
  obtain ⟨on, rfl⟩ : ∃ m : Nat, o = m := ⟨o.toNat, by omega⟩
  obtain ⟨fn, rfl⟩ : ∃ m : Nat, f = m := ⟨f.toNat, by omega⟩
  obtain ⟨c1n, rfl⟩ : ∃ m : Nat, c1' = m := ⟨c1'.toNat, by omega⟩
  obtain ⟨r1n, rfl⟩ : ∃ m : Nat, r1' = m := ⟨r1'.toNat, by omega⟩
  obtain ⟨c2n, rfl⟩ : ∃ m : Nat, c2' = m := ⟨c2'.toNat, by omega⟩
  obtain ⟨r2n, rfl⟩ : ∃ m : Nat, r2' = m := ⟨r2'.toNat, by omega⟩
  obtain ⟨W, hW⟩ : ∃ W, w.alloc (.cells #[.int .i64 k, .int .i64 on, .float .f64 x, .string s, .bool t, .int .i64 fn, .int .i64 c1n, .int .i64 r1n, .bool p1, .bool q1, .int .i64 c2n, .int .i64 r2n, .bool p2, .bool q2, .slice sa sm sc] 64) = W := ⟨_, rfl⟩
  have k0 : Kp w W Nul := by rw [← hW]; exact (Kp.refl w Nul).alloc _
  have hBk : Blk W w.heap.size [.int .i64 k, .int .i64 on, .float .f64 x, .string s, .bool t, .int .i64 fn, .int .i64 c1n, .int .i64 r1n, .bool p1, .bool q1, .int .i64 c2n, .int .i64 r2n, .bool p2, .bool q2, .slice sa sm sc] 64 := by rw [← hW]; exact Blk.new w _ _
  have HB : Hid (Bw W b g l) := hb.kp k0
  have H1 : Hid (Calls Tryz.prog 37 #[.pointer (some ⟨b, 0, none⟩), .float .f64 x] W fun e w2 => WrR b (l ++ le 8 x) W g e w2) := wdouble_at b g _ x W hx hx1 HB.out (by omega)
  have H2 : Hid (Calls Tryz.prog 92 #[.pointer (some ⟨b, 0, none⟩), .string s] W fun e w2 => WrR b (l ++ txtB s) W g e w2) := wtext_at b g _ s W hs HB.out (by omega)
  have H3 : Hid (Calls Tryz.prog 93 #[.pointer (some ⟨b, 0, none⟩), .bool t] W fun e w2 => WrR b (l ++ [tb t]) W g e w2) := wtruth_at b g _ t W HB.out (by omega)
  have H4 : Hid (∀ fn : Nat, fn < 256 → Calls Tryz.prog 60 #[.pointer (some ⟨b, 0, none⟩), .int .i64 fn] W fun e w2 => WrR b (l ++ [UInt8.ofNat fn]) W g e w2) := fun fn hf => wsmall_at b g _ fn W (by omega) HB.out (by omega)
  have H5 : Hid (∀ (c r : Nat) p q, c < 65536 → r < 65536 → Calls Tryz.prog 108 #[.pointer (some ⟨b, 0, none⟩), .agg #[.int .i64 c, .int .i64 r, .bool p, .bool q]] W fun e w2 => WrR b (l ++ refB c r p q) W g e w2) := fun c r p q hc hr => wref_at b g _ c r p q W hc hr HB.out (by omega)
  have HK0 : Hid (Kp w W Nul) := k0
  have HW : Hid (w.alloc (.cells #[.int .i64 k, .int .i64 on, .float .f64 x, .string s, .bool t, .int .i64 fn, .int .i64 c1n, .int .i64 r1n, .bool p1, .bool q1, .int .i64 c2n, .int .i64 r2n, .bool p2, .bool q2, .slice sa sm sc] 64) = W) := hW
  have FIN : Hid (∀ m e w2, fB ⟨k, on, x, s, t, fn, c1n, r1n, p1, q1, c2n, r2n, p2, q2⟩ i = m → WrR b (l ++ m) W g e w2 → WrR b (l ++ fB ⟨k, on, x, s, t, fn, c1n, r1n, p1, q1, c2n, r2n, p2, q2⟩ i) w g e w2) := by
    rintro m e w2 rfl ⟨h0, g2, h1, h2⟩
    exact ⟨h0, g2, h1, (Wr.nul HK0.out).trans h2⟩
  have HON : Hid (on < 256) := by show _ < _; omega
  have HFN : Hid (fn < 256) := by show _ < _; omega
  have HC1 : Hid (c1n < 65536) := by show _ < _; omega
  have HR1 : Hid (r1n < 65536) := by show _ < _; omega
  have HC2 : Hid (c2n < 65536) := by show _ < _; omega
  have HR2 : Hid (r2n < 65536) := by show _ < _; omega
  have l1 : W.cell? ⟨w.heap.size, 1, none⟩ = some (.int .i64 on) := hBk.cell rfl
  have l2 : W.cell? ⟨w.heap.size, 2, none⟩ = some (.float .f64 x) := hBk.cell rfl
  have l3 : W.cell? ⟨w.heap.size, 3, none⟩ = some (.string s) := hBk.cell rfl
  have l4 : W.cell? ⟨w.heap.size, 4, none⟩ = some (.bool t) := hBk.cell rfl
  have l5 : W.cell? ⟨w.heap.size, 5, none⟩ = some (.int .i64 fn) := hBk.cell rfl
  have l6 : W.cell? ⟨w.heap.size, 6, none⟩ = some (.int .i64 c1n) := hBk.cell rfl
  have l7 : W.cell? ⟨w.heap.size, 7, none⟩ = some (.int .i64 r1n) := hBk.cell rfl
  have l8 : W.cell? ⟨w.heap.size, 8, none⟩ = some (.bool p1) := hBk.cell rfl
  have l9 : W.cell? ⟨w.heap.size, 9, none⟩ = some (.bool q1) := hBk.cell rfl
  have l10 : W.cell? ⟨w.heap.size, 10, none⟩ = some (.int .i64 c2n) := hBk.cell rfl
  have l11 : W.cell? ⟨w.heap.size, 11, none⟩ = some (.int .i64 r2n) := hBk.cell rfl
  have l12 : W.cell? ⟨w.heap.size, 12, none⟩ = some (.bool p2) := hBk.cell rfl
  have l13 : W.cell? ⟨w.heap.size, 13, none⟩ = some (.bool q2) := hBk.cell rfl
  have hic : i = 0 ∨ i = 1 ∨ i = 2 ∨ i = 3 ∨ i = 4 ∨ i = 5 ∨ i = 6 ∨ i = 7 := by omega
  clear hW hb hl k0 hs hx hx1 f0 f1 o0 o1 c0 c1 r0 r1 d0 d1 s0 s1 hBk hi
  go_enter Tryz.func91, Tryz.ntmps91
  rcases hic with rfl | rfl | rfl | rfl | rfl | rfl | rfl | rfl
  · go_wp2_with (first | (rw [HW.out]) | fail)
    go_end0
    exact FIN.out [] _ _ rfl ⟨rfl, g, by rw [List.append_nil]; exact HB.out, Wr.refl _ _ _⟩
  · go_wp2_with (first | (rw [HW.out]) | fail)
    refine H1.out.mono ?_
    rintro e w2 ⟨rfl, hh⟩
    have HH : Hid (WrR b (l ++ le 8 x) W g (.returned (.tuple #[])) w2) := ⟨rfl, hh⟩
    clear hh
    go_wp2_with fail
    go_end0
    exact FIN.out _ _ _ rfl HH.out
  · go_wp2_with (first | (rw [HW.out]) | fail)
    refine H2.out.mono ?_
    rintro e w2 ⟨rfl, hh⟩
    have HH : Hid (WrR b (l ++ txtB s) W g (.returned (.tuple #[])) w2) := ⟨rfl, hh⟩
    clear hh
    go_wp2_with fail
    go_end0
    exact FIN.out _ _ _ rfl HH.out
  · go_wp2_with (first | (rw [HW.out]) | fail)
    refine H3.out.mono ?_
    rintro e w2 ⟨rfl, hh⟩
    have HH : Hid (WrR b (l ++ [tb t]) W g (.returned (.tuple #[])) w2) := ⟨rfl, hh⟩
    clear hh
    go_wp2_with fail
    go_end0
    exact FIN.out _ _ _ rfl HH.out
  · go_wp2_with (first | (rw [HW.out]) | fail)
    refine (H4.out fn HFN.out).mono ?_
    rintro e w2 ⟨rfl, hh⟩
    have HH : Hid (WrR b (l ++ [UInt8.ofNat fn]) W g (.returned (.tuple #[])) w2) := ⟨rfl, hh⟩
    clear hh
    go_wp2_with fail
    go_end0
    exact FIN.out _ _ _ rfl HH.out
  · go_wp2_with (first | (rw [HW.out]) | fail)
    refine (H5.out c1n r1n p1 q1 HC1.out HR1.out).mono ?_
    rintro e w2 ⟨rfl, hh⟩
    have HH : Hid (WrR b (l ++ refB c1n r1n p1 q1) W g (.returned (.tuple #[])) w2) := ⟨rfl, hh⟩
    clear hh
    go_wp2_with fail
    go_end0
    exact FIN.out _ _ _ rfl HH.out
  · go_wp2_with (first | (rw [HW.out]) | fail)
    refine (H5.out c2n r2n p2 q2 HC2.out HR2.out).mono ?_
    rintro e w2 ⟨rfl, hh⟩
    have HH : Hid (WrR b (l ++ refB c2n r2n p2 q2) W g (.returned (.tuple #[])) w2) := ⟨rfl, hh⟩
    clear hh
    go_wp2_with fail
    go_end0
    exact FIN.out _ _ _ rfl HH.out
  · go_wp2_with (first | (rw [HW.out]) | fail)
    refine (H4.out on HON.out).mono ?_
    rintro e w2 ⟨rfl, hh⟩
    have HH : Hid (WrR b (l ++ [UInt8.ofNat on]) W g (.returned (.tuple #[])) w2) := ⟨rfl, hh⟩
    clear hh
    go_wp2_with fail
    go_end0
    exact FIN.out _ _ _ rfl HH.out
end Go.Proofs.YthgeojgfjpcelabGreatDoor
