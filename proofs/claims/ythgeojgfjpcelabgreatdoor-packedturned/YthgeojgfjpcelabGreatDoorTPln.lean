/- Packed: known, the walk. PackedTurned: the walk. -/
import Derived.Test.YthgeojgfjpcelabGreatDoorTPlg
import Derived.Test.YthgeojgfjpcelabGreatDoorTPlh
import Derived.Test.YthgeojgfjpcelabGreatDoorTIr
import Derived.Test.YthgeojgfjpcelabGreatDoorTId
namespace Go.Proofs.YthgeojgfjpcelabGreatDoor
open Go.RowKit Go.Maps Go.Sort Go.Lib Go.Shelf

def ct15 : Ct := ⟨1, ⟨1, 4609434218613702656, ⟨#[]⟩, false, 0⟩, zNd⟩
def LK15 : List Cc := [((1, 1), ct15)]
theorem gv15 : gv ct15 = true := by
  unfold gv validC
  have h1 : bareV ct15.v = true := by simp [bareV, ct15]
  have h2 : zeroN ct15.t = true := zeroN_z
  simp [validV, h1, h2]
  simp [ct15]
theorem cp15 : cpC ct15 = ct15 := by
  unfold cpC ct15
  simp only [cpy_zNd]
  congr 1
theorem gd15 : Gd ct15 := ⟨gv15, by show (1 : Int) ≠ 0; decide, zNd_ok, by decide, by show zNd.size ≤ _; rw [zsize]; decide, cp15⟩
theorem ok15 : Ok17 LK15 := ⟨fun x hx => by obtain rfl := List.mem_singleton.1 hx; exact gd15, fun x hx => by obtain rfl := List.mem_singleton.1 hx; decide, by decide⟩
theorem st15 : Strict (LK15.map (·.1)) := by unfold Strict LK15; simp
theorem cs15 : cB ((1, 1), ct15) = [1, 0, 1, 0, 1, 1, 0, 0, 0, 0, 0, 0, 248, 63] := by decide +kernel
theorem body15 : bodyB LK15 = [81, 68, 82, 49, 1, 0, 1, 0, 1, 0, 1, 1, 0, 0, 0, 0, 0, 0, 248, 63] := by
  unfold bodyB csB LK15
  rw [List.flatMap_cons, List.flatMap_nil, List.append_nil, cs15]
  decide
theorem len15 : (fileB LK15).length = 24 := by rw [fileB_len, body15]; rfl
theorem take15 : (fileB LK15).take 20 = [81, 68, 82, 49, 1, 0, 1, 0, 1, 0, 1, 1, 0, 0, 0, 0, 0, 0, 248, 63] := by
  have : fileB LK15 = bodyB LK15 ++ le 4 (crcS (bodyB LK15)) := rfl
  rw [this, body15]
  exact List.take_left (l₁ := [81, 68, 82, 49, 1, 0, 1, 0, 1, 0, 1, 1, 0, 0, 0, 0, 0, 0, 248, 63])
theorem pk15 : pkS LK15 = fileB LK15 ∧ pkE LK15 = 0 := by
  unfold pkS pkE
  rw [if_pos (by rw [len15]; decide), if_pos (by rw [len15]; decide)]
  exact ⟨rfl, rfl⟩
theorem up15 : upO (fileB LK15) = some LK15 ∧ upR (fileB LK15) = 0 := up_file st15 ok15 (by rw [len15]; decide)
theorem sgl1 : sW 1 4607182418800017408 = 1065353216 ∧ sI 1 4607182418800017408 = false := by decide +kernel
theorem sgl2 : sW 1 4591870180066957722 = 1036831949 ∧ sI 1 4591870180066957722 = true := by decide +kernel
theorem sg15 : sgE 1 2 = 0 ∧ sgS 1 [4607182418800017408, 4591870180066957722] = [0, 0, 128, 63, 205, 204, 204, 61] ∧ sgN 1 [4607182418800017408, 4591870180066957722] = 1 := by
  have e0 : sgE 1 2 = 0 := by decide
  refine ⟨e0, ?_, ?_⟩
  · unfold sgS
    rw [if_pos (show sgE 1 [4607182418800017408, 4591870180066957722].length = 0 from e0)]
    unfold snB
    rw [List.flatMap_cons, List.flatMap_cons, List.flatMap_nil, sgl1.1, sgl2.1]
    decide
  · unfold sgN
    rw [if_pos (show sgE 1 [4607182418800017408, 4591870180066957722].length = 0 from e0)]
    unfold snI
    rw [List.filter_cons, sgl1.2, List.filter_cons, sgl2.2]
    rfl
theorem eqC_self (L : List Cc) : eqC L L = true := eqC_true ⟨rfl, fun _ a h => ⟨a, h, csame_refl a⟩⟩
theorem ne_ptr24 (g : Nat) (w : World) : (binOp .neq 23 (.pointer (some ⟨g, 0, none⟩)) (.pointer none)).run Tryz.prog w = .ok (.bool true) w := by
  simp [go_sem]
set_option maxRecDepth 20000 in
set_option maxHeartbeats 16000000 in
theorem known24 (w : World) (U : VS w) (hs : Sh w) (hT : Tab w) : Calls Tryz.prog 8 #[] w fun e w' => e = .returned (.bool true) ∧ Kp w w' Nul := by
  obtain ⟨g, hgw⟩ : ∃ g, g = w.heap.size := ⟨_, rfl⟩
  have HNew : Hid (Calls Tryz.prog 21 #[] w fun e w' => e = .returned (.pointer (some ⟨g, 0, none⟩)) ∧ GI w.heap.size w' g [] ∧ Kp w w' Nul) := (new_at w).mono (by
    rintro e w' ⟨rfl, rfl⟩
    subst hgw
    exact ⟨rfl, grid_new w _ (Nat.le_refl _), (Kp.refl w Nul).alloc _⟩)
  have HPut : Hid (∀ wq, GI w.heap.size wq g [] → Kp w wq Nul → Calls Tryz.prog 22 #[.pointer (some ⟨g, 0, none⟩), .agg #[.int .i64 1, .int .i64 1], ct15.val (.slice none 0 0)] wq fun e w' => e = .returned (.int .i64 0) ∧ GI w.heap.size w' g LK15 ∧ Kp w w' Nul) := fun wq h k => (put22 w g 1 1 ct15 (.slice none 0 0) [] wq h k Ok17.nil gd15 (by decide) (zNd_in _ _) (by decide) U).mono fun e w' h => ⟨h.1, h.2.1, h.2.2.2⟩
  have HPack : Hid (∀ wq, GI w.heap.size wq g LK15 → Kp w wq Nul → Calls Tryz.prog 7 #[.pointer (some ⟨g, 0, none⟩)] wq fun e w' => e = .returned (.tuple #[.string ⟨(fileB LK15).toArray⟩, .int .i64 0]) ∧ Kp wq w' Nul) := fun wq h k => (pack_at g LK15 LK15 wq (GridIn.mono h (fun _ _ => Nat.zero_le _)) ok15 st15 (fun _ => Iff.rfl) rfl (hs.kp k (fun x => x))).mono fun e w' h => by
    rw [pk15.1, pk15.2] at h
    exact h
  have HUn : Hid (∀ wq, Kp w wq Nul → Calls Tryz.prog 10 #[.string ⟨(fileB LK15).toArray⟩] wq fun e w' => ∃ g2, e = .returned (.tuple #[.pointer (some ⟨g2, 0, none⟩), .int .i64 0]) ∧ GI 0 w' g2 LK15 ∧ Kp wq w' Nul) := fun wq k => (unpack_at (fileB LK15) wq (hs.kp k (fun x => x)) (U.kp k)).mono fun e w' h => by
    rw [up15.1, up15.2] at h
    cases h with
    | ok gi kp => exact ⟨_, rfl, GridIn.mono gi (fun _ _ => Nat.zero_le _), kp⟩
  have HSg : Hid (∀ v wq, Kp w wq Nul → FlAt wq v [4607182418800017408, 4591870180066957722] → Calls Tryz.prog 15 #[v, .int .i64 1] wq fun e w' => e = .returned (.tuple #[.string ⟨#[0, 0, 128, 63, 205, 204, 204, 61]⟩, .int .i64 1, .int .i64 0]) ∧ Kp wq w' Nul) := fun v wq k hf => (singles_at v _ 1 wq hf (fun j hj => k.cellN (hT j hj) (fun x => x))).mono fun e w' h => by
    rw [sg15.2.1, sg15.2.2, show [4607182418800017408, 4591870180066957722].length = 2 from rfl, sg15.1] at h
    exact h
  have HEq : Hid (∀ g2 wq, GI 0 wq g2 LK15 → GI 0 wq g LK15 → Calls Tryz.prog 31 #[.pointer (some ⟨g2, 0, none⟩), .pointer (some ⟨g, 0, none⟩)] wq fun e w' => e = .returned (.bool true) ∧ Kp wq w' Nul) := fun g2 wq h1 h2 => (equal_at g2 g LK15 LK15 wq h1 h2 ok15.okC ok15.okC).mono fun e w' h => by
    rw [eqC_self] at h
    exact h
  have hng := fun wq => nil_ptr24 g wq
  have HLen : Hid (((ByteArray.mk (fileB LK15).toArray).size : Int) = 24) := by show (((fileB LK15).toArray.size : Nat) : Int) = 24; rw [List.size_toArray, len15]; rfl
  have HTk : Hid ((ByteArray.mk (fileB LK15).toArray).extract 0 20 = ⟨#[81, 68, 82, 49, 1, 0, 1, 0, 1, 0, 1, 1, 0, 0, 0, 0, 0, 0, 248, 63]⟩) := by show _ = _; rw [ba_take, take15]
  generalize (ByteArray.mk (fileB LK15).toArray) = F at *
  clear hgw U hs hT
  go_enter Tryz.func8, Tryz.ntmps8
  go_wp2_with fail
  refine HNew.out.mono ?_
  rintro e w1 ⟨rfl, hg1, hk1⟩
  have HG1 : Hid (GI w.heap.size w1 g []) := hg1
  have HK1 : Hid (Kp w w1 Nul) := hk1
  clear hg1 hk1 HNew
  go_wp2_with fail
  refine (HPut.out _ HG1.out HK1.out).mono ?_
  rintro e w2 ⟨rfl, hg2, hk2⟩
  have HG2 : Hid (GI w.heap.size w2 g LK15) := hg2
  have HK2 : Hid (Kp w w2 Nul) := hk2
  clear hg2 hk2 HG1 HK1 HPut
  go_wp2_with fail
  refine (HPack.out _ HG2.out HK2.out).mono ?_
  rintro e w3 ⟨rfl, hk3⟩
  have HG3 : Hid (GI w.heap.size w3 g LK15) := HG2.out.kp hk3
  have HK3 : Hid (Kp w w3 Nul) := HK2.out.trans hk3
  clear hk3 HG2 HK2 HPack
  go_wp2_with fail
  refine (HUn.out _ HK3.out).mono ?_
  rintro e w4 ⟨g2, rfl, hgu, hk4⟩
  have HG4 : Hid (GI w.heap.size w4 g LK15 ∧ GI 0 w4 g2 LK15) := ⟨HG3.out.kp hk4, hgu⟩
  have HK4 : Hid (Kp w w4 Nul) := HK3.out.trans hk4
  have hn2 := fun wq => ne_ptr24 g2 wq
  clear hk4 hgu HG3 HK3 HUn
  go_wp2_with fail
  have hk5 : Kp w4 (w4.alloc (.cells #[.float .f64 4607182418800017408, .float .f64 4591870180066957722] 36)) Nul := (Kp.refl _ _).alloc _
  have HFA : Hid (FlAt (w4.alloc (.cells #[.float .f64 4607182418800017408, .float .f64 4591870180066957722] 36)) (.slice (some ⟨w4.heap.size, 0, none⟩) 2 2) [4607182418800017408, 4591870180066957722]) := by
    have hb : Blk (w4.alloc (.cells #[.float .f64 4607182418800017408, .float .f64 4591870180066957722] 36)) w4.heap.size [.float .f64 4607182418800017408, .float .f64 4591870180066957722] 36 := Blk.new w4 _ _
    refine ⟨_, 2, rfl, fun i x hx => ?_⟩
    match i, hx with
    | 0, hx => injection hx with hx; subst hx; exact ⟨by decide, w4.heap.size, 0, rfl, hb.lt, hb.cell rfl⟩
    | 1, hx => injection hx with hx; subst hx; exact ⟨by decide, w4.heap.size, 0, rfl, hb.lt, hb.cell rfl⟩
  have HK5 : Hid (Kp w (w4.alloc (.cells #[.float .f64 4607182418800017408, .float .f64 4591870180066957722] 36)) Nul) := HK4.out.trans hk5
  have HG5 : Hid (GI w.heap.size (w4.alloc (.cells #[.float .f64 4607182418800017408, .float .f64 4591870180066957722] 36)) g LK15 ∧ GI 0 (w4.alloc (.cells #[.float .f64 4607182418800017408, .float .f64 4591870180066957722] 36)) g2 LK15) := ⟨HG4.out.1.kp hk5, HG4.out.2.kp hk5⟩
  clear hk5 HG4 HK4
  generalize (w4.alloc (.cells #[.float .f64 4607182418800017408, .float .f64 4591870180066957722] 36)) = w5 at *
  refine (HSg.out _ _ HK5.out HFA.out).mono ?_
  rintro e w6 ⟨rfl, hk6⟩
  have HG6 : Hid (GI 0 w6 g LK15 ∧ GI 0 w6 g2 LK15) := ⟨GridIn.mono (HG5.out.1.kp hk6) (fun _ _ => Nat.zero_le _), HG5.out.2.kp hk6⟩
  have HK6 : Hid (Kp w w6 Nul) := HK5.out.trans hk6
  have hln : (F.size : Int) = 24 := HLen.out
  clear hk6 HG5 HK5 HFA HSg
  go_wp2_with (first | (simp only [HTk.out]) | fail)
  refine (HEq.out _ _ HG6.out.2 HG6.out.1).mono ?_
  rintro e w7 ⟨rfl, hk7⟩
  have HK7 : Hid (Kp w w7 Nul) := HK6.out.trans hk7
  clear hk7 HG6 HK6 HEq
  go_wp2_with fail
  go_ret
  exact ⟨rfl, HK7.out⟩
end Go.Proofs.YthgeojgfjpcelabGreatDoor
namespace Go.Proofs.YthgeojgfjpcelabGreatDoor
open Go.RowKit Go.Maps Go.Sort Go.Lib Go.Shelf

set_option maxHeartbeats 1000000 in
theorem pick24 (c m : Int) (hc : I64 c) (h1 : 1 ≤ m) (w : World) : Calls Tryz.prog 9 #[.int .i64 c, .int .i64 m] w fun e w' => e = .returned (.int .i64 (pkf c m)) ∧ w' = w := by
  have HC : Hid (-9223372036854775808 ≤ c ∧ c ≤ 9223372036854775807) := by unfold I64 at hc; exact hc
  have hm0 : m ≠ 0 := by omega
  have hv := (pkf_val c m h1).1
  generalize pkf c m = p at *
  clear hc
  by_cases h : c < 0
  · rw [if_pos h] at hv
    have hX : wrap64 (-wrap64 (c + 1)) = -(c + 1) := by have := HC.out; unfold wrap64; omega
    have hY : (-(c + 1)).tmod m = (-(c + 1)) % m := Int.tmod_eq_emod_of_nonneg (by omega)
    have HX : Hid (wrap64 (-wrap64 (c + 1)) = -(c + 1)) := hX
    have HE : Hid ((-(c + 1)).tmod m = (p : Int)) := by show _ = _; rw [hY, hv]
    clear hX hY hv
    go_enter Tryz.func9, Tryz.ntmps9
    go_wp2
    go_ret
    refine ⟨rInt ?_, rfl⟩
    first
    | exact HE.out
    | (rw [HX.out]; exact HE.out)
  · rw [if_neg h] at hv
    have hY : c.tmod m = c % m := Int.tmod_eq_emod_of_nonneg (by omega)
    have HE : Hid (c.tmod m = (p : Int)) := by show _ = _; rw [hY, hv]
    have HE2 : Hid (c % m = (p : Int)) := hv.symm
    clear hY hv
    go_enter Tryz.func9, Tryz.ntmps9
    go_wp2
    go_ret
    refine ⟨rInt ?_, rfl⟩
    first
    | exact HE.out
    | exact HE2.out
theorem pkt_cases (K : List Cc) : (pkE K = 0 ∧ (fileB K).length ≤ 4194304 ∧ pkS K = fileB K) ∨ pkE K = 2 := by
  unfold pkE pkS
  by_cases h : (fileB K).length ≤ 4194304
  · rw [if_pos h, if_pos h]; exact .inl ⟨rfl, h, rfl⟩
  · rw [if_neg h]; exact .inr rfl
set_option maxRecDepth 4000 in
/-- The bytes of a string, and one of them turned. -/
theorem bytes_turned (s : List UInt8) (n k : Nat) (a b : UInt8) (hn : s.length = n) (hk : s[k]? = some a) (w : World) : ∃ cap W1, (convert 9 29 (.string ⟨s.toArray⟩)).run Tryz.prog w = .ok (.slice (some ⟨w.heap.size, 0, none⟩) n cap) W1 ∧ Kp w W1 Nul ∧ W1.cell? ⟨w.heap.size, k, none⟩ = some (.int .u8 a.toNat) ∧ W1.frozen? ⟨w.heap.size, k, none⟩ = false ∧
    (convert 29 9 (.slice (some ⟨w.heap.size, 0, none⟩) n cap)).run Tryz.prog (W1.setCell ⟨w.heap.size, k, none⟩ (.int .u8 b.toNat)) = .ok (.string ⟨(s.take k ++ b :: s.drop (k + 1)).toArray⟩) (W1.setCell ⟨w.heap.size, k, none⟩ (.int .u8 b.toNat)) ∧ Kp w (W1.setCell ⟨w.heap.size, k, none⟩ (.int .u8 b.toNat)) Nul := by
  have hs : (ByteArray.mk s.toArray).size = n := by show s.toArray.size = _; rw [List.size_toArray, hn]
  have hcv := run_bytes_of_string (P := Tryz.prog) w 9 29 5 ⟨s.toArray⟩ Tryz.underlying9 Tryz.underlying29 Tryz.underlying5
  rw [hs] at hcv
  obtain ⟨cap, hcap⟩ : ∃ cap, grownCap w n 0 5 = cap := ⟨_, rfl⟩
  have hge := grownCap_ge w n 0 5
  rw [hcap] at hcv hge
  obtain ⟨row, hrow⟩ : ∃ row, bytesRow ⟨s.toArray⟩ cap = row := ⟨_, rfl⟩
  rw [hrow] at hcv
  have hrs : row.size = cap := by
    rw [← hrow]
    unfold bytesRow
    rw [Array.size_append, Array.size_map, Array.size_replicate, hs]
    show s.toArray.size + _ = _
    rw [List.size_toArray, hn]
    omega
  have hkn : k < n := by rw [← hn]; exact (List.getElem?_eq_some_iff.1 hk).1
  have hcell : ∀ j x, s[j]? = some x → row[j]? = some (Value.int .u8 (UInt8.toNat x)) := fun j x hx => by
    rw [← hrow]
    unfold bytesRow
    have hj := (List.getElem?_eq_some_iff.1 hx).1
    rw [Array.getElem?_append_left (by simpa using hj)]
    simp [hx]
  obtain ⟨W1, hW1⟩ : ∃ W1, w.drew.alloc (.cells row 5 (row.size, row.size + 1)) = W1 := ⟨_, rfl⟩
  rw [hW1] at hcv
  have k1 : Kp w W1 Nul := by rw [← hW1]; exact ((Kp.refl w Nul).drew).alloc _
  have hb1 : W1.heap[w.heap.size]? = some (.cells row 5 (row.size, row.size + 1)) := by rw [← hW1]; exact World.alloc_heap_new w.drew _
  have hc1 : ∀ j, W1.cell? ⟨w.heap.size, j, none⟩ = row[j]? := fun j => cell_of_row W1 w.heap.size j row 5 (row.size, row.size + 1) hb1
  have hb2 : (W1.setCell ⟨w.heap.size, k, none⟩ (.int .u8 b.toNat)).heap[w.heap.size]? = some (.cells (row.setIfInBounds k (.int .u8 b.toNat)) 5 (row.size, row.size + 1)) := by
    rw [setCell_eq_setRow W1 w.heap.size k row 5 (row.size, row.size + 1) _ hb1]
    exact setRow_heap W1 w.heap.size row _ _ _ hb1
  have hc2 : ∀ j, (W1.setCell ⟨w.heap.size, k, none⟩ (.int .u8 b.toNat)).cell? ⟨w.heap.size, j, none⟩ = (row.setIfInBounds k (.int .u8 b.toNat))[j]? := fun j => cell_of_row _ w.heap.size j _ 5 (row.size, row.size + 1) hb2
  have hln : (s.take k ++ b :: s.drop (k + 1)).length = n := by
    rw [List.length_append, List.length_cons, List.length_take, List.length_drop, hn]
    omega
  have hbk := run_convert_bytes_back (P := Tryz.prog) (W1.setCell ⟨w.heap.size, k, none⟩ (.int .u8 b.toNat)) 29 9 5 ⟨w.heap.size, 0, none⟩ cap (s.take k ++ b :: s.drop (k + 1)) Tryz.underlying29 Tryz.underlying5 Tryz.underlying9 (fun j hj => by
    have hadd : (⟨w.heap.size, 0, none⟩ : Addr).add j = ⟨w.heap.size, j, none⟩ := by unfold Addr.add; split <;> simp_all
    rw [hadd, hc2]
    have hget : (s.take k ++ b :: s.drop (k + 1))[j]? = some (s.take k ++ b :: s.drop (k + 1))[j] := List.getElem?_eq_getElem hj
    rw [Array.getElem?_setIfInBounds]
    by_cases e : k = j
    · subst e
      have e2 : (s.take k ++ b :: s.drop (k + 1))[k]? = some b := by
        rw [List.getElem?_append_right (by rw [List.length_take]; omega), List.length_take, Nat.min_eq_left (by omega), Nat.sub_self]
        rfl
      rw [e2] at hget
      injection hget with hget
      rw [if_pos rfl, if_pos (by rw [hrs]; omega), ← hget]
    · rw [if_neg e]
      have e2 : (s.take k ++ b :: s.drop (k + 1))[j]? = s[j]? := by
        rcases Nat.lt_or_ge j k with q | q
        · rw [List.getElem?_append_left (by rw [List.length_take]; omega), List.getElem?_take, if_pos q]
        · have q2 : k + 1 ≤ j := by omega
          rw [List.getElem?_append_right (by rw [List.length_take]; omega), List.length_take, Nat.min_eq_left (by omega)]
          obtain ⟨d, rfl⟩ : ∃ d, j = k + 1 + d := ⟨j - (k + 1), by omega⟩
          rw [show k + 1 + d - k = d + 1 from by omega, List.getElem?_cons_succ, List.getElem?_drop]
      rw [e2] at hget
      exact hcell j _ hget)
  rw [hln] at hbk
  refine ⟨cap, W1, hcv, k1, by rw [hc1]; exact hcell k a hk, ?_, hbk, k1.setCell ⟨w.heap.size, k, none⟩ _ (.inl (Nat.le_refl _))⟩
  simp only [World.frozen?, hb1, Bool.and_eq_false_iff, decide_eq_false_iff_not]
  left
  omega
theorem xor_ne {a : UInt8} {y : Nat} (hy : y < 256) (h0 : y ≠ 0) : a ≠ UInt8.ofNat (a.toNat ^^^ y) ∧ (UInt8.ofNat (a.toNat ^^^ y)).toNat = a.toNat ^^^ y := by
  have ha := a.toNat_lt
  have hx : a.toNat ^^^ y < 2 ^ 8 := Nat.xor_lt_two_pow (by omega) (by omega)
  have e : (UInt8.ofNat (a.toNat ^^^ y)).toNat = a.toNat ^^^ y := by rw [UInt8.toNat_ofNat']; omega
  refine ⟨fun q => ?_, e⟩
  have e2 := congrArg UInt8.toNat q
  rw [e] at e2
  have e3 : a.toNat ^^^ (a.toNat ^^^ y) = a.toNat ^^^ a.toNat := by rw [← e2]
  rw [← Nat.xor_assoc, Nat.xor_self, Nat.zero_xor] at e3
  exact h0 e3
set_option maxRecDepth 40000 in
set_option maxHeartbeats 16000000 in
theorem turned24 (vl : Value) (xl : List (Cc × Value)) (z : Int) (hz : I64 z) (y : Nat) (hy : y < 256) (w : World) (hl : PutsIn w vl xl) (U : VS w) (hs : Sh w) (hT : Tab w) :
    Calls Tryz.prog 3 #[vl, .int .i64 z, .int .u8 y] w fun e w' => e = .returned (.bool true) ∧ Kp w w' Nul := by
  have HMl : Hid (Calls Tryz.prog 6 #[vl] w fun e w' => ∃ g L, e = .returned (.pointer (some ⟨g, 0, none⟩)) ∧ GI w.heap.size w' g L ∧ Ok17 L ∧ Kp w w' Nul) := made24 vl xl w hl U
  have HPk : Hid (∀ g L K wq, Kp w wq Nul → GI 0 wq g L → Ok17 L → Strict (K.map (·.1)) → (∀ x, x ∈ K ↔ x ∈ L) → K.length = L.length → Calls Tryz.prog 7 #[.pointer (some ⟨g, 0, none⟩)] wq fun e w' => e = .returned (.tuple #[.string ⟨(pkS K).toArray⟩, .int .i64 (pkE K)]) ∧ Kp wq w' Nul) := fun g L K wq k h1 h2 h3 h4 h5 => pack_at g L K wq h1 h2 h3 h4 h5 (hs.kp k (fun x => x))
  have HUn : Hid (∀ t wq, Kp w wq Nul → Calls Tryz.prog 10 #[.string ⟨t.toArray⟩] wq fun e w' => UpP wq (upR t) (upO t) e w') := fun t wq k => unpack_at t wq (hs.kp k (fun x => x)) (U.kp k)
  have HKn : Hid (∀ wq, Kp w wq Nul → Calls Tryz.prog 8 #[] wq fun e w' => e = .returned (.bool true) ∧ Kp wq w' Nul) := fun wq k => known24 wq (U.kp k) (hs.kp k (fun x => x)) (fun j hj => k.cellN (hT j hj) (fun x => x))
  have HI : Hid (I64 z) := hz
  have HY : Hid (y < 256) := hy
  clear hl U hs hT hz hy
  go_enter Tryz.func3, Tryz.ntmps3
  go_wp2_with fail
  refine HMl.out.mono ?_
  rintro e w1 ⟨g, L, rfl, hg1, hoL, hk1⟩
  have hgL : GI 0 w1 g L := GridIn.mono hg1 (fun _ _ => Nat.zero_le _)
  obtain ⟨K, K1, K2, K3⟩ := sorted_of hgL.once
  have HG1 : Hid (GI 0 w1 g L ∧ Ok17 L) := ⟨hgL, hoL⟩
  have HKK : Hid (Strict (K.map (·.1)) ∧ (∀ x, x ∈ K ↔ x ∈ L) ∧ K.length = L.length) := ⟨K1, K2, K3⟩
  have HK1 : Hid (Kp w w1 Nul) := hk1
  have hng := fun wq => nil_ptr24 g wq
  clear hg1 hoL hk1 hgL K1 K2 K3 HMl
  go_wp2_with fail
  refine (HPk.out g L K w1 HK1.out HG1.out.1 HG1.out.2 HKK.out.1 HKK.out.2.1 HKK.out.2.2).mono ?_
  rintro e w2 ⟨rfl, hk2⟩
  have HK2 : Hid (Kp w w2 Nul) := HK1.out.trans hk2
  obtain ⟨sK, hsK⟩ : ∃ sK, pkS K = sK := ⟨_, rfl⟩
  obtain ⟨eK, heK⟩ : ∃ eK, pkE K = eK := ⟨_, rfl⟩
  have HcK : Hid ((eK = 0 ∧ (fileB K).length ≤ 4194304 ∧ sK = fileB K) ∨ eK = 2) := by have := pkt_cases K; rw [hsK, heK] at this; exact this
  rw [hsK, heK]
  have HKN : Hid (Calls Tryz.prog 8 #[] w2 fun e w' => e = .returned (.bool true) ∧ Kp w2 w' Nul) := HKn.out w2 HK2.out
  clear hk2 HG1 HK1 hsK heK HPk
  rcases HcK.out with ⟨e1, lK, sKe⟩ | e1
  · subst e1
    by_cases hy0 : y = 0
    · subst hy0
      have hsc : sK = sK := rfl
      clear sKe lK hsc
      go_wp2_with fail
      refine HKN.out.mono ?_
      rintro e w5 ⟨rfl, hk5⟩
      have HK5 : Hid (Kp w w5 Nul) := HK2.out.trans hk5
      clear hk5
      go_wp2_with fail
      go_ret
      exact ⟨rfl, HK5.out⟩
    · have hyb : ((y : Int) == 0) = false := by simp; omega
      have hlen := bodyB_len K
      have hfl := fileB_len K
      obtain ⟨n, hn⟩ : ∃ n, sK.length = n := ⟨_, rfl⟩
      have hn1 : 10 ≤ n := by rw [← hn, sKe]; omega
      obtain ⟨k, hk⟩ : ∃ k, pkf z n = k := ⟨_, rfl⟩
      have hkn : k < n := by have := (pkf_val z n (by omega)).2; omega
      obtain ⟨a, ha⟩ : ∃ a, sK[k]? = some a := ⟨_, List.getElem?_eq_getElem (by omega)⟩
      obtain ⟨x1, x2⟩ := xor_ne (a := a) HY.out hy0
      obtain ⟨b, hb⟩ : ∃ b, UInt8.ofNat (a.toNat ^^^ y) = b := ⟨_, rfl⟩
      rw [hb] at x1 x2
      obtain ⟨cap, W1, hcv, k1, hc1, hf1, hbk, k2⟩ := bytes_turned sK n k a b hn ha w2
      have HPi : Hid (∀ wq, Calls Tryz.prog 9 #[.int .i64 z, .int .i64 n] wq fun e w' => e = .returned (.int .i64 (k : Nat)) ∧ w' = wq) := fun wq => by
        have := pick24 z n HI.out (by omega) wq
        rw [hk] at this
        exact this
      have hxo : bits .xor .u8 (a.toNat : Int) (y : Int) = (b.toNat : Int) := by rw [xor_u8 _ _ a.toNat_lt HY.out, x2]
      obtain ⟨t, ht⟩ : ∃ t, sK.take k ++ b :: sK.drop (k + 1) = t := ⟨_, rfl⟩
      rw [ht] at hbk
      have htk : (sK.take k).length = k := by rw [List.length_take]; omega
      have hup := up_turned (K := K) (p := sK.take k) (q := sK.drop (k + 1)) (a := a) (b := b) lK (by
        rw [← sKe]
        have e := List.take_append_drop k sK
        rw [List.drop_eq_getElem_cons (by omega)] at e
        have e2 : sK[k] = a := by have := ha; rw [List.getElem?_eq_getElem (by omega)] at this; injection this
        rw [e2] at e
        exact e.symm) x1
      rw [ht, htk] at hup
      have HUp : Hid (upO t = none ∧ upR t = if k < 4 then 50 else 51) := hup
      have HKT : Hid (Kp w (W1.setCell ⟨w2.heap.size, k, none⟩ (.int .u8 b.toNat)) Nul) := HK2.out.trans k2
      have hkI : (k : Int) < (n : Int) := by omega
      have hk0 : (0 : Int) ≤ (k : Int) := by omega
      obtain ⟨W2, hW2⟩ : ∃ W2, W1.setCell ⟨w2.heap.size, k, none⟩ (.int .u8 b.toNat) = W2 := ⟨_, rfl⟩
      rw [hW2] at hbk
      have HW2 : Hid (W1.setCell ⟨w2.heap.size, k, none⟩ (.int .u8 b.toNat) = W2) := hW2
      rw [hW2] at HKT
      clear hup htk ht k2 k1 x1 x2 hb ha hk hlen hfl hn hn1 hy0 lK sKe hW2 HKN hkn
      go_wp2_with fail
      refine (HPi.out _).mono ?_
      rintro e w3 ⟨rfl, hz3⟩
      replace hz3 := hz3.symm
      subst hz3
      clear HPi hcv hyb
      go_wp2_with (first | (rw [HW2.out]) | fail)
      refine (HUn.out t W2 HKT.out).mono ?_
      intro e w4 hr
      rw [HUp.out.1, HUp.out.2] at hr
      have HKN4 : Hid (∀ wq, Kp W2 wq Nul → Calls Tryz.prog 8 #[] wq fun e w' => e = .returned (.bool true) ∧ Kp wq w' Nul) := fun wq k => HKn.out wq (HKT.out.trans k)
      clear hbk hc1 hf1 hxo HW2 HUn
      by_cases hk4 : k < 4
      · rw [if_pos hk4] at hr
        have hk4' : (k : Int) < 4 := by omega
        cases hr with
        | no kp =>
          have HK4 : Hid (Kp W2 w4 Nul) := kp
          clear kp hk4
          go_wp2_with fail
          refine (HKN4.out w4 HK4.out).mono ?_
          rintro e w5 ⟨rfl, k5⟩
          have HK5 : Hid (Kp w w5 Nul) := (HKT.out.trans HK4.out).trans k5
          clear k5
          go_wp2_with fail
          go_ret
          exact ⟨rfl, HK5.out⟩
      · rw [if_neg hk4] at hr
        have hk4' : ¬ (k : Int) < 4 := by omega
        cases hr with
        | no kp =>
          have HK4 : Hid (Kp W2 w4 Nul) := kp
          clear kp hk4
          go_wp2_with fail
          refine (HKN4.out w4 HK4.out).mono ?_
          rintro e w5 ⟨rfl, k5⟩
          have HK5 : Hid (Kp w w5 Nul) := (HKT.out.trans HK4.out).trans k5
          clear k5
          go_wp2_with fail
          go_ret
          exact ⟨rfl, HK5.out⟩
  · subst e1
    go_wp2_with fail
    refine HKN.out.mono ?_
    rintro e w5 ⟨rfl, hk5⟩
    have HK5 : Hid (Kp w w5 Nul) := HK2.out.trans hk5
    clear hk5
    go_wp2_with fail
    go_ret
    exact ⟨rfl, HK5.out⟩
end Go.Proofs.YthgeojgfjpcelabGreatDoor
