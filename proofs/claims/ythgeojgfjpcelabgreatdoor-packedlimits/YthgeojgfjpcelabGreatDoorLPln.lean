/- Packed: known, the walk. PackedTurned: the walk. PackedLimits: its pieces: strings and lists of noughts. PackedLimits, plain: the grid of words; what is too long. No function of the program here. PackedLimits: the walk. PackedLimits: the walk. -/
import Derived.Test.YthgeojgfjpcelabGreatDoorLPlg
import Derived.Test.YthgeojgfjpcelabGreatDoorLPlh
import Derived.Test.YthgeojgfjpcelabGreatDoorLIv
import Derived.Test.YthgeojgfjpcelabGreatDoorLId
import Derived.Test.YthgeojgfjpcelabGreatDoorLPmb
namespace Go.Proofs.YthgeojgfjpcelabGreatDoor
open Go.RowKit Go.Maps Go.Sort Go.Lib Go.Shelf

def ct15 : Ct := ⟨1, ⟨1, 4609434218613702656, ⟨#[]⟩, false, 0⟩, zNd⟩
def LK15 : List Cc := [((1, 1), ct15)]
theorem gv15 : gv ct15 = true := by
  unfold gv validC
  have h1 : bareV ct15.v = true := by simp [bareV, ct15]
  have h2 : zeroN ct15.t = true := zeroN_z
  simp [validV, h1, h2]
  simp [ct15]
theorem cp15 : cpC ct15 = ct15 := by
  unfold cpC ct15
  simp only [cpy_zNd]
  congr 1
theorem gd15 : Gd ct15 := ⟨gv15, by show (1 : Int) ≠ 0; decide, zNd_ok, by decide, by show zNd.size ≤ _; rw [zsize]; decide, cp15⟩
theorem ok15 : Ok17 LK15 := ⟨fun x hx => by obtain rfl := List.mem_singleton.1 hx; exact gd15, fun x hx => by obtain rfl := List.mem_singleton.1 hx; decide, by decide⟩
theorem st15 : Strict (LK15.map (·.1)) := by unfold Strict LK15; simp
theorem cs15 : cB ((1, 1), ct15) = [1, 0, 1, 0, 1, 1, 0, 0, 0, 0, 0, 0, 248, 63] := by decide +kernel
theorem body15 : bodyB LK15 = [81, 68, 82, 49, 1, 0, 1, 0, 1, 0, 1, 1, 0, 0, 0, 0, 0, 0, 248, 63] := by
  unfold bodyB csB LK15
  rw [List.flatMap_cons, List.flatMap_nil, List.append_nil, cs15]
  decide
theorem len15 : (fileB LK15).length = 24 := by rw [fileB_len, body15]; rfl
theorem take15 : (fileB LK15).take 20 = [81, 68, 82, 49, 1, 0, 1, 0, 1, 0, 1, 1, 0, 0, 0, 0, 0, 0, 248, 63] := by
  have : fileB LK15 = bodyB LK15 ++ le 4 (crcS (bodyB LK15)) := rfl
  rw [this, body15]
  exact List.take_left (l₁ := [81, 68, 82, 49, 1, 0, 1, 0, 1, 0, 1, 1, 0, 0, 0, 0, 0, 0, 248, 63])
theorem pk15 : pkS LK15 = fileB LK15 ∧ pkE LK15 = 0 := by
  unfold pkS pkE
  rw [if_pos (by rw [len15]; decide), if_pos (by rw [len15]; decide)]
  exact ⟨rfl, rfl⟩
theorem up15 : upO (fileB LK15) = some LK15 ∧ upR (fileB LK15) = 0 := up_file st15 ok15 (by rw [len15]; decide)
theorem sgl1 : sW 1 4607182418800017408 = 1065353216 ∧ sI 1 4607182418800017408 = false := by decide +kernel
theorem sgl2 : sW 1 4591870180066957722 = 1036831949 ∧ sI 1 4591870180066957722 = true := by decide +kernel
theorem sg15 : sgE 1 2 = 0 ∧ sgS 1 [4607182418800017408, 4591870180066957722] = [0, 0, 128, 63, 205, 204, 204, 61] ∧ sgN 1 [4607182418800017408, 4591870180066957722] = 1 := by
  have e0 : sgE 1 2 = 0 := by decide
  refine ⟨e0, ?_, ?_⟩
  · unfold sgS
    rw [if_pos (show sgE 1 [4607182418800017408, 4591870180066957722].length = 0 from e0)]
    unfold snB
    rw [List.flatMap_cons, List.flatMap_cons, List.flatMap_nil, sgl1.1, sgl2.1]
    decide
  · unfold sgN
    rw [if_pos (show sgE 1 [4607182418800017408, 4591870180066957722].length = 0 from e0)]
    unfold snI
    rw [List.filter_cons, sgl1.2, List.filter_cons, sgl2.2]
    rfl
theorem eqC_self (L : List Cc) : eqC L L = true := eqC_true ⟨rfl, fun _ a h => ⟨a, h, csame_refl a⟩⟩
theorem ne_ptr24 (g : Nat) (w : World) : (binOp .neq 23 (.pointer (some ⟨g, 0, none⟩)) (.pointer none)).run Tryz.prog w = .ok (.bool true) w := by
  simp [go_sem]
set_option maxRecDepth 20000 in
set_option maxHeartbeats 16000000 in
theorem known24 (w : World) (U : VS w) (hs : Sh w) (hT : Tab w) : Calls Tryz.prog 8 #[] w fun e w' => e = .returned (.bool true) ∧ Kp w w' Nul := by
  obtain ⟨g, hgw⟩ : ∃ g, g = w.heap.size := ⟨_, rfl⟩
  have HNew : Hid (Calls Tryz.prog 21 #[] w fun e w' => e = .returned (.pointer (some ⟨g, 0, none⟩)) ∧ GI w.heap.size w' g [] ∧ Kp w w' Nul) := (new_at w).mono (by
    rintro e w' ⟨rfl, rfl⟩
    subst hgw
    exact ⟨rfl, grid_new w _ (Nat.le_refl _), (Kp.refl w Nul).alloc _⟩)
  have HPut : Hid (∀ wq, GI w.heap.size wq g [] → Kp w wq Nul → Calls Tryz.prog 22 #[.pointer (some ⟨g, 0, none⟩), .agg #[.int .i64 1, .int .i64 1], ct15.val (.slice none 0 0)] wq fun e w' => e = .returned (.int .i64 0) ∧ GI w.heap.size w' g LK15 ∧ Kp w w' Nul) := fun wq h k => (put22 w g 1 1 ct15 (.slice none 0 0) [] wq h k Ok17.nil gd15 (by decide) (zNd_in _ _) (by decide) U).mono fun e w' h => ⟨h.1, h.2.1, h.2.2.2⟩
  have HPack : Hid (∀ wq, GI w.heap.size wq g LK15 → Kp w wq Nul → Calls Tryz.prog 7 #[.pointer (some ⟨g, 0, none⟩)] wq fun e w' => e = .returned (.tuple #[.string ⟨(fileB LK15).toArray⟩, .int .i64 0]) ∧ Kp wq w' Nul) := fun wq h k => (pack_at g LK15 LK15 wq (GridIn.mono h (fun _ _ => Nat.zero_le _)) ok15 st15 (fun _ => Iff.rfl) rfl (hs.kp k (fun x => x))).mono fun e w' h => by
    rw [pk15.1, pk15.2] at h
    exact h
  have HUn : Hid (∀ wq, Kp w wq Nul → Calls Tryz.prog 10 #[.string ⟨(fileB LK15).toArray⟩] wq fun e w' => ∃ g2, e = .returned (.tuple #[.pointer (some ⟨g2, 0, none⟩), .int .i64 0]) ∧ GI 0 w' g2 LK15 ∧ Kp wq w' Nul) := fun wq k => (unpack_at (fileB LK15) wq (hs.kp k (fun x => x)) (U.kp k)).mono fun e w' h => by
    rw [up15.1, up15.2] at h
    cases h with
    | ok gi kp => exact ⟨_, rfl, GridIn.mono gi (fun _ _ => Nat.zero_le _), kp⟩
  have HSg : Hid (∀ v wq, Kp w wq Nul → FlAt wq v [4607182418800017408, 4591870180066957722] → Calls Tryz.prog 15 #[v, .int .i64 1] wq fun e w' => e = .returned (.tuple #[.string ⟨#[0, 0, 128, 63, 205, 204, 204, 61]⟩, .int .i64 1, .int .i64 0]) ∧ Kp wq w' Nul) := fun v wq k hf => (singles_at v _ 1 wq hf (fun j hj => k.cellN (hT j hj) (fun x => x))).mono fun e w' h => by
    rw [sg15.2.1, sg15.2.2, show [4607182418800017408, 4591870180066957722].length = 2 from rfl, sg15.1] at h
    exact h
  have HEq : Hid (∀ g2 wq, GI 0 wq g2 LK15 → GI 0 wq g LK15 → Calls Tryz.prog 31 #[.pointer (some ⟨g2, 0, none⟩), .pointer (some ⟨g, 0, none⟩)] wq fun e w' => e = .returned (.bool true) ∧ Kp wq w' Nul) := fun g2 wq h1 h2 => (equal_at g2 g LK15 LK15 wq h1 h2 ok15.okC ok15.okC).mono fun e w' h => by
    rw [eqC_self] at h
    exact h
  have hng := fun wq => nil_ptr24 g wq
  have HLen : Hid (((ByteArray.mk (fileB LK15).toArray).size : Int) = 24) := by show (((fileB LK15).toArray.size : Nat) : Int) = 24; rw [List.size_toArray, len15]; rfl
  have HTk : Hid ((ByteArray.mk (fileB LK15).toArray).extract 0 20 = ⟨#[81, 68, 82, 49, 1, 0, 1, 0, 1, 0, 1, 1, 0, 0, 0, 0, 0, 0, 248, 63]⟩) := by show _ = _; rw [ba_take, take15]
  generalize (ByteArray.mk (fileB LK15).toArray) = F at *
  clear hgw U hs hT
  go_enter Tryz.func8, Tryz.ntmps8
  go_wp2_with fail
  refine HNew.out.mono ?_
  rintro e w1 ⟨rfl, hg1, hk1⟩
  have HG1 : Hid (GI w.heap.size w1 g []) := hg1
  have HK1 : Hid (Kp w w1 Nul) := hk1
  clear hg1 hk1 HNew
  go_wp2_with fail
  refine (HPut.out _ HG1.out HK1.out).mono ?_
  rintro e w2 ⟨rfl, hg2, hk2⟩
  have HG2 : Hid (GI w.heap.size w2 g LK15) := hg2
  have HK2 : Hid (Kp w w2 Nul) := hk2
  clear hg2 hk2 HG1 HK1 HPut
  go_wp2_with fail
  refine (HPack.out _ HG2.out HK2.out).mono ?_
  rintro e w3 ⟨rfl, hk3⟩
  have HG3 : Hid (GI w.heap.size w3 g LK15) := HG2.out.kp hk3
  have HK3 : Hid (Kp w w3 Nul) := HK2.out.trans hk3
  clear hk3 HG2 HK2 HPack
  go_wp2_with fail
  refine (HUn.out _ HK3.out).mono ?_
  rintro e w4 ⟨g2, rfl, hgu, hk4⟩
  have HG4 : Hid (GI w.heap.size w4 g LK15 ∧ GI 0 w4 g2 LK15) := ⟨HG3.out.kp hk4, hgu⟩
  have HK4 : Hid (Kp w w4 Nul) := HK3.out.trans hk4
  have hn2 := fun wq => ne_ptr24 g2 wq
  clear hk4 hgu HG3 HK3 HUn
  go_wp2_with fail
  have hk5 : Kp w4 (w4.alloc (.cells #[.float .f64 4607182418800017408, .float .f64 4591870180066957722] 36)) Nul := (Kp.refl _ _).alloc _
  have HFA : Hid (FlAt (w4.alloc (.cells #[.float .f64 4607182418800017408, .float .f64 4591870180066957722] 36)) (.slice (some ⟨w4.heap.size, 0, none⟩) 2 2) [4607182418800017408, 4591870180066957722]) := by
    have hb : Blk (w4.alloc (.cells #[.float .f64 4607182418800017408, .float .f64 4591870180066957722] 36)) w4.heap.size [.float .f64 4607182418800017408, .float .f64 4591870180066957722] 36 := Blk.new w4 _ _
    refine ⟨_, 2, rfl, fun i x hx => ?_⟩
    match i, hx with
    | 0, hx => injection hx with hx; subst hx; exact ⟨by decide, w4.heap.size, 0, rfl, hb.lt, hb.cell rfl⟩
    | 1, hx => injection hx with hx; subst hx; exact ⟨by decide, w4.heap.size, 0, rfl, hb.lt, hb.cell rfl⟩
  have HK5 : Hid (Kp w (w4.alloc (.cells #[.float .f64 4607182418800017408, .float .f64 4591870180066957722] 36)) Nul) := HK4.out.trans hk5
  have HG5 : Hid (GI w.heap.size (w4.alloc (.cells #[.float .f64 4607182418800017408, .float .f64 4591870180066957722] 36)) g LK15 ∧ GI 0 (w4.alloc (.cells #[.float .f64 4607182418800017408, .float .f64 4591870180066957722] 36)) g2 LK15) := ⟨HG4.out.1.kp hk5, HG4.out.2.kp hk5⟩
  clear hk5 HG4 HK4
  generalize (w4.alloc (.cells #[.float .f64 4607182418800017408, .float .f64 4591870180066957722] 36)) = w5 at *
  refine (HSg.out _ _ HK5.out HFA.out).mono ?_
  rintro e w6 ⟨rfl, hk6⟩
  have HG6 : Hid (GI 0 w6 g LK15 ∧ GI 0 w6 g2 LK15) := ⟨GridIn.mono (HG5.out.1.kp hk6) (fun _ _ => Nat.zero_le _), HG5.out.2.kp hk6⟩
  have HK6 : Hid (Kp w w6 Nul) := HK5.out.trans hk6
  have hln : (F.size : Int) = 24 := HLen.out
  clear hk6 HG5 HK5 HFA HSg
  go_wp2_with (first | (simp only [HTk.out]) | fail)
  refine (HEq.out _ _ HG6.out.2 HG6.out.1).mono ?_
  rintro e w7 ⟨rfl, hk7⟩
  have HK7 : Hid (Kp w w7 Nul) := HK6.out.trans hk7
  clear hk7 HG6 HK6 HEq
  go_wp2_with fail
  go_ret
  exact ⟨rfl, HK7.out⟩
end Go.Proofs.YthgeojgfjpcelabGreatDoor
namespace Go.Proofs.YthgeojgfjpcelabGreatDoor
open Go.RowKit Go.Maps Go.Sort Go.Lib Go.Shelf

set_option maxHeartbeats 1000000 in
theorem pick24 (c m : Int) (hc : I64 c) (h1 : 1 ≤ m) (w : World) : Calls Tryz.prog 9 #[.int .i64 c, .int .i64 m] w fun e w' => e = .returned (.int .i64 (pkf c m)) ∧ w' = w := by
  have HC : Hid (-9223372036854775808 ≤ c ∧ c ≤ 9223372036854775807) := by unfold I64 at hc; exact hc
  have hm0 : m ≠ 0 := by omega
  have hv := (pkf_val c m h1).1
  generalize pkf c m = p at *
  clear hc
  by_cases h : c < 0
  · rw [if_pos h] at hv
    have hX : wrap64 (-wrap64 (c + 1)) = -(c + 1) := by have := HC.out; unfold wrap64; omega
    have hY : (-(c + 1)).tmod m = (-(c + 1)) % m := Int.tmod_eq_emod_of_nonneg (by omega)
    have HX : Hid (wrap64 (-wrap64 (c + 1)) = -(c + 1)) := hX
    have HE : Hid ((-(c + 1)).tmod m = (p : Int)) := by show _ = _; rw [hY, hv]
    clear hX hY hv
    go_enter Tryz.func9, Tryz.ntmps9
    go_wp2
    go_ret
    refine ⟨rInt ?_, rfl⟩
    first
    | exact HE.out
    | (rw [HX.out]; exact HE.out)
  · rw [if_neg h] at hv
    have hY : c.tmod m = c % m := Int.tmod_eq_emod_of_nonneg (by omega)
    have HE : Hid (c.tmod m = (p : Int)) := by show _ = _; rw [hY, hv]
    have HE2 : Hid (c % m = (p : Int)) := hv.symm
    clear hY hv
    go_enter Tryz.func9, Tryz.ntmps9
    go_wp2
    go_ret
    refine ⟨rInt ?_, rfl⟩
    first
    | exact HE.out
    | exact HE2.out
end Go.Proofs.YthgeojgfjpcelabGreatDoor
namespace Go.Proofs.YthgeojgfjpcelabGreatDoor
open Go.RowKit Go.Shelf

/-- n noughts. -/
def zs (n : Nat) : List UInt8 := List.replicate n 0
theorem zs_len (n : Nat) : (zs n).length = n := List.length_replicate
theorem makeB (n : Nat) (hn : n ≤ 8388608) (w : World) :
    (Instr.makeSlice 29 (.int .i64 (n : Int)) (.int .i64 (n : Int))).run Tryz.prog w = .ok (.slice (some ⟨w.heap.size, 0, none⟩) n n) (w.alloc (.cells (madeCells #[.int .u8 0] n) 5)) := by
  have hi : Tryz.prog.info? 5 = some ((Tryz.prog.info? 5).getD default) := by kernel_rfl
  have := run_make (P := Tryz.prog) w 29 5 _ (.int .u8 0) Tryz.underlying29 hi (by kernel_rfl) .i64 .i64 n n (by omega) (by omega) (by
    have : ((Tryz.prog.info? 5).getD default).bytes = 1 := by kernel_rfl
    rw [this]; omega) (by omega)
  have hs : ((Tryz.prog.info? 5).getD default).size = 1 := by kernel_rfl
  rw [hs, Nat.mul_one, Int.toNat_natCast] at this
  exact this
theorem zstr (n : Nat) (hn : n ≤ 8388608) (w : World) : ∃ W, (Instr.makeSlice 29 (.int .i64 (n : Int)) (.int .i64 (n : Int))).run Tryz.prog w = .ok (.slice (some ⟨w.heap.size, 0, none⟩) n n) W ∧ Kp w W Nul ∧ (convert 29 9 (.slice (some ⟨w.heap.size, 0, none⟩) n n)).run Tryz.prog W = .ok (.string ⟨(zs n).toArray⟩) W := by
  obtain ⟨W, hW⟩ : ∃ W, w.alloc (.cells (madeCells #[.int .u8 0] n) 5) = W := ⟨_, rfl⟩
  have hm := makeB n hn w
  rw [hW] at hm
  refine ⟨W, hm, by rw [← hW]; exact (Kp.refl _ _).alloc _, ?_⟩
  have hb : W.heap[w.heap.size]? = some (.cells (madeCells #[.int .u8 0] n) 5) := by rw [← hW]; exact World.alloc_heap_new w _
  have := run_convert_bytes_back (P := Tryz.prog) W 29 9 5 ⟨w.heap.size, 0, none⟩ n (zs n) Tryz.underlying29 Tryz.underlying5 Tryz.underlying9 (fun j hj => by
    have hadd : (⟨w.heap.size, 0, none⟩ : Addr).add j = ⟨w.heap.size, j, none⟩ := by unfold Addr.add; split <;> simp_all
    rw [hadd, Lib.cell_of_heap hb j, ← Array.getElem?_toList, made1, List.getElem?_replicate, if_pos (by rw [zs_len] at hj; exact hj)]
    have e : (zs n)[j] = 0 := List.getElem_replicate ..
    rw [e]
    rfl)
  rw [zs_len] at this
  exact this
theorem fl_zero (n : Nat) (w : World) : FlAt (w.alloc (.cells (madeCells #[.float .f64 0] n) 36)) (.slice (some ⟨w.heap.size, 0, none⟩) n n) (List.replicate n 0) := by
  refine ⟨_, n, by rw [List.length_replicate], fun i x hx => ?_⟩
  rw [List.getElem?_replicate] at hx
  split at hx
  · rename_i hi
    injection hx with hx
    subst hx
    refine ⟨by decide, w.heap.size, 0, rfl, by rw [World.size_alloc]; omega, ?_⟩
    have hb : (w.alloc (.cells (madeCells #[.float .f64 0] n) 36)).heap[w.heap.size]? = some (.cells (madeCells #[.float .f64 0] n) 36) := World.alloc_heap_new w _
    rw [Nat.zero_add, Lib.cell_of_heap hb i, ← Array.getElem?_toList, made1, List.getElem?_replicate, if_pos hi]
  · cases hx
theorem sI_zero (mode : Int) : sI mode 0 = false := by
  have h1 : isN 0 = false := by decide
  have h2 : plainB 0 = true := by decide
  unfold sI nwI
  rw [h1, h2]
  rfl
theorem snI_zero (mode : Int) (n : Nat) : snI mode (List.replicate n 0) = 0 := by
  unfold snI
  rw [List.filter_replicate, sI_zero, if_neg Bool.false_ne_true]
  rfl
end Go.Proofs.YthgeojgfjpcelabGreatDoor
namespace Go.Proofs.YthgeojgfjpcelabGreatDoor
open Go.RowKit Go.Maps Go.Sort Go.Lib Go.Shelf

/-- A text of 1024 noughts. -/
def ctZ : Ct := ⟨1, ⟨2, 0, ⟨(zs 1024).toArray⟩, false, 0⟩, zNd⟩
def cellZ (j : Nat) : Cc := (((1 + j % 64 : Nat), (1 + j / 64 : Nat)), ctZ)
def KZ (i : Nat) : List Cc := (List.range i).map cellZ
theorem KZ_len (i : Nat) : (KZ i).length = i := by unfold KZ; rw [List.length_map, List.length_range]
theorem KZ_succ (i : Nat) : KZ (i + 1) = KZ i ++ [cellZ i] := by unfold KZ; rw [List.range_succ, List.map_append]; rfl
theorem KZ_mem {i : Nat} {x : Cc} (h : x ∈ KZ i) : ∃ j, j < i ∧ x = cellZ j := by
  unfold KZ at h
  obtain ⟨j, h1, h2⟩ := List.mem_map.1 h
  exact ⟨j, List.mem_range.1 h1, h2.symm⟩
theorem cellZ_lt {j k : Nat} (h : j < k) : ltOf cfA (cellZ j).1 (cellZ k).1 = true := by
  rw [cfA_lt]
  unfold cellZ
  simp only
  omega
theorem KZ_upto : ∀ i, Upto (KZ (i + 1)) (cellZ i).1
  | 0 => ⟨by unfold KZ Strict; simp, fun x hx => by obtain ⟨j, h1, rfl⟩ := KZ_mem hx; exact .inl (by rw [show j = 0 by omega])⟩
  | i + 1 => by
    rw [KZ_succ]
    exact (KZ_upto i).add (cellZ_lt (by omega)) ctZ
theorem KZ_strict : ∀ i, Strict ((KZ i).map (·.1))
  | 0 => by unfold KZ Strict; simp
  | i + 1 => (KZ_upto i).st
theorem KZ_not (i : Nat) (c' : Ct) : ((cellZ i).1, c') ∉ KZ i := fun h => by
  obtain ⟨j, h1, h2⟩ := KZ_mem h
  have e : (cellZ i).1 = (cellZ j).1 := (congrArg (fun x : Cc => x.1) h2 : _)
  have h3 := cellZ_lt h1
  rw [← e, cfA_irr] at h3
  cases h3
theorem ctZ_rd : Rd ctZ := ⟨(fun e => by cases e), zNd_ok, by decide, by show zNd.size ≤ 256; rw [zsize]; decide, by
  unfold cpC ctZ
  simp only [cpy_zNd]
  congr 1⟩
theorem zs_valid : ∀ n, Lib.validD (zs n) = true
  | 0 => Lib.validD_nil
  | n + 1 => by
    have e : zs (n + 1) = 0 :: zs n := List.replicate_succ
    rw [e, Lib.validD_cons 0 (zs n) (by decide)]
    exact zs_valid n
theorem zs_size (n : Nat) : (ByteArray.mk (zs n).toArray).size = n := by show (zs n).toArray.size = n; rw [List.size_toArray, zs_len]
theorem ctZ_gv : gv ctZ = true := by
  have h1 : bareV ctZ.v = true := by simp [bareV, ctZ]
  have h2 : zeroN ctZ.t = true := zeroN_z
  have h3 : Lib.validD ctZ.v.s.data.toList = true := by show Lib.validD (zs 1024).toArray.toList = true; rw [List.toList_toArray]; exact zs_valid 1024
  have h4 : decide (ctZ.v.s.size ≤ 1024) = true := by rw [decide_eq_true_eq]; show (ByteArray.mk (zs 1024).toArray).size ≤ 1024; rw [zs_size]; exact Nat.le_refl _
  unfold gv validC validV
  rw [h1, h2, h3, h4]
  rfl
theorem cB_len (j : Nat) : (cB (cellZ j)).length = 1032 := by
  unfold cB cellB ctB vlB vlF txtB
  have e1 : (cellZ j).2.k = 1 := rfl
  have e2 : (cellZ j).2.v.k = 2 := rfl
  have e3 : (cellZ j).2.v.s = ⟨(zs 1024).toArray⟩ := rfl
  rw [e1, e2, e3, if_neg (by decide), if_neg (by decide), if_pos rfl]
  simp only [List.length_append, List.length_cons, le_len, zs_size]
  rw [zs_len]
theorem csZ_len : ∀ i, (csB (KZ i)).length = i * 1032
  | 0 => rfl
  | i + 1 => by
    rw [KZ_succ]
    unfold csB
    rw [List.flatMap_append, List.length_append]
    have := csZ_len i
    unfold csB at this
    rw [this]
    show _ + (cB (cellZ i) ++ []).length = _
    rw [List.append_nil, cB_len]
    omega
theorem fileZ_len (i : Nat) : (fileB (KZ i)).length = i * 1032 + 10 := by
  rw [fileB_len]
  unfold bodyB
  rw [List.length_append, List.length_append, le_len, csZ_len]
  have : markB.length = 4 := rfl
  omega
theorem rOkZ (i : Nat) (h : i < 4096) : rOk (KZ i) (cellZ i).1.1 (cellZ i).1.2 ctZ = true := by
  unfold rOk
  rw [ctZ_gv, KZ_len, decide_eq_true h]
  have : vC (cellZ i).1.1 (cellZ i).1.2 = true := by
    rw [vC_iff]
    unfold cellZ
    simp only
    omega
  rw [this]
  rfl
end Go.Proofs.YthgeojgfjpcelabGreatDoor
namespace Go.Proofs.YthgeojgfjpcelabGreatDoor
open Go.RowKit Go.Maps Go.Sort Go.Lib Go.Shelf

theorem make64b (n : Nat) (hn : n ≤ 1000000) (w : World) :
    (Instr.makeSlice 35 (.int .i64 (n : Int)) (.int .i64 (n : Int))).run Tryz.prog w = .ok (.slice (some ⟨w.heap.size, 0, none⟩) n n) (w.alloc (.cells (madeCells #[.float .f64 0] n) 36)) := by
  have hi : Tryz.prog.info? 36 = some ((Tryz.prog.info? 36).getD default) := by kernel_rfl
  have := run_make (P := Tryz.prog) w 35 36 _ (.float .f64 0) Tryz.underlying35 hi (by kernel_rfl) .i64 .i64 n n (by omega) (by omega) (by
    have : ((Tryz.prog.info? 36).getD default).bytes = 8 := by kernel_rfl
    rw [this]; omega) (by omega)
  have hs : ((Tryz.prog.info? 36).getD default).size = 1 := by kernel_rfl
  rw [hs, Nat.mul_one, Int.toNat_natCast] at this
  exact this
/-- The error that is wanted. -/
def wnt (n : Nat) : Nat := if 65536 < n then 2 else 0
theorem fr_z {w w' : World} {xs : List Nat} {n er : Nat} {e : Ending} (hl : er = wnt n) (hx : ¬ 65536 < n → xs.length = n) (h : FrP w xs er e w') : (∃ pu lu, e = .returned (.tuple #[.slice pu lu lu, .int .i64 (wnt n : Nat)]) ∧ (65536 < n → lu = 0) ∧ (¬ 65536 < n → lu = n)) ∧ Kp w w' Nul := by
  subst hl
  by_cases q : 65536 < n
  · have e2 : wnt n = 2 := if_pos q
    rw [e2] at h ⊢
    cases h with
    | no _ kp => exact ⟨⟨none, 0, rfl, fun _ => rfl, fun h => absurd q h⟩, kp⟩
  · have e2 : wnt n = 0 := if_neg q
    rw [e2] at h ⊢
    cases h with
    | ok hb bl kp => exact ⟨⟨_, _, rfl, fun h => absurd h q, fun _ => hx q⟩, kp⟩
    | no hne _ => exact absurd rfl hne
theorem hm_z (n s : Nat) (hs : s = 4 ∨ s = 8) : hmN (zs (s * n)).length s = if 65536 < n then (0, 2) else (n, 0) := by
  rw [zs_len]
  unfold hmN
  rcases hs with rfl | rfl
  · rw [if_pos (by omega), Nat.mul_div_cancel_left _ (by decide)]
  · rw [if_pos (by omega), Nat.mul_div_cancel_left _ (by decide)]
theorem hm_z1 (n : Nat) : hmN (zs (8 * n + 1)).length 8 = (0, 3) := by
  rw [zs_len]
  unfold hmN
  rw [if_neg (by omega)]
theorem hm_fst {n a b : Nat} (h : (if 65536 < n then ((0, 2) : Nat × Nat) else (n, 0)) = (a, b)) : b = wnt n ∧ (¬ 65536 < n → a = n) := by
  unfold wnt
  by_cases q : 65536 < n
  · rw [if_pos q] at h ⊢; injection h with h1 h2; exact ⟨h2.symm, fun r => absurd q r⟩
  · rw [if_neg q] at h ⊢; injection h with h1 h2; exact ⟨h2.symm, fun _ => h1.symm⟩
theorem fromSz (n : Nat) (hn : n ≤ 1000000) (w : World) : Calls Tryz.prog 16 #[.string ⟨(zs (4 * n)).toArray⟩] w fun e w' => (∃ pu lu, e = .returned (.tuple #[.slice pu lu lu, .int .i64 (wnt n : Nat)]) ∧ (65536 < n → lu = 0) ∧ (¬ 65536 < n → lu = n)) ∧ Kp w w' Nul := by
  have h := fromS_at (zs (4 * n)) (by rw [zs_len]; omega) w
  have e := hm_z n 4 (.inl rfl)
  obtain ⟨q1, q2⟩ := hm_fst (a := (hmN (zs (4 * n)).length 4).1) (b := (hmN (zs (4 * n)).length 4).2) (by rw [← e])
  exact h.mono fun e' w' hh => fr_z q1 (fun r => by rw [List.length_map, nums_len]; exact q2 r) hh
theorem fromDz (n : Nat) (hn : n ≤ 1000000) (w : World) : Calls Tryz.prog 14 #[.string ⟨(zs (8 * n)).toArray⟩] w fun e w' => (∃ pu lu, e = .returned (.tuple #[.slice pu lu lu, .int .i64 (wnt n : Nat)]) ∧ (65536 < n → lu = 0) ∧ (¬ 65536 < n → lu = n)) ∧ Kp w w' Nul := by
  have h := fromD_at (zs (8 * n)) (by rw [zs_len]; omega) w
  have e := hm_z n 8 (.inr rfl)
  obtain ⟨q1, q2⟩ := hm_fst (a := (hmN (zs (8 * n)).length 8).1) (b := (hmN (zs (8 * n)).length 8).2) (by rw [← e])
  exact h.mono fun e' w' hh => fr_z q1 (fun r => by rw [List.length_map, nums_len]; exact q2 r) hh
theorem fromDz1 (n : Nat) (hn : n ≤ 1000000) (w : World) : Calls Tryz.prog 14 #[.string ⟨(zs (8 * n + 1)).toArray⟩] w fun e w' => e = .returned (.tuple #[.slice none 0 0, .int .i64 3]) ∧ Kp w w' Nul := by
  have h := fromD_at (zs (8 * n + 1)) (by rw [zs_len]; omega) w
  rw [hm_z1] at h
  refine h.mono fun e' w' hh => ?_
  cases hh with
  | no _ kp => exact ⟨rfl, kp⟩
theorem okM (p : Nat) (h : p < 6) : okMode ((1 + p : Nat) : Int) = true := by
  unfold okMode
  rw [decide_eq_true_eq]
  omega
theorem okM' (p : Nat) : okMode ((7 + p : Nat) : Int) = false := by
  unfold okMode
  rw [decide_eq_false_iff_not]
  omega
theorem singz (m : Int) (hm : okMode m = true) (n : Nat) (v : Value) (w : World) (hv : FlAt w v (List.replicate n 0)) (hT : Tab w) : Calls Tryz.prog 15 #[v, .int .i64 m] w fun e w' => (∃ S : List UInt8, e = .returned (.tuple #[.string ⟨S.toArray⟩, .int .i64 0, .int .i64 (wnt n : Nat)]) ∧ (65536 < n → S = []) ∧ (¬ 65536 < n → S.length = 4 * n)) ∧ Kp w w' Nul := by
  refine (singles_at v _ m w hv hT).mono fun e w' h => ⟨⟨sgS m (List.replicate n 0), ?_, ?_, ?_⟩, h.2⟩
  · have e1 : sgE m (List.replicate n 0).length = wnt n := by unfold sgE wnt; rw [if_pos hm, List.length_replicate]
    have e2 : sgN m (List.replicate n 0) = 0 := by unfold sgN; rw [snI_zero]; split <;> rfl
    have := h.1
    rw [e1, e2] at this
    exact this
  · intro q
    unfold sgS sgE
    rw [if_pos hm, List.length_replicate, if_pos q]
    rfl
  · intro q
    unfold sgS sgE
    rw [if_pos hm, List.length_replicate, if_neg q, if_pos rfl, snB_len, List.length_replicate]
theorem singz' (m : Int) (hm : okMode m = false) (n : Nat) (v : Value) (w : World) (hv : FlAt w v (List.replicate n 0)) (hT : Tab w) : Calls Tryz.prog 15 #[v, .int .i64 m] w fun e w' => e = .returned (.tuple #[.string ⟨#[]⟩, .int .i64 0, .int .i64 1]) ∧ Kp w w' Nul := by
  refine (singles_at v _ m w hv hT).mono fun e w' h => ⟨?_, h.2⟩
  have e1 : sgE m (List.replicate n 0).length = 1 := by unfold sgE; rw [if_neg (by rw [hm]; exact Bool.false_ne_true)]
  have e2 : sgN m (List.replicate n 0) = 0 := by unfold sgN; rw [if_neg (by rw [e1]; decide)]
  have e3 : sgS m (List.replicate n 0) = [] := by unfold sgS; rw [if_neg (by rw [e1]; decide)]
  have := h.1
  rw [e1, e2, e3] at this
  exact this
theorem dblz (n : Nat) (v : Value) (w : World) (hv : FlAt w v (List.replicate n 0)) : Calls Tryz.prog 13 #[v] w fun e w' => (∃ S : List UInt8, e = .returned (.tuple #[.string ⟨S.toArray⟩, .int .i64 (wnt n : Nat)]) ∧ (65536 < n → S = []) ∧ (¬ 65536 < n → S.length = 8 * n)) ∧ Kp w w' Nul := by
  refine (doubles_at v _ w hv).mono fun e w' h => ⟨⟨dbS (List.replicate n 0), ?_, ?_, ?_⟩, h.2⟩
  · have := h.1
    rw [List.length_replicate] at this
    exact this
  · intro q
    unfold dbS dbE
    rw [List.length_replicate, if_pos q]
    rfl
  · intro q
    unfold dbS dbE
    rw [List.length_replicate, if_neg q, if_pos rfl, dbB_len, List.length_replicate]
end Go.Proofs.YthgeojgfjpcelabGreatDoor
namespace Go.Proofs.YthgeojgfjpcelabGreatDoor
open Go.RowKit Go.Maps Go.Sort Go.Lib Go.Shelf

theorem upZ1 : upO (zs 4194305) = none ∧ upR (zs 4194305) = 2 := by
  have e : upE (zs 4194305) = 2 := by unfold upE; rw [if_pos (by rw [zs_len]; decide)]
  exact ⟨by unfold upO; rw [if_neg (by rw [e]; decide)], by unfold upR; rw [if_neg (by rw [e]; decide), e]⟩
theorem upZ2 : upO (zs 4194304) = none ∧ upR (zs 4194304) = 50 := by
  have e : upE (zs 4194304) = 50 := by
    unfold upE
    rw [if_neg (by rw [zs_len]; decide), if_neg]
    intro h
    have h2 := congrArg (fun l : List UInt8 => l[0]?) h
    simp only [List.getElem?_take] at h2
    unfold zs markB at h2
    rw [List.getElem?_replicate, if_pos (by decide), if_pos (by decide)] at h2
    revert h2
    decide
  exact ⟨by unfold upO; rw [if_neg (by rw [e]; decide)], by unfold upR; rw [if_neg (by rw [e]; decide), e]⟩
theorem upZ3 : upO [81, 68, 82, 49, 0] = none ∧ upR [81, 68, 82, 49, 0] = 3 := by
  have e : upE [81, 68, 82, 49, 0] = 3 := by decide
  exact ⟨by unfold upO; rw [if_neg (by rw [e]; decide)], by unfold upR; rw [if_neg (by rw [e]; decide), e]⟩
theorem mn_or (p mn : Nat) (h : p < 2) (e : 4064 + p = mn) : mn = 4064 ∨ mn = 4065 := by omega
theorem mn_wrap (p mn : Nat) (h : p < 2) (e : 4064 + p = mn) : wrap64 (4064 + (p : Int)) = (mn : Int) := by unfold wrap64; omega
theorem gdZ : Gd ctZ := ⟨ctZ_gv, ctZ_rd.k, ctZ_rd.ok, ctZ_rd.x, Nat.le_trans ctZ_rd.size (by decide), ctZ_rd.cp⟩
theorem okZ (i : Nat) (h : i ≤ 4096) : Ok17 (KZ i).reverse := by
  refine ⟨fun x hx => ?_, fun x hx => ?_, by rw [List.length_reverse, KZ_len]; exact h⟩
  · obtain ⟨j, _, rfl⟩ := KZ_mem (List.mem_reverse.1 hx)
    exact gdZ
  · obtain ⟨j, hj, rfl⟩ := KZ_mem (List.mem_reverse.1 hx)
    rw [vC_iff]
    unfold cellZ
    simp only
    omega
theorem pkZ (mn : Nat) (h : mn = 4064 ∨ mn = 4065) : ((mn : Int) = 4064 ∧ pkE (KZ mn) = 0 ∧ ((ByteArray.mk (pkS (KZ mn)).toArray).size : Int) = 4194058) ∨ ((mn : Int) = 4065 ∧ pkE (KZ mn) = 2 ∧ (ByteArray.mk (pkS (KZ mn)).toArray) = ⟨#[]⟩) := by
  have hl := fileZ_len mn
  rcases h with rfl | rfl
  · left
    have e : (fileB (KZ 4064)).length ≤ 4194304 := by rw [hl]; decide
    refine ⟨rfl, if_pos e, ?_⟩
    have e2 : pkS (KZ 4064) = fileB (KZ 4064) := if_pos e
    rw [e2]
    show (((fileB (KZ 4064)).toArray.size : Nat) : Int) = _
    rw [List.size_toArray, hl]
    rfl
  · right
    have e : ¬ (fileB (KZ 4065)).length ≤ 4194304 := by rw [hl]; decide
    refine ⟨rfl, if_neg e, ?_⟩
    have e2 : pkS (KZ 4065) = [] := if_neg e
    rw [e2]
theorem zstrI (k : Nat) (z : Int) (hz : (k : Int) = z) (hk : k ≤ 8388608) (w : World) : ∃ W cs, (Instr.makeSlice 29 (.int .i64 z) (.int .i64 z)).run Tryz.prog w = .ok cs W ∧ Kp w W Nul ∧ (convert 29 9 cs).run Tryz.prog W = .ok (.string ⟨(zs k).toArray⟩) W := by
  subst hz
  obtain ⟨W, h1, h2, h3⟩ := zstr k hk w
  exact ⟨W, _, h1, h2, h3⟩
theorem putZ (w wq : World) (g i : Nat) (hi : i < 4096) (hg : GridIn wq (fun j => w.heap.size ≤ j) g (KZ i).reverse) (hk : Kp w wq Nul) (U : VS w) :
    Calls Tryz.prog 22 #[.pointer (some ⟨g, 0, none⟩), .agg #[.int .i64 ((1 + i % 64 : Nat) : Int), .int .i64 ((1 + i / 64 : Nat) : Int)], ctZ.val (.slice none 0 0)] wq fun e w' => ∃ er : Int, e = .returned (.int .i64 er) ∧ GridIn w' (fun j => w.heap.size ≤ j) g (KZ (i + 1)).reverse ∧ Kp w w' Nul := by
  have e : rOk (KZ i) ((1 + i % 64 : Nat) : Int) ((1 + i / 64 : Nat) : Int) ctZ = true := rOkZ i hi
  refine (put_tell (fun j => w.heap.size ≤ j) g _ _ ctZ (.slice none 0 0) (fun _ => True) (KZ i) wq hg (fun j hj => Nat.le_trans hk.size hj) (by rw [KZ_len]; omega) ctZ_rd (fun c' => KZ_not i c') (zNd_in _ _) (U.kp hk)).mono ?_
  rintro e' w' ⟨er, rfl, _, h2, h3⟩
  have h2 := h2 e
  rw [KZ_succ]
  exact ⟨er, rfl, h2, hk.trans' h3.kp (fun j hj hs => by have := grid_sm hg hs; omega)⟩
theorem packZ (w wq : World) (g mn : Nat) (hm : mn ≤ 4096) (hg : GridIn wq (fun j => w.heap.size ≤ j) g (KZ mn).reverse) (hk : Kp w wq Nul) (hs : Sh w) :
    Calls Tryz.prog 7 #[.pointer (some ⟨g, 0, none⟩)] wq fun e w' => e = .returned (.tuple #[.string ⟨(pkS (KZ mn)).toArray⟩, .int .i64 (pkE (KZ mn))]) ∧ Kp wq w' Nul :=
  pack_at g (KZ mn).reverse (KZ mn) wq (GridIn.mono hg (fun _ _ => Nat.zero_le _)) (okZ mn hm) (KZ_strict mn) (fun x => by rw [List.mem_reverse]) (by rw [List.length_reverse]) (hs.kp hk (fun x => x))
theorem unpZ (t : List UInt8) (er : Nat) (h : upO t = none ∧ upR t = er) (w wq : World) (hk : Kp w wq Nul) (hs : Sh w) (U : VS w) :
    Calls Tryz.prog 10 #[.string ⟨t.toArray⟩] wq fun e w' => e = .returned (.tuple #[.pointer none, .int .i64 (er : Nat)]) ∧ Kp wq w' Nul := by
  refine (unpack_at t wq (hs.kp hk (fun x => x)) (U.kp hk)).mono fun e w' q => ?_
  rw [h.1, h.2] at q
  cases q with
  | no kp => exact ⟨rfl, kp⟩
theorem z_rem (i : Nat) : ((1 + i % 64 : Nat) : Int) = 1 + (i : Int) % 64 := by omega
theorem z_quo (i : Nat) {mn : Nat} (h : i < mn ∧ mn ≤ 4065) : ((1 + i / 64 : Nat) : Int) = wrap64 (1 + wrap64 ((i : Int) / 64)) := by
  unfold wrap64
  omega
theorem z_lt {i mn : Nat} (h : i < mn ∧ mn ≤ 4065) : i < 4096 := by omega
theorem z_mn {mn : Nat} (h : mn = 4064 ∨ mn = 4065) : mn ≤ 4065 := by omega
theorem z_next {i mn : Nat} (h : i < mn ∧ mn ≤ 4065) : i + 1 ≤ mn := by omega
theorem z_wr {i mn : Nat} (h : i < mn ∧ mn ≤ 4065) : wrap64 ((i : Int) + 1) = ((i + 1 : Nat) : Int) := by unfold wrap64; omega
theorem z_meas {i mn : Nat} (h : i < mn ∧ mn ≤ 4065) : ((mn : Int) - ((i + 1 : Nat) : Int)).toNat < ((mn : Int) - (i : Int)).toNat := by omega
theorem z_end {i mn : Nat} (h : i ≤ mn) (h2 : ¬ i < mn) : i = mn := by omega
set_option maxRecDepth 40000 in
set_option maxHeartbeats 16000000 in
theorem limits24 (a b : Int) (ha : I64 a) (hb : I64 b) (w : World) (U : VS w) (hs : Sh w) (hT : Tab w) :
    Calls Tryz.prog 5 #[.int .i64 a, .int .i64 b] w fun e w' => e = .returned (.bool true) ∧ Kp w w' Nul := by
  have hpk : ∀ c m : Int, I64 c → 1 ≤ m → ∀ wq, Calls Tryz.prog 9 #[.int .i64 c, .int .i64 m] wq fun e w' => e = .returned (.int .i64 (pkf c m : Nat)) ∧ w' = wq := fun c m hc hm wq => pick24 c m hc hm wq
  obtain ⟨p5, hp5⟩ : ∃ p, pkf a 5 = p := ⟨_, rfl⟩
  obtain ⟨p2, hp2⟩ : ∃ p, pkf a 2 = p := ⟨_, rfl⟩
  obtain ⟨p6, hp6⟩ : ∃ p, pkf b 6 = p := ⟨_, rfl⟩
  obtain ⟨p9, hp9⟩ : ∃ p, pkf b 9 = p := ⟨_, rfl⟩
  have l5 := (pkf_val a 5 (by decide)).2
  have l2 := (pkf_val a 2 (by decide)).2
  have l6 := (pkf_val b 6 (by decide)).2
  rw [hp5] at l5
  rw [hp2] at l2
  rw [hp6] at l6
  have H5 : Hid (∀ wq, Calls Tryz.prog 9 #[.int .i64 a, .int .i64 5] wq fun e w' => e = .returned (.int .i64 (p5 : Nat)) ∧ w' = wq) := fun wq => by have := hpk a 5 ha (by decide) wq; rw [hp5] at this; exact this
  have H2 : Hid (∀ wq, Calls Tryz.prog 9 #[.int .i64 a, .int .i64 2] wq fun e w' => e = .returned (.int .i64 (p2 : Nat)) ∧ w' = wq) := fun wq => by have := hpk a 2 ha (by decide) wq; rw [hp2] at this; exact this
  have H6 : Hid (∀ wq, Calls Tryz.prog 9 #[.int .i64 b, .int .i64 6] wq fun e w' => e = .returned (.int .i64 (p6 : Nat)) ∧ w' = wq) := fun wq => by have := hpk b 6 hb (by decide) wq; rw [hp6] at this; exact this
  have H9 : Hid (∀ wq, Calls Tryz.prog 9 #[.int .i64 b, .int .i64 9] wq fun e w' => e = .returned (.int .i64 (p9 : Nat)) ∧ w' = wq) := fun wq => by have := hpk b 9 hb (by decide) wq; rw [hp9] at this; exact this
  have l9 := (pkf_val b 9 (by decide)).2
  rw [hp9] at l9
  obtain ⟨n, hn⟩ : ∃ n, 65534 + p5 = n := ⟨_, rfl⟩
  have hw5 : wrap64 (65534 + (p5 : Int)) = (n : Int) := by unfold wrap64; omega
  have hw6 : wrap64 (1 + (p6 : Int)) = ((1 + p6 : Nat) : Int) := by unfold wrap64; omega
  have hw9 : wrap64 (7 + (p9 : Int)) = ((7 + p9 : Nat) : Int) := by unfold wrap64; omega
  have hnb : n ≤ 65538 := by omega
  have hw4n : wrap64 (4 * (n : Int)) = ((4 * n : Nat) : Int) := by unfold wrap64; omega
  have hw8n : wrap64 (8 * (n : Int)) = ((8 * n : Nat) : Int) := by unfold wrap64; omega
  have hw8n1 : wrap64 (((8 * n : Nat) : Int) + 1) = ((8 * n + 1 : Nat) : Int) := by unfold wrap64; omega
  obtain ⟨W1, hW1⟩ : ∃ W1, w.alloc (.cells (madeCells #[.float .f64 0] n) 36) = W1 := ⟨_, rfl⟩
  have hmk := make64b n (by omega) w
  rw [hW1] at hmk
  have hfl : FlAt W1 (.slice (some ⟨w.heap.size, 0, none⟩) n n) (List.replicate n 0) := by rw [← hW1]; exact fl_zero n w
  have k1 : Kp w W1 Nul := by rw [← hW1]; exact (Kp.refl _ _).alloc _
  have HK1 : Hid (Kp w W1 Nul) := k1
  obtain ⟨m, hm⟩ : ∃ m : Int, ((1 + p6 : Nat) : Int) = m := ⟨_, rfl⟩
  obtain ⟨q, hq⟩ : ∃ q : Int, ((7 + p9 : Nat) : Int) = q := ⟨_, rfl⟩
  rw [hm] at hw6
  rw [hq] at hw9
  have HT1 : ∀ wq, Kp W1 wq Nul → Tab wq := fun wq k j hj => (k1.trans k).cellN (hT j hj) (fun x => x)
  have HSg : Hid (∀ wq, Kp W1 wq Nul → Calls Tryz.prog 15 #[.slice (some ⟨w.heap.size, 0, none⟩) n n, .int .i64 m] wq fun e w' => (∃ S : List UInt8, e = .returned (.tuple #[.string ⟨S.toArray⟩, .int .i64 0, .int .i64 (wnt n : Nat)]) ∧ (65536 < n → S = []) ∧ (¬ 65536 < n → S.length = 4 * n)) ∧ Kp wq w' Nul) := fun wq k => singz m (by rw [← hm]; exact okM p6 (by omega)) n _ wq (hfl.kp k) (HT1 wq k)
  have HSq : Hid (∀ wq, Kp W1 wq Nul → Calls Tryz.prog 15 #[.slice (some ⟨w.heap.size, 0, none⟩) n n, .int .i64 q] wq fun e w' => e = .returned (.tuple #[.string ⟨#[]⟩, .int .i64 0, .int .i64 1]) ∧ Kp wq w' Nul) := fun wq k => singz' q (by rw [← hq]; exact okM' p9) n _ wq (hfl.kp k) (HT1 wq k)
  have HDb : Hid (∀ wq, Kp W1 wq Nul → Calls Tryz.prog 13 #[.slice (some ⟨w.heap.size, 0, none⟩) n n] wq fun e w' => (∃ S : List UInt8, e = .returned (.tuple #[.string ⟨S.toArray⟩, .int .i64 (wnt n : Nat)]) ∧ (65536 < n → S = []) ∧ (¬ 65536 < n → S.length = 8 * n)) ∧ Kp wq w' Nul) := fun wq k => dblz n _ wq (hfl.kp k)
  have HFS : Hid (∀ wq, Calls Tryz.prog 16 #[.string ⟨(zs (4 * n)).toArray⟩] wq fun e w' => (∃ pu lu, e = .returned (.tuple #[.slice pu lu lu, .int .i64 (wnt n : Nat)]) ∧ (65536 < n → lu = 0) ∧ (¬ 65536 < n → lu = n)) ∧ Kp wq w' Nul) := fun wq => fromSz n (by omega) wq
  have HFD : Hid (∀ wq, Calls Tryz.prog 14 #[.string ⟨(zs (8 * n)).toArray⟩] wq fun e w' => (∃ pu lu, e = .returned (.tuple #[.slice pu lu lu, .int .i64 (wnt n : Nat)]) ∧ (65536 < n → lu = 0) ∧ (¬ 65536 < n → lu = n)) ∧ Kp wq w' Nul) := fun wq => fromDz n (by omega) wq
  have HFE : Hid (∀ wq, Calls Tryz.prog 14 #[.string ⟨(zs (8 * n + 1)).toArray⟩] wq fun e w' => e = .returned (.tuple #[.slice none 0 0, .int .i64 3]) ∧ Kp wq w' Nul) := fun wq => fromDz1 n (by omega) wq
  have HZ : Hid (∀ k : Nat, k ≤ 8388608 → ∀ wq, ∃ W, (Instr.makeSlice 29 (.int .i64 (k : Int)) (.int .i64 (k : Int))).run Tryz.prog wq = .ok (.slice (some ⟨wq.heap.size, 0, none⟩) k k) W ∧ Kp wq W Nul ∧ (convert 29 9 (.slice (some ⟨wq.heap.size, 0, none⟩) k k)).run Tryz.prog W = .ok (.string ⟨(zs k).toArray⟩) W) := zstr
  obtain ⟨n4, hn4⟩ : ∃ k, 4 * n = k := ⟨_, rfl⟩
  obtain ⟨n8, hn8⟩ : ∃ k, 8 * n = k := ⟨_, rfl⟩
  obtain ⟨n9, hn9⟩ : ∃ k, n8 + 1 = k := ⟨_, rfl⟩
  rw [hn4] at HFS hw4n
  rw [hn8] at HFD HFE hw8n hw8n1
  rw [hn9] at HFE hw8n1
  have HNb : Hid (n ≤ 65538 ∧ 65534 ≤ n ∧ 4 * n = n4 ∧ 8 * n = n8 ∧ n8 + 1 = n9) := ⟨hnb, by omega, hn4, hn8, hn9⟩
  clear hn4 hn8 hn9
  have l2' : p2 < 2 := by omega
  have HV : Hid (VS w ∧ Sh w ∧ Tab w) := ⟨U, hs, hT⟩
  obtain ⟨Z8, hZ8⟩ : ∃ Z, (ByteArray.mk (zs 1024).toArray) = Z := ⟨_, rfl⟩
  obtain ⟨Z9, hZ9⟩ : ∃ Z, (ByteArray.mk (zs 4194305).toArray) = Z := ⟨_, rfl⟩
  obtain ⟨Z0, hZ0⟩ : ∃ Z, (ByteArray.mk (zs 4194304).toArray) = Z := ⟨_, rfl⟩
  have HM8 : Hid (∀ wq, ∃ W cs, (Instr.makeSlice 29 (.int .i64 1024) (.int .i64 1024)).run Tryz.prog wq = .ok cs W ∧ Kp wq W Nul ∧ (convert 29 9 cs).run Tryz.prog W = .ok (.string Z8) W) := fun wq => by have := zstrI 1024 1024 rfl (by decide) wq; rw [hZ8] at this; exact this
  have HM9 : Hid (∀ wq, ∃ W cs, (Instr.makeSlice 29 (.int .i64 4194305) (.int .i64 4194305)).run Tryz.prog wq = .ok cs W ∧ Kp wq W Nul ∧ (convert 29 9 cs).run Tryz.prog W = .ok (.string Z9) W) := fun wq => by have := zstrI 4194305 4194305 rfl (by decide) wq; rw [hZ9] at this; exact this
  have HM0 : Hid (∀ wq, ∃ W cs, (Instr.makeSlice 29 (.int .i64 4194304) (.int .i64 4194304)).run Tryz.prog wq = .ok cs W ∧ Kp wq W Nul ∧ (convert 29 9 cs).run Tryz.prog W = .ok (.string Z0) W) := fun wq => by have := zstrI 4194304 4194304 rfl (by decide) wq; rw [hZ0] at this; exact this
  have HU9 : Hid (∀ wq, Kp w wq Nul → Calls Tryz.prog 10 #[.string Z9] wq fun e w' => e = .returned (.tuple #[.pointer none, .int .i64 2]) ∧ Kp wq w' Nul) := fun wq k => by have := unpZ (zs 4194305) 2 upZ1 w wq k hs U; rw [hZ9] at this; exact this
  have HU0 : Hid (∀ wq, Kp w wq Nul → Calls Tryz.prog 10 #[.string Z0] wq fun e w' => e = .returned (.tuple #[.pointer none, .int .i64 50]) ∧ Kp wq w' Nul) := fun wq k => by have := unpZ (zs 4194304) 50 upZ2 w wq k hs U; rw [hZ0] at this; exact this
  have HU3 : Hid (∀ wq, Kp w wq Nul → Calls Tryz.prog 10 #[.string ⟨#[81, 68, 82, 49, 0]⟩] wq fun e w' => e = .returned (.tuple #[.pointer none, .int .i64 3]) ∧ Kp wq w' Nul) := fun wq k => unpZ [81, 68, 82, 49, 0] 3 upZ3 w wq k hs U
  have HPu : Hid (∀ g i wq, i < 4096 → GridIn wq (fun j => w.heap.size ≤ j) g (KZ i).reverse → Kp w wq Nul → Calls Tryz.prog 22 #[.pointer (some ⟨g, 0, none⟩), .agg #[.int .i64 ((1 + i % 64 : Nat) : Int), .int .i64 ((1 + i / 64 : Nat) : Int)], (⟨1, ⟨2, 0, Z8, false, 0⟩, zNd⟩ : Ct).val (.slice none 0 0)] wq fun e w' => ∃ er : Int, e = .returned (.int .i64 er) ∧ GridIn w' (fun j => w.heap.size ≤ j) g (KZ (i + 1)).reverse ∧ Kp w w' Nul) := fun g i wq h1 h2 h3 => by
    have := putZ w wq g i h1 h2 h3 U
    rw [show ctZ = (⟨1, ⟨2, 0, Z8, false, 0⟩, zNd⟩ : Ct) by rw [← hZ8]; rfl] at this
    exact this
  obtain ⟨mn, hmn⟩ : ∃ k, 4064 + p2 = k := ⟨_, rfl⟩
  have hwm : wrap64 (4064 + (p2 : Int)) = (mn : Int) := mn_wrap p2 mn l2' hmn
  have HMN : Hid (mn = 4064 ∨ mn = 4065) := mn_or p2 mn l2' hmn
  obtain ⟨PF, hPF⟩ : ∃ PF, (ByteArray.mk (pkS (KZ mn)).toArray) = PF := ⟨_, rfl⟩
  obtain ⟨PE, hPE⟩ : ∃ PE, pkE (KZ mn) = PE := ⟨_, rfl⟩
  have HPZ : Hid (((mn : Int) = 4064 ∧ PE = 0 ∧ (PF.size : Int) = 4194058) ∨ ((mn : Int) = 4065 ∧ PE = 2 ∧ PF = ⟨#[]⟩)) := by have := pkZ mn HMN.out; rw [hPF, hPE] at this; exact this
  have HPk : Hid (∀ g wq, GridIn wq (fun j => w.heap.size ≤ j) g (KZ mn).reverse → Kp w wq Nul → Calls Tryz.prog 7 #[.pointer (some ⟨g, 0, none⟩)] wq fun e w' => e = .returned (.tuple #[.string PF, .int .i64 PE]) ∧ Kp wq w' Nul) := fun g wq h1 h2 => by
    have := packZ w wq g mn (by rcases HMN.out with e | e <;> rw [e] <;> decide) h1 h2 hs
    rw [hPF, hPE] at this
    exact this
  have HKn : Hid (∀ wq, Kp w wq Nul → Calls Tryz.prog 8 #[] wq fun e w' => e = .returned (.bool true) ∧ Kp wq w' Nul) := fun wq k => known24 wq (U.kp k) (hs.kp k (fun x => x)) (fun j hj => k.cellN (hT j hj) (fun x => x))
  clear hZ8 hZ9 hZ0 hPF hPE hmn l2'
  clear hpk hp5 hp2 hp6 hp9 l5 l2 l6 l9 hn hnb ha hb U hs hT hW1 k1 hfl HT1 hm hq
  go_enter Tryz.func5, Tryz.ntmps5
  go_wp2_with fail
  refine (H5.out _).mono ?_
  rintro e w1 ⟨rfl, hz⟩
  replace hz := hz.symm
  subst hz
  go_wp2_with fail
  refine (H6.out _).mono ?_
  rintro e w1 ⟨rfl, hz⟩
  replace hz := hz.symm
  subst hz
  clear hmk
  go_wp2_with fail
  refine (HSg.out _ (Kp.refl _ _)).mono ?_
  rintro e w2 ⟨⟨S, rfl, hS1, hS2⟩, k2⟩
  have HS : Hid ((65536 < n → S = []) ∧ (¬ 65536 < n → S.length = 4 * n)) := ⟨hS1, hS2⟩
  have HK2 : Hid (Kp W1 w2 Nul) := k2
  clear hS1 hS2 k2 HSg hw6
  go_wp2_with fail
  refine (HDb.out _ HK2.out).mono ?_
  rintro e w3 ⟨⟨T, rfl, hT1, hT2⟩, k3⟩
  have HTT : Hid ((65536 < n → T = []) ∧ (¬ 65536 < n → T.length = 8 * n)) := ⟨hT1, hT2⟩
  obtain ⟨V3, hm3, kv3, hc3⟩ := HZ.out n4 (by have := HNb.out; omega) w3
  have HK3 : Hid (Kp W1 V3 Nul) := (HK2.out.trans k3).trans kv3
  clear hT1 hT2 k3 HDb HK2 kv3
  go_wp2_with fail
  refine (HFS.out _).mono ?_
  rintro e w4 ⟨⟨pu, lu, rfl, hu1, hu2⟩, k4⟩
  have HU : Hid ((65536 < n → lu = 0) ∧ (¬ 65536 < n → lu = n)) := ⟨hu1, hu2⟩
  obtain ⟨V4, hm4, kv4, hc4⟩ := HZ.out n8 (by have := HNb.out; omega) w4
  have HK4 : Hid (Kp W1 V4 Nul) := (HK3.out.trans k4).trans kv4
  clear hu1 hu2 k4 HFS HK3 kv4 hm3 hc3
  go_wp2_with fail
  refine (HFD.out _).mono ?_
  rintro e w5 ⟨⟨pv, lv, rfl, hv1, hv2⟩, k5⟩
  have HVV : Hid ((65536 < n → lv = 0) ∧ (¬ 65536 < n → lv = n)) := ⟨hv1, hv2⟩
  obtain ⟨V5, hm5, kv5, hc5⟩ := HZ.out n9 (by have := HNb.out; omega) w5
  have HK5 : Hid (Kp W1 V5 Nul) := (HK4.out.trans k5).trans kv5
  clear hv1 hv2 k5 HFD HK4 kv5 hm4 hc4
  go_wp2_with fail
  refine (HFE.out _).mono ?_
  rintro e w6 ⟨rfl, k6⟩
  have HK6 : Hid (Kp W1 w6 Nul) := HK5.out.trans k6
  clear k6 HFE HK5 hm5 hc5
  go_wp2_with fail
  refine (H9.out _).mono ?_
  rintro e w7 ⟨rfl, hz⟩
  replace hz := hz.symm
  subst hz
  go_wp2_with fail
  refine (HSq.out _ HK6.out).mono ?_
  rintro e w7 ⟨rfl, k7⟩
  have HK7 : Hid (Kp w w7 Nul) := HK1.out.trans (HK6.out.trans k7)
  clear k7 HSq HK6 hw9 HZ
  obtain ⟨W8, hW8⟩ : ∃ W8, w7.alloc (.cells #[.map none] 116) = W8 := ⟨_, rfl⟩
  have HNew : Hid (Calls Tryz.prog 21 #[] w7 fun e w' => e = .returned (.pointer (some ⟨w7.heap.size, 0, none⟩)) ∧ w' = W8) := (new_at w7).mono fun e w' h => ⟨h.1, by rw [h.2]; exact hW8⟩
  have k8 : Kp w7 W8 Nul := by rw [← hW8]; exact (Kp.refl _ _).alloc _
  have hsz7 : w.heap.size ≤ w7.heap.size := HK7.out.size
  have g8 : GridIn W8 (fun i => w.heap.size ≤ i) w7.heap.size (KZ 0).reverse := by rw [← hW8]; exact grid_new w7 _ hsz7
  obtain ⟨V8, cs8, hm8, kv8, hc8⟩ := HM8.out W8
  have HG8 : Hid (GridIn V8 (fun i => w.heap.size ≤ i) w7.heap.size (KZ 0).reverse) := g8.kp kv8
  have HK8 : Hid (Kp w V8 Nul) := HK7.out.trans (k8.trans kv8)
  have HZ8 : Hid (w.heap.size ≤ w7.heap.size) := HK7.out.size
  have hng := fun wq => ne_ptr24 w7.heap.size wq
  clear hW8 k8 kv8 g8 hsz7 HM8
  obtain ⟨hnn1, hnn2, hnn3, hnn4, hnn5⟩ := HNb.out
  by_cases hL : 65536 < n
  rotate_left
  · have hLb : decide ((65536 : Int) < (n : Int)) = false := decide_eq_false (by omega)
    have hL' : ¬ (65536 : Int) < (n : Int) := by omega
    have hwn : wnt n = 0 := if_neg hL
    have hS : S.length = n4 := by rw [HS.out.2 hL]; exact hnn3
    have hTT : T.length = n8 := by rw [HTT.out.2 hL]; exact hnn4
    have hU : lu = n := HU.out.2 hL
    have hVV : lv = n := HVV.out.2 hL
    have hI4 : ((n4 : Nat) : Int) = 4 * (n : Int) := by omega
    have hI8 : ((n8 : Nat) : Int) = 8 * (n : Int) := by omega
    rw [hwn, hU, hVV]
    clear hL hwn HS HTT HU HVV hnn1 hnn2 hnn3 hnn4 hnn5 HNb
    go_wp2_with fail
    refine HNew.out.mono ?_
    rintro e w8 ⟨rfl, hz⟩
    replace hz := hz.symm
    subst hz
    go_wp2_with fail
    refine (H2.out _).mono ?_
    rintro e w8 ⟨rfl, hz⟩
    replace hz := hz.symm
    subst hz
    go_wp2_with fail
    clear hLb hL' hS hTT hU hVV hI4 hI8
    rw [hwm]
    go_loopw [27] (fun si wr => ∃ i : Nat, i ≤ mn ∧ si = .int .i64 i ∧ GridIn wr (fun j => w.heap.size ≤ j) w7.heap.size (KZ i).reverse ∧ Kp w wr Nul) (fun si _ => ((mn : Int) - intOf si).toNat)
    case atStart => exact ⟨0, Nat.zero_le _, by simp, HG8.out, HK8.out⟩
    case round =>
      obtain ⟨i, hi, rfl, hg, hk⟩ := hrel
      have HG : Hid (GridIn wr (fun j => w.heap.size ≤ j) w7.heap.size (KZ i).reverse) := hg
      have HK : Hid (Kp w wr Nul) := hk
      clear hg hk hm8 hc8 HNew
      by_cases hlt : i < mn
      · have hlt' : (i : Int) < (mn : Int) := by omega
        have HLT : Hid (i < mn ∧ mn ≤ 4065) := ⟨hlt, z_mn HMN.out⟩
        have HP1 : Hid (Calls Tryz.prog 22 #[.pointer (some ⟨w7.heap.size, 0, none⟩), .agg #[.int .i64 (1 + (i : Int) % 64), .int .i64 (wrap64 (1 + wrap64 ((i : Int) / 64)))], (⟨1, ⟨2, 0, Z8, false, 0⟩, zNd⟩ : Ct).val (.slice none 0 0)] wr fun e w' => ∃ er : Int, e = .returned (.int .i64 er) ∧ GridIn w' (fun j => w.heap.size ≤ j) w7.heap.size (KZ (i + 1)).reverse ∧ Kp w w' Nul) := by
          have h := HPu.out w7.heap.size i wr (z_lt HLT.out) HG.out HK.out
          rw [z_rem i, z_quo i HLT.out] at h
          exact h
        clear hi hlt HG HK
        go_wp2_with fail
        refine HP1.out.mono ?_
        rintro e w9 ⟨er, rfl, hg9, hk9⟩
        have HN9 : Hid (GridIn w9 (fun j => w.heap.size ≤ j) w7.heap.size (KZ (i + 1)).reverse ∧ Kp w w9 Nul) := ⟨hg9, hk9⟩
        clear hg9 hk9 HP1
        go_wp2_with fail
        rw [z_wr HLT.out]
        go_roundw
        case rel => exact ⟨i + 1, z_next HLT.out, rfl, HN9.out⟩
        case measure => exact z_meas HLT.out
      · have hie : i = mn := z_end hi hlt
        subst hie
        have hqn : ¬ ((i : Int) < (i : Int)) := Int.lt_irrefl _
        clear hi hlt
        go_wp2_with fail
        refine (HPk.out _ _ HG.out HK.out).mono ?_
        rintro e w10 ⟨rfl, k10⟩
        have HK10 : Hid (Kp w w10 Nul) := HK.out.trans k10
        obtain ⟨V10, c10, hm10, kv10, hc10⟩ := HM9.out w10
        have HV10 : Hid (Kp w V10 Nul) := HK10.out.trans kv10
        clear k10 kv10 HG HK HPk HPu
        rcases HPZ.out with ⟨hp1, hp2, hp3⟩ | ⟨hp1, hp2, hp3⟩
        all_goals
          subst hp2
          try subst hp3
          go_wp2_with fail
          refine (HU9.out _ HV10.out).mono ?_
          rintro e w11 ⟨rfl, k11⟩
          obtain ⟨V11, c11, hm11, kv11, hc11⟩ := HM0.out w11
          have HV11 : Hid (Kp w V11 Nul) := (HV10.out.trans k11).trans kv11
          clear k11 kv11 hm10 hc10 HV10 HU9 HM9
          go_wp2_with fail
          refine (HU0.out _ HV11.out).mono ?_
          rintro e w12 ⟨rfl, k12⟩
          have HK12 : Hid (Kp w w12 Nul) := HV11.out.trans k12
          clear k12 hm11 hc11 HV11 HU0 HM0
          go_wp2_with fail
          refine (HU3.out _ HK12.out).mono ?_
          rintro e w13 ⟨rfl, k13⟩
          have HK13 : Hid (Kp w w13 Nul) := HK12.out.trans k13
          clear k13 HK12 HU3
          go_wp2_with fail
          refine (HKn.out _ HK13.out).mono ?_
          rintro e w14 ⟨rfl, k14⟩
          have HK14 : Hid (Kp w w14 Nul) := HK13.out.trans k14
          clear k14 HK13 HKn
          go_wp2_with fail
          go_ret
          exact ⟨rfl, HK14.out⟩
  · have hLb : decide ((65536 : Int) < (n : Int)) = true := decide_eq_true (by omega)
    have hL' : (65536 : Int) < (n : Int) := by omega
    have hwn : wnt n = 2 := if_pos hL
    have hS : S = [] := HS.out.1 hL
    have hTT : T = [] := HTT.out.1 hL
    have hU : lu = 0 := HU.out.1 hL
    have hVV : lv = 0 := HVV.out.1 hL
    subst hS hTT hU hVV
    rw [hwn]
    clear hL hwn HS HTT HU HVV hnn1 hnn2 hnn3 hnn4 hnn5 HNb
    go_wp2_with fail
    refine HNew.out.mono ?_
    rintro e w8 ⟨rfl, hz⟩
    replace hz := hz.symm
    subst hz
    go_wp2_with fail
    refine (H2.out _).mono ?_
    rintro e w8 ⟨rfl, hz⟩
    replace hz := hz.symm
    subst hz
    go_wp2_with fail
    clear hLb hL'
    rw [hwm]
    go_loopw [27] (fun si wr => ∃ i : Nat, i ≤ mn ∧ si = .int .i64 i ∧ GridIn wr (fun j => w.heap.size ≤ j) w7.heap.size (KZ i).reverse ∧ Kp w wr Nul) (fun si _ => ((mn : Int) - intOf si).toNat)
    case atStart => exact ⟨0, Nat.zero_le _, by simp, HG8.out, HK8.out⟩
    case round =>
      obtain ⟨i, hi, rfl, hg, hk⟩ := hrel
      have HG : Hid (GridIn wr (fun j => w.heap.size ≤ j) w7.heap.size (KZ i).reverse) := hg
      have HK : Hid (Kp w wr Nul) := hk
      clear hg hk hm8 hc8 HNew
      by_cases hlt : i < mn
      · have hlt' : (i : Int) < (mn : Int) := by omega
        have HLT : Hid (i < mn ∧ mn ≤ 4065) := ⟨hlt, z_mn HMN.out⟩
        have HP1 : Hid (Calls Tryz.prog 22 #[.pointer (some ⟨w7.heap.size, 0, none⟩), .agg #[.int .i64 (1 + (i : Int) % 64), .int .i64 (wrap64 (1 + wrap64 ((i : Int) / 64)))], (⟨1, ⟨2, 0, Z8, false, 0⟩, zNd⟩ : Ct).val (.slice none 0 0)] wr fun e w' => ∃ er : Int, e = .returned (.int .i64 er) ∧ GridIn w' (fun j => w.heap.size ≤ j) w7.heap.size (KZ (i + 1)).reverse ∧ Kp w w' Nul) := by
          have h := HPu.out w7.heap.size i wr (z_lt HLT.out) HG.out HK.out
          rw [z_rem i, z_quo i HLT.out] at h
          exact h
        clear hi hlt HG HK
        go_wp2_with fail
        refine HP1.out.mono ?_
        rintro e w9 ⟨er, rfl, hg9, hk9⟩
        have HN9 : Hid (GridIn w9 (fun j => w.heap.size ≤ j) w7.heap.size (KZ (i + 1)).reverse ∧ Kp w w9 Nul) := ⟨hg9, hk9⟩
        clear hg9 hk9 HP1
        go_wp2_with fail
        rw [z_wr HLT.out]
        go_roundw
        case rel => exact ⟨i + 1, z_next HLT.out, rfl, HN9.out⟩
        case measure => exact z_meas HLT.out
      · have hie : i = mn := z_end hi hlt
        subst hie
        have hqn : ¬ ((i : Int) < (i : Int)) := Int.lt_irrefl _
        clear hi hlt
        go_wp2_with fail
        refine (HPk.out _ _ HG.out HK.out).mono ?_
        rintro e w10 ⟨rfl, k10⟩
        have HK10 : Hid (Kp w w10 Nul) := HK.out.trans k10
        obtain ⟨V10, c10, hm10, kv10, hc10⟩ := HM9.out w10
        have HV10 : Hid (Kp w V10 Nul) := HK10.out.trans kv10
        clear k10 kv10 HG HK HPk HPu
        rcases HPZ.out with ⟨hp1, hp2, hp3⟩ | ⟨hp1, hp2, hp3⟩
        all_goals
          subst hp2
          try subst hp3
          go_wp2_with fail
          refine (HU9.out _ HV10.out).mono ?_
          rintro e w11 ⟨rfl, k11⟩
          obtain ⟨V11, c11, hm11, kv11, hc11⟩ := HM0.out w11
          have HV11 : Hid (Kp w V11 Nul) := (HV10.out.trans k11).trans kv11
          clear k11 kv11 hm10 hc10 HV10 HU9 HM9
          go_wp2_with fail
          refine (HU0.out _ HV11.out).mono ?_
          rintro e w12 ⟨rfl, k12⟩
          have HK12 : Hid (Kp w w12 Nul) := HV11.out.trans k12
          clear k12 hm11 hc11 HV11 HU0 HM0
          go_wp2_with fail
          refine (HU3.out _ HK12.out).mono ?_
          rintro e w13 ⟨rfl, k13⟩
          have HK13 : Hid (Kp w w13 Nul) := HK12.out.trans k13
          clear k13 HK12 HU3
          go_wp2_with fail
          refine (HKn.out _ HK13.out).mono ?_
          rintro e w14 ⟨rfl, k14⟩
          have HK14 : Hid (Kp w w14 Nul) := HK13.out.trans k14
          clear k14 HK13 HKn
          go_wp2_with fail
          go_ret
          exact ⟨rfl, HK14.out⟩
end Go.Proofs.YthgeojgfjpcelabGreatDoor
