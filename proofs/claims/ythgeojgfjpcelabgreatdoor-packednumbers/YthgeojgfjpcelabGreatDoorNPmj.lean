/- PackedNumbers: the walk. -/
import Derived.Test.YthgeojgfjpcelabGreatDoorNPmb
import Derived.Test.YthgeojgfjpcelabGreatDoorNPln
import Derived.Deep.CutRange
import Derived.Deep.DeepCutAuto
import Derived.Deep.QuietTactic
namespace Go.Proofs.YthgeojgfjpcelabGreatDoor
open Go.RowKit Go.Maps Go.Sort Go.Lib Go.Shelf

structure WordsIn (w : World) (v : Value) (zs : List Nat) : Prop where
  sl : ∃ a c, v = .slice a zs.length c ∧ zs.length ≤ c ∧ (0 < zs.length → ∃ b o, a = some ⟨b, o, none⟩ ∧ ∀ (i : Nat) y, zs[i]? = some y → w.cell? ⟨b, o + i, none⟩ = some (.int .u64 (y : Nat)))
  len : zs.length ≤ maxLen
  rng : ∀ z ∈ zs, z < 18446744073709551616
theorem widenQ (b : Nat) (hb : b < 4294967296) (w : World) : Calls Tryz.prog 19 #[.float .f32 b] w fun e w' => e = .returned (.float .f64 (wdN b)) ∧ ∃ d, w' = w.drewN d := by
  cases hn : isN32 b with
  | true =>
    have e : wdN b = 9221120237041090560 := if_pos hn
    rw [e]
    exact widen_nan b hb hn w
  | false =>
    have e : wdN b = wdW (sgb32 b) (mag32 b) := if_neg (by rw [hn]; exact Bool.false_ne_true)
    have hm : mag32 b ≤ 2139095040 := by have := of_decide_eq_false hn; omega
    have h := widen_any (sgb32 b) (mag32 b) hm w
    rw [word_of b hb] at h
    rw [e]
    exact h.mono fun e w' h => ⟨h.1, 0, by rw [h.2]; rfl⟩
theorem same_self (a : Nat) (ha : a < 18446744073709551616) (w : World) : Calls Tryz.prog 18 #[.float .f64 a, .float .f64 a] w fun e w' => e = .returned (.bool true) ∧ w' = w := by
  have h := same_any a a ha ha w
  have e : ord (plc a) (plc a) = 0 := by unfold ord; rw [if_neg (by omega), if_neg (by omega)]
  rw [e] at h
  exact h
def flv (l : List Nat) : List Value := l.map fun x => .float .f64 x
theorem flv_take (l : List Nat) (k x : Nat) (h : l[k]? = some x) : flv (l.take (k + 1)) = flv (l.take k) ++ [.float .f64 x] := by
  unfold flv
  rw [List.take_add_one, h, List.map_append]
  rfl
theorem row_fl {w : World} {B n : Nat} {v : Value} {l : List Nat} (h : w.ownsRow B 36 1 v n (flv l)) : ∃ p c, v = .slice p n c ∧ n ≤ c ∧ (0 < n → ∃ g, p = some ⟨g, 0, none⟩ ∧ g < w.heap.size ∧ ∀ i x, l[i]? = some x → w.cell? ⟨g, i, none⟩ = some (.float .f64 x)) := by
  rcases h.2 with ⟨rfl, h0⟩ | ⟨g, c, cur, rfl, hB, hh, hc, hr⟩
  · exact ⟨none, 0, by rw [h0], by omega, fun q => by omega⟩
  · refine ⟨_, c, rfl, hc, fun _ => ⟨g, rfl, (Array.getElem?_eq_some_iff.1 hh).1, fun i x hx => ?_⟩⟩
    have := h.cells (g := g) rfl i (.float .f64 x) (by unfold flv; rw [List.getElem?_map, hx]; rfl)
    rw [addr_at, Nat.zero_add] at this
    exact this
theorem info_f64 : (Tryz.prog.info? 36).map (fun i => (i.zero, i.size, i.bytes)) = some (some (.float .f64 0), 1, 8) := by kernel_rfl
theorem fl_take {w wq : World} (px : Option Addr) (cx : Nat) (xs : List Nat) (n cc : Nat) (hn : xs.length = n) (hc : cc ≤ n) (hx : ∀ x ∈ xs, x < 18446744073709551616) (h : 0 < n → ∃ g, px = some ⟨g, 0, none⟩ ∧ ∀ j x, xs[j]? = some x → w.cell? ⟨g, j, none⟩ = some (.float .f64 x)) (k : Kp w wq Nul) : FlAt wq (.slice px cc cx) (xs.take cc) := by
  refine ⟨px, cx, by rw [List.length_take, hn, Nat.min_eq_left hc], fun i x hi => ?_⟩
  rw [List.getElem?_take] at hi
  split at hi
  · have hl := (List.getElem?_eq_some_iff.1 hi).1
    obtain ⟨g, e1, e2⟩ := h (by omega)
    have e3 := e2 i x hi
    exact ⟨hx x (List.mem_of_getElem? hi), g, 0, e1, Nat.lt_of_lt_of_le (cell_lt e3) k.size, by rw [Nat.zero_add]; exact k.cellN e3 (fun x => x)⟩
  · cases hi
theorem fl_drop {w wq : World} (px p' : Option Addr) (cx : Nat) (xs : List Nat) (n cc : Nat) (hn : xs.length = n) (hx : ∀ x ∈ xs, x < 18446744073709551616) (h : 0 < n → ∃ g, px = some ⟨g, 0, none⟩ ∧ ∀ j x, xs[j]? = some x → w.cell? ⟨g, j, none⟩ = some (.float .f64 x)) (k : Kp w wq Nul) (hp : cc < n → p' = px.map (fun x => x.add cc)) : FlAt wq (.slice p' (n - cc) cx) (xs.drop cc) := by
  refine ⟨p', cx, by rw [List.length_drop, hn], fun i x hi => ?_⟩
  rw [List.getElem?_drop] at hi
  have hl := (List.getElem?_eq_some_iff.1 hi).1
  obtain ⟨g, e1, e2⟩ := h (by omega)
  have e3 := e2 _ x hi
  refine ⟨hx x (List.mem_of_getElem? hi), g, cc, ?_, Nat.lt_of_lt_of_le (cell_lt e3) k.size, k.cellN e3 (fun x => x)⟩
  rw [hp (by omega), e1, Option.map_some, addr_at, Nat.zero_add]
theorem n_le {a b : Nat} (h : a ≤ b) : (a : Int) ≤ (b : Int) := by omega
theorem n_ne {a b c : Nat} (h : a < b) (h2 : b ≤ c) : ¬ c = a := by omega
theorem n_wr {k n : Nat} (h : k < n ∧ n ≤ 65536) : wrap64 ((k : Int) + 1) = ((k + 1 : Nat) : Int) := by unfold wrap64; omega
theorem n_w1 {k : Nat} (h : k ≤ 65536) : wrap64 ((k : Int) + 1) = (k : Int) + 1 := by unfold wrap64; omega
theorem n_wq {q i k : Nat} (h : i < k ∧ k ≤ 65536) (h2 : q ≤ i) : wrap64 ((q : Int) + 1) = ((q + 1 : Nat) : Int) := by unfold wrap64; omega
theorem n_meas {k n : Nat} (h : k < n ∧ n ≤ 65536) : n - (((k + 1 : Nat) : Int)).toNat < n - ((k : Int)).toNat := by omega
set_option maxRecDepth 40000 in
set_option maxHeartbeats 16000000 in
theorem numbers24 (vl : Value) (zs : List Nat) (mode cut : Int) (hmo : I64 mode) (hcu : I64 cut) (w : World) (hl : WordsIn w vl zs) (U : VS w) (hs : Sh w) (hT : Tab w) :
    Calls Tryz.prog 4 #[vl, .int .i64 mode, .int .i64 cut] w fun e w' => e = .returned (.bool true) ∧ Kp w w' Nul := by
  obtain ⟨i0, hi, hz0, hz1, hz2⟩ := info_parts info_f64
  obtain ⟨a, c, rfl, hca, ha⟩ := hl.sl
  have hrg := hl.rng
  have hln := hl.len
  obtain ⟨xs, hxs⟩ : ∃ xs, (zs.take 65536).map one = xs := ⟨_, rfl⟩
  obtain ⟨n, hn⟩ : ∃ n, xs.length = n := ⟨_, rfl⟩
  obtain ⟨N, hN⟩ : ∃ N, zs.length = N := ⟨_, rfl⟩
  have hnN : n = min 65536 N := by rw [← hn, ← hxs, List.length_map, List.length_take, hN]
  have hn6 : n ≤ 65536 := by omega
  have hXR : ∀ x ∈ xs, x < 18446744073709551616 ∧ one x = x := fun x hx => by
    rw [← hxs] at hx
    obtain ⟨z, hz, rfl⟩ := List.mem_map.1 hx
    refine ⟨one_lt z (hrg z (List.mem_of_mem_take hz)), ?_⟩
    unfold one
    by_cases q : 9218868437227405312 < mag z
    · rw [if_pos q]; decide
    · rw [if_neg q, if_neg q]
  have hXG : ∀ i, i < n → ∃ z, zs[i]? = some z ∧ z < 18446744073709551616 ∧ xs[i]? = some (one z) := fun i hi => by
    have hz : zs[i]? = some (zs[i]'(by omega)) := List.getElem?_eq_getElem (by omega)
    refine ⟨_, hz, hrg _ (List.getElem_mem ..), ?_⟩
    rw [← hxs, List.getElem?_map, List.getElem?_take, if_pos (by omega), hz]
    rfl
  obtain ⟨p6, hp6⟩ : ∃ p, pkf mode 6 = p := ⟨_, rfl⟩
  have l6 := (pkf_val mode 6 (by decide)).2
  rw [hp6] at l6
  obtain ⟨m, hm⟩ : ∃ m : Int, ((1 + p6 : Nat) : Int) = m := ⟨_, rfl⟩
  have hok : okMode m = true := by unfold okMode; rw [decide_eq_true_eq]; omega
  have hw6 : wrap64 (1 + (p6 : Int)) = m := by unfold wrap64; omega
  have H6 : Hid (∀ wq, Calls Tryz.prog 9 #[.int .i64 mode, .int .i64 6] wq fun e w' => e = .returned (.int .i64 (p6 : Nat)) ∧ w' = wq) := fun wq => by have := pick24 mode 6 hmo (by decide) wq; rw [hp6] at this; exact this
  obtain ⟨cc, hcc⟩ : ∃ cc, pkf cut ((n : Int) + 1) = cc := ⟨_, rfl⟩
  have lcc := (pkf_val cut ((n : Int) + 1) (by omega)).2
  rw [hcc] at lcc
  have HCC : Hid (cc ≤ n) := by show _ ≤ _; omega
  have HPC : Hid (∀ wq, Calls Tryz.prog 9 #[.int .i64 cut, .int .i64 ((n : Int) + 1)] wq fun e w' => e = .returned (.int .i64 (cc : Nat)) ∧ w' = wq) := fun wq => by have := pick24 cut ((n : Int) + 1) hcu (by omega) wq; rw [hcc] at this; exact this
  obtain ⟨ys, hys⟩ : ∃ ys, xs.map (fun x => wdN (sW m x)) = ys := ⟨_, rfl⟩
  have hyl : ys.length = n := by rw [← hys, List.length_map, hn]
  have hYG : ∀ i x, xs[i]? = some x → ys[i]? = some (wdN (sW m x)) := fun i x hx => by rw [← hys, List.getElem?_map, hx]; rfl
  have hYR : ∀ y ∈ ys, y < 18446744073709551616 := fun y hy => by
    rw [← hys] at hy
    obtain ⟨x, _, rfl⟩ := List.mem_map.1 hy
    exact (wd_back m x).1
  obtain ⟨SD, hSD⟩ : ∃ SD, (ByteArray.mk (dbB xs).toArray) = SD := ⟨_, rfl⟩
  obtain ⟨ST, hST⟩ : ∃ ST, (ByteArray.mk (snB m xs).toArray) = ST := ⟨_, rfl⟩
  have hlD : (SD.size : Int) = 8 * (n : Int) := by rw [← hSD]; show (((dbB xs).toArray.size : Nat) : Int) = _; rw [List.size_toArray, dbB_len, hn]; omega
  have hlT : (ST.size : Int) = 4 * (n : Int) := by rw [← hST]; show (((snB m xs).toArray.size : Nat) : Int) = _; rw [List.size_toArray, snB_len, hn]; omega
  have hw8 : wrap64 (8 * (n : Int)) = 8 * (n : Int) := by unfold wrap64; omega
  have hw4 : wrap64 (4 * (n : Int)) = 4 * (n : Int) := by unfold wrap64; omega
  have HDb : Hid (∀ v wq, FlAt wq v xs → Calls Tryz.prog 13 #[v] wq fun e w' => e = .returned (.tuple #[.string SD, .int .i64 0]) ∧ Kp wq w' Nul) := fun v wq h => (doubles_at v xs wq h).mono fun e w' q => by
    have e0 : dbE xs.length = 0 := if_neg (by omega)
    have e1 : dbS xs = dbB xs := by unfold dbS; rw [if_pos e0]
    rw [e0, e1, hSD] at q
    exact q
  have HFD : Hid (∀ wq, Calls Tryz.prog 14 #[.string SD] wq fun e w' => ∃ b, e = .returned (.tuple #[.slice (some ⟨b, 0, none⟩) n n, .int .i64 0]) ∧ Blk w' b (flv xs) 36 ∧ Kp wq w' Nul) := fun wq => by
    have h := fromD_at (dbB xs) (by rw [dbB_len]; omega) wq
    have e0 : hmN (dbB xs).length 8 = (n, 0) := by rw [dbB_len, hn]; unfold hmN; rw [if_pos (by omega), Nat.mul_div_cancel_left _ (by decide), if_neg (by omega)]
    rw [e0, ← hn, nums_db xs hXR, hSD] at h
    refine h.mono fun e w' q => ?_
    cases q with
    | ok hb bl kp => exact ⟨_, by first | rfl | rw [hn], bl, kp⟩
    | no h0 _ => exact absurd rfl h0
  have HSg : Hid (∀ v l wq, FlAt wq v l → l.length ≤ 65536 → Kp w wq Nul → Calls Tryz.prog 15 #[v, .int .i64 m] wq fun e w' => e = .returned (.tuple #[.string ⟨(snB m l).toArray⟩, .int .i64 (snI m l : Nat), .int .i64 0]) ∧ Kp wq w' Nul) := fun v l wq h hl k => (singles_at v l m wq h (fun j hj => k.cellN (hT j hj) (fun x => x))).mono fun e w' q => by
    have e0 : sgE m l.length = 0 := by unfold sgE; rw [if_pos hok, if_neg (by omega)]
    have e1 : sgS m l = snB m l := by unfold sgS; rw [if_pos e0]
    have e2 : sgN m l = snI m l := by unfold sgN; rw [if_pos e0]
    rw [e0, e1, e2] at q
    exact q
  have HFS : Hid (∀ wq, Calls Tryz.prog 16 #[.string ST] wq fun e w' => ∃ b, e = .returned (.tuple #[.slice (some ⟨b, 0, none⟩) n n, .int .i64 0]) ∧ Blk w' b (flv ys) 36 ∧ Kp wq w' Nul) := fun wq => by
    have h := fromS_at (snB m xs) (by rw [snB_len]; omega) wq
    have e0 : hmN (snB m xs).length 4 = (n, 0) := by rw [snB_len, hn]; unfold hmN; rw [if_pos (by omega), Nat.mul_div_cancel_left _ (by decide), if_neg (by omega)]
    rw [e0, ← hn, nums_sn m xs, hys, hST] at h
    refine h.mono fun e w' q => ?_
    cases q with
    | ok hb bl kp => exact ⟨_, by first | rfl | rw [hyl] | rw [hyl, hn], bl, kp⟩
    | no h0 _ => exact absurd rfl h0
  have HSx : Hid (∀ wq v, FlAt wq v xs → Kp w wq Nul → Calls Tryz.prog 15 #[v, .int .i64 m] wq fun e w' => e = .returned (.tuple #[.string ST, .int .i64 (snI m xs : Nat), .int .i64 0]) ∧ Kp wq w' Nul) := fun wq v h k => by
    have := HSg.out v xs wq h (by omega) k
    rw [hST] at this
    exact this
  have HSy : Hid (∀ wq v, FlAt wq v ys → Kp w wq Nul → Calls Tryz.prog 15 #[v, .int .i64 m] wq fun e w' => e = .returned (.tuple #[.string ST, .int .i64 0, .int .i64 0]) ∧ Kp wq w' Nul) := fun wq v h k => by
    have := HSg.out v ys wq h (by omega) k
    rw [← hys, (snB_wd m xs).1, (snB_wd m xs).2, hST] at this
    exact this
  obtain ⟨ta, hta⟩ : ∃ t, snB m (xs.take cc) = t := ⟨_, rfl⟩
  obtain ⟨tb, htb⟩ : ∃ t, snB m (xs.drop cc) = t := ⟨_, rfl⟩
  obtain ⟨na, hna⟩ : ∃ t, snI m (xs.take cc) = t := ⟨_, rfl⟩
  obtain ⟨nb, hnb⟩ : ∃ t, snI m (xs.drop cc) = t := ⟨_, rfl⟩
  obtain ⟨nn, hnn⟩ : ∃ t, snI m xs = t := ⟨_, rfl⟩
  have hct := snB_cut m xs cc
  have HSa : Hid (∀ wq v, FlAt wq v (xs.take cc) → Kp w wq Nul → Calls Tryz.prog 15 #[v, .int .i64 m] wq fun e w' => e = .returned (.tuple #[.string ⟨ta.toArray⟩, .int .i64 (na : Nat), .int .i64 0]) ∧ Kp wq w' Nul) := fun wq v h k => by
    have := HSg.out v _ wq h (by rw [List.length_take]; omega) k
    rw [hta, hna] at this
    exact this
  have HSb : Hid (∀ wq v, FlAt wq v (xs.drop cc) → Kp w wq Nul → Calls Tryz.prog 15 #[v, .int .i64 m] wq fun e w' => e = .returned (.tuple #[.string ⟨tb.toArray⟩, .int .i64 (nb : Nat), .int .i64 0]) ∧ Kp wq w' Nul) := fun wq v h k => by
    have := HSg.out v _ wq h (by rw [List.length_drop]; omega) k
    rw [htb, hnb] at this
    exact this
  rw [hnn] at HSx
  have hle : snI m xs ≤ n := by rw [← hn]; exact snI_le m xs
  have hadd : wrap64 ((na : Int) + (nb : Int)) = (nn : Int) := by
    have := hct.2
    rw [hna, hnb, hnn] at this
    unfold wrap64
    omega
  have hcat : ∀ wq, (Op.stringOp .add ⟨ta.toArray⟩ ⟨tb.toArray⟩).run Tryz.prog wq = .ok (.string ST) wq := fun wq => by
    have h1 := hct.1
    rw [hta, htb] at h1
    rw [run_string_add_sum wq _ _ (by show ta.toArray.size + tb.toArray.size ≤ _; rw [List.size_toArray, List.size_toArray, ← List.length_append, h1, snB_len, hn]; omega), ByteArray.mk_append_mk, h1, hST]
  have HKn : Hid (∀ wq, Kp w wq Nul → Calls Tryz.prog 8 #[] wq fun e w' => e = .returned (.bool true) ∧ Kp wq w' Nul) := fun wq k => known24 wq (U.kp k) (hs.kp k (fun x => x)) (fun j hj => k.cellN (hT j hj) (fun x => x))
  have HNr : Hid (∀ x wq, x < 18446744073709551616 → Kp w wq Nul → Calls Tryz.prog 17 #[.float .f64 x, .int .i64 m] wq fun e w' => (∃ o u, e = .returned (.tuple #[.float .f32 (sW m x), .agg #[.bool (sI m x), .bool o, .bool u], .int .i64 0])) ∧ Kp wq w' Nul) := fun x wq hx k => pnarrow24 x hx m hok wq (fun j hj => k.cellN (hT j hj) (fun x => x))
  have HSi : Hid (∀ x wq, x < 18446744073709551616 → Kp w wq Nul → Calls Tryz.prog 20 #[.float .f64 x] wq fun e w' => e = .returned (.bool (sgl x)) ∧ w' = wq) := fun x wq hx k => single_any x hx wq (fun j hj => k.cellN (hT j hj) (fun x => x))
  have HB : Hid (n ≤ 65536 ∧ xs.length = n ∧ ys.length = n ∧ n = min 65536 N) := ⟨hn6, hn, hyl, hnN⟩
  have HXR : Hid (∀ x ∈ xs, x < 18446744073709551616 ∧ one x = x) := hXR
  have HYR : Hid (∀ y ∈ ys, y < 18446744073709551616) := hYR
  have HXG : Hid (∀ i, i < n → ∃ z, zs[i]? = some z ∧ z < 18446744073709551616 ∧ xs[i]? = some (one z)) := hXG
  have HYG : Hid (∀ i x, xs[i]? = some x → ys[i]? = some (wdN (sW m x))) := hYG
  have HA : Hid (0 < zs.length → ∃ b o, a = some ⟨b, o, none⟩ ∧ ∀ (i : Nat) y, zs[i]? = some y → w.cell? ⟨b, o + i, none⟩ = some (.int .u64 (y : Nat))) := ha
  have HNN : Hid (snI m xs = nn ∧ zs.length = N) := ⟨hnn, hN⟩
  have HCA : Hid (N ≤ c) := by show _ ≤ _; omega
  rw [hN]
  clear hl ha hca hrg hln hxs hn hN hn6 hXR hXG hp6 l6 hm hok hcc lcc hys hyl hYG hYR hSD hST HSg hta htb hna hnb hnn hct hle U hs hT hmo hcu
  go_enter Tryz.func4, Tryz.ntmps4
  go_upto_if 36 with fail
  go_cut [0] (fun s wx => s = .slice a n c ∧ wx = w)
  case first =>
    by_cases hq : 65536 < N
    · have hnq : n = 65536 := by omega
      have hq' : (65536 : Int) < (N : Int) := by omega
      have hcb : (65536 : Int) ≤ (c : Int) := by have := HCA.out; omega
      go_wp2_with fail
      go_meet
      case rel => exact ⟨by first | rfl | (rw [hnq]) | (rw [hnq]; rfl), rfl⟩
    · have hnq : n = N := by omega
      have hq' : ¬ (65536 : Int) < (N : Int) := by omega
      go_wp2_with fail
      go_meet
      case rel => exact ⟨by rw [hnq], rfl⟩
  case rest =>
    obtain ⟨rfl, hwc⟩ := hcut
    replace hwc := hwc.symm
    subst hwc
    clear hnN
    go_wp2_with fail
    go_loopw [7, 8] (fun v i wr => ∃ k : Nat, k ≤ n ∧ i = .int .i64 k ∧ wr.ownsRow w.heap.size 36 1 v k (flv (xs.take k)) ∧ Below w.heap.size w wr) (fun _ i _ => n - (intOf i).toNat)
    case atStart => exact ⟨0, Nat.zero_le _, rfl, World.ownsRow_nil _ _ _ _, Below.refl _ _⟩
    case round =>
      obtain ⟨k, hk, rfl, hown0, hnx0⟩ := hrel
      have HOWN : Hid (wr.ownsRow w.heap.size 36 1 _ k (flv (xs.take k))) := hown0
      have HNX : Hid (Below w.heap.size w wr) := hnx0
      have hsz : w.heap.size ≤ wr.heap.size := hnx0.size
      clear hown0 hnx0
      by_cases hlt : k < n
      · obtain ⟨z, hz1', hz2', hz3'⟩ := HXG.out k hlt
        obtain ⟨b, o, rfl, hcl⟩ := HA.out (by have := (List.getElem?_eq_some_iff.1 hz1').1; omega)
        have hcz := hcl k z hz1'
        have c1 : wr.cell? ⟨b, o + k, none⟩ = some (.int .u64 (z : Nat)) := (HNX.out.cell (cell_lt hcz)).trans hcz
        have hfb := run_f64from24 z
        have HO : Hid (∀ w, Calls Tryz.prog 11 #[.float .f64 z] w fun e w' => e = .returned (.float .f64 (one z)) ∧ w' = w) := fun w => one_any z hz2' w
        obtain ⟨x, hx⟩ : ∃ x, one z = x := ⟨_, rfl⟩
        rw [hx] at HO hz3'
        have HTK : Hid (flv (xs.take (k + 1)) = flv (xs.take k) ++ [.float .f64 x]) := flv_take xs k x hz3'
        have HKN : Hid (k < n ∧ n ≤ 65536) := ⟨hlt, HB.out.1⟩
        have hlt' : (k : Int) < (n : Int) := by omega
        clear hz1' hz2' hz3' hcl hcz hx hk
        go_wp2_with fail
        refine (HO.out _).mono ?_
        rintro e w1 ⟨rfl, hz⟩
        replace hz := hz.symm
        subst hz
        go_wp2_with (at_builtin; refine wpList_append_own _ rfl (.tmp 45) (.tmp 52) 35 rfl w.heap.size 36 i0 (.float .f64 0) 1 8 Tryz.underlying35 hi hz0 hz1 hz2 rfl (by decide) _ _ _ rfl (HOWN.out.alloc _) ⟨wr.heap.size, 0, none⟩ 1 1 [.float .f64 x] rfl rfl ?c1 ?c2 ?c3 ?c4 ?c5 ?_)
        case c1 =>
          intro j u hj
          match j, hj with
          | 0, hj => simp at hj; subst hj; simp [Addr.add]
        case c2 => intro u hu; simp at hu; subst hu; rfl
        case c3 => have := HKN.out; unfold maxLen; omega
        case c4 => have := HKN.out; omega
        case c5 => simp; omega
        · intro v' w1 hown' hgrow _
          have HOWN2 : Hid (w1.ownsRow w.heap.size 36 1 v' (k + 1) (flv (xs.take (k + 1)))) := by show World.ownsRow _ _ _ _ _ _ _; rw [HTK.out]; exact hown'
          have HNX2 : Hid (Below w.heap.size w w1) := (HNX.out.alloc hsz _).grown hgrow (by simp; omega) (fun q hq => (HOWN.out.lt q hq).1)
          clear hown' hgrow c1 HOWN HNX hsz hfb
          go_wp2_with fail
          rw [n_wr HKN.out]
          go_roundw
          case rel => exact ⟨k + 1, HKN.out.1, rfl, HOWN2.out, HNX2.out⟩
          case measure => exact n_meas HKN.out
      · have hkn : k = n := by omega
        subst hkn
        have hTk : xs.take k = xs := by rw [← HB.out.2.1, List.take_length]
        rw [hTk] at HOWN
        obtain ⟨px, cx, rfl, hcx, hpx⟩ := row_fl HOWN.out
        have HPX : Hid (k ≤ cx ∧ (0 < k → ∃ g, px = some ⟨g, 0, none⟩ ∧ g < wr.heap.size ∧ ∀ i x, xs[i]? = some x → wr.cell? ⟨g, i, none⟩ = some (.float .f64 x))) := ⟨hcx, hpx⟩
        have HKr : Hid (Kp w wr Nul) := Kp.of_below HNX.out
        have HFX : Hid (FlAt wr (.slice px k cx) xs) := by
          refine ⟨px, cx, by rw [HB.out.2.1], fun i x hx => ⟨(HXR.out x (List.mem_of_getElem? hx)).1, ?_⟩⟩
          obtain ⟨g, e1, e2, e3⟩ := hpx (by have := (List.getElem?_eq_some_iff.1 hx).1; have := HB.out.2.1; omega)
          exact ⟨g, 0, e1, e2, by rw [Nat.zero_add]; exact e3 i x hx⟩
        have hqn : ¬ ((k : Int) < (k : Int)) := Int.lt_irrefl _
        clear hk hlt hTk hcx hpx HOWN HNX hsz
        go_wp2_with fail
        refine (H6.out _).mono ?_
        rintro e w1 ⟨rfl, hz⟩
        replace hz := hz.symm
        subst hz
        go_wp2_with fail
        refine (HDb.out _ _ HFX.out).mono ?_
        rintro e w2 ⟨rfl, k2⟩
        have HK2 : Hid (Kp wr w2 Nul) := k2
        clear k2
        go_wp2_with fail
        refine (HFD.out _).mono ?_
        rintro e w3 ⟨by3, rfl, bl3, k3⟩
        have HK3 : Hid (Kp wr w3 Nul) := HK2.out.trans k3
        have HB3 : Hid (Blk w3 by3 (flv xs) 36) := bl3
        clear k3 bl3 HK2
        go_wp2_with fail
        refine (HSx.out _ _ (HFX.out.kp HK3.out) (HKr.out.trans HK3.out)).mono ?_
        rintro e w4 ⟨rfl, k4⟩
        have HK4 : Hid (Kp wr w4 Nul) := HK3.out.trans k4
        have HB4 : Hid (Blk w4 by3 (flv xs) 36) := HB3.out.kp k4 (fun x => x)
        clear k4 HK3 HB3
        go_wp2_with fail
        refine (HFS.out _).mono ?_
        rintro e w5 ⟨bz5, rfl, bl5, k5⟩
        have HK5 : Hid (Kp wr w5 Nul) := HK4.out.trans k5
        have HB5 : Hid (Blk w5 by3 (flv xs) 36 ∧ Blk w5 bz5 (flv ys) 36) := ⟨HB4.out.kp k5 (fun x => x), bl5⟩
        have HKW : Hid (Kp w w5 Nul) := HKr.out.trans HK5.out
        have HPW : Hid (k ≤ cx ∧ (0 < k → ∃ g, px = some ⟨g, 0, none⟩ ∧ ∀ i x, xs[i]? = some x → w5.cell? ⟨g, i, none⟩ = some (.float .f64 x))) := ⟨HPX.out.1, fun h => by
          obtain ⟨g, e1, _, e3⟩ := HPX.out.2 h
          exact ⟨g, e1, fun i x hx => HK5.out.cellN (e3 i x hx) (fun x => x)⟩⟩
        clear k5 bl5 HK4 HB4 HKr HK5 HPX HFX
        go_wp2_with fail
        rw [hw8, hw4]
        clear hw8 hw4
        go_loopw [19, 20] (fun s19 s20 wq => ∃ i : Nat, i ≤ k ∧ s20 = .int .i64 i ∧ s19 = .int .i64 (snI m (xs.take i) : Nat) ∧ Kp w5 wq Nul) (fun _ s20 _ => k - (intOf s20).toNat)
        case atStart => exact ⟨0, Nat.zero_le _, rfl, by rw [List.take_zero]; rfl, Kp.refl _ _⟩
        case round =>
          obtain ⟨i, hi', rfl, rfl, hkq⟩ := hrel
          have HKq : Hid (Kp w5 wr Nul) := hkq
          clear hkq
          by_cases hlt : i < k
          · have HIK : Hid (i < k ∧ k ≤ 65536) := ⟨hlt, HB.out.1⟩
            have hlt' : (i : Int) < (k : Int) := by omega
            obtain ⟨x, hx⟩ : ∃ x, xs[i]? = some x := ⟨_, List.getElem?_eq_getElem (by have := HB.out.2.1; omega)⟩
            have HX : Hid (x < 18446744073709551616 ∧ one x = x) := HXR.out x (List.mem_of_getElem? hx)
            have hy := HYG.out i x hx
            obtain ⟨g, rfl, hgc⟩ := HPW.out.2 (by omega)
            have cx1 := hgc i x hx
            have HTI : Hid (snI m (xs.take (i + 1)) = snI m (xs.take i) + if sI m x = true then 1 else 0) := snI_take m xs i x hx
            have HSI : Hid (snI m (xs.take i) ≤ i) := Nat.le_trans (snI_le _ _) (List.length_take_le _ _)
            have hcx : wr.cell? ⟨g, i, none⟩ = some (.float .f64 x) := HKq.out.cellN cx1 (fun x => x)
            have HCy : Hid (w5.cell? ⟨by3, i, none⟩ = some (.float .f64 x)) := HB5.out.1.cell (by unfold flv; rw [List.getElem?_map, hx]; rfl)
            have HCz : Hid (w5.cell? ⟨bz5, i, none⟩ = some (.float .f64 (wdN (sW m x)))) := HB5.out.2.cell (by unfold flv; rw [List.getElem?_map, hy]; rfl)
            have HCx : Hid (w5.cell? ⟨g, i, none⟩ = some (.float .f64 x)) := cx1
            have HSG : Hid (sgl x = true → sI m x = false ∧ wdN (sW m x) = x) := fun h => sgl_back m x HX.out.1 HX.out.2 h
            have HWQ : Hid (∀ wq, Calls Tryz.prog 19 #[.float .f32 (sW m x)] wq fun e w' => e = .returned (.float .f64 (wdN (sW m x))) ∧ ∃ d, w' = wq.drewN d) := fun wq => widenQ _ (sW_lt m x) wq
            have HZL : Hid (wdN (sW m x) < 18446744073709551616) := (wd_back m x).1
            clear hx hy hgc cx1 hlt hi'
            generalize hq0 : snI m (xs.take i) = q at *
            go_wp2_with fail
            refine (HNr.out x _ HX.out.1 (HKW.out.trans HKq.out)).mono ?_
            rintro e w6 ⟨⟨o', u', rfl⟩, k6⟩
            generalize hS : sI m x = sb at *
            generalize hQ : sW m x = sx at *
            generalize hZ : wdN sx = zz at *
            obtain ⟨W7, hW7⟩ : ∃ W7, w6.alloc (.cells #[.bool sb, .bool o', .bool u'] 47) = W7 := ⟨_, rfl⟩
            have HW7 : Hid (w6.alloc (.cells #[.bool sb, .bool o', .bool u'] 47) = W7) := hW7
            have k7 : Kp w6 W7 Nul := by rw [← hW7]; exact (Kp.refl _ _).alloc _
            have hfl : W7.cell? ⟨w6.heap.size, 0, none⟩ = some (.bool sb) := by
              have : Blk W7 w6.heap.size [.bool sb, .bool o', .bool u'] 47 := by rw [← hW7]; exact Blk.new w6 _ _
              exact this.cell rfl
            have HK7 : Hid (Kp w5 W7 Nul) := HKq.out.trans (k6.trans k7)
            have hc7x : W7.cell? ⟨g, i, none⟩ = some (.float .f64 x) := HK7.out.cellN HCx.out (fun x => x)
            have hc7y : W7.cell? ⟨by3, i, none⟩ = some (.float .f64 x) := HK7.out.cellN HCy.out (fun x => x)
            have hc7z : W7.cell? ⟨bz5, i, none⟩ = some (.float .f64 zz) := HK7.out.cellN HCz.out (fun x => x)
            have HSi1 : Hid (∀ d, Calls Tryz.prog 20 #[.float .f64 x] (W7.drewN d) fun e w' => e = .returned (.bool (sgl x)) ∧ w' = W7.drewN d) := fun d => HSi.out x _ HX.out.1 ((HKW.out.trans HK7.out).drewN d)
            have HSxx : Hid (∀ w, Calls Tryz.prog 18 #[.float .f64 x, .float .f64 x] w fun e w' => e = .returned (.bool true) ∧ w' = w) := fun w => same_self x HX.out.1 w
            have HSzz : Hid (∀ w, Calls Tryz.prog 18 #[.float .f64 zz, .float .f64 zz] w fun e w' => e = .returned (.bool true) ∧ w' = w) := fun w => same_self zz HZL.out w
            obtain ⟨G, hG⟩ : ∃ G, sgl x = G := ⟨_, rfl⟩
            rw [hG] at HSi1 HSG
            clear hW7 k6 k7 hcx hG hS hQ hZ HNr HKq hq0
            go_wp2_with fail
            rw [HW7.out]
            have HFin : Hid (∀ d, Kp w5 (W7.drewN d) Nul) := fun d => HK7.out.drewN d
            cases G with
            | true =>
              obtain ⟨hsb, hzz⟩ := HSG.out rfl
              subst hsb
              subst hzz
              have HTI' : Hid (snI m (xs.take (i + 1)) = q) := by show _ = _; rw [HTI.out, if_neg Bool.false_ne_true, Nat.add_zero]
              clear HTI HSG HK7 HW7 HCx HCy HCz
              go_quiet (first | (go_at_call 18; exact Calls.quiet_of_same (HSxx.out _)) | (go_at_call 19; exact Calls.quiet_of (HWQ.out _)) | (go_at_call 20; exact Calls.quiet_of_same (HSi1.out _)))
              have hfl' : (W7.drewN nq).cell? ⟨w6.heap.size, 0, none⟩ = some (.bool false) := hfl
              have HNXT : Hid (Kp w5 (W7.drewN nq) Nul) := HFin.out nq
              clear hfl hc7x hc7y hc7z HSi1 HFin
              go_wp2_with fail
              rw [n_wr HIK.out]
              go_roundw
              case rel => exact ⟨i + 1, HIK.out.1, rfl, by rw [HTI'.out], HNXT.out⟩
              case measure => exact n_meas HIK.out
            | false =>
              cases sb with
              | false =>
                have HTI' : Hid (snI m (xs.take (i + 1)) = q) := by show _ = _; rw [HTI.out, if_neg Bool.false_ne_true, Nat.add_zero]
                clear HTI HSG HK7 HW7 HCx HCy HCz
                go_quiet (first | (go_at_call 18; first | exact Calls.quiet_of_same (HSxx.out _) | exact Calls.quiet_of_same (HSzz.out _)) | (go_at_call 19; exact Calls.quiet_of (HWQ.out _)) | (go_at_call 20; exact Calls.quiet_of_same (HSi1.out _)))
                have hfl' : (W7.drewN nq).cell? ⟨w6.heap.size, 0, none⟩ = some (.bool false) := hfl
                have HNXT : Hid (Kp w5 (W7.drewN nq) Nul) := HFin.out nq
                clear hfl hc7x hc7y hc7z HSi1 HFin
                go_wp2_with fail
                rw [n_wr HIK.out]
                go_roundw
                case rel => exact ⟨i + 1, HIK.out.1, rfl, by rw [HTI'.out], HNXT.out⟩
                case measure => exact n_meas HIK.out
              | true =>
                have HTI' : Hid (snI m (xs.take (i + 1)) = q + 1) := by show _ = _; rw [HTI.out, if_pos rfl]
                clear HTI HSG HK7 HW7 HCx HCy HCz
                go_quiet (first | (go_at_call 18; first | exact Calls.quiet_of_same (HSxx.out _) | exact Calls.quiet_of_same (HSzz.out _)) | (go_at_call 19; exact Calls.quiet_of (HWQ.out _)) | (go_at_call 20; exact Calls.quiet_of_same (HSi1.out _)))
                have hfl' : (W7.drewN nq).cell? ⟨w6.heap.size, 0, none⟩ = some (.bool true) := hfl
                have HNXT : Hid (Kp w5 (W7.drewN nq) Nul) := HFin.out nq
                clear hfl hc7x hc7y hc7z HSi1 HFin
                go_wp2_with fail
                rw [n_wr HIK.out, n_wq HIK.out HSI.out]
                go_roundw
                case rel => exact ⟨i + 1, HIK.out.1, rfl, by rw [HTI'.out], HNXT.out⟩
                case measure => exact n_meas HIK.out
          · have hie : i = k := by omega
            subst hie
            have hTi : snI m (xs.take i) = nn := by rw [← HNN.out.1]; congr 1; rw [← HB.out.2.1, List.take_length]
            rw [hTi]
            have HFY : Hid (FlAt wr (.slice (some ⟨bz5, 0, none⟩) i i) ys) := FlAt.of_blk (HB5.out.2.kp HKq.out (fun x => x)) HYR.out HB.out.2.2.1
            have HKR : Hid (Kp w wr Nul) := HKW.out.trans HKq.out
            have HPR : Hid (i ≤ cx ∧ (0 < i → ∃ g, px = some ⟨g, 0, none⟩ ∧ ∀ j x, xs[j]? = some x → wr.cell? ⟨g, j, none⟩ = some (.float .f64 x))) := ⟨HPW.out.1, fun h => by
              obtain ⟨g, e1, e3⟩ := HPW.out.2 h
              exact ⟨g, e1, fun j x hx => HKq.out.cellN (e3 j x hx) (fun x => x)⟩⟩
            have hwk : wrap64 ((i : Int) + 1) = (i : Int) + 1 := n_w1 HB.out.1
            have hqn2 : ¬ ((i : Int) < (i : Int)) := Int.lt_irrefl _
            have hc1 : (cc : Int) ≤ (cx : Int) := n_le (Nat.le_trans HCC.out HPR.out.1)
            have hc2 : (cc : Int) ≤ (i : Int) := n_le HCC.out
            have HFA : Hid (∀ wq, Kp wr wq Nul → FlAt wq (.slice px cc cx) (xs.take cc)) := fun wq kq => fl_take px cx xs i cc HB.out.2.1 HCC.out (fun x hx => (HXR.out x hx).1) HPR.out.2 kq
            have HFB : Hid (∀ wq p' c', Kp wr wq Nul → (cc < i → p' = px.map (fun x => x.add cc)) → FlAt wq (.slice p' (i - cc) c') (xs.drop cc)) := fun wq p' c' kq hp => fl_drop px p' c' xs i cc HB.out.2.1 (fun x hx => (HXR.out x hx).1) HPR.out.2 kq hp
            have hne : cc < i → ¬ cx = cc := fun h => n_ne h HPR.out.1
            have HNE : Hid (cc < i → ¬ cx = cc) := hne
            clear hi' hlt hTi HKW HPW HB5 HKq HPR hne
            go_wp2_with fail
            refine (HSy.out _ _ HFY.out HKR.out).mono ?_
            rintro e w8 ⟨rfl, k8⟩
            have HK8 : Hid (Kp wr w8 Nul) := k8
            clear k8
            go_wp2_with fail
            refine (HPC.out _).mono ?_
            rintro e w9 ⟨rfl, hz⟩
            replace hz := hz.symm
            subst hz
            go_wp2_with fail
            refine (HSa.out _ _ (HFA.out _ HK8.out) (HKR.out.trans HK8.out)).mono ?_
            rintro e w10 ⟨rfl, k10⟩
            have HK10 : Hid (Kp wr w10 Nul) := HK8.out.trans k10
            clear k10 HK8 HSa HFA
            go_wp2_with fail
            all_goals
              refine (HSb.out _ _ (HFB.out _ _ _ HK10.out (by first | exact (fun _ => rfl) | exact (fun hh => absurd (by assumption) (HNE.out hh)))) (HKR.out.trans HK10.out)).mono ?_
              rintro e w11 ⟨rfl, k11⟩
              have HK11 : Hid (Kp w w11 Nul) := HKR.out.trans (HK10.out.trans k11)
              clear k11 HK10 HSb HFB
              go_wp2_with fail
              refine (HKn.out _ HK11.out).mono ?_
              rintro e w12 ⟨rfl, k12⟩
              have HK12 : Hid (Kp w w12 Nul) := HK11.out.trans k12
              clear k12 HK11 HKn
              go_wp2_with fail
              go_ret
              exact ⟨rfl, HK12.out⟩
end Go.Proofs.YthgeojgfjpcelabGreatDoor
