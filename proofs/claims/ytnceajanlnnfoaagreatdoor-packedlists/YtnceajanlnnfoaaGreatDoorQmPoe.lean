/- Packed, the document's FromSingles, FromDoubles (quadrilleref24). PackedLists: the walk. -/
import Derived.Test.YtnceajanlnnfoaaGreatDoorQmPod
import Derived.Test.YtnceajanlnnfoaaGreatDoorQmNu
import Derived.Test.YtnceajanlnnfoaaGreatDoorQmPln
import Derived.Deep.CutRange
import Derived.Deep.DeepCutAuto
namespace Go.Proofs.YtnceajanlnnfoaaGreatDoor
open Go.RowKit Go.Shelf
theorem wdN_eq (b : Nat) : wd32 b = wdN b := rfl
def half (f : Nat → Nat) (xs : List Nat) (i : Nat) : List Value := wdv ((xs.take i).map f ++ xs.drop i)
theorem half_len (f : Nat → Nat) (xs : List Nat) (i : Nat) : (half f xs i).length = xs.length := by unfold half; rw [wdv_len, List.length_append, List.length_map, List.length_take, List.length_drop]; omega
theorem half_get (f : Nat → Nat) (xs : List Nat) (i x : Nat) (h : xs[i]? = some x) : (half f xs i)[i]? = some (.int .u64 (x : Nat)) := by
 have hl := (List.getElem?_eq_some_iff.1 h).1
 unfold half
 refine wdv_get _ _ _ ?_
 rw [List.getElem?_append_right (by rw [List.length_map, List.length_take]; omega), List.length_map, List.length_take, Nat.min_eq_left (by omega), Nat.sub_self, List.getElem?_drop, Nat.add_zero]
 exact h
theorem half_set (f : Nat → Nat) (xs : List Nat) (i x : Nat) (h : xs[i]? = some x) : (half f xs i).set i (.int .u64 (f x : Nat)) = half f xs (i + 1) := by
 have hl := (List.getElem?_eq_some_iff.1 h).1
 have hd : xs.drop i = x :: xs.drop (i + 1) := by rw [List.drop_eq_getElem_cons hl, (List.getElem?_eq_some_iff.1 h).2]
 unfold half wdv
 rw [hd, List.map_append, List.map_append, List.set_append_right _ _ (by simp; omega)]
 rw [List.take_add_one, h, List.map_append, List.map_append]
 have e : i - (((xs.take i).map f).map fun x => Value.int .u64 (x : Nat)).length = 0 := by simp; omega
 rw [e]
 simp
theorem half_zero (f : Nat → Nat) (xs : List Nat) : half f xs 0 = wdv xs := by unfold half; simp
theorem half_all (f : Nat → Nat) (xs : List Nat) : half f xs xs.length = wdv (xs.map f) := by unfold half; rw [List.take_length, List.drop_length, List.append_nil]
theorem nums_lt (k : Nat) (b : List UInt8) (n i x : Nat) (h : (nums k b n)[i]? = some x) : x < 256 ^ k := by
 have hl := (List.getElem?_eq_some_iff.1 h).1
 rw [nums_len] at hl
 rw [nums_get k n i b hl] at h
 injection h with h
 rw [← h]
 refine Nat.lt_of_lt_of_le (unle_lt _) (Nat.pow_le_pow_right (by decide) (List.length_take_le _ _))
theorem run_u64u32' (n : Nat) (hn : n < 4294967296) (w : World) : (convert 80 86 (.int .u64 (n : Nat))).run Tryz.prog w = .ok (.int .u32 (n : Nat)) w := run_u64u32 n hn w
set_option maxRecDepth 40000 in
set_option maxHeartbeats 8000000 in
theorem rfromS_at (b : List UInt8) (hb : b.length ≤ 9223372036854775807) (w : World) :
  Calls Tryz.prog 19 #[.string ⟨b.toArray⟩] w fun e w' => ∃ v, e = .returned (.tuple #[v, .int .i64 ((hmN b.length 4).2 : Nat)]) ∧ ByF 80 w w' v (wdv ((nums 4 b (hmN b.length 4).1).map wdN)) := by
 obtain ⟨er, her⟩ : ∃ er, (hmN b.length 4).2 = er := ⟨_, rfl⟩
 obtain ⟨xs, hxs⟩ : ∃ xs, nums 4 b (hmN b.length 4).1 = xs := ⟨_, rfl⟩
 have HLs : Hid (Calls Tryz.prog 53 #[.string ⟨b.toArray⟩, .int .i64 4] w fun e w' => ∃ v, e = .returned (.tuple #[v, .int .i64 (er : Nat)]) ∧ ByF 80 w w' v (wdv xs)) := by
  have := rlist_at b 4 (by decide) hb w
  rw [her, hxs] at this
  exact this
 have HXB : Hid (∀ i x, xs[i]? = some x → x < 256 ^ 4) := fun i x h => by rw [← hxs] at h; exact nums_lt 4 b _ i x h
 have HXL : Hid (xs.length ≤ 65536) := by
  show _ ≤ _
  rw [← hxs, nums_len]
  rcases hm_case b.length 4 with ⟨h1, _⟩ | ⟨h1, _⟩ | ⟨h1, _, _, h4, _⟩
  ·rw [h1]; omega
  ·rw [h1]; omega
  ·rw [h1]; exact h4
 rw [her, hxs]
 obtain ⟨n, hn⟩ : ∃ n, xs.length = n := ⟨_, rfl⟩
 have HN : Hid (xs.length = n) := hn
 clear her hxs hb hn
 go_enter Tryz.func19, Tryz.ntmps19
 go_wp2_with fail
 refine HLs.out.mono ?_
 rintro e w1 ⟨v, rfl, g, hby, hg, hkp⟩
 have HBY1 : Hid (By 80 w1 g v (wdv xs)) := hby
 have HG : Hid (∀ b, g = some b → w.heap.size ≤ b) := hg
 have HKP1 : Hid (Kp w w1 Nul) := hkp
 obtain ⟨p, c, rfl, hc⟩ := hby.shape
 rw [wdv_len, HN.out] at HBY1 hc ⊢
 have HFM := hby.form
 clear hby hg hkp HLs hc
 go_wp2_with fail
 go_loopw [6] (fun s6 wr => ∃ i : Nat, i ≤ n ∧ s6 = .int .i64 i ∧ By 80 wr g (.slice p n c) (half wdN xs i) ∧ Kp w wr Nul) (fun s6 _ => ((n : Int) - intOf s6).toNat)
 case atStart => exact ⟨0, Nat.zero_le _, by simp, by rw [half_zero]; exact HBY1.out, HKP1.out⟩
 case round =>
  obtain ⟨i, hi, rfl, hby, hkp⟩ := hrel
  have HBY : Hid (By 80 wr g (.slice p n c) (half wdN xs i)) := hby
  have HKP : Hid (Kp w wr Nul) := hkp
  clear hby hkp
  by_cases hlt : i < n
  ·have hlt' : (i : Int) < (n : Int) := by omega
   obtain ⟨x, hx⟩ : ∃ x, xs[i]? = some x := ⟨_, List.getElem?_eq_getElem (by rw [HN.out]; exact hlt)⟩
   obtain ⟨bb, e1, e2⟩ : ∃ bb, p = some ⟨bb, 0, none⟩ ∧ g = some bb := by
    rcases HFM with ⟨q, _, q2⟩ | ⟨b1, c1, q, q2⟩
    ·have := congrArg List.length q2; rw [wdv_len, HN.out] at this; simp at this; omega
    ·injection q with q3 q4 q5; exact ⟨b1, q3, q2⟩
   subst e1
   subst e2
   have hxb := HXB.out i x hx
   have hcell : wr.cell? ⟨bb, i, none⟩ = some (.int .u64 (x : Nat)) := HBY.out.cell i _ (half_get _ xs i x hx)
   have hil : i < (half wdN xs i).length := by rw [half_len, HN.out]; exact hlt
   have hfr : wr.frozen? ⟨bb, i, none⟩ = false := HBY.out.froz i hil
   have HNX : Hid (By 80 (wr.setCell ⟨bb, i, none⟩ (.int .u64 (wdN x : Nat))) (some bb) (.slice (some ⟨bb, 0, none⟩) n c) (half wdN xs (i + 1)) ∧ Kp w (wr.setCell ⟨bb, i, none⟩ (.int .u64 (wdN x : Nat))) Nul) := by
    refine ⟨?_, HKP.out.setCell ⟨bb, i, none⟩ _ (.inl (HG.out bb rfl))⟩
    have := HBY.out.set i (.int .u64 (wdN x : Nat)) rfl
    rw [half_set wdN xs i x hx] at this
    exact this
   have HLT : Hid (i < n ∧ n ≤ 65536) := ⟨hlt, by have := HXL.out; have := HN.out; omega⟩
   have HO : Hid (∀ w, Calls Tryz.prog 54 #[.int .u32 (x : Nat)] w fun e w' => e = .returned (.int .u64 (wdN x : Nat)) ∧ w' = w) := fun w => by
    have h4 : (256 : Nat) ^ 4 = 4294967296 := by decide
    have := rwiden_any x (by omega) w
    rw [wdN_eq] at this
    exact this
   have hi0 : (0 : Int) ≤ (i : Int) := by omega
   have hib : (i : Int) + 1 ≤ 9223372036854775807 := by have := HLT.out; omega
   clear hx hil hi hlt HFM
   have h4 : (256 : Nat) ^ 4 = 4294967296 := by decide
   have hcv := run_u64u32' x (by omega)
   clear h4
   clear hxb
   go_wp2_with fail
   refine (HO.out _).mono ?_
   rintro e w2 ⟨rfl, hz⟩
   replace hz := hz.symm
   subst hz
   go_wp2_with fail
   go_roundw
   case rel => exact ⟨i + 1, by have := HLT.out; omega, by go_num, HNX.out⟩
   case measure => simp only [intOf]; have := HLT.out; omega
  ·have hie : i = n := by omega
   subst hie
   have HF : Hid (ByF 80 w wr (.slice p i c) (wdv (xs.map wdN))) := ⟨g, by have := HBY.out; rw [← HN.out, half_all] at this; rw [← HN.out]; exact this, HG.out, HKP.out⟩
   clear hi hlt HFM
   go_wp2_with fail
   refine bodyPost_ret (results_tmp2 rfl _ _ _) rfl ?_
   exact ⟨_, rfl, HF.out⟩
set_option maxRecDepth 40000 in
set_option maxHeartbeats 8000000 in
theorem rfromD_at (b : List UInt8) (hb : b.length ≤ 9223372036854775807) (w : World) :
  Calls Tryz.prog 21 #[.string ⟨b.toArray⟩] w fun e w' => ∃ v, e = .returned (.tuple #[v, .int .i64 ((hmN b.length 8).2 : Nat)]) ∧ ByF 80 w w' v (wdv ((nums 8 b (hmN b.length 8).1).map one)) := by
 obtain ⟨er, her⟩ : ∃ er, (hmN b.length 8).2 = er := ⟨_, rfl⟩
 obtain ⟨xs, hxs⟩ : ∃ xs, nums 8 b (hmN b.length 8).1 = xs := ⟨_, rfl⟩
 have HLs : Hid (Calls Tryz.prog 53 #[.string ⟨b.toArray⟩, .int .i64 8] w fun e w' => ∃ v, e = .returned (.tuple #[v, .int .i64 (er : Nat)]) ∧ ByF 80 w w' v (wdv xs)) := by
  have := rlist_at b 8 (by decide) hb w
  rw [her, hxs] at this
  exact this
 have HXB : Hid (∀ i x, xs[i]? = some x → x < 256 ^ 8) := fun i x h => by rw [← hxs] at h; exact nums_lt 8 b _ i x h
 have HXL : Hid (xs.length ≤ 65536) := by
  show _ ≤ _
  rw [← hxs, nums_len]
  rcases hm_case b.length 8 with ⟨h1, _⟩ | ⟨h1, _⟩ | ⟨h1, _, _, h4, _⟩
  ·rw [h1]; omega
  ·rw [h1]; omega
  ·rw [h1]; exact h4
 rw [her, hxs]
 obtain ⟨n, hn⟩ : ∃ n, xs.length = n := ⟨_, rfl⟩
 have HN : Hid (xs.length = n) := hn
 clear her hxs hb hn
 go_enter Tryz.func21, Tryz.ntmps21
 go_wp2_with fail
 refine HLs.out.mono ?_
 rintro e w1 ⟨v, rfl, g, hby, hg, hkp⟩
 have HBY1 : Hid (By 80 w1 g v (wdv xs)) := hby
 have HG : Hid (∀ b, g = some b → w.heap.size ≤ b) := hg
 have HKP1 : Hid (Kp w w1 Nul) := hkp
 obtain ⟨p, c, rfl, hc⟩ := hby.shape
 rw [wdv_len, HN.out] at HBY1 hc ⊢
 have HFM := hby.form
 clear hby hg hkp HLs hc
 go_wp2_with fail
 go_loopw [6] (fun s6 wr => ∃ i : Nat, i ≤ n ∧ s6 = .int .i64 i ∧ By 80 wr g (.slice p n c) (half one xs i) ∧ Kp w wr Nul) (fun s6 _ => ((n : Int) - intOf s6).toNat)
 case atStart => exact ⟨0, Nat.zero_le _, by simp, by rw [half_zero]; exact HBY1.out, HKP1.out⟩
 case round =>
  obtain ⟨i, hi, rfl, hby, hkp⟩ := hrel
  have HBY : Hid (By 80 wr g (.slice p n c) (half one xs i)) := hby
  have HKP : Hid (Kp w wr Nul) := hkp
  clear hby hkp
  by_cases hlt : i < n
  ·have hlt' : (i : Int) < (n : Int) := by omega
   obtain ⟨x, hx⟩ : ∃ x, xs[i]? = some x := ⟨_, List.getElem?_eq_getElem (by rw [HN.out]; exact hlt)⟩
   obtain ⟨bb, e1, e2⟩ : ∃ bb, p = some ⟨bb, 0, none⟩ ∧ g = some bb := by
    rcases HFM with ⟨q, _, q2⟩ | ⟨b1, c1, q, q2⟩
    ·have := congrArg List.length q2; rw [wdv_len, HN.out] at this; simp at this; omega
    ·injection q with q3 q4 q5; exact ⟨b1, q3, q2⟩
   subst e1
   subst e2
   have hxb := HXB.out i x hx
   have hcell : wr.cell? ⟨bb, i, none⟩ = some (.int .u64 (x : Nat)) := HBY.out.cell i _ (half_get _ xs i x hx)
   have hil : i < (half one xs i).length := by rw [half_len, HN.out]; exact hlt
   have hfr : wr.frozen? ⟨bb, i, none⟩ = false := HBY.out.froz i hil
   have HNX : Hid (By 80 (wr.setCell ⟨bb, i, none⟩ (.int .u64 (one x : Nat))) (some bb) (.slice (some ⟨bb, 0, none⟩) n c) (half one xs (i + 1)) ∧ Kp w (wr.setCell ⟨bb, i, none⟩ (.int .u64 (one x : Nat))) Nul) := by
    refine ⟨?_, HKP.out.setCell ⟨bb, i, none⟩ _ (.inl (HG.out bb rfl))⟩
    have := HBY.out.set i (.int .u64 (one x : Nat)) rfl
    rw [half_set one xs i x hx] at this
    exact this
   have HLT : Hid (i < n ∧ n ≤ 65536) := ⟨hlt, by have := HXL.out; have := HN.out; omega⟩
   have HO : Hid (∀ w, Calls Tryz.prog 48 #[.int .u64 (x : Nat)] w fun e w' => e = .returned (.int .u64 (one x : Nat)) ∧ w' = w) := fun w => by
    have h8 : (256 : Nat) ^ 8 = 18446744073709551616 := by decide
    have := rone_any (x : Int) (by show (0 : Int) ≤ (x : Int); omega) (by show (x : Int) < 18446744073709551616; omega) w
    rw [Int.toNat_natCast] at this
    exact this
   have hi0 : (0 : Int) ≤ (i : Int) := by omega
   have hib : (i : Int) + 1 ≤ 9223372036854775807 := by have := HLT.out; omega
   clear hx hil hi hlt HFM
   clear hxb
   go_wp2_with fail
   refine (HO.out _).mono ?_
   rintro e w2 ⟨rfl, hz⟩
   replace hz := hz.symm
   subst hz
   go_wp2_with fail
   go_roundw
   case rel => exact ⟨i + 1, by have := HLT.out; omega, by go_num, HNX.out⟩
   case measure => simp only [intOf]; have := HLT.out; omega
  ·have hie : i = n := by omega
   subst hie
   have HF : Hid (ByF 80 w wr (.slice p i c) (wdv (xs.map one))) := ⟨g, by have := HBY.out; rw [← HN.out, half_all] at this; rw [← HN.out]; exact this, HG.out, HKP.out⟩
   clear hi hlt HFM
   go_wp2_with fail
   refine bodyPost_ret (results_tmp2 rfl _ _ _) rfl ?_
   exact ⟨_, rfl, HF.out⟩
end Go.Proofs.YtnceajanlnnfoaaGreatDoor
namespace Go.Proofs.YtnceajanlnnfoaaGreatDoor
open Go.RowKit Go.Maps Go.Sort Go.Lib Go.Shelf
structure FrQ (w w' : World) (p : Option Addr) (xs : List Nat) : Prop where
 row : xs ≠ [] → ∃ b, p = some ⟨b, 0, none⟩ ∧ w.heap.size ≤ b ∧ b < w'.heap.size ∧ Blk w' b (fvs xs) 50
 low : ∀ b, p = some ⟨b, 0, none⟩ → w.heap.size ≤ b ∧ b < w'.heap.size
 kp : Kp w w' Nul
theorem FrQ.of {w w' : World} {xs : List Nat} {er : Nat} {e : Ending} (h : FrP w xs er e w') (h0 : er ≠ 0 → xs = []) : ∃ p, e = .returned (.tuple #[.slice p xs.length xs.length, .int .i64 er]) ∧ FrQ w w' p xs := by
 cases h with
 | ok hb bl kp => exact ⟨_, rfl, fun _ => ⟨_, rfl, hb, bl.lt, bl⟩, fun b e => (by injection e with e; injection e with e; subst e; exact ⟨hb, bl.lt⟩), kp⟩
 | no h kp =>
  have e := h0 h
  subst e
  exact ⟨_, rfl, fun h => absurd rfl h, fun b e => (by cases e), kp⟩
theorem FrQ.fs {w w' w'' : World} {p : Option Addr} {xs : List Nat} {S : Nat → Prop} (h : FrQ w w' p xs) (k : Kp w' w'' S) (hS : ∀ b, p = some ⟨b, 0, none⟩ → ¬ S b) : FsAt w'' (.slice p xs.length xs.length) xs := by
 refine ⟨p, _, rfl, fun i x hx => ?_⟩
 obtain ⟨b, e, _, _, bl⟩ := h.row (fun e => by subst e; simp at hx)
 refine ⟨b, e, ?_⟩
 have := bl.kp k (hS b e)
 exact this.cell (by unfold fvs; rw [List.getElem?_map, hx]; rfl)
theorem ByF.ws {W w w' : World} {v : Value} {xs : List Nat} {S : Nat → Prop} (h : ByF 80 W w v (wdv xs)) (k : Kp w w' S) (hS : ∀ b, W.heap.size ≤ b → ¬ S b) : WsAt w' v xs := by
 obtain ⟨g, hb, hg, _⟩ := h
 have hb' := hb.kp k (fun b e => hS b (hg b e))
 rcases hb'.form with ⟨e1, _, e3⟩ | ⟨b, c, e1, _⟩
 ·have hx : xs = [] := by
   have := congrArg List.length e3
   rw [wdv_len] at this
   exact List.length_eq_zero_iff.1 (by simpa using this)
  subst hx
  exact ⟨none, 0, e1, fun i x hx => by simp at hx⟩
 ·rw [wdv_len] at e1
  subst e1
  exact ⟨_, c, rfl, fun i x hx => ⟨b, rfl, hb'.cell i _ (wdv_get xs i x hx)⟩⟩
theorem ByF.is {e : TypeId} {W w : World} {v : Value} {xs : List Value} (h : ByF e W w v xs) : Kp W w Nul := by
 obtain ⟨_, _, _, k⟩ := h
 exact k
def nines (xs : List Nat) (k : Nat) : List Value := List.replicate k (.float .f64 4621256167635550208) ++ fvs (xs.drop k)
theorem nines_zero (xs : List Nat) : nines xs 0 = fvs xs := by unfold nines; simp
theorem nines_get (xs : List Nat) (k x : Nat) (h : xs[k]? = some x) : (nines xs k)[k]? = some (.float .f64 x) := by
 unfold nines fvs
 rw [List.getElem?_append_right (by simp), List.length_replicate, Nat.sub_self, List.getElem?_map, List.getElem?_drop, Nat.add_zero, h]
 rfl
theorem nines_set (xs : List Nat) (k x : Nat) (h : xs[k]? = some x) : (nines xs k).set k (.float .f64 4621256167635550208) = nines xs (k + 1) := by
 have hl := (List.getElem?_eq_some_iff.1 h).1
 have hd : xs.drop k = x :: xs.drop (k + 1) := by rw [List.drop_eq_getElem_cons hl, (List.getElem?_eq_some_iff.1 h).2]
 unfold nines fvs
 rw [hd, List.set_append_right _ _ (by simp), List.length_replicate, Nat.sub_self, List.map_cons, List.set_cons_zero, List.replicate_succ', List.append_assoc]
 rfl
theorem hm_no (n s : Nat) (k : List UInt8) (f : Nat → Nat) (h : (hmN n s).2 ≠ 0) : (nums s k (hmN n s).1).map f = [] := by
 rcases hm_case n s with ⟨h1, _⟩ | ⟨h1, _⟩ | ⟨_, h2, _⟩
 ·rw [h1]; rfl
 ·rw [h1]; rfl
 ·exact absurd h2 h
theorem hm_len (n s : Nat) (k : List UInt8) (f : Nat → Nat) : ((nums s k (hmN n s).1).map f).length ≤ 65536 := by
 rw [List.length_map, nums_len]
 rcases hm_case n s with ⟨h1, _⟩ | ⟨h1, _⟩ | ⟨h1, _, _, h4, _⟩
 ·rw [h1]; omega
 ·rw [h1]; omega
 ·rw [h1]; exact h4
structure Four (t : ByteArray) (e1 e2 : Nat) (xs ys : List Nat) : Prop where
 ps : ∀ W, Calls Tryz.prog 18 #[.string t] W fun e w' => ∃ p, e = .returned (.tuple #[.slice p xs.length xs.length, .int .i64 (e1 : Nat)]) ∧ FrQ W w' p xs
 rs : ∀ W, Calls Tryz.prog 19 #[.string t] W fun e w' => ∃ v, e = .returned (.tuple #[v, .int .i64 (e1 : Nat)]) ∧ ByF 80 W w' v (wdv xs)
 pd : ∀ W, Calls Tryz.prog 20 #[.string t] W fun e w' => ∃ p, e = .returned (.tuple #[.slice p ys.length ys.length, .int .i64 (e2 : Nat)]) ∧ FrQ W w' p ys
 rd : ∀ W, Calls Tryz.prog 21 #[.string t] W fun e w' => ∃ v, e = .returned (.tuple #[v, .int .i64 (e2 : Nat)]) ∧ ByF 80 W w' v (wdv ys)
 lx : xs.length ≤ 65536
 ly : ys.length ≤ 65536
theorem four24 (b : List UInt8) (hb : b.length ≤ 9223372036854775807) : ∃ e1 e2 xs ys, Four ⟨b.toArray⟩ e1 e2 xs ys :=
 ⟨(hmN b.length 4).2, (hmN b.length 8).2, (nums 4 b (hmN b.length 4).1).map wdN, (nums 8 b (hmN b.length 8).1).map one,
  fun W => (fromS_at b hb W).mono fun _ _ h => FrQ.of h (hm_no _ _ _ _), fun W => rfromS_at b hb W, fun W => (fromD_at b hb W).mono fun _ _ h => FrQ.of h (hm_no _ _ _ _), fun W => rfromD_at b hb W, hm_len _ _ _ _, hm_len _ _ _ _⟩
theorem i_lt3 {i : Nat} (h : i < 3) : (i : Int) < 3 := by omega
theorem k_wr {k m : Nat} (h : k < m ∧ m ≤ 65536) : wrap64 ((k : Int) + 1) = ((k + 1 : Nat) : Int) := by unfold wrap64; omega
theorem k_me {k m : Nat} (h : k < m ∧ m ≤ 65536) : ((m : Int) - ((k + 1 : Nat) : Int)).toNat < ((m : Int) - (k : Int)).toNat := by omega
set_option maxRecDepth 40000 in
set_option maxHeartbeats 16000000 in
theorem lists24 (vl : Value) (zs : List Nat) (mode : Int) (bt : List UInt8) (w : World) (hl : UsAt w vl zs) (h8 : (zs.length + 2) * 8 ≤ 140737488355328) (hbt : bt.length ≤ 9223372036854775807) (U : VS w) (hs : Sh w) (hT : Tab w)
  (hnar : okMode mode = true → ∀ (x : Nat) (w : World), x < 18446744073709551616 → Calls Tryz.prog 46 #[.int .u64 (x : Nat), .int .i64 mode] w fun e w' => (∃ o u z, e = .returned (.tuple #[.int .u32 (sW mode x : Nat), .agg #[.bool (sI mode x), .bool o, .bool u], .int .i64 z])) ∧ Kp w w' Nul) :
  Calls Tryz.prog 5 #[vl, .int .i64 mode, .string ⟨bt.toArray⟩] w fun e w' => e = .returned (.bool true) ∧ Kp w w' Nul := by
 have HKn : Hid (∀ wq, Kp w wq Nul → Calls Tryz.prog 10 #[] wq fun e w' => e = .returned (.bool true) ∧ Kp wq w' Nul) := fun wq k => known24 wq (U.kp k) (hs.kp k (fun x => x)) (fun j hj => k.cellN (hT j hj) (fun x => x))
 have HFl : Hid (Calls Tryz.prog 13 #[vl] w fun e w' => e = .returned (.slice (some ⟨w.heap.size, 0, none⟩) (zs.length + 2) (zs.length + 2)) ∧ Blk w' w.heap.size (fvs (lent zs)) 50 ∧ Kp w w' Nul) := floats_at vl zs w hl h8
 have HFA : Hid (∀ wq, Blk wq w.heap.size (fvs (lent zs)) 50 → FlAt wq (.slice (some ⟨w.heap.size, 0, none⟩) zs.length (zs.length + 2)) zs) := fun wq hb => ⟨_, _, rfl, fun i x hx => by
  obtain ⟨_, _, _, hd⟩ := hl
  refine ⟨(hd.2 i x hx).1, w.heap.size, 0, rfl, hb.lt, ?_⟩
  rw [Nat.zero_add]
  exact hb.cell (by unfold fvs; rw [List.getElem?_map, lent_get zs i x hx]; rfl)⟩
 have HSg : Hid (∀ wq, Kp w wq Nul → Blk wq w.heap.size (fvs (lent zs)) 50 → Calls Tryz.prog 14 #[.slice (some ⟨w.heap.size, 0, none⟩) zs.length (zs.length + 2), .int .i64 mode] wq fun e w' => e = .returned (.tuple #[.string ⟨(sgS mode zs).toArray⟩, .int .i64 (sgN mode zs : Nat), .int .i64 (sgE mode zs.length : Nat)]) ∧ Kp wq w' Nul) := fun wq k hb => singles_at _ zs mode wq (HFA.out wq hb) (fun j hj => k.cellN (hT j hj) (fun x => x))
 have HRg : Hid (∀ wq, Kp w wq Nul → Calls Tryz.prog 15 #[vl, .int .i64 mode] wq fun e w' => e = .returned (.tuple #[.string ⟨(sgS mode zs).toArray⟩, .int .i64 (sgN mode zs : Nat), .int .i64 (sgE mode zs.length : Nat)]) ∧ Kp wq w' Nul) := fun wq k => rsingles_core vl zs mode wq (hl.kp k) hnar
 have HDb : Hid (∀ wq, Blk wq w.heap.size (fvs (lent zs)) 50 → Calls Tryz.prog 16 #[.slice (some ⟨w.heap.size, 0, none⟩) zs.length (zs.length + 2)] wq fun e w' => e = .returned (.tuple #[.string ⟨(dbS zs).toArray⟩, .int .i64 (dbE zs.length : Nat)]) ∧ Kp wq w' Nul) := fun wq hb => doubles_at _ zs wq (HFA.out wq hb)
 have HRd : Hid (∀ wq, Kp w wq Nul → Calls Tryz.prog 17 #[vl] wq fun e w' => e = .returned (.tuple #[.string ⟨(dbS zs).toArray⟩, .int .i64 (dbE zs.length : Nat)]) ∧ Kp wq w' Nul) := fun wq k => rdoubles_at vl zs wq (hl.kp k)
 have HKe : Hid (∀ wq, Kp w wq Nul → Blk wq w.heap.size (fvs (lent zs)) 50 → Calls Tryz.prog 23 #[.slice (some ⟨w.heap.size, 0, none⟩) (zs.length + 2) (zs.length + 2), vl] wq fun e w' => e = .returned (.bool true) ∧ Kp wq w' Nul) := fun wq k hb => kept_at w.heap.size vl zs wq hb (hl.kp k) h8
 have HBi : Hid (∀ v u (xs : List Nat) wq, FsAt wq v xs → WsAt wq u xs → xs.length ≤ 65536 → Calls Tryz.prog 22 #[v, u] wq fun e w' => e = .returned (.bool true) ∧ Kp wq w' Nul) := fun v u xs wq h1 h2 h3 => bits_at v u xs wq h1 h2 h3
 have hF1 := four24 bt hbt
 have hF2 := four24 (sgS mode zs) (by
  unfold sgS
  split
  ·rename_i h
   rw [snB_len]
   unfold sgE at h
   split at h
   ·split at h
    ·cases h
    ·omega
   ·cases h
  ·simp)
 have hF3 := four24 (dbS zs) (by
  unfold dbS
  split
  ·rename_i h
   rw [dbB_len]
   unfold dbE at h
   split at h
   ·cases h
   ·omega
  ·simp)
 obtain ⟨SA, hSA⟩ : ∃ SA : ByteArray, ⟨(sgS mode zs).toArray⟩ = SA := ⟨_, rfl⟩
 obtain ⟨SB, hSB⟩ : ∃ SB : ByteArray, ⟨(dbS zs).toArray⟩ = SB := ⟨_, rfl⟩
 obtain ⟨SC, hSC⟩ : ∃ SC : ByteArray, ⟨bt.toArray⟩ = SC := ⟨_, rfl⟩
 obtain ⟨nz, hnz⟩ : ∃ nz, sgN mode zs = nz := ⟨_, rfl⟩
 obtain ⟨ez, hez⟩ : ∃ ez, sgE mode zs.length = ez := ⟨_, rfl⟩
 obtain ⟨ed, hed⟩ : ∃ ed, dbE zs.length = ed := ⟨_, rfl⟩
 rw [hSA, hnz, hez] at HSg HRg
 rw [hSA] at hF2
 rw [hSB] at hF3
 rw [hSC] at hF1
 rw [hSB, hed] at HDb HRd
 rw [hSC]
 have HFo : Hid (∀ (i : Nat) t, [SC, SA, SB][i]? = some t → ∃ e1 e2 xs ys, Four t e1 e2 xs ys) := fun i t hi => by
  match i, hi with
  | 0, hi => simp at hi; subst hi; exact hF1
  | 1, hi => simp at hi; subst hi; exact hF2
  | 2, hi => simp at hi; subst hi; exact hF3
 obtain ⟨p, c, rfl, hcp, _⟩ := hl
 obtain ⟨n, hn⟩ : ∃ n, zs.length = n := ⟨_, rfl⟩
 rw [hn] at HFl HSg HDb HKe HRg HRd hcp ⊢
 have hn2 : (n : Int) ≤ ((n + 2 : Nat) : Int) := by omega
 clear hF1 hF2 hF3 hSA hSB hSC hnz hez hed HFA h8 hbt U hs hT hnar hn hcp
 go_enter Tryz.func5, Tryz.ntmps5
 go_wp2_with fail
 refine HFl.out.mono ?_
 rintro e w1 ⟨rfl, hb1, k1⟩
 have HB1 : Hid (Blk w1 w.heap.size (fvs (lent zs)) 50) := hb1
 have K1 : Hid (Kp w w1 Nul) := k1
 clear hb1 k1 HFl
 go_wp2_with fail
 refine (HSg.out w1 K1.out HB1.out).mono ?_
 rintro e w2 ⟨rfl, k2⟩
 have HB2 : Hid (Blk w2 w.heap.size (fvs (lent zs)) 50) := HB1.out.kp k2 (fun x => x)
 have K2 : Hid (Kp w w2 Nul) := K1.out.trans k2
 clear k2 HB1 K1 HSg
 go_wp2_with fail
 refine (HRg.out w2 K2.out).mono ?_
 rintro e w3 ⟨rfl, k3⟩
 have HB3 : Hid (Blk w3 w.heap.size (fvs (lent zs)) 50) := HB2.out.kp k3 (fun x => x)
 have K3 : Hid (Kp w w3 Nul) := K2.out.trans k3
 clear k3 HB2 K2 HRg
 go_wp2_with fail
 refine (HDb.out w3 HB3.out).mono ?_
 rintro e w4 ⟨rfl, k4⟩
 have HB4 : Hid (Blk w4 w.heap.size (fvs (lent zs)) 50) := HB3.out.kp k4 (fun x => x)
 have K4 : Hid (Kp w w4 Nul) := K3.out.trans k4
 clear k4 HB3 K3 HDb
 go_wp2_with fail
 refine (HRd.out w4 K4.out).mono ?_
 rintro e w5 ⟨rfl, k5⟩
 have HB5 : Hid (Blk w5 w.heap.size (fvs (lent zs)) 50) := HB4.out.kp k5 (fun x => x)
 have K5 : Hid (Kp w w5 Nul) := K4.out.trans k5
 clear k5 HB4 K4 HRd
 obtain ⟨W6, hW6⟩ : ∃ W6, w5.alloc (.cells #[.string SC, .string SA, .string SB] 9) = W6 := ⟨_, rfl⟩
 have HW6 : Hid (w5.alloc (.cells #[.string SC, .string SA, .string SB] 9) = W6) := hW6
 have HT6 : Hid (Blk W6 w5.heap.size [.string SC, .string SA, .string SB] 9) := by show Blk _ _ _ _; rw [← hW6]; exact Blk.new w5 _ _
 have HB6 : Hid (Blk W6 w.heap.size (fvs (lent zs)) 50) := by show Blk _ _ _ _; rw [← hW6]; exact HB5.out.alloc _
 have K6 : Hid (Kp w W6 Nul) := by show Kp _ _ _; rw [← hW6]; exact K5.out.alloc _
 clear hW6 HB5 K5
 go_wp2_with (first | (rw [HW6.out]) | fail)
 go_loopw [19] (fun s19 wr => ∃ i : Nat, i ≤ 3 ∧ s19 = .int .i64 i ∧ Kp W6 wr Nul) (fun s19 _ => (3 - intOf s19).toNat)
 case atStart => exact ⟨0, Nat.zero_le _, by simp, Kp.refl _ _⟩
 case round =>
  obtain ⟨i, hi, rfl, hkr⟩ := hrel
  have HKR : Hid (Kp W6 wr Nul) := hkr
  clear hkr
  by_cases hlt : i < 3
  ·have hlt' : (i : Int) < 3 := i_lt3 hlt
   obtain ⟨t, ht⟩ : ∃ t, [SC, SA, SB][i]? = some t := ⟨_, List.getElem?_eq_getElem (by simpa using hlt)⟩
   obtain ⟨e1, e2, xs, ys, hFo⟩ := HFo.out i t ht
   have HF : Hid (Four t e1 e2 xs ys) := hFo
   have HTc : Hid (∀ wq S, Kp W6 wq S → ¬ S w5.heap.size → wq.cell? ⟨w5.heap.size, i, none⟩ = some (.string t)) := fun wq S k hS => (HT6.out.kp k hS).cell (by
    show ([SC, SA, SB].map Value.string)[i]? = _
    rw [List.getElem?_map, ht]
    rfl)
   have c0 : wr.cell? ⟨w5.heap.size, i, none⟩ = some (.string t) := HTc.out wr Nul HKR.out (fun x => x)
   have HI : Hid (i < 3) := hlt
   have HT5 : Hid (w5.heap.size < W6.heap.size) := HT6.out.lt
   have hi0 : (0 : Int) ≤ (i : Int) := by omega
   clear ht hFo hlt hi HFo
   go_wp2_with fail
   refine (HF.out.ps wr).mono ?_
   rintro e wa ⟨pa, rfl, hq⟩
   have HQ1 : Hid (FrQ wr wa pa xs) := hq
   have KA : Hid (Kp W6 wa Nul) := HKR.out.trans hq.kp
   clear c0 hq
   have c0 : wa.cell? ⟨w5.heap.size, i, none⟩ = some (.string t) := HTc.out wa Nul KA.out (fun x => x)
   go_wp2_with fail
   refine (HF.out.rs wa).mono ?_
   rintro e wb ⟨vb, rfl, hq⟩
   have HQ2 : Hid (ByF 80 wa wb vb (wdv xs)) := hq
   have KB : Hid (Kp W6 wb Nul) := KA.out.trans hq.is
   clear c0 hq
   have c0 : wb.cell? ⟨w5.heap.size, i, none⟩ = some (.string t) := HTc.out wb Nul KB.out (fun x => x)
   go_wp2_with fail
   refine (HF.out.pd wb).mono ?_
   rintro e wc ⟨pc, rfl, hq⟩
   have HQ3 : Hid (FrQ wb wc pc ys) := hq
   have KC : Hid (Kp W6 wc Nul) := KB.out.trans hq.kp
   clear c0 hq
   have c0 : wc.cell? ⟨w5.heap.size, i, none⟩ = some (.string t) := HTc.out wc Nul KC.out (fun x => x)
   go_wp2_with fail
   refine (HF.out.rd wc).mono ?_
   rintro e wd ⟨vd, rfl, hq⟩
   have HQ4 : Hid (ByF 80 wc wd vd (wdv ys)) := hq
   have KD : Hid (Kp W6 wd Nul) := KC.out.trans hq.is
   clear c0 hq
   go_wp2_with fail
   refine (HBi.out _ _ xs wd (HQ1.out.fs ((HQ2.out.is.trans HQ3.out.kp).trans HQ4.out.is) (fun _ _ x => x)) (HQ2.out.ws (HQ3.out.kp.trans HQ4.out.is) (fun _ _ x => x)) HF.out.lx).mono ?_
   rintro e wf ⟨rfl, hkf⟩
   have KF : Hid (Kp wd wf Nul) := hkf
   clear hkf
   go_wp2_with fail
   refine (HBi.out _ _ ys wf (HQ3.out.fs (HQ4.out.is.trans KF.out) (fun _ _ x => x)) (HQ4.out.ws KF.out (fun _ _ x => x)) HF.out.ly).mono ?_
   rintro e wg ⟨rfl, hkg⟩
   have KG : Hid (Kp wd wg Nul) := KF.out.trans hkg
   clear hkg KF
   go_wp2_with fail
   go_loopw [28] (fun s28 wq => ∃ k : Nat, k ≤ xs.length ∧ s28 = .int .i64 k ∧ Kp wg wq (fun b => pa = some ⟨b, 0, none⟩) ∧ (xs ≠ [] → ∃ b, pa = some ⟨b, 0, none⟩ ∧ Blk wq b (nines xs k) 50)) (fun s28 _ => ((xs.length : Int) - intOf s28).toNat)
   case atStart =>
    refine ⟨0, Nat.zero_le _, by simp, Kp.refl _ _, fun h => ?_⟩
    obtain ⟨b, e, _, _, bl⟩ := HQ1.out.row h
    refine ⟨b, e, ?_⟩
    rw [nines_zero]
    exact bl.kp (((HQ2.out.is.trans HQ3.out.kp).trans HQ4.out.is).trans KG.out) (fun x => x)
   case round =>
    obtain ⟨k, hk, rfl, hkl, hrow⟩ := hrel
    have HKL : Hid (Kp wg wr (fun b => pa = some ⟨b, 0, none⟩)) := hkl
    have HRow : Hid (xs ≠ [] → ∃ b, pa = some ⟨b, 0, none⟩ ∧ Blk wr b (nines xs k) 50) := hrow
    clear hkl hrow
    by_cases hkt : k < xs.length
    ·have hkt' : (k : Int) < (xs.length : Int) := by omega
     obtain ⟨x, hx⟩ : ∃ x, xs[k]? = some x := ⟨_, List.getElem?_eq_getElem hkt⟩
     obtain ⟨b, hpa, hbl⟩ := HRow.out (fun e => by rw [e] at hkt; simp at hkt)
     have HPA : Hid (pa = some ⟨b, 0, none⟩) := hpa
     have cc : wr.cell? ⟨b, k, none⟩ = some (.float .f64 x) := hbl.cell (nines_get xs k x hx)
     have cf : wr.frozen? ⟨b, k, none⟩ = false := hbl.froz k
     have HNX : Hid (Kp wg (wr.setCell ⟨b, k, none⟩ (.float .f64 4621256167635550208)) (fun c => some (⟨b, 0, none⟩ : Addr) = some ⟨c, 0, none⟩) ∧ Blk (wr.setCell ⟨b, k, none⟩ (.float .f64 4621256167635550208)) b (nines xs (k + 1)) 50) := by
      refine ⟨?_, ?_⟩
      ·have := HKL.out.setCell ⟨b, k, none⟩ (.float .f64 4621256167635550208) (.inr hpa)
       rw [hpa] at this
       exact this
      ·rw [← nines_set xs k x hx]
       exact hbl.set k _
     have HKM : Hid (k < xs.length ∧ xs.length ≤ 65536) := ⟨hkt, HF.out.lx⟩
     have hk0 : (0 : Int) ≤ (k : Int) := by omega
     clear hx hbl hkt hk HRow HKL
     subst hpa
     go_wp2_with fail
     rw [k_wr HKM.out]
     go_roundw
     case rel => exact ⟨k + 1, HKM.out.1, rfl, HNX.out.1, fun _ => ⟨b, rfl, HNX.out.2⟩⟩
     case measure => simp only [intOf]; exact k_me HKM.out
    ·have hke : k = xs.length := by omega
     subst hke
     have KL : Hid (Kp W6 wr Nul) := (KD.out.trans KG.out).trans' HKL.out (fun j hj e => by have h1 := (HQ1.out.low j e).1; have h2 := HKR.out.size; omega)
     have c0 : wr.cell? ⟨w5.heap.size, i, none⟩ = some (.string t) := HTc.out wr Nul KL.out (fun x => x)
     clear hk hkt HRow
     go_wp2_with fail
     refine (HF.out.ps wr).mono ?_
     rintro e wi ⟨pi, rfl, hq⟩
     have HQ5 : Hid (FrQ wr wi pi xs) := hq
     have KI : Hid (Kp wg wi (fun b => pa = some ⟨b, 0, none⟩)) := HKL.out.trans hq.kp.of_nul
     have KI6 : Hid (Kp W6 wi Nul) := KL.out.trans hq.kp
     clear c0 hq
     go_wp2_with fail
     refine (HBi.out _ _ xs wi (HQ5.out.fs (Kp.refl wi Nul) (fun _ _ x => x)) (HQ2.out.ws (((HQ3.out.kp.trans HQ4.out.is).trans KG.out).of_nul.trans KI.out) (fun b hb e => by have h1 := (HQ1.out.low b e).2; omega)) HF.out.lx).mono ?_
     rintro e wj ⟨rfl, hkj⟩
     have KJ : Hid (Kp wi wj Nul) := hkj
     clear hkj
     go_wp2_with fail
     refine (HBi.out _ _ ys wj (HQ3.out.fs (((HQ4.out.is.trans KG.out).of_nul.trans KI.out).trans KJ.out.of_nul) (fun b hb e => by have h1 := (HQ1.out.low b e).2; have h2 := (HQ3.out.low b hb).1; have h3 := HQ2.out.is.size; omega)) (HQ4.out.ws ((KG.out.of_nul.trans KI.out).trans KJ.out.of_nul) (fun b hb e => by have h1 := (HQ1.out.low b e).2; have h2 := HQ2.out.is.size; have h3 := HQ3.out.kp.size; omega)) HF.out.ly).mono ?_
     rintro e wk ⟨rfl, hkk⟩
     have KK : Hid (Kp W6 wk Nul) := (KI6.out.trans KJ.out).trans hkk
     clear hkk
     go_wp2_with fail
     go_roundw
     case rel => exact ⟨i + 1, HI.out, by go_num, KK.out⟩
     case measure => simp only [intOf]; have := HI.out; omega
  ·have hie : i = 3 := by omega
   subst hie
   clear hi hlt
   go_wp2_with fail
   refine (HKe.out wr (K6.out.trans HKR.out) (HB6.out.kp HKR.out (fun x => x))).mono ?_
   rintro e w7 ⟨rfl, k7⟩
   have K7 : Hid (Kp w w7 Nul) := (K6.out.trans HKR.out).trans k7
   clear k7
   go_wp2_with fail
   refine (HKn.out w7 K7.out).mono ?_
   rintro e w8 ⟨rfl, k8⟩
   have K8 : Hid (Kp w w8 Nul) := K7.out.trans k8
   clear k8
   go_wp2_with fail
   go_ret
   exact ⟨rfl, K8.out⟩
end Go.Proofs.YtnceajanlnnfoaaGreatDoor
