/- Packed, the document's: list, FromSingles, FromDoubles (quadrilleref24). Packed, the document's Doubles, Singles (quadrilleref24). Packed, the law's: floats, kept, bits (quadrillelaw24). Packed, the law's: kept, bits (quadrillelaw24). -/
import Derived.Test.YtnceajanlnnfoaaGreatDoorQmPoa
import Derived.Test.YtnceajanlnnfoaaGreatDoorQmPmb
import Derived.Deep.QuietTactic
namespace Go.Proofs.YtnceajanlnnfoaaGreatDoor
open Go.RowKit Go.Shelf
theorem infoU64 : ∃ i, Tryz.prog.info? 80 = some i ∧ i.zero = some (.int .u64 0) ∧ i.size = 1 ∧ i.bytes = 8 := by
 have h : (Tryz.prog.info? 80).map (fun i => (i.zero, i.size, i.bytes)) = some (some (.int .u64 0), 1, 8) := by kernel_rfl
 obtain ⟨i, h1, h2⟩ := Option.map_eq_some_iff.1 h
 obtain ⟨h3, h4⟩ := Prod.mk.inj h2
 obtain ⟨h5, h6⟩ := Prod.mk.inj h4
 exact ⟨i, h1, h3, h5, h6⟩
def wdv (l : List Nat) : List Value := l.map fun x => .int .u64 (x : Nat)
theorem wdv_len (l : List Nat) : (wdv l).length = l.length := by unfold wdv; rw [List.length_map]
theorem wdv_get (l : List Nat) (i x : Nat) (h : l[i]? = some x) : (wdv l)[i]? = some (.int .u64 (x : Nat)) := by unfold wdv; rw [List.getElem?_map, h]; rfl
theorem wdv_take (l : List Nat) (k x : Nat) (h : l[k]? = some x) : wdv (l.take (k + 1)) = wdv (l.take k) ++ [.int .u64 (x : Nat)] := by
 unfold wdv
 rw [List.take_add_one, h, List.map_append]
 simp
theorem hm_case (n s : Nat) : ((hmN n s).1 = 0 ∧ (hmN n s).2 = 3 ∧ n % s ≠ 0) ∨ ((hmN n s).1 = 0 ∧ (hmN n s).2 = 2 ∧ n % s = 0 ∧ 65536 < n / s) ∨ ((hmN n s).1 = n / s ∧ (hmN n s).2 = 0 ∧ n % s = 0 ∧ n / s ≤ 65536 ∧ n = s * (n / s)) := by
 unfold hmN
 by_cases q1 : n % s = 0
 ·rw [if_pos q1]
  by_cases q2 : 65536 < n / s
  ·rw [if_pos q2]; exact .inr (.inl ⟨rfl, rfl, q1, q2⟩)
  ·rw [if_neg q2]
   refine .inr (.inr ⟨rfl, rfl, q1, by omega, ?_⟩)
   have := Nat.div_add_mod n s
   omega
 ·rw [if_neg q1]; exact .inl ⟨rfl, rfl, q1⟩
set_option maxRecDepth 40000 in
set_option maxHeartbeats 8000000 in
theorem rlist_at (b : List UInt8) (k : Nat) (hk : k = 4 ∨ k = 8) (hb : b.length ≤ 9223372036854775807) (w : World) :
  Calls Tryz.prog 53 #[.string ⟨b.toArray⟩, .int .i64 k] w fun e w' => ∃ v, e = .returned (.tuple #[v, .int .i64 ((hmN b.length k).2 : Nat)]) ∧ ByF 80 w w' v (wdv (nums k b (hmN b.length k).1)) := by
 have hk0 : 0 < k := by omega
 have hsz : ((ByteArray.mk b.toArray).size : Int) = (b.length : Int) := by show ((b.toArray.size : Nat) : Int) = _; rw [List.size_toArray]
 have hkz : ((k : Int) == 0) = false := by simp; omega
 have hkn : ¬ (k : Int) = 0 := by omega
 have hkm : ¬ (k : Int) = -1 := by omega
 have hl0 : (0 : Int) ≤ (b.length : Int) := by omega
 have htm : (b.length : Int) % (k : Int) = ((b.length % k : Nat) : Int) := by simp
 have hdq : b.length / k ≤ b.length := Nat.div_le_self _ _
 have htd : wrap64 ((b.length : Int) / (k : Int)) = ((b.length / k : Nat) : Int) := by
  rw [show (b.length : Int) / (k : Int) = ((b.length / k : Nat) : Int) by simp]
  clear hsz htm
  generalize b.length / k = d at hdq ⊢
  unfold wrap64
  omega
 clear hdq
 rcases hm_case b.length k with ⟨h1, h2, h3⟩ | ⟨h1, h2, h3, h4⟩ | ⟨h1, h2, h3, h4, h5⟩
 ·rw [h1, h2]
  have h3' : ((b.length : Int) % (k : Int) != 0) = true := by rw [htm]; simp; omega
  clear h1 h2 h3 hk hb hk0 htm
  go_enter Tryz.func53, Tryz.ntmps53
  go_wp2_with fail
  refine bodyPost_ret (results_tmp2 rfl _ _ _) rfl ?_
  exact ⟨_, rfl, ByF.nil _ _⟩
 ·rw [h1, h2]
  have h3' : ((b.length : Int) % (k : Int) != 0) = false := by rw [htm]; simp; omega
  have h4' : (65536 : Int) < ((b.length / k : Nat) : Int) := by omega
  clear h1 h2 h3 h4 hk hb hk0 htm
  go_enter Tryz.func53, Tryz.ntmps53
  go_wp2_with fail
  refine bodyPost_ret (results_tmp2 rfl _ _ _) rfl ?_
  exact ⟨_, rfl, ByF.nil _ _⟩
 ·rw [h1, h2]
  obtain ⟨n, hn⟩ : ∃ n, b.length / k = n := ⟨_, rfl⟩
  rw [hn] at h4 h5 htd ⊢
  have h3' : ((b.length : Int) % (k : Int) != 0) = false := by rw [htm]; simp; omega
  have h4' : ¬ (65536 : Int) < (n : Int) := by omega
  have HBL : Hid (b.length = k * n ∧ n ≤ 65536 ∧ 0 < k ∧ k ≤ 8 ∧ b.length ≤ 9223372036854775807) := ⟨h5, h4, hk0, by omega, hb⟩
  obtain ⟨i0, hi, hz0, hz1, hz2⟩ := infoU64
  obtain ⟨xs, hxs⟩ : ∃ xs, nums k b n = xs := ⟨_, rfl⟩
  have HX : Hid (∀ i, i < n → xs[i]? = some (unle ((b.drop (k * i)).take k))) := fun i hi => by rw [← hxs]; exact nums_get k n i b hi
  have HXL : Hid (xs.length = n) := by show _ = _; rw [← hxs]; exact nums_len k n b
  rw [hxs]
  obtain ⟨W1, hW1⟩ : ∃ W1, w.alloc (.cells #[.string ⟨b.toArray⟩, .int .i64 0, .bool false] 152) = W1 := ⟨_, rfl⟩
  have HW1 : Hid (w.alloc (.cells #[.string ⟨b.toArray⟩, .int .i64 0, .bool false] 152) = W1) := hW1
  have HR1 : Hid (Rs W1 w.heap.size b 0 false) := by show Blk _ _ _ _; rw [← hW1]; exact Blk.new w _ _
  have HK1 : Hid (Kp w W1 Nul) := by show Kp _ _ _; rw [← hW1]; exact (Kp.refl _ _).alloc _
  clear h1 h2 h3 h4 h5 hk hb hk0 htm hn hxs hW1
  go_enter Tryz.func53, Tryz.ntmps53
  go_wp2_with (first | (rw [HW1.out]) | fail)
  go_loopw [7] (fun s7 wr => ∃ i : Nat, i ≤ n ∧ Rs wr w.heap.size b (k * i) false ∧ (∃ g, By 80 wr g s7 (wdv (xs.take i)) ∧ (∀ b, g = some b → w.heap.size + 1 ≤ b)) ∧ Kp w wr Nul) (fun _ wr => match wr.cell? ⟨w.heap.size, 1, none⟩ with | some (.int .i64 z) => ((b.length : Int) - z).toNat | _ => 0)
  case atStart => exact ⟨0, Nat.zero_le _, HR1.out, ⟨none, .none, fun _ h => by cases h⟩, HK1.out⟩
  case round =>
   obtain ⟨i, hi', hr, ⟨g, hby, hg⟩, hkp⟩ := hrel
   have HR : Hid (Rs wr w.heap.size b (k * i) false) := hr
   have HBY : Hid (By 80 wr g u7 (wdv (xs.take i))) := hby
   have HG : Hid (∀ b, g = some b → w.heap.size + 1 ≤ b) := hg
   have HKP : Hid (Kp w wr Nul) := hkp
   have hc1 : wr.cell? ⟨w.heap.size, 1, none⟩ = some (.int .i64 ((k * i : Nat) : Int)) := hr.cell rfl
   have hc1' : wr.cell? ⟨w.heap.size, 1, none⟩ = some (.int .i64 ((k * i : Nat) : Int)) := hc1
   clear hr hby hg hkp
   by_cases hlt : i < n
   ·have hle : k * (i + 1) ≤ k * n := Nat.mul_le_mul_left _ hlt
    have hex : k * (i + 1) = k * i + k := Nat.mul_succ _ _
    have hso : smO b (k * i) k false = true := by
     unfold smO
     rw [Bool.not_false, Bool.true_and]
     exact decide_eq_true (by have := HBL.out.1; omega)
    have HN : Hid (Calls Tryz.prog 84 #[.pointer (some ⟨w.heap.size, 0, none⟩), .int .i64 k] wr fun e w' => e = .returned (.int .u64 (unle ((b.drop (k * i)).take k) : Nat)) ∧ Rs w' w.heap.size b (k * (i + 1)) false ∧ Kp wr w' (fun i => i = w.heap.size)) := by
     have := rnumR_at w.heap.size b (k * i) k false wr HR.out (by have := HBL.out.1; omega) HBL.out.2.2.2.2 HBL.out.2.2.2.1
     have e1 : smS b (k * i) k false = (b.drop (k * i)).take k := if_pos hso
     have e2 : smP b (k * i) k false = k * (i + 1) := by rw [hex]; exact if_pos hso
     rw [e1, e2, hso] at this
     exact this
    have hlt' : ((k * i : Nat) : Int) < (b.length : Int) := by have := HBL.out.1; have := HBL.out.2.2.1; omega
    have hx := HX.out i hlt
    have HTK : Hid (wdv (xs.take (i + 1)) = wdv (xs.take i) ++ [.int .u64 (unle ((b.drop (k * i)).take k) : Nat)]) := wdv_take xs i _ hx
    obtain ⟨x, hxx⟩ : ∃ x, unle ((b.drop (k * i)).take k) = x := ⟨_, rfl⟩
    rw [hxx] at HN HTK
    have HLT : Hid (i < n ∧ n ≤ 65536) := ⟨hlt, HBL.out.2.1⟩
    have HME : Hid (((b.length : Int) - ((k * (i + 1) : Nat) : Int)).toNat < ((b.length : Int) - ((k * i : Nat) : Int)).toNat) := by show _ < _; have := HBL.out.1; have := HBL.out.2.2.1; omega
    have HTL : Hid ((xs.take i).length ≤ i) := List.length_take_le _ _
    have hcc : ((k * i : Nat) : Int) = (k : Int) * (i : Int) := by push_cast; rfl
    clear hle hex hso hx hxx hlt hi' hcc
    obtain ⟨q, hq⟩ : ∃ q, k * i = q := ⟨_, rfl⟩
    rw [hq] at hc1 hc1' HME hlt'
    clear hq HR
    go_wp2_with fail
    refine HN.out.mono ?_
    rintro e w2 ⟨rfl, hr2, k2⟩
    have HR2 : Hid (Rs w2 w.heap.size b (k * (i + 1)) false) := hr2
    have HBY2 : Hid (By 80 w2 g u7 (wdv (xs.take i))) := HBY.out.kp k2 (fun c hc e => by have := HG.out c hc; omega)
    have HKP2 : Hid (Kp w w2 Nul) := HKP.out.trans' k2 (fun j hj e => by have e' : j = w.heap.size := e; omega)
    clear hr2 k2 HBY HKP HN
    go_wp2_with (at_builtin; refine wpList_append_by rfl (.tmp 28) (.tmp 32) 36 36 rfl 80 i0 (.int .u64 0) 8 Tryz.underlying36 hi hz0 hz1 hz2 rfl rfl rfl (HBY2.out.kp ((Kp.refl w2 Nul).alloc _) (fun _ _ x => x)) (src_one Tryz.underlying36 _ rfl w2) ?a1 ?a2 ?_)
    case a1 => rw [wdv_len]; have := HTL.out; have := HLT.out; simp only [List.length_singleton]; omega
    case a2 => rw [wdv_len]; have := HTL.out; have := HLT.out; simp only [List.length_singleton]; omega
    intro v' g' w3 hb' hap
    have HBY3 : Hid (∃ g, By 80 w3 g v' (wdv (xs.take (i + 1))) ∧ (∀ b, g = some b → w.heap.size + 1 ≤ b)) := by
     refine ⟨g', by rw [HTK.out]; exact hb', fun c hc => ?_⟩
     rcases hap.row with q | ⟨d, q, hd⟩
     ·exact HG.out c (q ▸ hc)
     ·rw [q] at hc
      injection hc with hc
      have h1 := HR2.out.lt
      rw [World.size_alloc] at hd
      omega
    have HR3 : Hid (Rs w3 w.heap.size b (k * (i + 1)) false) := (HR2.out.alloc _).kp hap.kp (fun e => by have := HG.out _ e; omega)
    have HKP3 : Hid (Kp w w3 Nul) := (HKP2.out.alloc _).trans' hap.kp (fun j hj e => by have := HG.out _ e; omega)
    have hc3 : w3.cell? ⟨w.heap.size, 1, none⟩ = some (.int .i64 ((k * (i + 1) : Nat) : Int)) := HR3.out.cell rfl
    have HC3 : Hid (w3.cell? ⟨w.heap.size, 1, none⟩ = some (.int .i64 ((k * (i + 1) : Nat) : Int))) := hc3
    clear hb' hap hc3
    go_wp2_with fail
    go_roundw
    case rel => exact ⟨i + 1, by have := HLT.out; omega, HR3.out, HBY3.out, HKP3.out⟩
    case measure => rw [HC3.out, hc1']; exact HME.out
   ·have hie : i = n := by omega
    subst hie
    have hlt' : ¬ ((k * i : Nat) : Int) < (b.length : Int) := by have := HBL.out.1; omega
    have HT : Hid (xs.take i = xs) := by show _ = _; rw [← HXL.out, List.take_length]
    have HF : Hid (ByF 80 w wr u7 (wdv xs)) := ⟨g, by have := HBY.out; rw [HT.out] at this; exact this, fun c hc => by have := HG.out c hc; omega, HKP.out⟩
    obtain ⟨q, hq⟩ : ∃ q, k * i = q := ⟨_, rfl⟩
    rw [hq] at hc1 hlt'
    clear hq hi' hlt hc1' HR
    go_wp2_with fail
    refine bodyPost_ret (results_tmp2 rfl _ _ _) rfl ?_
    exact ⟨_, rfl, HF.out⟩
end Go.Proofs.YtnceajanlnnfoaaGreatDoor
namespace Go.Proofs.YtnceajanlnnfoaaGreatDoor
open Go.RowKit Go.Shelf
def UsAt (w : World) (v : Value) (zs : List Nat) : Prop := ∃ p c, v = .slice p zs.length c ∧ zs.length ≤ c ∧ ∀ i x, zs[i]? = some x → x < 18446744073709551616 ∧ ∃ b o, p = some ⟨b, o, none⟩ ∧ b < w.heap.size ∧ w.cell? ⟨b, o + i, none⟩ = some (.int .u64 (x : Nat))
theorem UsAt.kp {w w' : World} {v : Value} {l : List Nat} (h : UsAt w v l) (k : Kp w w' Nul) : UsAt w' v l := by
 obtain ⟨p, c, hv, hl, hc⟩ := h
 refine ⟨p, c, hv, hl, fun i x hx => ?_⟩
 obtain ⟨h1, b, o, hp, hb, hcl⟩ := hc i x hx
 exact ⟨h1, b, o, hp, Nat.lt_of_lt_of_le hb k.size, k.cellN hcl (fun x => x)⟩
theorem run_str_by {w : World} {g : Option Nat} {v : Value} {l : List UInt8} (h : By 5 w g v (Lib.byteCells l)) : (convert 70 9 v).run Tryz.prog w = .ok (.string ⟨l.toArray⟩) w := by
 have h0 := h
 cases hf : h.form with
 | inl q =>
  obtain ⟨rfl, _, q2⟩ := q
  have hl : l = [] := by
   have := congrArg List.length q2
   rw [Lib.byteCells_length] at this
   exact List.length_eq_zero_iff.1 (by simpa using this)
  subst hl
  exact run_convert_bytes_nil w 70 5 Tryz.underlying70 Tryz.underlying5 0 0 9 Tryz.underlying9
 | inr q =>
  obtain ⟨b, c, rfl, _⟩ := q
  rw [Lib.byteCells_length] at h0 ⊢
  refine run_convert_bytes_back (P := Tryz.prog) w 70 9 5 ⟨b, 0, none⟩ c l Tryz.underlying70 Tryz.underlying5 Tryz.underlying9 (fun j hj => ?_)
  have hadd : (⟨b, 0, none⟩ : Addr).add j = ⟨b, j, none⟩ := by unfold Addr.add; split <;> simp_all
  rw [hadd]
  refine h0.cell j _ ?_
  unfold Lib.byteCells
  rw [List.getElem?_map, List.getElem?_eq_getElem hj]
  rfl
set_option maxRecDepth 40000 in
set_option maxHeartbeats 8000000 in
theorem rdoubles_at (v : Value) (l : List Nat) (w : World) (hv : UsAt w v l) :
  Calls Tryz.prog 17 #[v] w fun e w' => e = .returned (.tuple #[.string ⟨(dbS l).toArray⟩, .int .i64 (dbE l.length : Nat)]) ∧ Kp w w' Nul := by
 obtain ⟨p, c, rfl, hcp, hc⟩ := hv
 by_cases hl : 65536 < l.length
 ·have e0 : dbE l.length = 2 := if_pos hl
  have e1 : dbS l = [] := by unfold dbS; rw [if_neg (by rw [e0]; decide)]
  rw [e0, e1]
  have hl' : (65536 : Int) < (l.length : Int) := by omega
  clear e0 e1 hc hl hcp
  go_enter Tryz.func17, Tryz.ntmps17
  go_wp2_with fail
  refine bodyPost_ret (results_tmp2 rfl _ _ _) rfl ?_
  exact ⟨rfl, Kp.refl _ _⟩
 have e0 : dbE l.length = 0 := if_neg hl
 have e1 : dbS l = dbB l := by unfold dbS; rw [if_pos e0]
 rw [e0, e1]
 have hl' : ¬ (65536 : Int) < (l.length : Int) := by omega
 have HC : Hid (∀ i x, l[i]? = some x → x < 18446744073709551616 ∧ ∃ b o, p = some ⟨b, o, none⟩ ∧ b < w.heap.size ∧ w.cell? ⟨b, o + i, none⟩ = some (.int .u64 (x : Nat))) := hc
 obtain ⟨i8, hi8, hz8, hsz8, hby8⟩ := infoU8
 obtain ⟨n, hn⟩ : ∃ n, l.length = n := ⟨_, rfl⟩
 have HN : Hid (l.length = n ∧ n ≤ 65536) := ⟨hn, by omega⟩
 rw [hn] at hl' ⊢
 clear e0 e1 hc hl hn hcp
 go_enter Tryz.func17, Tryz.ntmps17
 go_wp2_with fail
 go_loopw [4, 5] (fun s4 s5 wr => ∃ i : Nat, i ≤ n ∧ s5 = .int .i64 i ∧ ByF 5 w wr s4 (Lib.byteCells (dbB (l.take i)))) (fun _ s5 _ => ((n : Int) - intOf s5).toNat)
 case atStart => exact ⟨0, Nat.zero_le _, by simp, ByF.nil _ _⟩
 case round =>
  obtain ⟨i, hi, rfl, g, hby, hg, hkp⟩ := hrel
  have HBY : Hid (By 5 wr g u4 (Lib.byteCells (dbB (l.take i)))) := hby
  have HG : Hid (∀ b, g = some b → w.heap.size ≤ b) := hg
  have HKP : Hid (Kp w wr Nul) := hkp
  clear hby hg hkp
  by_cases hlt : i < n
  ·have hlt' : (i : Int) < (n : Int) := by omega
   obtain ⟨x, hx⟩ : ∃ x, l[i]? = some x := ⟨_, List.getElem?_eq_getElem (by rw [HN.out.1]; exact hlt)⟩
   obtain ⟨hx1, b, o, rfl, hbl, hcl⟩ := HC.out i x hx
   have hcl' : wr.cell? ⟨b, o + i, none⟩ = some (.int .u64 (x : Nat)) := HKP.out.cellN hcl (fun x => x)
   have HTB : Hid (Lib.byteCells (dbB (l.take (i + 1))) = Lib.byteCells (dbB (l.take i)) ++ Lib.byteCells (le 8 (one x))) := by show _ = _; rw [dbB_take l i x hx, bc_app]
   have HO : Hid (∀ w, Calls Tryz.prog 48 #[.int .u64 (x : Nat)] w fun e w' => e = .returned (.int .u64 (one x : Nat)) ∧ w' = w) := fun w => by
    have := rone_any (x : Int) (by show (0 : Int) ≤ (x : Int); omega) (by show (x : Int) < 18446744073709551616; omega) w
    rw [Int.toNat_natCast] at this
    exact this
   have HNu : Hid (∀ w, Calls Tryz.prog 35 #[.int .u64 (one x : Nat), .int .i64 8] w fun e w' => ∃ v, e = .returned v ∧ ByF 5 w w' v (Lib.byteCells (le 8 (one x)))) := fun w => rnum24_at (one x) 8 (one_lt x hx1) (by decide) w
   have HL1 : Hid ((Lib.byteCells (dbB (l.take i))).length ≤ 524288) := by show _ ≤ _; rw [Lib.byteCells_length, dbB_len, List.length_take]; have := HN.out; omega
   have HLT : Hid (i < n ∧ n ≤ 65536) := ⟨hlt, HN.out.2⟩
   have hi0 : (0 : Int) ≤ (i : Int) := by omega
   have hib : (i : Int) + 1 ≤ 9223372036854775807 := by have := HN.out.2; omega
   have HL2 : Hid ((Lib.byteCells (le 8 (one x))).length = 8) := by show _ = _; rw [Lib.byteCells_length, le_len]
   obtain ⟨q, hq⟩ : ∃ q, one x = q := ⟨_, rfl⟩
   rw [hq] at HTB HO HNu HL2
   clear hx hx1 hbl hcl hlt hi hq
   go_wp2_with fail
   refine (HO.out _).mono ?_
   rintro e w1 ⟨rfl, hz⟩
   replace hz := hz.symm
   subst hz
   go_wp2_with fail
   refine (HNu.out _).mono ?_
   rintro e w2 ⟨v2, rfl, g2, hb2, hg2, hk2⟩
   have HB2 : Hid (By 5 w2 g2 v2 (Lib.byteCells (le 8 q))) := hb2
   have HBY2 : Hid (By 5 w2 g u4 (Lib.byteCells (dbB (l.take i)))) := HBY.out.kp hk2 (fun _ _ x => x)
   have HKP2 : Hid (Kp w w2 Nul) := HKP.out.trans hk2
   clear hb2 hg2 hk2 HBY HKP hcl'
   go_wp2_with (at_builtin; refine wpList_append_by rfl (.tmp 15) (.tmp 21) 70 70 rfl 5 i8 (.int .u8 0) 1 Tryz.underlying70 hi8 hz8 hsz8 hby8 rfl rfl rfl HBY2.out (HB2.out.src Tryz.underlying70) ?a1 ?a2 ?_)
   case a1 => have := HL1.out; have := HL2.out; omega
   case a2 => have := HL1.out; have := HL2.out; omega
   intro v' g' w3 hb' hap
   have HNX : Hid (ByF 5 w w3 v' (Lib.byteCells (dbB (l.take (i + 1))))) := by
    show ByF _ _ _ _ _
    rw [HTB.out]
    exact ByF.ap HKP2.out HG.out hb' hap
   clear hb' hap
   go_wp2_with fail
   go_roundw
   case rel => exact ⟨i + 1, by have := HLT.out; omega, by go_num, HNX.out⟩
   case measure => simp only [intOf]; have := HLT.out; omega
  ·have hie : i = n := by omega
   subst hie
   have HT : Hid (l.take i = l) := by show _ = _; rw [← HN.out.1, List.take_length]
   rw [HT.out] at HBY
   have hcv := run_str_by HBY.out
   clear hi hlt
   go_wp2_with fail
   refine bodyPost_ret (results_tmp2 rfl _ _ _) rfl ?_
   exact ⟨rfl, HKP.out⟩
set_option maxRecDepth 40000 in
set_option maxHeartbeats 8000000 in
theorem rsingles_core (v : Value) (l : List Nat) (mode : Int) (w : World) (hv : UsAt w v l)
  (hnar : okMode mode = true → ∀ (x : Nat) (w : World), x < 18446744073709551616 → Calls Tryz.prog 46 #[.int .u64 (x : Nat), .int .i64 mode] w fun e w' => (∃ o u z, e = .returned (.tuple #[.int .u32 (sW mode x : Nat), .agg #[.bool (sI mode x), .bool o, .bool u], .int .i64 z])) ∧ Kp w w' Nul) :
  Calls Tryz.prog 15 #[v, .int .i64 mode] w fun e w' => e = .returned (.tuple #[.string ⟨(sgS mode l).toArray⟩, .int .i64 (sgN mode l : Nat), .int .i64 (sgE mode l.length : Nat)]) ∧ Kp w w' Nul := by
 obtain ⟨p, c, rfl, hcp, hc⟩ := hv
 cases hm : okMode mode with
 | false =>
  have e0 : sgE mode l.length = 1 := by unfold sgE; rw [if_neg (by rw [hm]; exact Bool.false_ne_true)]
  have e1 : sgS mode l = [] := by unfold sgS; rw [if_neg (by rw [e0]; decide)]
  have e2 : sgN mode l = 0 := by unfold sgN; rw [if_neg (by rw [e0]; decide)]
  rw [e0, e1, e2]
  have hb : ¬ (1 ≤ mode ∧ mode ≤ 6) := of_decide_eq_false hm
  clear hm e0 e1 e2 hc hnar hcp
  go_enter Tryz.func15, Tryz.ntmps15
  by_cases h1 : mode < 1
  ·go_wp2_with fail
   refine bodyPost_ret (v := .tuple #[.string ⟨#[]⟩, .int .i64 0, .int .i64 1]) (by simp [results, Tryz.results15, go_sem]) rfl ?_
   exact ⟨rfl, Kp.refl _ _⟩
  ·have h2 : 6 < mode := by omega
   go_wp2_with fail
   refine bodyPost_ret (v := .tuple #[.string ⟨#[]⟩, .int .i64 0, .int .i64 1]) (by simp [results, Tryz.results15, go_sem]) rfl ?_
   exact ⟨rfl, Kp.refl _ _⟩
 | true =>
 have hb : 1 ≤ mode ∧ mode ≤ 6 := of_decide_eq_true hm
 have hb1 : ¬ mode < 1 := by omega
 have hb2 : ¬ 6 < mode := by omega
 by_cases hl : 65536 < l.length
 ·have e0 : sgE mode l.length = 2 := by unfold sgE; rw [if_pos hm, if_pos hl]
  have e1 : sgS mode l = [] := by unfold sgS; rw [if_neg (by rw [e0]; decide)]
  have e2 : sgN mode l = 0 := by unfold sgN; rw [if_neg (by rw [e0]; decide)]
  rw [e0, e1, e2]
  have hl' : (65536 : Int) < (l.length : Int) := by omega
  clear hm e0 e1 e2 hc hnar hl hb hcp
  go_enter Tryz.func15, Tryz.ntmps15
  go_wp2_with fail
  refine bodyPost_ret (v := .tuple #[.string ⟨#[]⟩, .int .i64 0, .int .i64 2]) (by simp [results, Tryz.results15, go_sem]) rfl ?_
  exact ⟨rfl, Kp.refl _ _⟩
 have e0 : sgE mode l.length = 0 := by unfold sgE; rw [if_pos hm, if_neg hl]
 have e1 : sgS mode l = snB mode l := by unfold sgS; rw [if_pos e0]
 have e2 : sgN mode l = snI mode l := by unfold sgN; rw [if_pos e0]
 rw [e0, e1, e2]
 have hl' : ¬ (65536 : Int) < (l.length : Int) := by omega
 have HC : Hid (∀ i x, l[i]? = some x → x < 18446744073709551616 ∧ ∃ b o, p = some ⟨b, o, none⟩ ∧ b < w.heap.size ∧ w.cell? ⟨b, o + i, none⟩ = some (.int .u64 (x : Nat))) := hc
 have HNR : Hid (∀ (x : Nat) (w : World), x < 18446744073709551616 → Calls Tryz.prog 46 #[.int .u64 (x : Nat), .int .i64 mode] w fun e w' => (∃ o u z, e = .returned (.tuple #[.int .u32 (sW mode x : Nat), .agg #[.bool (sI mode x), .bool o, .bool u], .int .i64 z])) ∧ Kp w w' Nul) := hnar hm
 obtain ⟨i8, hi8, hz8, hsz8, hby8⟩ := infoU8
 obtain ⟨n, hn⟩ : ∃ n, l.length = n := ⟨_, rfl⟩
 have HN : Hid (l.length = n ∧ n ≤ 65536) := ⟨hn, by omega⟩
 rw [hn] at hl' ⊢
 clear hm e0 e1 e2 hc hl hn hcp hnar hb
 go_enter Tryz.func15, Tryz.ntmps15
 go_wp2_with fail
 go_loopw [7, 8, 9] (fun s7 s8 s9 wr => ∃ i : Nat, i ≤ n ∧ s9 = .int .i64 i ∧ s8 = .int .i64 (snI mode (l.take i) : Nat) ∧ ByF 5 w wr s7 (Lib.byteCells (snB mode (l.take i)))) (fun _ _ s9 _ => ((n : Int) - intOf s9).toNat)
 case atStart => exact ⟨0, Nat.zero_le _, by simp, by rw [List.take_zero]; rfl, ByF.nil _ _⟩
 case round =>
  obtain ⟨i, hi, rfl, rfl, g, hby, hg, hkp⟩ := hrel
  have HBY : Hid (By 5 wr g u7 (Lib.byteCells (snB mode (l.take i)))) := hby
  have HG : Hid (∀ b, g = some b → w.heap.size ≤ b) := hg
  have HKP : Hid (Kp w wr Nul) := hkp
  have HSI : Hid (snI mode (l.take i) ≤ i) := Nat.le_trans (snI_le _ _) (List.length_take_le _ _)
  clear hby hg hkp
  by_cases hlt : i < n
  ·have hlt' : (i : Int) < (n : Int) := by omega
   obtain ⟨x, hx⟩ : ∃ x, l[i]? = some x := ⟨_, List.getElem?_eq_getElem (by rw [HN.out.1]; exact hlt)⟩
   obtain ⟨hx1, b, o, rfl, hbl, hcl⟩ := HC.out i x hx
   have hcl' : wr.cell? ⟨b, o + i, none⟩ = some (.int .u64 (x : Nat)) := HKP.out.cellN hcl (fun x => x)
   have HTB : Hid (Lib.byteCells (snB mode (l.take (i + 1))) = Lib.byteCells (snB mode (l.take i)) ++ Lib.byteCells (le 4 (sW mode x))) := by show _ = _; rw [snB_take mode l i x hx, bc_app]
   have HTI : Hid (snI mode (l.take (i + 1)) = snI mode (l.take i) + if sI mode x = true then 1 else 0) := snI_take mode l i x hx
   have HNx : Hid (∀ w, Calls Tryz.prog 46 #[.int .u64 (x : Nat), .int .i64 mode] w fun e w' => (∃ o u z, e = .returned (.tuple #[.int .u32 (sW mode x : Nat), .agg #[.bool (sI mode x), .bool o, .bool u], .int .i64 z])) ∧ Kp w w' Nul) := fun w => HNR.out x w hx1
   have hsw : sW mode x < 4294967296 := sW_lt mode x
   have HNu : Hid (∀ w, Calls Tryz.prog 35 #[.int .u64 (sW mode x : Nat), .int .i64 4] w fun e w' => ∃ v, e = .returned v ∧ ByF 5 w w' v (Lib.byteCells (le 4 (sW mode x)))) := fun w => rnum24_at (sW mode x) 4 (by omega) (by decide) w
   have hcv := run_u32u64 (sW mode x) hsw
   have HL1 : Hid ((Lib.byteCells (snB mode (l.take i))).length ≤ 524288) := by show _ ≤ _; rw [Lib.byteCells_length, snB_len, List.length_take]; have := HN.out; omega
   have HLT : Hid (i < n ∧ n ≤ 65536) := ⟨hlt, HN.out.2⟩
   have hi0 : (0 : Int) ≤ (i : Int) := by omega
   have hib : (i : Int) + 1 ≤ 9223372036854775807 := by have := HN.out.2; omega
   have HL2 : Hid ((Lib.byteCells (le 4 (sW mode x))).length = 4) := by show _ = _; rw [Lib.byteCells_length, le_len]
   obtain ⟨q, hq⟩ : ∃ q, sW mode x = q := ⟨_, rfl⟩
   obtain ⟨I, hI⟩ : ∃ I, sI mode x = I := ⟨_, rfl⟩
   obtain ⟨m, hm⟩ : ∃ m, snI mode (l.take i) = m := ⟨_, rfl⟩
   rw [hm] at HTI HSI ⊢
   rw [hq] at HTB HNx HNu HL2 hcv
   rw [hI] at HNx HTI
   have hmb : (m : Int) + 1 ≤ 9223372036854775807 := by have := HN.out.2; have := HSI.out; omega
   have hm0 : (0 : Int) ≤ (m : Int) := by omega
   clear hx hx1 hbl hcl hlt hi hq hI hm hsw
   go_wp2_with fail
   refine (HNx.out _).mono ?_
   rintro e w1 ⟨⟨o1, u1, z1, rfl⟩, hk1⟩
   have HBY1 : Hid (By 5 w1 g u7 (Lib.byteCells (snB mode (l.take i)))) := HBY.out.kp hk1 (fun _ _ x => x)
   have HKP1 : Hid (Kp w w1 Nul) := HKP.out.trans hk1
   clear hk1 HBY HKP hcl'
   cases I with
   | false =>
    go_wp2_with fail
    refine (HNu.out _).mono ?_
    rintro e w2 ⟨v2, rfl, g2, hb2, hg2, hk2⟩
    have hka : Kp w1 w2 Nul := ((Kp.refl w1 Nul).alloc _).trans hk2
    have HB2 : Hid (By 5 w2 g2 v2 (Lib.byteCells (le 4 q))) := hb2
    have HBY2 : Hid (By 5 w2 g u7 (Lib.byteCells (snB mode (l.take i)))) := HBY1.out.kp hka (fun _ _ x => x)
    have HKP2 : Hid (Kp w w2 Nul) := HKP1.out.trans hka
    clear hb2 hg2 hk2 hka HBY1 HKP1
    go_wp2_with (at_builtin; refine wpList_append_by rfl (.tmp 42) (.tmp 45) 70 70 rfl 5 i8 (.int .u8 0) 1 Tryz.underlying70 hi8 hz8 hsz8 hby8 rfl rfl rfl HBY2.out (HB2.out.src Tryz.underlying70) ?a1 ?a2 ?_)
    case a1 => have := HL1.out; have := HL2.out; omega
    case a2 => have := HL1.out; have := HL2.out; omega
    intro v' g' w3 hb' hap
    have HNX : Hid (ByF 5 w w3 v' (Lib.byteCells (snB mode (l.take (i + 1))))) := by
     show ByF _ _ _ _ _
     rw [HTB.out]
     exact ByF.ap HKP2.out HG.out hb' hap
    clear hb' hap
    go_wp2_with fail
    go_roundw
    case rel => exact ⟨i + 1, by have := HLT.out; omega, by go_num, by rw [HTI.out]; rfl, HNX.out⟩
    case measure => simp only [intOf]; have := HLT.out; omega
   | true =>
    go_wp2_with fail
    refine (HNu.out _).mono ?_
    rintro e w2 ⟨v2, rfl, g2, hb2, hg2, hk2⟩
    have hka : Kp w1 w2 Nul := ((Kp.refl w1 Nul).alloc _).trans hk2
    have HB2 : Hid (By 5 w2 g2 v2 (Lib.byteCells (le 4 q))) := hb2
    have HBY2 : Hid (By 5 w2 g u7 (Lib.byteCells (snB mode (l.take i)))) := HBY1.out.kp hka (fun _ _ x => x)
    have HKP2 : Hid (Kp w w2 Nul) := HKP1.out.trans hka
    clear hb2 hg2 hk2 hka HBY1 HKP1
    go_wp2_with (at_builtin; refine wpList_append_by rfl (.tmp 42) (.tmp 45) 70 70 rfl 5 i8 (.int .u8 0) 1 Tryz.underlying70 hi8 hz8 hsz8 hby8 rfl rfl rfl HBY2.out (HB2.out.src Tryz.underlying70) ?a1 ?a2 ?_)
    case a1 => have := HL1.out; have := HL2.out; omega
    case a2 => have := HL1.out; have := HL2.out; omega
    intro v' g' w3 hb' hap
    have HNX : Hid (ByF 5 w w3 v' (Lib.byteCells (snB mode (l.take (i + 1))))) := by
     show ByF _ _ _ _ _
     rw [HTB.out]
     exact ByF.ap HKP2.out HG.out hb' hap
    clear hb' hap
    go_wp2_with fail
    go_roundw
    case rel => exact ⟨i + 1, by have := HLT.out; omega, by go_num, by rw [HTI.out]; rfl, HNX.out⟩
    case measure => simp only [intOf]; have := HLT.out; omega
  ·have hie : i = n := by omega
   subst hie
   have HT : Hid (l.take i = l) := by show _ = _; rw [← HN.out.1, List.take_length]
   rw [HT.out] at HBY ⊢
   have hcv := run_str_by HBY.out
   clear hi hlt
   go_wp2_with fail
   refine bodyPost_ret (v := .tuple #[.string ⟨(snB mode l).toArray⟩, .int .i64 (snI mode l : Nat), .int .i64 0]) (by simp [results, Tryz.results15, go_sem]) rfl ?_
   exact ⟨rfl, HKP.out⟩
end Go.Proofs.YtnceajanlnnfoaaGreatDoor
namespace Go.Proofs.YtnceajanlnnfoaaGreatDoor
open Go.RowKit Go.Shelf
theorem make64g (n : Nat) (m : Int) (hm : (n : Int) = m) (hn : n * 8 ≤ 140737488355328) (w : World) :
  (Instr.makeSlice 37 (.int .i64 m) (.int .i64 m)).run Tryz.prog w = .ok (.slice (some ⟨w.heap.size, 0, none⟩) n n) (w.alloc (.cells (madeCells #[.float .f64 0] n) 50)) := by
 subst hm
 have hi : Tryz.prog.info? 50 = some ((Tryz.prog.info? 50).getD default) := by kernel_rfl
 have := run_make (P := Tryz.prog) w 37 50 _ (.float .f64 0) Tryz.underlying37 hi (by kernel_rfl) .i64 .i64 n n (by omega) (by omega) (by
  have : ((Tryz.prog.info? 50).getD default).bytes = 8 := by kernel_rfl
  rw [this]; omega) (by omega)
 have hs : ((Tryz.prog.info? 50).getD default).size = 1 := by kernel_rfl
 rw [hs, Nat.mul_one, Int.toNat_natCast] at this
 exact this
def fvs (l : List Nat) : List Value := l.map fun x => .float .f64 x
def lent (zs : List Nat) : List Nat := zs ++ [4634696597773484032, 4634766966517661696]
theorem lent_len (zs : List Nat) : (lent zs).length = zs.length + 2 := by unfold lent; rw [List.length_append]; rfl
theorem lent_get (zs : List Nat) (i x : Nat) (h : zs[i]? = some x) : (lent zs)[i]? = some x := by
 unfold lent
 rw [List.getElem?_append_left (List.getElem?_eq_some_iff.1 h).1]
 exact h
theorem lent_71 (zs : List Nat) : (lent zs)[zs.length]? = some 4634696597773484032 := by unfold lent; rw [List.getElem?_append_right (Nat.le_refl _), Nat.sub_self]; rfl
theorem lent_72 (zs : List Nat) : (lent zs)[zs.length + 1]? = some 4634766966517661696 := by unfold lent; rw [List.getElem?_append_right (by omega), Nat.add_sub_cancel_left]; rfl
def sets (l : List Nat) (i : Nat) : List Value := (l.take i).map (fun x => Value.float .f64 (id x)) ++ List.replicate (l.length - i) (Value.float .f64 0)
theorem sets_get (l : List Nat) (i : Nat) (h : i < l.length) : (sets l i)[i]? = some (.float .f64 0) := by
 unfold sets
 rw [List.getElem?_append_right (by rw [List.length_map, List.length_take]; omega), List.length_map, List.length_take, Nat.min_eq_left (by omega), Nat.sub_self, List.getElem?_replicate, if_pos (by omega)]
theorem sets_set (l : List Nat) (i x : Nat) (h : l[i]? = some x) : (sets l i).set i (.float .f64 x) = sets l (i + 1) := fl_set id l i x h (List.getElem?_eq_some_iff.1 h).1
theorem sets_all (l : List Nat) : sets l l.length = fvs l := by unfold sets fvs; rw [List.take_length, Nat.sub_self, List.replicate_zero, List.append_nil]; rfl
theorem sets_zero (l : List Nat) : sets l 0 = List.replicate l.length (.float .f64 0) := by unfold sets; simp
set_option maxRecDepth 40000 in
set_option maxHeartbeats 8000000 in
theorem floats_at (v : Value) (zs : List Nat) (w : World) (hv : UsAt w v zs) (hn8 : (zs.length + 2) * 8 ≤ 140737488355328) :
  Calls Tryz.prog 13 #[v] w fun e w' => e = .returned (.slice (some ⟨w.heap.size, 0, none⟩) (zs.length + 2) (zs.length + 2)) ∧ Blk w' w.heap.size (fvs (lent zs)) 50 ∧ Kp w w' Nul := by
 obtain ⟨p, c, rfl, hcp, hc⟩ := hv
 have HC : Hid (∀ i x, zs[i]? = some x → x < 18446744073709551616 ∧ ∃ b o, p = some ⟨b, o, none⟩ ∧ b < w.heap.size ∧ w.cell? ⟨b, o + i, none⟩ = some (.int .u64 (x : Nat))) := hc
 have HS1 : Hid (∀ i x, zs[i]? = some x → (sets (lent zs) i).set i (.float .f64 x) = sets (lent zs) (i + 1)) := fun i x h => sets_set _ i x (lent_get zs i x h)
 have HSG : Hid (∀ i, i < zs.length + 2 → (sets (lent zs) i)[i]? = some (.float .f64 0)) := fun i h => sets_get _ i (by rw [lent_len]; exact h)
 have HS2 : Hid ((sets (lent zs) zs.length).set zs.length (.float .f64 4634696597773484032) = sets (lent zs) (zs.length + 1)) := sets_set _ _ _ (lent_71 zs)
 have HS3 : Hid ((sets (lent zs) (zs.length + 1)).set (zs.length + 1) (.float .f64 4634766966517661696) = fvs (lent zs)) := by
  have := sets_set _ _ _ (lent_72 zs)
  show _ = _
  rw [this, show zs.length + 1 + 1 = (lent zs).length from (lent_len zs).symm]
  exact sets_all _
 have hS0 : sets (lent zs) 0 = List.replicate (zs.length + 2) (.float .f64 0) := by rw [sets_zero, lent_len]
 have hmk := make64g (zs.length + 2) ((zs.length : Int) + 2) (by omega) hn8 w
 have hw2 : wrap64 ((zs.length : Int) + 2) = (zs.length : Int) + 2 := by unfold wrap64; omega
 have hw1 : wrap64 ((zs.length : Int) + 1) = (zs.length : Int) + 1 := by unfold wrap64; omega
 obtain ⟨W1, hW1⟩ : ∃ W1, w.alloc (.cells (madeCells #[.float .f64 0] (zs.length + 2)) 50) = W1 := ⟨_, rfl⟩
 rw [hW1] at hmk
 have HB1 : Hid (Blk W1 w.heap.size (sets (lent zs) 0) 50) := by
  show Blk _ _ _ _
  have := Blk.new w (List.replicate (zs.length + 2) (.float .f64 0)) 50
  have e : madeCells #[.float .f64 0] (zs.length + 2) = (List.replicate (zs.length + 2) (Value.float .f64 0)).toArray := by rw [← made1]
  rw [hS0, ← hW1, e]
  exact this
 have HK1 : Hid (Kp w W1 Nul) := by show Kp _ _ _; rw [← hW1]; exact (Kp.refl _ _).alloc _
 obtain ⟨n, hn⟩ : ∃ n, zs.length = n := ⟨_, rfl⟩
 have HN : Hid (zs.length = n ∧ (n + 2) * 8 ≤ 140737488355328) := ⟨hn, by rw [← hn]; exact hn8⟩
 rw [hn] at hmk HSG HS2 HS3 hw1 hw2 ⊢
 clear hc hcp hn8 hW1 hn hS0
 go_enter Tryz.func13, Tryz.ntmps13
 go_wp2_with fail
 go_loopw [4] (fun s4 wr => ∃ i : Nat, i ≤ n ∧ s4 = .int .i64 i ∧ Blk wr w.heap.size (sets (lent zs) i) 50 ∧ Kp w wr Nul) (fun s4 _ => ((n : Int) - intOf s4).toNat)
 case atStart => exact ⟨0, Nat.zero_le _, by simp, HB1.out, HK1.out⟩
 case round =>
  obtain ⟨i, hi, rfl, hbl, hkp⟩ := hrel
  have HB : Hid (Blk wr w.heap.size (sets (lent zs) i) 50) := hbl
  have HKP : Hid (Kp w wr Nul) := hkp
  clear hbl hkp hmk
  by_cases hlt : i < n
  ·have hlt' : (i : Int) < (n : Int) := by omega
   have hlt2 : (i : Int) < ((n + 2 : Nat) : Int) := by omega
   obtain ⟨x, hx⟩ : ∃ x, zs[i]? = some x := ⟨_, List.getElem?_eq_getElem (by rw [HN.out.1]; exact hlt)⟩
   obtain ⟨hx1, b, o, rfl, hbb, hcl⟩ := HC.out i x hx
   have hcl' : wr.cell? ⟨b, o + i, none⟩ = some (.int .u64 (x : Nat)) := HKP.out.cellN hcl (fun x => x)
   have hfb := run_f64from24 x
   have hcz : wr.cell? ⟨w.heap.size, i, none⟩ = some (.float .f64 0) := HB.out.cell (HSG.out i (by omega))
   have hfz : wr.frozen? ⟨w.heap.size, i, none⟩ = false := HB.out.froz i
   have HNX : Hid (Blk (wr.setCell ⟨w.heap.size, i, none⟩ (.float .f64 x)) w.heap.size (sets (lent zs) (i + 1)) 50 ∧ Kp w (wr.setCell ⟨w.heap.size, i, none⟩ (.float .f64 x)) Nul) := by
    refine ⟨?_, HKP.out.setCell ⟨w.heap.size, i, none⟩ _ (.inl (Nat.le_refl _))⟩
    have := HB.out.set i (.float .f64 x)
    rw [HS1.out i x hx] at this
    exact this
   have HLT : Hid (i < n) := hlt
   have hi0 : (0 : Int) ≤ (i : Int) := by omega
   have hib : (i : Int) + 1 ≤ 9223372036854775807 := by have := HN.out.2; omega
   clear hx hx1 hbb hcl hlt hi hw1 hw2
   go_wp2_with fail
   go_roundw
   case rel => exact ⟨i + 1, by have := HLT.out; omega, by go_num, HNX.out⟩
   case measure => simp only [intOf]; have := HLT.out; omega
  ·have hie : i = n := by omega
   subst hie
   have hcz : wr.cell? ⟨w.heap.size, i, none⟩ = some (.float .f64 0) := HB.out.cell (HSG.out i (by omega))
   have hfz : wr.frozen? ⟨w.heap.size, i, none⟩ = false := HB.out.froz i
   obtain ⟨W2, hW2⟩ : ∃ W2, wr.setCell ⟨w.heap.size, i, none⟩ (.float .f64 4634696597773484032) = W2 := ⟨_, rfl⟩
   have HW2 : Hid (wr.setCell ⟨w.heap.size, i, none⟩ (.float .f64 4634696597773484032) = W2) := hW2
   have hB2 : Blk W2 w.heap.size (sets (lent zs) (i + 1)) 50 := by rw [← HS2.out, ← hW2]; exact HB.out.set i _
   have HK2 : Hid (Kp w W2 Nul) := by show Kp _ _ _; rw [← hW2]; exact HKP.out.setCell ⟨w.heap.size, i, none⟩ _ (.inl (Nat.le_refl _))
   have hcz2 : W2.cell? ⟨w.heap.size, i + 1, none⟩ = some (.float .f64 0) := hB2.cell (HSG.out (i + 1) (by omega))
   have hfz2 : W2.frozen? ⟨w.heap.size, i + 1, none⟩ = false := hB2.froz (i + 1)
   have HEnd : Hid (Blk (W2.setCell ⟨w.heap.size, i + 1, none⟩ (.float .f64 4634766966517661696)) w.heap.size (fvs (lent zs)) 50 ∧ Kp w (W2.setCell ⟨w.heap.size, i + 1, none⟩ (.float .f64 4634766966517661696)) Nul) := by
    refine ⟨?_, HK2.out.setCell ⟨w.heap.size, i + 1, none⟩ _ (.inl (Nat.le_refl _))⟩
    have := hB2.set (i + 1) (.float .f64 4634766966517661696)
    rw [HS3.out] at this
    exact this
   have hi2 : (i : Int) < ((i + 2 : Nat) : Int) := by omega
   have hi3 : ((i + 1 : Nat) : Int) < ((i + 2 : Nat) : Int) := by omega
   have hw1' : wrap64 ((i : Int) + 1) = ((i + 1 : Nat) : Int) := by rw [hw1]; omega
   clear hi hlt hW2 hB2 hw2 hw1
   go_wp2_with (first | (rw [HW2.out]) | fail)
   go_ret
   exact ⟨rfl, HEnd.out⟩
end Go.Proofs.YtnceajanlnnfoaaGreatDoor
namespace Go.Proofs.YtnceajanlnnfoaaGreatDoor
open Go.RowKit Go.Shelf
theorem eq_71 (w : World) : (binOp .eql 50 (.float .f64 4634696597773484032) (.float .f64 4634696597773484032)).run Tryz.prog w = .ok (.bool true) w := by
 simp [go_sem]
 decide
theorem eq_72 (w : World) : (binOp .eql 50 (.float .f64 4634766966517661696) (.float .f64 4634766966517661696)).run Tryz.prog w = .ok (.bool true) w := by
 simp [go_sem]
 decide
def FsAt (w : World) (v : Value) (zs : List Nat) : Prop := ∃ p c, v = .slice p zs.length c ∧ ∀ i x, zs[i]? = some x → ∃ b, p = some ⟨b, 0, none⟩ ∧ w.cell? ⟨b, i, none⟩ = some (.float .f64 x)
def WsAt (w : World) (v : Value) (zs : List Nat) : Prop := ∃ p c, v = .slice p zs.length c ∧ ∀ i x, zs[i]? = some x → ∃ b, p = some ⟨b, 0, none⟩ ∧ w.cell? ⟨b, i, none⟩ = some (.int .u64 (x : Nat))
set_option maxRecDepth 40000 in
set_option maxHeartbeats 2000000 in
theorem bits_at (v u : Value) (zs : List Nat) (w : World) (hv : FsAt w v zs) (hu : WsAt w u zs) (hl : zs.length ≤ 65536) :
  Calls Tryz.prog 22 #[v, u] w fun e w' => e = .returned (.bool true) ∧ Kp w w' Nul := by
 obtain ⟨p, c, rfl, hc⟩ := hv
 obtain ⟨q, d, rfl, hd⟩ := hu
 have HC : Hid (∀ i x, zs[i]? = some x → ∃ b, p = some ⟨b, 0, none⟩ ∧ w.cell? ⟨b, i, none⟩ = some (.float .f64 x)) := hc
 have HD : Hid (∀ i x, zs[i]? = some x → ∃ b, q = some ⟨b, 0, none⟩ ∧ w.cell? ⟨b, i, none⟩ = some (.int .u64 (x : Nat))) := hd
 obtain ⟨n, hn⟩ : ∃ n, zs.length = n := ⟨_, rfl⟩
 have HN : Hid (zs.length = n ∧ n ≤ 65536) := ⟨hn, by omega⟩
 rw [hn]
 clear hc hd hl hn
 go_enter Tryz.func22, Tryz.ntmps22
 go_wp2_with fail
 go_loopw [5] (fun s5 wr => ∃ i : Nat, i ≤ n ∧ s5 = .int .i64 i ∧ Kp w wr Nul) (fun s5 _ => ((n : Int) - intOf s5).toNat)
 case atStart => exact ⟨0, Nat.zero_le _, by simp, Kp.refl _ _⟩
 case round =>
  obtain ⟨i, hi, rfl, hwr⟩ := hrel
  have HWR : Hid (Kp w wr Nul) := hwr
  by_cases hlt : i < n
  ·have hlt' : (i : Int) < (n : Int) := by omega
   obtain ⟨x, hx⟩ : ∃ x, zs[i]? = some x := ⟨_, List.getElem?_eq_getElem (by rw [HN.out.1]; exact hlt)⟩
   obtain ⟨b1, rfl, hc1⟩ := HC.out i x hx
   obtain ⟨b2, rfl, hc2⟩ := HD.out i x hx
   have c1 : wr.cell? ⟨b1, i, none⟩ = some (.float .f64 x) := hwr.cellN hc1 (fun x => x)
   have c2 : wr.cell? ⟨b2, i, none⟩ = some (.int .u64 (x : Nat)) := hwr.cellN hc2 (fun x => x)
   have HLT : Hid (i < n) := hlt
   have hi0 : (0 : Int) ≤ (i : Int) := by omega
   have hib : (i : Int) + 1 ≤ 9223372036854775807 := by have := HN.out.2; omega
   clear hx hc1 hc2 hlt hi hwr
   go_wp2_with fail
   go_quiet (fail)
   go_wp2_with fail
   go_roundw
   case rel => exact ⟨i + 1, by have := HLT.out; omega, by go_num, HWR.out.drewN nq⟩
   case measure => simp only [intOf]; have := HLT.out; omega
  ·have hie : i = n := by omega
   subst hie
   clear hi hlt hwr
   go_wp2_with fail
   go_ret
   exact ⟨rfl, HWR.out⟩
set_option maxRecDepth 40000 in
set_option maxHeartbeats 2000000 in
theorem kept_at (X : Nat) (u : Value) (zs : List Nat) (w : World) (hx : Blk w X (fvs (lent zs)) 50) (hu : UsAt w u zs) (hl : (zs.length + 2) * 8 ≤ 140737488355328) :
  Calls Tryz.prog 23 #[.slice (some ⟨X, 0, none⟩) (zs.length + 2) (zs.length + 2), u] w fun e w' => e = .returned (.bool true) ∧ Kp w w' Nul := by
 obtain ⟨q, d, rfl, hqd, hd⟩ := hu
 have HD : Hid (∀ i x, zs[i]? = some x → x < 18446744073709551616 ∧ ∃ b o, q = some ⟨b, o, none⟩ ∧ b < w.heap.size ∧ w.cell? ⟨b, o + i, none⟩ = some (.int .u64 (x : Nat))) := hd
 have HC : Hid (∀ i x, (lent zs)[i]? = some x → w.cell? ⟨X, i, none⟩ = some (.float .f64 x)) := fun i x h => hx.cell (by unfold fvs; rw [List.getElem?_map, h]; rfl)
 have hG : ∀ i x, zs[i]? = some x → (lent zs)[i]? = some x := fun i x h => lent_get zs i x h
 have HG : Hid (∀ i x, zs[i]? = some x → (lent zs)[i]? = some x) := hG
 have h71 := lent_71 zs
 have h72 := lent_72 zs
 have hw1 : wrap64 ((zs.length : Int) + 1) = ((zs.length + 1 : Nat) : Int) := by unfold wrap64; omega
 obtain ⟨n, hn⟩ : ∃ n, zs.length = n := ⟨_, rfl⟩
 have HN : Hid (zs.length = n ∧ (n + 2) * 8 ≤ 140737488355328) := ⟨hn, by rw [← hn]; exact hl⟩
 rw [hn] at h71 h72 hw1 ⊢
 have H71 : Hid ((lent zs)[n]? = some 4634696597773484032) := h71
 have H72 : Hid ((lent zs)[n + 1]? = some 4634766966517661696) := h72
 have HW1 : Hid (wrap64 ((n : Int) + 1) = ((n + 1 : Nat) : Int)) := hw1
 clear hd hl hn hx hG h71 h72 hw1 hqd
 go_enter Tryz.func23, Tryz.ntmps23
 go_wp2_with fail
 go_loopw [5] (fun s5 wr => ∃ i : Nat, i ≤ n ∧ s5 = .int .i64 i ∧ Kp w wr Nul) (fun s5 _ => ((n : Int) - intOf s5).toNat)
 case atStart => exact ⟨0, Nat.zero_le _, by simp, Kp.refl _ _⟩
 case round =>
  obtain ⟨i, hi, rfl, hwr⟩ := hrel
  have HWR : Hid (Kp w wr Nul) := hwr
  by_cases hlt : i < n
  ·have hlt' : (i : Int) < (n : Int) := by omega
   have hlt2 : (i : Int) < ((n + 2 : Nat) : Int) := by omega
   obtain ⟨x, hx⟩ : ∃ x, zs[i]? = some x := ⟨_, List.getElem?_eq_getElem (by rw [HN.out.1]; exact hlt)⟩
   obtain ⟨_, b2, o2, rfl, _, hc2⟩ := HD.out i x hx
   have c1 : wr.cell? ⟨X, i, none⟩ = some (.float .f64 x) := hwr.cellN (HC.out i x (HG.out i x hx)) (fun x => x)
   have c2 : wr.cell? ⟨b2, o2 + i, none⟩ = some (.int .u64 (x : Nat)) := hwr.cellN hc2 (fun x => x)
   have HLT : Hid (i < n) := hlt
   have hi0 : (0 : Int) ≤ (i : Int) := by omega
   have hib : (i : Int) + 1 ≤ 9223372036854775807 := by have := HN.out.2; omega
   clear hx hc2 hlt hi hwr
   go_wp2_with fail
   go_quiet (fail)
   go_wp2_with fail
   go_roundw
   case rel => exact ⟨i + 1, by have := HLT.out; omega, by go_num, HWR.out.drewN nq⟩
   case measure => simp only [intOf]; have := HLT.out; omega
  ·have hie : i = n := by omega
   subst hie
   have c1 : wr.cell? ⟨X, i, none⟩ = some (.float .f64 4634696597773484032) := hwr.cellN (HC.out i _ H71.out) (fun x => x)
   have c2 : wr.cell? ⟨X, i + 1, none⟩ = some (.float .f64 4634766966517661696) := hwr.cellN (HC.out (i + 1) _ H72.out) (fun x => x)
   have hw1 := HW1.out
   have e1 := eq_71
   have e2 := eq_72
   have hi2 : (i : Int) < ((i + 2 : Nat) : Int) := by omega
   have hi3 : ((i + 1 : Nat) : Int) < ((i + 2 : Nat) : Int) := by omega
   clear hi hlt hwr
   go_wp2_with fail
   go_ret
   exact ⟨rfl, HWR.out⟩
end Go.Proofs.YtnceajanlnnfoaaGreatDoor
