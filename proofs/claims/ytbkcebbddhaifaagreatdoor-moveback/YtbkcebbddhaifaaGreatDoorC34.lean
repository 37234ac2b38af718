/- Move: named. Move: a formula in memory of its own, whose references go along: how far the loop has come. No function of the program here. -/
import Derived.Test.YtbkcebbddhaifaaGreatDoorC31
import Derived.Test.YtbkcebbddhaifaaGreatDoorC33
import Derived.Test.YtbkcebbddhaifaaGreatDoorC6
import Derived.Test.YtbkcebbddhaifaaGreatDoorC8
namespace Go.Proofs.YtbkcebbddhaifaaGreatDoor
open Go.RowKit

/-- What is left of a node's list when its references are gone along. -/
def nmS (f : Fate) (h : Hd) (sl : Value) : Value := match f (nmA h) with
  | none => .slice none 0 0
  | some _ => sl
theorem blk_range {w : World} {b : Nat} {cs : List Value} {t : TypeId} (h : Blk w b cs t) : w.rangeAt b 0 cs := fun j v hj => by
  rw [Nat.zero_add]; exact h.cell hj
theorem ints2 (a b : Int) : (([.int .i64 a, .int .i64 b] : List Value).toArray.all (·.oneCell')) = true := by simp [Value.oneCell']
theorem infoAddr2' : (Tryz.prog.info? 32).map (·.size) = some 2 := by kernel_rfl
set_option maxRecDepth 20000 in
set_option maxHeartbeats 16000000 in
theorem named_ln (xc xr : Nat) (cols : Bool) (at' n : Int) (h : lnOk cols at' n) (hd : Hd) (ts : List Nd) (sl : Value) (hs : sl.oneCell' = true) (w : World) (hk : KeptIn w xc xr cols at' n) :
    Calls Tryz.prog 101 #[.agg #[fateF xc xr], hd.val sl] w fun e w' => e = .returned ((nmN (lnF cols at' n) (.mk hd ts)).hd.val (nmS (lnF cols at' n) hd sl)) ∧ Kp w w' Nul := by
  have HF : Hid (∀ (a : Ar4) wq, Kp w wq Nul → Calls Tryz.prog 99 #[.agg #[.slice (some ⟨xc, 0, none⟩) 2 2, .slice (some ⟨xr, 0, none⟩) 2 2], .agg #[.int .i64 a.1.1, .int .i64 a.1.2, .int .i64 a.2.1, .int .i64 a.2.2]] wq fun e w' => e = .returned (fateV (lnF cols at' n a)) ∧ Kp wq w' Nul) := fun a wq k => area_at xc xr cols at' n h a wq (hk.kp k)
  have HA : Hid (∀ (c r : Int) w, Calls Tryz.prog 131 #[.agg #[.int .i64 c, .int .i64 r]] w fun e w' => e = .returned (.agg #[.int .i64 c, .int .i64 r, .int .i64 c, .int .i64 r]) ∧ Kp w w' Nul) := fun c r w => alone_at c r w
  generalize lnF cols at' n = f at *
  clear hk h
  have HO : Hid (sl.oneCell' = true) := hs
  obtain ⟨k, o', x, s, bb, ff, c1, r1, p1, q1, c2, r2, p2, q2⟩ := hd
  clear hs
  by_cases hk6 : k = 6
  · subst hk6
    have hAr : nmA (Hd.mk 6 o' x s bb ff c1 r1 p1 q1 c2 r2 p2 q2) = ((c1, r1), (c2, r2)) := by unfold nmA; rw [if_pos rfl]
    have hFr := HF.out ((c1, r1), (c2, r2))
    have HV : Hid (fateV (f ((c1, r1), (c2, r2))) = fateV (f ((c1, r1), (c2, r2)))) := rfl
    rw [show nmN f (Nd.mk (Hd.mk 6 o' x s bb ff c1 r1 p1 q1 c2 r2 p2 q2) ts) = (match f ((c1, r1), (c2, r2)) with | none => ndF | some a => .mk (toH (Hd.mk 6 o' x s bb ff c1 r1 p1 q1 c2 r2 p2 q2) a) ts) by unfold nmN; rw [← hAr]; rfl]
    rw [show nmS f (Hd.mk 6 o' x s bb ff c1 r1 p1 q1 c2 r2 p2 q2) sl = (match f ((c1, r1), (c2, r2)) with | none => .slice none 0 0 | some _ => sl) by unfold nmS; rw [← hAr]]
    have HFr : Hid (∀ wq, Kp w wq Nul → Calls Tryz.prog 99 #[.agg #[.slice (some ⟨xc, 0, none⟩) 2 2, .slice (some ⟨xr, 0, none⟩) 2 2], .agg #[.int .i64 c1, .int .i64 r1, .int .i64 c2, .int .i64 r2]] wq fun e w' => e = .returned (fateV (f ((c1, r1), (c2, r2)))) ∧ Kp wq w' Nul) := hFr
    clear hAr hFr HF HV
    generalize f ((c1, r1), (c2, r2)) = R at *
    go_enter Tryz.func101, Tryz.ntmps101
    go_wp2_with fail
    obtain ⟨W0, hW0⟩ : ∃ W0, ((w.alloc (.cells #[fateF xc xr] 101)).alloc (.cells #[.int .i64 6, .int .i64 o', .float .f64 x, .string s, .bool bb, .int .i64 ff, .int .i64 c1, .int .i64 r1, .bool p1, .bool q1, .int .i64 c2, .int .i64 r2, .bool p2, .bool q2, sl] 44)).alloc (.cells #[.int .i64 0, .int .i64 0, .float .f64 0, .string ⟨#[]⟩, .bool false, .int .i64 0, .int .i64 0, .int .i64 0, .bool false, .bool false, .int .i64 0, .int .i64 0, .bool false, .bool false, .slice none 0 0] 44) = W0 := ⟨_, rfl⟩
    rw [hW0]
    have k0 : Kp w W0 Nul := by rw [← hW0]; exact (((Kp.refl w Nul).alloc _).alloc _).alloc _
    have b0 : Blk W0 w.heap.size [fateF xc xr] 101 := by rw [← hW0]; exact ((Blk.new w _ _).alloc _).alloc _
    have b1 : Blk W0 (w.heap.size + 1) [.int .i64 6, .int .i64 o', .float .f64 x, .string s, .bool bb, .int .i64 ff, .int .i64 c1, .int .i64 r1, .bool p1, .bool q1, .int .i64 c2, .int .i64 r2, .bool p2, .bool q2, sl] 44 := by
      rw [← hW0]
      have := Blk.new (w.alloc (.cells #[fateF xc xr] 101)) [.int .i64 6, .int .i64 o', .float .f64 x, .string s, .bool bb, .int .i64 ff, .int .i64 c1, .int .i64 r1, .bool p1, .bool q1, .int .i64 c2, .int .i64 r2, .bool p2, .bool q2, sl] 44
      rw [World.size_alloc] at this
      exact this.alloc _
    have b2 : Blk W0 (w.heap.size + 1 + 1) [.int .i64 0, .int .i64 0, .float .f64 0, .string ⟨#[]⟩, .bool false, .int .i64 0, .int .i64 0, .int .i64 0, .bool false, .bool false, .int .i64 0, .int .i64 0, .bool false, .bool false, .slice none 0 0] 44 := by
      rw [← hW0]
      have := Blk.new ((w.alloc (.cells #[fateF xc xr] 101)).alloc (.cells #[.int .i64 6, .int .i64 o', .float .f64 x, .string s, .bool bb, .int .i64 ff, .int .i64 c1, .int .i64 r1, .bool p1, .bool q1, .int .i64 c2, .int .i64 r2, .bool p2, .bool q2, sl] 44)) [.int .i64 0, .int .i64 0, .float .f64 0, .string ⟨#[]⟩, .bool false, .int .i64 0, .int .i64 0, .int .i64 0, .bool false, .bool false, .int .i64 0, .int .i64 0, .bool false, .bool false, .slice none 0 0] 44
      rw [World.size_alloc, World.size_alloc] at this
      exact this
    clear hW0
    refine (HA.out c1 r1 _).mono ?_
    rintro e w1 ⟨rfl, hk1⟩
    have K1 : Hid (Kp w w1 Nul) := k0.trans hk1
    have hsz : w.heap.size + 3 ≤ w1.heap.size := by have := (b2.kp hk1 (fun x => x)).lt; omega
    obtain ⟨W1, hW1⟩ : ∃ W1, w1.alloc (.cells #[.int .i64 c1, .int .i64 r1, .int .i64 c1, .int .i64 r1] 34) = W1 := ⟨_, rfl⟩
    have k1a : Kp w1 W1 Nul := by rw [← hW1]; exact (Kp.refl _ _).alloc _
    have bA : Blk W1 w1.heap.size [.int .i64 c1, .int .i64 r1, .int .i64 c1, .int .i64 r1] 34 := by rw [← hW1]; exact Blk.new _ _ _
    have k01 := hk1.trans k1a
    have HB0 : Hid (Blk W1 w.heap.size [fateF xc xr] 101) := b0.kp k01 (fun x => x)
    have HB1 : Hid (Blk W1 (w.heap.size + 1) [.int .i64 6, .int .i64 o', .float .f64 x, .string s, .bool bb, .int .i64 ff, .int .i64 c1, .int .i64 r1, .bool p1, .bool q1, .int .i64 c2, .int .i64 r2, .bool p2, .bool q2, sl] 44) := b1.kp k01 (fun x => x)
    have HB2 : Hid (Blk W1 (w.heap.size + 1 + 1) [.int .i64 0, .int .i64 0, .float .f64 0, .string ⟨#[]⟩, .bool false, .int .i64 0, .int .i64 0, .int .i64 0, .bool false, .bool false, .int .i64 0, .int .i64 0, .bool false, .bool false, .slice none 0 0] 44) := b2.kp k01 (fun x => x)
    have HBA : Hid (Blk W1 w1.heap.size [.int .i64 c1, .int .i64 r1, .int .i64 c1, .int .i64 r1] 34) := bA
    have KW1 : Hid (Kp w W1 Nul) := K1.out.trans k1a
    have HSZ : Hid (w.heap.size + 3 ≤ w1.heap.size) := hsz
    have d0 : W1.cell? ⟨(w.heap.size + 1), 0, none⟩ = some (.int .i64 6) := HB1.out.cell rfl
    have d10 : W1.cell? ⟨(w.heap.size + 1), 10, none⟩ = some (.int .i64 c2) := HB1.out.cell rfl
    have d11 : W1.cell? ⟨(w.heap.size + 1), 11, none⟩ = some (.int .i64 r2) := HB1.out.cell rfl
    clear k0 b0 b1 b2 hk1 hsz k1a bA k01
    go_wp2_with (first | (refine wpList_store_part rfl 32 (.tmp 17) (.tmp 16) rfl w1.heap.size 2 [.int .i64 c1, .int .i64 r1] [.int .i64 c1, .int .i64 r1] [] [.int .i64 c2, .int .i64 r2] _ HBA.out rfl rfl rfl rfl infoAddr2' (ints2 _ _) ?_; intro W2 hbA2 hk2; have e0 : W2.cell? ⟨w1.heap.size, 0, none⟩ = some (.int .i64 c1) := hbA2.cell rfl; have e1 : W2.cell? ⟨w1.heap.size, 1, none⟩ = some (.int .i64 r1) := hbA2.cell rfl; have e2 : W2.cell? ⟨w1.heap.size, 2, none⟩ = some (.int .i64 c2) := hbA2.cell rfl; have e3 : W2.cell? ⟨w1.heap.size, 3, none⟩ = some (.int .i64 r2) := hbA2.cell rfl; have f0 : W2.cell? ⟨w.heap.size, 0, none⟩ = some (fateF xc xr) := (HB0.out.kp hk2 (Blk.ne HB0.out HBA.out (by decide))).cell rfl) | fail)
    have HC0 : Hid (Blk W2 w.heap.size [fateF xc xr] 101) := HB0.out.kp hk2 (Blk.ne HB0.out HBA.out (by decide))
    have HC1 : Hid (Blk W2 (w.heap.size + 1) [.int .i64 6, .int .i64 o', .float .f64 x, .string s, .bool bb, .int .i64 ff, .int .i64 c1, .int .i64 r1, .bool p1, .bool q1, .int .i64 c2, .int .i64 r2, .bool p2, .bool q2, sl] 44) := HB1.out.kp hk2 (Blk.ne HB1.out HBA.out (by decide))
    have HC2 : Hid (Blk W2 (w.heap.size + 1 + 1) [.int .i64 0, .int .i64 0, .float .f64 0, .string ⟨#[]⟩, .bool false, .int .i64 0, .int .i64 0, .int .i64 0, .bool false, .bool false, .int .i64 0, .int .i64 0, .bool false, .bool false, .slice none 0 0] 44) := HB2.out.kp hk2 (Blk.ne HB2.out HBA.out (by decide))
    have HCA : Hid (Blk W2 w1.heap.size [.int .i64 c1, .int .i64 r1, .int .i64 c2, .int .i64 r2] 34) := hbA2
    have KW2 : Hid (Kp w W2 Nul) := KW1.out.trans' hk2 (fun i hi e => by have : i = w1.heap.size := e; have := HSZ.out; omega)
    clear hk2 hbA2 HB0 HB1 HB2 HBA KW1 d0 d10 d11 e0 e1 e2 e3 f0
    refine (HFr.out _ KW2.out).mono ?_
    rintro e W3 ⟨rfl, hk3⟩
    have HD1 : Hid (Blk W3 (w.heap.size + 1) [.int .i64 6, .int .i64 o', .float .f64 x, .string s, .bool bb, .int .i64 ff, .int .i64 c1, .int .i64 r1, .bool p1, .bool q1, .int .i64 c2, .int .i64 r2, .bool p2, .bool q2, sl] 44) := HC1.out.kp hk3 (fun x => x)
    have HD2 : Hid (Blk W3 (w.heap.size + 1 + 1) [.int .i64 0, .int .i64 0, .float .f64 0, .string ⟨#[]⟩, .bool false, .int .i64 0, .int .i64 0, .int .i64 0, .bool false, .bool false, .int .i64 0, .int .i64 0, .bool false, .bool false, .slice none 0 0] 44) := HC2.out.kp hk3 (fun x => x)
    have HDA : Hid (Blk W3 w1.heap.size [.int .i64 c1, .int .i64 r1, .int .i64 c2, .int .i64 r2] 34) := HCA.out.kp hk3 (fun x => x)
    have KW3 : Hid (Kp w W3 Nul) := KW2.out.trans hk3
    clear hk3 HC0 HC1 HC2 HCA KW2 HFr HA
    have LE : Hid (∀ i, i = (w.heap.size + 1) ∨ i = (w.heap.size + 1 + 1) ∨ i = w1.heap.size → ¬ i < w.heap.size) := fun i hi => by have := HSZ.out; omega
    cases R with
    | none =>
      simp only [fateV, fateA, Option.isSome]
      go_wp2_with (first
        | (refine wpList_store_blk rfl 34 (.tmp 5) (.tmp 23) rfl w1.heap.size _ [.int .i64 0, .int .i64 0, .int .i64 0, .int .i64 0] _ HDA.out rfl rfl rfl infoArea (ints4 _ _ _ _) ?_; intro W4 hbA4 hk4; have HE2 : Hid (Blk W4 (w.heap.size + 1 + 1) [.int .i64 0, .int .i64 0, .float .f64 0, .string ⟨#[]⟩, .bool false, .int .i64 0, .int .i64 0, .int .i64 0, .bool false, .bool false, .int .i64 0, .int .i64 0, .bool false, .bool false, .slice none 0 0] 44) := HD2.out.kp hk4 (Blk.ne HD2.out HDA.out (by decide)))
        | (refine wpList_store_blk rfl 44 (.tmp 4) (.tmp 27) rfl (w.heap.size + 1 + 1) _ [.int .i64 4, .int .i64 0, .float .f64 0, .string ⟨#[]⟩, .bool false, .int .i64 4, .int .i64 0, .int .i64 0, .bool false, .bool false, .int .i64 0, .int .i64 0, .bool false, .bool false, .slice none 0 0] _ HE2.out rfl rfl rfl infoNode (Hd.one ⟨4, 0, 0, ⟨#[]⟩, false, 4, 0, 0, false, false, 0, 0, false, false⟩ rfl) ?_; intro W5 hb5 hk5)
        | fail)
      refine bodyPost_ret (results_cell_row rfl _ _ (w.heap.size + 1 + 1) 44 _ (0, 0) _ rfl hb5 Tryz.underlying44 rfl infoNode) rfl ?_
      refine ⟨rfl, (KW3.out.trans' hk4 (fun i hi e => LE.out i (.inr (.inr e)) hi)).trans' hk5 (fun i hi e => LE.out i (.inr (.inl e)) hi)⟩
    | some b =>
      obtain ⟨⟨b1, s1⟩, ⟨b2, s2⟩⟩ := b
      simp only [fateV, fateA, Option.isSome]
      go_wp2_with (first
        | (refine wpList_store_blk rfl 34 (.tmp 5) (.tmp 23) rfl w1.heap.size _ [.int .i64 b1, .int .i64 s1, .int .i64 b2, .int .i64 s2] _ HDA.out rfl rfl rfl infoArea (ints4 _ _ _ _) ?_; intro W4 hbA4 hk4; have HE1 : Hid (Blk W4 (w.heap.size + 1) [.int .i64 6, .int .i64 o', .float .f64 x, .string s, .bool bb, .int .i64 ff, .int .i64 c1, .int .i64 r1, .bool p1, .bool q1, .int .i64 c2, .int .i64 r2, .bool p2, .bool q2, sl] 44) := HD1.out.kp hk4 (Blk.ne HD1.out HDA.out (by decide)); have HE2 : Hid (Blk W4 (w.heap.size + 1 + 1) [.int .i64 0, .int .i64 0, .float .f64 0, .string ⟨#[]⟩, .bool false, .int .i64 0, .int .i64 0, .int .i64 0, .bool false, .bool false, .int .i64 0, .int .i64 0, .bool false, .bool false, .slice none 0 0] 44) := HD2.out.kp hk4 (Blk.ne HD2.out HDA.out (by decide)); have e0 : W4.cell? ⟨w1.heap.size, 0, none⟩ = some (.int .i64 b1) := hbA4.cell rfl; have e1 : W4.cell? ⟨w1.heap.size, 1, none⟩ = some (.int .i64 s1) := hbA4.cell rfl)
        | (refine wpList_store_part rfl 32 (.tmp 31) (.tmp 29) rfl (w.heap.size + 1) 6 [.int .i64 6, .int .i64 o', .float .f64 x, .string s, .bool bb, .int .i64 ff] [.int .i64 c1, .int .i64 r1] [.bool p1, .bool q1, .int .i64 c2, .int .i64 r2, .bool p2, .bool q2, sl] [.int .i64 b1, .int .i64 s1] _ HE1.out rfl rfl rfl rfl infoAddr2' (ints2 _ _) ?_; intro W5 hb5 hk5; have g0 : W5.cell? ⟨(w.heap.size + 1), 0, none⟩ = some (.int .i64 6) := hb5.cell rfl; have HF2 : Hid (Blk W5 (w.heap.size + 1 + 1) [.int .i64 0, .int .i64 0, .float .f64 0, .string ⟨#[]⟩, .bool false, .int .i64 0, .int .i64 0, .int .i64 0, .bool false, .bool false, .int .i64 0, .int .i64 0, .bool false, .bool false, .slice none 0 0] 44) := HE2.out.kp hk5 (by show ¬ (w.heap.size + 1 + 1) = (w.heap.size + 1); omega); have hbA5 := hbA4.kp hk5 (Blk.ne hbA4 HE1.out (by decide)); have e2 : W5.cell? ⟨w1.heap.size, 2, none⟩ = some (.int .i64 b2) := hbA5.cell rfl; have e3 : W5.cell? ⟨w1.heap.size, 3, none⟩ = some (.int .i64 s2) := hbA5.cell rfl)
        | (refine wpList_store_part rfl 32 (.tmp 38) (.tmp 36) rfl (w.heap.size + 1) 10 [.int .i64 6, .int .i64 o', .float .f64 x, .string s, .bool bb, .int .i64 ff, .int .i64 b1, .int .i64 s1, .bool p1, .bool q1] [.int .i64 c2, .int .i64 r2] [.bool p2, .bool q2, sl] [.int .i64 b2, .int .i64 s2] _ hb5 rfl rfl rfl rfl infoAddr2' (ints2 _ _) ?_; intro W6 hb6 hk6; have HG1 : Hid (Blk W6 (w.heap.size + 1) [.int .i64 6, .int .i64 o', .float .f64 x, .string s, .bool bb, .int .i64 ff, .int .i64 b1, .int .i64 s1, .bool p1, .bool q1, .int .i64 b2, .int .i64 s2, .bool p2, .bool q2, sl] 44) := hb6; have HG2 : Hid (Blk W6 (w.heap.size + 1 + 1) [.int .i64 0, .int .i64 0, .float .f64 0, .string ⟨#[]⟩, .bool false, .int .i64 0, .int .i64 0, .int .i64 0, .bool false, .bool false, .int .i64 0, .int .i64 0, .bool false, .bool false, .slice none 0 0] 44) := HF2.out.kp hk6 (by show ¬ (w.heap.size + 1 + 1) = (w.heap.size + 1); omega))
        | (refine wpList_load_mid rfl 44 (.tmp 3) rfl (w.heap.size + 1) 0 rfl [.int .i64 6, .int .i64 o', .float .f64 x, .string s, .bool bb, .int .i64 ff, .int .i64 b1, .int .i64 s1, .bool p1, .bool q1, .int .i64 b2, .int .i64 s2, .bool p2, .bool q2, sl] _ (blk_range HG1.out) Tryz.underlying44 rfl infoNode ?_)
        | (refine wpList_store_blk rfl 44 (.tmp 4) (.tmp 39) rfl (w.heap.size + 1 + 1) _ [.int .i64 6, .int .i64 o', .float .f64 x, .string s, .bool bb, .int .i64 ff, .int .i64 b1, .int .i64 s1, .bool p1, .bool q1, .int .i64 b2, .int .i64 s2, .bool p2, .bool q2, sl] _ HG2.out rfl rfl rfl infoNode (Hd.one ⟨6, o', x, s, bb, ff, b1, s1, p1, q1, b2, s2, p2, q2⟩ HO.out) ?_; intro W7 hb7 hk7)
        | fail)
      refine bodyPost_ret (results_cell_row rfl _ _ (w.heap.size + 1 + 1) 44 _ (0, 0) _ rfl hb7 Tryz.underlying44 rfl infoNode) rfl ?_
      exact ⟨rfl, (((KW3.out.trans' hk4 (fun i hi e => LE.out i (.inr (.inr e)) hi)).trans' hk5 (fun i hi e => LE.out i (.inl e) hi)).trans' hk6 (fun i hi e => LE.out i (.inl e) hi)).trans' hk7 (fun i hi e => LE.out i (.inr (.inl e)) hi)⟩
  · have hAr : nmA (Hd.mk k o' x s bb ff c1 r1 p1 q1 c2 r2 p2 q2) = ((c1, r1), (c1, r1)) := by unfold nmA; rw [if_neg (show ¬ k = 6 from hk6)]
    have hFr := HF.out ((c1, r1), (c1, r1))
    have HV : Hid (fateV (f ((c1, r1), (c1, r1))) = fateV (f ((c1, r1), (c1, r1)))) := rfl
    rw [show nmN f (Nd.mk (Hd.mk k o' x s bb ff c1 r1 p1 q1 c2 r2 p2 q2) ts) = (match f ((c1, r1), (c1, r1)) with | none => ndF | some a => .mk (toH (Hd.mk k o' x s bb ff c1 r1 p1 q1 c2 r2 p2 q2) a) ts) by unfold nmN; rw [← hAr]; rfl]
    rw [show nmS f (Hd.mk k o' x s bb ff c1 r1 p1 q1 c2 r2 p2 q2) sl = (match f ((c1, r1), (c1, r1)) with | none => .slice none 0 0 | some _ => sl) by unfold nmS; rw [← hAr]]
    have HFr : Hid (∀ wq, Kp w wq Nul → Calls Tryz.prog 99 #[.agg #[.slice (some ⟨xc, 0, none⟩) 2 2, .slice (some ⟨xr, 0, none⟩) 2 2], .agg #[.int .i64 c1, .int .i64 r1, .int .i64 c1, .int .i64 r1]] wq fun e w' => e = .returned (fateV (f ((c1, r1), (c1, r1)))) ∧ Kp wq w' Nul) := hFr
    clear hAr hFr HF HV
    generalize f ((c1, r1), (c1, r1)) = R at *
    go_enter Tryz.func101, Tryz.ntmps101
    go_wp2_with fail
    obtain ⟨W0, hW0⟩ : ∃ W0, ((w.alloc (.cells #[fateF xc xr] 101)).alloc (.cells #[.int .i64 k, .int .i64 o', .float .f64 x, .string s, .bool bb, .int .i64 ff, .int .i64 c1, .int .i64 r1, .bool p1, .bool q1, .int .i64 c2, .int .i64 r2, .bool p2, .bool q2, sl] 44)).alloc (.cells #[.int .i64 0, .int .i64 0, .float .f64 0, .string ⟨#[]⟩, .bool false, .int .i64 0, .int .i64 0, .int .i64 0, .bool false, .bool false, .int .i64 0, .int .i64 0, .bool false, .bool false, .slice none 0 0] 44) = W0 := ⟨_, rfl⟩
    rw [hW0]
    have k0 : Kp w W0 Nul := by rw [← hW0]; exact (((Kp.refl w Nul).alloc _).alloc _).alloc _
    have b0 : Blk W0 w.heap.size [fateF xc xr] 101 := by rw [← hW0]; exact ((Blk.new w _ _).alloc _).alloc _
    have b1 : Blk W0 (w.heap.size + 1) [.int .i64 k, .int .i64 o', .float .f64 x, .string s, .bool bb, .int .i64 ff, .int .i64 c1, .int .i64 r1, .bool p1, .bool q1, .int .i64 c2, .int .i64 r2, .bool p2, .bool q2, sl] 44 := by
      rw [← hW0]
      have := Blk.new (w.alloc (.cells #[fateF xc xr] 101)) [.int .i64 k, .int .i64 o', .float .f64 x, .string s, .bool bb, .int .i64 ff, .int .i64 c1, .int .i64 r1, .bool p1, .bool q1, .int .i64 c2, .int .i64 r2, .bool p2, .bool q2, sl] 44
      rw [World.size_alloc] at this
      exact this.alloc _
    have b2 : Blk W0 (w.heap.size + 1 + 1) [.int .i64 0, .int .i64 0, .float .f64 0, .string ⟨#[]⟩, .bool false, .int .i64 0, .int .i64 0, .int .i64 0, .bool false, .bool false, .int .i64 0, .int .i64 0, .bool false, .bool false, .slice none 0 0] 44 := by
      rw [← hW0]
      have := Blk.new ((w.alloc (.cells #[fateF xc xr] 101)).alloc (.cells #[.int .i64 k, .int .i64 o', .float .f64 x, .string s, .bool bb, .int .i64 ff, .int .i64 c1, .int .i64 r1, .bool p1, .bool q1, .int .i64 c2, .int .i64 r2, .bool p2, .bool q2, sl] 44)) [.int .i64 0, .int .i64 0, .float .f64 0, .string ⟨#[]⟩, .bool false, .int .i64 0, .int .i64 0, .int .i64 0, .bool false, .bool false, .int .i64 0, .int .i64 0, .bool false, .bool false, .slice none 0 0] 44
      rw [World.size_alloc, World.size_alloc] at this
      exact this
    clear hW0
    refine (HA.out c1 r1 _).mono ?_
    rintro e w1 ⟨rfl, hk1⟩
    have K1 : Hid (Kp w w1 Nul) := k0.trans hk1
    have hsz : w.heap.size + 3 ≤ w1.heap.size := by have := (b2.kp hk1 (fun x => x)).lt; omega
    obtain ⟨W1, hW1⟩ : ∃ W1, w1.alloc (.cells #[.int .i64 c1, .int .i64 r1, .int .i64 c1, .int .i64 r1] 34) = W1 := ⟨_, rfl⟩
    have k1a : Kp w1 W1 Nul := by rw [← hW1]; exact (Kp.refl _ _).alloc _
    have bA : Blk W1 w1.heap.size [.int .i64 c1, .int .i64 r1, .int .i64 c1, .int .i64 r1] 34 := by rw [← hW1]; exact Blk.new _ _ _
    have k01 := hk1.trans k1a
    have HB0 : Hid (Blk W1 w.heap.size [fateF xc xr] 101) := b0.kp k01 (fun x => x)
    have HB1 : Hid (Blk W1 (w.heap.size + 1) [.int .i64 k, .int .i64 o', .float .f64 x, .string s, .bool bb, .int .i64 ff, .int .i64 c1, .int .i64 r1, .bool p1, .bool q1, .int .i64 c2, .int .i64 r2, .bool p2, .bool q2, sl] 44) := b1.kp k01 (fun x => x)
    have HB2 : Hid (Blk W1 (w.heap.size + 1 + 1) [.int .i64 0, .int .i64 0, .float .f64 0, .string ⟨#[]⟩, .bool false, .int .i64 0, .int .i64 0, .int .i64 0, .bool false, .bool false, .int .i64 0, .int .i64 0, .bool false, .bool false, .slice none 0 0] 44) := b2.kp k01 (fun x => x)
    have HBA : Hid (Blk W1 w1.heap.size [.int .i64 c1, .int .i64 r1, .int .i64 c1, .int .i64 r1] 34) := bA
    have KW1 : Hid (Kp w W1 Nul) := K1.out.trans k1a
    have HSZ : Hid (w.heap.size + 3 ≤ w1.heap.size) := hsz
    have d0 : W1.cell? ⟨(w.heap.size + 1), 0, none⟩ = some (.int .i64 k) := HB1.out.cell rfl
    have d10 : W1.cell? ⟨(w.heap.size + 1), 10, none⟩ = some (.int .i64 c2) := HB1.out.cell rfl
    have d11 : W1.cell? ⟨(w.heap.size + 1), 11, none⟩ = some (.int .i64 r2) := HB1.out.cell rfl
    clear k0 b0 b1 b2 hk1 hsz k1a bA k01
    have e0 : W1.cell? ⟨w1.heap.size, 0, none⟩ = some (.int .i64 c1) := HBA.out.cell rfl
    have e1 : W1.cell? ⟨w1.heap.size, 1, none⟩ = some (.int .i64 r1) := HBA.out.cell rfl
    have e2 : W1.cell? ⟨w1.heap.size, 2, none⟩ = some (.int .i64 c1) := HBA.out.cell rfl
    have e3 : W1.cell? ⟨w1.heap.size, 3, none⟩ = some (.int .i64 r1) := HBA.out.cell rfl
    have f0 : W1.cell? ⟨w.heap.size, 0, none⟩ = some (fateF xc xr) := HB0.out.cell rfl
    go_wp2_with fail
    have HC0 := HB0
    have HC1 := HB1
    have HC2 := HB2
    have HCA := HBA
    have KW2 := KW1
    clear HB0 HB1 HB2 HBA KW1 d0 d10 d11 e0 e1 e2 e3 f0
    refine (HFr.out _ KW2.out).mono ?_
    rintro e W3 ⟨rfl, hk3⟩
    have HD1 : Hid (Blk W3 (w.heap.size + 1) [.int .i64 k, .int .i64 o', .float .f64 x, .string s, .bool bb, .int .i64 ff, .int .i64 c1, .int .i64 r1, .bool p1, .bool q1, .int .i64 c2, .int .i64 r2, .bool p2, .bool q2, sl] 44) := HC1.out.kp hk3 (fun x => x)
    have HD2 : Hid (Blk W3 (w.heap.size + 1 + 1) [.int .i64 0, .int .i64 0, .float .f64 0, .string ⟨#[]⟩, .bool false, .int .i64 0, .int .i64 0, .int .i64 0, .bool false, .bool false, .int .i64 0, .int .i64 0, .bool false, .bool false, .slice none 0 0] 44) := HC2.out.kp hk3 (fun x => x)
    have HDA : Hid (Blk W3 w1.heap.size [.int .i64 c1, .int .i64 r1, .int .i64 c1, .int .i64 r1] 34) := HCA.out.kp hk3 (fun x => x)
    have KW3 : Hid (Kp w W3 Nul) := KW2.out.trans hk3
    clear hk3 HC0 HC1 HC2 HCA KW2 HFr HA
    have LE : Hid (∀ i, i = (w.heap.size + 1) ∨ i = (w.heap.size + 1 + 1) ∨ i = w1.heap.size → ¬ i < w.heap.size) := fun i hi => by have := HSZ.out; omega
    cases R with
    | none =>
      simp only [fateV, fateA, Option.isSome]
      go_wp2_with (first
        | (refine wpList_store_blk rfl 34 (.tmp 5) (.tmp 23) rfl w1.heap.size _ [.int .i64 0, .int .i64 0, .int .i64 0, .int .i64 0] _ HDA.out rfl rfl rfl infoArea (ints4 _ _ _ _) ?_; intro W4 hbA4 hk4; have HE2 : Hid (Blk W4 (w.heap.size + 1 + 1) [.int .i64 0, .int .i64 0, .float .f64 0, .string ⟨#[]⟩, .bool false, .int .i64 0, .int .i64 0, .int .i64 0, .bool false, .bool false, .int .i64 0, .int .i64 0, .bool false, .bool false, .slice none 0 0] 44) := HD2.out.kp hk4 (Blk.ne HD2.out HDA.out (by decide)))
        | (refine wpList_store_blk rfl 44 (.tmp 4) (.tmp 27) rfl (w.heap.size + 1 + 1) _ [.int .i64 4, .int .i64 0, .float .f64 0, .string ⟨#[]⟩, .bool false, .int .i64 4, .int .i64 0, .int .i64 0, .bool false, .bool false, .int .i64 0, .int .i64 0, .bool false, .bool false, .slice none 0 0] _ HE2.out rfl rfl rfl infoNode (Hd.one ⟨4, 0, 0, ⟨#[]⟩, false, 4, 0, 0, false, false, 0, 0, false, false⟩ rfl) ?_; intro W5 hb5 hk5)
        | fail)
      refine bodyPost_ret (results_cell_row rfl _ _ (w.heap.size + 1 + 1) 44 _ (0, 0) _ rfl hb5 Tryz.underlying44 rfl infoNode) rfl ?_
      refine ⟨rfl, (KW3.out.trans' hk4 (fun i hi e => LE.out i (.inr (.inr e)) hi)).trans' hk5 (fun i hi e => LE.out i (.inr (.inl e)) hi)⟩
    | some b =>
      obtain ⟨⟨b1, s1⟩, ⟨b2, s2⟩⟩ := b
      simp only [fateV, fateA, Option.isSome]
      go_wp2_with (first
        | (refine wpList_store_blk rfl 34 (.tmp 5) (.tmp 23) rfl w1.heap.size _ [.int .i64 b1, .int .i64 s1, .int .i64 b2, .int .i64 s2] _ HDA.out rfl rfl rfl infoArea (ints4 _ _ _ _) ?_; intro W4 hbA4 hk4; have HE1 : Hid (Blk W4 (w.heap.size + 1) [.int .i64 k, .int .i64 o', .float .f64 x, .string s, .bool bb, .int .i64 ff, .int .i64 c1, .int .i64 r1, .bool p1, .bool q1, .int .i64 c2, .int .i64 r2, .bool p2, .bool q2, sl] 44) := HD1.out.kp hk4 (Blk.ne HD1.out HDA.out (by decide)); have HE2 : Hid (Blk W4 (w.heap.size + 1 + 1) [.int .i64 0, .int .i64 0, .float .f64 0, .string ⟨#[]⟩, .bool false, .int .i64 0, .int .i64 0, .int .i64 0, .bool false, .bool false, .int .i64 0, .int .i64 0, .bool false, .bool false, .slice none 0 0] 44) := HD2.out.kp hk4 (Blk.ne HD2.out HDA.out (by decide)); have e0 : W4.cell? ⟨w1.heap.size, 0, none⟩ = some (.int .i64 b1) := hbA4.cell rfl; have e1 : W4.cell? ⟨w1.heap.size, 1, none⟩ = some (.int .i64 s1) := hbA4.cell rfl)
        | (refine wpList_store_part rfl 32 (.tmp 31) (.tmp 29) rfl (w.heap.size + 1) 6 [.int .i64 k, .int .i64 o', .float .f64 x, .string s, .bool bb, .int .i64 ff] [.int .i64 c1, .int .i64 r1] [.bool p1, .bool q1, .int .i64 c2, .int .i64 r2, .bool p2, .bool q2, sl] [.int .i64 b1, .int .i64 s1] _ HE1.out rfl rfl rfl rfl infoAddr2' (ints2 _ _) ?_; intro W5 hb5 hk5; have g0 : W5.cell? ⟨(w.heap.size + 1), 0, none⟩ = some (.int .i64 k) := hb5.cell rfl; have HF2 : Hid (Blk W5 (w.heap.size + 1 + 1) [.int .i64 0, .int .i64 0, .float .f64 0, .string ⟨#[]⟩, .bool false, .int .i64 0, .int .i64 0, .int .i64 0, .bool false, .bool false, .int .i64 0, .int .i64 0, .bool false, .bool false, .slice none 0 0] 44) := HE2.out.kp hk5 (by show ¬ (w.heap.size + 1 + 1) = (w.heap.size + 1); omega); have hbA5 := hbA4.kp hk5 (Blk.ne hbA4 HE1.out (by decide)); have e2 : W5.cell? ⟨w1.heap.size, 2, none⟩ = some (.int .i64 b2) := hbA5.cell rfl; have e3 : W5.cell? ⟨w1.heap.size, 3, none⟩ = some (.int .i64 s2) := hbA5.cell rfl; have HG1 : Hid (Blk W5 (w.heap.size + 1) [.int .i64 k, .int .i64 o', .float .f64 x, .string s, .bool bb, .int .i64 ff, .int .i64 b1, .int .i64 s1, .bool p1, .bool q1, .int .i64 c2, .int .i64 r2, .bool p2, .bool q2, sl] 44) := hb5; have HG2 : Hid (Blk W5 (w.heap.size + 1 + 1) [.int .i64 0, .int .i64 0, .float .f64 0, .string ⟨#[]⟩, .bool false, .int .i64 0, .int .i64 0, .int .i64 0, .bool false, .bool false, .int .i64 0, .int .i64 0, .bool false, .bool false, .slice none 0 0] 44) := HF2.out)
        | (refine wpList_load_mid rfl 44 (.tmp 3) rfl (w.heap.size + 1) 0 rfl [.int .i64 k, .int .i64 o', .float .f64 x, .string s, .bool bb, .int .i64 ff, .int .i64 b1, .int .i64 s1, .bool p1, .bool q1, .int .i64 c2, .int .i64 r2, .bool p2, .bool q2, sl] _ (blk_range HG1.out) Tryz.underlying44 rfl infoNode ?_)
        | (refine wpList_store_blk rfl 44 (.tmp 4) (.tmp 39) rfl (w.heap.size + 1 + 1) _ [.int .i64 k, .int .i64 o', .float .f64 x, .string s, .bool bb, .int .i64 ff, .int .i64 b1, .int .i64 s1, .bool p1, .bool q1, .int .i64 c2, .int .i64 r2, .bool p2, .bool q2, sl] _ HG2.out rfl rfl rfl infoNode (Hd.one ⟨k, o', x, s, bb, ff, b1, s1, p1, q1, c2, r2, p2, q2⟩ HO.out) ?_; intro W7 hb7 hk7)
        | fail)
      refine bodyPost_ret (results_cell_row rfl _ _ (w.heap.size + 1 + 1) 44 _ (0, 0) _ rfl hb7 Tryz.underlying44 rfl infoNode) rfl ?_
      refine ⟨?_, ((KW3.out.trans' hk4 (fun i hi e => LE.out i (.inr (.inr e)) hi)).trans' hk5 (fun i hi e => LE.out i (.inl e) hi)).trans' hk7 (fun i hi e => LE.out i (.inr (.inl e)) hi)⟩
      show Ending.returned _ = Ending.returned ((toH (Hd.mk k o' x s bb ff c1 r1 p1 q1 c2 r2 p2 q2) ((b1, s1), (b2, s2))).val sl)
      unfold toH
      rw [if_neg (show ¬ k = 6 from hk6)]
end Go.Proofs.YtbkcebbddhaifaaGreatDoor
namespace Go.Proofs.YtbkcebbddhaifaaGreatDoor
open Go.RowKit

mutual
theorem NdOwn.node {w : World} {sl : Value} : ∀ {t : Nd} {fp : List Nat}, NdOwn w sl t fp → ∀ b ∈ fp, ∃ cs : Array Value, w.heap[b]? = some (.cells cs 44 (0, 0))
  | .mk _ ts, fp, h, b, hb => by
    rw [NdOwn] at h
    rcases h with ⟨_, _, rfl⟩ | ⟨b', c, fps, cs, _, _, _, _, h5, _, rfl, h8⟩
    · simp at hb
    · rcases List.mem_cons.1 hb with rfl | hb
      · exact ⟨cs, h5⟩
      · exact NdsOwn.node h8 b hb
theorem NdsOwn.node {w : World} {b' : Nat} : ∀ {ts : List Nd} {o : Nat} {fp : List Nat}, NdsOwn w b' o ts fp → ∀ b ∈ fp, ∃ cs : Array Value, w.heap[b]? = some (.cells cs 44 (0, 0))
  | [], _, fp, h, b, hb => by rw [NdsOwn] at h; subst h; simp at hb
  | t :: ts, o, fp, h, b, hb => by
    rw [NdsOwn] at h
    obtain ⟨sl, f1, f2, _, h2, rfl, h4⟩ := h
    rcases List.mem_append.1 hb with hb | hb
    · exact NdOwn.node h2 b hb
    · exact NdsOwn.node h4 b hb
end
theorem node_lt {w : World} {b : Nat} (h : ∃ cs : Array Value, w.heap[b]? = some (.cells cs 44 (0, 0))) : b < w.heap.size := by
  obtain ⟨cs, h⟩ := h
  exact (Array.getElem?_eq_some_iff.1 h).1
/-- Behind k rounds: the first k nodes have gone along. -/
structure AlAt (f : Fate) (w wr : World) (b c k : Nat) (ts : List Nd) (fps fa fb : List Nat) : Prop where
  kp : Kp w wr (fun i => i ∈ b :: fps)
  row : ∃ cs : Array Value, wr.heap[b]? = some (.cells cs 44 (0, 0)) ∧ cs.size = c * 15
  done : NdsOwn wr b 0 (alL f (ts.take k)) fa
  rest : NdsOwn wr b (k * 15) (ts.drop k) fb
  sub : ∃ fA, fps = fA ++ fb ∧ fa.Sublist fA
theorem AlAt.start {f : Fate} {w : World} {b c : Nat} {ts : List Nd} {fps : List Nat} {cs : Array Value} (h1 : w.heap[b]? = some (.cells cs 44 (0, 0))) (h2 : cs.size = c * 15) (h : NdsOwn w b 0 ts fps) : AlAt f w w b c 0 ts fps [] fps :=
  ⟨Kp.refl _ _, ⟨cs, h1, h2⟩, by rw [List.take_zero, alL, NdsOwn], by simpa using h, [], rfl, List.Sublist.refl _⟩
theorem AlAt.nul {f : Fate} {w wr w' : World} {b c k : Nat} {ts : List Nd} {fps fa fb : List Nat} (h : AlAt f w wr b c k ts fps fa fb) (g : Kp wr w' Nul) : AlAt f w w' b c k ts fps fa fb := by
  have hb : w'.heap[b]? = wr.heap[b]? := by
    obtain ⟨cs, h1, _⟩ := h.row
    exact g.block b (Array.getElem?_eq_some_iff.1 h1).1 (fun x => x)
  refine ⟨h.kp.trans (g.mono (fun _ _ x => x.elim)), ?_, ?_, ?_, h.sub⟩
  · obtain ⟨cs, h1, h2⟩ := h.row
    exact ⟨cs, hb.trans h1, h2⟩
  · exact h.done.mono (fun o' cs' _ _ hr => rangeAt_block hr hb) (fun i hi => g.block i (node_lt (h.done.node i hi)) (fun x => x))
  · exact h.rest.mono (fun o' cs' _ _ hr => rangeAt_block hr hb) (fun i hi => g.block i (node_lt (h.rest.node i hi)) (fun x => x))
/-- The next node. -/
theorem AlAt.next {f : Fate} {w wr : World} {b c k : Nat} {ts : List Nd} {fps fa fb : List Nat} (h : AlAt f w wr b c k ts fps fa fb) (hk : k < ts.length) : ∃ sl f1 f2, wr.rangeAt b (k * 15) ((ts[k]).hd.cells sl) ∧ NdOwn wr sl ts[k] f1 ∧ fb = f1 ++ f2 ∧ NdsOwn wr b ((k + 1) * 15) (ts.drop (k + 1)) f2 := by
  have h1 := h.rest
  rw [List.drop_eq_getElem_cons hk, NdsOwn] at h1
  obtain ⟨sl, f1, f2, h2, h3, h4, h5⟩ := h1
  exact ⟨sl, f1, f2, h2, h3, h4, by rw [show (k + 1) * 15 = k * 15 + 15 by omega]; exact h5⟩
theorem AlAt.step {f : Fate} {w wr w1 : World} {b c k : Nat} {ts : List Nd} {fps fa fb f1 f2 f1' : List Nat} (h : AlAt f w wr b c k ts fps fa fb) (hk : k < ts.length) (hc : ts.length ≤ c) (hn : (b :: fps).Nodup) (hfb : fb = f1 ++ f2) (hrest : NdsOwn wr b ((k + 1) * 15) (ts.drop (k + 1)) f2)
    {sl' : Value} (g : Kp wr w1 (fun i => i ∈ f1)) (hu : NdOwn w1 sl' (alN f ts[k]) f1') (hs : f1'.Sublist f1) :
    AlAt f w (w1.setCells b (k * 15) ((alN f ts[k]).hd.cells sl')) b c (k + 1) ts fps (fa ++ f1') f2 := by
  obtain ⟨fA, e1, e2⟩ := h.sub
  obtain ⟨cs, r1, r2⟩ := h.row
  have hblt := (Array.getElem?_eq_some_iff.1 r1).1
  rw [List.nodup_cons] at hn
  obtain ⟨hb0, hn⟩ := hn
  rw [e1, hfb] at hn hb0
  have hbA : b ∉ fA := fun q => hb0 (List.mem_append_left _ q)
  have hb1 : b ∉ f1 := fun q => hb0 (List.mem_append_right _ (List.mem_append_left _ q))
  have hb2 : b ∉ f2 := fun q => hb0 (List.mem_append_right _ (List.mem_append_right _ q))
  rw [List.nodup_append] at hn
  obtain ⟨_, hn2, hn3⟩ := hn
  rw [List.nodup_append] at hn2
  have d1 : ∀ i ∈ fa, i ∉ f1 := fun i hi q => hn3 i (e2.subset hi) i (List.mem_append_left _ q) rfl
  have d2 : ∀ i ∈ f2, i ∉ f1 := fun i hi q => hn2.2.2 i q i hi rfl
  have hA : w1.heap[b]? = some (.cells cs 44 (0, 0)) := (g.block b hblt hb1).trans r1
  have hth : w1.there b (k * 15) 15 := there_of_block hA _ _ (by omega)
  have hne : ∀ i, i ≠ b → (w1.setCells b (k * 15) ((alN f ts[k]).hd.cells sl')).heap[i]? = w1.heap[i]? := fun i hi => heap_setCells_ne hi _ _ _
  refine ⟨?_, ?_, ?_, ?_, ?_⟩
  · refine (h.kp.trans (g.mono (fun i _ q => ?_))).trans (setCells_kp _ (by show b ∈ b :: fps; exact List.mem_cons_self) _ _ _)
    show i ∈ b :: fps
    rw [e1, hfb]
    exact List.mem_cons_of_mem _ (List.mem_append_right _ (List.mem_append_left _ q))
  · exact ⟨_, heap_setCells_at _ _ _ _ hA, by rw [setAll_size, r2]⟩
  · have o1 : NdsOwn w1 b 0 (alL f (ts.take k)) fa := h.done.mono (fun o' cs' _ _ hr => rangeAt_block hr (hA.trans r1.symm)) (fun i hi => g.block i (node_lt (h.done.node i hi)) (d1 i hi))
    have hl : (alL f (ts.take k)).length = k := by rw [alL_len, List.length_take]; omega
    have o2 : NdsOwn (w1.setCells b (k * 15) ((alN f ts[k]).hd.cells sl')) b 0 (alL f (ts.take k)) fa := by
      refine o1.mono (fun o' cs' _ q hr => ?_) (fun i hi => hne i (fun e => hbA (e ▸ e2.subset hi)))
      exact World.rangeAt_setCells_apart hr _ _ _ (.inr (.inl (by rw [hl] at q; omega)))
    have e : alL f (ts.take (k + 1)) = alL f (ts.take k) ++ [alN f ts[k]] := by
      rw [alL_map, alL_map, List.take_add_one, List.getElem?_eq_getElem hk, List.map_append]; rfl
    rw [e]
    refine NdsOwn.snoc (sl := sl') (hu.mono (fun i hi => hne i (fun e => hb1 (e ▸ hs.subset hi)))) o2 ?_
    rw [hl, Nat.zero_add]
    exact World.rangeAt_setCells_same _ _ _ _ (by simpa using hth)
  · have o1 : NdsOwn w1 b ((k + 1) * 15) (ts.drop (k + 1)) f2 := hrest.mono (fun o' cs' _ _ hr => rangeAt_block hr (hA.trans r1.symm)) (fun i hi => g.block i (node_lt (hrest.node i hi)) (d2 i hi))
    refine o1.mono (fun o' cs' q _ hr => ?_) (fun i hi => hne i (fun e => hb2 (e ▸ hi)))
    exact World.rangeAt_setCells_apart hr _ _ _ (.inr (.inr (by simp; omega)))
  · exact ⟨fA ++ f1, by rw [e1, hfb, List.append_assoc], e2.append hs⟩
theorem AlAt.fin {f : Fate} {w wr : World} {b c : Nat} {ts : List Nd} {fps fa fb : List Nat} (h : AlAt f w wr b c ts.length ts fps fa fb) (hne : ts ≠ []) (hc : ts.length ≤ c) (hm : c ≤ maxLen) (hd : Hd) : NdOwn wr (.slice (some ⟨b, 0, none⟩) ts.length c) (.mk hd (alL f ts)) (b :: fa) ∧ (b :: fa).Sublist (b :: fps) := by
  obtain ⟨cs, h1, h2⟩ := h.row
  have hd' := h.done
  rw [List.take_length] at hd'
  obtain ⟨fA, e1, e2⟩ := h.sub
  constructor
  · rw [NdOwn]
    refine .inr ⟨b, c, fa, cs, by rw [alL_len], ?_, by rw [alL_len]; exact hc, hm, h1, h2, rfl, hd'⟩
    intro e
    have := alL_len f ts
    rw [e] at this
    exact hne (List.length_eq_zero_iff.1 this.symm)
  · rw [e1]
    exact (e2.trans (List.sublist_append_left _ _)).cons_cons _
end Go.Proofs.YtbkcebbddhaifaaGreatDoor
