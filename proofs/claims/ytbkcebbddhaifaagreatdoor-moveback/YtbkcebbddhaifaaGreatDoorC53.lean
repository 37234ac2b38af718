/- Move: byLines, Rows, Cols. Move: Formula. Move: what known asks, plain. Move: known. Move: known, the walk. -/
import Derived.Test.YtbkcebbddhaifaaGreatDoorC52
import Derived.Deep.RegionHeld3
namespace Go.Proofs.YtbkcebbddhaifaaGreatDoor
open Go.RowKit

/-- What Rows and Cols answer. -/
inductive LnR (cols : Bool) (at' n : Int) (L : List Cc) (w w' : World) : Value → Prop
  | bad (h : ¬ lnOk cols at' n) (k : Kp w w' Nul) : LnR cols at' n L w w' (.tuple #[.pointer none, .int .i64 1])
  | off (h : lnOk cols at' n) (hn : 0 < n) (hl : lostB (lnF cols at' n) L = true) (k : Kp w w' Nul) : LnR cols at' n L w w' (.tuple #[.pointer none, .int .i64 20])
  | ok (h : lnOk cols at' n) (hl : ¬ (0 < n ∧ lostB (lnF cols at' n) L = true)) (g2 : Nat) (M : List Cc) (hb : BrR (lnF cols at' n) L w w' g2 M) : LnR cols at' n L w w' (.tuple #[.pointer (some ⟨g2, 0, none⟩), .int .i64 0])
set_option maxRecDepth 20000 in
set_option maxHeartbeats 8000000 in
theorem byLines_at (cols : Bool) (at' n : Int) (g : Nat) (L : List Cc) (w : World) (hg : GI 0 w g L) (hL : Ok17 L) (hv : VS w) :
    Calls Tryz.prog 71 #[.pointer (some ⟨g, 0, none⟩), .bool cols, .int .i64 at', .int .i64 n] w fun e w' => ∃ v, e = .returned v ∧ LnR cols at' n L w w' v := by
  by_cases hl : lnOk cols at' n
  · have HO : Hid (∀ w, Calls Tryz.prog 50 #[.bool cols, .int .i64 at', .int .i64 n] w fun e w' => ∃ xc xr, e = .returned (.tuple #[.agg #[fateF xc xr], .int .i64 0]) ∧ KeptIn w' xc xr cols at' n ∧ Kp w w' Nul) := fun w => ofLines_ok cols at' n hl w
    have HB : Hid (∀ xc xr wq, Kp w wq Nul → KeptIn wq xc xr cols at' n → Calls Tryz.prog 88 #[.agg #[fateF xc xr], .pointer (some ⟨g, 0, none⟩)] wq fun e w' => ∃ g2 M, e = .returned (.tuple #[.pointer (some ⟨g2, 0, none⟩), .bool (lostB (lnF cols at' n) L)]) ∧ BrR (lnF cols at' n) L wq w' g2 M) := fun xc xr wq k hk => brought_at xc xr cols at' n hl g L wq (hg.kp k) hL hk (hv.kp k)
    have HBR : Hid (∀ wq w' g2 M, Kp w wq Nul → BrR (lnF cols at' n) L wq w' g2 M → BrR (lnF cols at' n) L w w' g2 M) := fun wq w' g2 M k h => ⟨h.gi.mono (fun i hi => Nat.le_trans k.size hi), h.ok, h.mem, Nat.le_trans k.size h.lo, k.trans h.kp⟩
    have HL : Hid (lnOk cols at' n) := hl
    clear hl hg hL hv
    go_enter Tryz.func71, Tryz.ntmps71
    go_wp2_with fail
    refine (HO.out w).mono ?_
    rintro e w1 ⟨xc, xr, rfl, hk1, hkp1⟩
    have K1 : Hid (Kp w w1 Nul) := hkp1
    have HK1 : Hid (KeptIn w1 xc xr cols at' n) := hk1
    clear hk1 hkp1
    go_wp2_with fail
    refine (HB.out xc xr _ (K1.out.alloc _) (HK1.out.kp ((Kp.refl _ _).alloc _))).mono ?_
    rintro e w2 ⟨g2, M, rfl, hbr⟩
    have HBr : Hid (BrR (lnF cols at' n) L w w2 g2 M) := HBR.out _ w2 g2 M (K1.out.alloc _) hbr
    clear hbr HB HBR K1 HK1 HO
    obtain ⟨lo, hlo⟩ : ∃ lo, lostB (lnF cols at' n) L = lo := ⟨_, rfl⟩
    rw [hlo]
    have HLo : Hid (lostB (lnF cols at' n) L = lo) := hlo
    clear hlo
    by_cases hn : 0 < n
    · cases lo
      · go_wp2_with fail
        go_ret2
        first
        | exact ⟨_, rfl, .ok HL.out (fun q => by rw [HLo.out] at q; exact absurd q.2 (by decide)) g2 M HBr.out⟩
        | exact .ok HL.out (fun q => by rw [HLo.out] at q; exact absurd q.2 (by decide)) g2 M HBr.out
      · go_wp2_with fail
        go_ret2
        first
        | exact ⟨_, rfl, .off HL.out hn HLo.out HBr.out.kp⟩
        | exact .off HL.out hn HLo.out HBr.out.kp
    · have hn' : n ≤ 0 := by omega
      have hd : decide (0 < n) = false := by simp; omega
      cases lo <;>
      · go_wp2_with fail
        go_ret2
        refine ⟨.tuple #[.pointer (some ⟨g2, 0, none⟩), .int .i64 0], ?_, LnR.ok HL.out (fun q => by omega) g2 M HBr.out⟩
        first
        | rfl
        | simp
  · have HO : Hid (Calls Tryz.prog 50 #[.bool cols, .int .i64 at', .int .i64 n] w fun e w' => e = .returned (.tuple #[.agg #[.nilFunc], .int .i64 1]) ∧ Kp w w' Nul) := ofLines_no cols at' n hl w
    have HR : Hid (∀ w', Kp w w' Nul → LnR cols at' n L w w' (.tuple #[.pointer none, .int .i64 1])) := fun w' k => .bad hl k
    clear hl hg hL hv
    go_enter Tryz.func71, Tryz.ntmps71
    go_wp2_with fail
    refine HO.out.mono ?_
    rintro e w1 ⟨rfl, hkp1⟩
    have K1 : Hid (Kp w w1 Nul) := hkp1
    clear hkp1
    go_wp2_with fail
    go_ret2
    first
    | exact ⟨_, rfl, HR.out _ (K1.out.alloc _)⟩
    | exact HR.out _ (K1.out.alloc _)
set_option maxHeartbeats 4000000 in
theorem rows_at (at' n : Int) (g : Nat) (L : List Cc) (w : World) (hg : GI 0 w g L) (hL : Ok17 L) (hv : VS w) :
    Calls Tryz.prog 33 #[.pointer (some ⟨g, 0, none⟩), .int .i64 at', .int .i64 n] w fun e w' => ∃ v, e = .returned v ∧ LnR false at' n L w w' v := by
  have H : Hid (Calls Tryz.prog 71 #[.pointer (some ⟨g, 0, none⟩), .bool false, .int .i64 at', .int .i64 n] w fun e w' => ∃ v u, e = .returned (.tuple #[v, u]) ∧ LnR false at' n L w w' (.tuple #[v, u])) := (byLines_at false at' n g L w hg hL hv).mono (by
    rintro e w' ⟨v, rfl, h⟩
    cases h with
    | bad h k => exact ⟨_, _, rfl, .bad h k⟩
    | off h hn hl k => exact ⟨_, _, rfl, .off h hn hl k⟩
    | ok h hl g2 M hb => exact ⟨_, _, rfl, .ok h hl g2 M hb⟩)
  clear hg hL hv
  go_enter Tryz.func33, Tryz.ntmps33
  go_wp2_with fail
  refine H.out.mono ?_
  rintro e w1 ⟨v, u, rfl, h⟩
  have HR : Hid (LnR false at' n L w w1 (.tuple #[v, u])) := h
  clear h
  go_wp2_with fail
  go_ret2
  first
  | exact ⟨_, rfl, HR.out⟩
  | exact HR.out
set_option maxHeartbeats 4000000 in
theorem cols_at (at' n : Int) (g : Nat) (L : List Cc) (w : World) (hg : GI 0 w g L) (hL : Ok17 L) (hv : VS w) :
    Calls Tryz.prog 38 #[.pointer (some ⟨g, 0, none⟩), .int .i64 at', .int .i64 n] w fun e w' => ∃ v, e = .returned v ∧ LnR true at' n L w w' v := by
  have H : Hid (Calls Tryz.prog 71 #[.pointer (some ⟨g, 0, none⟩), .bool true, .int .i64 at', .int .i64 n] w fun e w' => ∃ v u, e = .returned (.tuple #[v, u]) ∧ LnR true at' n L w w' (.tuple #[v, u])) := (byLines_at true at' n g L w hg hL hv).mono (by
    rintro e w' ⟨v, rfl, h⟩
    cases h with
    | bad h k => exact ⟨_, _, rfl, .bad h k⟩
    | off h hn hl k => exact ⟨_, _, rfl, .off h hn hl k⟩
    | ok h hl g2 M hb => exact ⟨_, _, rfl, .ok h hl g2 M hb⟩)
  clear hg hL hv
  go_enter Tryz.func38, Tryz.ntmps38
  go_wp2_with fail
  refine H.out.mono ?_
  rintro e w1 ⟨v, u, rfl, h⟩
  have HR : Hid (LnR true at' n L w w1 (.tuple #[v, u])) := h
  clear h
  go_wp2_with fail
  go_ret2
  first
  | exact ⟨_, rfl, HR.out⟩
  | exact HR.out
end Go.Proofs.YtbkcebbddhaifaaGreatDoor
namespace Go.Proofs.YtbkcebbddhaifaaGreatDoor
open Go.RowKit

/-- What Formula answers. -/
inductive FmR (t : Nd) (cols : Bool) (at' n : Int) (w w' : World) : Value → Prop
  | err (er : Int) (he : er ≠ 0) (h : chk t ≠ 0 ∧ er = chk t ∨ chk t = 0 ∧ ¬ lnOk cols at' n ∧ er = 1) (k : Kp w w' Nul) : FmR t cols at' n w w' (.tuple #[zHd.val (.slice none 0 0), .int .i64 er])
  | ok (hc : chk t = 0) (hl : lnOk cols at' n) (sl' : Value) (fp : List Nat) (ho : Own w' w.heap.size sl' (alN (lnF cols at' n) (cpy t)) fp) (k : Kp w w' Nul) : FmR t cols at' n w w' (.tuple #[(alN (lnF cols at' n) (cpy t)).hd.val sl', .int .i64 0])
theorem chk_size {t : Nd} (h : chk t = 0) : t.size ≤ 256 := by
  unfold chk at h
  by_cases q : 256 < t.size
  · rw [if_pos q] at h; omega
  · omega
theorem results_row_tmp {P : Program} {fn : Func} {p u : Tmp} {ty : TypeId} (h : fn.results = #[.cell p ty, .tmp u]) (tmps : Array Value) (w : World) (g : Nat) (t : TypeId) (cs : Array Value) (fr : Nat × Nat) (d : TypeDesc)
    (hp : tmps.getD p undef = .pointer (some ⟨g, 0, none⟩)) (hg : w.heap[g]? = some (.cells cs t fr))
    (hu : P.underlying ty = some d) (hd : (match d with | .struct _ | .array _ _ => true | _ => false) = true) (hi : (P.info? ty).map (·.size) = some cs.size) :
    (results fn tmps).run P w = .ok (.tuple #[.agg cs, tmps.getD u undef]) w := by
  have hp' : tmps[p]?.getD undef = .pointer (some ⟨g, 0, none⟩) := by simpa using hp
  simp [results, h, hp', asAddr, run_loadVar_row w g t ty cs fr d hg hu hd hi]
theorem rangeAt_blk {w : World} {b : Nat} {cs : List Value} {t : TypeId} (h : w.heap[b]? = some (.cells cs.toArray t (0, 0))) : w.rangeAt b 0 cs := rangeAt_mid (pre := []) (l := cs) (post := []) (by simpa using h)
theorem own_al {f : Fate} {t : Nd} {fp fp' : List Nat} {w1 w2 : World} {B : Nat} {sl' : Value} (hn : fp.Nodup) (hb : ∀ b ∈ fp, B ≤ b) (h : AlR f t fp w1 w2 sl' fp') : Own w2 B sl' (alN f t) fp' :=
  ⟨h.own, h.sub.nodup hn, fun b hb' => ⟨hb b (h.sub.subset hb'), node_lt (h.own.node b hb')⟩⟩
set_option maxRecDepth 20000 in
set_option maxHeartbeats 8000000 in
theorem mform_at (t : Nd) (sl : Value) (F : Nat → Prop) (cols : Bool) (at' n : Int) (w : World) (hok : t.ok) (hin : NdIn w F sl t) (hv : VS w) :
    Calls Tryz.prog 13 #[t.hd.val sl, .bool cols, .int .i64 at', .int .i64 n] w fun e w' => ∃ v, e = .returned v ∧ FmR t cols at' n w w' v := by
  obtain ⟨W1, hW1⟩ : ∃ W1, (w.alloc (.cells (t.hd.cells sl).toArray 44)).alloc (.cells (zHd.cells (.slice none 0 0)).toArray 44) = W1 := ⟨_, rfl⟩
  have k1 : Kp w W1 Nul := by rw [← hW1]; exact ((Kp.refl w Nul).alloc _).alloc _
  have b1 : Blk W1 w.heap.size (t.hd.cells sl) 44 := by rw [← hW1]; exact (Blk.new w _ _).alloc _
  have b2 : Blk W1 (w.heap.size + 1) (zHd.cells (.slice none 0 0)) 44 := by
    rw [← hW1]
    have := Blk.new (w.alloc (.cells (t.hd.cells sl).toArray 44)) (zHd.cells (.slice none 0 0)) 44
    rw [World.size_alloc] at this
    exact this
  have HW1 : Hid ((w.alloc (.cells #[.int .i64 t.hd.k, .int .i64 t.hd.o, .float .f64 t.hd.x, .string t.hd.s, .bool t.hd.b, .int .i64 t.hd.f, .int .i64 t.hd.c1, .int .i64 t.hd.r1, .bool t.hd.p1, .bool t.hd.q1, .int .i64 t.hd.c2, .int .i64 t.hd.r2, .bool t.hd.p2, .bool t.hd.q2, sl] 44)).alloc (.cells #[.int .i64 0, .int .i64 0, .float .f64 0, .string ⟨#[]⟩, .bool false, .int .i64 0, .int .i64 0, .int .i64 0, .bool false, .bool false, .int .i64 0, .int .i64 0, .bool false, .bool false, .slice none 0 0] 44) = W1) := hW1
  have HC : Hid (∀ wq, Kp w wq Nul → Calls Tryz.prog 49 #[t.hd.val sl] wq fun e w' => e = .returned (.int .i64 (chk t)) ∧ Kp wq w' Nul) := fun wq hq => check_at t sl F wq hok (hin.kp hq (fun _ _ x => x)) (hv.kp hq)
  have HB1 : Hid (∀ wq, Kp W1 wq Nul → wq.heap[w.heap.size]? = some (.cells (t.hd.cells sl).toArray 44 (0, 0))) := fun wq hq => b1.kp hq (fun x => x)
  have HB2 : Hid (∀ wq, Kp W1 wq Nul → Blk wq (w.heap.size + 1) (zHd.cells (.slice none 0 0)) 44) := fun wq hq => b2.kp hq (fun x => x)
  have HK1 : Hid (Kp w W1 Nul) := k1
  have HEr : Hid (∀ er w', er ≠ 0 → (chk t ≠ 0 ∧ er = chk t ∨ chk t = 0 ∧ ¬ lnOk cols at' n ∧ er = 1) → Kp w w' Nul → FmR t cols at' n w w' (.tuple #[zHd.val (.slice none 0 0), .int .i64 er])) := fun er w' h1 h2 h3 => .err er h1 h2 h3
  have HON : Hid (¬ lnOk cols at' n → ∀ w, Calls Tryz.prog 50 #[.bool cols, .int .i64 at', .int .i64 n] w fun e w' => e = .returned (.tuple #[.agg #[.nilFunc], .int .i64 1]) ∧ Kp w w' Nul) := fun h w => ofLines_no cols at' n h w
  have HOY : Hid (lnOk cols at' n → ∀ w, Calls Tryz.prog 50 #[.bool cols, .int .i64 at', .int .i64 n] w fun e w' => ∃ xc xr, e = .returned (.tuple #[.agg #[fateF xc xr], .int .i64 0]) ∧ KeptIn w' xc xr cols at' n ∧ Kp w w' Nul) := fun h w => ofLines_ok cols at' n h w
  have HCp : Hid (chk t = 0 → ∀ wq, Kp w wq Nul → Calls Tryz.prog 12 #[t.hd.val sl] wq fun e w' => ∃ sl' fp, e = .returned ((cpy t).hd.val sl') ∧ Own w' wq.heap.size sl' (cpy t) fp ∧ Kp wq w' Nul) := fun h wq k => (copy_at t sl F wq (by have := chk_size h; omega) hok (hin.kp k (fun _ _ x => x))).mono (by
    rintro e w' ⟨sl', fp, h1, h2, h3⟩
    exact ⟨sl', fp, h1, h2, Kp.of_below h3⟩)
  have HAl : Hid (lnOk cols at' n → ∀ xc xr sl' fp wq, NdOwn wq sl' (cpy t) fp → fp.Nodup → KeptIn wq xc xr cols at' n → Calls Tryz.prog 51 #[.agg #[fateF xc xr], (cpy t).hd.val sl'] wq fun e w' => ∃ sl2 fp2, e = .returned ((alN (lnF cols at' n) (cpy t)).hd.val sl2) ∧ AlR (lnF cols at' n) (cpy t) fp wq w' sl2 fp2) := fun h xc xr sl' fp wq h1 h2 h3 => along_at xc xr cols at' n h (cpy t) sl' fp wq h1 h2 h3
  have HOk : Hid (chk t = 0 → lnOk cols at' n → ∀ w' sl' fp, Own w' w.heap.size sl' (alN (lnF cols at' n) (cpy t)) fp → Kp w w' Nul → FmR t cols at' n w w' (.tuple #[(alN (lnF cols at' n) (cpy t)).hd.val sl', .int .i64 0])) := fun h1 h2 w' sl' fp h3 h4 => .ok h1 h2 sl' fp h3 h4
  clear hW1 k1 b1 b2 hv hok hin
  generalize t.hd = h at *
  generalize hE : chk t = E at *
  clear hE
  go_enter Tryz.func13, Tryz.ntmps13
  go_wp2_with (first | (rw [HW1.out]; refine load_node_law rfl (.tmp 4) rfl w.heap.size rfl (h.cells sl).toArray (HB1.out _ (Kp.refl _ _)) rfl ?_) | fail)
  refine (HC.out _ HK1.out).mono ?_
  rintro e w2 ⟨rfl, hk2⟩
  have K2 : Hid (Kp W1 w2 Nul) := hk2
  clear hk2 HC HW1
  by_cases hE0 : E = 0
  · subst hE0
    by_cases hl : lnOk cols at' n
    · have HO := HOY.out hl
      have HA : Hid (∀ xc xr sl' fp wq, NdOwn wq sl' (cpy t) fp → fp.Nodup → KeptIn wq xc xr cols at' n → Calls Tryz.prog 51 #[.agg #[fateF xc xr], (cpy t).hd.val sl'] wq fun e w' => ∃ sl2 fp2, e = .returned ((alN (lnF cols at' n) (cpy t)).hd.val sl2) ∧ AlR (lnF cols at' n) (cpy t) fp wq w' sl2 fp2) := HAl.out hl
      have HCo : Hid (∀ wq, Kp w wq Nul → Calls Tryz.prog 12 #[h.val sl] wq fun e w' => ∃ sl' fp, e = .returned ((cpy t).hd.val sl') ∧ Own w' wq.heap.size sl' (cpy t) fp ∧ Kp wq w' Nul) := HCp.out rfl
      have HR : Hid (∀ w' sl' fp, Own w' w.heap.size sl' (alN (lnF cols at' n) (cpy t)) fp → Kp w w' Nul → FmR t cols at' n w w' (.tuple #[(alN (lnF cols at' n) (cpy t)).hd.val sl', .int .i64 0])) := HOk.out rfl hl
      have HOl : Hid (∀ w, Calls Tryz.prog 50 #[.bool cols, .int .i64 at', .int .i64 n] w fun e w' => ∃ xc xr, e = .returned (.tuple #[.agg #[fateF xc xr], .int .i64 0]) ∧ KeptIn w' xc xr cols at' n ∧ Kp w w' Nul) := HO
      clear HO HOY HON HCp HAl HOk HEr hl
      go_wp2_with fail
      refine (HOl.out _).mono ?_
      rintro e w3 ⟨xc, xr, rfl, hk3, hkp3⟩
      have K3 : Hid (Kp W1 w3 Nul) := K2.out.trans hkp3
      have HKI : Hid (KeptIn w3 xc xr cols at' n) := hk3
      clear hk3 hkp3 K2 HOl
      go_wp2_with fail
      obtain ⟨W4, hW4⟩ : ∃ W4, w3.alloc (.cells #[fateF xc xr] 101) = W4 := ⟨_, rfl⟩
      have k34 : Kp w3 W4 Nul := by rw [← hW4]; exact (Kp.refl _ _).alloc _
      have b4 : Blk W4 w3.heap.size [fateF xc xr] 101 := by rw [← hW4]; exact Blk.new w3 _ _
      have hs4 : W4.heap.size = w3.heap.size + 1 := by rw [← hW4, World.size_alloc]
      rw [hW4]
      clear hW4
      have hz1 : w.heap.size + 1 < w3.heap.size := (HB2.out _ K3.out).lt
      have HZ : Hid (w.heap.size + 1 < w3.heap.size ∧ W4.heap.size = w3.heap.size + 1) := ⟨hz1, hs4⟩
      have HF4 : Hid (∀ w', Kp W4 w' (fun i => i = w.heap.size + 1) → w'.rangeAt w3.heap.size 0 [fateF xc xr]) := fun w' k => rangeAt_blk (b4.kp k (by show ¬ w3.heap.size = w.heap.size + 1; omega))
      have HN4 : Hid (∀ w', Kp W4 w' (fun i => i = w.heap.size + 1) → w'.rangeAt w.heap.size 0 (h.cells sl)) := fun w' k => rangeAt_blk ((show Blk W4 w.heap.size (h.cells sl) 44 from HB1.out _ (K3.out.trans k34)).kp k (by show ¬ w.heap.size = w.heap.size + 1; omega))
      have HR4 : Hid (Blk W4 (w.heap.size + 1) (zHd.cells (.slice none 0 0)) 44) := HB2.out _ (K3.out.trans k34)
      have HK4 : Hid (Kp w W4 Nul) := (HK1.out.trans K3.out).trans k34
      have HKI4 : Hid (KeptIn W4 xc xr cols at' n) := HKI.out.kp k34
      clear k34 b4 hs4 hz1 K3 HKI HB1 HB2
      refine wp_region_noPanic ?_
      refine wp_region_hel (fun w' : World => Kp W4 w' (fun i => i = w.heap.size + 1)) (by kernel_rfl) ((Kp.refl _ _).drew) (fun hHeld => ?_)
      refine wpH_takes (i := 0) (v := .agg [fateF xc xr].toArray) (some 30) rfl rfl (by kernel_rfl) (by kernel_rfl) (by kernel_rfl) (fun _ _ _ h => h) (Or.inl ⟨by rfl, fun w' hSw => exec_load_row 101 (.tmp 11) rfl w3.heap.size 0 rfl [fateF xc xr] _ (HF4.out w' hSw) Tryz.underlying101 rfl infoFate⟩) hHeld ?_
      simp only [Act.put, List.setIfInBounds_toArray, List.set_cons_zero, List.set_cons_succ]
      refine wpH_takes (i := 1) (v := .agg (h.cells sl).toArray) (some 31) rfl rfl (by kernel_rfl) (by kernel_rfl) (by kernel_rfl) (fun _ _ _ h => h) (Or.inl ⟨by rfl, fun w' hSw => exec_load_row 44 (.tmp 4) rfl w.heap.size 0 rfl (h.cells sl) _ (HN4.out w' hSw) Tryz.underlying44 rfl infoNode⟩) hHeld ?_
      simp only [Act.put, List.setIfInBounds_toArray, List.set_cons_zero, List.set_cons_succ]
      refine wpH_step (i := 2) (by kernel_rfl) rfl rfl (fun K hK => ?_)
      go_simp
      refine (HCo.out _ (HK4.out.drew)).mono ?_
      rintro e w5 ⟨sl', fp, rfl, hown, hk5⟩
      have K5 : Hid (Kp W4 w5 Nul) := (Kp.refl W4 Nul).drew.trans hk5
      have HOw : Hid (Own w5 W4.heap.size sl' (cpy t) fp) := hown
      refine hK.out _ _ K5.out.of_nul (fun hHeld => ?_)
      clear hK K hk5 hown
      (try simp only [Act.put, List.setIfInBounds_toArray, List.set_cons_zero, List.set_cons_succ])
      refine wpH_step (i := 3) (by kernel_rfl) rfl rfl (fun K hK => ?_)
      go_simp
      refine (HA.out xc xr sl' fp _ HOw.out.own HOw.out.nodup (HKI4.out.kp K5.out)).mono ?_
      rintro e w6 ⟨sl2, fp2, rfl, har⟩
      have HAR : Hid (AlR (lnF cols at' n) (cpy t) fp w5 w6 sl2 fp2) := har
      have K6 : Hid (Kp W4 w6 Nul) := K5.out.trans' har.kp (fun i hi hm => by have := (HOw.out.new i hm).1; omega)
      have ONE : Hid (sl2.oneCell' = true) := har.own.one
      refine hK.out _ _ K6.out.of_nul (fun hHeld => ?_)
      clear hK K har
      (try simp only [Act.put, List.setIfInBounds_toArray, List.set_cons_zero, List.set_cons_succ])
      obtain ⟨H2, hH2⟩ : ∃ H2, (alN (lnF cols at' n) (cpy t)).hd = H2 := ⟨_, rfl⟩
      have HH2 : Hid ((alN (lnF cols at' n) (cpy t)).hd = H2) := hH2
      rw [hH2]
      clear hH2
      refine wpH_step (i := 4) (by kernel_rfl) rfl rfl (fun K hK => ?_)
      refine wp_store_blk 44 (.tmp 8) (.tmp 33) rfl (w.heap.size + 1) (zHd.cells (.slice none 0 0)) (H2.cells sl2) 44 (HR4.out.kp K6.out (fun x => x)) rfl rfl rfl infoNode (Hd.one H2 ONE.out) ?_
      intro w7 hb7 hk7
      have HB7 : Hid (Blk w7 (w.heap.size + 1) (H2.cells sl2) 44) := hb7
      have K7 : Hid (Kp w6 w7 (fun i => i = w.heap.size + 1)) := hk7
      refine hK.out _ _ (K6.out.of_nul.trans hk7) (fun hHeld => ?_)
      clear hK K hb7 hk7
      (try simp only [Act.put])
      refine wpH_takes (i := 5) (v := ?_) (some 9) rfl rfl (by kernel_rfl) (by kernel_rfl) (by kernel_rfl) (fun _ _ _ h => h) (Or.inl ⟨by rfl, ?_⟩) hHeld ?_
      rotate_left
      · intro w' hSw; clear hSw; go_simp; try with_reducible rfl
      (try simp only [Act.put])
      refine wpAnyH_done (by kernel_rfl) ?_ _
      refine NoPanic.normal ?_
      clear hHeld
      go_wp2_with fail
      have hOwn6 : Own w6 w.heap.size sl2 (alN (lnF cols at' n) (cpy t)) fp2 := own_al HOw.out.nodup (fun b hb => Nat.le_trans HK4.out.size (HOw.out.new b hb).1) HAR.out
      have hOwn7 : Own w7 w.heap.size sl2 (alN (lnF cols at' n) (cpy t)) fp2 := ⟨hOwn6.own.mono (fun i hi => K7.out.block i (node_lt (hOwn6.own.node i hi)) (fun e => by
        have e' : i = w.heap.size + 1 := e
        have h1 := (HOw.out.new i (HAR.out.sub.subset hi)).1
        have := HZ.out.1; have := HZ.out.2
        omega)), hOwn6.nodup, fun b hb => ⟨(hOwn6.new b hb).1, Nat.lt_of_lt_of_le (hOwn6.new b hb).2 K7.out.size⟩⟩
      have hEnd := HR.out w7 sl2 fp2 hOwn7 ((HK4.out.trans K6.out).trans' K7.out (fun i hi e => by have e' : i = w.heap.size + 1 := e; omega))
      rw [HH2.out] at hEnd
      refine bodyPost_ret (results_row_tmp rfl _ _ (w.heap.size + 1) 44 _ (0, 0) _ rfl HB7.out Tryz.underlying44 rfl infoNode) rfl ?_
      exact ⟨_, rfl, hEnd⟩
    · have HO : Hid (∀ w, Calls Tryz.prog 50 #[.bool cols, .int .i64 at', .int .i64 n] w fun e w' => e = .returned (.tuple #[.agg #[.nilFunc], .int .i64 1]) ∧ Kp w w' Nul) := HON.out hl
      have HE : Hid (∀ w', Kp w w' Nul → FmR t cols at' n w w' (.tuple #[zHd.val (.slice none 0 0), .int .i64 1])) := fun w' k => HEr.out 1 w' (by decide) (.inr ⟨rfl, hl, rfl⟩) k
      clear HOY HON HCp HAl HOk HEr hl
      go_wp2_with fail
      refine (HO.out _).mono ?_
      rintro e w3 ⟨rfl, hk3⟩
      have K3 : Hid (Kp W1 w3 Nul) := K2.out.trans hk3
      clear hk3 K2 HO
      go_wp2_with (first | (refine wpList_store_blk rfl 44 (.tmp 8) (.tmp 28) rfl (w.heap.size + 1) _ (zHd.cells (.slice none 0 0)) _ (HB2.out _ (K3.out.alloc _)) rfl rfl rfl infoNode (Hd.one zHd rfl) (fun W4 hb4 hk4 => ?_)) | fail)
      refine bodyPost_ret (results_row_tmp rfl _ _ (w.heap.size + 1) 44 _ (0, 0) _ rfl hb4 Tryz.underlying44 rfl infoNode) rfl ?_
      exact ⟨_, rfl, HE.out _ (((HK1.out.trans K3.out).alloc _).trans' hk4 (fun i hi e => by have e' : i = w.heap.size + 1 := e; omega))⟩
  · have HE : Hid (∀ w', Kp w w' Nul → FmR t cols at' n w w' (.tuple #[zHd.val (.slice none 0 0), .int .i64 E])) := fun w' k => HEr.out E w' hE0 (.inl ⟨hE0, rfl⟩) k
    clear HOY HON HCp HAl HOk HEr
    go_wp2_with (first | (refine wpList_store_blk rfl 44 (.tmp 8) (.tmp 17) rfl (w.heap.size + 1) _ (zHd.cells (.slice none 0 0)) _ (HB2.out _ K2.out) rfl rfl rfl infoNode (Hd.one zHd rfl) (fun W4 hb4 hk4 => ?_)) | fail)
    refine bodyPost_ret (results_row_tmp rfl _ _ (w.heap.size + 1) 44 _ (0, 0) _ rfl hb4 Tryz.underlying44 rfl infoNode) rfl ?_
    exact ⟨_, rfl, HE.out _ ((HK1.out.trans K2.out).trans' hk4 (fun i hi e => by have e' : i = w.heap.size + 1 := e; omega))⟩
end Go.Proofs.YtbkcebbddhaifaaGreatDoor
namespace Go.Proofs.YtbkcebbddhaifaaGreatDoor
open Go.RowKit Go.Maps

/-- The formula of known: A1. -/
def ctR (c r : Int) : Ct := ⟨2, ⟨0, 0, ⟨#[]⟩, false, 0⟩, .mk { zHd with k := 5, c1 := c, r1 := r } []⟩
theorem chkR (c r : Int) (h : vC c r = true) : chk (ctR c r).t = 0 := by
  have hw : wm { zHd with k := 5, c1 := c, r1 := r } 0 = true := by
    unfold wm
    simp [wmJ, hsame, fsame_self]
  have hv : vA c r c r = true := by
    unfold vA; rw [h]; simp
  have ho : ownE { zHd with k := 5, c1 := c, r1 := r } 0 false = 0 := by
    unfold ownE
    rw [hw]
    simp [hv]
  unfold chk ctR
  rw [Nd.size, sizeL, Nd.dep, depL, Nd.fe, feL]
  simp [ho]
theorem gvR (c r : Int) (h : vC c r = true) : gv (ctR c r) = true := by
  unfold gv validC
  rw [chkR c r h]
  simp [ctR, zeroV, bareV]
theorem cpR (c r : Int) : cpC (ctR c r) = ctR c r := by
  unfold cpC ctR
  rw [cpy, cpyL]
  have : one 0 = 0 := by decide
  simp [zHd, this]
theorem gdR (c r : Int) (h : vC c r = true) : Gd (ctR c r) := ⟨gvR c r h, by show (2 : Int) ≠ 0; decide, by show (Nd.mk _ []).ok; rw [Nd.ok, okL]; exact ⟨by show (0 : Nat) < _; decide, trivial⟩, by show (0 : Nat) < _; decide, by show (Nd.mk _ []).size ≤ _; rw [Nd.size, sizeL]; decide, cpR c r⟩
theorem alR (f : Fate) (c r : Int) {b : Ar4} (h : f ((c, r), (c, r)) = some b) : alC f (ctR c r) = ctR b.1.1 b.1.2 := by
  unfold alC ctR
  simp only
  rw [alN, if_pos (.inl rfl)]
  unfold nmN
  have e : nmA (Nd.mk { zHd with k := 5, c1 := c, r1 := r } []).hd = ((c, r), (c, r)) := by simp [Nd.hd, nmA]
  rw [e, h]
  simp [toH, Nd.hd, Nd.ts]
theorem gv7 : gv ct7 = true := by
  have h1 : bareV ct7.v = true := by simp [bareV, ct7]
  have h2 : zeroN ct7.t = true := zeroN_z
  unfold gv validC validV
  rw [h1, h2]
  simp [ct7]
theorem gd7 : Gd ct7 := ⟨gv7, by show (1 : Int) ≠ 0; decide, zNd_ok, by decide, by show zNd.size ≤ _; rw [zsize]; decide, cp7⟩
theorem ln12 : lnOk false 1 2 := ⟨by decide, by decide, by decide, by decide⟩
theorem thr_a (c : Int) (h : 1 ≤ c ∧ c ≤ 256) : thr 1 0 256 c c = some (c, c) := by
  unfold thr
  simp only [if_neg (show ¬ (0 : Int) < 0 by decide)]
  rw [if_neg (by omega), if_pos (by omega)]
  have e1 : max c 1 + 0 = c := by omega
  have e2 : min c (256 - 0) + 0 = c := by omega
  rw [e1, e2]
theorem thr_b : thr 1 2 4096 1 1 = some (3, 3) := by decide
theorem ln12_at (c : Int) (h : 1 ≤ c ∧ c ≤ 256) : lnF false 1 2 ((c, 1), (c, 1)) = some ((c, 3), (c, 3)) := by
  unfold lnF
  simp only [Bool.false_eq_true, if_false, thr_a c h, thr_b]
/-- Its grid. -/
def LK : List Cc := putL (putL [] (1, 1) ct7) (2, 1) (ctR 1 1)
theorem LK_is : LK = [((2, 1), ctR 1 1), ((1, 1), ct7)] := by
  unfold LK putL
  simp
theorem brLK (y : Cc) : y ∈ brL (lnF false 1 2) LK ↔ y = ((2, 3), ctR 1 3) ∨ y = ((1, 3), ct7) := by
  rw [LK_is, brL_mem]
  have h2 := ln12_at 2 (by decide)
  have h1 := ln12_at 1 (by decide)
  have e2 : alC (lnF false 1 2) (ctR 1 1) = ctR 1 3 := alR _ 1 1 h1
  have e1 : alC (lnF false 1 2) ct7 = ct7 := alC_plain _ gv7 (by decide)
  constructor
  · rintro ⟨x, hx, b, hb, rfl⟩
    rcases List.mem_cons.1 hx with rfl | hx
    · left
      rw [h2] at hb
      injection hb with hb
      rw [← hb, e2]
    · rw [List.mem_singleton] at hx
      subst hx
      right
      rw [h1] at hb
      injection hb with hb
      rw [← hb, e1]
  · rintro (rfl | rfl)
    · exact ⟨_, List.mem_cons_self, _, h2, by rw [e2]⟩
    · exact ⟨_, List.mem_cons_of_mem _ (List.mem_singleton.2 rfl), _, h1, by rw [e1]⟩
theorem lostLK : lostB (lnF false 1 2) LK = false := by
  rw [LK_is]
  unfold lostB
  simp [ln12_at 2 (by decide), ln12_at 1 (by decide)]
theorem lenLK {M : List Cc} (ho : M.Pairwise (fun x y => x.1 ≠ y.1)) (hm : ∀ y, y ∈ M ↔ y ∈ brL (lnF false 1 2) LK) : M.length = 2 := by
  have nM : M.Nodup := ho.imp (fun {x y} q e => q (by rw [e]))
  have nL : ([((2, 3), ctR 1 3), ((1, 3), ct7)] : List Cc).Nodup := by
    rw [List.nodup_cons]
    refine ⟨fun h => ?_, by simp⟩
    rw [List.mem_singleton] at h
    exact absurd (congrArg (fun z : Cc => z.1.1) h) (by decide)
  have := (List.perm_ext_iff_of_nodup nM nL).2 (fun y => by rw [hm y, brLK y]; simp)
  exact this.length_eq
theorem get_in (g : Nat) (M : List Cc) (w : World) (hg : GI 0 w g M) (hM : Ok17 M) (c s : Int) (hc : I64 c) (hs : I64 s) (a : Ct) (ha : ((c, s), a) ∈ M) :
    Calls Tryz.prog 27 #[.pointer (some ⟨g, 0, none⟩), .agg #[.int .i64 c, .int .i64 s]] w fun e w' => ∃ sl' fp, e = .returned (a.val sl') ∧ Own w' w.heap.size sl' a.t fp ∧ Kp w w' Nul := by
  obtain ⟨mv, bo⟩ := hg.blk
  obtain ⟨a', sa, bb, hlk, hinA, hax, hao, hasz, hacp, hcase⟩ := look_ct hg hM.gd hc hs bo
  rcases hcase with ⟨_, h⟩ | ⟨_, _, _, h2⟩
  · have e := once_eq hg.once h ha
    subst e
    refine get_own g c s mv (a'.val sa) bb a' w hlk (fun wq k => ?_)
    refine (gCopy_at a' sa (fun b => 0 ≤ b) wq hax hasz hao (hinA.kp k (fun _ _ x => x))).mono ?_
    rintro e w' ⟨sl', fp, rfl, h1, h2⟩
    rw [hacp] at h1 ⊢
    exact ⟨sl', fp, rfl, h1, Kp.of_below h2⟩
  · exact absurd ha (h2 a)
end Go.Proofs.YtbkcebbddhaifaaGreatDoor
namespace Go.Proofs.YtbkcebbddhaifaaGreatDoor
open Go.RowKit Go.Maps

set_option maxHeartbeats 1000000 in
theorem at22 (x y : Int) (w : World) : Calls Tryz.prog 29 #[.int .i64 x, .int .i64 y] w fun e w' => e = .returned (.agg #[.int .i64 x, .int .i64 y]) ∧ Kp w w' Nul := by
  go_enter Tryz.func29, Tryz.ntmps29
  go_wp2_with fail
  refine bodyPost_ret (results_cell_row rfl _ _ w.heap.size 32 _ (0, 0) _ rfl (heap_alloc_new _ _) Tryz.underlying32 rfl (by kernel_rfl)) rfl ?_
  exact ⟨rfl, (Kp.refl w Nul).alloc _⟩
set_option maxRecDepth 20000 in
set_option maxHeartbeats 4000000 in
theorem ref22 (x y : Int) (w : World) : Calls Tryz.prog 32 #[.agg #[.int .i64 x, .int .i64 y]] w fun e w' => e = .returned ((ctR x y).t.hd.val (.slice none 0 0)) ∧ Kp w w' Nul := by
  go_enter Tryz.func32, Tryz.ntmps32
  go_wp2_with (first | (refine wpList_store_new rfl 44 (.tmp 2) (.tmp 5) rfl _ _ _ _ _ (by first | rfl | simp) rfl rfl rfl infoNode (Hd.one (ctR x y).t.hd rfl) ?_) | fail)
  (try simp only [Act.put])
  refine bodyPost_ret (results_cell_row rfl _ _ (w.heap.size + 1) 44 _ (0, 0) _ rfl (heap_alloc2_new _ _ _) Tryz.underlying44 rfl infoNode) rfl ⟨rfl, ((Kp.refl _ _).alloc _).alloc _⟩
set_option maxRecDepth 20000 in
set_option maxHeartbeats 4000000 in
theorem nodes22 (x y : Int) (w : World) : Calls Tryz.prog 35 #[(ctR x y).t.hd.val (.slice none 0 0)] w fun e w' => ∃ b, e = .returned (.func (.func 73) #[] #[.pointer (some ⟨b, 0, none⟩)]) ∧ Kp w w' Nul := by
  have HC : Hid (∀ wq, Calls Tryz.prog 12 #[(ctR x y).t.hd.val (.slice none 0 0)] wq fun e w' => ∃ sl', e = .returned ((cpy (ctR x y).t).hd.val sl') ∧ sl'.oneCell' = true ∧ Kp wq w' Nul) := fun wq => (copy_at (ctR x y).t (.slice none 0 0) (fun _ => True) wq (by show (Nd.mk _ []).size ≤ _; rw [Nd.size, sizeL]; decide) (by show (Nd.mk _ []).ok; rw [Nd.ok, okL]; exact ⟨by show (0 : Nat) < _; decide, trivial⟩) (by show NdIn _ _ _ (Nd.mk _ []); rw [NdIn]; exact ⟨none, 0, rfl, Nat.le_refl _, by decide, .inl ⟨rfl, .inl rfl⟩⟩)).mono (by
    rintro e w' ⟨sl', fp, rfl, h1, h2⟩
    exact ⟨sl', rfl, h1.own.one, Kp.of_below h2⟩)
  generalize (cpy (ctR x y).t).hd = hh at *
  go_enter Tryz.func35, Tryz.ntmps35
  go_wp2_with fail
  refine (HC.out _).mono ?_
  rintro e w1 ⟨sl', rfl, ho, hk⟩
  go_wp2_with (first | (refine wpList_store_new rfl 44 (.tmp 3) (.tmp 5) rfl _ _ _ _ _ (by first | rfl | simp) rfl rfl rfl infoNode (Hd.one hh ho) ?_) | fail)
  go_ret
  exact ⟨_, rfl, (((Kp.refl _ _).alloc _).trans hk).alloc _⟩
set_option maxHeartbeats 1000000 in
theorem cells22 (a b c d : Int) (w : World) : Calls Tryz.prog 36 #[.agg #[.int .i64 a, .int .i64 b, .int .i64 c, .int .i64 d]] w fun e w' => ∃ p, e = .returned (.func (.func 75) #[] #[.pointer (some ⟨p, 0, none⟩)]) ∧ Kp w w' Nul := by
  go_enter Tryz.func36, Tryz.ntmps36
  go_wp2_with fail
  go_ret
  exact ⟨_, rfl, (Kp.refl _ _).alloc _⟩
end Go.Proofs.YtbkcebbddhaifaaGreatDoor
namespace Go.Proofs.YtbkcebbddhaifaaGreatDoor
open Go.RowKit Go.Maps

theorem eqIn_nil2 (w : World) (d f : Nat) (lb : Array Value) : (Op.equalIn (d + 1) 69 (.func (.func f) #[] lb) .nilFunc).run Tryz.prog w = .ok false w := by
  simp [Op.equalIn, run_underlying Tryz.underlying69]
theorem eq_nil2 (f : Nat) (lb : Array Value) (w : World) : (binOp .eql 69 (.func (.func f) #[] lb) .nilFunc).run Tryz.prog w = .ok (.bool false) w := by
  simp only [binOp]
  simp [show Op.equal 69 (.func (.func f) #[] lb) .nilFunc = Op.equalIn (9999 + 1) 69 (.func (.func f) #[] lb) .nilFunc from rfl, eqIn_nil2 w 9999 f lb]
theorem eqIn_nilN (w : World) (d f : Nat) (lb : Array Value) : (Op.equalIn (d + 1) 84 (.func (.func f) #[] lb) .nilFunc).run Tryz.prog w = .ok false w := by
  simp [Op.equalIn, run_underlying Tryz.underlying84]
theorem eq_nilN (f : Nat) (lb : Array Value) (w : World) : (binOp .eql 84 (.func (.func f) #[] lb) .nilFunc).run Tryz.prog w = .ok (.bool false) w := by
  simp only [binOp]
  simp [show Op.equal 84 (.func (.func f) #[] lb) .nilFunc = Op.equalIn (9999 + 1) 84 (.func (.func f) #[] lb) .nilFunc from rfl, eqIn_nilN w 9999 f lb]
theorem eqIn_nilA (w : World) (d f : Nat) (lb : Array Value) : (Op.equalIn (d + 1) 87 (.func (.func f) #[] lb) .nilFunc).run Tryz.prog w = .ok false w := by
  simp [Op.equalIn, run_underlying Tryz.underlying87]
theorem eq_nilA (f : Nat) (lb : Array Value) (w : World) : (binOp .eql 87 (.func (.func f) #[] lb) .nilFunc).run Tryz.prog w = .ok (.bool false) w := by
  simp only [binOp]
  simp [show Op.equal 87 (.func (.func f) #[] lb) .nilFunc = Op.equalIn (9999 + 1) 87 (.func (.func f) #[] lb) .nilFunc from rfl, eqIn_nilA w 9999 f lb]
theorem eql_ad22 (c r : Int) (w : World) : (binOp .eql 32 (.agg #[.int .i64 c, .int .i64 r]) (.agg #[.int .i64 c, .int .i64 r])).run Tryz.prog w = .ok (.bool true) w := by simp [go_sem]
@[go_sem] theorem field_v (v0 v1 v2 v3 v4 v5 v6 v7 v8 v9 v10 v11 v12 v13 v14 v15 v16 v17 v18 v19 v20 : Value) (w : World) : (Instr.field 55 (.agg #[v0, v1, v2, v3, v4, v5, v6, v7, v8, v9, v10, v11, v12, v13, v14, v15, v16, v17, v18, v19, v20]) 1).run Tryz.prog w = .ok (.agg #[v1, v2, v3, v4, v5]) w := by
  unfold Instr.field
  rw [Sem.run_bind, run_underlying Tryz.underlying55 w]
  simp [part, asAgg, isAgg, run_underlying Tryz.underlying53 w, Sem.run_bind]
theorem grid_sm {W : World} {F : Nat → Prop} {g : Nat} {M : List Cc} (h : GridIn W F g M) {i : Nat} (hs : Sm W g i) : F i := by
  obtain ⟨hF, ⟨hb', _⟩ | ⟨m, D, hb', hm', _⟩⟩ := h
  · rcases hs with rfl | ⟨e, _⟩
    · exact hF
    · rw [hb'] at e; simp at e
  · rcases hs with rfl | ⟨e, _⟩
    · exact hF
    · rw [hb'] at e
      have em : m = i := by simpa using e
      rw [← em]; exact hm'
theorem put22 (w : World) (g : Nat) (c r : Int) (ct : Ct) (sl : Value) (L : List Cc) (wq : World) (hG : GI w.heap.size wq g L) (k : Kp w wq Nul) (hL : Ok17 L) (hgd : Gd ct) (hv : vC c r = true) (hin : NdIn wq (fun _ => True) sl ct.t) (hlen : L.length < 4096) (U : VS w) :
    Calls Tryz.prog 16 #[.pointer (some ⟨g, 0, none⟩), .agg #[.int .i64 c, .int .i64 r], ct.val sl] wq fun e w' => e = .returned (.int .i64 0) ∧ GI w.heap.size w' g (putL L (c, r) ct) ∧ Ok17 (putL L (c, r) ct) ∧ Kp w w' Nul := by
  refine (put_any (fun i => w.heap.size ≤ i) g c r ct sl (fun _ => True) L wq hG (fun i hi => Nat.le_trans k.size hi) hL hgd.ok hgd.x hgd.size hin (U.kp k)).mono ?_
  rintro e w' ⟨er, L', rfl, hg', hp, km⟩
  obtain ⟨rfl, rfl⟩ := hp.put hv hgd.val hgd.k (.inl hlen)
  have ho := hp.ok
  rw [hgd.cp] at hg' ho
  exact ⟨rfl, hg', ho, k.trans' km.kp (fun i hi hs => by have := grid_sm hG hs; omega)⟩
theorem rows22 (w wq : World) (g : Nat) (hG : GI w.heap.size wq g LK) (k : Kp w wq Nul) (hL : Ok17 LK) (U : VS w) :
    Calls Tryz.prog 33 #[.pointer (some ⟨g, 0, none⟩), .int .i64 1, .int .i64 2] wq fun e w' => ∃ g2 M, e = .returned (.tuple #[.pointer (some ⟨g2, 0, none⟩), .int .i64 0]) ∧ M.length = 2 ∧ GI 0 w' g2 M ∧ Ok17 M ∧ ((2, 3), ctR 1 3) ∈ M ∧ ((1, 3), ct7) ∈ M ∧ Kp w w' Nul := by
  have h0 : GI 0 wq g LK := GridIn.mono hG (fun _ _ => Nat.zero_le _)
  refine (rows_at 1 2 g LK wq h0 hL (U.kp k)).mono ?_
  rintro e w' ⟨v, rfl, h⟩
  cases h with
  | bad h _ => exact absurd ln12 h
  | off _ _ hl _ => rw [lostLK] at hl; cases hl
  | ok _ _ g2 M hb =>
    have hg0 : GI 0 w' g2 M := GridIn.mono hb.gi (fun _ _ => Nat.zero_le _)
    exact ⟨g2, M, rfl, lenLK hg0.once hb.mem, hg0, hb.ok, (hb.mem _).2 ((brLK _).2 (.inl rfl)), (hb.mem _).2 ((brLK _).2 (.inr rfl)), k.trans hb.kp⟩
set_option maxRecDepth 20000 in
set_option maxHeartbeats 16000000 in
theorem known22 (w : World) (U : VS w) : Calls Tryz.prog 9 #[] w fun e w' => e = .returned (.bool true) ∧ Kp w w' Nul := by
  obtain ⟨g, hgw⟩ : ∃ g, g = w.heap.size := ⟨_, rfl⟩
  have HNew : Hid (Calls Tryz.prog 31 #[] w fun e w' => e = .returned (.pointer (some ⟨g, 0, none⟩)) ∧ GI w.heap.size w' g [] ∧ Kp w w' Nul) := (new_at w).mono (by
    rintro e w' ⟨rfl, rfl⟩
    subst hgw
    exact ⟨rfl, grid_new w _ (Nat.le_refl _), (Kp.refl w Nul).alloc _⟩)
  have HCell : Hid (∀ x y w, Calls Tryz.prog 29 #[.int .i64 x, .int .i64 y] w fun e w' => e = .returned (.agg #[.int .i64 x, .int .i64 y]) ∧ Kp w w' Nul) := at22
  have HRef : Hid (∀ x y w, Calls Tryz.prog 32 #[.agg #[.int .i64 x, .int .i64 y]] w fun e w' => e = .returned ((ctR x y).t.hd.val (.slice none 0 0)) ∧ Kp w w' Nul) := ref22
  have HPut1 : Hid (∀ wq, GI w.heap.size wq g [] → Kp w wq Nul → Calls Tryz.prog 16 #[.pointer (some ⟨g, 0, none⟩), .agg #[.int .i64 1, .int .i64 1], ct7.val (.slice none 0 0)] wq fun e w' => e = .returned (.int .i64 0) ∧ (GI w.heap.size w' g (putL [] (1, 1) ct7) ∧ Ok17 (putL [] (1, 1) ct7)) ∧ Kp w w' Nul) := fun wq hg k => (put22 w g 1 1 ct7 _ [] wq hg k ⟨by simp, by simp, by simp⟩ gd7 (by decide) (zNd_in wq _) (by decide) U).mono fun e w' ⟨h1, h2, h3, h4⟩ => ⟨h1, ⟨h2, h3⟩, h4⟩
  have HPut2 : Hid (∀ wq, (GI w.heap.size wq g (putL [] (1, 1) ct7) ∧ Ok17 (putL [] (1, 1) ct7)) → Kp w wq Nul → Calls Tryz.prog 16 #[.pointer (some ⟨g, 0, none⟩), .agg #[.int .i64 2, .int .i64 1], (ctR 1 1).val (.slice none 0 0)] wq fun e w' => e = .returned (.int .i64 0) ∧ (GI w.heap.size w' g LK ∧ Ok17 LK) ∧ Kp w w' Nul) := fun wq hg k => (put22 w g 2 1 (ctR 1 1) _ (putL [] (1, 1) ct7) wq hg.1 k hg.2 (gdR 1 1 (by decide)) (by decide) (by show NdIn _ _ _ (Nd.mk _ []); rw [NdIn]; exact ⟨none, 0, rfl, Nat.le_refl _, by decide, .inl ⟨rfl, .inl rfl⟩⟩) (by unfold putL; decide) U).mono fun e w' ⟨h1, h2, h3, h4⟩ => ⟨h1, ⟨h2, h3⟩, h4⟩
  have HRows : Hid (∀ wq, (GI w.heap.size wq g LK ∧ Ok17 LK) → Kp w wq Nul → Calls Tryz.prog 33 #[.pointer (some ⟨g, 0, none⟩), .int .i64 1, .int .i64 2] wq fun e w' => ∃ g2 M, e = .returned (.tuple #[.pointer (some ⟨g2, 0, none⟩), .int .i64 0]) ∧ M.length = 2 ∧ GI 0 w' g2 M ∧ Ok17 M ∧ ((2, 3), ctR 1 3) ∈ M ∧ ((1, 3), ct7) ∈ M ∧ Kp w w' Nul) := fun wq hg k => rows22 w wq g hg.1 k hg.2 U
  have HKp : Hid (∀ wq wz L, (GI w.heap.size wq g L ∧ Ok17 L) → Kp wq wz Nul → (GI w.heap.size wz g L ∧ Ok17 L)) := fun wq wz L h k => ⟨h.1.kp k, h.2⟩
  have HNd : Hid (∀ w, Calls Tryz.prog 35 #[(ctR 1 1).t.hd.val (.slice none 0 0)] w fun e w' => ∃ b, e = .returned (.func (.func 73) #[] #[.pointer (some ⟨b, 0, none⟩)]) ∧ Kp w w' Nul) := nodes22 1 1
  have HCs : Hid (∀ a b c d w, Calls Tryz.prog 36 #[.agg #[.int .i64 a, .int .i64 b, .int .i64 c, .int .i64 d]] w fun e w' => ∃ p, e = .returned (.func (.func 75) #[] #[.pointer (some ⟨p, 0, none⟩)]) ∧ Kp w w' Nul) := cells22
  clear hgw U
  go_enter Tryz.func9, Tryz.ntmps9
  go_wp2_with fail
  refine HNew.out.mono ?_
  rintro e w1 ⟨rfl, hg1, hk1⟩
  have HG1 : Hid (GI w.heap.size w1 g []) := hg1
  have HK1 : Hid (Kp w w1 Nul) := hk1
  clear hg1 hk1 HNew
  go_wp2_with fail
  refine (HCell.out _ _ _).mono ?_
  rintro e w2 ⟨rfl, hk2⟩
  have HG2 : Hid (GI w.heap.size w2 g []) := HG1.out.kp hk2
  have HK2 : Hid (Kp w w2 Nul) := HK1.out.trans hk2
  clear hk2 HG1 HK1
  go_wp2_with fail
  refine (HPut1.out _ HG2.out HK2.out).mono ?_
  rintro e w3 ⟨rfl, hg3, hk3⟩
  have HG3 : Hid (GI w.heap.size w3 g (putL [] (1, 1) ct7) ∧ Ok17 (putL [] (1, 1) ct7)) := hg3
  have HK3 : Hid (Kp w w3 Nul) := hk3
  clear hg3 hk3 HG2 HK2 HPut1
  go_wp2_with fail
  refine (HCell.out _ _ _).mono ?_
  rintro e w4 ⟨rfl, hk4⟩
  go_wp2_with fail
  refine (HCell.out _ _ _).mono ?_
  rintro e w5 ⟨rfl, hk5⟩
  go_wp2_with fail
  refine (HRef.out _ _ _).mono ?_
  rintro e w6 ⟨rfl, hk6⟩
  have HG6 : Hid (GI w.heap.size w6 g (putL [] (1, 1) ct7) ∧ Ok17 (putL [] (1, 1) ct7)) := HKp.out _ _ _ HG3.out ((hk4.trans hk5).trans hk6)
  have HK6 : Hid (Kp w w6 Nul) := HK3.out.trans ((hk4.trans hk5).trans hk6)
  clear hk4 hk5 hk6 HG3 HK3
  go_wp2_with fail
  refine (HPut2.out _ HG6.out HK6.out).mono ?_
  rintro e w7 ⟨rfl, hg7, hk7⟩
  have HG7 : Hid (GI w.heap.size w7 g LK ∧ Ok17 LK) := hg7
  have HK7 : Hid (Kp w w7 Nul) := hk7
  clear hg7 hk7 HG6 HK6 HPut2 HKp
  go_wp2_with fail
  refine (HRows.out _ HG7.out HK7.out).mono ?_
  rintro e w8 ⟨g2, M, rfl, hlen, hg8, hM, hm1, hm2, hk8⟩
  have HK8 : Hid (Kp w w8 Nul) := hk8
  have HLen : Hid (∀ wq, Kp w8 wq Nul → Calls Tryz.prog 22 #[.pointer (some ⟨g2, 0, none⟩)] wq fun e w' => e = .returned (.int .i64 2) ∧ w' = wq) := fun wq k => by
    have h := len_at wq _ g2 M (hg8.kp k)
    rw [hlen] at h
    exact h
  have HGetF : Hid (∀ wq, Kp w8 wq Nul → Calls Tryz.prog 27 #[.pointer (some ⟨g2, 0, none⟩), .agg #[.int .i64 2, .int .i64 3]] wq fun e w' => ∃ sl', e = .returned ((ctR 1 3).val sl') ∧ sl'.oneCell' = true ∧ Kp wq w' Nul) := fun wq k => (get_in g2 M wq (hg8.kp k) hM 2 3 (by unfold I64; omega) (by unfold I64; omega) _ hm1).mono fun e w' ⟨sl', fp, h1, h2, h3⟩ => ⟨sl', h1, h2.own.one, h3⟩
  have HGetN : Hid (∀ wq, Kp w8 wq Nul → Calls Tryz.prog 27 #[.pointer (some ⟨g2, 0, none⟩), .agg #[.int .i64 1, .int .i64 3]] wq fun e w' => ∃ sl', e = .returned (ct7.val sl') ∧ sl'.oneCell' = true ∧ Kp wq w' Nul) := fun wq k => (get_in g2 M wq (hg8.kp k) hM 1 3 (by unfold I64; omega) (by unfold I64; omega) _ hm2).mono fun e w' ⟨sl', fp, h1, h2, h3⟩ => ⟨sl', h1, h2.own.one, h3⟩
  have HAll : Hid (∀ wq, Calls Tryz.prog 34 #[.pointer (some ⟨g2, 0, none⟩)] wq fun e w' => ∃ x0 x1, e = .returned (.func (.func 121) #[] #[.pointer (some ⟨x0, 0, none⟩), .pointer (some ⟨x1, 0, none⟩)]) ∧ Kp wq w' Nul) := fun wq => (all_at g2 wq).mono fun e w' ⟨x0, x1, h1, _, _, h4⟩ => ⟨x0, x1, h1, h4⟩
  clear hlen hg8 hM hm1 hm2 hk8 HG7 HK7 HRows
  go_wp2_with fail
  refine (HLen.out _ (Kp.refl _ _)).mono ?_
  rintro e w9 ⟨rfl, hw9⟩
  subst hw9
  go_wp2_with fail
  refine (HAll.out _).mono ?_
  rintro e w10 ⟨x0, x1, rfl, hk10⟩
  have K10 : Hid (Kp w9 w10 Nul) := hk10
  clear hk10 HAll
  have hn1 := eq_nil2 121
  go_wp2_with fail
  refine (HCell.out _ _ _).mono ?_
  rintro e w11 ⟨rfl, hk11⟩
  go_wp2_with fail
  refine (HRef.out _ _ _).mono ?_
  rintro e w12 ⟨rfl, hk12⟩
  have K12 : Hid (Kp w9 w12 Nul) := (K10.out.trans hk11).trans hk12
  clear hk11 hk12 K10 HRef
  go_wp2_with fail
  refine (HNd.out _).mono ?_
  rintro e w13 ⟨b13, rfl, hk13⟩
  have K13 : Hid (Kp w9 w13 Nul) := K12.out.trans hk13
  clear hk13 K12 HNd
  have hn2 := eq_nilN 73
  go_wp2_with fail
  refine (HCell.out _ _ _).mono ?_
  rintro e w14 ⟨rfl, hk14⟩
  go_wp2_with fail
  refine (HCell.out _ _ _).mono ?_
  rintro e w15 ⟨rfl, hk15⟩
  have K15 : Hid (Kp w9 w15 Nul) := (K13.out.trans hk14).trans hk15
  clear hk14 hk15 K13
  go_wp2_with fail
  refine (HCs.out _ _ _ _ _).mono ?_
  rintro e w16 ⟨b16, rfl, hk16⟩
  have K16 : Hid (Kp w9 w16 Nul) := K15.out.trans hk16
  clear hk16 K15 HCs
  have hn3 := eq_nilA 75
  go_wp2_with fail
  refine (HCell.out _ _ _).mono ?_
  rintro e w17 ⟨rfl, hk17⟩
  have K17 : Hid (Kp w9 w17 Nul) := K16.out.trans hk17
  clear hk17 K16
  go_wp2_with fail
  refine (HGetF.out _ K17.out).mono ?_
  rintro e w18 ⟨sl, rfl, hone, hk18⟩
  have K18 : Hid (Kp w9 w18 Nul) := K17.out.trans hk18
  have HONE : Hid (sl.oneCell' = true) := hone
  clear hk18 hone K17 HGetF
  obtain ⟨W19, hW19⟩ : ∃ W19, w18.alloc (.cells ((ctR 1 3).cells sl).toArray 55) = W19 := ⟨_, rfl⟩
  have hC : Blk W19 w18.heap.size ((ctR 1 3).cells sl) 55 := by rw [← hW19]; exact Blk.new w18 _ _
  have k19 : Kp w18 W19 Nul := by rw [← hW19]; exact (Kp.refl w18 Nul).alloc _
  have HS : Hid (∀ wq, Kp W19 wq Nul → (wq.cell? ⟨w18.heap.size, 0, none⟩ = some (.int .i64 2) ∧ wq.cell? ⟨w18.heap.size, 12, none⟩ = some (.int .i64 1) ∧ wq.cell? ⟨w18.heap.size, 13, none⟩ = some (.int .i64 3))) := fun wq k => ⟨(hC.kp k (fun x => x)).cell rfl, (hC.kp k (fun x => x)).cell rfl, (hC.kp k (fun x => x)).cell rfl⟩
  have HCell19 : Hid (∀ wq, Kp W19 wq Nul → Calls Tryz.prog 29 #[.int .i64 1, .int .i64 3] wq fun e w' => e = .returned (.agg #[.int .i64 1, .int .i64 3]) ∧ Kp W19 w' Nul) := fun wq k => (HCell.out 1 3 wq).mono fun e w' ⟨h1, h2⟩ => ⟨h1, k.trans h2⟩
  have HGet19 : Hid (∀ wq, Kp W19 wq Nul → Calls Tryz.prog 27 #[.pointer (some ⟨g2, 0, none⟩), .agg #[.int .i64 1, .int .i64 3]] wq fun e w' => ∃ sl', e = .returned (.agg #[.int .i64 1, .int .i64 1, .float .f64 4619567317775286272, .string ⟨#[]⟩, .bool false, .int .i64 0, .int .i64 0, .int .i64 0, .float .f64 0, .string ⟨#[]⟩, .bool false, .int .i64 0, .int .i64 0, .int .i64 0, .bool false, .bool false, .int .i64 0, .int .i64 0, .bool false, .bool false, sl']) ∧ sl'.oneCell' = true ∧ Kp W19 w' Nul) := fun wq k => (HGetN.out wq ((K18.out.trans k19).trans k)).mono fun e w' ⟨sl', h1, h2, h3⟩ => ⟨sl', h1, h2, k.trans h3⟩
  have HK19 : Hid (Kp w W19 Nul) := (HK8.out.trans K18.out).trans k19
  have hk0 : Kp W19 W19.drew Nul := (Kp.refl W19 Nul).drew
  have he := eql_ad22 1 3
  have h7 := seven
  clear hC k19 K18 HK8 HCell HGetN HLen
  go_wp2_with (refine wpList_store_new rfl 55 (.tmp 6) (.tmp 63) rfl _ _ _ _ _ (by simp) rfl rfl rfl infoContent (Ct.one (ctR 1 3) HONE.out) ?_)
  (try simp only [Act.put])
  generalize hWz : w18.alloc (.cells _ 55) = Wz
  have hz : Wz = W19 := hWz.symm.trans hW19
  clear hWz hW19
  subst hz
  go_region_held3 (fun w' => w'.cell? ⟨w18.heap.size, 0, none⟩ = some (.int .i64 2) ∧ w'.cell? ⟨w18.heap.size, 12, none⟩ = some (.int .i64 1) ∧ w'.cell? ⟨w18.heap.size, 13, none⟩ = some (.int .i64 3))
    (exact HS.out _ (by assumption))
    (first
      | (go_at_call 29; refine (HCell19.out _ (by assumption)).mono ?_; rintro e wz ⟨rfl, hkz⟩)
      | (go_at_call 27; refine (HGet19.out _ (by assumption)).mono ?_; rintro e wz ⟨slz, rfl, _, hkz⟩))
  all_goals
    go_wp2_with fail
    go_ret
    exact ⟨rfl, HK19.out.trans (by assumption)⟩
end Go.Proofs.YtbkcebbddhaifaaGreatDoor
