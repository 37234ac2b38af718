/- All; Put, whatever is put. Move: brought: how far the range has come. No function of the program here. -/
import Derived.Test.YtbkcebbddhaifaaGreatDoorC47
import Derived.Test.YtbkcebbddhaifaaGreatDoorC48
import Derived.Test.YtbkcebbddhaifaaGreatDoorC49
namespace Go.Proofs.YtbkcebbddhaifaaGreatDoor
open Go.RowKit Go.Maps Go.Sort Go.Lib

set_option maxHeartbeats 2000000 in
theorem in_at (g : Nat) (w : World) : Calls Tryz.prog 72 #[.pointer (some ⟨g, 0, none⟩), .agg #[.int .i64 1, .int .i64 1, .int .i64 256, .int .i64 4096]] w fun e w' => ∃ x0 x1, e = .returned (.func (.func 121) #[] #[.pointer (some ⟨x0, 0, none⟩), .pointer (some ⟨x1, 0, none⟩)]) ∧ Blk w' x0 [.pointer (some ⟨g, 0, none⟩)] 24 ∧ Blk w' x1 [.int .i64 1, .int .i64 1, .int .i64 256, .int .i64 4096] 34 ∧ Kp w w' Nul := by
  obtain ⟨W, hW⟩ : ∃ W, (w.alloc (.cells #[.pointer (some ⟨g, 0, none⟩)] 24)).alloc (.cells #[.int .i64 1, .int .i64 1, .int .i64 256, .int .i64 4096] 34) = W := ⟨_, rfl⟩
  have HW : Hid ((w.alloc (.cells #[.pointer (some ⟨g, 0, none⟩)] 24)).alloc (.cells #[.int .i64 1, .int .i64 1, .int .i64 256, .int .i64 4096] 34) = W) := hW
  have HK : Hid (Kp w W Nul) := by show Kp w W Nul; rw [← hW]; exact ((Kp.refl w Nul).alloc _).alloc _
  have HB0 : Hid (Blk W w.heap.size [.pointer (some ⟨g, 0, none⟩)] 24) := by show Blk _ _ _ _; rw [← hW]; exact (Blk.new w [.pointer (some ⟨g, 0, none⟩)] _).alloc _
  have HB1 : Hid (Blk W (w.heap.size + 1) [.int .i64 1, .int .i64 1, .int .i64 256, .int .i64 4096] 34) := by
    have := Blk.new (w.alloc (.cells #[.pointer (some ⟨g, 0, none⟩)] 24)) [.int .i64 1, .int .i64 1, .int .i64 256, .int .i64 4096] 34
    rw [World.size_alloc] at this
    show Blk _ _ _ _
    rw [← hW]; exact this
  clear hW
  go_enter Tryz.func72, Tryz.ntmps72
  go_wp2_with fail
  rw [HW.out]
  go_ret
  exact ⟨_, _, rfl, HB0.out, HB1.out, HK.out⟩
set_option maxHeartbeats 2000000 in
theorem all_at (g : Nat) (w : World) : Calls Tryz.prog 34 #[.pointer (some ⟨g, 0, none⟩)] w fun e w' => ∃ x0 x1, e = .returned (.func (.func 121) #[] #[.pointer (some ⟨x0, 0, none⟩), .pointer (some ⟨x1, 0, none⟩)]) ∧ Blk w' x0 [.pointer (some ⟨g, 0, none⟩)] 24 ∧ Blk w' x1 [.int .i64 1, .int .i64 1, .int .i64 256, .int .i64 4096] 34 ∧ Kp w w' Nul := by
  have H : Hid (Calls Tryz.prog 72 #[.pointer (some ⟨g, 0, none⟩), .agg #[.int .i64 1, .int .i64 1, .int .i64 256, .int .i64 4096]] w fun e w' => ∃ x0 x1, e = .returned (.func (.func 121) #[] #[.pointer (some ⟨x0, 0, none⟩), .pointer (some ⟨x1, 0, none⟩)]) ∧ Blk w' x0 [.pointer (some ⟨g, 0, none⟩)] 24 ∧ Blk w' x1 [.int .i64 1, .int .i64 1, .int .i64 256, .int .i64 4096] 34 ∧ Kp w w' Nul) := in_at g w
  go_enter Tryz.func34, Tryz.ntmps34
  go_wp2_with fail
  refine H.out.mono ?_
  rintro e w1 ⟨x0, x1, rfl, h1, h2, h3⟩
  have HE : Hid (Blk w1 x0 [.pointer (some ⟨g, 0, none⟩)] 24 ∧ Blk w1 x1 [.int .i64 1, .int .i64 1, .int .i64 256, .int .i64 4096] 34 ∧ Kp w w1 Nul) := ⟨h1, h2, h3⟩
  clear h1 h2 h3 H
  go_wp2_with fail
  go_ret
  exact ⟨_, _, rfl, HE.out⟩
/-- What a grid may hold. -/
structure Ok17 (L : List Cc) : Prop where
  gd : ∀ x ∈ L, Gd x.2
  at' : ∀ x ∈ L, vC x.1.1 x.1.2 = true
  len : L.length ≤ 4096
theorem Ok17.nil : Ok17 [] := ⟨fun x h => by simp at h, fun x h => by simp at h, by simp⟩
theorem Ok17.okC {L : List Cc} (h : Ok17 L) : OkC L := fun x hx => ⟨(h.gd x hx).x, (h.gd x hx).ok⟩
theorem Ok17.put {L : List Cc} (h : Ok17 L) (ho : L.Pairwise (fun x y => x.1 ≠ y.1)) {c r : Int} {ct : Ct} (hx : vC c r = true) (hg : Gd ct) (hroom : L.length < 4096 ∨ ∃ c', ((c, r), c') ∈ L) : Ok17 (putL L (c, r) ct) := by
  refine ⟨fun x hx' => ?_, fun x hx' => ?_, ?_⟩
  · rcases (putL_mem x).1 hx' with rfl | h1
    · exact hg
    · exact h.gd x h1.1
  · rcases (putL_mem x).1 hx' with rfl | h1
    · exact hx
    · exact h.at' x h1.1
  · by_cases hin : ∃ c', ((c, r), c') ∈ L
    · rw [putL_in ho hin]; exact h.len
    · have hno : ∀ c', ((c, r), c') ∉ L := fun c' q => hin ⟨c', q⟩
      rw [putL_out hno]
      rcases hroom with h1 | h1
      · omega
      · exact absurd h1 hin
theorem Ok17.del {L : List Cc} (h : Ok17 L) (k : Int × Int) : Ok17 (delL L k) :=
  ⟨fun x hx => h.gd x ((delL_mem x).1 hx).1, fun x hx => h.at' x ((delL_mem x).1 hx).1, Nat.le_trans (List.length_filter_le _ _) h.len⟩
/-- What Put leaves: where it may. -/
structure PutR (L : List Cc) (c r : Int) (ct : Ct) (er : Int) (L' : List Cc) : Prop where
  ok : Ok17 L'
  put : vC c r = true → gv ct = true → ct.k ≠ 0 → (L.length < 4096 ∨ ∃ c', ((c, r), c') ∈ L) → er = 0 ∧ L' = putL L (c, r) (cpC ct)
  del : vC c r = true → gv ct = true → ct.k = 0 → er = 0 ∧ L' = delL L (c, r)
theorem put_any (G : Nat → Prop) (g : Nat) (c r : Int) (ct : Ct) (sl : Value) (F : Nat → Prop) (L : List Cc) (w : World) (hG : GridIn w G g L) (hnew : ∀ i, w.heap.size ≤ i → G i) (hL : Ok17 L) (hok : ct.t.ok) (hx : ct.v.x < 18446744073709551616) (hs : ct.t.size ≤ 1048576) (hin : NdIn w F sl ct.t) (U : VS w) :
    Calls Tryz.prog 16 #[.pointer (some ⟨g, 0, none⟩), .agg #[.int .i64 c, .int .i64 r], ct.val sl] w fun e w' => ∃ er L', e = .returned (.int .i64 er) ∧ GridIn w' G g L' ∧ PutR L c r ct er L' ∧ Km g w w' := by
  have h : GI 0 w g L := GridIn.mono hG (fun _ _ => Nat.zero_le _)
  obtain ⟨mv, bg⟩ := h.blk
  have hval : ∀ V, gv ct = V → ∀ wq, Kp w wq Nul → Calls Tryz.prog 58 #[ct.val sl] wq fun e w' => e = .returned (.bool V) ∧ Kp wq w' Nul := fun V hV wq k => by subst hV; exact gv_at ct sl F wq hok (hin.kp k (fun _ _ x => x)) (U.kp k)
  have hcp : ∀ wq, Kp w wq Nul → Calls Tryz.prog 61 #[ct.val sl] wq fun e w' => ∃ sl' fp, e = .returned ((cpC ct).val sl') ∧ Own w' wq.heap.size sl' (cpC ct).t fp ∧ Kp wq w' Nul := fun wq k => (gCopy_at ct sl F wq hx hs hok (hin.kp k (fun _ _ x => x))).mono (by
    rintro e w' ⟨sl', fp, h1, h2, h3⟩
    exact ⟨sl', fp, h1, h2, Kp.of_below h3⟩)
  have hno : ∀ er w', Kp w w' Nul → (vC c r = true → gv ct = true → False) → ∃ er' L', Ending.returned (.int .i64 er) = .returned (.int .i64 er') ∧ GridIn w' G g L' ∧ PutR L c r ct er' L' ∧ Km g w w' := fun er w' k hf => ⟨er, L, rfl, hG.kp k, ⟨hL, fun h1 h2 => (hf h1 h2).elim, fun h1 h2 => (hf h1 h2).elim⟩, Km.of_nul k bg.lt⟩
  cases hV : gv ct with
  | false =>
    refine (put_no g c r ct sl false w (fun e => by cases e) (hval false hV)).mono ?_
    rintro e w' ⟨rfl, k⟩
    exact hno _ w' k (fun _ h2 => by rw [hV] at h2; cases h2)
  | true =>
    cases hC : vC c r with
    | false =>
      refine (put_no g c r ct sl true w (fun _ => hC) (hval true hV)).mono ?_
      rintro e w' ⟨rfl, k⟩
      exact hno _ w' k (fun h1 _ => by rw [hC] at h1; cases h1)
    | true =>
      by_cases hk : ct.k = 0
      · refine (put_dm G g c r hC ct hk sl L w hG (hval true hV)).mono ?_
        rintro e w' ⟨rfl, h1, h2⟩
        exact ⟨0, _, rfl, h1, ⟨hL.del _, fun _ _ h => absurd hk h, fun _ _ _ => ⟨rfl, rfl⟩⟩, h2⟩
      · by_cases hroom : L.length < 4096 ∨ ∃ c', ((c, r), c') ∈ L
        · refine (put_m G g c r hC ct hk sl L w h hG hnew hL.len hroom (hval true hV) hcp).mono ?_
          rintro e w' ⟨rfl, h1, h2⟩
          exact ⟨0, _, rfl, h1, ⟨hL.put h.once hC (Gd.of hV hk hok hx hs) hroom, fun _ _ _ _ => ⟨rfl, rfl⟩, fun _ _ h => absurd h hk⟩, h2⟩
        · have hfull : 4096 ≤ L.length := by
            rcases Nat.lt_or_ge L.length 4096 with q | q
            · exact absurd (.inl q) hroom
            · exact q
          refine (put_full 0 g c r hC ct hk sl L w h hfull (fun c' q => hroom (.inr ⟨c', q⟩)) (hval true hV)).mono ?_
          rintro e w' ⟨rfl, k⟩
          exact ⟨41, L, rfl, hG.kp k, ⟨hL, fun _ _ _ q => absurd q hroom, fun _ _ q => absurd q hk⟩, Km.of_nul k bg.lt⟩
end Go.Proofs.YtbkcebbddhaifaaGreatDoor
namespace Go.Proofs.YtbkcebbddhaifaaGreatDoor
open Go.RowKit Go.Maps

theorem GridIn.lows {w : World} {F : Nat → Prop} {g : Nat} {L : List Cc} (h : GridIn w F g L) : GridIn w (fun b => F b ∧ b < w.heap.size) g L := by
  obtain ⟨hF, ⟨hb, e⟩ | ⟨m, D, hb, hm', hne, hown, hm⟩⟩ := h
  · exact ⟨⟨hF, (Array.getElem?_eq_some_iff.1 hb).1⟩, .inl ⟨hb, e⟩⟩
  · exact ⟨⟨hF, (Array.getElem?_eq_some_iff.1 hb).1⟩, .inr ⟨m, D, hb, ⟨hm', hown.lt⟩, hne, hown, ⟨hm.size, hm.rng, hm.keys, fun c r ct hc => by obtain ⟨sl, e1, e2⟩ := hm.vals c r ct hc; exact ⟨sl, e1, e2.mono (fun b hF hb => ⟨rfl, hF, hb⟩)⟩, hm.once⟩⟩⟩
theorem GridIn.far' {w w' : World} {F S : Nat → Prop} {g : Nat} {L : List Cc} (h : GridIn w F g L) (k : Kp w w' S) (hS : ∀ i, F i → ¬ S i) : GridIn w' F g L := by
  obtain ⟨hF, ⟨hb, e⟩ | ⟨m, D, hb, hm', hne, hown, hm⟩⟩ := h
  · exact ⟨hF, .inl ⟨(k.block g (Array.getElem?_eq_some_iff.1 hb).1 (hS g hF)).trans hb, e⟩⟩
  · exact ⟨hF, .inr ⟨m, D, (k.block g (Array.getElem?_eq_some_iff.1 hb).1 (hS g hF)).trans hb, hm', hne, ownsMap_block hown (k.block m hown.lt (hS m hm')), ⟨hm.size, hm.rng, hm.keys, fun c r ct hc => by obtain ⟨sl, e1, e2⟩ := hm.vals c r ct hc; exact ⟨sl, e1, e2.kp k hS⟩, hm.once⟩⟩⟩
theorem GridIn.once' {w : World} {F : Nat → Prop} {g : Nat} {L : List Cc} (h : GridIn w F g L) : L.Pairwise (fun x y => x.1 ≠ y.1) := by
  obtain ⟨_, ⟨_, rfl⟩ | ⟨m, D, _, _, _, _, hm⟩⟩ := h
  · exact List.Pairwise.nil
  · exact hm.once
/-- Was a cell lost? -/
def lostB (f : Fate) (L : List Cc) : Bool := L.any fun x => (f (x.1, x.1)).isNone
/-- Behind k rounds. -/
structure BrI (f : Fate) (w : World) (B xc xr : Nat) (cols : Bool) (at' n : Int) (g2 : Nat) (K : List Cc) (k : Nat) (Z : Nat → Prop) (W : World) (M : List Cc) : Prop where
  gi : GridIn W (fun i => Z i ∧ i ≠ w.heap.size + 1 + 1) g2 M
  ok : Ok17 M
  len : M.length ≤ k
  mem : ∀ y, y ∈ M ↔ y ∈ brL f (K.take k)
  lo : Blk W (w.heap.size + 1 + 1) [.bool (lostB f (K.take k))] 4
  oth : Blk W (w.heap.size + 1) [.pointer (some ⟨g2, 0, none⟩)] 24
  fb : Blk W w.heap.size [fateF xc xr] 101
  kept : KeptIn W xc xr cols at' n
  kp : Kp w W Nul
  zl : ∀ i, Z i → i < W.heap.size ∧ (i = w.heap.size + 1 + 1 ∨ i = g2 ∨ B + 2 ≤ i)
  z2 : Z (w.heap.size + 1 + 1)
  hB : w.heap.size + 3 ≤ g2 ∧ g2 < B ∧ xc < B ∧ xr < B
section
variable {f : Fate} {w W W' : World} {B xc xr : Nat} {cols : Bool} {at' n : Int} {g2 : Nat} {K : List Cc} {k : Nat} {Z : Nat → Prop} {M : List Cc}
/-- Writes elsewhere. -/
theorem BrI.far {S : Nat → Prop} (h : BrI f w B xc xr cols at' n g2 K k Z W M) (g : Kp W W' S) (hZ : ∀ i, Z i → ¬ S i) (hb : ∀ i, i < B → S i → False) : BrI f w B xc xr cols at' n g2 K k Z W' M := by
  obtain ⟨h1, h2, h3, h4⟩ := h.hB
  exact ⟨h.gi.far' g (fun i hi => hZ i hi.1), h.ok, h.len, h.mem, h.lo.kp g (fun e => hb _ (by omega) e), h.oth.kp g (fun e => hb _ (by omega) e), h.fb.kp g (fun e => hb _ (by omega) e), ⟨h.kept.c.kp g (fun e => hb _ h3 e), h.kept.r.kp g (fun e => hb _ h4 e)⟩, h.kp.trans' g (fun i hi e => hb i (by omega) e), fun i hi => ⟨Nat.lt_of_lt_of_le (h.zl i hi).1 g.size, (h.zl i hi).2⟩, h.z2, h.hB⟩
theorem BrI.nul (h : BrI f w B xc xr cols at' n g2 K k Z W M) (g : Kp W W' Nul) : BrI f w B xc xr cols at' n g2 K k Z W' M := h.far g (fun _ _ q => q) (fun _ _ q => q)
theorem take_snoc {x : Cc} (hx : K[k]? = some x) : K.take (k + 1) = K.take k ++ [x] := by rw [List.take_add_one, hx]; rfl
theorem brL_snoc (f : Fate) (L : List Cc) (x : Cc) (y : Cc) : y ∈ brL f (L ++ [x]) ↔ y ∈ brL f L ∨ ∃ b, f (x.1, x.1) = some b ∧ y = (b.1, alC f x.2) := by
  rw [brL_mem, brL_mem]
  constructor
  · rintro ⟨z, hz, b, h1, h2⟩
    rcases List.mem_append.1 hz with hz | hz
    · exact .inl ⟨z, hz, b, h1, h2⟩
    · rw [List.mem_singleton] at hz; subst hz; exact .inr ⟨b, h1, h2⟩
  · rintro (⟨z, hz, b, h1, h2⟩ | ⟨b, h1, h2⟩)
    · exact ⟨z, List.mem_append_left _ hz, b, h1, h2⟩
    · exact ⟨x, List.mem_append_right _ (List.mem_singleton.2 rfl), b, h1, h2⟩
/-- A cell is lost. -/
theorem BrI.lose {x : Cc} (h : BrI f w B xc xr cols at' n g2 K k Z W M) (hx : K[k]? = some x) (hf : f (x.1, x.1) = none) (g : Kp W W' (fun i => i = w.heap.size + 1 + 1)) (hb : Blk W' (w.heap.size + 1 + 1) [.bool true] 4) : BrI f w B xc xr cols at' n g2 K (k + 1) Z W' M := by
  obtain ⟨h1, h2, h3, h4⟩ := h.hB
  have nz : ∀ {b : Nat} {cs : List Value} {t : TypeId}, Blk W b cs t → t ≠ 4 → ¬ b = w.heap.size + 1 + 1 := fun {b cs t} hb ht e => by
    have q1 := h.lo
    unfold Blk at hb q1
    rw [e, q1] at hb
    simp only [Option.some.injEq, Obj.cells.injEq] at hb
    exact ht hb.2.1.symm
  have hgi : GridIn W' (fun i => Z i ∧ i ≠ w.heap.size + 1 + 1) g2 M := h.gi.far' g (fun i hi e => hi.2 e)
  refine ⟨hgi, h.ok, Nat.le_succ_of_le h.len, fun y => ?_, ?_, h.oth.kp g (nz h.oth (by decide)), h.fb.kp g (nz h.fb (by decide)), ⟨h.kept.c.kp g (nz h.kept.c (by decide)), h.kept.r.kp g (nz h.kept.r (by decide))⟩, h.kp.trans' g (fun i hi e => by have e' : i = w.heap.size + 1 + 1 := e; omega), fun i hi => ⟨Nat.lt_of_lt_of_le (h.zl i hi).1 g.size, (h.zl i hi).2⟩, h.z2, h.hB⟩
  · rw [take_snoc hx, brL_snoc, h.mem y]
    constructor
    · exact .inl
    · rintro (q | ⟨b, q, _⟩)
      · exact q
      · rw [hf] at q; cases q
  · have : lostB f (K.take (k + 1)) = true := by
      rw [take_snoc hx]
      unfold lostB
      rw [List.any_append]
      simp [hf]
    rw [this]; exact hb
/-- A cell is put. -/
theorem BrI.put {x : Cc} {b : Ar4} {V X : World} {M' : List Cc} {er : Int} (h : BrI f w B xc xr cols at' n g2 K k Z V M) (hf : FateOk f) (hi : FateInj f) (hx : K[k]? = some x) (hb : f (x.1, x.1) = some b) (hK : Strict (K.map (·.1))) (hKl : K.length ≤ 4096) (hKv : ∀ y ∈ K, vC y.1.1 y.1.2 = true) (hKg : ∀ y ∈ K, Gd y.2)
    (hBV : B + 2 ≤ V.heap.size) (hg : GridIn X (fun i => (Z i ∧ i ≠ w.heap.size + 1 + 1) ∨ V.heap.size ≤ i) g2 M') (hp : PutR M b.1.1 b.1.2 (alC f x.2) er M') (km : Km g2 V X) :
    ∃ Z', BrI f w B xc xr cols at' n g2 K (k + 1) Z' X M' ∧ ∀ i, Z' i → Z i ∨ V.heap.size ≤ i := by
  have hk : k < K.length := (List.getElem?_eq_some_iff.1 hx).1
  have hxm := List.mem_of_getElem? hx
  obtain ⟨h1, h2, h3, h4⟩ := h.hB
  have hvb : vC b.1.1 b.1.2 = true := fate_vC hf (hKv x hxm) hb
  have hgd := alC_gd hf (hKg x hxm)
  obtain ⟨_, rfl⟩ := hp.put hvb hgd.val hgd.k (.inl (by have := h.len; omega))
  rw [hgd.cp] at hg ⊢
  have hM : ∀ y ∈ M, y.1 ≠ b.1 := fun y hy e => by
    obtain ⟨z, hz, b', e1, rfl⟩ := brL_mem.1 ((h.mem y).1 hy)
    have hzK := List.mem_of_mem_take hz
    have hne : z.1 ≠ x.1 := by
      intro e
      obtain ⟨t, ht⟩ := List.mem_iff_getElem?.1 hz
      rw [List.getElem?_take] at ht
      split at ht
      · rename_i htl
        obtain ⟨l1, q1⟩ := List.getElem?_eq_some_iff.1 ht
        obtain ⟨l2, q2⟩ := List.getElem?_eq_some_iff.1 hx
        have hs := List.pairwise_iff_getElem.1 (List.pairwise_map.1 hK) t k l1 l2 htl
        rw [q1, q2, e] at hs
        rw [swoA.irrefl] at hs
        cases hs
      · cases ht
    exact hi z.1 x.1 b' b (hKv z hzK) (hKv x hxm) hne e1 hb e
  have gi0 : GI 0 V g2 M := GridIn.mono h.gi (fun _ _ => Nat.zero_le _)
  have hok : Ok17 (putL M b.1 (alC f x.2)) := h.ok.put h.gi.once' hvb hgd (.inl (by have := h.len; omega))
  refine ⟨fun i => (Z i ∨ V.heap.size ≤ i) ∧ i < X.heap.size, ⟨hg.lows.mono (fun i hi => ⟨⟨hi.1.imp (fun q => q.1) id, hi.2⟩, hi.1.elim (fun q => q.2) (fun q => by omega)⟩), hok, ?_, fun y => ?_, ?_, km.blk h.oth (by omega), km.blk h.fb (by omega), ⟨km.blk h.kept.c (fun e => ?_), km.blk h.kept.r (fun e => ?_)⟩, ?_, fun i hi => ⟨hi.2, ?_⟩, ⟨.inl h.z2, ?_⟩, h.hB⟩, fun i hi => hi.1⟩
  · unfold putL
    have q := List.length_filter_le (fun y : Cc => decide (y.1 ≠ b.1)) M
    have := h.len
    rw [List.length_cons]
    exact Nat.succ_le_succ (Nat.le_trans q this)
  · rw [putL_mem, take_snoc hx, brL_snoc, h.mem y]
    constructor
    · rintro (q | ⟨q, _⟩)
      · exact .inr ⟨b, hb, q⟩
      · exact .inl q
    · rintro (q | ⟨b', q1, q2⟩)
      · exact .inr ⟨q, hM y ((h.mem y).2 q)⟩
      · rw [hb] at q1
        injection q1 with q1
        subst q1
        exact .inl q2
  · have e : lostB f (K.take (k + 1)) = lostB f (K.take k) := by
      rw [take_snoc hx]
      unfold lostB
      rw [List.any_append]
      simp [hb]
    rw [e]
    exact km.blk h.lo (by omega)
  · have q1 := h.kept.c
    obtain ⟨mv, q2⟩ := gi0.blk
    rw [e] at q1
    unfold Blk at q1 q2
    rw [q1] at q2
    simp only [Option.some.injEq, Obj.cells.injEq] at q2
    exact absurd q2.2.1 (by decide)
  · have q1 := h.kept.r
    obtain ⟨mv, q2⟩ := gi0.blk
    rw [e] at q1
    unfold Blk at q1 q2
    rw [q1] at q2
    simp only [Option.some.injEq, Obj.cells.injEq] at q2
    exact absurd q2.2.1 (by decide)
  · refine h.kp.trans' km.kp (fun i hi' e => ?_)
    rcases e with e | ⟨e, _⟩
    · omega
    · obtain ⟨hF, ⟨hb', _⟩ | ⟨m, D, hb', hm', _⟩⟩ := h.gi
      · rw [hb'] at e; simp at e
      · rw [hb'] at e
        have em : m = i := by simpa using e
        subst em
        rcases (h.zl m hm'.1).2 with q | q | q <;> omega
  · rcases hi.1 with q | q
    · exact (h.zl i q).2
    · exact .inr (.inr (by omega))
  · exact (km.blk h.lo (by omega)).lt
end
end Go.Proofs.YtbkcebbddhaifaaGreatDoor
