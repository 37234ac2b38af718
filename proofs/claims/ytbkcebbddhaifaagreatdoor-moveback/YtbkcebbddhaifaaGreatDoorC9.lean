/- A grid's map, one content more or another one. No function of the program here. keep: into a grid that has contents. grid's isZeroNode and Valid. -/
import Derived.Test.YtbkcebbddhaifaaGreatDoorC8
import Derived.Test.YtbkcebbddhaifaaGreatDoorC4
import Derived.Test.YtbkcebbddhaifaaGreatDoorC6
namespace Go.Proofs.YtbkcebbddhaifaaGreatDoor
open Go.RowKit Go.Maps

/-- The contents behind a put. -/
def putL (L : List Cc) (k : Int × Int) (ct : Ct) : List Cc := (k, ct) :: L.filter (fun x => decide (x.1 ≠ k))
theorem filt_none {L : List Cc} {k : Int × Int} (h : ∀ ct, (k, ct) ∉ L) : L.filter (fun x => decide (x.1 ≠ k)) = L := by
  rw [List.filter_eq_self]
  intro x hx
  simp only [ne_eq, decide_not, Bool.not_eq_true', decide_eq_false_iff_not]
  intro e
  exact h x.2 (by rw [← e]; exact hx)
theorem filt_one {k : Int × Int} {ct : Ct} : ∀ {L : List Cc}, L.Pairwise (fun x y => x.1 ≠ y.1) → (k, ct) ∈ L → (L.filter (fun x => decide (x.1 ≠ k))).length + 1 = L.length
  | [], _, h => by cases h
  | x :: L, hp, h => by
    have hp' := List.pairwise_cons.1 hp
    rcases List.mem_cons.1 h with e | e
    · have hn : ∀ c', (k, c') ∉ L := fun c' hc' => (hp'.1 _ hc') (by rw [← e])
      have hx : x.1 = k := by rw [← e]
      rw [List.filter_cons_of_neg (by simp [hx]), filt_none hn, List.length_cons]
    · have hx : x.1 ≠ k := hp'.1 _ e
      rw [List.filter_cons_of_pos (by simp [hx]), List.length_cons, List.length_cons, filt_one hp'.2 e]
theorem putL_once {L : List Cc} {k : Int × Int} {ct : Ct} (h : L.Pairwise (fun x y => x.1 ≠ y.1)) : (putL L k ct).Pairwise (fun x y => x.1 ≠ y.1) := by
  refine List.pairwise_cons.2 ⟨fun x hx => ?_, List.Pairwise.filter _ h⟩
  have := (List.mem_filter.1 hx).2
  simp only [ne_eq, decide_not, Bool.not_eq_true', decide_eq_false_iff_not] at this
  exact fun e => this e.symm
theorem putL_mem {L : List Cc} {k : Int × Int} {ct : Ct} (x : Cc) : x ∈ putL L k ct ↔ x = (k, ct) ∨ (x ∈ L ∧ x.1 ≠ k) := by
  unfold putL
  rw [List.mem_cons, List.mem_filter]
  simp
theorem grid_put {w w' : World} {F : Nat → Prop} {D : DataW Value} {L : List Cc} {m n : Nat} {c r : Int} {ct : Ct} {sl : Value} (hown : w.ownsMap Tryz.prog 32 rawE m n D) (hm : MapHas w F D L) (hc : I64 c) (hr : I64 r) (hin : NdIn w' F sl ct.t) (hold : ∀ sl t, NdIn w F sl t → NdIn w' F sl t) :
    MapHas w' F (D.put (kl c r) (.held (ct.val sl))) (putL L (c, r) ct) := by
  have hkey := kl_key hc hr
  have hput := key_put lawAddr hkey hown.isMap (.held (ct.val sl))
  have hT := hown.tidy lawAddr
  have hne : ∀ x y, I64 x → I64 y → (x, y) ≠ (c, r) → kl x y ≠ kl c r := fun x y hx hy h e => h (by
    have := kl_inj hx hy hc hr e
    exact Prod.ext this.1 this.2)
  refine ⟨?_, fun x hx => ?_, fun x y hx hy => ?_, fun x y ct' h => ?_, putL_once hm.once⟩
  · rw [size_put hT, hm.size]
    unfold putL
    rw [List.length_cons]
    by_cases hh : Maps.has D (kl c r) = true
    · obtain ⟨ct', hmem⟩ := (hm.keys c r hc hr).1 hh
      rw [if_pos hh, filt_one hm.once hmem]
    · rw [if_neg hh, filt_none (fun ct' hmem => hh ((hm.keys c r hc hr).2 ⟨ct', hmem⟩))]
  · rcases (putL_mem x).1 hx with rfl | ⟨h, _⟩
    · exact ⟨hc, hr⟩
    · exact hm.rng x h
  · by_cases e : (x, y) = (c, r)
    · cases e
      exact ⟨fun _ => ⟨ct, (putL_mem _).2 (.inl rfl)⟩, fun _ => hput.1⟩
    · rw [has_put_other (hne x y hx hy e), hm.keys x y hx hy]
      constructor
      · rintro ⟨ct', h⟩; exact ⟨ct', (putL_mem _).2 (.inr ⟨h, e⟩)⟩
      · rintro ⟨ct', h⟩
        rcases (putL_mem _).1 h with h | h
        · cases h; exact absurd rfl e
        · exact ⟨ct', h.1⟩
  · rcases (putL_mem _).1 h with h | ⟨h, e⟩
    · cases h
      exact ⟨sl, hput.2 _, hin⟩
    · have hxy := hm.rng _ h
      obtain ⟨sl', e1, e2⟩ := hm.vals x y ct' h
      exact ⟨sl', by rw [atKey_put_other (hne x y hxy.1 hxy.2 e)]; exact e1, hold _ _ e2⟩
end Go.Proofs.YtbkcebbddhaifaaGreatDoor
namespace Go.Proofs.YtbkcebbddhaifaaGreatDoor
open Go.RowKit Go.Maps

theorem ownsMap_tight {w : World} {m n : Nat} {D : DataW Value} (h : w.ownsMap Tryz.prog 32 rawE m n D) : w.ownsMap Tryz.prog 32 rawE m (Maps.size D) D := by
  obtain ⟨es, clock, h1, h2, h3, rfl⟩ := h
  refine ⟨es, clock, h1, h2, ?_, rfl⟩
  show es.size ≤ List.length _
  rw [length_read]
  exact Nat.le_refl _
set_option maxRecDepth 20000 in
set_option maxHeartbeats 8000000 in
theorem keep_more (g m : Nat) (c r : Int) (hc : I64 c) (hr : I64 r) (ct : Ct) (sl : Value) (F : Nat → Prop) (D : DataW Value) (L : List Cc) (w : World) (hb : Blk w g [.map (some m)] 113) (hF : F g) (hFm : F m) (hne : m ≠ g) (hown : w.ownsMap Tryz.prog 32 rawE m 4096 D) (hm : MapHas w F D L) (hroom : (putL L (c, r) ct).length ≤ 4096) (hin : NdIn w F sl ct.t) (hold : ∀ w', Kp w w' (fun i => i = m) → ∀ sl t, NdIn w F sl t → NdIn w' F sl t) :
    Calls Tryz.prog 60 #[.pointer (some ⟨g, 0, none⟩), .agg #[.int .i64 c, .int .i64 r], ct.val sl] w fun e w' => e = .returned (.tuple #[]) ∧ GridIn w' F g (putL L (c, r) ct) ∧ Kp w w' (fun i => i = m) := by
  have hkey := kl_key hc hr
  obtain ⟨W1, hW1⟩ : ∃ W1, (w.alloc (.cells #[.int .i64 c, .int .i64 r] 32)).alloc (.cells (ct.cells sl).toArray 55) = W1 := ⟨_, rfl⟩
  have k1 : Kp w W1 Nul := by rw [← hW1]; exact ((Kp.refl w Nul).alloc _).alloc _
  have hmlt := hown.lt
  have hA1 : Blk W1 w.heap.size [.int .i64 c, .int .i64 r] 32 := by rw [← hW1]; exact (Blk.new w [.int .i64 c, .int .i64 r] _).alloc _
  have hC1 : Blk W1 (w.heap.size + 1) (ct.cells sl) 55 := by
    have := Blk.new (w.alloc (.cells #[.int .i64 c, .int .i64 r] 32)) (ct.cells sl) 55
    rw [World.size_alloc] at this
    rw [← hW1]; exact this
  have hb1 := hb.kp k1 (fun x => x)
  have hown1 := ownsMap_block hown (k1.block m hmlt (fun x => x))
  obtain ⟨W4, hrun, hown4, hturn⟩ := hown1.drew.store lawAddr Tryz.underlying111 (by decide) hkey (val := ct.val sl) (d := .held (ct.val sl)) (ps := []) rfl
  have k4 : Kp W1 W4 (fun i => i = m) := ((Kp.refl W1 _).drew).trans (Kp.of_turned hturn)
  have k04 : Kp w W4 (fun i => i = m) := k1.of_nul.trans k4
  have hHas := grid_put hown hm hc hr (hold W4 k04 sl ct.t hin) (hold W4 k04)
  have HEND : Hid (GridIn W4 F g (putL L (c, r) ct) ∧ Kp w W4 (fun i => i = m)) := ⟨⟨hF, .inr ⟨m, _, hb1.kp k4 (fun e => hne e.symm), hFm, hne, ownsMap_le (ownsMap_tight hown4) (by rw [hHas.size]; exact hroom), hHas⟩⟩, k04⟩
  have HW1 : Hid ((w.alloc (.cells #[.int .i64 c, .int .i64 r] 32)).alloc (.cells #[.int .i64 ct.k, .int .i64 ct.v.k, .float .f64 ct.v.x, .string ct.v.s, .bool ct.v.b, .int .i64 ct.v.f, .int .i64 ct.t.hd.k, .int .i64 ct.t.hd.o, .float .f64 ct.t.hd.x, .string ct.t.hd.s, .bool ct.t.hd.b, .int .i64 ct.t.hd.f, .int .i64 ct.t.hd.c1, .int .i64 ct.t.hd.r1, .bool ct.t.hd.p1, .bool ct.t.hd.q1, .int .i64 ct.t.hd.c2, .int .i64 ct.t.hd.r2, .bool ct.t.hd.p2, .bool ct.t.hd.q2, sl] 55) = W1) := hW1
  have c1 : W1.cell? ⟨g, 0, none⟩ = some (.map (some m)) := hb1.cell rfl
  have HS3 : Hid (W1.cell? ⟨g, 0, none⟩ = some (.map (some m)) ∧ W1.cell? ⟨w.heap.size, 0, none⟩ = some (.int .i64 c) ∧ W1.cell? ⟨w.heap.size, 1, none⟩ = some (.int .i64 r) ∧ Blk W1 (w.heap.size + 1) (ct.cells sl) 55) := ⟨c1, hA1.cell rfl, hA1.cell rfl, hC1⟩
  have HS4 : Hid (W4.cell? ⟨g, 0, none⟩ = some (.map (some m)) ∧ W4.cell? ⟨w.heap.size, 0, none⟩ = some (.int .i64 c) ∧ W4.cell? ⟨w.heap.size, 1, none⟩ = some (.int .i64 r) ∧ Blk W4 (w.heap.size + 1) (ct.cells sl) 55) := ⟨(hb1.kp k4 (fun e => hne e.symm)).cell rfl, (hA1.kp k4 (by show ¬ w.heap.size = m; omega)).cell rfl, (hA1.kp k4 (by show ¬ w.heap.size = m; omega)).cell rfl, hC1.kp k4 (by show ¬ w.heap.size + 1 = m; omega)⟩
  have cL : ((w.alloc (.cells #[.int .i64 c, .int .i64 r] 32)).alloc (.cells #[.int .i64 ct.k, .int .i64 ct.v.k, .float .f64 ct.v.x, .string ct.v.s, .bool ct.v.b, .int .i64 ct.v.f, .int .i64 ct.t.hd.k, .int .i64 ct.t.hd.o, .float .f64 ct.t.hd.x, .string ct.t.hd.s, .bool ct.t.hd.b, .int .i64 ct.t.hd.f, .int .i64 ct.t.hd.c1, .int .i64 ct.t.hd.r1, .bool ct.t.hd.p1, .bool ct.t.hd.q1, .int .i64 ct.t.hd.c2, .int .i64 ct.t.hd.r2, .bool ct.t.hd.p2, .bool ct.t.hd.q2, sl] 55)).cell? ⟨g, 0, none⟩ = some (.map (some m)) := by rw [HW1.out]; exact c1
  have hnil := eq_nilmap (some m)
  clear hb hin hF hFm hW1 k1 k4 k04 hA1 hC1 hb1 hown hown1 hown4 hturn hHas hkey hne hm hroom hold hmlt c1
  go_enter Tryz.func60, Tryz.ntmps60
  go_wp2_with fail
  rw [HW1.out]
  clear HW1
  refine wp_region_noPanic ?_
  refine wp_region_hel (fun w' : World => w'.cell? ⟨g, 0, none⟩ = some (.map (some m)) ∧ w'.cell? ⟨w.heap.size, 0, none⟩ = some (.int .i64 c) ∧ w'.cell? ⟨w.heap.size, 1, none⟩ = some (.int .i64 r) ∧ Blk w' (w.heap.size + 1) (ct.cells sl) 55) (by kernel_rfl) (HS3.out) (fun hHeld => ?_)
  have tok0 : True := trivial
  have tok1 : True := trivial
  have tok2 : True := trivial
  have tok3 : True := trivial
  have tok4 : True := trivial
  iterate 5 ((first | (clear tok0; refine wpH_takes (i := 0) (v := ?_) (some 15) rfl rfl (by kernel_rfl) (by kernel_rfl) (by kernel_rfl) (fun _ _ _ h => h) (Or.inl ⟨by rfl, ?_⟩) hHeld ?_) | (clear tok1; refine wpH_takes (i := 1) (v := ?_) (some 16) rfl rfl (by kernel_rfl) (by kernel_rfl) (by kernel_rfl) (fun _ _ _ h => h) (Or.inl ⟨by rfl, ?_⟩) hHeld ?_) | (clear tok2; refine wpH_takes (i := 2) (v := ?_) (some 17) rfl rfl (by kernel_rfl) (by kernel_rfl) (by kernel_rfl) (fun _ _ _ h => h) (Or.inl ⟨by rfl, ?_⟩) hHeld ?_) | (clear tok3; refine wpH_takes (i := 3) (v := ?_) (some 18) rfl rfl (by kernel_rfl) (by kernel_rfl) (by kernel_rfl) (fun _ _ _ h => h) (Or.inl ⟨by rfl, ?_⟩) hHeld ?_) | (clear tok4; refine wpH_takes (i := 4) (v := ?_) (some 19) rfl rfl (by kernel_rfl) (by kernel_rfl) (by kernel_rfl) (fun _ _ _ h => h) (Or.inl ⟨by rfl, ?_⟩) hHeld ?_)); rotate_left; (· intro w hSw; obtain ⟨s0, s1, s2, s3⟩ := hSw; clear s3; go_simp; try with_reducible rfl); simp only [Act.put, List.setIfInBounds_toArray, List.set_cons_zero, List.set_cons_succ])
  refine wpH_takes (i := 5) (v := ct.val sl) (some 20) rfl rfl (by kernel_rfl) (by kernel_rfl) (by kernel_rfl) (fun _ _ _ h => h) (Or.inl ⟨by rfl, fun w' hSw => exec_load_content _ rfl rfl hSw.2.2.2 rfl⟩) hHeld ?_
  simp only [Act.put, List.setIfInBounds_toArray, List.set_cons_zero, List.set_cons_succ]
  generalize ct.val sl = V at *
  refine wpH_step (i := 6) (by kernel_rfl) rfl rfl (fun K hK => ?_)
  go_simp
  refine hK.out _ _ HS4.out (fun _ => ?_)
  clear hK K hHeld
  refine wpAnyH_done (by kernel_rfl) ?_ _
  refine NoPanic.normal ?_
  go_wp2_with fail
  go_end0
  exact ⟨rfl, HEND.out⟩
end Go.Proofs.YtbkcebbddhaifaaGreatDoor
namespace Go.Proofs.YtbkcebbddhaifaaGreatDoor
open Go.RowKit

def zHd : Hd := ⟨0, 0, 0, ⟨#[]⟩, false, 0, 0, 0, false, false, 0, 0, false, false⟩
/-- The zero node. -/
def zNd : Nd := .mk zHd []
theorem zNd_ok : zNd.ok := by unfold zNd; rw [Nd.ok, okL]; exact ⟨by decide, trivial⟩
theorem zNd_in (w : World) (F : Nat → Prop) : NdIn w F (.slice none 0 0) zNd := by
  unfold zNd; rw [NdIn]; exact ⟨none, 0, rfl, by simp, by unfold maxLen; omega, .inl ⟨rfl, .inl rfl⟩⟩
/-- A zero node? -/
def zeroN (t : Nd) : Bool := tsame t zNd

set_option maxRecDepth 20000 in
set_option maxHeartbeats 4000000 in
theorem isZeroNode_at (t : Nd) (sl : Value) (F : Nat → Prop) (w : World) (hok : t.ok) (hin : NdIn w F sl t) :
    Calls Tryz.prog 109 #[t.hd.val sl] w fun e w' => e = .returned (.bool (zeroN t)) ∧ Gr w w' := by
  have H1 : Hid (∀ wq, Gr w wq → Calls Tryz.prog 15 #[t.hd.val sl, .agg #[.int .i64 0, .int .i64 0, .float .f64 0, .string ⟨#[]⟩, .bool false, .int .i64 0, .int .i64 0, .int .i64 0, .bool false, .bool false, .int .i64 0, .int .i64 0, .bool false, .bool false, .slice none 0 0]] wq fun e w' => e = .returned (.bool (zeroN t)) ∧ Gr wq w') :=
    fun wq hq => tsame_at t zNd sl (.slice none 0 0) F F wq hok zNd_ok (hin.gr hq) (zNd_in wq F)
  generalize zeroN t = V at *
  generalize t.hd = h at *
  clear hin hok
  go_enter Tryz.func109, Tryz.ntmps109
  go_wp2_with fail
  refine (H1.out _ ((Gr.refl _).alloc _ _)).mono ?_
  rintro e w1 ⟨rfl, hg1⟩
  have G1 : Hid (Gr w w1) := ((Gr.refl _).alloc _ _).trans hg1
  clear hg1 H1
  go_wp2_with fail
  go_ret
  exact ⟨rfl, G1.out⟩

/-- May the content be? u: is its text right; e: what Check says. -/
def validC (c : Ct) (u : Bool) (e : Int) : Bool := (c.k == 0 && (zeroV c.v && zeroN c.t)) || (c.k == 1 && (c.v.k != 0 && validV c.v u && zeroN c.t)) || (c.k == 2 && (zeroV c.v && e == 0))

set_option maxRecDepth 20000 in
set_option maxHeartbeats 8000000 in
theorem gValid_at (c : Ct) (sl : Value) (F : Nat → Prop) (u : Bool) (ec : Int) (w : World) (hok : c.t.ok) (hin : NdIn w F sl c.t)
    (U : Hid (c.k = 1 → c.v.k = 2 → ∀ wq, Gr w wq → Calls Tryz.prog 141 #[.string c.v.s] wq fun e w' => e = .returned (.bool u) ∧ Gr wq w'))
    (CK : Hid (c.k = 2 → ∀ wq, Gr w wq → Calls Tryz.prog 49 #[c.t.hd.val sl] wq fun e w' => e = .returned (.int .i64 ec) ∧ Below wq.heap.size wq w')) :
    Calls Tryz.prog 58 #[c.val sl] w fun e w' => e = .returned (.bool (validC c u ec)) ∧ Below w.heap.size w w' := by
  have H1 : Hid (∀ w, Calls Tryz.prog 108 #[c.v.val] w fun e w' => e = .returned (.bool (zeroV c.v)) ∧ Gr w w') := isZeroValue_at c.v
  have H2 : Hid (∀ wq, Gr w wq → Calls Tryz.prog 109 #[c.t.hd.val sl] wq fun e w' => e = .returned (.bool (zeroN c.t)) ∧ Gr wq w') := fun wq hq => isZeroNode_at c.t sl F wq hok (hin.gr hq)
  have H3 : Hid (c.k = 1 → ∀ wq, Gr w wq → Calls Tryz.prog 110 #[c.v.val] wq fun e w' => e = .returned (.bool (validV c.v u)) ∧ Gr wq w') := fun h1 wq hq => valid_at c.v u wq (fun h2 w2 q2 => U.out h1 h2 w2 (hq.trans q2))
  have hV : Hid (validC c u ec = ((c.k == 0 && (zeroV c.v && zeroN c.t)) || (c.k == 1 && (c.v.k != 0 && validV c.v u && zeroN c.t)) || (c.k == 2 && (zeroV c.v && ec == 0)))) := rfl
  generalize validC c u ec = V at *
  generalize zeroV c.v = Z at *
  generalize zeroN c.t = ZN at *
  generalize validV c.v u = VV at *
  obtain ⟨k, ⟨vk, vx, vs, vb, vf⟩, t⟩ := c
  simp only at *
  clear U hin hok
  have GA : Hid (∀ a t, Gr w (w.alloc (.cells a t))) := fun a t => (Gr.refl w).alloc _ _
  by_cases k0 : k = 0
  · subst k0
    clear H3 CK
    go_enter Tryz.func58, Tryz.ntmps58
    go_wp2_with fail
    refine (H1.out _).mono ?_
    rintro e w1 ⟨rfl, hg1⟩
    have hcell := hg1.ext.cell
    have G1 : Hid (Gr w w1) := (GA.out _ _).trans hg1
    clear hg1 H1
    cases Z
    · go_wp2_with fail
      go_ret
      exact ⟨rBool (by rw [hV.out]; rfl), gr_below G1.out⟩
    · go_wp2_with fail
      refine (H2.out _ G1.out).mono ?_
      rintro e w2 ⟨rfl, hg2⟩
      have G2 : Hid (Gr w w2) := G1.out.trans hg2
      clear hg2 H2 hcell
      go_wp2_with fail
      go_ret
      exact ⟨rBool (by rw [hV.out]; cases ZN <;> rfl), gr_below G2.out⟩
  · by_cases k1 : k = 1
    · have H4 : Hid (∀ wq, Gr w wq → Calls Tryz.prog 110 #[.agg #[.int .i64 vk, .float .f64 vx, .string vs, .bool vb, .int .i64 vf]] wq fun e w' => e = .returned (.bool VV) ∧ Gr wq w') := H3.out k1
      subst k1
      clear H3 CK H1
      by_cases v0 : vk = 0
      · subst v0
        go_enter Tryz.func58, Tryz.ntmps58
        go_wp2_with fail
        go_ret
        exact ⟨rBool (by rw [hV.out]; rfl), gr_below (GA.out _ _)⟩
      · have hv0 : (vk != 0) = true := by simpa using v0
        go_enter Tryz.func58, Tryz.ntmps58
        go_wp2_with fail
        refine (H4.out _ (GA.out _ _)).mono ?_
        rintro e w1 ⟨rfl, hg1⟩
        have hcell := hg1.ext.cell
        have G1 : Hid (Gr w w1) := (GA.out _ _).trans hg1
        clear hg1 H4
        cases VV
        · go_wp2_with fail
          go_ret
          exact ⟨rBool (by rw [hV.out, hv0]; rfl), gr_below G1.out⟩
        · go_wp2_with fail
          refine (H2.out _ G1.out).mono ?_
          rintro e w2 ⟨rfl, hg2⟩
          have G2 : Hid (Gr w w2) := G1.out.trans hg2
          clear hg2 H2 hcell
          go_wp2_with fail
          go_ret
          exact ⟨rBool (by rw [hV.out, hv0]; cases ZN <;> rfl), gr_below G2.out⟩
    · by_cases k2 : k = 2
      · have H4 : Hid (∀ wq, Gr w wq → Calls Tryz.prog 49 #[t.hd.val sl] wq fun e w' => e = .returned (.int .i64 ec) ∧ Below wq.heap.size wq w') := CK.out k2
        subst k2
        clear H3 CK H2
        go_enter Tryz.func58, Tryz.ntmps58
        go_wp2_with fail
        refine (H1.out _).mono ?_
        rintro e w1 ⟨rfl, hg1⟩
        have hcell := hg1.ext.cell
        have G1 : Hid (Gr w w1) := (GA.out _ _).trans hg1
        clear hg1 H1
        cases Z
        · go_wp2_with fail
          go_ret
          exact ⟨rBool (by rw [hV.out]; rfl), gr_below G1.out⟩
        · go_wp2_with fail
          refine (H4.out _ G1.out).mono ?_
          rintro e w2 ⟨rfl, hg2⟩
          have G2 : Hid (Below w.heap.size w w2) := (gr_below G1.out).trans (hg2.mono G1.out.ext.size)
          clear hg2 H4 hcell
          go_wp2_with fail
          all_goals
            go_ret
            refine ⟨rBool ?_, G2.out⟩
            rw [hV.out]
            simp_all
      · have h0 : (k == 0) = false := by simpa using k0
        have h1 : (k == 1) = false := by simpa using k1
        have h2 : (k == 2) = false := by simpa using k2
        clear H1 H2 H3 CK
        go_enter Tryz.func58, Tryz.ntmps58
        go_wp2_with fail
        go_ret
        exact ⟨rBool (by rw [hV.out, h0, h1, h2]; rfl), gr_below (GA.out _ _)⟩
end Go.Proofs.YtbkcebbddhaifaaGreatDoor
