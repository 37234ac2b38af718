/- grid's isZeroNode and Valid. -/
import Derived.Test.YtjmbmapanmbnhaaDoorXw
import Derived.Test.YtjmbmapanmbnhaaDoorXg
namespace Go.Proofs.YtjmbmapanmbnhaaDoor
open Go.RowKit

def zHd : Hd := ⟨0, 0, 0, ⟨#[]⟩, false, 0, 0, 0, false, false, 0, 0, false, false⟩
/-- The zero node. -/
def zNd : Nd := .mk zHd []
theorem zNd_ok : zNd.ok := by unfold zNd; rw [Nd.ok, okL]; exact ⟨by decide, trivial⟩
theorem zNd_in (w : World) (F : Nat → Prop) : NdIn w F (.slice none 0 0) zNd := by
  unfold zNd; rw [NdIn]; exact ⟨none, 0, rfl, by simp, by unfold maxLen; omega, .inl ⟨rfl, .inl rfl⟩⟩
/-- A zero node? -/
def zeroN (t : Nd) : Bool := tsame t zNd

set_option maxRecDepth 20000 in
set_option maxHeartbeats 4000000 in
theorem isZeroNode_at (t : Nd) (sl : Value) (F : Nat → Prop) (w : World) (hok : t.ok) (hin : NdIn w F sl t) :
    Calls Tryd.prog 33 #[t.hd.val sl] w fun e w' => e = .returned (.bool (zeroN t)) ∧ Gr w w' := by
  have H1 : Hid (∀ wq, Gr w wq → Calls Tryd.prog 41 #[t.hd.val sl, .agg #[.int .i64 0, .int .i64 0, .float .f64 0, .string ⟨#[]⟩, .bool false, .int .i64 0, .int .i64 0, .int .i64 0, .bool false, .bool false, .int .i64 0, .int .i64 0, .bool false, .bool false, .slice none 0 0]] wq fun e w' => e = .returned (.bool (zeroN t)) ∧ Gr wq w') :=
    fun wq hq => tsame_at t zNd sl (.slice none 0 0) F F wq hok zNd_ok (hin.gr hq) (zNd_in wq F)
  generalize zeroN t = V at *
  generalize t.hd = h at *
  clear hin hok
  go_enter Tryd.func33, Tryd.ntmps33
  go_wp2_with fail
  refine (H1.out _ ((Gr.refl _).alloc _ _)).mono ?_
  rintro e w1 ⟨rfl, hg1⟩
  have G1 : Hid (Gr w w1) := ((Gr.refl _).alloc _ _).trans hg1
  clear hg1 H1
  go_wp2_with fail
  go_ret
  exact ⟨rfl, G1.out⟩

/-- May the content be? u: is its text right; e: what Check says. -/
def validC (c : Ct) (u : Bool) (e : Int) : Bool := (c.k == 0 && (zeroV c.v && zeroN c.t)) || (c.k == 1 && (c.v.k != 0 && validV c.v u && zeroN c.t)) || (c.k == 2 && (zeroV c.v && e == 0))

set_option maxRecDepth 20000 in
set_option maxHeartbeats 8000000 in
theorem gValid_at (c : Ct) (sl : Value) (F : Nat → Prop) (u : Bool) (ec : Int) (w : World) (hok : c.t.ok) (hin : NdIn w F sl c.t)
    (U : Hid (c.k = 1 → c.v.k = 2 → ∀ wq, Gr w wq → Calls Tryd.prog 59 #[.string c.v.s] wq fun e w' => e = .returned (.bool u) ∧ Gr wq w'))
    (CK : Hid (c.k = 2 → ∀ wq, Gr w wq → Calls Tryd.prog 35 #[c.t.hd.val sl] wq fun e w' => e = .returned (.int .i64 ec) ∧ Below wq.heap.size wq w')) :
    Calls Tryd.prog 9 #[c.val sl] w fun e w' => e = .returned (.bool (validC c u ec)) ∧ Below w.heap.size w w' := by
  have H1 : Hid (∀ w, Calls Tryd.prog 32 #[c.v.val] w fun e w' => e = .returned (.bool (zeroV c.v)) ∧ Gr w w') := isZeroValue_at c.v
  have H2 : Hid (∀ wq, Gr w wq → Calls Tryd.prog 33 #[c.t.hd.val sl] wq fun e w' => e = .returned (.bool (zeroN c.t)) ∧ Gr wq w') := fun wq hq => isZeroNode_at c.t sl F wq hok (hin.gr hq)
  have H3 : Hid (c.k = 1 → ∀ wq, Gr w wq → Calls Tryd.prog 34 #[c.v.val] wq fun e w' => e = .returned (.bool (validV c.v u)) ∧ Gr wq w') := fun h1 wq hq => valid_at c.v u wq (fun h2 w2 q2 => U.out h1 h2 w2 (hq.trans q2))
  have hV : Hid (validC c u ec = ((c.k == 0 && (zeroV c.v && zeroN c.t)) || (c.k == 1 && (c.v.k != 0 && validV c.v u && zeroN c.t)) || (c.k == 2 && (zeroV c.v && ec == 0)))) := rfl
  generalize validC c u ec = V at *
  generalize zeroV c.v = Z at *
  generalize zeroN c.t = ZN at *
  generalize validV c.v u = VV at *
  obtain ⟨k, ⟨vk, vx, vs, vb, vf⟩, t⟩ := c
  simp only at *
  clear U hin hok
  have GA : Hid (∀ a t, Gr w (w.alloc (.cells a t))) := fun a t => (Gr.refl w).alloc _ _
  by_cases k0 : k = 0
  · subst k0
    clear H3 CK
    go_enter Tryd.func9, Tryd.ntmps9
    go_wp2_with fail
    refine (H1.out _).mono ?_
    rintro e w1 ⟨rfl, hg1⟩
    have hcell := hg1.ext.cell
    have G1 : Hid (Gr w w1) := (GA.out _ _).trans hg1
    clear hg1 H1
    cases Z
    · go_wp2_with fail
      go_ret
      exact ⟨rBool (by rw [hV.out]; rfl), gr_below G1.out⟩
    · go_wp2_with fail
      refine (H2.out _ G1.out).mono ?_
      rintro e w2 ⟨rfl, hg2⟩
      have G2 : Hid (Gr w w2) := G1.out.trans hg2
      clear hg2 H2 hcell
      go_wp2_with fail
      go_ret
      exact ⟨rBool (by rw [hV.out]; cases ZN <;> rfl), gr_below G2.out⟩
  · by_cases k1 : k = 1
    · have H4 : Hid (∀ wq, Gr w wq → Calls Tryd.prog 34 #[.agg #[.int .i64 vk, .float .f64 vx, .string vs, .bool vb, .int .i64 vf]] wq fun e w' => e = .returned (.bool VV) ∧ Gr wq w') := H3.out k1
      subst k1
      clear H3 CK H1
      by_cases v0 : vk = 0
      · subst v0
        go_enter Tryd.func9, Tryd.ntmps9
        go_wp2_with fail
        go_ret
        exact ⟨rBool (by rw [hV.out]; rfl), gr_below (GA.out _ _)⟩
      · have hv0 : (vk != 0) = true := by simpa using v0
        go_enter Tryd.func9, Tryd.ntmps9
        go_wp2_with fail
        refine (H4.out _ (GA.out _ _)).mono ?_
        rintro e w1 ⟨rfl, hg1⟩
        have hcell := hg1.ext.cell
        have G1 : Hid (Gr w w1) := (GA.out _ _).trans hg1
        clear hg1 H4
        cases VV
        · go_wp2_with fail
          go_ret
          exact ⟨rBool (by rw [hV.out, hv0]; rfl), gr_below G1.out⟩
        · go_wp2_with fail
          refine (H2.out _ G1.out).mono ?_
          rintro e w2 ⟨rfl, hg2⟩
          have G2 : Hid (Gr w w2) := G1.out.trans hg2
          clear hg2 H2 hcell
          go_wp2_with fail
          go_ret
          exact ⟨rBool (by rw [hV.out, hv0]; cases ZN <;> rfl), gr_below G2.out⟩
    · by_cases k2 : k = 2
      · have H4 : Hid (∀ wq, Gr w wq → Calls Tryd.prog 35 #[t.hd.val sl] wq fun e w' => e = .returned (.int .i64 ec) ∧ Below wq.heap.size wq w') := CK.out k2
        subst k2
        clear H3 CK H2
        go_enter Tryd.func9, Tryd.ntmps9
        go_wp2_with fail
        refine (H1.out _).mono ?_
        rintro e w1 ⟨rfl, hg1⟩
        have hcell := hg1.ext.cell
        have G1 : Hid (Gr w w1) := (GA.out _ _).trans hg1
        clear hg1 H1
        cases Z
        · go_wp2_with fail
          go_ret
          exact ⟨rBool (by rw [hV.out]; rfl), gr_below G1.out⟩
        · go_wp2_with fail
          refine (H4.out _ G1.out).mono ?_
          rintro e w2 ⟨rfl, hg2⟩
          have G2 : Hid (Below w.heap.size w w2) := (gr_below G1.out).trans (hg2.mono G1.out.ext.size)
          clear hg2 H4 hcell
          go_wp2_with fail
          all_goals
            go_ret
            refine ⟨rBool ?_, G2.out⟩
            rw [hV.out]
            simp_all
      · have h0 : (k == 0) = false := by simpa using k0
        have h1 : (k == 1) = false := by simpa using k1
        have h2 : (k == 2) = false := by simpa using k2
        clear H1 H2 H3 CK
        go_enter Tryd.func9, Tryd.ntmps9
        go_wp2_with fail
        go_ret
        exact ⟨rBool (by rw [hV.out, h0, h1, h2]; rfl), gr_below (GA.out _ _)⟩
end Go.Proofs.YtjmbmapanmbnhaaDoor
