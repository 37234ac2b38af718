/- value's isFault, bare, Valid, OfNumber; grid's isZeroValue. value's Valid and OfNumber; grid's isZeroValue. grid's isZeroNode and Valid. -/
import Derived.Test.YtdaoingmiabbcaaGreatDoorVGa
import Derived.Test.YtdaoingmiabbcaaGreatDoorVWa
import Derived.Test.YtdaoingmiabbcaaGreatDoorVXk
import Derived.Test.YtdaoingmiabbcaaGreatDoorVXs
namespace Go.Proofs.YtdaoingmiabbcaaGreatDoor
open Go.RowKit

def isF (f : Int) : Bool := decide (1 ≤ f) && decide (f ≤ 5)
set_option maxHeartbeats 1000000 in
theorem isFault_at (f : Int) (w : World) : Calls Tryz.prog 94 #[.int .i64 f] w fun e w' => e = .returned (.bool (isF f)) ∧ w' = w := by
  have hV : Hid (isF f = (decide (1 ≤ f) && decide (f ≤ 5))) := rfl
  generalize isF f = V at *
  go_enter Tryz.func94, Tryz.ntmps94
  go_wp2
  all_goals
    go_ret
    refine ⟨rBool ?_, rfl⟩
    rw [hV.out]
    clear hV
    (try simp_all) <;> (try omega)

/-- All fields that don't count are zero? -/
def bareV (v : Vl) : Bool := (v.k == 1 || (v.x : Int) == 0) && (v.k == 2 || decide (v.s.toList = [])) && (v.k == 3 || !v.b) && (v.k == 4 || v.f == 0)
set_option maxRecDepth 20000 in
set_option maxHeartbeats 4000000 in
theorem bare_at (v : Vl) (w : World) : Calls Tryz.prog 92 #[v.val] w fun e w' => e = .returned (.bool (bareV v)) ∧ Gr w w' := by
  have G0 : Hid (∀ a t, Gr w (w.alloc (.cells a t))) := fun a t => (Gr.refl w).alloc _ _
  have hV : Hid (bareV v = ((v.k == 1 || (v.x : Int) == 0) && (v.k == 2 || decide (v.s.toList = [])) && (v.k == 3 || !v.b) && (v.k == 4 || v.f == 0))) := rfl
  generalize bareV v = V at *
  obtain ⟨k, x, s, b, f⟩ := v
  simp only at *
  go_enter Tryz.func92, Tryz.ntmps92
  go_wp2
  all_goals
    go_ret
    refine ⟨rBool ?_, G0.out _ _⟩
    rw [hV.out]
    clear hV G0
    simp_all
end Go.Proofs.YtdaoingmiabbcaaGreatDoor
namespace Go.Proofs.YtdaoingmiabbcaaGreatDoor
open Go.RowKit

/-- May the value be? u: is its text right? -/
def validV (v : Vl) (u : Bool) : Bool := bareV v && (v.k == 0 || v.k == 1 || v.k == 3 || (v.k == 2 && decide (v.s.size ≤ 1024) && u) || (v.k == 4 && isF v.f))
set_option maxRecDepth 20000 in
set_option maxHeartbeats 4000000 in
theorem valid_at (v : Vl) (u : Bool) (w : World)
    (U : Hid (v.k = 2 → ∀ wq, Gr w wq → Calls Tryz.prog 93 #[.string v.s] wq fun e w' => e = .returned (.bool u) ∧ Gr wq w')) :
    Calls Tryz.prog 77 #[v.val] w fun e w' => e = .returned (.bool (validV v u)) ∧ Gr w w' := by
  have H1 : Hid (∀ w, Calls Tryz.prog 92 #[v.val] w fun e w' => e = .returned (.bool (bareV v)) ∧ Gr w w') := bare_at v
  have H2 : Hid (∀ w, Calls Tryz.prog 94 #[.int .i64 v.f] w fun e w' => e = .returned (.bool (isF v.f)) ∧ w' = w) := isFault_at v.f
  have hV : Hid (validV v u = (bareV v && (v.k == 0 || v.k == 1 || v.k == 3 || (v.k == 2 && decide (v.s.size ≤ 1024) && u) || (v.k == 4 && isF v.f)))) := rfl
  generalize validV v u = V at *
  generalize bareV v = B at *
  generalize isF v.f = I at *
  obtain ⟨k, x, s, b, f⟩ := v
  simp only at *
  go_enter Tryz.func77, Tryz.ntmps77
  go_wp2_with fail
  refine (H1.out _).mono ?_
  rintro e w1 ⟨rfl, hg1⟩
  have hcell := hg1.ext.cell
  have G1 : Hid (Gr w w1) := ((Gr.refl _).alloc _ _).trans hg1
  clear hg1 H1
  cases B
  · go_wp2_with fail
    go_ret
    exact ⟨rBool (by rw [hV.out]; rfl), G1.out⟩
  · by_cases k2 : k = 2
    · have U2 : Hid (∀ wq, Gr w wq → Calls Tryz.prog 93 #[.string s] wq fun e w' => e = .returned (.bool u) ∧ Gr wq w') := U.out k2
      subst k2
      clear U
      go_wp2_with (go_at_call 93; refine (U2.out _ G1.out).mono ?_; rintro e w2 ⟨rfl, hg2⟩; have G2 : Hid (Gr w w2) := G1.out.trans hg2; clear hg2 hcell)
      · go_ret
        refine ⟨rBool ?_, G2.out⟩
        rw [hV.out]
        clear hV
        simp_all
        try omega
      · go_ret
        refine ⟨rBool ?_, G1.out⟩
        rw [hV.out]
        clear hV
        simp_all
        try omega
    · clear U
      go_wp2_with (go_at_call 94; refine (H2.out _).mono ?_; rintro e w2 ⟨rfl, rfl⟩)
      all_goals
        go_ret
        refine ⟨rBool ?_, G1.out⟩
        rw [hV.out]
        clear hV hcell H2
        simp_all

theorem infoValue : (Tryz.prog.info? 44).map (·.size) = some 5 := by kernel_rfl
/-- All fields of a value are zero? -/
def zeroV (v : Vl) : Bool := v.k == 0 && bareV v
set_option maxRecDepth 20000 in
set_option maxHeartbeats 4000000 in
theorem isZeroValue_at (v : Vl) (w : World) : Calls Tryz.prog 75 #[v.val] w fun e w' => e = .returned (.bool (zeroV v)) ∧ Gr w w' := by
  have H1 : Hid (v.k = 0 → ∀ wq, Calls Tryz.prog 77 #[v.val] wq fun e w' => e = .returned (.bool (bareV v)) ∧ Gr wq w') := by
    intro hk wq
    have := valid_at v false wq (fun h2 => absurd h2 (by rw [hk]; decide))
    rw [show validV v false = bareV v from by unfold validV; rw [hk]; simp] at this
    exact this
  have hV : Hid (zeroV v = (v.k == 0 && bareV v)) := rfl
  generalize zeroV v = V at *
  generalize bareV v = B at *
  obtain ⟨k, x, s, b, f⟩ := v
  simp only at *
  by_cases k0 : k = 0
  · have H2 : Hid (∀ wq, Calls Tryz.prog 77 #[.agg #[.int .i64 k, .float .f64 x, .string s, .bool b, .int .i64 f]] wq fun e w' => e = .returned (.bool B) ∧ Gr wq w') := H1.out k0
    subst k0
    clear H1
    go_enter Tryz.func75, Tryz.ntmps75
    go_wp2_with fail
    refine (H2.out _).mono ?_
    rintro e w1 ⟨rfl, hg1⟩
    have G1 : Hid (Gr w w1) := ((Gr.refl _).alloc _ _).trans hg1
    clear hg1 H2
    go_wp2_with fail
    go_ret
    exact ⟨rBool (by rw [hV.out]; rfl), G1.out⟩
  · clear H1
    have hk : (k == 0) = false := by simpa using k0
    have G1 : Hid (∀ a t, Gr w (w.alloc (.cells a t))) := fun a t => (Gr.refl w).alloc _ _
    go_enter Tryz.func75, Tryz.ntmps75
    go_wp2_with fail
    go_ret
    exact ⟨rBool (by rw [hV.out, hk]; rfl), G1.out _ _⟩

set_option maxRecDepth 20000 in
set_option maxHeartbeats 4000000 in
theorem ofNumber_at (x : Nat) (hx : x < 18446744073709551616) (w : World) :
    Calls Tryz.prog 64 #[.float .f64 x] w fun e w' => e = .returned (.agg #[.int .i64 1, .float .f64 (one x), .string ⟨#[]⟩, .bool false, .int .i64 0]) ∧ Gr w w' := by
  have H1 : Hid (∀ w, Calls Tryz.prog 80 #[.float .f64 x] w fun e w' => e = .returned (.float .f64 (one x)) ∧ w' = w) := one_any x hx
  generalize one x = y at *
  go_enter Tryz.func64, Tryz.ntmps64
  go_wp2_with (go_at_call 80; refine (H1.out _).mono ?_; rintro e w' ⟨rfl, rfl⟩)
  refine bodyPost_ret (results_cell_row rfl _ _ w.heap.size 44 _ (0, 0) _ rfl (heap_alloc_new _ _) Tryz.underlying44 rfl infoValue) rfl ?_
  exact ⟨rfl, (Gr.refl _).alloc _ _⟩
end Go.Proofs.YtdaoingmiabbcaaGreatDoor
namespace Go.Proofs.YtdaoingmiabbcaaGreatDoor
open Go.RowKit

def zHd : Hd := ⟨0, 0, 0, ⟨#[]⟩, false, 0, 0, 0, false, false, 0, 0, false, false⟩
/-- The zero node. -/
def zNd : Nd := .mk zHd []
theorem zNd_ok : zNd.ok := by unfold zNd; rw [Nd.ok, okL]; exact ⟨by decide, trivial⟩
theorem zNd_in (w : World) (F : Nat → Prop) : NdIn w F (.slice none 0 0) zNd := by
  unfold zNd; rw [NdIn]; exact ⟨none, 0, rfl, by simp, by unfold maxLen; omega, .inl ⟨rfl, .inl rfl⟩⟩
/-- A zero node? -/
def zeroN (t : Nd) : Bool := tsame t zNd

set_option maxRecDepth 20000 in
set_option maxHeartbeats 4000000 in
theorem isZeroNode_at (t : Nd) (sl : Value) (F : Nat → Prop) (w : World) (hok : t.ok) (hin : NdIn w F sl t) :
    Calls Tryz.prog 76 #[t.hd.val sl] w fun e w' => e = .returned (.bool (zeroN t)) ∧ Gr w w' := by
  have H1 : Hid (∀ wq, Gr w wq → Calls Tryz.prog 43 #[t.hd.val sl, .agg #[.int .i64 0, .int .i64 0, .float .f64 0, .string ⟨#[]⟩, .bool false, .int .i64 0, .int .i64 0, .int .i64 0, .bool false, .bool false, .int .i64 0, .int .i64 0, .bool false, .bool false, .slice none 0 0]] wq fun e w' => e = .returned (.bool (zeroN t)) ∧ Gr wq w') :=
    fun wq hq => tsame_at t zNd sl (.slice none 0 0) F F wq hok zNd_ok (hin.gr hq) (zNd_in wq F)
  generalize zeroN t = V at *
  generalize t.hd = h at *
  clear hin hok
  go_enter Tryz.func76, Tryz.ntmps76
  go_wp2_with fail
  refine (H1.out _ ((Gr.refl _).alloc _ _)).mono ?_
  rintro e w1 ⟨rfl, hg1⟩
  have G1 : Hid (Gr w w1) := ((Gr.refl _).alloc _ _).trans hg1
  clear hg1 H1
  go_wp2_with fail
  go_ret
  exact ⟨rfl, G1.out⟩

/-- May the content be? u: is its text right; e: what Check says. -/
def validC (c : Ct) (u : Bool) (e : Int) : Bool := (c.k == 0 && (zeroV c.v && zeroN c.t)) || (c.k == 1 && (c.v.k != 0 && validV c.v u && zeroN c.t)) || (c.k == 2 && (zeroV c.v && e == 0))

end Go.Proofs.YtdaoingmiabbcaaGreatDoor
