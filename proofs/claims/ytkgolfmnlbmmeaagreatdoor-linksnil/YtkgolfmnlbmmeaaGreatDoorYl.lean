/- Areas in memory; pieces as sets of places. -/
import Derived.Test.YtkgolfmnlbmmeaaGreatDoorYj
namespace Go.Proofs.YtkgolfmnlbmmeaaGreatDoor
open Go.RowKit

/-- An area: its corners. -/
structure Ar where
  c1 : Int
  r1 : Int
  c2 : Int
  r2 : Int
def Ar.ok (a : Ar) : Prop := 1 ≤ a.c1 ∧ a.c1 ≤ a.c2 ∧ a.c2 ≤ 256 ∧ 1 ≤ a.r1 ∧ a.r1 ≤ a.r2 ∧ a.r2 ≤ 4096
def Ar.has (a : Ar) (x : Int × Int) : Bool := decide (a.c1 ≤ x.1) && decide (x.1 ≤ a.c2) && decide (a.r1 ≤ x.2) && decide (x.2 ≤ a.r2)
/-- The areas lie in block b from o on. -/
def AreasAt (w : World) (b o : Nat) (al : List Ar) : Prop := ∀ (i : Nat) (x : Ar), al[i]? = some x → w.cell? ⟨b, o + i * 4, none⟩ = some (.int .i64 x.c1) ∧ w.cell? ⟨b, o + i * 4 + 1, none⟩ = some (.int .i64 x.r1) ∧ w.cell? ⟨b, o + i * 4 + 2, none⟩ = some (.int .i64 x.c2) ∧ w.cell? ⟨b, o + i * 4 + 3, none⟩ = some (.int .i64 x.r2)
theorem AreasAt.kp {w w' : World} {b o : Nat} {al : List Ar} {S : Nat → Prop} (h : AreasAt w b o al) (g : Kp w w' S) (hb : ¬ S b) : AreasAt w' b o al := fun i x hx => by
  have h1 := h i x hx
  have e := g.block b (cell_lt h1.1) hb
  have ec : ∀ j, w'.cell? ⟨b, j, none⟩ = w.cell? ⟨b, j, none⟩ := fun j => by simp only [World.cell?]; rw [e]
  rw [ec, ec, ec, ec]; exact h1
/-- A slice of these areas, in a block of F. -/
def ArSl (w : World) (F : Nat → Prop) (v : Value) (al : List Ar) : Prop :=
  ∃ (a : Option Addr) (c : Nat), v = .slice a al.length c ∧ al.length ≤ c ∧ c ≤ maxLen ∧ (0 < al.length → ∃ b o, a = some ⟨b, o, none⟩ ∧ F b ∧ AreasAt w b o al)
theorem ArSl.kp {w w' : World} {F S : Nat → Prop} {v : Value} {al : List Ar} (h : ArSl w F v al) (g : Kp w w' S) (hd : ∀ b, F b → ¬ S b) : ArSl w' F v al := by
  obtain ⟨a, c, h1, h2, h3, h4⟩ := h
  exact ⟨a, c, h1, h2, h3, fun hl => by obtain ⟨b, o, e1, e2, e3⟩ := h4 hl; exact ⟨b, o, e1, e2, e3.kp g (hd b e2)⟩⟩
/-- Has the area place q's cell? -/
def inPl (L : List (Int × Int)) (a : Ar) (q : Nat) : Bool := match L[q]? with | some x => a.has x | none => false
theorem pc_area {L : List (Int × Int)} {a : Ar} {l c2 fr to : Nat} (hl : a.c1 = (l : Int) + 1) (hc : a.c2 = (c2 : Int)) (h1 : AheadIs L a.r1 fr) (h2 : AheadIs L (a.r2 + 1) to) (q : Nat) : pcSet fr to (colTo L l) (colTo L c2) q = inPl L a q := by
  unfold pcSet colTo inPl
  cases hq : L[q]? with
  | none => simp
  | some x =>
    simp only [Ar.has]
    rw [Bool.eq_iff_iff]
    simp only [Bool.and_eq_true, Bool.not_eq_true', decide_eq_true_eq, decide_eq_false_iff_not]
    have hlen : q < L.length := (List.getElem?_eq_some_iff.1 hq).1
    constructor
    · rintro ⟨⟨⟨e1, e2⟩, e3⟩, e4⟩
      have f1 := h1.2.2 q x hq (by omega)
      have f2 := h2.2.1 q x hq e3
      omega
    · rintro ⟨⟨⟨e1, e2⟩, e3⟩, e4⟩
      refine ⟨⟨⟨by omega, by omega⟩, ?_⟩, ?_⟩
      · rcases Nat.lt_or_ge q to with h | h
        · exact h
        · have := h2.2.2 q x hq h; omega
      · intro h
        have := h1.2.1 q x hq h; omega
/-- A piece's four values; C are its places. -/
def PcIs (L : List (Int × Int)) (mb : Nat) (v1 v2 v3 v4 : Value) (C : Nat → Bool) : Prop :=
  (v1 = .int .i64 0 ∧ v2 = .int .i64 0 ∧ v3 = .slice none 0 0 ∧ v4 = .slice none 0 0 ∧ C = fun _ => false) ∨
  ∃ fr to l r : Nat, v1 = .int .i64 (fr : Int) ∧ v2 = .int .i64 (to : Int) ∧ v3 = .slice (some ⟨mb, l * ((L.length + 63) / 64), none⟩) ((L.length + 63) / 64) ((257 - l) * ((L.length + 63) / 64)) ∧
    v4 = .slice (some ⟨mb, r * ((L.length + 63) / 64), none⟩) ((L.length + 63) / 64) ((257 - r) * ((L.length + 63) / 64)) ∧ l < 257 ∧ r < 257 ∧ fr ≤ to ∧ to ≤ L.length ∧ C = pcSet fr to (colTo L l) (colTo L r)
set_option maxHeartbeats 1000000 in
theorem last_zero (m : Value) (w : World) : Calls Tryz.prog 115 #[.agg #[.int .i64 0, .int .i64 0, .slice none 0 0, .slice none 0 0], m] w fun e w' => e = .returned (.int .i64 (-1)) ∧ Gr w w' := by
  have HG : Hid (∀ c t, Gr w (w.alloc (.cells c t))) := fun c t => (Gr.refl w).alloc c t
  go_enter Tryz.func115, Tryz.ntmps115
  go_wp2_with (go_at_call 95; refine (wordsOf_at _ (by omega) (by omega) _).mono ?_; rintro e wz ⟨rfl, hz⟩; replace hz := hz.symm; subst hz)
  refine wp_loop_rounds 1 ?_
  rw [rounds_succ]
  go_wp2_with fail
  go_ret
  exact ⟨rfl, HG.out _ _⟩
theorem row_marks {w : World} {B ub mb W : Nat} {cells : Value} {rows : Nat → Nat → Bool} (h : BoardM w B ub mb W cells rows) {c : Nat} (hc : c < 257) : MarksAt w mb (c * W) W (rows c) := fun _ hi => h.m.cell (memL_get hc hi)
/-- The last place of a piece that is not told yet. -/
theorem pc_last {w : World} {F : Nat → Prop} {B ub mb un : Nat} {L : List (Int × Int)} {v1 v2 v3 v4 : Value} {C M : Nat → Bool} (hb : BoardIn w F B ub mb L) (hp : PcIs L mb v1 v2 v3 v4 C) (hu : MarksAt w un 0 ((L.length + 63) / 64) M) (cu : Nat) :
    Calls Tryz.prog 115 #[.agg #[v1, v2, v3, v4], .slice (some ⟨un, 0, none⟩) ((L.length + 63) / 64) cu] w fun e w' => ∃ r : Int, e = .returned (.int .i64 r) ∧ LastIs (fun q => C q && M q) r ∧ Gr w w' := by
  obtain ⟨⟨a, cc, hbm, _⟩, hlen, _, _⟩ := hb
  rcases hp with ⟨rfl, rfl, rfl, rfl, rfl⟩ | ⟨fr, to, l, r, rfl, rfl, rfl, rfl, hl, hr, hft, htl, rfl⟩
  · refine (last_zero _ w).mono ?_
    rintro e w' ⟨rfl, hg⟩
    exact ⟨-1, rfl, .inl ⟨rfl, fun q => rfl⟩, hg⟩
  · exact last_at fr to mb _ _ mb _ _ un 0 cu _ (colTo L l) (colTo L r) M w hft (by omega) (by omega) (row_marks hbm hl) (row_marks hbm hr) hu
end Go.Proofs.YtkgolfmnlbmmeaaGreatDoor
