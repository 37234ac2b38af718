/- Cells and areas: plain functions. No program here. The program's Valid, ValidArea, In, Size, sign, letter, least, greatest. Put: a grid's first content. Get; Put that is refused. -/
import Derived.Test.YtbkcebbddhaifaaGreatDoorC1
import Derived.Deep.RegionWith
import Derived.Test.YtbkcebbddhaifaaGreatDoorC8
import Derived.Test.YtbkcebbddhaifaaGreatDoorC9
namespace Go.Proofs.YtbkcebbddhaifaaGreatDoor
open Go.RowKit

/-- Is it a cell? -/
def vC (c r : Int) : Bool := decide (1 ≤ c) && decide (c ≤ 256) && decide (1 ≤ r) && decide (r ≤ 4096)
def cmpI (a b : Int) : Int := if a < b then -1 else if b < a then 1 else 0
def ordC (c r d s : Int) : Int := if cmpI r s = 0 then cmpI c d else cmpI r s
/-- May an area be? -/
def vA (c r d s : Int) : Bool := vC c r && vC d s && decide (c ≤ d) && decide (r ≤ s)
def inA (c r d s x y : Int) : Bool := vA c r d s && decide (c ≤ x) && decide (x ≤ d) && decide (r ≤ y) && decide (y ≤ s)
def sizeA (c r d s : Int) : Int := if vA c r d s then (d - c + 1) * (s - r + 1) else 0
/-- A number, so much greater. -/
def shN (n by' most : Int) (fixed : Bool) : Int × Bool := if fixed then (n, true) else if by' < -n ∨ most < by' then (0, false) else (n + by', decide (1 ≤ n + by') && decide (n + by' ≤ most))
/-- Is there a cell where one would be copied to? -/
def shOk (c r : Int) (cf rf : Bool) (x y : Int) : Bool := vC c r && (shN c x 256 cf).2 && (shN r y 4096 rf).2
def refV (c r : Int) (cf rf : Bool) : Value := .agg #[.int .i64 c, .int .i64 r, .bool cf, .bool rf]
def areaV (c r d s : Int) : Value := .agg #[.int .i64 c, .int .i64 r, .int .i64 d, .int .i64 s]
def shV (c r : Int) (cf rf : Bool) (x y : Int) : Value := if shOk c r cf rf x y then refV (shN c x 256 cf).1 (shN r y 4096 rf).1 cf rf else refV 0 0 false false
/-- The least area that has both. -/
def arE (c r d s : Int) : Int := if vC c r && vC d s then 0 else 20
def arV (c r d s : Int) : Value := if vC c r && vC d s then areaV (min c d) (min r s) (max c d) (max r s) else areaV 0 0 0 0
/-- What both have. -/
def mtO (c r d s c' r' d' s' : Int) : Bool := vA c r d s && vA c' r' d' s' && vA (max c c') (max r r') (min d d') (min s s')
def mtV (c r d s c' r' d' s' : Int) : Value := if mtO c r d s c' r' d' s' then areaV (max c c') (max r r') (min d d') (min s s') else areaV 0 0 0 0

theorem vC_iff (c r : Int) : vC c r = true ↔ 1 ≤ c ∧ c ≤ 256 ∧ 1 ≤ r ∧ r ≤ 4096 := by
  simp [vC, Bool.and_eq_true, and_assoc]
theorem vA_bd (c r d s : Int) : vA c r d s = true → 1 ≤ c ∧ c ≤ d ∧ d ≤ 256 ∧ 1 ≤ r ∧ r ≤ s ∧ s ≤ 4096 := by
  simp only [vA, vC, Bool.and_eq_true, decide_eq_true_eq]
  omega
theorem vA_iff (c r d s : Int) : vA c r d s = true ↔ 1 ≤ c ∧ c ≤ d ∧ d ≤ 256 ∧ 1 ≤ r ∧ r ≤ s ∧ s ≤ 4096 := by
  simp only [vA, vC, Bool.and_eq_true, decide_eq_true_eq]
  omega
theorem mul_bd (a b : Int) (h0 : 0 ≤ a) (h1 : a ≤ 10000) (k0 : 0 ≤ b) (k1 : b ≤ 10000) : 0 ≤ a * b ∧ a * b ≤ 100000000 := by
  refine ⟨Int.mul_nonneg h0 k0, ?_⟩
  have := Int.mul_le_mul h1 k1 k0 (by decide)
  omega
end Go.Proofs.YtbkcebbddhaifaaGreatDoor
namespace Go.Proofs.YtbkcebbddhaifaaGreatDoor
open Go.RowKit

set_option maxHeartbeats 1000000 in
theorem pValid_at (c r : Int) (w : World) :
    Calls Tryz.prog 30 #[.agg #[.int .i64 c, .int .i64 r]] w fun e w' => e = .returned (.bool (vC c r)) ∧ w' = w.alloc (.cells #[.int .i64 c, .int .i64 r] 32) := by
  have hV : Hid (vC c r = (decide (1 ≤ c) && decide (c ≤ 256) && decide (1 ≤ r) && decide (r ≤ 4096))) := rfl
  generalize vC c r = V at *
  go_enter Tryz.func30, Tryz.ntmps30
  go_wp2
  all_goals
    go_ret
    refine ⟨rBool ?_, rfl⟩
    rw [hV.out, Bool.eq_iff_iff]
    simp only [Bool.and_eq_true, decide_eq_true_eq, Bool.false_eq_true, false_iff]
    omega

set_option maxHeartbeats 2000000 in
theorem pValidArea_any (c r d s : Int) (w : World) :
    Calls Tryz.prog 76 #[.agg #[.int .i64 c, .int .i64 r, .int .i64 d, .int .i64 s]] w fun e w' => e = .returned (.bool (vA c r d s)) ∧ Gr w w' := by
  have H1 : Hid (∀ w, Calls Tryz.prog 30 #[.agg #[.int .i64 c, .int .i64 r]] w fun e w' => e = .returned (.bool (vC c r)) ∧ w' = w.alloc (.cells #[.int .i64 c, .int .i64 r] 32)) := pValid_at c r
  have H2 : Hid (∀ w, Calls Tryz.prog 30 #[.agg #[.int .i64 d, .int .i64 s]] w fun e w' => e = .returned (.bool (vC d s)) ∧ w' = w.alloc (.cells #[.int .i64 d, .int .i64 s] 32)) := pValid_at d s
  have hV : Hid (vA c r d s = (vC c r && vC d s && decide (c ≤ d) && decide (r ≤ s))) := rfl
  have G2 : Hid (∀ a b t u, Gr w ((w.alloc (.cells a t)).alloc (.cells b u))) := fun a b t u => ((Gr.refl w).alloc _ _).alloc _ _
  have G3 : Hid (∀ a b d t u v, Gr w (((w.alloc (.cells a t)).alloc (.cells b u)).alloc (.cells d v))) := fun a b d t u v => (((Gr.refl w).alloc _ _).alloc _ _).alloc _ _
  generalize vA c r d s = V at *
  generalize vC c r = p at *
  generalize vC d s = q at *
  cases p
  · go_enter Tryz.func76, Tryz.ntmps76
    go_wp2_with fail
    refine (H1.out _).mono ?_
    rintro e w' ⟨rfl, rfl⟩
    go_wp2_with fail
    go_ret
    exact ⟨rBool hV.out.symm, G2.out _ _ _ _⟩
  · cases q
    · go_enter Tryz.func76, Tryz.ntmps76
      go_wp2_with fail
      refine (H1.out _).mono ?_
      rintro e w' ⟨rfl, rfl⟩
      go_wp2_with fail
      refine (H2.out _).mono ?_
      rintro e w' ⟨rfl, rfl⟩
      go_wp2_with fail
      go_ret
      exact ⟨rBool hV.out.symm, G3.out _ _ _ _ _ _⟩
    · go_enter Tryz.func76, Tryz.ntmps76
      go_wp2_with fail
      refine (H1.out _).mono ?_
      rintro e w' ⟨rfl, rfl⟩
      go_wp2_with fail
      refine (H2.out _).mono ?_
      rintro e w' ⟨rfl, rfl⟩
      go_wp2_with fail
      all_goals
        go_ret
        refine ⟨rBool ?_, G3.out _ _ _ _ _ _⟩
        rw [hV.out]
        clear H1 H2 hV G2 G3
        (try simp_all) <;> (try omega)

set_option maxHeartbeats 2000000 in
theorem pIn_any (c r d s x y : Int) (w : World) :
    Calls Tryz.prog 157 #[.agg #[.int .i64 c, .int .i64 r, .int .i64 d, .int .i64 s], .agg #[.int .i64 x, .int .i64 y]] w fun e w' => e = .returned (.bool (inA c r d s x y)) ∧ Gr w w' := by
  have H1 : Hid (∀ w, Calls Tryz.prog 76 #[.agg #[.int .i64 c, .int .i64 r, .int .i64 d, .int .i64 s]] w fun e w' => e = .returned (.bool (vA c r d s)) ∧ Gr w w') := pValidArea_any c r d s
  have G : Hid (Gr w ((w.alloc (.cells #[.int .i64 c, .int .i64 r, .int .i64 d, .int .i64 s] 34)).alloc (.cells #[.int .i64 x, .int .i64 y] 32))) := ((Gr.refl w).alloc _ _).alloc _ _
  have hV : Hid (inA c r d s x y = (vA c r d s && decide (c ≤ x) && decide (x ≤ d) && decide (r ≤ y) && decide (y ≤ s))) := rfl
  generalize inA c r d s x y = V at *
  generalize vA c r d s = p at *
  go_enter Tryz.func157, Tryz.ntmps157
  go_wp2_with fail
  refine (H1.out _).mono ?_
  rintro e w1 ⟨rfl, hg⟩
  have hcell := hg.ext.cell
  have G1 : Hid (Gr w w1) := G.out.trans hg
  clear hg G
  go_wp2_with fail
  all_goals
    go_ret
    refine ⟨rBool ?_, G1.out⟩
    rw [hV.out]
    clear H1 hV G1 hcell
    cases p <;> (try simp_all) <;> (try omega)

set_option maxHeartbeats 2000000 in
theorem pSize_any (c r d s : Int) (w : World) :
    Calls Tryz.prog 168 #[.agg #[.int .i64 c, .int .i64 r, .int .i64 d, .int .i64 s]] w fun e w' => e = .returned (.int .i64 (sizeA c r d s)) ∧ Gr w w' := by
  have H1 : Hid (∀ w, Calls Tryz.prog 76 #[.agg #[.int .i64 c, .int .i64 r, .int .i64 d, .int .i64 s]] w fun e w' => e = .returned (.bool (vA c r d s)) ∧ Gr w w') := pValidArea_any c r d s
  have G : Hid (Gr w (w.alloc (.cells #[.int .i64 c, .int .i64 r, .int .i64 d, .int .i64 s] 34))) := (Gr.refl w).alloc _ _
  have hV : Hid (sizeA c r d s = if vA c r d s then (d - c + 1) * (s - r + 1) else 0) := rfl
  have hb := vA_bd c r d s
  generalize sizeA c r d s = V at *
  generalize vA c r d s = p at *
  cases p
  · clear hb
    go_enter Tryz.func168, Tryz.ntmps168
    go_wp2_with fail
    refine (H1.out _).mono ?_
    rintro e w1 ⟨rfl, hg⟩
    have G1 : Hid (Gr w w1) := G.out.trans hg
    clear hg
    go_wp2_with fail
    go_ret
    exact ⟨rInt hV.out.symm, G1.out⟩
  · obtain ⟨h1, h2, h3, h4, h5, h6⟩ := hb rfl
    obtain ⟨m0, m1⟩ := mul_bd (d - c + 1) (s - r + 1) (by omega) (by omega) (by omega) (by omega)
    have hV' : Hid ((d - c + 1) * (s - r + 1) = V) := hV.out.symm
    clear hV hb
    go_enter Tryz.func168, Tryz.ntmps168
    go_wp2_with fail
    refine (H1.out _).mono ?_
    rintro e w1 ⟨rfl, hg⟩
    have hcell := hg.ext.cell
    have G1 : Hid (Gr w w1) := G.out.trans hg
    clear hg
    go_wp2_with fail
    go_ret
    exact ⟨rInt hV'.out, G1.out⟩

def sgL (f : Bool) : List UInt8 := if f then [36] else []
/-- A to Z, of both sizes, from 1 on; all else is 0. -/
def letN (c : Int) : Int := if 65 ≤ c ∧ c ≤ 90 then c - 64 else if 97 ≤ c ∧ c ≤ 122 then c - 96 else 0
set_option maxHeartbeats 1000000 in
theorem pleast_at (c r d s : Int) (w : World) :
    Calls Tryz.prog 153 #[.agg #[.int .i64 c, .int .i64 r], .agg #[.int .i64 d, .int .i64 s]] w fun e w' => e = .returned (.agg #[.int .i64 (min c d), .int .i64 (min r s)]) ∧ w' = ((w.alloc (.cells #[.int .i64 c, .int .i64 r] 32)).alloc (.cells #[.int .i64 d, .int .i64 s] 32)).alloc (.cells #[.int .i64 (min c d), .int .i64 (min r s)] 32) := by
  have e1 : (if d < c then d else c) = min c d := by omega
  have e2 : (if s < r then s else r) = min r s := by omega
  generalize min c d = X at *
  generalize min r s = Y at *
  go_enter Tryz.func153, Tryz.ntmps153
  go_wp2
  refine bodyPost_ret (v := .agg #[.int .i64 X, .int .i64 Y]) (by simp [results, Tryz.results153, go_sem, *]) rfl ?_
  exact ⟨rfl, rfl⟩
set_option maxHeartbeats 1000000 in
theorem pgreatest_at (c r d s : Int) (w : World) :
    Calls Tryz.prog 154 #[.agg #[.int .i64 c, .int .i64 r], .agg #[.int .i64 d, .int .i64 s]] w fun e w' => e = .returned (.agg #[.int .i64 (max c d), .int .i64 (max r s)]) ∧ w' = ((w.alloc (.cells #[.int .i64 c, .int .i64 r] 32)).alloc (.cells #[.int .i64 d, .int .i64 s] 32)).alloc (.cells #[.int .i64 (max c d), .int .i64 (max r s)] 32) := by
  have e1 : (if c < d then d else c) = max c d := by omega
  have e2 : (if r < s then s else r) = max r s := by omega
  generalize max c d = X at *
  generalize max r s = Y at *
  go_enter Tryz.func154, Tryz.ntmps154
  go_wp2
  refine bodyPost_ret (v := .agg #[.int .i64 X, .int .i64 Y]) (by simp [results, Tryz.results154, go_sem, *]) rfl ?_
  exact ⟨rfl, rfl⟩
end Go.Proofs.YtbkcebbddhaifaaGreatDoor
namespace Go.Proofs.YtbkcebbddhaifaaGreatDoor
open Go.RowKit Go.Maps

theorem load_content_law {ops : Array Oper} {rest : List Oper} {o : Oper} {a : Act} {w : World} {Q : Exit → Act → World → Prop} (hgd : Region.wanted o (yielded ops a.tmps) = true) (x : Operand) (ho : o.op = .load 55 x) (g : Nat) (hx : a.eval x = .pointer (some ⟨g, 0, none⟩)) (cs : Array Value) (hg : w.heap[g]? = some (.cells cs 55 (0, 0))) (hcs : cs.size = 21)
    (h : wpList Tryz.prog ops Q rest (a.put o.dst (.agg cs)) w) : wpList Tryz.prog ops Q (o :: rest) a w :=
  wpList_step fun K hK => by
    simp only [hgd, if_true]
    exact wp_load_row 55 x ho g hx 55 cs (0, 0) _ hg Tryz.underlying55 rfl (by rw [hcs]; exact infoContent) (hK _ _ h)
set_option maxRecDepth 20000 in
set_option maxHeartbeats 8000000 in
theorem put_first (g : Nat) (c r : Int) (hx : vC c r = true) (ct : Ct) (hct : ct.k = 1) (sl : Value) (w : World) (hb : Blk w g [.map none] 113)
    (hval : ∀ wq, Kp w wq Nul → Calls Tryz.prog 58 #[ct.val sl] wq fun e w' => e = .returned (.bool true) ∧ Kp wq w' Nul)
    (hcp : ∀ wq, Kp w wq Nul → Calls Tryz.prog 61 #[ct.val sl] wq fun e w' => ∃ sl' fp, e = .returned ((cpC ct).val sl') ∧ Own w' wq.heap.size sl' (cpC ct).t fp ∧ Kp wq w' Nul) :
    Calls Tryz.prog 16 #[.pointer (some ⟨g, 0, none⟩), .agg #[.int .i64 c, .int .i64 r], ct.val sl] w fun e w' => e = .returned (.int .i64 0) ∧ GridIn w' (fun _ => True) g [((c, r), cpC ct)] ∧ Kp w w' (fun i => i = g) := by
  have hi : I64 c ∧ I64 r := by
    have := (vC_iff c r).1 hx
    unfold I64
    omega
  obtain ⟨W1, hW1⟩ : ∃ W1, (w.alloc (.cells #[.int .i64 c, .int .i64 r] 32)).alloc (.cells (ct.cells sl).toArray 55) = W1 := ⟨_, rfl⟩
  have k1 : Kp w W1 Nul := by rw [← hW1]; exact ((Kp.refl w Nul).alloc _).alloc _
  have hA1 : Blk W1 w.heap.size [.int .i64 c, .int .i64 r] 32 := by rw [← hW1]; exact (Blk.new w [.int .i64 c, .int .i64 r] _).alloc _
  have hC1 : Blk W1 (w.heap.size + 1) (ct.cells sl) 55 := by
    have := Blk.new (w.alloc (.cells #[.int .i64 c, .int .i64 r] 32)) (ct.cells sl) 55
    rw [World.size_alloc] at this
    rw [← hW1]; exact this
  have HC1 : Hid (((w.alloc (.cells #[.int .i64 c, .int .i64 r] 32)).alloc (.cells (ct.cells sl).toArray 55)).heap[w.heap.size + 1]? = some (.cells (ct.cells sl).toArray 55 (0, 0))) := by show _ = _; rw [hW1]; exact hC1
  have HW1 : Hid ((w.alloc (.cells #[.int .i64 c, .int .i64 r] 32)).alloc (.cells #[.int .i64 ct.k, .int .i64 ct.v.k, .float .f64 ct.v.x, .string ct.v.s, .bool ct.v.b, .int .i64 ct.v.f, .int .i64 ct.t.hd.k, .int .i64 ct.t.hd.o, .float .f64 ct.t.hd.x, .string ct.t.hd.s, .bool ct.t.hd.b, .int .i64 ct.t.hd.f, .int .i64 ct.t.hd.c1, .int .i64 ct.t.hd.r1, .bool ct.t.hd.p1, .bool ct.t.hd.q1, .int .i64 ct.t.hd.c2, .int .i64 ct.t.hd.r2, .bool ct.t.hd.p2, .bool ct.t.hd.q2, sl] 55) = W1) := hW1
  have HS : Hid (∀ wq, Kp W1 wq Nul → (wq.cell? ⟨w.heap.size, 0, none⟩ = some (.int .i64 c) ∧ wq.cell? ⟨w.heap.size, 1, none⟩ = some (.int .i64 r) ∧ wq.cell? ⟨w.heap.size + 1, 0, none⟩ = some (.int .i64 1) ∧ wq.cell? ⟨g, 0, none⟩ = some (.map none) ∧ Blk wq (w.heap.size + 1) (ct.cells sl) 55)) := fun wq k => ⟨(hA1.kp k (fun x => x)).cell rfl, (hA1.kp k (fun x => x)).cell rfl, by have := (hC1.kp k (fun x => x)).cell (i := 0) rfl; rw [hct] at this; exact this, ((hb.kp k1 (fun x => x)).kp k (fun x => x)).cell rfl, hC1.kp k (fun x => x)⟩
  have hglt0 : g < w.heap.size := hb.lt
  have HS2 : Hid (∀ wq, Kp W1 wq (fun i => i = g) → (wq.cell? ⟨w.heap.size, 0, none⟩ = some (.int .i64 c) ∧ wq.cell? ⟨w.heap.size, 1, none⟩ = some (.int .i64 r) ∧ Blk wq (w.heap.size + 1) (ct.cells sl) 55)) := fun wq k => ⟨(hA1.kp k (by show ¬ w.heap.size = g; omega)).cell rfl, (hA1.kp k (by show ¬ w.heap.size = g; omega)).cell rfl, hC1.kp k (by show ¬ w.heap.size + 1 = g; omega)⟩
  have HV : Hid (Calls Tryz.prog 58 #[ct.val sl] W1 fun e w' => e = .returned (.bool true) ∧ Kp W1 w' Nul) := hval W1 k1
  have HA : Hid (∀ w, Calls Tryz.prog 30 #[.agg #[.int .i64 c, .int .i64 r]] w fun e w' => e = .returned (.bool true) ∧ Kp w w' Nul) := fun w => (pValid_at c r w).mono fun e w' ⟨h1, h2⟩ => ⟨by rw [h1, hx], by rw [h2]; exact (Kp.refl w Nul).alloc _⟩
  have HCp : Hid (∀ wq, Kp W1 wq Nul → Calls Tryz.prog 61 #[ct.val sl] wq fun e w' => ∃ sl' fp, e = .returned ((cpC ct).val sl') ∧ Own w' wq.heap.size sl' (cpC ct).t fp ∧ Kp wq w' Nul) := fun wq k => hcp wq (k1.trans k)
  have HKeep : Hid (∀ wq sl', Kp W1 wq Nul → NdIn wq (fun b => W1.heap.size ≤ b ∧ b < wq.heap.size) sl' (cpC ct).t → Calls Tryz.prog 60 #[.pointer (some ⟨g, 0, none⟩), .agg #[.int .i64 c, .int .i64 r], (cpC ct).val sl'] wq fun e w' => e = .returned (.tuple #[]) ∧ GridIn w' (fun _ => True) g [((c, r), cpC ct)] ∧ Kp wq w' (fun i => i = g)) := fun wq sl' k hin => by
    have hglt : g < W1.heap.size := Nat.lt_of_lt_of_le hb.lt k1.size
    exact keep_first g c r hi.1 hi.2 (cpC ct) sl' (fun _ => True) wq ((hb.kp k1 (fun x => x)).kp k (fun x => x)) trivial (fun _ _ => trivial) (hin.mono (fun b hB hlt => ⟨rfl, trivial, by omega, hB.2⟩))
  have HK1 : Hid (Kp w W1 Nul) := k1
  have hlen : ∀ (w : World) ty, (Builtin.len_ #[111] ty #[.map none]).run Tryz.prog w = .ok (.int .i64 0) w := fun w ty => Maps.len_nil Tryz.underlying111 ty
  clear hval hcp hW1 k1 hA1 hC1 hb hx hi hct hglt0
  go_enter Tryz.func16, Tryz.ntmps16
  go_wp2_with (first | (refine load_content_law rfl (.tmp 5) rfl (w.heap.size + 1) rfl _ HC1.out rfl ?_) | fail)
  rw [HW1.out]
  refine HV.out.mono ?_
  rintro e w2 ⟨rfl, hk2⟩
  obtain ⟨a1, a2, a3, a4, _⟩ := HS.out w2 hk2
  have HK2 : Hid (Kp W1 w2 Nul) := hk2
  clear hk2 HV HC1 HW1
  go_wp2_with fail
  refine (HA.out _).mono ?_
  rintro e w3 ⟨rfl, hk3⟩
  obtain ⟨b1, b2, b3, b4, hB3⟩ := HS.out w3 (HK2.out.trans hk3)
  have HK3 : Hid (Kp W1 w3 Nul) := HK2.out.trans hk3
  have hl3 := hlen w3
  clear hk3 HA a1 a2 a3 a4 hB3 hlen HK2
  go_wp2_with fail
  refine wp_region_noPanic ?_
  refine wp_region_hel (fun w' : World => Kp W1 w' (fun i => i = g)) (by kernel_rfl) (HK3.out.of_nul.drew) (fun hHeld => ?_)
  have tok0 : True := trivial
  have tok1 : True := trivial
  iterate 2 ((first | (clear tok0; refine wpH_takes (i := 0) (v := ?_) (some 41) rfl rfl (by kernel_rfl) (by kernel_rfl) (by kernel_rfl) (fun _ _ _ h => h) (Or.inl ⟨by rfl, ?_⟩) hHeld ?_) | (clear tok1; refine wpH_takes (i := 1) (v := ?_) (some 42) rfl rfl (by kernel_rfl) (by kernel_rfl) (by kernel_rfl) (fun _ _ _ h => h) (Or.inl ⟨by rfl, ?_⟩) hHeld ?_)); rotate_left; (· intro w hSw; obtain ⟨s0, s1, _⟩ := HS2.out _ hSw; clear hSw; go_simp; try with_reducible rfl); simp only [Act.put, List.setIfInBounds_toArray, List.set_cons_zero, List.set_cons_succ])
  refine wpH_takes (i := 2) (v := ct.val sl) (some 43) rfl rfl (by kernel_rfl) (by kernel_rfl) (by kernel_rfl) (fun _ _ _ h => h) (Or.inl ⟨by rfl, fun w' hSw => exec_load_content _ rfl rfl (HS2.out w' hSw).2.2 rfl⟩) hHeld ?_
  simp only [Act.put, List.setIfInBounds_toArray, List.set_cons_zero, List.set_cons_succ]
  refine wpH_step (i := 3) (by kernel_rfl) rfl rfl (fun K hK => ?_)
  go_simp
  refine (HCp.out _ HK3.out.drew).mono ?_
  rintro e w4 ⟨sl', fp, rfl, hown, hk4⟩
  have hk14 : Kp W1 w4 Nul := HK3.out.drew.trans hk4
  have hin4 := hown.isIn.mono (w' := w4) (F' := fun b => W1.heap.size ≤ b ∧ b < w4.heap.size) (fun b hB _ => ⟨rfl, by have h1 := hB.1; have h2 := HK3.out.size; have h3 : w3.drew.heap.size = w3.heap.size := rfl; omega, hB.2⟩)
  refine hK.out _ _ hk14.of_nul (fun hHeld2 => ?_)
  clear hK K hown hk4
  refine wpH_step (i := 4) (by kernel_rfl) rfl rfl (fun K hK => ?_)
  go_simp
  refine (HKeep.out w4 sl' hk14 hin4).mono ?_
  rintro e w5 ⟨rfl, hg5, hk5⟩
  refine hK.out _ _ (hk14.of_nul.trans hk5) (fun _ => ?_)
  have HEND : Hid (GridIn w5 (fun _ => True) g [((c, r), cpC ct)] ∧ Kp w w5 (fun i => i = g)) := ⟨hg5, (HK1.out.trans hk14).of_nul.trans hk5⟩
  clear hK K hHeld hHeld2 hg5 hk5 hk14 hin4
  refine wpAnyH_done (by kernel_rfl) ?_ _
  refine NoPanic.normal ?_
  go_wp2_with fail
  go_ret
  exact ⟨rfl, HEND.out⟩
end Go.Proofs.YtbkcebbddhaifaaGreatDoor
namespace Go.Proofs.YtbkcebbddhaifaaGreatDoor
open Go.RowKit Go.Maps

set_option maxRecDepth 20000 in
set_option maxHeartbeats 8000000 in
theorem get_at (g : Nat) (c r : Int) (mv : Option Nat) (V : Value) (u : Ct) (w : World) (hlk : Lk w g c r mv V true)
    (hcp : ∀ wq, Kp w wq Nul → Calls Tryz.prog 61 #[V] wq fun e w' => ∃ sl' fp, e = .returned (u.val sl') ∧ Own w' wq.heap.size sl' u.t fp ∧ Kp wq w' Nul) :
    Calls Tryz.prog 27 #[.pointer (some ⟨g, 0, none⟩), .agg #[.int .i64 c, .int .i64 r]] w fun e w' => ∃ sl', e = .returned (u.val sl') ∧ sl'.oneCell' = true ∧ Kp w w' Nul := by
  obtain ⟨W1, hW1⟩ : ∃ W1, (w.alloc (.cells #[.int .i64 c, .int .i64 r] 32)).alloc (.cells #[.int .i64 0, .int .i64 0, .float .f64 0, .string ⟨#[]⟩, .bool false, .int .i64 0, .int .i64 0, .int .i64 0, .float .f64 0, .string ⟨#[]⟩, .bool false, .int .i64 0, .int .i64 0, .int .i64 0, .bool false, .bool false, .int .i64 0, .int .i64 0, .bool false, .bool false, .slice none 0 0] 55) = W1 := ⟨_, rfl⟩
  have k1 : Kp w W1 Nul := by rw [← hW1]; exact ((Kp.refl w Nul).alloc _).alloc _
  have hA1 : Blk W1 w.heap.size [.int .i64 c, .int .i64 r] 32 := by rw [← hW1]; exact (Blk.new w [.int .i64 c, .int .i64 r] _).alloc _
  have hZ1 : Blk W1 (w.heap.size + 1) [.int .i64 0, .int .i64 0, .float .f64 0, .string ⟨#[]⟩, .bool false, .int .i64 0, .int .i64 0, .int .i64 0, .float .f64 0, .string ⟨#[]⟩, .bool false, .int .i64 0, .int .i64 0, .int .i64 0, .bool false, .bool false, .int .i64 0, .int .i64 0, .bool false, .bool false, .slice none 0 0] 55 := by
    have := Blk.new (w.alloc (.cells #[.int .i64 c, .int .i64 r] 32)) [.int .i64 0, .int .i64 0, .float .f64 0, .string ⟨#[]⟩, .bool false, .int .i64 0, .int .i64 0, .int .i64 0, .float .f64 0, .string ⟨#[]⟩, .bool false, .int .i64 0, .int .i64 0, .int .i64 0, .bool false, .bool false, .int .i64 0, .int .i64 0, .bool false, .bool false, .slice none 0 0] 55
    rw [World.size_alloc] at this
    rw [← hW1]; exact this
  have hglt : g < w.heap.size := (Array.getElem?_eq_some_iff.1 hlk.cell).1
  have hg1 : Blk W1 g [.map mv] 113 := (k1.block g hglt (fun x => x)).trans hlk.cell
  have HS : Hid (∀ wq, Kp W1 wq (fun i => i = w.heap.size + 1) → (wq.cell? ⟨w.heap.size, 0, none⟩ = some (.int .i64 c) ∧ wq.cell? ⟨w.heap.size, 1, none⟩ = some (.int .i64 r) ∧ wq.cell? ⟨g, 0, none⟩ = some (.map mv) ∧ (Instr.lookup 111 (.map mv) (.agg #[.int .i64 c, .int .i64 r]) false).run Tryz.prog wq = .ok V wq)) := fun wq k => ⟨(hA1.kp k (by show ¬ w.heap.size = w.heap.size + 1; omega)).cell rfl, (hA1.kp k (by show ¬ w.heap.size = w.heap.size + 1; omega)).cell rfl, (hg1.kp k (by show ¬ g = w.heap.size + 1; omega)).cell rfl, hlk.one wq (fun m hm => by
    have h2 := (hlk.ne m hm).2
    have h3 := k1.size
    exact (k.block m (by omega) (by show ¬ m = w.heap.size + 1; omega)).trans (k1.block m h2 (fun x => x)))⟩
  have HCp : Hid (∀ wq, Kp W1 wq Nul → Calls Tryz.prog 61 #[V] wq fun e w' => ∃ sl' fp, e = .returned (u.val sl') ∧ Own w' wq.heap.size sl' u.t fp ∧ Kp wq w' Nul) := fun wq k => hcp wq (k1.trans k)
  have HZ : Hid (Blk W1 (w.heap.size + 1) [.int .i64 0, .int .i64 0, .float .f64 0, .string ⟨#[]⟩, .bool false, .int .i64 0, .int .i64 0, .int .i64 0, .float .f64 0, .string ⟨#[]⟩, .bool false, .int .i64 0, .int .i64 0, .int .i64 0, .bool false, .bool false, .int .i64 0, .int .i64 0, .bool false, .bool false, .slice none 0 0] 55) := hZ1
  have HW1 : Hid ((w.alloc (.cells #[.int .i64 c, .int .i64 r] 32)).alloc (.cells #[.int .i64 0, .int .i64 0, .float .f64 0, .string ⟨#[]⟩, .bool false, .int .i64 0, .int .i64 0, .int .i64 0, .float .f64 0, .string ⟨#[]⟩, .bool false, .int .i64 0, .int .i64 0, .int .i64 0, .bool false, .bool false, .int .i64 0, .int .i64 0, .bool false, .bool false, .slice none 0 0] 55) = W1) := hW1
  have HK1 : Hid (Kp w W1 Nul) := k1
  clear hW1 k1 hA1 hZ1 hg1 hlk hcp hglt
  go_enter Tryz.func27, Tryz.ntmps27
  go_wp2_with fail
  rw [HW1.out]
  clear HW1
  refine wp_region_noPanic ?_
  refine wp_region_hel (fun w' : World => Kp W1 w' (fun i => i = w.heap.size + 1)) (by kernel_rfl) ((Kp.refl W1 _).drew) (fun hHeld => ?_)
  have tok0 : True := trivial
  have tok1 : True := trivial
  have tok2 : True := trivial
  have tok3 : True := trivial
  have tok4 : True := trivial
  have tok5 : True := trivial
  iterate 6 ((first | (clear tok0; refine wpH_takes (i := 0) (v := ?_) (some 8) rfl rfl (by kernel_rfl) (by kernel_rfl) (by kernel_rfl) (fun _ _ _ h => h) (Or.inl ⟨by rfl, ?_⟩) hHeld ?_) | (clear tok1; refine wpH_takes (i := 1) (v := ?_) (some 9) rfl rfl (by kernel_rfl) (by kernel_rfl) (by kernel_rfl) (fun _ _ _ h => h) (Or.inl ⟨by rfl, ?_⟩) hHeld ?_) | (clear tok2; refine wpH_takes (i := 2) (v := ?_) (some 10) rfl rfl (by kernel_rfl) (by kernel_rfl) (by kernel_rfl) (fun _ _ _ h => h) (Or.inl ⟨by rfl, ?_⟩) hHeld ?_) | (clear tok3; refine wpH_takes (i := 3) (v := ?_) (some 11) rfl rfl (by kernel_rfl) (by kernel_rfl) (by kernel_rfl) (fun _ _ _ h => h) (Or.inl ⟨by rfl, ?_⟩) hHeld ?_) | (clear tok4; refine wpH_takes (i := 4) (v := ?_) (some 12) rfl rfl (by kernel_rfl) (by kernel_rfl) (by kernel_rfl) (fun _ _ _ h => h) (Or.inl ⟨by rfl, ?_⟩) hHeld ?_) | (clear tok5; refine wpH_takes (i := 5) (v := ?_) (some 13) rfl rfl (by kernel_rfl) (by kernel_rfl) (by kernel_rfl) (fun _ _ _ h => h) (Or.inl ⟨by rfl, ?_⟩) hHeld ?_)); rotate_left; (· intro w hSw; obtain ⟨s0, s1, s2, s3⟩ := HS.out _ hSw; clear hSw; go_simp; try with_reducible rfl); simp only [Act.put, List.setIfInBounds_toArray, List.set_cons_zero, List.set_cons_succ])
  refine wpH_step (i := 6) (by kernel_rfl) rfl rfl (fun K hK => ?_)
  go_simp
  refine (HCp.out _ (Kp.refl W1 Nul).drew).mono ?_
  rintro e w4 ⟨sl', fp, rfl, hown, hk4⟩
  have hk14 : Kp W1 w4 Nul := (Kp.refl W1 Nul).drew.trans hk4
  have hone := hown.own.one
  refine hK.out _ _ hk14.of_nul (fun hHeld2 => ?_)
  clear hK K hown hk4
  have hZ4 := HZ.out.kp hk14 (fun x => x)
  refine wpH_step (i := 7) (by kernel_rfl) rfl rfl (fun K hK => ?_)
  refine wp_store_mid 55 (.tmp 4) (.tmp 14) rfl (w.heap.size + 1) 0 (u.cells sl').toArray rfl rfl (there_of_block hZ4 _ _ (by simp)) infoContent (u.one hone) ?_
  obtain ⟨W5, hW5⟩ : ∃ W5, w4.setCells (w.heap.size + 1) 0 (u.cells sl') = W5 := ⟨_, rfl⟩
  have k45 : Kp w4 W5 (fun i => i = w.heap.size + 1) := by rw [← hW5]; exact setCells_kp (fun i => i = w.heap.size + 1) rfl _ _ _
  have hB5 : W5.heap[w.heap.size + 1]? = some (.cells (u.cells sl').toArray 55 (0, 0)) := by
    rw [← hW5]
    exact heap_setCells_whole (cs := (u.cells sl').toArray) hZ4 rfl
  show K _ (w4.setCells (w.heap.size + 1) 0 (u.cells sl'))
  rw [hW5]
  refine hK.out _ _ (hk14.of_nul.trans k45) (fun _ => ?_)
  have HONE : Hid (sl'.oneCell' = true) := hone
  have HEND : Hid (Kp w W5 Nul) := (HK1.out.trans hk14).trans' k45 (fun i hi e => by have : i = w.heap.size + 1 := e; omega)
  clear hK K hHeld hHeld2 hk14 k45 hone hZ4 hW5
  refine wpAnyH_done (by kernel_rfl) ?_ _
  refine NoPanic.normal ?_
  go_wp2_with fail
  refine bodyPost_ret (results_cell_row rfl _ _ (w.heap.size + 1) 55 _ (0, 0) _ rfl hB5 Tryz.underlying55 rfl infoContent) rfl ?_
  exact ⟨_, rfl, HONE.out, HEND.out⟩
set_option maxRecDepth 20000 in
set_option maxHeartbeats 8000000 in
/-- Put of what may not be, and of what may be into no cell. -/
theorem put_no (g : Nat) (c r : Int) (ct : Ct) (sl : Value) (V : Bool) (w : World) (hV : V = true → vC c r = false)
    (hval : ∀ wq, Kp w wq Nul → Calls Tryz.prog 58 #[ct.val sl] wq fun e w' => e = .returned (.bool V) ∧ Kp wq w' Nul) :
    Calls Tryz.prog 16 #[.pointer (some ⟨g, 0, none⟩), .agg #[.int .i64 c, .int .i64 r], ct.val sl] w fun e w' => e = .returned (.int .i64 (if V then 20 else 1)) ∧ Kp w w' Nul := by
  obtain ⟨W1, hW1⟩ : ∃ W1, (w.alloc (.cells #[.int .i64 c, .int .i64 r] 32)).alloc (.cells (ct.cells sl).toArray 55) = W1 := ⟨_, rfl⟩
  have k1 : Kp w W1 Nul := by rw [← hW1]; exact ((Kp.refl w Nul).alloc _).alloc _
  have hA1 : Blk W1 w.heap.size [.int .i64 c, .int .i64 r] 32 := by rw [← hW1]; exact (Blk.new w [.int .i64 c, .int .i64 r] _).alloc _
  have hC1 : Blk W1 (w.heap.size + 1) (ct.cells sl) 55 := by
    have := Blk.new (w.alloc (.cells #[.int .i64 c, .int .i64 r] 32)) (ct.cells sl) 55
    rw [World.size_alloc] at this
    rw [← hW1]; exact this
  have HC1 : Hid (((w.alloc (.cells #[.int .i64 c, .int .i64 r] 32)).alloc (.cells (ct.cells sl).toArray 55)).heap[w.heap.size + 1]? = some (.cells (ct.cells sl).toArray 55 (0, 0))) := by show _ = _; rw [hW1]; exact hC1
  have HW1 : Hid ((w.alloc (.cells #[.int .i64 c, .int .i64 r] 32)).alloc (.cells #[.int .i64 ct.k, .int .i64 ct.v.k, .float .f64 ct.v.x, .string ct.v.s, .bool ct.v.b, .int .i64 ct.v.f, .int .i64 ct.t.hd.k, .int .i64 ct.t.hd.o, .float .f64 ct.t.hd.x, .string ct.t.hd.s, .bool ct.t.hd.b, .int .i64 ct.t.hd.f, .int .i64 ct.t.hd.c1, .int .i64 ct.t.hd.r1, .bool ct.t.hd.p1, .bool ct.t.hd.q1, .int .i64 ct.t.hd.c2, .int .i64 ct.t.hd.r2, .bool ct.t.hd.p2, .bool ct.t.hd.q2, sl] 55) = W1) := hW1
  have HS : Hid (∀ wq, Kp W1 wq Nul → (wq.cell? ⟨w.heap.size, 0, none⟩ = some (.int .i64 c) ∧ wq.cell? ⟨w.heap.size, 1, none⟩ = some (.int .i64 r))) := fun wq k => ⟨(hA1.kp k (fun x => x)).cell rfl, (hA1.kp k (fun x => x)).cell rfl⟩
  have HV : Hid (Calls Tryz.prog 58 #[ct.val sl] W1 fun e w' => e = .returned (.bool V) ∧ Kp W1 w' Nul) := hval W1 k1
  have HA : Hid (V = true → ∀ w, Calls Tryz.prog 30 #[.agg #[.int .i64 c, .int .i64 r]] w fun e w' => e = .returned (.bool false) ∧ Kp w w' Nul) := fun h w => (pValid_at c r w).mono fun e w' ⟨h1, h2⟩ => ⟨by rw [h1, hV h], by rw [h2]; exact (Kp.refl w Nul).alloc _⟩
  have HK1 : Hid (Kp w W1 Nul) := k1
  clear hval hW1 k1 hA1 hC1 hV
  go_enter Tryz.func16, Tryz.ntmps16
  go_wp2_with (first | (refine load_content_law rfl (.tmp 5) rfl (w.heap.size + 1) rfl _ HC1.out rfl ?_) | fail)
  rw [HW1.out]
  refine HV.out.mono ?_
  rintro e w2 ⟨rfl, hk2⟩
  obtain ⟨a1, a2⟩ := HS.out w2 hk2
  have HK2 : Hid (Kp w w2 Nul) := HK1.out.trans hk2
  clear hk2 HV HC1 HW1 HS
  cases V with
  | false =>
    go_wp2_with fail
    go_ret
    exact ⟨rfl, HK2.out⟩
  | true =>
    go_wp2_with fail
    refine (HA.out trivial _).mono ?_
    rintro e w3 ⟨rfl, hk3⟩
    have HK3 : Hid (Kp w w3 Nul) := HK2.out.trans hk3
    clear hk3
    go_wp2_with fail
    go_ret
    exact ⟨rfl, HK3.out⟩
end Go.Proofs.YtbkcebbddhaifaaGreatDoor
