/- turns. -/
import Derived.Test.YtdlieecpckpemaaGreatDoorLcYr
import Derived.Deep.Cut
import Derived.Deep.CutRange
namespace Go.Proofs.YtdlieecpckpemaaGreatDoor
open Go.RowKit

theorem infoPtr : (Tryz.prog.info? 140).map (fun i => (i.zero, i.size, i.bytes)) = some (some (.pointer none), 1, 8) := by kernel_rfl
theorem vals_nil (n : Nat) : List.replicate n (Value.pointer none) = vals (fun _ => .pointer none) n := by
  apply List.ext_getElem?
  intro i
  by_cases h : i < n
  · rw [vals_get h, List.getElem?_replicate, if_pos h]
  · rw [List.getElem?_replicate, if_neg h, List.getElem?_eq_none (by simp [vals]; omega)]
/-- What the first row of turns makes. -/
structure Made (w w' : World) (E : Tb) (L : List (Int × Int)) (cells : Value) : Prop where
  board : BoardM w' E.B E.ub E.mb ((L.length + 63) / 64) cells (colTo L)
  u : Blk w' E.un (wds (fun _ => false) ((L.length + 63) / 64)) 122
  q : Blk w' E.qb [.int .i64 0, .slice (some ⟨E.sb, 0, none⟩) (L.length + 1) (L.length + 1)] 115
  s : Blk w' E.sb (nums (fun _ => 0) (L.length + 1)) 3
  wb : Blk w' E.wb (vals (fun _ => .pointer none) L.length) 140
  ne : E.mb ≠ E.un
  new : w.heap.size ≤ E.B ∧ w.heap.size ≤ E.ub ∧ w.heap.size ≤ E.mb ∧ w.heap.size ≤ E.un ∧ w.heap.size ≤ E.qb ∧ w.heap.size ≤ E.sb ∧ w.heap.size ≤ E.wb
  kp : Kp w w' Nul
theorem Blk.kpn {w w' : World} {b : Nat} {cs : List Value} {t : TypeId} (h : Blk w b cs t) (g : Kp w w' Nul) : Blk w' b cs t := h.kp g (fun x => x)
/-- Where the ways of the first row meet. -/
def TCut (w : World) (L : List (Int × Int)) (cells : Value) (v : Value) (w' : World) : Prop :=
  ∃ E : Tb, v = .pointer (some ⟨E.t, 0, none⟩) ∧ Blk w' E.t [.pointer (some ⟨E.B, 0, none⟩), .slice (some ⟨E.un, 0, none⟩) ((L.length + 63) / 64) ((L.length + 63) / 64), .pointer (some ⟨E.qb, 0, none⟩), .slice (some ⟨E.wb, 0, none⟩) L.length L.length] 113 ∧ Made w w' E L cells
theorem tcut_mk {w w' : World} {L : List (Int × Int)} {cells v : Value} {t B ub mb un qb sb wb N W : Nat} (hN : L.length = N) (hW : (L.length + 63) / 64 = W) (hv : v = .pointer (some ⟨t, 0, none⟩)) (ht : Blk w' t [.pointer (some ⟨B, 0, none⟩), .slice (some ⟨un, 0, none⟩) W W, .pointer (some ⟨qb, 0, none⟩), .slice (some ⟨wb, 0, none⟩) N N] 113)
    (h1 : BoardM w' B ub mb W cells (colTo L)) (h2 : Blk w' un (wds (fun _ => false) W) 122) (h3 : Blk w' qb [.int .i64 0, .slice (some ⟨sb, 0, none⟩) (N + 1) (N + 1)] 115) (h4 : Blk w' sb (nums (fun _ => 0) (N + 1)) 3)
    (h5 : Blk w' wb (vals (fun _ => .pointer none) N) 140) (h6 : mb < un) (h7 : w.heap.size ≤ B ∧ w.heap.size ≤ ub ∧ w.heap.size ≤ mb) (h8 : w.heap.size ≤ qb ∧ w.heap.size ≤ sb) (h9 : w.heap.size ≤ wb) (h10 : Kp w w' Nul) : TCut w L cells v w' := by
  subst hN hW
  exact ⟨⟨t, B, ub, mb, un, qb, sb, wb⟩, hv, ht, h1, h2, h3, h4, h5, Nat.ne_of_lt h6, ⟨h7.1, h7.2.1, h7.2.2, Nat.le_trans h7.2.2 (Nat.le_of_lt h6), h8.1, h8.2, h9⟩, h10⟩
theorem tcut1 {w wB wM wQ : World} {L : List (Int × Int)} {cells : Value} {B ub mb un qb sb N W : Nat} {ds : Array Value} (hN : L.length = N) (hW : (L.length + 63) / 64 = W) (HDS : ∀ wq : World, Blk (wq.alloc (.cells ds 140)) wq.heap.size (vals (fun _ => .pointer none) N) 140)
    (hbm : BoardM wB B ub mb W cells (colTo L)) (hbs : w.drew.heap.size ≤ B ∧ w.drew.heap.size ≤ ub ∧ w.drew.heap.size ≤ mb) (hkB : Kp w.drew wB Nul) (hun : Blk wM un (wds (fun _ => false) W) 122) (hue : un = wB.heap.size) (hkM : Kp wB wM Nul) (hqb : Blk wQ qb [.int .i64 0, .slice (some ⟨sb, 0, none⟩) (N + 1) (N + 1)] 115) (hsb : Blk wQ sb (nums (fun _ => 0) (N + 1)) 3) (hqs : wM.heap.size ≤ qb ∧ wM.heap.size ≤ sb) (hkQ : Kp wM wQ Nul) :
    TCut w L cells (.pointer (some ⟨wQ.heap.size + 1, 0, none⟩)) ((wQ.alloc (.cells ds 140)).alloc (.cells #[.pointer (some ⟨B, 0, none⟩), .slice (some ⟨wB.heap.size, 0, none⟩) W W, .pointer (some ⟨qb, 0, none⟩), .slice (some ⟨wQ.heap.size, 0, none⟩) N N] 113)) := by
  have kQ : Kp wQ ((wQ.alloc (.cells ds 140)).alloc (.cells #[.pointer (some ⟨B, 0, none⟩), .slice (some ⟨wB.heap.size, 0, none⟩) W W, .pointer (some ⟨qb, 0, none⟩), .slice (some ⟨wQ.heap.size, 0, none⟩) N N] 113)) Nul := ((Kp.refl wQ Nul).alloc _).alloc _
  have kM : Kp wM ((wQ.alloc (.cells ds 140)).alloc (.cells #[.pointer (some ⟨B, 0, none⟩), .slice (some ⟨wB.heap.size, 0, none⟩) W W, .pointer (some ⟨qb, 0, none⟩), .slice (some ⟨wQ.heap.size, 0, none⟩) N N] 113)) Nul := hkQ.nn kQ
  have kB : Kp wB ((wQ.alloc (.cells ds 140)).alloc (.cells #[.pointer (some ⟨B, 0, none⟩), .slice (some ⟨wB.heap.size, 0, none⟩) W W, .pointer (some ⟨qb, 0, none⟩), .slice (some ⟨wQ.heap.size, 0, none⟩) N N] 113)) Nul := hkM.nn kM
  have kw : Kp w wB Nul := ((Kp.refl w Nul).drew).nn hkB
  have s1 := kw.size
  have s2 : wB.heap.size ≤ wM.heap.size := hkM.size
  have s3 := hbm.m.lt
  have s5 := hkQ.size
  have e1 : w.drew.heap.size = w.heap.size := rfl
  subst hue
  refine tcut_mk hN hW rfl (by have := Blk.new (wQ.alloc (.cells ds 140)) [.pointer (some ⟨B, 0, none⟩), .slice (some ⟨wB.heap.size, 0, none⟩) W W, .pointer (some ⟨qb, 0, none⟩), .slice (some ⟨wQ.heap.size, 0, none⟩) N N] 113; rw [World.size_alloc] at this; exact this) (hbm.kpn kB) (hun.kpn kM) (hqb.kpn kQ) (hsb.kpn kQ) ((HDS wQ).alloc _) (by omega) ⟨by omega, by omega, by omega⟩ (by omega) (by omega) (kw.nn kB)
theorem tcut2 {w wB wM wQ : World} {L : List (Int × Int)} {cells : Value} {B ub mb un qb sb N W : Nat} {ds : Array Value} (hN : L.length = N) (hW : (L.length + 63) / 64 = W) (HDS : ∀ wq : World, Blk (wq.alloc (.cells ds 140)) wq.heap.size (vals (fun _ => .pointer none) N) 140)
    (hbm : BoardM wB B ub mb W cells (colTo L)) (hbs : w.drew.heap.size ≤ B ∧ w.drew.heap.size ≤ ub ∧ w.drew.heap.size ≤ mb) (hkB : Kp w.drew wB Nul) (hun : Blk wM un (wds (fun _ => false) W) 122) (hue : un = wB.heap.size) (hkM : Kp wB wM Nul) (hqb : Blk wQ qb [.int .i64 0, .slice (some ⟨sb, 0, none⟩) (N + 1) (N + 1)] 115) (hsb : Blk wQ sb (nums (fun _ => 0) (N + 1)) 3) (hqs : (wM.alloc (.cells ds 140)).heap.size ≤ qb ∧ (wM.alloc (.cells ds 140)).heap.size ≤ sb) (hkQ : Kp (wM.alloc (.cells ds 140)) wQ Nul) :
    TCut w L cells (.pointer (some ⟨wQ.heap.size, 0, none⟩)) (wQ.alloc (.cells #[.pointer (some ⟨B, 0, none⟩), .slice (some ⟨wB.heap.size, 0, none⟩) W W, .pointer (some ⟨qb, 0, none⟩), .slice (some ⟨wM.heap.size, 0, none⟩) N N] 113)) := by
  have kQ : Kp wQ (wQ.alloc (.cells #[.pointer (some ⟨B, 0, none⟩), .slice (some ⟨wB.heap.size, 0, none⟩) W W, .pointer (some ⟨qb, 0, none⟩), .slice (some ⟨wM.heap.size, 0, none⟩) N N] 113)) Nul := (Kp.refl wQ Nul).alloc _
  have kM : Kp wM (wQ.alloc (.cells #[.pointer (some ⟨B, 0, none⟩), .slice (some ⟨wB.heap.size, 0, none⟩) W W, .pointer (some ⟨qb, 0, none⟩), .slice (some ⟨wM.heap.size, 0, none⟩) N N] 113)) Nul := ((Kp.refl wM Nul).alloc _).nn (hkQ.nn kQ)
  have kB : Kp wB (wQ.alloc (.cells #[.pointer (some ⟨B, 0, none⟩), .slice (some ⟨wB.heap.size, 0, none⟩) W W, .pointer (some ⟨qb, 0, none⟩), .slice (some ⟨wM.heap.size, 0, none⟩) N N] 113)) Nul := hkM.nn kM
  have kw : Kp w wB Nul := ((Kp.refl w Nul).drew).nn hkB
  have s1 := kw.size
  have s2 : wB.heap.size ≤ wM.heap.size := hkM.size
  have s3 := hbm.m.lt
  have e1 : w.drew.heap.size = w.heap.size := rfl
  subst hue
  simp only [World.size_alloc] at hqs
  refine tcut_mk hN hW rfl (Blk.new wQ [.pointer (some ⟨B, 0, none⟩), .slice (some ⟨wB.heap.size, 0, none⟩) W W, .pointer (some ⟨qb, 0, none⟩), .slice (some ⟨wM.heap.size, 0, none⟩) N N] _) (hbm.kpn kB) (hun.kpn kM) (hqb.kpn kQ) (hsb.kpn kQ) ((HDS wM).kpn (hkQ.nn kQ)) (by omega) ⟨by omega, by omega, by omega⟩ (by omega) (by omega) (kw.nn kB)
theorem tcut3 {w wB wM wQ : World} {L : List (Int × Int)} {cells : Value} {B ub mb un qb sb N W : Nat} {ds : Array Value} (hN : L.length = N) (hW : (L.length + 63) / 64 = W) (HDS : ∀ wq : World, Blk (wq.alloc (.cells ds 140)) wq.heap.size (vals (fun _ => .pointer none) N) 140)
    (hbm : BoardM wB B ub mb W cells (colTo L)) (hbs : w.drew.heap.size ≤ B ∧ w.drew.heap.size ≤ ub ∧ w.drew.heap.size ≤ mb) (hkB : Kp w.drew wB Nul) (hun : Blk wM un (wds (fun _ => false) W) 122) (hue : un = (wB.alloc (.cells ds 140)).heap.size) (hkM : Kp (wB.alloc (.cells ds 140)) wM Nul) (hqb : Blk wQ qb [.int .i64 0, .slice (some ⟨sb, 0, none⟩) (N + 1) (N + 1)] 115) (hsb : Blk wQ sb (nums (fun _ => 0) (N + 1)) 3) (hqs : wM.heap.size ≤ qb ∧ wM.heap.size ≤ sb) (hkQ : Kp wM wQ Nul) :
    TCut w L cells (.pointer (some ⟨wQ.heap.size, 0, none⟩)) (wQ.alloc (.cells #[.pointer (some ⟨B, 0, none⟩), .slice (some ⟨(wB.heap.size + 1), 0, none⟩) W W, .pointer (some ⟨qb, 0, none⟩), .slice (some ⟨wB.heap.size, 0, none⟩) N N] 113)) := by
  have kQ : Kp wQ (wQ.alloc (.cells #[.pointer (some ⟨B, 0, none⟩), .slice (some ⟨(wB.heap.size + 1), 0, none⟩) W W, .pointer (some ⟨qb, 0, none⟩), .slice (some ⟨wB.heap.size, 0, none⟩) N N] 113)) Nul := (Kp.refl wQ Nul).alloc _
  have kM : Kp wM (wQ.alloc (.cells #[.pointer (some ⟨B, 0, none⟩), .slice (some ⟨(wB.heap.size + 1), 0, none⟩) W W, .pointer (some ⟨qb, 0, none⟩), .slice (some ⟨wB.heap.size, 0, none⟩) N N] 113)) Nul := hkQ.nn kQ
  have kB : Kp wB (wQ.alloc (.cells #[.pointer (some ⟨B, 0, none⟩), .slice (some ⟨(wB.heap.size + 1), 0, none⟩) W W, .pointer (some ⟨qb, 0, none⟩), .slice (some ⟨wB.heap.size, 0, none⟩) N N] 113)) Nul := ((Kp.refl wB Nul).alloc _).nn (hkM.nn kM)
  have kw : Kp w wB Nul := ((Kp.refl w Nul).drew).nn hkB
  have s1 := kw.size
  have s2 : wB.heap.size ≤ wM.heap.size := Nat.le_trans (by simp) hkM.size
  have s3 := hbm.m.lt
  have e1 : w.drew.heap.size = w.heap.size := rfl
  rw [World.size_alloc] at hue
  subst hue
  refine tcut_mk hN hW rfl (Blk.new wQ [.pointer (some ⟨B, 0, none⟩), .slice (some ⟨(wB.heap.size + 1), 0, none⟩) W W, .pointer (some ⟨qb, 0, none⟩), .slice (some ⟨wB.heap.size, 0, none⟩) N N] _) (hbm.kpn kB) (hun.kpn kM) (hqb.kpn kQ) (hsb.kpn kQ) ((HDS wB).kpn (hkM.nn kM)) (by omega) ⟨by omega, by omega, by omega⟩ (by omega) (by omega) (kw.nn kB)
theorem tcut4 {w wB wM wQ : World} {L : List (Int × Int)} {cells : Value} {B ub mb un qb sb N W : Nat} {ds : Array Value} (hN : L.length = N) (hW : (L.length + 63) / 64 = W) (HDS : ∀ wq : World, Blk (wq.alloc (.cells ds 140)) wq.heap.size (vals (fun _ => .pointer none) N) 140)
    (hbm : BoardM wB B ub mb W cells (colTo L)) (hbs : (w.alloc (.cells ds 140)).drew.heap.size ≤ B ∧ (w.alloc (.cells ds 140)).drew.heap.size ≤ ub ∧ (w.alloc (.cells ds 140)).drew.heap.size ≤ mb) (hkB : Kp (w.alloc (.cells ds 140)).drew wB Nul) (hun : Blk wM un (wds (fun _ => false) W) 122) (hue : un = wB.heap.size) (hkM : Kp wB wM Nul) (hqb : Blk wQ qb [.int .i64 0, .slice (some ⟨sb, 0, none⟩) (N + 1) (N + 1)] 115) (hsb : Blk wQ sb (nums (fun _ => 0) (N + 1)) 3) (hqs : wM.heap.size ≤ qb ∧ wM.heap.size ≤ sb) (hkQ : Kp wM wQ Nul) :
    TCut w L cells (.pointer (some ⟨wQ.heap.size, 0, none⟩)) (wQ.alloc (.cells #[.pointer (some ⟨B, 0, none⟩), .slice (some ⟨wB.heap.size, 0, none⟩) W W, .pointer (some ⟨qb, 0, none⟩), .slice (some ⟨w.heap.size, 0, none⟩) N N] 113)) := by
  have kQ : Kp wQ (wQ.alloc (.cells #[.pointer (some ⟨B, 0, none⟩), .slice (some ⟨wB.heap.size, 0, none⟩) W W, .pointer (some ⟨qb, 0, none⟩), .slice (some ⟨w.heap.size, 0, none⟩) N N] 113)) Nul := (Kp.refl wQ Nul).alloc _
  have kM : Kp wM (wQ.alloc (.cells #[.pointer (some ⟨B, 0, none⟩), .slice (some ⟨wB.heap.size, 0, none⟩) W W, .pointer (some ⟨qb, 0, none⟩), .slice (some ⟨w.heap.size, 0, none⟩) N N] 113)) Nul := hkQ.nn kQ
  have kB : Kp wB (wQ.alloc (.cells #[.pointer (some ⟨B, 0, none⟩), .slice (some ⟨wB.heap.size, 0, none⟩) W W, .pointer (some ⟨qb, 0, none⟩), .slice (some ⟨w.heap.size, 0, none⟩) N N] 113)) Nul := hkM.nn kM
  have kw : Kp w wB Nul := (((Kp.refl w Nul).alloc _).drew).nn hkB
  have s1 := kw.size
  have s2 : wB.heap.size ≤ wM.heap.size := hkM.size
  have s3 := hbm.m.lt
  have e1 : w.drew.heap.size = w.heap.size := rfl
  subst hue
  have e2 : (w.alloc (.cells ds 140)).drew.heap.size = w.heap.size + 1 := World.size_alloc _ _
  refine tcut_mk hN hW rfl (Blk.new wQ [.pointer (some ⟨B, 0, none⟩), .slice (some ⟨wB.heap.size, 0, none⟩) W W, .pointer (some ⟨qb, 0, none⟩), .slice (some ⟨w.heap.size, 0, none⟩) N N] _) (hbm.kpn kB) (hun.kpn kM) (hqb.kpn kQ) (hsb.kpn kQ) ((HDS w).drew.kpn (hkB.nn kB)) (by omega) ⟨by omega, by omega, by omega⟩ (by omega) (by omega) (kw.nn kB)
end Go.Proofs.YtdlieecpckpemaaGreatDoor
