/- keep; Set. -/
import Derived.Test.YtkgolfmnlbmmeaaGreatDoorZn
import Derived.Test.YtkgolfmnlbmmeaaGreatDoorYv
namespace Go.Proofs.YtkgolfmnlbmmeaaGreatDoor
open Go.RowKit Go.Sort Go.Lib Go.Maps

theorem eqIn_nilmap (w : World) (d : Nat) (p : Option Nat) : (Op.equalIn (d + 1) 66 (.map p) (.map none)).run Tryz.prog w = .ok p.isNone w := by
  cases p <;> simp [Op.equalIn, run_underlying Tryz.underlying66]
theorem eq_nilmap (p : Option Nat) (w : World) : (binOp .eql 66 (.map p) (.map none)).run Tryz.prog w = .ok (.bool p.isNone) w := by
  simp only [binOp]
  simp [show Op.equal 66 (.map p) (.map none) = Op.equalIn (9999 + 1) 66 (.map p) (.map none) from rfl, eqIn_nilmap w 9999 p]
theorem Kp.of_turned {w w' : World} {m : Nat} (h : w.mapTurned w' m) : Kp w w' (fun i => i = m) := Kp.of_grown h.grown (fun i e => by cases e; rfl)
theorem key_addr {x : Int × Int} (hx : VC x) : keyOf Tryz.prog 29 (.agg #[.int .i64 x.1, .int .i64 x.2]) = some (kl x.1 x.2) := kl_key hx.i64.1 hx.i64.2
set_option maxRecDepth 20000 in
set_option maxHeartbeats 4000000 in
theorem keep_at (B l n : Nat) (us : Int × Int → Option (List Ar)) (c r : Int) (al : List Ar) (av : Option Addr) (nl cv : Nat) (w : World) (h : LinksIn w (Fr B) l us n) (hx : VC (c, r)) (hv : ArSl w (Fr B) (.slice av nl cv) al) (hok : (∀ a ∈ al, a.ok) ∧ al.length ≤ 256) (hn : n < maxLen) (hB : B ≤ w.heap.size) :
    Calls Tryz.prog 41 #[.pointer (some ⟨l, 0, none⟩), .agg #[.int .i64 c, .int .i64 r], .slice av nl cv] w fun e w' => e = .returned (.tuple #[]) ∧ LinksIn w' (Fr B) l (updU us (c, r) al) (cntU us (c, r) n) ∧ Kp w w' (Fr B) ∧ (∀ i cs, Blk w i cs 29 → Blk w' i cs 29) := by
  obtain ⟨hl, h⟩ := h
  have hkey := key_addr hx
  simp only at hkey
  obtain ⟨W1, hW1⟩ : ∃ W1, w.alloc (.cells #[.int .i64 c, .int .i64 r] 29) = W1 := ⟨_, rfl⟩
  have k1 : Kp w W1 Nul := by rw [← hW1]; exact (Kp.refl w Nul).alloc _
  have hA : Blk W1 w.heap.size [.int .i64 c, .int .i64 r] 29 := by rw [← hW1]; exact Blk.new w [.int .i64 c, .int .i64 r] _
  have hs1 : W1.heap.size = w.heap.size + 1 := by rw [← hW1]; exact World.size_alloc _ _
  rcases h with ⟨hb, rfl, rfl⟩ | ⟨m, D, hb, hm, hne, hown, hmh⟩
  · obtain ⟨W2, hW2⟩ : ∃ W2, W1.alloc (.map #[] 0) = W2 := ⟨_, rfl⟩
    obtain ⟨W3, hW3⟩ : ∃ W3, W2.setCell ⟨l, 0, none⟩ (.map (some W1.heap.size)) = W3 := ⟨_, rfl⟩
    have k2 : Kp W1 W2 Nul := by rw [← hW2]; exact (Kp.refl W1 Nul).alloc _
    have hb2 := (hb.kp k1 (fun x => x)).kp k2 (fun x => x)
    have hllt : l < w.heap.size := hb.lt
    have hlne : W1.heap.size ≠ l := by omega
    have hown2 : W2.ownsMap Tryz.prog 29 rawE W1.heap.size 0 (.map []) := by rw [← hW2]; exact World.ownsMap_made W1 _ _ _
    have hown3 : W3.ownsMap Tryz.prog 29 rawE W1.heap.size 0 (.map []) := by rw [← hW3]; exact hown2.setCell hlne _
    have k3 : Kp W2 W3 (fun i => i = l) := by rw [← hW3]; exact (Kp.refl W2 _).setCell ⟨l, 0, none⟩ _ (.inr rfl)
    have hb3 : Blk W3 l [.map (some W1.heap.size)] 68 := by rw [← hW3]; exact hb2.set 0 _
    have hA3 : Blk W3 w.heap.size [.int .i64 c, .int .i64 r] 29 := (hA.kp k2 (fun x => x)).kp k3 (by show ¬ w.heap.size = l; omega)
    obtain ⟨W4, hrun, hown4, hturn⟩ := hown3.drew.store lawAddr Tryz.underlying66 (by decide) hkey (val := .slice av nl cv) (d := .held (.slice av nl cv)) (ps := []) rfl
    have k4 : Kp W3 W4 (fun i => i = W1.heap.size) := ((Kp.refl W3 _).drew).trans (Kp.of_turned hturn)
    have kF : Kp w W4 (Fr B) := ((k1.trans k2).of_nul.trans' k3 (fun i _ e => by subst e; exact hl)).trans' k4 (fun i hi e => absurd e (by omega))
    have hHas0 : MapHas W3 (Fr B) (.map []) (fun _ => none) 0 := ⟨rfl, fun c r _ _ => rfl, fun c r al e => (by cases e), fun x al e => (by cases e), fun x al e => (by cases e)⟩
    have k03 : Kp w W3 (fun i => i = l) := (k1.trans k2).of_nul.trans' k3 (fun i _ e => e)
    have hvl : ∀ b o (y : Ar), AreasAt w b o al → al[0]? = some y → b ≠ l := fun b o y ha hy e => by
      have h1 := (ha 0 y hy)
      subst e
      have := h1.2.1
      rw [hb.at'] at this
      simp at this
    have hv4 : ArSl W4 (Fr B) (.slice av nl cv) al := by
      obtain ⟨a, c', e1, e2, e3, e4⟩ := hv
      refine ⟨a, c', e1, e2, e3, fun hlen => ?_⟩
      obtain ⟨b, o, f1, f2, f3⟩ := e4 hlen
      obtain ⟨y, hy⟩ : ∃ y, al[0]? = some y := ⟨_, List.getElem?_eq_getElem hlen⟩
      have hbl := cell_lt (f3 0 y hy).1
      exact ⟨b, o, f1, f2, (f3.kp k03 (hvl b o y f3 hy)).kp k4 (by show ¬ b = W1.heap.size; omega)⟩
    have hput := map_put (x := (c, r)) hown3 hHas0 hown4 k4 hx hv4 hok
    have HEND : Hid (LinksIn W4 (Fr B) l (updU (fun _ => none) (c, r) al) (cntU (fun _ => none) (c, r) 0) ∧ Kp w W4 (Fr B) ∧ (∀ i cs, Blk w i cs 29 → Blk W4 i cs 29)) := ⟨⟨hl, .inr ⟨W1.heap.size, _, hb3.kp k4 (by show ¬ l = W1.heap.size; omega), (by show B ≤ W1.heap.size; omega), hlne, hput.1, hput.2⟩⟩, kF, fun i cs hi => (hi.kp k03 (hi.ne hb (by decide))).kp k4 (by have := hi.lt; show ¬ i = W1.heap.size; omega)⟩
    have HW1 : Hid (w.alloc (.cells #[.int .i64 c, .int .i64 r] 29) = W1) := hW1
    have HW2 : Hid (W1.alloc (.map #[] 0) = W2) := hW2
    have HW3 : Hid (W2.setCell ⟨l, 0, none⟩ (.map (some W1.heap.size)) = W3) := hW3
    have c1 : W1.cell? ⟨l, 0, none⟩ = some (.map none) := (hb.kp k1 (fun x => x)).cell rfl
    have c2 : W2.cell? ⟨l, 0, none⟩ = some (.map none) := hb2.cell rfl
    have f2 : W2.frozen? ⟨l, 0, none⟩ = false := hb2.froz _
    have c3 : W3.cell? ⟨l, 0, none⟩ = some (.map (some W1.heap.size)) := hb3.cell rfl
    have c4 : W3.cell? ⟨w.heap.size, 0, none⟩ = some (.int .i64 c) := hA3.cell rfl
    have c5 : W3.cell? ⟨w.heap.size, 1, none⟩ = some (.int .i64 r) := hA3.cell rfl
    have hmm : (Instr.makeMap 66 none).run Tryz.prog W1 = .ok (.map (some W1.heap.size)) W2 := by rw [← hW2]; rfl
    rw [hs1] at HW3 c3 hmm hrun
    have hnil := eq_nilmap none
    clear hb hv hok hn hB hW2 hW3 k1 k2 k3 k4 kF hA hA3 hb2 hb3 hown2 hown3 hown4 hturn hHas0 k03 hvl hv4 hput hkey hs1 hx hl HW1 HW2 hlne
    subst hW1
    go_enter Tryz.func41, Tryz.ntmps41
    go_wp2_with fail
    rw [HW3.out]
    go_region
    all_goals
      go_wp2_with fail
      go_end0
      exact ⟨rfl, HEND.out⟩
  · obtain ⟨W4, hrun, hown4, hturn⟩ := (ownsMap_block hown (k1.block m hown.lt (fun x => x))).drew.store lawAddr Tryz.underlying66 hn hkey (val := .slice av nl cv) (d := .held (.slice av nl cv)) (ps := []) rfl
    have k4 : Kp W1 W4 (fun i => i = m) := ((Kp.refl W1 _).drew).trans (Kp.of_turned hturn)
    have k0 : Kp w W4 (fun i => i = m) := k1.of_nul.trans k4
    have hv4 : ArSl W4 (Fr B) (.slice av nl cv) al := by
      obtain ⟨a, c', e1, e2, e3, e4⟩ := hv
      refine ⟨a, c', e1, e2, e3, fun hlen => ?_⟩
      obtain ⟨b, o, f1, f2, f3⟩ := e4 hlen
      obtain ⟨y, hy⟩ : ∃ y, al[0]? = some y := ⟨_, List.getElem?_eq_getElem hlen⟩
      refine ⟨b, o, f1, f2, f3.kp k0 (fun eb => ?_)⟩
      have hcell := (f3 0 y hy).1
      obtain ⟨es, clock, hmm, _⟩ := hown
      simp only [World.cell?] at hcell
      rw [eb, hmm] at hcell
      cases hcell
    have hput := map_put (x := (c, r)) hown hmh hown4 k0 hx hv4 hok
    have HEND : Hid (LinksIn W4 (Fr B) l (updU us (c, r) al) (cntU us (c, r) n) ∧ Kp w W4 (Fr B) ∧ (∀ i cs, Blk w i cs 29 → Blk W4 i cs 29)) := ⟨⟨hl, .inr ⟨m, _, hb.kp k0 (fun e => hne e.symm), hm, hne, hput.1, hput.2⟩⟩, k0.mono (fun i _ e => by subst e; exact hm), fun i cs hi => hi.kp k0 (fun e => by
      obtain ⟨es, clock, hmm, _⟩ := hown
      unfold Blk at hi
      rw [e, hmm] at hi
      cases hi)⟩
    have c1 : W1.cell? ⟨l, 0, none⟩ = some (.map (some m)) := (hb.kp k1 (fun x => x)).cell rfl
    have c4 : W1.cell? ⟨w.heap.size, 0, none⟩ = some (.int .i64 c) := hA.cell rfl
    have c5 : W1.cell? ⟨w.heap.size, 1, none⟩ = some (.int .i64 r) := hA.cell rfl
    have hnil := eq_nilmap (some m)
    clear hb hv hok hn hB k1 k4 k0 hA hown hown4 hmh hturn hv4 hput hkey hs1 hx hl hm hne
    subst hW1
    go_enter Tryz.func41, Tryz.ntmps41
    go_wp2_with fail
    go_region
    all_goals
      go_wp2_with fail
      go_end0
      exact ⟨rfl, HEND.out⟩
end Go.Proofs.YtkgolfmnlbmmeaaGreatDoor
