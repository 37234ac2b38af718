/- keep; Set. Set. -/
import Derived.Test.YtdlieecpckpemaaGreatDoorLcZn
import Derived.Test.YtdlieecpckpemaaGreatDoorLcYv
namespace Go.Proofs.YtdlieecpckpemaaGreatDoor
open Go.RowKit Go.Sort Go.Lib Go.Maps

theorem eqIn_nilmap (w : World) (d : Nat) (p : Option Nat) : (Op.equalIn (d + 1) 64 (.map p) (.map none)).run Tryz.prog w = .ok p.isNone w := by
  cases p <;> simp [Op.equalIn, run_underlying Tryz.underlying64]
theorem eq_nilmap (p : Option Nat) (w : World) : (binOp .eql 64 (.map p) (.map none)).run Tryz.prog w = .ok (.bool p.isNone) w := by
  simp only [binOp]
  simp [show Op.equal 64 (.map p) (.map none) = Op.equalIn (9999 + 1) 64 (.map p) (.map none) from rfl, eqIn_nilmap w 9999 p]
theorem Kp.of_turned {w w' : World} {m : Nat} (h : w.mapTurned w' m) : Kp w w' (fun i => i = m) := Kp.of_grown h.grown (fun i e => by cases e; rfl)
theorem key_addr {x : Int × Int} (hx : VC x) : keyOf Tryz.prog 29 (.agg #[.int .i64 x.1, .int .i64 x.2]) = some (kl x.1 x.2) := kl_key hx.i64.1 hx.i64.2
set_option maxRecDepth 20000 in
set_option maxHeartbeats 4000000 in
theorem keep_at (B l n : Nat) (us : Int × Int → Option (List Ar)) (c r : Int) (al : List Ar) (av : Option Addr) (nl cv : Nat) (w : World) (h : LinksIn w (Fr B) l us n) (hx : VC (c, r)) (hv : ArSl w (Fr B) (.slice av nl cv) al) (hok : (∀ a ∈ al, a.ok) ∧ al.length ≤ 256) (hn : n < maxLen) (hB : B ≤ w.heap.size) :
    Calls Tryz.prog 40 #[.pointer (some ⟨l, 0, none⟩), .agg #[.int .i64 c, .int .i64 r], .slice av nl cv] w fun e w' => e = .returned (.tuple #[]) ∧ LinksIn w' (Fr B) l (updU us (c, r) al) (cntU us (c, r) n) ∧ Kp w w' (Fr B) ∧ (∀ i cs, Blk w i cs 29 → Blk w' i cs 29) := by
  obtain ⟨hl, h⟩ := h
  have hkey := key_addr hx
  simp only at hkey
  obtain ⟨W1, hW1⟩ : ∃ W1, w.alloc (.cells #[.int .i64 c, .int .i64 r] 29) = W1 := ⟨_, rfl⟩
  have k1 : Kp w W1 Nul := by rw [← hW1]; exact (Kp.refl w Nul).alloc _
  have hA : Blk W1 w.heap.size [.int .i64 c, .int .i64 r] 29 := by rw [← hW1]; exact Blk.new w [.int .i64 c, .int .i64 r] _
  have hs1 : W1.heap.size = w.heap.size + 1 := by rw [← hW1]; exact World.size_alloc _ _
  rcases h with ⟨hb, rfl, rfl⟩ | ⟨m, D, hb, hm, hne, hown, hmh⟩
  · obtain ⟨W2, hW2⟩ : ∃ W2, W1.alloc (.map #[] 0) = W2 := ⟨_, rfl⟩
    obtain ⟨W3, hW3⟩ : ∃ W3, W2.setCell ⟨l, 0, none⟩ (.map (some W1.heap.size)) = W3 := ⟨_, rfl⟩
    have k2 : Kp W1 W2 Nul := by rw [← hW2]; exact (Kp.refl W1 Nul).alloc _
    have hb2 := (hb.kp k1 (fun x => x)).kp k2 (fun x => x)
    have hllt : l < w.heap.size := hb.lt
    have hlne : W1.heap.size ≠ l := by omega
    have hown2 : W2.ownsMap Tryz.prog 29 rawE W1.heap.size 0 (.map []) := by rw [← hW2]; exact World.ownsMap_made W1 _ _ _
    have hown3 : W3.ownsMap Tryz.prog 29 rawE W1.heap.size 0 (.map []) := by rw [← hW3]; exact hown2.setCell hlne _
    have k3 : Kp W2 W3 (fun i => i = l) := by rw [← hW3]; exact (Kp.refl W2 _).setCell ⟨l, 0, none⟩ _ (.inr rfl)
    have hb3 : Blk W3 l [.map (some W1.heap.size)] 66 := by rw [← hW3]; exact hb2.set 0 _
    have hA3 : Blk W3 w.heap.size [.int .i64 c, .int .i64 r] 29 := (hA.kp k2 (fun x => x)).kp k3 (by show ¬ w.heap.size = l; omega)
    obtain ⟨W4, hrun, hown4, hturn⟩ := hown3.drew.store lawAddr Tryz.underlying64 (by decide) hkey (val := .slice av nl cv) (d := .held (.slice av nl cv)) (ps := []) rfl
    have k4 : Kp W3 W4 (fun i => i = W1.heap.size) := ((Kp.refl W3 _).drew).trans (Kp.of_turned hturn)
    have kF : Kp w W4 (Fr B) := ((k1.trans k2).of_nul.trans' k3 (fun i _ e => by subst e; exact hl)).trans' k4 (fun i hi e => absurd e (by omega))
    have hHas0 : MapHas W3 (Fr B) (.map []) (fun _ => none) 0 := ⟨rfl, fun c r _ _ => rfl, fun c r al e => (by cases e), fun x al e => (by cases e), fun x al e => (by cases e)⟩
    have k03 : Kp w W3 (fun i => i = l) := (k1.trans k2).of_nul.trans' k3 (fun i _ e => e)
    have hvl : ∀ b o (y : Ar), AreasAt w b o al → al[0]? = some y → b ≠ l := fun b o y ha hy e => by
      have h1 := (ha 0 y hy)
      subst e
      have := h1.2.1
      rw [hb.at'] at this
      simp at this
    have hv4 : ArSl W4 (Fr B) (.slice av nl cv) al := by
      obtain ⟨a, c', e1, e2, e3, e4⟩ := hv
      refine ⟨a, c', e1, e2, e3, fun hlen => ?_⟩
      obtain ⟨b, o, f1, f2, f3⟩ := e4 hlen
      obtain ⟨y, hy⟩ : ∃ y, al[0]? = some y := ⟨_, List.getElem?_eq_getElem hlen⟩
      have hbl := cell_lt (f3 0 y hy).1
      exact ⟨b, o, f1, f2, (f3.kp k03 (hvl b o y f3 hy)).kp k4 (by show ¬ b = W1.heap.size; omega)⟩
    have hput := map_put (x := (c, r)) hown3 hHas0 hown4 k4 hx hv4 hok
    have HEND : Hid (LinksIn W4 (Fr B) l (updU (fun _ => none) (c, r) al) (cntU (fun _ => none) (c, r) 0) ∧ Kp w W4 (Fr B) ∧ (∀ i cs, Blk w i cs 29 → Blk W4 i cs 29)) := ⟨⟨hl, .inr ⟨W1.heap.size, _, hb3.kp k4 (by show ¬ l = W1.heap.size; omega), (by show B ≤ W1.heap.size; omega), hlne, hput.1, hput.2⟩⟩, kF, fun i cs hi => (hi.kp k03 (hi.ne hb (by decide))).kp k4 (by have := hi.lt; show ¬ i = W1.heap.size; omega)⟩
    have HW1 : Hid (w.alloc (.cells #[.int .i64 c, .int .i64 r] 29) = W1) := hW1
    have HW2 : Hid (W1.alloc (.map #[] 0) = W2) := hW2
    have HW3 : Hid (W2.setCell ⟨l, 0, none⟩ (.map (some W1.heap.size)) = W3) := hW3
    have c1 : W1.cell? ⟨l, 0, none⟩ = some (.map none) := (hb.kp k1 (fun x => x)).cell rfl
    have c2 : W2.cell? ⟨l, 0, none⟩ = some (.map none) := hb2.cell rfl
    have f2 : W2.frozen? ⟨l, 0, none⟩ = false := hb2.froz _
    have c3 : W3.cell? ⟨l, 0, none⟩ = some (.map (some W1.heap.size)) := hb3.cell rfl
    have c4 : W3.cell? ⟨w.heap.size, 0, none⟩ = some (.int .i64 c) := hA3.cell rfl
    have c5 : W3.cell? ⟨w.heap.size, 1, none⟩ = some (.int .i64 r) := hA3.cell rfl
    have hmm : (Instr.makeMap 64 none).run Tryz.prog W1 = .ok (.map (some W1.heap.size)) W2 := by rw [← hW2]; rfl
    rw [hs1] at HW3 c3 hmm hrun
    have hnil := eq_nilmap none
    clear hb hv hok hn hB hW2 hW3 k1 k2 k3 k4 kF hA hA3 hb2 hb3 hown2 hown3 hown4 hturn hHas0 k03 hvl hv4 hput hkey hs1 hx hl HW1 HW2 hlne
    subst hW1
    go_enter Tryz.func40, Tryz.ntmps40
    go_wp2_with fail
    rw [HW3.out]
    go_region
    all_goals
      go_wp2_with fail
      go_end0
      exact ⟨rfl, HEND.out⟩
  · obtain ⟨W4, hrun, hown4, hturn⟩ := (ownsMap_block hown (k1.block m hown.lt (fun x => x))).drew.store lawAddr Tryz.underlying64 hn hkey (val := .slice av nl cv) (d := .held (.slice av nl cv)) (ps := []) rfl
    have k4 : Kp W1 W4 (fun i => i = m) := ((Kp.refl W1 _).drew).trans (Kp.of_turned hturn)
    have k0 : Kp w W4 (fun i => i = m) := k1.of_nul.trans k4
    have hv4 : ArSl W4 (Fr B) (.slice av nl cv) al := by
      obtain ⟨a, c', e1, e2, e3, e4⟩ := hv
      refine ⟨a, c', e1, e2, e3, fun hlen => ?_⟩
      obtain ⟨b, o, f1, f2, f3⟩ := e4 hlen
      obtain ⟨y, hy⟩ : ∃ y, al[0]? = some y := ⟨_, List.getElem?_eq_getElem hlen⟩
      refine ⟨b, o, f1, f2, f3.kp k0 (fun eb => ?_)⟩
      have hcell := (f3 0 y hy).1
      obtain ⟨es, clock, hmm, _⟩ := hown
      simp only [World.cell?] at hcell
      rw [eb, hmm] at hcell
      cases hcell
    have hput := map_put (x := (c, r)) hown hmh hown4 k0 hx hv4 hok
    have HEND : Hid (LinksIn W4 (Fr B) l (updU us (c, r) al) (cntU us (c, r) n) ∧ Kp w W4 (Fr B) ∧ (∀ i cs, Blk w i cs 29 → Blk W4 i cs 29)) := ⟨⟨hl, .inr ⟨m, _, hb.kp k0 (fun e => hne e.symm), hm, hne, hput.1, hput.2⟩⟩, k0.mono (fun i _ e => by subst e; exact hm), fun i cs hi => hi.kp k0 (fun e => by
      obtain ⟨es, clock, hmm, _⟩ := hown
      unfold Blk at hi
      rw [e, hmm] at hi
      cases hi)⟩
    have c1 : W1.cell? ⟨l, 0, none⟩ = some (.map (some m)) := (hb.kp k1 (fun x => x)).cell rfl
    have c4 : W1.cell? ⟨w.heap.size, 0, none⟩ = some (.int .i64 c) := hA.cell rfl
    have c5 : W1.cell? ⟨w.heap.size, 1, none⟩ = some (.int .i64 r) := hA.cell rfl
    have hnil := eq_nilmap (some m)
    clear hb hv hok hn hB k1 k4 k0 hA hown hown4 hmh hturn hv4 hput hkey hs1 hx hl hm hne
    subst hW1
    go_enter Tryz.func40, Tryz.ntmps40
    go_wp2_with fail
    go_region
    all_goals
      go_wp2_with fail
      go_end0
      exact ⟨rfl, HEND.out⟩
end Go.Proofs.YtdlieecpckpemaaGreatDoor
namespace Go.Proofs.YtdlieecpckpemaaGreatDoor
open Go.RowKit Go.Sort Go.Lib Go.Maps

theorem len_of {w : World} {F : Nat → Prop} {l n : Nat} {us : Int × Int → Option (List Ar)} (h : LinksIn w F l us n) : ∃ mv, w.cell? ⟨l, 0, none⟩ = some (.map mv) ∧ ∀ ty, (Builtin.len_ #[64] ty #[.map mv]).run Tryz.prog w = .ok (.int .i64 (n : Int)) w := by
  obtain ⟨_, h⟩ := h
  rcases h with ⟨hb, _, rfl⟩ | ⟨m, D, hb, _, _, hown, hmh⟩
  · exact ⟨none, hb.cell rfl, fun ty => Maps.len_nil Tryz.underlying64 ty⟩
  · refine ⟨some m, hb.cell rfl, fun ty => ?_⟩
    have := hown.len Tryz.underlying64 ty
    rw [hmh.size] at this
    exact this
/-- What Set tells, and what it leaves. -/
def SetIs (us : Int × Int → Option (List Ar)) (n : Nat) (x : Int × Int) (al : List Ar) (er : Int) (us' : Int × Int → Option (List Ar)) (n' : Nat) : Prop :=
  (us' = us ∧ n' = n ∧ ((vC x.1 x.2 = false ∧ er = 20) ∨ (vC x.1 x.2 = true ∧ 256 < al.length ∧ er = 34) ∨ (vC x.1 x.2 = true ∧ al.length ≤ 256 ∧ al.any (fun a => !vR a) = true ∧ er = 1) ∨ (vC x.1 x.2 = true ∧ al.length ≤ 256 ∧ al.any (fun a => !vR a) = false ∧ 4096 ≤ n ∧ us x = none ∧ er = 41))) ∨
  (vC x.1 x.2 = true ∧ al.length ≤ 256 ∧ al.any (fun a => !vR a) = false ∧ (n < 4096 ∨ (us x).isSome = true) ∧ er = 0 ∧ ∃ al', (∀ a, a ∈ al' ↔ a ∈ al) ∧ us' = updU us x al' ∧ n' = cntU us x n)
theorem vc_iff' (x : Int × Int) : vC x.1 x.2 = true ↔ VC x := by rw [vC_iff]; unfold VC; exact Iff.rfl
theorem vR_ok {a : Ar} (h : vR a = true) : a.ok := by
  have := vA_bd _ _ _ _ h
  unfold Ar.ok
  omega
set_option maxRecDepth 20000 in
set_option maxHeartbeats 8000000 in
theorem set_at (B l n : Nat) (us : Int × Int → Option (List Ar)) (c r : Int) (al : List Ar) (av : Option Addr) (cv : Nat) (w : World) (h : LinksIn w (Fr B) l us n) (hc : I64 c) (hr : I64 r) (hal : al.length ≤ 9223372036854775807) (ha0 : 0 < al.length → ∃ b o, av = some ⟨b, o, none⟩ ∧ AreasAt w b o al) (hn : n < maxLen) (hB : B ≤ w.heap.size) :
    Calls Tryz.prog 26 #[.pointer (some ⟨l, 0, none⟩), .agg #[.int .i64 c, .int .i64 r], .slice av al.length cv] w fun e w' => ∃ er us' n', e = .returned (.int .i64 er) ∧ SetIs us n (c, r) al er us' n' ∧ LinksIn w' (Fr B) l us' n' ∧ Kp w w' (Fr B) ∧ (∀ i cs, Blk w i cs 29 → Blk w' i cs 29) := by
  have HV : Hid (∀ w, Calls Tryz.prog 64 #[.agg #[.int .i64 c, .int .i64 r]] w fun e w' => e = .returned (.bool (vC c r)) ∧ w' = w.alloc (.cells #[.int .i64 c, .int .i64 r] 29)) := pValid_at c r
  have HC : Hid (∀ wq, Kp w wq Nul → Calls Tryz.prog 46 #[.slice av al.length cv, .func (.func 65) #[] #[]] wq fun e w' => e = .returned (.bool (al.any (fun x => !vR x))) ∧ Kp wq w' Nul) := fun wq k =>
    noArea_any al av cv wq hal (fun h => by obtain ⟨b, o, e, hh⟩ := ha0 h; exact ⟨b, o, e, hh.kp k (fun x => x)⟩)
  have HL : Hid (∀ wq, Kp w wq Nul → LinksIn wq (Fr B) l us n) := fun wq k => h.kp k (fun _ _ x => x)
  have HS : Hid (∀ wq, Kp w wq Nul → Calls Tryz.prog 63 #[.pointer (some ⟨l, 0, none⟩), .agg #[.int .i64 c, .int .i64 r]] wq fun e w' => e = .returned (.bool (us (c, r)).isSome) ∧ Kp wq w' Nul) := fun wq k => isSet_at (Fr B) l n us c r wq (h.kp k (fun _ _ x => x)) hc hr
  have HO : Hid (al.length ≤ 256 → ∀ wq, Kp w wq Nul → Calls Tryz.prog 66 #[.slice av al.length cv, .func (.func 67) #[] #[]] wq fun e w' => ∃ (L : List Ar) (v' : Value), e = .returned v' ∧ AreasFrom wq.heap.size w' v' L ∧ L.length ≤ al.length ∧ (∀ x, x ∈ L ↔ x ∈ al) ∧ Kp wq w' Nul) := fun h256 wq k =>
    orderedR_at al av cv wq (by omega) (fun h0 => by obtain ⟨b, o, e, h⟩ := ha0 h0; exact ⟨b, o, e, h.kp k (fun x => x)⟩)
  have hA : Blk (w.alloc (.cells #[.int .i64 c, .int .i64 r] 29)) w.heap.size [.int .i64 c, .int .i64 r] 29 := Blk.new w [.int .i64 c, .int .i64 r] _
  have HAt : Hid (∀ wq, Kp (w.alloc (.cells #[.int .i64 c, .int .i64 r] 29)) wq Nul → Blk wq w.heap.size [.int .i64 c, .int .i64 r] 29) := fun wq k => hA.kp k (fun x => x)
  have HKw : Hid (∀ wq, Kp (w.alloc (.cells #[.int .i64 c, .int .i64 r] 29)) wq Nul → Kp w wq Nul) := fun wq k => ((Kp.refl w Nul).alloc _).trans k
  have HKeep : Hid (VC (c, r) → al.length ≤ 256 → al.any (fun x => !vR x) = false → ∀ wq v L, Kp w wq Nul → AreasFrom w.heap.size wq v L → L.length ≤ al.length → (∀ x, x ∈ L ↔ x ∈ al) → Calls Tryz.prog 40 #[.pointer (some ⟨l, 0, none⟩), .agg #[.int .i64 c, .int .i64 r], v] wq fun e w' => e = .returned (.tuple #[]) ∧ LinksIn w' (Fr B) l (updU us (c, r) L) (cntU us (c, r) n) ∧ Kp w w' (Fr B) ∧ (∀ i cs, Blk wq i cs 29 → Blk w' i cs 29)) := fun hx h256 hall wq v L k hf hlen hmem => by
    obtain ⟨a, c', rfl, f1, f2, f3⟩ := hf
    refine (keep_at B l n us c r L a L.length c' wq (h.kp k (fun _ _ x => x)) hx ⟨a, c', rfl, f1, f2, fun hl => ?_⟩ ⟨fun x hxL => ?_, by omega⟩ hn (Nat.le_trans hB k.size)).mono ?_
    · rcases f3 with ⟨_, e⟩ | ⟨b, e1, e2, e3⟩
      · rw [e] at hl; exact absurd hl (Nat.lt_irrefl _)
      · exact ⟨b, 0, e1, Nat.le_trans hB e2, e3⟩
    · rw [List.any_eq_false] at hall
      have := hall x ((hmem x).1 hxL)
      exact vR_ok (by simpa using this)
    · rintro e w' ⟨rfl, h1, h2, h3⟩
      exact ⟨rfl, h1, k.of_nul.trans h2, h3⟩
  have HVC : Hid (vC c r = true → VC (c, r)) := fun hv => (vc_iff' (c, r)).1 hv
  clear hA ha0 h hal hc hr hn
  obtain ⟨N, hN⟩ : ∃ N, al.length = N := ⟨_, rfl⟩
  have HN : Hid (al.length = N) := hN
  rw [hN] at HC HO HKeep ⊢
  obtain ⟨A, hA⟩ : ∃ A, al.any (fun x => !vR x) = A := ⟨_, rfl⟩
  have HA : Hid (al.any (fun x => !vR x) = A) := hA
  rw [hA] at HC HKeep
  obtain ⟨I, hI⟩ : ∃ I, (us (c, r)).isSome = I := ⟨_, rfl⟩
  have HI : Hid ((us (c, r)).isSome = I) := hI
  rw [hI] at HS
  obtain ⟨V, hV⟩ : ∃ V, vC c r = V := ⟨_, rfl⟩
  have HVV : Hid (vC c r = V) := hV
  rw [hV] at HV HVC
  clear hN hA hI hV
  go_enter Tryz.func26, Tryz.ntmps26
  go_wp2_with fail
  refine (HV.out _).mono ?_
  rintro e w1 ⟨rfl, hw1⟩
  have HK1 : Hid (Kp (w.alloc (.cells #[.int .i64 c, .int .i64 r] 29)) w1 Nul) := by rw [hw1]; exact (Kp.refl _ _).alloc _
  clear hw1 HV
  cases V with
  | false =>
    go_wp2_with fail
    go_ret
    exact ⟨_, us, n, rfl, .inl ⟨rfl, rfl, .inl ⟨HVV.out, rfl⟩⟩, HL.out _ (HKw.out _ HK1.out), (HKw.out _ HK1.out).of_nul, fun i cs hi => hi.kp (HKw.out _ HK1.out) (fun x => x)⟩
  | true =>
    by_cases hbig : 256 < N
    · have hb1 : (256 : Int) < (N : Int) := by omega
      go_wp2_with fail
      go_ret
      exact ⟨_, us, n, rfl, .inl ⟨rfl, rfl, .inr (.inl ⟨HVV.out, by rw [HN.out]; exact hbig, rfl⟩)⟩, HL.out _ (HKw.out _ HK1.out), (HKw.out _ HK1.out).of_nul, fun i cs hi => hi.kp (HKw.out _ HK1.out) (fun x => x)⟩
    · have hb1 : ¬ (256 : Int) < (N : Int) := by omega
      have hb2 : N ≤ 256 := by omega
      go_wp2_with fail
      refine (HC.out w1 (HKw.out _ HK1.out)).mono ?_
      rintro e w2 ⟨rfl, hk2⟩
      have HK2 : Hid (Kp (w.alloc (.cells #[.int .i64 c, .int .i64 r] 29)) w2 Nul) := HK1.out.trans hk2
      clear hk2 HC
      cases A with
      | true =>
        go_wp2_with fail
        go_ret
        exact ⟨_, us, n, rfl, .inl ⟨rfl, rfl, .inr (.inr (.inl ⟨HVV.out, by rw [HN.out]; exact hb2, HA.out, rfl⟩))⟩, HL.out _ (HKw.out _ HK2.out), (HKw.out _ HK2.out).of_nul, fun i cs hi => hi.kp (HKw.out _ HK2.out) (fun x => x)⟩
      | false =>
        obtain ⟨mv, q1, q2⟩ := len_of (HL.out w2 (HKw.out _ HK2.out))
        have q3 : w2.cell? ⟨w.heap.size, 0, none⟩ = some (.int .i64 c) := (HAt.out w2 HK2.out).cell rfl
        have q4 : w2.cell? ⟨w.heap.size, 1, none⟩ = some (.int .i64 r) := (HAt.out w2 HK2.out).cell rfl
        by_cases hfull : 4096 ≤ n
        · have hf1 : (4096 : Int) ≤ (n : Int) := by omega
          go_wp2_with fail
          refine (HS.out w2 (HKw.out _ HK2.out)).mono ?_
          rintro e w3 ⟨rfl, hk3⟩
          have HK3 : Hid (Kp (w.alloc (.cells #[.int .i64 c, .int .i64 r] 29)) w3 Nul) := HK2.out.trans hk3
          clear hk3 q1 q2 q3 q4
          cases I with
          | false =>
            go_wp2_with fail
            go_ret
            exact ⟨_, us, n, rfl, .inl ⟨rfl, rfl, .inr (.inr (.inr ⟨HVV.out, by rw [HN.out]; exact hb2, HA.out, hfull, by have := HI.out; cases hu : us (c, r) with | none => rfl | some x => (rw [hu] at this; cases this), rfl⟩))⟩, HL.out _ (HKw.out _ HK3.out), (HKw.out _ HK3.out).of_nul, fun i cs hi => hi.kp (HKw.out _ HK3.out) (fun x => x)⟩
          | true =>
            go_wp2_with fail
            have KS : Hid (∀ w', Kp w3 w' Nul → (w'.cell? ⟨w.heap.size, 0, none⟩ = some (.int .i64 c) ∧ w'.cell? ⟨w.heap.size, 1, none⟩ = some (.int .i64 r))) := fun w' k => by
              have := (HAt.out w3 HK3.out).kp k (fun x => x)
              exact ⟨this.cell rfl, this.cell rfl⟩
            have HO2 : Hid (Calls Tryz.prog 66 #[.slice av N cv, .func (.func 67) #[] #[]] w3.drew fun e w' => ∃ (L : List Ar) (v' : Value), e = .returned v' ∧ AreasFrom w.heap.size w' v' L ∧ L.length ≤ N ∧ (∀ x, x ∈ L ↔ x ∈ al) ∧ Kp w3 w' Nul) := (HO.out hb2 w3.drew (HKw.out _ HK3.out.drew)).mono fun e w' ⟨L, v', h1, h2, h3, h4, h5⟩ => ⟨L, v', h1, by
              obtain ⟨a, c', f0, f1, f2, f3⟩ := h2
              refine ⟨a, c', f0, f1, f2, ?_⟩
              rcases f3 with f3 | ⟨b, e1, e2, e3⟩
              · exact .inl f3
              · exact .inr ⟨b, e1, Nat.le_trans (HKw.out _ HK3.out.drew).size e2, e3⟩, h3, h4, ((Kp.refl w3 Nul).drew).trans h5⟩
            have HK5 : Hid (∀ w4 v L, Kp w3 w4 Nul → AreasFrom w.heap.size w4 v L → L.length ≤ N → (∀ x, x ∈ L ↔ x ∈ al) → Calls Tryz.prog 40 #[.pointer (some ⟨l, 0, none⟩), .agg #[.int .i64 c, .int .i64 r], v] w4 fun e w' => e = .returned (.tuple #[]) ∧ (LinksIn w' (Fr B) l (updU us (c, r) L) (cntU us (c, r) n) ∧ Kp w w' (Fr B) ∧ (∀ i cs, Blk w i cs 29 → Blk w' i cs 29)) ∧ (w'.cell? ⟨w.heap.size, 0, none⟩ = some (.int .i64 c) ∧ w'.cell? ⟨w.heap.size, 1, none⟩ = some (.int .i64 r))) := fun w4 v L k hf hlen hmem =>
              (HKeep.out (HVC.out (by simp)) hb2 (by simp) w4 v L ((HKw.out _ HK3.out).trans k) hf hlen hmem).mono fun e w' ⟨h1, h2, h3, h4⟩ => ⟨h1, ⟨h2, h3, fun i cs hi => h4 i cs (hi.kp ((HKw.out _ HK3.out).trans k) (fun x => x))⟩, by
                have := h4 _ _ ((HAt.out w3 HK3.out).kp k (fun x => x))
                exact ⟨this.cell rfl, this.cell rfl⟩⟩
            clear HKeep HO HS HAt HL
            go_region_held3 (fun w' => w'.cell? ⟨w.heap.size, 0, none⟩ = some (.int .i64 c) ∧ w'.cell? ⟨w.heap.size, 1, none⟩ = some (.int .i64 r))
              (first | (exact KS.out _ hk4) | (exact hs5) | (exact KS.out _ ((Kp.refl _ _).drew)) | (exact KS.out _ (Kp.refl _ _)))
              (first
              | (go_at_call 66; refine HO2.out.mono ?_; rintro e w4 ⟨L, v4, rfl, hf, hlen, hmem, hk4⟩)
              | (go_at_call 40; refine (HK5.out _ _ _ hk4 hf hlen hmem).mono ?_; rintro e w5 ⟨rfl, hl5, hs5⟩))
            all_goals
              have HMEM : Hid (∀ x, x ∈ L ↔ x ∈ al) := hmem
              have HL5 : Hid (LinksIn w5 (Fr B) l (updU us (c, r) L) (cntU us (c, r) n) ∧ Kp w w5 (Fr B) ∧ (∀ i cs, Blk w i cs 29 → Blk w5 i cs 29)) := hl5
              clear hmem hl5 hs5 hk4 hf hlen
              go_wp2_with fail
              go_ret
              exact ⟨_, _, _, rfl, .inr ⟨HVV.out, by rw [HN.out]; exact hb2, HA.out, .inr HI.out, rfl, L, HMEM.out, rfl, rfl⟩, HL5.out⟩
        · have hf1 : ¬ (4096 : Int) ≤ (n : Int) := by omega
          go_wp2_with fail
          clear q1 q2 q3 q4
          have KS : Hid (∀ w', Kp w2 w' Nul → (w'.cell? ⟨w.heap.size, 0, none⟩ = some (.int .i64 c) ∧ w'.cell? ⟨w.heap.size, 1, none⟩ = some (.int .i64 r))) := fun w' k => by
            have := (HAt.out w2 HK2.out).kp k (fun x => x)
            exact ⟨this.cell rfl, this.cell rfl⟩
          have HO2 : Hid (Calls Tryz.prog 66 #[.slice av N cv, .func (.func 67) #[] #[]] w2.drew fun e w' => ∃ (L : List Ar) (v' : Value), e = .returned v' ∧ AreasFrom w.heap.size w' v' L ∧ L.length ≤ N ∧ (∀ x, x ∈ L ↔ x ∈ al) ∧ Kp w2 w' Nul) := (HO.out hb2 w2.drew (HKw.out _ HK2.out.drew)).mono fun e w' ⟨L, v', h1, h2, h3, h4, h5⟩ => ⟨L, v', h1, by
            obtain ⟨a, c', f0, f1, f2, f3⟩ := h2
            refine ⟨a, c', f0, f1, f2, ?_⟩
            rcases f3 with f3 | ⟨b, e1, e2, e3⟩
            · exact .inl f3
            · exact .inr ⟨b, e1, Nat.le_trans (HKw.out _ HK2.out.drew).size e2, e3⟩, h3, h4, ((Kp.refl w2 Nul).drew).trans h5⟩
          have HK5 : Hid (∀ w4 v L, Kp w2 w4 Nul → AreasFrom w.heap.size w4 v L → L.length ≤ N → (∀ x, x ∈ L ↔ x ∈ al) → Calls Tryz.prog 40 #[.pointer (some ⟨l, 0, none⟩), .agg #[.int .i64 c, .int .i64 r], v] w4 fun e w' => e = .returned (.tuple #[]) ∧ (LinksIn w' (Fr B) l (updU us (c, r) L) (cntU us (c, r) n) ∧ Kp w w' (Fr B) ∧ (∀ i cs, Blk w i cs 29 → Blk w' i cs 29)) ∧ (w'.cell? ⟨w.heap.size, 0, none⟩ = some (.int .i64 c) ∧ w'.cell? ⟨w.heap.size, 1, none⟩ = some (.int .i64 r))) := fun w4 v L k hf hlen hmem =>
            (HKeep.out (HVC.out (by simp)) hb2 (by simp) w4 v L ((HKw.out _ HK2.out).trans k) hf hlen hmem).mono fun e w' ⟨h1, h2, h3, h4⟩ => ⟨h1, ⟨h2, h3, fun i cs hi => h4 i cs (hi.kp ((HKw.out _ HK2.out).trans k) (fun x => x))⟩, by
              have := h4 _ _ ((HAt.out w2 HK2.out).kp k (fun x => x))
              exact ⟨this.cell rfl, this.cell rfl⟩⟩
          clear HKeep HO HS HAt HL
          go_region_held3 (fun w' => w'.cell? ⟨w.heap.size, 0, none⟩ = some (.int .i64 c) ∧ w'.cell? ⟨w.heap.size, 1, none⟩ = some (.int .i64 r))
            (first | (exact KS.out _ hk4) | (exact hs5) | (exact KS.out _ ((Kp.refl _ _).drew)) | (exact KS.out _ (Kp.refl _ _)))
            (first
            | (go_at_call 66; refine HO2.out.mono ?_; rintro e w4 ⟨L, v4, rfl, hf, hlen, hmem, hk4⟩)
            | (go_at_call 40; refine (HK5.out _ _ _ hk4 hf hlen hmem).mono ?_; rintro e w5 ⟨rfl, hl5, hs5⟩))
          all_goals
            have HMEM : Hid (∀ x, x ∈ L ↔ x ∈ al) := hmem
            have HL5 : Hid (LinksIn w5 (Fr B) l (updU us (c, r) L) (cntU us (c, r) n) ∧ Kp w w5 (Fr B) ∧ (∀ i cs, Blk w i cs 29 → Blk w5 i cs 29)) := hl5
            clear hmem hl5 hs5 hk4 hf hlen
            go_wp2_with fail
            go_ret
            exact ⟨_, _, _, rfl, .inr ⟨HVV.out, by rw [HN.out]; exact hb2, HA.out, .inl (by omega), rfl, L, HMEM.out, rfl, rfl⟩, HL5.out⟩
end Go.Proofs.YtdlieecpckpemaaGreatDoor
