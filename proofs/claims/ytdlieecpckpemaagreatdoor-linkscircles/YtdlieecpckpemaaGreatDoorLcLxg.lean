/- slices.AppendSeq, Collect, SortedFunc of a map's keys. -/
import Derived.Test.YtdlieecpckpemaaGreatDoorLcLxf
import Derived.Maps.OwnIn
namespace Go.Proofs.YtdlieecpckpemaaGreatDoor
open Go.RowKit Go.Shelf Go.Sort Go.Maps
attribute [local go_sem] Oper.semAt_some
theorem SeqSt.monoM {P : Program} {σ : Type} {gf : Nat} {lb : Array Value} {step : σ → Array Value → σ → Prop} {s0 : σ} {fin : σ → Prop} {M1 M2 : World → Prop} {w : World} (h : ∀ W, M1 W → M2 W) (H : SeqSt P gf lb step s0 fin M2 w) : SeqSt P gf lb step s0 fin M1 w :=
  fun J Jx Z0 W a b c => H J Jx Z0 W a b (fun s Z W q => ⟨h _ (c s Z W q).1, (c s Z W q).2⟩)
/-- Where a map is, or none; b its box. -/
structure KeyM (w : World) (F : Nat → Prop) (b : Nat) (mv : Option Nat) (us : Int × Int → Option (List Ar)) (n : Nat) : Prop where
  box : Blk w b [.map mv] 64
  map : (mv = none ∧ us = fun _ => none) ∨ ∃ m D, mv = some m ∧ m ≠ b ∧ w.ownsMap Tryz.prog 29 rawE m n D ∧ MapHas w F D us n
theorem KeyM.seq {w : World} {F : Nat → Prop} {b : Nat} {mv : Option Nat} {us : Int × Int → Option (List Ar)} {n : Nat} (h : KeyM w F b mv us n) :
    SeqSt Tryz.prog 112 #[.pointer (some ⟨b, 0, none⟩)] (stepK us n) [] (finK us) (fun W => W.cell? ⟨b, 0, none⟩ = some (.map mv) ∧ ∀ m, mv = some m → W.heap[m]? = w.heap[m]?) w := by
  rcases h.map with ⟨rfl, hu⟩ | ⟨m, D, rfl, _, hown, hm⟩
  · exact (keys1_none n us hu b w).monoM (fun W q => q.1)
  · exact (keys1_seq F b m n D us w hown hm h.box.lt).monoM (fun W q => ⟨q.1, q.2 m rfl⟩)
theorem KeyM.lt {w : World} {F : Nat → Prop} {b m : Nat} {mv : Option Nat} {us : Int × Int → Option (List Ar)} {n : Nat} (h : KeyM w F b mv us n) (e : mv = some m) : m < w.heap.size ∧ m ≠ b := by
  rcases h.map with ⟨h1, _⟩ | ⟨m', D, h1, h2, h3, _⟩
  · rw [h1] at e; cases e
  · rw [h1] at e; cases e; exact ⟨h3.lt, h2⟩
theorem KeyM.kpn {w w' : World} {F : Nat → Prop} {b : Nat} {mv : Option Nat} {us : Int × Int → Option (List Ar)} {n : Nat} (h : KeyM w F b mv us n) (g : Kp w w' Nul) : KeyM w' F b mv us n := by
  refine ⟨h.box.kp g (fun x => x), ?_⟩
  rcases h.map with h1 | ⟨m, D, h1, h2, h3, h4⟩
  · exact .inl h1
  · exact .inr ⟨m, D, h1, h2, ownsMap_block h3 (g.block m h3.lt (fun x => x)), h4.kp g (fun _ _ x => x)⟩
/-- How the collecting stands: xb the list's variable, B where the range began. -/
structure ApI (w1 : World) (b : Nat) (mv : Option Nat) (xb : Nat) (acc : List (Int × Int)) (n : Nat) (Z : Nat → Prop) (v : Value) (W : World) : Prop where
  bx : Blk W xb [v] 30
  row : W.ownsRow (w1.heap.size + 2) 29 2 v acc.length (flatK encA 2 acc.toArray).toList
  z : ∀ i, Z i ↔ (i = xb ∨ v.ownBlock = some i)
  kp : Kp w1 W (fun i => i = xb)
  nod : acc.Nodup
  len : acc.length ≤ n
theorem row_low {w : World} {B B' : Nat} {e : TypeId} {k n : Nat} {v : Value} {xs : List Value} (h : w.ownsRow B e k v n xs) (hb : B' ≤ B) : w.ownsRow B' e k v n xs := by
  obtain ⟨h0, h⟩ := h
  refine ⟨h0, ?_⟩
  rcases h with h | ⟨g', c', cur, h1, h2, h3⟩
  · exact .inl h
  · exact .inr ⟨g', c', cur, h1, Nat.le_trans hb h2, h3⟩
theorem infoSl1 : (Tryz.prog.info? 30).map (·.size) = some 1 := by kernel_rfl
set_option maxRecDepth 100000 in
set_option maxHeartbeats 8000000 in
theorem appendSeq_at (F : Nat → Prop) (b n : Nat) (mv : Option Nat) (us : Int × Int → Option (List Ar)) (w : World) (h : KeyM w F b mv us n) (hn : n ≤ 1048576) :
    Calls Tryz.prog 126 #[.slice none 0 0, .func (.func 112) #[] #[.pointer (some ⟨b, 0, none⟩)]] w
      fun e w' => ∃ (L : List (Int × Int)) (v' : Value), e = .returned v' ∧ w'.ownsRow w.heap.size 29 2 v' L.length (flatK encA 2 L.toArray).toList ∧ L.Nodup ∧ (∀ x, x ∈ L ↔ (us x).isSome = true) ∧ L.length ≤ n ∧ Kp w w' Nul := by
  have HH : Hid (KeyM w F b mv us n) := h
  have hbl := h.box.lt
  have HBL : Hid (b < w.heap.size ∧ ∀ m, mv = some m → m < w.heap.size) := ⟨hbl, fun m e => (h.lt e).1⟩
  clear h hbl
  refine (callsIn_wide (n := 12)).1 ?_
  refine callsIn_of_wp_marks Tryz.func126 rfl trivial ?_ rfl
  simp only [Tryz.ntmps126, List.size_toArray, List.length_cons, List.length_nil, Nat.reduceAdd, Nat.reduceSub, Array.replicate_succ, Array.replicate_zero, List.push_toArray, List.append_toArray, List.nil_append, List.cons_append]
  refine wpIn_wide.2 ?_
  go_wp2_with fail
  obtain ⟨xb, hxb⟩ : ∃ xb, w.heap.size = xb := ⟨_, rfl⟩
  have HXB : Hid (w.heap.size = xb) := hxb
  have hb1 := Blk.new w [Value.slice none 0 0] 30
  obtain ⟨w1, hw1⟩ : ∃ w1, w.alloc (.cells #[.slice none 0 0] 30) = w1 := ⟨_, rfl⟩
  rw [show (w.alloc (.cells [Value.slice none 0 0].toArray 30)) = w1 from hw1, hxb] at hb1
  have HK1 : Hid (Kp w w1 Nul) := by show Kp _ _ _; rw [← hw1]; exact (Kp.refl w Nul).alloc _
  have HS1 : Hid (w1.heap.size = xb + 1) := by show _ = _; rw [← hw1, World.size_alloc, hxb]
  have HB1 : Hid (Blk w1 xb [.slice none 0 0] 30) := hb1
  rw [hw1, hxb]
  have HH1 : Hid (KeyM w1 F b mv us n) := HH.out.kpn HK1.out
  clear hw1 hb1 hxb
  generalize hact : Act.mk _ _ = a0
  refine wp_range_st (gf := 112) (lb := #[.pointer (some ⟨b, 0, none⟩)]) (by rw [← hact]; rfl) (enters_of Tryz.func112 (by kernel_rfl) rfl) (step := stepK us n) (s0 := []) (fin := finK us) ?hps (fun W => W.cell? ⟨b, 0, none⟩ = some (.map mv) ∧ ∀ m, mv = some m → W.heap[m]? = w1.heap[m]?) HH1.out.seq
    (fun acc Z W => (∃ v, ApI w1 b mv xb acc n Z v W) ∧ ∀ x ∈ acc, (us x).isSome = true) (fun _ _ => False) ?hM ?hI (fun _ _ _ q _ => q) (fun i => i = xb) ?h0 ?hround ?hdone (fun _ _ _ _ q => q.elim)
  case hps => rintro s ev s' ⟨x, rfl, _⟩; rfl
  case hM =>
    rintro acc Z W ⟨⟨v, hA⟩, _⟩
    refine ⟨⟨(HH1.out.box.kp hA.kp (fun e => by have e' : b = xb := e; have := HBL.out.1; have := HXB.out; omega)).cell rfl, fun m e => hA.kp.block m (by have := HBL.out.2 m e; have := HS1.out; have := HXB.out; omega) (fun e' => by have e2 : m = xb := e'; have := HBL.out.2 m e; have := HXB.out; omega)⟩, fun i q => ?_⟩
    rcases (hA.z i).1 q with e | e
    · subst e; exact ⟨hA.bx.lt, by have := HS1.out; omega, by have := HS1.out; omega⟩
    · have := row_base hA.row i e; exact ⟨this.2, by omega, by omega⟩
  case hI =>
    rintro acc Z W W' S ⟨⟨v, hA⟩, hu⟩ q hS
    exact ⟨⟨v, hA.bx.kp q (fun e => (hS _ e).2 ((hA.z _).2 (.inl rfl))), row_keep hA.row q (fun i e s => (hS i s).2 ((hA.z i).2 (.inr e))), hA.z, hA.kp.trans' q (fun i hi e => by have := (hS i e).1; omega), hA.nod, hA.len⟩, hu⟩
  case h0 => exact ⟨⟨.slice none 0 0, HB1.out, ⟨by simp [flatK], .inl ⟨rfl, rfl⟩⟩, fun i => ⟨.inl, fun q => by rcases q with q | q; exact q; cases q⟩, Kp.refl _ _, List.nodup_nil, Nat.zero_le _⟩, fun x hx => by cases hx⟩
  case hround =>
    subst hact
    rintro acc Z ev acc' W KK ⟨⟨x1, x2⟩, rfl, hxs, hxa, hxl, rfl⟩ hsW ⟨⟨v, hA⟩, hu⟩ hcont
    have HA : Hid (ApI w1 b mv xb acc n Z v W) := hA
    have HU : Hid (∀ x ∈ acc, (us x).isSome = true) := hu
    have HXS : Hid ((us (x1, x2)).isSome = true) := hxs
    have HXA : Hid ((x1, x2) ∉ acc) := hxa
    clear hA hu hxs hxa
    simp only [List.zip_toArray, List.zip_cons_cons, List.zip_nil_right, List.foldl_toArray', List.foldl_cons, List.foldl_nil]
    gi_wp2_with (fail)
    refine hcont _ _ ((Kp.refl W Nul).alloc _) (fun V hV hloop hdef => ?_)
    have HSW : Hid (w1.heap.size + 2 ≤ W.heap.size) := hsW
    have kW1 : Kp W (W.alloc (.cells #[.int .i64 x1, .int .i64 x2] 29)) Nul := (Kp.refl W Nul).alloc _
    have hWV : Kp W V (fun i => i = w1.heap.size + 1) := kW1.of_nul.trans hV
    have HWV : Hid (Kp W V (fun i => i = w1.heap.size + 1)) := hWV
    have HBx : Hid (Blk V W.heap.size [.int .i64 x1, .int .i64 x2] 29) := (Blk.new W [.int .i64 x1, .int .i64 x2] 29).kp hV (fun e => by have e' : W.heap.size = w1.heap.size + 1 := e; omega)
    have HVX : Hid (Blk V xb [v] 30) := HA.out.bx.kp hWV (fun e => by have e' : xb = w1.heap.size + 1 := e; have := HS1.out; omega)
    have HVR : Hid (V.ownsRow (w1.heap.size + 2) 29 2 v acc.length (flatK encA 2 acc.toArray).toList) := row_keep HA.out.row hWV (fun i e q => by have e' : i = w1.heap.size + 1 := q; have := (row_base HA.out.row i e).1; omega)
    have hVs := HBx.out.lt
    have HVs : Hid (W.heap.size < V.heap.size) := hVs
    have c1 : V.cell? ⟨xb, 0, none⟩ = some v := HVX.out.cell rfl
    have c2 : V.cell? ⟨W.heap.size, 0, none⟩ = some (.int .i64 x1) := HBx.out.cell rfl
    have c3 : V.cell? ⟨W.heap.size, 1, none⟩ = some (.int .i64 x2) := HBx.out.cell rfl
    obtain ⟨i0, hi, hz0, hz1, hz2⟩ := infoAddr
    have HSr : Hid (Blk (V.alloc (.cells #[.int .i64 x1, .int .i64 x2] 29)) V.heap.size [.int .i64 x1, .int .i64 x2] 29) := Blk.new V [.int .i64 x1, .int .i64 x2] 29
    clear hcont hV hloop hdef hWV kW1 hVs hsW
    gi_wp2_with (first
      | (refine wpListIn_append_own_at _ rfl _ _ 30 rfl (w1.heap.size + 2) 29 i0 _ 2 16 Tryz.underlying30 hi hz0 hz1 hz2 rfl (by decide) v acc.length _ rfl (HVR.out.alloc _) ⟨V.heap.size, 0, none⟩ 1 1 (encA (x1, x2)) rfl rfl (fun j u hj => by rw [Addr.add_lit, Nat.zero_add]; exact HSr.out.at'.trans hj) (encA_one _) (by unfold maxLen; omega) (by omega) (by rw [World.size_alloc]; have := HSW.out; have := HVs.out; omega) ?_; intro v5 w5 hrow5 hg5 hnil5 hown5; have hx5 : Blk w5 xb [v] 30 := row_step HVR.out hg5 HVX.out (by have := HS1.out; omega); have hone5 : v5.oneCell' = true := row_one hrow5)
      | (refine storeIn_cell rfl 30 (.tmp 2) (.tmp 11) rfl xb 0 rfl v5 rfl hone5 _ _ hx5 (by simp) infoSl1 ?_; intro X hbX hkX)
      | fail)
    have gV5 : Kp V w5 (fun i => v.ownBlock = some i) := ((Kp.refl V _).alloc _).trans (Kp.of_grown hg5 (fun i e => e))
    have kVX : Kp V X (fun i => i = xb ∨ v.ownBlock = some i) := (gV5.mono (fun _ _ e => .inr e)).trans' hkX (fun _ _ e => .inl e)
    have hrb : ∀ i, v.ownBlock = some i → w1.heap.size + 2 ≤ i := fun i e => (row_base HA.out.row i e).1
    refine ⟨Own2.of_kp kVX (by have := HSW.out; have := HVs.out; omega) (fun e => ?_) (fun e => ?_), fun i => i = xb ∨ v5.ownBlock = some i, ⟨⟨v5, hbX, ?_, fun i => Iff.rfl, ?_, nodup_snoc HA.out.nod HXA.out, by rw [List.length_append]; exact hxl⟩, ?_⟩, kVX.mono (fun i _ e => .inl ((HA.out.z i).2 e)), fun i e => ?_⟩
    · have := HS1.out
      rcases e with e | e
      · omega
      · have := hrb _ e; omega
    · have := HS1.out
      rcases e with e | e
      · omega
      · have := hrb _ e; omega
    · have h5 := row_keep hrow5 hkX (fun i q e => by have e' : i = xb := e; have := (row_base hrow5 i q).1; have := HS1.out; omega)
      rw [List.length_append, flat_snoc]
      exact h5
    · exact (HA.out.kp.trans' HWV.out (fun i hi e => by have e' : i = w1.heap.size + 1 := e; omega)).trans' kVX (fun i hi e => by
        rcases e with e | e
        · exact e
        · have := hrb i e; omega)
    · rintro y1 y2 (h | ⟨rfl, rfl⟩)
      · exact HU.out _ h
      · exact HXS.out
    · rcases e with e | e
      · exact .inl ((HA.out.z i).2 (.inl e))
      · rcases hown5 with q | q
        · rw [q] at e; exact .inl ((HA.out.z i).2 (.inr e))
        · rw [q, World.size_alloc] at e
          have := HVs.out
          cases e; exact .inr (by omega)
  case hdone =>
    subst hact
    rintro D acc Z W hD hfin ⟨⟨v, hA⟩, hu⟩ hdef
    have HA : Hid (ApI w1 b mv xb acc n Z v W) := hA
    have HU : Hid (∀ x ∈ acc, (us x).isSome = true) := hu
    have HFin : Hid (finK us acc) := hfin
    have HDf : Hid (W.heap[D]? = some (.deferred (some []))) := hdef
    have HD : Hid (D = w1.heap.size) := hD
    have c1 : W.cell? ⟨xb, 0, none⟩ = some v := hA.bx.cell rfl
    clear hA hu hfin hdef hD
    go_wp2_with fail
    refine ⟨by simp, .inl ⟨_, _, rfl, run_takeDeferred HDf.out, ?_⟩⟩
    refine ⟨_, results_tmp rfl _ _ _, acc, v, rfl, ?_, HA.out.nod, fun x => ⟨HU.out x, HFin.out x⟩, HA.out.len, ?_⟩
    · exact row_low (row_keep HA.out.row (putObj_self (l := D)) (fun i e q => by have e' : i = D := q; have := (row_base HA.out.row i e).1; have := HD.out; omega)) (by have := HK1.out.size; omega)
    · exact (HK1.out.trans' HA.out.kp (fun i hi e => by have e' : i = xb := e; have := HXB.out; omega)).trans' putObj_self (fun i hi e => by have e' : i = D := e; have := HD.out; have := HK1.out.size; omega)
set_option maxHeartbeats 2000000 in
theorem collect_at (F : Nat → Prop) (b n : Nat) (mv : Option Nat) (us : Int × Int → Option (List Ar)) (w : World) (h : KeyM w F b mv us n) (hn : n ≤ 1048576) :
    Calls Tryz.prog 111 #[.func (.func 112) #[] #[.pointer (some ⟨b, 0, none⟩)]] w
      fun e w' => ∃ (L : List (Int × Int)) (v' : Value), e = .returned v' ∧ w'.ownsRow w.heap.size 29 2 v' L.length (flatK encA 2 L.toArray).toList ∧ L.Nodup ∧ (∀ x, x ∈ L ↔ (us x).isSome = true) ∧ L.length ≤ n ∧ Kp w w' Nul := by
  have HA := appendSeq_at F b n mv us w h hn
  have HAp : Hid (Calls Tryz.prog 126 #[.slice none 0 0, .func (.func 112) #[] #[.pointer (some ⟨b, 0, none⟩)]] w
      fun e w' => ∃ (L : List (Int × Int)) (v' : Value), e = .returned v' ∧ w'.ownsRow w.heap.size 29 2 v' L.length (flatK encA 2 L.toArray).toList ∧ L.Nodup ∧ (∀ x, x ∈ L ↔ (us x).isSome = true) ∧ L.length ≤ n ∧ Kp w w' Nul) := HA
  clear HA h
  go_enter Tryz.func111, Tryz.ntmps111
  go_wp2_with fail
  refine HAp.out.mono ?_
  rintro e w' ⟨L, v', rfl, h1, h2, h3, h4, h5⟩
  go_wp2_with fail
  go_ret
  exact ⟨L, v', rfl, h1, h2, h3, h4, h5⟩
set_option maxHeartbeats 2000000 in
theorem sortedKeys_at (F : Nat → Prop) (b n : Nat) (mv : Option Nat) (us : Int × Int → Option (List Ar)) (w : World) (h : KeyM w F b mv us n) (hn : n ≤ 1048576) :
    Calls Tryz.prog 91 #[.func (.func 112) #[] #[.pointer (some ⟨b, 0, none⟩)], .func (.func 50) #[] #[]] w
      fun e w' => ∃ (L : List (Int × Int)) (v' : Value), e = .returned v' ∧ CellsFrom w.heap.size w' v' L ∧ Strict L ∧ (∀ x, x ∈ L ↔ (us x).isSome = true) ∧ L.length ≤ n ∧ Kp w w' Nul := by
  have HC : Hid (Calls Tryz.prog 111 #[.func (.func 112) #[] #[.pointer (some ⟨b, 0, none⟩)]] w
      fun e w' => ∃ (L : List (Int × Int)) (v' : Value), e = .returned v' ∧ w'.ownsRow w.heap.size 29 2 v' L.length (flatK encA 2 L.toArray).toList ∧ L.Nodup ∧ (∀ x, x ∈ L ↔ (us x).isSome = true) ∧ L.length ≤ n ∧ Kp w w' Nul) := collect_at F b n mv us w h hn
  clear h
  go_enter Tryz.func91, Tryz.ntmps91
  go_wp2_with fail
  refine HC.out.mono ?_
  rintro e w2 ⟨L, v', rfl, hrow, hnd, hmem, hlen, hk⟩
  have HSort : Hid (Calls Tryz.prog 80 #[v', .func (.func 50) #[] #[]] w2 fun e w' => e = .returned (.tuple #[]) ∧ CellsFrom w.heap.size w' v' (L.mergeSort fun x y => !(ltOf cfA) y x) ∧ Kp w w' Nul) := by
    refine (sort_cells L v' w.heap.size w2 (by omega) (own1_row rfl hrow)).mono ?_
    rintro e w' ⟨rfl, h1, h2⟩
    refine ⟨rfl, ?_, hk.trans' h2 (fun i hi e => absurd e (by omega))⟩
    obtain ⟨a, c, e1, e2⟩ := own1_from h1
    refine ⟨a, c, e1, ?_⟩
    rcases e2 with e2 | ⟨b, f1, f2, f3⟩
    · exact .inl e2
    · exact .inr ⟨b, f1, by omega, f3⟩
  have HM2 : Hid (∀ x, x ∈ (L.mergeSort fun x y => !(ltOf cfA) y x) ↔ (us x).isSome = true) := fun x => by rw [List.mem_mergeSort]; exact hmem x
  have HND : Hid (L.Nodup ∧ L.length ≤ n) := ⟨hnd, hlen⟩
  clear hrow hnd hmem hlen hk HC
  go_wp2_with fail
  refine HSort.out.mono ?_
  rintro e w' ⟨rfl, hcf, hk⟩
  go_wp2_with fail
  go_ret
  exact ⟨_, _, rfl, hcf, merge_strict HND.out.1, HM2.out, by rw [List.length_mergeSort]; exact HND.out.2, hk⟩
end Go.Proofs.YtdlieecpckpemaaGreatDoor
