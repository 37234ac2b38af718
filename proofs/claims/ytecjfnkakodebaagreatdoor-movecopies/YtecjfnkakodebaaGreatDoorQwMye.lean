/-Move: brought, for an area's move (gen_ofmove.py). -/
import Derived.Test.YtecjfnkakodebaaGreatDoorQwMyb
import Derived.Test.YtecjfnkakodebaaGreatDoorQwMvl
import Derived.Test.YtecjfnkakodebaaGreatDoorQwMvn
import Derived.Test.YtecjfnkakodebaaGreatDoorQwDc
import Derived.Test.YtecjfnkakodebaaGreatDoorQwIg
namespace Go.Proofs.YtecjfnkakodebaaGreatDoor.OfM
open Go.RowKit Go.Maps
structure BrI (f : Fate) (w : World) (B xf xt : Nat) (ArA ArB : Ar4) (g2 : Nat) (K : List Cc) (k : Nat) (Z : Nat->Prop) (W : World) (M : List Cc) : Prop where
 gi : GridIn W (fun i => Z i/\i≠w.heap.size + 1 + 1) g2 M
 ok : Ok17 M
 len : M.length<=k
 mem : ∀y, y∈M↔y∈brL f (K.take k)
 lo : Blk W (w.heap.size + 1 + 1) [.bool (lostB f (K.take k))] 4
 oth : Blk W (w.heap.size + 1) [.pointer (some ⟨g2, 0, none⟩)] 24
 fb : Blk W w.heap.size [fateM xf xt] 115
 kept : MvIn W xf xt ArA ArB
 kp : Kp w W Nul
 zl : ∀i, Z i->i<W.heap.size/\(i = w.heap.size + 1 + 1∨i = g2∨B + 2<=i)
 z2 : Z (w.heap.size + 1 + 1)
 hB : w.heap.size + 3<=g2/\g2<B/\xf<B/\xt<B
section
variable {f : Fate} {w W W' : World} {B xf xt : Nat} {ArA ArB : Ar4} {g2 : Nat} {K : List Cc} {k : Nat} {Z : Nat->Prop} {M : List Cc}
theorem BrI.far {S : Nat->Prop} (h : BrI f w B xf xt ArA ArB g2 K k Z W M) (g : Kp W W' S) (hZ : ∀i, Z i->¬S i) (hb : ∀i, i<B->S i->False) : BrI f w B xf xt ArA ArB g2 K k Z W' M := by
 obtain⟨h1, h2, h3, h4⟩ := h.hB
 exact⟨h.gi.far' g (fun i hi => hZ i hi.1), h.ok, h.len, h.mem, h.lo.kp g (fun e => hb _ (by omega) e), h.oth.kp g (fun e => hb _ (by omega) e), h.fb.kp g (fun e => hb _ (by omega) e), ⟨h.kept.c.kp g (fun e => hb _ h3 e), h.kept.r.kp g (fun e => hb _ h4 e)⟩, h.kp.trans' g (fun i hi e => hb i (by omega) e), fun i hi => ⟨Nat.lt_of_lt_of_le (h.zl i hi).1 g.size, (h.zl i hi).2⟩, h.z2, h.hB⟩
theorem BrI.nul (h : BrI f w B xf xt ArA ArB g2 K k Z W M) (g : Kp W W' Nul) : BrI f w B xf xt ArA ArB g2 K k Z W' M := h.far g (fun _ _ q => q) (fun _ _ q => q)
theorem BrI.lose {x : Cc} (h : BrI f w B xf xt ArA ArB g2 K k Z W M) (hx : K[k]? = some x) (hf : f (x.1, x.1) = none) (g : Kp W W' (fun i => i = w.heap.size + 1 + 1)) (hb : Blk W' (w.heap.size + 1 + 1) [.bool true] 4) : BrI f w B xf xt ArA ArB g2 K (k + 1) Z W' M := by
 obtain⟨h1, h2, h3, h4⟩ := h.hB
 have nz : ∀ {b : Nat} {cs : List Value} {t : TypeId}, Blk W b cs t->t ≠ 4->¬b = w.heap.size + 1 + 1 := fun {b cs t} hb ht e => by
  have q1 := h.lo
  unfold Blk at hb q1
  rw[e, q1] at hb
  simp only[Option.some.injEq, Obj.cells.injEq] at hb
  exact ht hb.2.1.symm
 have hgi : GridIn W' (fun i => Z i/\i≠w.heap.size + 1 + 1) g2 M := h.gi.far' g (fun i hi e => hi.2 e)
 refine⟨hgi, h.ok, Nat.le_succ_of_le h.len, fun y => ?_, ?_, h.oth.kp g (nz h.oth (by decide)), h.fb.kp g (nz h.fb (by decide)), ⟨h.kept.c.kp g (nz h.kept.c (by decide)), h.kept.r.kp g (nz h.kept.r (by decide))⟩, h.kp.trans' g (fun i hi e => by have e' : i = w.heap.size + 1 + 1 := e; omega), fun i hi => ⟨Nat.lt_of_lt_of_le (h.zl i hi).1 g.size, (h.zl i hi).2⟩, h.z2, h.hB⟩
 ·rw[take_snoc hx, brL_snoc, h.mem y]
  constructor
  ·exact .inl
  ·rintro(q | ⟨b, q, _⟩)
   ·exact q
   ·rw[hf] at q; cases q
 ·have : lostB f (K.take (k + 1)) = true := by
   rw[take_snoc hx]
   unfold lostB
   rw[List.any_append]
   simp[hf]
  rw[this]; exact hb
theorem BrI.put {x : Cc} {b : Ar4} {V X : World} {M' : List Cc} {er : Int} (h : BrI f w B xf xt ArA ArB g2 K k Z V M) (hf : FateOk f) (hi : FateInj f) (hx : K[k]? = some x) (hb : f (x.1, x.1) = some b) (hK : Strict (K.map (·.1))) (hKl : K.length<=4096) (hKv : ∀y∈K, vC y.1.1 y.1.2 = true) (hKg : ∀y∈K, Gd y.2)
  (hBV : B + 2<=V.heap.size) (hg : GridIn X (fun i => (Z i/\i≠w.heap.size + 1 + 1)∨V.heap.size<=i) g2 M') (hp : PutR M b.1.1 b.1.2 (alC f x.2) er M') (km : Km g2 V X) :
  ∃Z', BrI f w B xf xt ArA ArB g2 K (k + 1) Z' X M'/\∀i, Z' i->Z i∨V.heap.size<=i := by
 have hk : k<K.length := (List.getElem?_eq_some_iff.1 hx).1
 have hxm := List.mem_of_getElem? hx
 obtain⟨h1, h2, h3, h4⟩ := h.hB
 have hvb : vC b.1.1 b.1.2 = true := fate_vC hf (hKv x hxm) hb
 have hgd := alC_gd hf (hKg x hxm)
 obtain⟨_, rfl⟩ := hp.put hvb hgd.val hgd.k (.inl (by have := h.len; omega))
 rw[hgd.cp] at hg ⊢
 have hM : ∀y∈M, y.1≠b.1 := fun y hy e => by
  obtain⟨z, hz, b', e1, rfl⟩ := brL_mem.1 ((h.mem y).1 hy)
  have hzK := List.mem_of_mem_take hz
  have hne : z.1≠x.1 := by
   intro e
   obtain⟨t, ht⟩ := List.mem_iff_getElem?.1 hz
   rw[List.getElem?_take] at ht
   split at ht
   ·rename_i htl
    obtain⟨l1, q1⟩ := List.getElem?_eq_some_iff.1 ht
    obtain⟨l2, q2⟩ := List.getElem?_eq_some_iff.1 hx
    have hs := List.pairwise_iff_getElem.1 (List.pairwise_map.1 hK) t k l1 l2 htl
    rw[q1, q2, e] at hs
    rw[swoA.irrefl] at hs
    cases hs
   ·cases ht
  exact hi z.1 x.1 b' b (hKv z hzK) (hKv x hxm) hne e1 hb e
 have gi0 : GI 0 V g2 M := GridIn.mono h.gi (fun _ _ => Nat.zero_le _)
 have hok : Ok17 (putL M b.1 (alC f x.2)) := h.ok.put h.gi.once' hvb hgd (.inl (by have := h.len; omega))
 refine⟨fun i => (Z i∨V.heap.size<=i)/\i<X.heap.size, ⟨hg.lows.mono (fun i hi => ⟨⟨hi.1.imp (fun q => q.1) id, hi.2⟩, hi.1.elim (fun q => q.2) (fun q => by omega)⟩), hok, ?_, fun y => ?_, ?_, km.blk h.oth (by omega), km.blk h.fb (by omega), ⟨km.blk h.kept.c (fun e => ?_), km.blk h.kept.r (fun e => ?_)⟩, ?_, fun i hi => ⟨hi.2, ?_⟩, ⟨.inl h.z2, ?_⟩, h.hB⟩, fun i hi => hi.1⟩
 ·unfold putL
  have q := List.length_filter_le (fun y : Cc => decide (y.1≠b.1)) M
  have := h.len
  rw[List.length_cons]
  exact Nat.succ_le_succ (Nat.le_trans q this)
 ·rw[putL_mem, take_snoc hx, brL_snoc, h.mem y]
  constructor
  ·rintro(q | ⟨q, _⟩)
   ·exact .inr ⟨b, hb, q⟩
   ·exact .inl q
  ·rintro(q | ⟨b', q1, q2⟩)
   ·exact .inr ⟨q, hM y ((h.mem y).2 q)⟩
   ·rw[hb] at q1
    injection q1 with q1
    subst q1
    exact .inl q2
 ·have e : lostB f (K.take (k + 1)) = lostB f (K.take k) := by
   rw[take_snoc hx]
   unfold lostB
   rw[List.any_append]
   simp[hb]
  rw[e]
  exact km.blk h.lo (by omega)
 ·have q1 := h.kept.c
  obtain⟨mv, q2⟩ := gi0.blk
  rw[e] at q1
  unfold Blk at q1 q2
  rw[q1] at q2
  simp only[Option.some.injEq, Obj.cells.injEq] at q2
  exact absurd q2.2.1 (by decide)
 ·have q1 := h.kept.r
  obtain⟨mv, q2⟩ := gi0.blk
  rw[e] at q1
  unfold Blk at q1 q2
  rw[q1] at q2
  simp only[Option.some.injEq, Obj.cells.injEq] at q2
  exact absurd q2.2.1 (by decide)
 ·refine h.kp.trans' km.kp (fun i hi' e => ?_)
  rcases e with e | ⟨e, _⟩
  ·omega
  ·obtain⟨hF, ⟨hb', _⟩ | ⟨m, D, hb', hm', _⟩⟩ := h.gi
   ·rw[hb'] at e; simp at e
   ·rw[hb'] at e
    have em : m = i := by simpa using e
    subst em
    rcases(h.zl m hm'.1).2 with q | q | q <;> omega
 ·rcases hi.1 with q | q
  ·exact(h.zl i q).2
  ·exact .inr (.inr (by omega))
 ·exact(km.blk h.lo (by omega)).lt
end
attribute [local go_sem] Oper.semAt_some
theorem BrI.sm {f : Fate} {w W : World} {B xf xt : Nat} {ArA ArB : Ar4} {g2 : Nat} {K : List Cc} {k : Nat} {Z : Nat->Prop} {M : List Cc} (h : BrI f w B xf xt ArA ArB g2 K k Z W M) {i : Nat} (hs : Sm W g2 i) : Z i := by
 obtain⟨hF, ⟨hb', _⟩ | ⟨m, D, hb', hm', _⟩⟩ := h.gi
 ·rcases hs with rfl | ⟨e, _⟩
  ·exact hF.1
  ·rw[hb'] at e; simp at e
 ·rcases hs with rfl | ⟨e, _⟩
  ·exact hF.1
  ·rw[hb'] at e
   have em : m = i := by simpa using e
   rw[<- em]; exact hm'.1
set_option maxRecDepth 20000 in
set_option maxHeartbeats 40000000 in
theorem brought_at (xf xt : Nat) (ArA ArB : Ar4) (hl : mvOk ArA ArB) (g : Nat) (L : List Cc) (w : World) (hg : GI 0 w g L) (hL : Ok17 L) (hk : MvIn w xf xt ArA ArB) (hv : VS w) :
  Calls Tryz.prog 64 #[.agg #[fateM xf xt], .pointer (some ⟨g, 0, none⟩)] w fun e w' => ∃g2 M, e = .returned (.tuple #[.pointer (some ⟨g2, 0, none⟩), .bool (lostB (mvF ArA ArB) L)])/\BrR (mvF ArA ArB) L w w' g2 M := by
 have HNew : Hid (∀w, Calls Tryz.prog 32 #[] w fun e w' => e = .returned (.pointer (some ⟨w.heap.size, 0, none⟩))/\w' = w.alloc (.cells #[.map none] 96)) := new_at
 have HG : Hid (GI 0 w g L) := hg
 have HOk : Hid (Ok17 L) := hL
 have HV : Hid (VS w) := hv
 have HK : Hid (MvIn w xf xt ArA ArB) := hk
 have HLn : Hid (mvOk ArA ArB) := hl
 clear hg hL hv hk hl
 refine(callsIn_wide (n := 12)).1 ?_
 refine callsIn_of_wp_marks Tryz.func64 rfl trivial ?_ rfl
 simp only[Tryz.ntmps64, List.size_toArray, List.length_cons, List.length_nil, Nat.reduceAdd, Nat.reduceSub, Array.replicate_succ, Array.replicate_zero, List.push_toArray, List.append_toArray, List.nil_append, List.cons_append]
 refine wpIn_wide.2 ?_
 go_wp2_with fail
 obtain⟨W0, hW0⟩ : ∃W0, ((w.alloc (.cells #[fateM xf xt] 115)).alloc (.cells #[.pointer none] 24)).alloc (.cells #[.bool false] 4) = W0 := ⟨_, rfl⟩
 rw[hW0]
 have s0 : W0.heap.size = w.heap.size + 3 := by rw[<- hW0, World.size_alloc, World.size_alloc, World.size_alloc]
 have k0 : Kp w W0 Nul := by rw[<- hW0]; exact(((Kp.refl w Nul).alloc _).alloc _).alloc _
 have b0 : Blk W0 w.heap.size [fateM xf xt] 115 := by rw[<- hW0]; exact((Blk.new w _ _).alloc _).alloc _
 have b1 : Blk W0 (w.heap.size + 1) [.pointer none] 24 := by
  rw[<- hW0]
  have := Blk.new (w.alloc (.cells #[fateM xf xt] 115)) [.pointer none] 24
  rw[World.size_alloc] at this
  exact this.alloc _
 have b2 : Blk W0 (w.heap.size + 1 + 1) [.bool false] 4 := by
  rw[<- hW0]
  have := Blk.new ((w.alloc (.cells #[fateM xf xt] 115)).alloc (.cells #[.pointer none] 24)) [.bool false] 4
  rw[World.size_alloc, World.size_alloc] at this
  exact this
 clear hW0
 refine(HNew.out W0).mono ?_
 rintro e w1 ⟨rfl, hw1⟩
 have k1 : Kp W0 w1 Nul := by rw[hw1]; exact(Kp.refl _ _).alloc _
 have bg1 : Blk w1 W0.heap.size [.map none] 96 := by rw[hw1]; exact Blk.new W0 [.map none] _
 have hs1 : w1.heap.size = w.heap.size + 4 := by rw[hw1, World.size_alloc, s0]
 clear hw1
 generalize W0.heap.size = g2 at *
 have HS0 : Hid (g2 = w.heap.size + 3/\w1.heap.size = w.heap.size + 4) := ⟨s0, hs1⟩
 clear s0 hs1
 have H1 : Hid (Blk w1 (w.heap.size + 1) [.pointer none] 24) := b1.kp k1 (fun x => x)
 go_wp2_with (first | (refine wpList_store_var rfl 24 (.tmp 4) (.tmp 10) rfl (w.heap.size + 1) rfl (.pointer (some ⟨g2, 0, none⟩)) rfl rfl 24 (.pointer none) H1.out (by kernel_rfl) ?_; intro w2 hb2 hk2) | fail)
 have n1 : ∀ {b : Nat} {cs : List Value} {t : TypeId}, Blk w1 b cs t->b≠w.heap.size + 1->Blk w2 b cs t := fun h e => h.kp hk2 e
 have HF2 : Hid (Blk w2 w.heap.size [fateM xf xt] 115) := n1 (b0.kp k1 (fun x => x)) (by omega)
 have HL2 : Hid (Blk w2 (w.heap.size + 1 + 1) [.bool false] 4) := n1 (b2.kp k1 (fun x => x)) (by omega)
 have HO2 : Hid (Blk w2 (w.heap.size + 1) [.pointer (some ⟨g2, 0, none⟩)] 24) := hb2
 have HG2 : Hid (Blk w2 g2 [.map none] 96) := n1 bg1 (by have := HS0.out.1; omega)
 have HK2 : Hid (Kp w w2 Nul) := (k0.trans k1).trans' hk2 (fun i hi e => by have : i = w.heap.size + 1 := e; omega)
 have HAll : Hid (Calls Tryz.prog 34 #[.pointer (some ⟨g, 0, none⟩)] w2 fun e w' => ∃x0 x1, e = .returned (.func (.func 97) #[] #[.pointer (some ⟨x0, 0, none⟩), .pointer (some ⟨x1, 0, none⟩)])/\Blk w' x0 [.pointer (some ⟨g, 0, none⟩)] 24/\Blk w' x1 [.int .i64 1, .int .i64 1, .int .i64 256, .int .i64 4096] 34/\Kp w2 w' Nul) := all_at g w2
 clear n1 hb2 hk2 bg1 k0 k1 b0 b1 b2 H1 HNew
 refine HAll.out.mono ?_
 rintro e w3 ⟨x0, x1, rfl, hb0, hb1, hk3⟩
 have HF3 : Hid (Blk w3 w.heap.size [fateM xf xt] 115) := HF2.out.kp hk3 (fun x => x)
 have HL3 : Hid (Blk w3 (w.heap.size + 1 + 1) [.bool false] 4) := HL2.out.kp hk3 (fun x => x)
 have HO3 : Hid (Blk w3 (w.heap.size + 1) [.pointer (some ⟨g2, 0, none⟩)] 24) := HO2.out.kp hk3 (fun x => x)
 have HG3 : Hid (Blk w3 g2 [.map none] 96) := HG2.out.kp hk3 (fun x => x)
 have HK3 : Hid (Kp w w3 Nul) := HK2.out.trans hk3
 have HX0 : Hid (Blk w3 x0 [.pointer (some ⟨g, 0, none⟩)] 24) := hb0
 have HX1 : Hid (Blk w3 x1 [.int .i64 1, .int .i64 1, .int .i64 256, .int .i64 4096] 34) := hb1
 clear hk3 hb0 hb1 HAll HF2 HL2 HO2 HG2 HK2
 go_wp2_with fail
 obtain⟨K, hKs, hKm⟩ := in_order HG.out.once
 have hKl : K.length<=4096 := by
  have := nodup_le _ (L.map (·.1)) (strict_nodup hKs) (fun x hx => by
   obtain⟨y, hy, rfl⟩ := List.mem_map.1 hx
   exact List.mem_map.2 ⟨y, (hKm y).1 hy, rfl⟩)
  rw[List.length_map, List.length_map] at this
  have := HOk.out.len
  omega
 have HKs : Hid (Strict (K.map (·.1))) := hKs
 have HKm : Hid (∀x, x∈K↔x∈L) := hKm
 have HKl : Hid (K.length<=4096) := hKl
 have hgs : g2<w3.heap.size := HG3.out.lt
 have HGS : Hid (g2<w3.heap.size) := hgs
 have hg2e := HS0.out.1
 clear hKs hKm hKl
 generalize hact : Act.mk _ _ = a0
 refine wp_range_ow2 (α := (Cc×Value)×List Nat) (N := K.length) (gf := 97) (lb := #[.pointer (some ⟨x0, 0, none⟩), .pointer (some ⟨x1, 0, none⟩)]) (by rw[<- hact]; rfl) (enters_of Tryz.func97 (by kernel_rfl) rfl) (encs := encQ) wtQ (fun _ => rfl) (TellQ w3 K) ?hT (fun i => i = w.heap.size + 1 + 1∨i = g2) ?hseq (fun k Z W => ∃M, BrI (mvF ArA ArB) w w3.heap.size xf xt ArA ArB g2 K k Z W M) ?hZ ?hZl ?hI (fun i => i = w.heap.size + 1 + 1∨i = g2) ?h0 ?hround ?hdone
 case hT => rintro k x Z W ⟨_, _, _, h⟩; exact⟨fun q => by have := (h _ q).1; omega, fun q => by have := (h _ q).1; omega⟩
 case hseq => exact in1_seq2 g x0 x1 w.heap.size L K w3 _ (HG.out.kp HK3.out) (HG.out.low.kp HK3.out) HOk.out.gd HOk.out.at' HOk.out.len HKs.out HKm.out HK3.out.size (fun i e => by rcases e with e | e <;> omega) HX0.out HX1.out
 case hZ =>
  rintro k Z W ⟨M, h⟩
  exact⟨fun q => by rcases(h.zl _ q).2 with e | e | e <;> omega, fun q => by rcases(h.zl _ q).2 with e | e | e <;> omega⟩
 case hZl =>
  rintro k Z W ⟨M, h⟩
  exact⟨fun i hi => (h.zl i hi).1, fun i hlt hi => by rcases(h.zl i hi).2 with e | e | e; exact .inl e; exact .inr e; omega⟩
 case hI =>
  rintro k Z W W' ⟨M, h⟩ q
  exact⟨M, h.far q (fun i hi e => by rcases(h.zl _ hi).2 with q | q | q <;> rcases e with e | e <;> omega) (fun i hi e => by rcases e with e | e <;> omega)⟩
 case h0 =>
  refine⟨[], ⟨⟨⟨.inr rfl, by omega⟩, .inl ⟨HG3.out, rfl⟩⟩, Ok17.nil, Nat.zero_le _, fun y => by simp[brL], ?_, HO3.out, HF3.out, HK.out.kp HK3.out, HK3.out, fun i hi => ⟨by rcases hi with e | e <;> omega, by rcases hi with e | e; exact .inl e; exact .inr (.inl e)⟩, .inl rfl, ⟨by omega, hgs, ?_, ?_⟩⟩⟩
  ·exact HL3.out
  ·exact Nat.lt_of_lt_of_le HK.out.c.lt HK3.out.size
  ·exact Nat.lt_of_lt_of_le HK.out.r.lt HK3.out.size
 case hround =>
  subst hact
  rintro k ⟨⟨⟨⟨c, s⟩, a⟩, sl⟩, fp⟩ Z W KK hkN hsW ⟨M, hI⟩ ⟨hKk, hown, hnd, hfz⟩ hcont
  have HI : Hid (BrI (mvF ArA ArB) w w3.heap.size xf xt ArA ArB g2 K k Z W M) := hI
  have HKk : Hid (K[k]? = some ((c, s), a)) := hKk
  have HOwn : Hid (NdOwn W sl a.t fp) := hown
  have HNd : Hid (fp.Nodup) := hnd
  have HFz : Hid (∀i∈fp, w3.heap.size + 2<=i/\¬Z i) := hfz
  have HSW : Hid (w3.heap.size + 2<=W.heap.size) := hsW
  have O1 : Hid (sl.oneCell' = true) := hown.one
  have HA : Hid (∀(c r : Int) w, Calls Tryz.prog 105 #[.agg #[.int .i64 c, .int .i64 r]] w fun e w' => e = .returned (.agg #[.int .i64 c, .int .i64 r, .int .i64 c, .int .i64 r])/\Kp w w' Nul) := fun c r w => alone_at c r w
  clear hI hKk hown hnd hfz hsW hgs hg2e HF3 HL3 HO3 HG3 HX0 HX1
  simp only[List.zip_toArray, List.zip_cons_cons, List.zip_nil_right, List.foldl_toArray', List.foldl_cons, List.foldl_nil]
  gi_wp2_with (first
   | (refine storeIn_new' rfl 50 (.tmp 7) (.tmp 14) rfl _ _ _ _ (by first | rfl | simp) rfl rfl rfl infoContent (a.one O1.out) ?_)
   | fail)
  refine hcont _ _ (((Kp.refl W Nul).alloc _).alloc _) (fun V hV => ?_)
  have hW2 : Kp W ((W.alloc (.cells #[.int .i64 c, .int .i64 s] 32)).alloc (.cells (a.cells sl).toArray 50)) Nul := ((Kp.refl W Nul).alloc _).alloc _
  have hWV : Kp W V (fun i => i = w3.heap.size + 1) := (hW2.mono (fun _ _ q => q.elim)).trans hV
  have HIV : Hid (BrI (mvF ArA ArB) w w3.heap.size xf xt ArA ArB g2 K k Z V M) := HI.out.far hWV (fun i hi e => by have e' : i = w3.heap.size + 1 := e; have := HGS.out; have := HS0.out.1; rcases(HI.out.zl i hi).2 with q | q | q <;> omega) (fun i hi e => by have e' : i = w3.heap.size + 1 := e; omega)
  have HbA : Hid (Blk V W.heap.size [.int .i64 c, .int .i64 s] 32) := ((Blk.new W [.int .i64 c, .int .i64 s] 32).alloc _).kp hV (fun e => by have e' : W.heap.size = w3.heap.size + 1 := e; have := HSW.out; omega)
  have HbC : Hid (Blk V (W.heap.size + 1) (a.cells sl) 50) := by
   have h1 := Blk.new (W.alloc (.cells #[.int .i64 c, .int .i64 s] 32)) (a.cells sl) 50
   rw[World.size_alloc] at h1
   exact h1.kp hV (fun e => by have e' : W.heap.size + 1 = w3.heap.size + 1 := e; have := HSW.out; omega)
  have HVW : Hid (W.heap.size + 2<=V.heap.size) := by show _<=_; have := HbC.out.lt; omega
  have HOwnV : Hid (NdOwn V sl a.t fp) := HOwn.out.mono (fun i hi => hWV.block i (node_lt (HOwn.out.node i hi)) (fun e => by have e' : i = w3.heap.size + 1 := e; have := (HFz.out i hi).1; omega))
  have HFb : Hid (Blk V w.heap.size [fateM xf xt] 115) := HIV.out.fb
  have hFr : ∀wq, Kp V wq Nul->Calls Tryz.prog 103 #[.agg #[.int .i64 c, .int .i64 s, .int .i64 c, .int .i64 s], .pointer (some ⟨xf, 0, none⟩), .pointer (some ⟨xt, 0, none⟩)] wq fun e w' => e = .returned (fateV ((mvF ArA ArB) ((c, s), (c, s))))/\Kp wq w' Nul := fun wq kq => ofMove1_at xf xt ArA ArB HLn.out ((c, s), (c, s)) wq (HIV.out.kept.kp kq)
  clear hcont hV hW2 hWV
  cases hR : (mvF ArA ArB) ((c, s), (c, s)) with
  | none =>
   rw[hR] at hFr
   have HR : Hid ((mvF ArA ArB) ((c, s), (c, s)) = none) := hR
   have HFr : Hid (∀wq, Kp V wq Nul->Calls Tryz.prog 103 #[.agg #[.int .i64 c, .int .i64 s, .int .i64 c, .int .i64 s], .pointer (some ⟨xf, 0, none⟩), .pointer (some ⟨xt, 0, none⟩)] wq fun e w' => e = .returned (.tuple #[.agg #[.int .i64 0, .int .i64 0, .int .i64 0, .int .i64 0], .bool false])/\Kp wq w' Nul) := hFr
   clear hR hFr
   gi_wp2_with (fail)
   refine regIn_noPanic ?_
   refine regIn_held (fun w' : World => Kp V w' Nul) (by kernel_rfl) (by kernel_rfl) (noPanic_lets (fun a w h => Exit.noConfusion (And.left h))) ((Kp.refl _ _).drew) (fun hHeld => ?_)
   refine wpH_takes (i := 0) (v := ?_) (some 16) rfl rfl (by kernel_rfl) (fun _ _ _ h => h) (Or.inl ⟨by rfl, ?_⟩) hHeld ?_
   rotate_left
   ·intro w' hSw; clear hSw; go_simp; try with_reducible rfl
   simp only[Act.put,Sz0,Sz1,Sz2]
   refine wpH_takes (i := 1) (v := ?_) (some 17) rfl rfl (by kernel_rfl) (fun _ _ _ h => h) (Or.inl ⟨by rfl, ?_⟩) hHeld ?_
   rotate_left
   ·intro w' hSw; have s0 := (HFb.out.kp hSw (fun x => x)).cell (i := 0) rfl; have s1 := (HbA.out.kp hSw (fun x => x)).cell (i := 0) rfl; have s2 := (HbA.out.kp hSw (fun x => x)).cell (i := 1) rfl; clear hSw; go_simp; try with_reducible rfl
   simp only[Act.put,Sz0,Sz1,Sz2]
   refine wpH_takes (i := 2) (v := ?_) (some 18) rfl rfl (by kernel_rfl) (fun _ _ _ h => h) (Or.inl ⟨by rfl, ?_⟩) hHeld ?_
   rotate_left
   ·intro w' hSw; have s0 := (HFb.out.kp hSw (fun x => x)).cell (i := 0) rfl; have s1 := (HbA.out.kp hSw (fun x => x)).cell (i := 0) rfl; have s2 := (HbA.out.kp hSw (fun x => x)).cell (i := 1) rfl; clear hSw; go_simp; try with_reducible rfl
   simp only[Act.put,Sz0,Sz1,Sz2]
   refine wpAnyH_all (rs := [3, 8]) (by kernel_rfl) (by simp) (fun j hj => ?_)
   rcases List.mem_cons.1 hj with rfl | hj
   ·clear hj
    refine wpH_at (i := 3) rfl rfl (fun K hK => ?_)
    go_simp
    refine(HA.out c s _).mono ?_
    rintro e wA ⟨rfl, hkA⟩
    have hHA := hHeld.trans hkA
    refine hK.out _ _ hHA (fun hHeld => ?_)
    clear hK K hkA hHA
    (try simp only[Act.put,Sz0,Sz1,Sz2])
    refine wpAnyH_all (rs := [4, 8]) (by kernel_rfl) (by simp) (fun j hj => ?_)
    rcases List.mem_cons.1 hj with rfl | hj
    ·clear hj
     refine wpH_at (i := 4) rfl rfl (fun K hK => ?_)
     go_simp
     refine(HFr.out _ hHeld).mono ?_
     rintro e wB ⟨rfl, hkB⟩
     have hHB := hHeld.trans hkB
     refine hK.out _ _ hHB (fun hHeld => ?_)
     clear hK K hkB hHB
     (try simp only[Act.put,Sz0,Sz1,Sz2])
     refine wpH_takes (i := 5) (v := ?_) (some 15) rfl rfl (by kernel_rfl) (fun _ _ _ h => h) (Or.inl ⟨by rfl, ?_⟩) hHeld ?_
     rotate_left
     ·intro w' hSw; clear hSw; go_simp; try with_reducible rfl
     (try simp only[Act.put,Sz0,Sz1,Sz2])
     refine wpH_takes (i := 6) (v := ?_) (some 21) rfl rfl (by kernel_rfl) (fun _ _ _ h => h) (Or.inl ⟨by rfl, ?_⟩) hHeld ?_
     rotate_left
     ·intro w' hSw; clear hSw; go_simp; try with_reducible rfl
     (try simp only[Act.put,Sz0,Sz1,Sz2])
     refine wpH_takes (i := 7) (v := ?_) (some 22) rfl rfl (by kernel_rfl) (fun _ _ _ h => h) (Or.inl ⟨by rfl, ?_⟩) hHeld ?_
     rotate_left
     ·intro w' hSw; clear hSw; go_simp; try with_reducible rfl
     (try simp only[Act.put,Sz0,Sz1,Sz2])
     refine wpH_step (i := 8) (by kernel_rfl) rfl rfl (fun K hK => ?_)
     go_simp
     obtain⟨P, hP⟩ : ∃P, wB.heap.size = P := ⟨_, rfl⟩
     have HPg : Hid (V.heap.size<=P) := by show _<=_; rw[<- hP]; exact hHeld.size
     have HX0 : Hid (Blk (wB.alloc (.cells #[.int .i64 0, .int .i64 0, .int .i64 0, .int .i64 0] 34)) P [.int .i64 0, .int .i64 0, .int .i64 0, .int .i64 0] 34) := by show Blk _ _ _ _; rw[<- hP]; exact Blk.new _ _ _
     rw[hP]
     clear hP
     obtain⟨wP, hwP⟩ : ∃wP, wB.alloc (.cells #[.int .i64 0, .int .i64 0, .int .i64 0, .int .i64 0] 34) = wP := ⟨_, rfl⟩
     have hHP : Kp V wP Nul := by rw[<- hwP]; exact hHeld.alloc _
     rw[hwP] at HX0 ⊢
     clear hwP
     have HP3 : Hid (Blk wP P [.int .i64 0, .int .i64 0, .int .i64 0, .int .i64 0] 34) := HX0.out
     refine hK.out _ _ hHP (fun hHeld => ?_)
     clear hK K hHP HX0
     (try simp only[Act.put,Sz0,Sz1,Sz2])
     refine wpH_step (i := 9) (by kernel_rfl) rfl rfl (fun K hK => ?_)
     refine wp_store_blk 34 (.tmp 8) (.tmp 21) rfl P [.int .i64 0, .int .i64 0, .int .i64 0, .int .i64 0] [.int .i64 0, .int .i64 0, .int .i64 0, .int .i64 0] 34 HP3.out rfl rfl rfl infoArea (ints4 _ _ _ _) ?_
     intro w9 hb9 hk9
     have HP9 : Hid (Blk w9 P [.int .i64 0, .int .i64 0, .int .i64 0, .int .i64 0] 34) := hb9
     have hH9 : Kp V w9 Nul := hHeld.trans' hk9 (fun i hi e => by have e' : i = P := e; have := HPg.out; omega)
     have HK9 : Hid (Kp V w9 Nul) := hH9
     refine hK.out _ _ hH9 (fun hHeld => ?_)
     clear hK K hb9 hk9 hH9
     (try simp only[Act.put, List.setIfInBounds_toArray])
     refine wpH_takes (i := 10) (v := ?_) (some 9) rfl rfl (by kernel_rfl) (fun _ _ _ h => h) (Or.inl ⟨by rfl, ?_⟩) hHeld ?_
     rotate_left
     ·intro w' hSw; clear hSw; go_simp; try with_reducible rfl
     (try simp only[Act.put])
     refine wpAnyH_done (by kernel_rfl) ?_ _
     refine NoPanic.normal ?_
     clear hHeld
     have HI9 : Hid (BrI (mvF ArA ArB) w w3.heap.size xf xt ArA ArB g2 K k Z w9 M) := HIV.out.nul HK9.out
     have HL9 : Hid (Blk w9 (w.heap.size + 1 + 1) [.bool (lostB (mvF ArA ArB) (K.take k))] 4) := HI9.out.lo
     gi_wp2_with (first | (refine storeIn_var rfl 4 (.tmp 5) (.const (.bool true)) rfl (w.heap.size + 1 + 1) rfl (.bool true) rfl rfl 4 (.bool (lostB (mvF ArA ArB) (K.take k))) HL9.out (by kernel_rfl) ?_; intro X hbX hkX) | fail)
     have HEND := HI9.out.lose HKk.out HR.out hkX hbX
     have HKX : Kp V X (fun i => (Z i∨i∈fp)∨W.heap.size<=i) := (HK9.out.mono (fun _ _ q => q.elim)).trans (hkX.mono (fun i _ e => .inl (.inl (by rw[show i = (w.heap.size + 1 + 1) from e]; exact HI9.out.z2))))
     first
     | exact⟨rfl, HKX, Z, ⟨M, HEND⟩, fun i hi => .inl hi⟩
     | exact⟨HKX, Z, ⟨M, HEND⟩, fun i hi => .inl hi⟩
    ·obtain rfl := List.mem_singleton.1 hj
     clear hj
     refine wpH_at (i := 8) rfl rfl (fun K hK => ?_)
     go_simp
     obtain⟨P, hP⟩ : ∃P, wA.heap.size = P := ⟨_, rfl⟩
     have HPg : Hid (V.heap.size<=P) := by show _<=_; rw[<- hP]; exact hHeld.size
     have HX0 : Hid (Blk (wA.alloc (.cells #[.int .i64 0, .int .i64 0, .int .i64 0, .int .i64 0] 34)) P [.int .i64 0, .int .i64 0, .int .i64 0, .int .i64 0] 34) := by show Blk _ _ _ _; rw[<- hP]; exact Blk.new _ _ _
     rw[hP]
     clear hP
     obtain⟨wP, hwP⟩ : ∃wP, wA.alloc (.cells #[.int .i64 0, .int .i64 0, .int .i64 0, .int .i64 0] 34) = wP := ⟨_, rfl⟩
     have hHP : Kp V wP Nul := by rw[<- hwP]; exact hHeld.alloc _
     rw[hwP] at HX0 ⊢
     clear hwP
     have HP1 : Hid (Blk wP P [.int .i64 0, .int .i64 0, .int .i64 0, .int .i64 0] 34) := HX0.out
     refine hK.out _ _ hHP (fun hHeld => ?_)
     clear hK K hHP HX0
     (try simp only[Act.put,Sz0,Sz1,Sz2])
     refine wpH_step (i := 4) (by kernel_rfl) rfl rfl (fun K hK => ?_)
     go_simp
     refine(HFr.out _ hHeld).mono ?_
     rintro e wB ⟨rfl, hkB⟩
     have hHB := hHeld.trans hkB
     have HP2 : Hid (Blk wB P [.int .i64 0, .int .i64 0, .int .i64 0, .int .i64 0] 34) := HP1.out.kp hkB (fun x => x)
     refine hK.out _ _ hHB (fun hHeld => ?_)
     clear hK K hkB hHB
     (try simp only[Act.put,Sz0,Sz1,Sz2])
     refine wpH_takes (i := 5) (v := ?_) (some 15) rfl rfl (by kernel_rfl) (fun _ _ _ h => h) (Or.inl ⟨by rfl, ?_⟩) hHeld ?_
     rotate_left
     ·intro w' hSw; clear hSw; go_simp; try with_reducible rfl
     (try simp only[Act.put,Sz0,Sz1,Sz2])
     refine wpH_takes (i := 6) (v := ?_) (some 21) rfl rfl (by kernel_rfl) (fun _ _ _ h => h) (Or.inl ⟨by rfl, ?_⟩) hHeld ?_
     rotate_left
     ·intro w' hSw; clear hSw; go_simp; try with_reducible rfl
     (try simp only[Act.put,Sz0,Sz1,Sz2])
     refine wpH_takes (i := 7) (v := ?_) (some 22) rfl rfl (by kernel_rfl) (fun _ _ _ h => h) (Or.inl ⟨by rfl, ?_⟩) hHeld ?_
     rotate_left
     ·intro w' hSw; clear hSw; go_simp; try with_reducible rfl
     (try simp only[Act.put,Sz0,Sz1,Sz2])
     refine wpH_step (i := 9) (by kernel_rfl) rfl rfl (fun K hK => ?_)
     refine wp_store_blk 34 (.tmp 8) (.tmp 21) rfl P [.int .i64 0, .int .i64 0, .int .i64 0, .int .i64 0] [.int .i64 0, .int .i64 0, .int .i64 0, .int .i64 0] 34 HP2.out rfl rfl rfl infoArea (ints4 _ _ _ _) ?_
     intro w9 hb9 hk9
     have HP9 : Hid (Blk w9 P [.int .i64 0, .int .i64 0, .int .i64 0, .int .i64 0] 34) := hb9
     have hH9 : Kp V w9 Nul := hHeld.trans' hk9 (fun i hi e => by have e' : i = P := e; have := HPg.out; omega)
     have HK9 : Hid (Kp V w9 Nul) := hH9
     refine hK.out _ _ hH9 (fun hHeld => ?_)
     clear hK K hb9 hk9 hH9
     (try simp only[Act.put, List.setIfInBounds_toArray])
     refine wpH_takes (i := 10) (v := ?_) (some 9) rfl rfl (by kernel_rfl) (fun _ _ _ h => h) (Or.inl ⟨by rfl, ?_⟩) hHeld ?_
     rotate_left
     ·intro w' hSw; clear hSw; go_simp; try with_reducible rfl
     (try simp only[Act.put])
     refine wpAnyH_done (by kernel_rfl) ?_ _
     refine NoPanic.normal ?_
     clear hHeld
     have HI9 : Hid (BrI (mvF ArA ArB) w w3.heap.size xf xt ArA ArB g2 K k Z w9 M) := HIV.out.nul HK9.out
     have HL9 : Hid (Blk w9 (w.heap.size + 1 + 1) [.bool (lostB (mvF ArA ArB) (K.take k))] 4) := HI9.out.lo
     gi_wp2_with (first | (refine storeIn_var rfl 4 (.tmp 5) (.const (.bool true)) rfl (w.heap.size + 1 + 1) rfl (.bool true) rfl rfl 4 (.bool (lostB (mvF ArA ArB) (K.take k))) HL9.out (by kernel_rfl) ?_; intro X hbX hkX) | fail)
     have HEND := HI9.out.lose HKk.out HR.out hkX hbX
     have HKX : Kp V X (fun i => (Z i∨i∈fp)∨W.heap.size<=i) := (HK9.out.mono (fun _ _ q => q.elim)).trans (hkX.mono (fun i _ e => .inl (.inl (by rw[show i = (w.heap.size + 1 + 1) from e]; exact HI9.out.z2))))
     first
     | exact⟨rfl, HKX, Z, ⟨M, HEND⟩, fun i hi => .inl hi⟩
     | exact⟨HKX, Z, ⟨M, HEND⟩, fun i hi => .inl hi⟩
   ·obtain rfl := List.mem_singleton.1 hj
    clear hj
    refine wpH_at (i := 8) rfl rfl (fun K hK => ?_)
    go_simp
    obtain⟨P, hP⟩ : ∃P, V.heap.size = P := ⟨_, rfl⟩
    have HPg : Hid (V.heap.size<=P) := by show _<=_; rw[<- hP]; exact Nat.le_refl _
    have HX0 : Hid (Blk ((V.alloc (.cells #[.int .i64 0, .int .i64 0, .int .i64 0, .int .i64 0] 34)).drew) P [.int .i64 0, .int .i64 0, .int .i64 0, .int .i64 0] 34) := by show Blk _ _ _ _; rw[<- hP]; exact(Blk.new V _ _).drewN 1
    rw[hP]
    clear hP
    obtain⟨wP, hwP⟩ : ∃wP, (V.alloc (.cells #[.int .i64 0, .int .i64 0, .int .i64 0, .int .i64 0] 34)).drew = wP := ⟨_, rfl⟩
    have hHP : Kp V wP Nul := by rw[<- hwP]; exact((Kp.refl V Nul).alloc _).drew
    rw[hwP] at HX0 ⊢
    clear hwP
    have HP0 : Hid (Blk wP P [.int .i64 0, .int .i64 0, .int .i64 0, .int .i64 0] 34) := HX0.out
    refine hK.out _ _ hHP (fun hHeld => ?_)
    clear hK K hHP HX0
    (try simp only[Act.put,Sz0,Sz1,Sz2])
    refine wpH_step (i := 3) (by kernel_rfl) rfl rfl (fun K hK => ?_)
    go_simp
    refine(HA.out c s _).mono ?_
    rintro e wA ⟨rfl, hkA⟩
    have hHA := hHeld.trans hkA
    have HP1 : Hid (Blk wA P [.int .i64 0, .int .i64 0, .int .i64 0, .int .i64 0] 34) := HP0.out.kp hkA (fun x => x)
    refine hK.out _ _ hHA (fun hHeld => ?_)
    clear hK K hkA hHA
    (try simp only[Act.put,Sz0,Sz1,Sz2])
    refine wpH_step (i := 4) (by kernel_rfl) rfl rfl (fun K hK => ?_)
    go_simp
    refine(HFr.out _ hHeld).mono ?_
    rintro e wB ⟨rfl, hkB⟩
    have hHB := hHeld.trans hkB
    have HP2 : Hid (Blk wB P [.int .i64 0, .int .i64 0, .int .i64 0, .int .i64 0] 34) := HP1.out.kp hkB (fun x => x)
    refine hK.out _ _ hHB (fun hHeld => ?_)
    clear hK K hkB hHB
    (try simp only[Act.put,Sz0,Sz1,Sz2])
    refine wpH_takes (i := 5) (v := ?_) (some 15) rfl rfl (by kernel_rfl) (fun _ _ _ h => h) (Or.inl ⟨by rfl, ?_⟩) hHeld ?_
    rotate_left
    ·intro w' hSw; clear hSw; go_simp; try with_reducible rfl
    (try simp only[Act.put,Sz0,Sz1,Sz2])
    refine wpH_takes (i := 6) (v := ?_) (some 21) rfl rfl (by kernel_rfl) (fun _ _ _ h => h) (Or.inl ⟨by rfl, ?_⟩) hHeld ?_
    rotate_left
    ·intro w' hSw; clear hSw; go_simp; try with_reducible rfl
    (try simp only[Act.put,Sz0,Sz1,Sz2])
    refine wpH_takes (i := 7) (v := ?_) (some 22) rfl rfl (by kernel_rfl) (fun _ _ _ h => h) (Or.inl ⟨by rfl, ?_⟩) hHeld ?_
    rotate_left
    ·intro w' hSw; clear hSw; go_simp; try with_reducible rfl
    (try simp only[Act.put,Sz0,Sz1,Sz2])
    refine wpH_step (i := 9) (by kernel_rfl) rfl rfl (fun K hK => ?_)
    refine wp_store_blk 34 (.tmp 8) (.tmp 21) rfl P [.int .i64 0, .int .i64 0, .int .i64 0, .int .i64 0] [.int .i64 0, .int .i64 0, .int .i64 0, .int .i64 0] 34 HP2.out rfl rfl rfl infoArea (ints4 _ _ _ _) ?_
    intro w9 hb9 hk9
    have HP9 : Hid (Blk w9 P [.int .i64 0, .int .i64 0, .int .i64 0, .int .i64 0] 34) := hb9
    have hH9 : Kp V w9 Nul := hHeld.trans' hk9 (fun i hi e => by have e' : i = P := e; have := HPg.out; omega)
    have HK9 : Hid (Kp V w9 Nul) := hH9
    refine hK.out _ _ hH9 (fun hHeld => ?_)
    clear hK K hb9 hk9 hH9
    (try simp only[Act.put, List.setIfInBounds_toArray])
    refine wpH_takes (i := 10) (v := ?_) (some 9) rfl rfl (by kernel_rfl) (fun _ _ _ h => h) (Or.inl ⟨by rfl, ?_⟩) hHeld ?_
    rotate_left
    ·intro w' hSw; clear hSw; go_simp; try with_reducible rfl
    (try simp only[Act.put])
    refine wpAnyH_done (by kernel_rfl) ?_ _
    refine NoPanic.normal ?_
    clear hHeld
    have HI9 : Hid (BrI (mvF ArA ArB) w w3.heap.size xf xt ArA ArB g2 K k Z w9 M) := HIV.out.nul HK9.out
    have HL9 : Hid (Blk w9 (w.heap.size + 1 + 1) [.bool (lostB (mvF ArA ArB) (K.take k))] 4) := HI9.out.lo
    gi_wp2_with (first | (refine storeIn_var rfl 4 (.tmp 5) (.const (.bool true)) rfl (w.heap.size + 1 + 1) rfl (.bool true) rfl rfl 4 (.bool (lostB (mvF ArA ArB) (K.take k))) HL9.out (by kernel_rfl) ?_; intro X hbX hkX) | fail)
    have HEND := HI9.out.lose HKk.out HR.out hkX hbX
    have HKX : Kp V X (fun i => (Z i∨i∈fp)∨W.heap.size<=i) := (HK9.out.mono (fun _ _ q => q.elim)).trans (hkX.mono (fun i _ e => .inl (.inl (by rw[show i = (w.heap.size + 1 + 1) from e]; exact HI9.out.z2))))
    first
    | exact⟨rfl, HKX, Z, ⟨M, HEND⟩, fun i hi => .inl hi⟩
    | exact⟨HKX, Z, ⟨M, HEND⟩, fun i hi => .inl hi⟩
  | some b =>
   obtain⟨⟨b1, s1⟩, ⟨b2, s2⟩⟩ := b
   rw[hR] at hFr
   have HR : Hid ((mvF ArA ArB) ((c, s), (c, s)) = some ((b1, s1), (b2, s2))) := hR
   have HFr : Hid (∀wq, Kp V wq Nul->Calls Tryz.prog 103 #[.agg #[.int .i64 c, .int .i64 s, .int .i64 c, .int .i64 s], .pointer (some ⟨xf, 0, none⟩), .pointer (some ⟨xt, 0, none⟩)] wq fun e w' => e = .returned (.tuple #[.agg #[.int .i64 b1, .int .i64 s1, .int .i64 b2, .int .i64 s2], .bool true])/\Kp wq w' Nul) := hFr
   clear hR hFr
   gi_wp2_with (fail)
   refine regIn_noPanic ?_
   refine regIn_held (fun w' : World => Kp V w' Nul) (by kernel_rfl) (by kernel_rfl) (noPanic_lets (fun a w h => Exit.noConfusion (And.left h))) ((Kp.refl _ _).drew) (fun hHeld => ?_)
   refine wpH_takes (i := 0) (v := ?_) (some 16) rfl rfl (by kernel_rfl) (fun _ _ _ h => h) (Or.inl ⟨by rfl, ?_⟩) hHeld ?_
   rotate_left
   ·intro w' hSw; clear hSw; go_simp; try with_reducible rfl
   simp only[Act.put,Sz0,Sz1,Sz2]
   refine wpH_takes (i := 1) (v := ?_) (some 17) rfl rfl (by kernel_rfl) (fun _ _ _ h => h) (Or.inl ⟨by rfl, ?_⟩) hHeld ?_
   rotate_left
   ·intro w' hSw; have s0 := (HFb.out.kp hSw (fun x => x)).cell (i := 0) rfl; have s1 := (HbA.out.kp hSw (fun x => x)).cell (i := 0) rfl; have s2 := (HbA.out.kp hSw (fun x => x)).cell (i := 1) rfl; clear hSw; go_simp; try with_reducible rfl
   simp only[Act.put,Sz0,Sz1,Sz2]
   refine wpH_takes (i := 2) (v := ?_) (some 18) rfl rfl (by kernel_rfl) (fun _ _ _ h => h) (Or.inl ⟨by rfl, ?_⟩) hHeld ?_
   rotate_left
   ·intro w' hSw; have s0 := (HFb.out.kp hSw (fun x => x)).cell (i := 0) rfl; have s1 := (HbA.out.kp hSw (fun x => x)).cell (i := 0) rfl; have s2 := (HbA.out.kp hSw (fun x => x)).cell (i := 1) rfl; clear hSw; go_simp; try with_reducible rfl
   simp only[Act.put,Sz0,Sz1,Sz2]
   refine wpAnyH_all (rs := [3, 8]) (by kernel_rfl) (by simp) (fun j hj => ?_)
   rcases List.mem_cons.1 hj with rfl | hj
   ·clear hj
    refine wpH_at (i := 3) rfl rfl (fun K hK => ?_)
    go_simp
    refine(HA.out c s _).mono ?_
    rintro e wA ⟨rfl, hkA⟩
    have hHA := hHeld.trans hkA
    refine hK.out _ _ hHA (fun hHeld => ?_)
    clear hK K hkA hHA
    (try simp only[Act.put,Sz0,Sz1,Sz2])
    refine wpAnyH_all (rs := [4, 8]) (by kernel_rfl) (by simp) (fun j hj => ?_)
    rcases List.mem_cons.1 hj with rfl | hj
    ·clear hj
     refine wpH_at (i := 4) rfl rfl (fun K hK => ?_)
     go_simp
     refine(HFr.out _ hHeld).mono ?_
     rintro e wB ⟨rfl, hkB⟩
     have hHB := hHeld.trans hkB
     refine hK.out _ _ hHB (fun hHeld => ?_)
     clear hK K hkB hHB
     (try simp only[Act.put,Sz0,Sz1,Sz2])
     refine wpH_takes (i := 5) (v := ?_) (some 15) rfl rfl (by kernel_rfl) (fun _ _ _ h => h) (Or.inl ⟨by rfl, ?_⟩) hHeld ?_
     rotate_left
     ·intro w' hSw; clear hSw; go_simp; try with_reducible rfl
     (try simp only[Act.put,Sz0,Sz1,Sz2])
     refine wpH_takes (i := 6) (v := ?_) (some 21) rfl rfl (by kernel_rfl) (fun _ _ _ h => h) (Or.inl ⟨by rfl, ?_⟩) hHeld ?_
     rotate_left
     ·intro w' hSw; clear hSw; go_simp; try with_reducible rfl
     (try simp only[Act.put,Sz0,Sz1,Sz2])
     refine wpH_takes (i := 7) (v := ?_) (some 22) rfl rfl (by kernel_rfl) (fun _ _ _ h => h) (Or.inl ⟨by rfl, ?_⟩) hHeld ?_
     rotate_left
     ·intro w' hSw; clear hSw; go_simp; try with_reducible rfl
     (try simp only[Act.put,Sz0,Sz1,Sz2])
     refine wpH_step (i := 8) (by kernel_rfl) rfl rfl (fun K hK => ?_)
     go_simp
     obtain⟨P, hP⟩ : ∃P, wB.heap.size = P := ⟨_, rfl⟩
     have HPg : Hid (V.heap.size<=P) := by show _<=_; rw[<- hP]; exact hHeld.size
     have HX0 : Hid (Blk (wB.alloc (.cells #[.int .i64 0, .int .i64 0, .int .i64 0, .int .i64 0] 34)) P [.int .i64 0, .int .i64 0, .int .i64 0, .int .i64 0] 34) := by show Blk _ _ _ _; rw[<- hP]; exact Blk.new _ _ _
     rw[hP]
     clear hP
     obtain⟨wP, hwP⟩ : ∃wP, wB.alloc (.cells #[.int .i64 0, .int .i64 0, .int .i64 0, .int .i64 0] 34) = wP := ⟨_, rfl⟩
     have hHP : Kp V wP Nul := by rw[<- hwP]; exact hHeld.alloc _
     rw[hwP] at HX0 ⊢
     clear hwP
     have HP3 : Hid (Blk wP P [.int .i64 0, .int .i64 0, .int .i64 0, .int .i64 0] 34) := HX0.out
     refine hK.out _ _ hHP (fun hHeld => ?_)
     clear hK K hHP HX0
     (try simp only[Act.put,Sz0,Sz1,Sz2])
     refine wpH_step (i := 9) (by kernel_rfl) rfl rfl (fun K hK => ?_)
     refine wp_store_blk 34 (.tmp 8) (.tmp 21) rfl P [.int .i64 0, .int .i64 0, .int .i64 0, .int .i64 0] [.int .i64 b1, .int .i64 s1, .int .i64 b2, .int .i64 s2] 34 HP3.out rfl rfl rfl infoArea (ints4 _ _ _ _) ?_
     intro w9 hb9 hk9
     have HP9 : Hid (Blk w9 P [.int .i64 b1, .int .i64 s1, .int .i64 b2, .int .i64 s2] 34) := hb9
     have hH9 : Kp V w9 Nul := hHeld.trans' hk9 (fun i hi e => by have e' : i = P := e; have := HPg.out; omega)
     have HK9 : Hid (Kp V w9 Nul) := hH9
     refine hK.out _ _ hH9 (fun hHeld => ?_)
     clear hK K hb9 hk9 hH9
     (try simp only[Act.put, List.setIfInBounds_toArray])
     refine wpH_takes (i := 10) (v := ?_) (some 9) rfl rfl (by kernel_rfl) (fun _ _ _ h => h) (Or.inl ⟨by rfl, ?_⟩) hHeld ?_
     rotate_left
     ·intro w' hSw; clear hSw; go_simp; try with_reducible rfl
     (try simp only[Act.put])
     refine wpAnyH_done (by kernel_rfl) ?_ _
     refine NoPanic.normal ?_
     clear hHeld
     have HbC9 : Hid (Blk w9 (W.heap.size + 1) ([.int .i64 a.k, .int .i64 a.v.k, .float .f64 a.v.x, .string a.v.s, .bool a.v.b, .int .i64 a.v.f]++a.t.hd.cells sl++[]) 50) := HbC.out.kp HK9.out (fun x => x)
     have HRg9 : Hid (w9.rangeAt (W.heap.size + 1) 6 (a.t.hd.cells sl)) := rangeAt_mid HbC9.out
     have HAl : Hid (Calls Tryz.prog 106 #[.agg #[fateM xf xt], a.t.hd.val sl] w9 fun e w' => ∃sl' fp', e = .returned ((alN (mvF ArA ArB) a.t).hd.val sl')/\AlR (mvF ArA ArB) a.t fp w9 w' sl' fp') := along_at xf xt ArA ArB HLn.out a.t sl fp w9 (HOwnV.out.mono (fun i hi => HK9.out.block i (node_lt (HOwnV.out.node i hi)) (fun x => x))) HNd.out (HIV.out.nul HK9.out).kept
     have f9 : w9.cell? ⟨w.heap.size, 0, none⟩ = some (fateM xf xt) := (HIV.out.nul HK9.out).fb.cell rfl
     have HI9 : Hid (BrI (mvF ArA ArB) w w3.heap.size xf xt ArA ArB g2 K k Z w9 M) := HIV.out.nul HK9.out
     gi_wp2_with (first | (refine loadIn_row rfl 48 (.tmp 26) rfl (W.heap.size + 1) 6 rfl (a.t.hd.cells sl) _ HRg9.out Tryz.underlying48 rfl infoNode ?_) | fail)
     refine⟨trivial, (callsIn_wide.2 HAl.out).mono ?_⟩
     rintro e wB ⟨sl', fp', rfl, hRR⟩
     have HRR : Hid (AlR (mvF ArA ArB) a.t fp w9 wB sl' fp') := hRR
     have hA2f : ∀i∈fp, i<W.heap.size := fun i hi => node_lt (HOwn.out.node i hi)
     have HbCB : Hid (Blk wB (W.heap.size + 1) ([.int .i64 a.k, .int .i64 a.v.k, .float .f64 a.v.x, .string a.v.s, .bool a.v.b, .int .i64 a.v.f]++a.t.hd.cells sl++[]) 50) := HbC9.out.kp hRR.kp (fun e => by have := hA2f _ e; omega)
     have HIB : Hid (BrI (mvF ArA ArB) w w3.heap.size xf xt ArA ArB g2 K k Z wB M) := HI9.out.far hRR.kp (fun i hi e => (HFz.out i e).2 hi) (fun i hi e => by have := (HFz.out i e).1; omega)
     have O5 : Hid (sl'.oneCell' = true) := hRR.own.one
     clear hRR f9
     gi_wp2_with (first | (refine storeIn_part rfl 48 (.tmp 29) (.tmp 28) rfl (W.heap.size + 1) 6 [.int .i64 a.k, .int .i64 a.v.k, .float .f64 a.v.x, .string a.v.s, .bool a.v.b, .int .i64 a.v.f] (a.t.hd.cells sl) [] ((alN (mvF ArA ArB) a.t).hd.cells sl') 50 HbCB.out rfl rfl rfl rfl infoNode (Hd.one (alN (mvF ArA ArB) a.t).hd O5.out) ?_; intro wC hbC hkC; have g0 : wC.cell? ⟨(w.heap.size + 1), 0, none⟩ = some (.pointer (some ⟨g2, 0, none⟩)) := (HIB.out.oth.kp hkC (by show ¬(w.heap.size + 1) = (W.heap.size + 1); have := HSW.out; have := HIB.out.hB; omega)).cell rfl; have g1 : wC.cell? ⟨P, 0, none⟩ = some (.int .i64 b1) := ((HP9.out.kp HRR.out.kp (fun e => by have := hA2f _ e; have := HPg.out; have := HVW.out; omega)).kp hkC (by show ¬P = (W.heap.size + 1); have := HPg.out; have := HVW.out; omega)).cell rfl; have g2' : wC.cell? ⟨P, 1, none⟩ = some (.int .i64 s1) := ((HP9.out.kp HRR.out.kp (fun e => by have := hA2f _ e; have := HPg.out; have := HVW.out; omega)).kp hkC (by show ¬P = (W.heap.size + 1); have := HPg.out; have := HVW.out; omega)).cell rfl; have HbCC : Hid (Blk wC (W.heap.size + 1) ((alC (mvF ArA ArB) a).cells sl') 50) := hbC) | (refine loadIn_content rfl (.tmp 7) rfl (W.heap.size + 1) rfl ((alC (mvF ArA ArB) a).cells sl').toArray HbCC.out rfl ?_) | fail)
     have kCV : Kp wB wC (fun i => i = (W.heap.size + 1)) := hkC
     have HIC : Hid (BrI (mvF ArA ArB) w w3.heap.size xf xt ArA ArB g2 K k Z wC M) := HIB.out.far kCV (fun i hi e => by have e' : i = (W.heap.size + 1) := e; have := (HI.out.zl i hi).1; omega) (fun i hi e => by have e' : i = (W.heap.size + 1) := e; have := HSW.out; omega)
     have hgd := alC_gd (mvF_ok HLn.out) (HOk.out.gd _ ((HKm.out _).1 (List.mem_of_getElem? HKk.out)))
     have hin : NdIn wC (fun _ => True) sl' (alC (mvF ArA ArB) a).t := (HRR.out.own.mono (fun i hi => kCV.block i (node_lt (HRR.out.own.node i hi)) (fun e => by have e' : i = (W.heap.size + 1) := e; have := hA2f i (HRR.out.sub.subset hi); omega))).isIn (fun _ _ => trivial)
     refine⟨trivial, (callsIn_wide.2 (put_any (fun i => (Z i/\i≠(w.heap.size + 1 + 1))∨wC.heap.size<=i) g2 b1 s1 (alC (mvF ArA ArB) a) sl' (fun _ => True) M wC (HIC.out.gi.mono (fun i hi => .inl hi)) (fun i hi => .inr hi) HIC.out.ok hgd.ok hgd.x hgd.size hin (HV.out.kp HIC.out.kp))).mono ?_⟩
     rintro e X ⟨er, M', rfl, h1, h2, h3⟩
     have hsz : w3.heap.size + 2<=wC.heap.size := by have := HSW.out; have := HbCC.out.lt; omega
     obtain⟨Z', hB', hZ'⟩ := HIC.out.put (mvF_ok HLn.out) (mvF_inj HLn.out) HKk.out HR.out HKs.out HKl.out (fun y hy => HOk.out.at' _ ((HKm.out _).1 hy)) (fun y hy => HOk.out.gd _ ((HKm.out _).1 hy)) hsz h1 h2 h3
     have HKX : Hid (Kp V X (fun i => (Z i∨i∈fp)∨W.heap.size<=i)) := (((HK9.out.mono (fun _ _ q => q.elim)).trans (HRR.out.kp.mono (fun i _ e => .inl (.inr e)))).trans (kCV.mono (fun i _ e => .inr (by have e' : i = (W.heap.size + 1) := e; omega)))).trans (h3.kp.mono (fun i _ e => .inl (.inl (HIC.out.sm e))))
     have HEND : Hid (∃Z', (∃M, BrI (mvF ArA ArB) w w3.heap.size xf xt ArA ArB g2 K (k + 1) Z' X M)/\More Z Z' W) := ⟨Z', ⟨M', hB'⟩, fun i hi => (hZ' i hi).imp id (fun q => by have := HbCC.out.lt; omega)⟩
     clear hB' hZ' h1 h2 h3 hin hgd kCV
     gi_wp2_with (fail)
     first
     | exact⟨rfl, HKX.out, HEND.out⟩
     | exact⟨HKX.out, HEND.out⟩
    ·obtain rfl := List.mem_singleton.1 hj
     clear hj
     refine wpH_at (i := 8) rfl rfl (fun K hK => ?_)
     go_simp
     obtain⟨P, hP⟩ : ∃P, wA.heap.size = P := ⟨_, rfl⟩
     have HPg : Hid (V.heap.size<=P) := by show _<=_; rw[<- hP]; exact hHeld.size
     have HX0 : Hid (Blk (wA.alloc (.cells #[.int .i64 0, .int .i64 0, .int .i64 0, .int .i64 0] 34)) P [.int .i64 0, .int .i64 0, .int .i64 0, .int .i64 0] 34) := by show Blk _ _ _ _; rw[<- hP]; exact Blk.new _ _ _
     rw[hP]
     clear hP
     obtain⟨wP, hwP⟩ : ∃wP, wA.alloc (.cells #[.int .i64 0, .int .i64 0, .int .i64 0, .int .i64 0] 34) = wP := ⟨_, rfl⟩
     have hHP : Kp V wP Nul := by rw[<- hwP]; exact hHeld.alloc _
     rw[hwP] at HX0 ⊢
     clear hwP
     have HP1 : Hid (Blk wP P [.int .i64 0, .int .i64 0, .int .i64 0, .int .i64 0] 34) := HX0.out
     refine hK.out _ _ hHP (fun hHeld => ?_)
     clear hK K hHP HX0
     (try simp only[Act.put,Sz0,Sz1,Sz2])
     refine wpH_step (i := 4) (by kernel_rfl) rfl rfl (fun K hK => ?_)
     go_simp
     refine(HFr.out _ hHeld).mono ?_
     rintro e wB ⟨rfl, hkB⟩
     have hHB := hHeld.trans hkB
     have HP2 : Hid (Blk wB P [.int .i64 0, .int .i64 0, .int .i64 0, .int .i64 0] 34) := HP1.out.kp hkB (fun x => x)
     refine hK.out _ _ hHB (fun hHeld => ?_)
     clear hK K hkB hHB
     (try simp only[Act.put,Sz0,Sz1,Sz2])
     refine wpH_takes (i := 5) (v := ?_) (some 15) rfl rfl (by kernel_rfl) (fun _ _ _ h => h) (Or.inl ⟨by rfl, ?_⟩) hHeld ?_
     rotate_left
     ·intro w' hSw; clear hSw; go_simp; try with_reducible rfl
     (try simp only[Act.put,Sz0,Sz1,Sz2])
     refine wpH_takes (i := 6) (v := ?_) (some 21) rfl rfl (by kernel_rfl) (fun _ _ _ h => h) (Or.inl ⟨by rfl, ?_⟩) hHeld ?_
     rotate_left
     ·intro w' hSw; clear hSw; go_simp; try with_reducible rfl
     (try simp only[Act.put,Sz0,Sz1,Sz2])
     refine wpH_takes (i := 7) (v := ?_) (some 22) rfl rfl (by kernel_rfl) (fun _ _ _ h => h) (Or.inl ⟨by rfl, ?_⟩) hHeld ?_
     rotate_left
     ·intro w' hSw; clear hSw; go_simp; try with_reducible rfl
     (try simp only[Act.put,Sz0,Sz1,Sz2])
     refine wpH_step (i := 9) (by kernel_rfl) rfl rfl (fun K hK => ?_)
     refine wp_store_blk 34 (.tmp 8) (.tmp 21) rfl P [.int .i64 0, .int .i64 0, .int .i64 0, .int .i64 0] [.int .i64 b1, .int .i64 s1, .int .i64 b2, .int .i64 s2] 34 HP2.out rfl rfl rfl infoArea (ints4 _ _ _ _) ?_
     intro w9 hb9 hk9
     have HP9 : Hid (Blk w9 P [.int .i64 b1, .int .i64 s1, .int .i64 b2, .int .i64 s2] 34) := hb9
     have hH9 : Kp V w9 Nul := hHeld.trans' hk9 (fun i hi e => by have e' : i = P := e; have := HPg.out; omega)
     have HK9 : Hid (Kp V w9 Nul) := hH9
     refine hK.out _ _ hH9 (fun hHeld => ?_)
     clear hK K hb9 hk9 hH9
     (try simp only[Act.put, List.setIfInBounds_toArray])
     refine wpH_takes (i := 10) (v := ?_) (some 9) rfl rfl (by kernel_rfl) (fun _ _ _ h => h) (Or.inl ⟨by rfl, ?_⟩) hHeld ?_
     rotate_left
     ·intro w' hSw; clear hSw; go_simp; try with_reducible rfl
     (try simp only[Act.put])
     refine wpAnyH_done (by kernel_rfl) ?_ _
     refine NoPanic.normal ?_
     clear hHeld
     have HbC9 : Hid (Blk w9 (W.heap.size + 1) ([.int .i64 a.k, .int .i64 a.v.k, .float .f64 a.v.x, .string a.v.s, .bool a.v.b, .int .i64 a.v.f]++a.t.hd.cells sl++[]) 50) := HbC.out.kp HK9.out (fun x => x)
     have HRg9 : Hid (w9.rangeAt (W.heap.size + 1) 6 (a.t.hd.cells sl)) := rangeAt_mid HbC9.out
     have HAl : Hid (Calls Tryz.prog 106 #[.agg #[fateM xf xt], a.t.hd.val sl] w9 fun e w' => ∃sl' fp', e = .returned ((alN (mvF ArA ArB) a.t).hd.val sl')/\AlR (mvF ArA ArB) a.t fp w9 w' sl' fp') := along_at xf xt ArA ArB HLn.out a.t sl fp w9 (HOwnV.out.mono (fun i hi => HK9.out.block i (node_lt (HOwnV.out.node i hi)) (fun x => x))) HNd.out (HIV.out.nul HK9.out).kept
     have f9 : w9.cell? ⟨w.heap.size, 0, none⟩ = some (fateM xf xt) := (HIV.out.nul HK9.out).fb.cell rfl
     have HI9 : Hid (BrI (mvF ArA ArB) w w3.heap.size xf xt ArA ArB g2 K k Z w9 M) := HIV.out.nul HK9.out
     gi_wp2_with (first | (refine loadIn_row rfl 48 (.tmp 26) rfl (W.heap.size + 1) 6 rfl (a.t.hd.cells sl) _ HRg9.out Tryz.underlying48 rfl infoNode ?_) | fail)
     refine⟨trivial, (callsIn_wide.2 HAl.out).mono ?_⟩
     rintro e wB ⟨sl', fp', rfl, hRR⟩
     have HRR : Hid (AlR (mvF ArA ArB) a.t fp w9 wB sl' fp') := hRR
     have hA2f : ∀i∈fp, i<W.heap.size := fun i hi => node_lt (HOwn.out.node i hi)
     have HbCB : Hid (Blk wB (W.heap.size + 1) ([.int .i64 a.k, .int .i64 a.v.k, .float .f64 a.v.x, .string a.v.s, .bool a.v.b, .int .i64 a.v.f]++a.t.hd.cells sl++[]) 50) := HbC9.out.kp hRR.kp (fun e => by have := hA2f _ e; omega)
     have HIB : Hid (BrI (mvF ArA ArB) w w3.heap.size xf xt ArA ArB g2 K k Z wB M) := HI9.out.far hRR.kp (fun i hi e => (HFz.out i e).2 hi) (fun i hi e => by have := (HFz.out i e).1; omega)
     have O5 : Hid (sl'.oneCell' = true) := hRR.own.one
     clear hRR f9
     gi_wp2_with (first | (refine storeIn_part rfl 48 (.tmp 29) (.tmp 28) rfl (W.heap.size + 1) 6 [.int .i64 a.k, .int .i64 a.v.k, .float .f64 a.v.x, .string a.v.s, .bool a.v.b, .int .i64 a.v.f] (a.t.hd.cells sl) [] ((alN (mvF ArA ArB) a.t).hd.cells sl') 50 HbCB.out rfl rfl rfl rfl infoNode (Hd.one (alN (mvF ArA ArB) a.t).hd O5.out) ?_; intro wC hbC hkC; have g0 : wC.cell? ⟨(w.heap.size + 1), 0, none⟩ = some (.pointer (some ⟨g2, 0, none⟩)) := (HIB.out.oth.kp hkC (by show ¬(w.heap.size + 1) = (W.heap.size + 1); have := HSW.out; have := HIB.out.hB; omega)).cell rfl; have g1 : wC.cell? ⟨P, 0, none⟩ = some (.int .i64 b1) := ((HP9.out.kp HRR.out.kp (fun e => by have := hA2f _ e; have := HPg.out; have := HVW.out; omega)).kp hkC (by show ¬P = (W.heap.size + 1); have := HPg.out; have := HVW.out; omega)).cell rfl; have g2' : wC.cell? ⟨P, 1, none⟩ = some (.int .i64 s1) := ((HP9.out.kp HRR.out.kp (fun e => by have := hA2f _ e; have := HPg.out; have := HVW.out; omega)).kp hkC (by show ¬P = (W.heap.size + 1); have := HPg.out; have := HVW.out; omega)).cell rfl; have HbCC : Hid (Blk wC (W.heap.size + 1) ((alC (mvF ArA ArB) a).cells sl') 50) := hbC) | (refine loadIn_content rfl (.tmp 7) rfl (W.heap.size + 1) rfl ((alC (mvF ArA ArB) a).cells sl').toArray HbCC.out rfl ?_) | fail)
     have kCV : Kp wB wC (fun i => i = (W.heap.size + 1)) := hkC
     have HIC : Hid (BrI (mvF ArA ArB) w w3.heap.size xf xt ArA ArB g2 K k Z wC M) := HIB.out.far kCV (fun i hi e => by have e' : i = (W.heap.size + 1) := e; have := (HI.out.zl i hi).1; omega) (fun i hi e => by have e' : i = (W.heap.size + 1) := e; have := HSW.out; omega)
     have hgd := alC_gd (mvF_ok HLn.out) (HOk.out.gd _ ((HKm.out _).1 (List.mem_of_getElem? HKk.out)))
     have hin : NdIn wC (fun _ => True) sl' (alC (mvF ArA ArB) a).t := (HRR.out.own.mono (fun i hi => kCV.block i (node_lt (HRR.out.own.node i hi)) (fun e => by have e' : i = (W.heap.size + 1) := e; have := hA2f i (HRR.out.sub.subset hi); omega))).isIn (fun _ _ => trivial)
     refine⟨trivial, (callsIn_wide.2 (put_any (fun i => (Z i/\i≠(w.heap.size + 1 + 1))∨wC.heap.size<=i) g2 b1 s1 (alC (mvF ArA ArB) a) sl' (fun _ => True) M wC (HIC.out.gi.mono (fun i hi => .inl hi)) (fun i hi => .inr hi) HIC.out.ok hgd.ok hgd.x hgd.size hin (HV.out.kp HIC.out.kp))).mono ?_⟩
     rintro e X ⟨er, M', rfl, h1, h2, h3⟩
     have hsz : w3.heap.size + 2<=wC.heap.size := by have := HSW.out; have := HbCC.out.lt; omega
     obtain⟨Z', hB', hZ'⟩ := HIC.out.put (mvF_ok HLn.out) (mvF_inj HLn.out) HKk.out HR.out HKs.out HKl.out (fun y hy => HOk.out.at' _ ((HKm.out _).1 hy)) (fun y hy => HOk.out.gd _ ((HKm.out _).1 hy)) hsz h1 h2 h3
     have HKX : Hid (Kp V X (fun i => (Z i∨i∈fp)∨W.heap.size<=i)) := (((HK9.out.mono (fun _ _ q => q.elim)).trans (HRR.out.kp.mono (fun i _ e => .inl (.inr e)))).trans (kCV.mono (fun i _ e => .inr (by have e' : i = (W.heap.size + 1) := e; omega)))).trans (h3.kp.mono (fun i _ e => .inl (.inl (HIC.out.sm e))))
     have HEND : Hid (∃Z', (∃M, BrI (mvF ArA ArB) w w3.heap.size xf xt ArA ArB g2 K (k + 1) Z' X M)/\More Z Z' W) := ⟨Z', ⟨M', hB'⟩, fun i hi => (hZ' i hi).imp id (fun q => by have := HbCC.out.lt; omega)⟩
     clear hB' hZ' h1 h2 h3 hin hgd kCV
     gi_wp2_with (fail)
     first
     | exact⟨rfl, HKX.out, HEND.out⟩
     | exact⟨HKX.out, HEND.out⟩
   ·obtain rfl := List.mem_singleton.1 hj
    clear hj
    refine wpH_at (i := 8) rfl rfl (fun K hK => ?_)
    go_simp
    obtain⟨P, hP⟩ : ∃P, V.heap.size = P := ⟨_, rfl⟩
    have HPg : Hid (V.heap.size<=P) := by show _<=_; rw[<- hP]; exact Nat.le_refl _
    have HX0 : Hid (Blk ((V.alloc (.cells #[.int .i64 0, .int .i64 0, .int .i64 0, .int .i64 0] 34)).drew) P [.int .i64 0, .int .i64 0, .int .i64 0, .int .i64 0] 34) := by show Blk _ _ _ _; rw[<- hP]; exact(Blk.new V _ _).drewN 1
    rw[hP]
    clear hP
    obtain⟨wP, hwP⟩ : ∃wP, (V.alloc (.cells #[.int .i64 0, .int .i64 0, .int .i64 0, .int .i64 0] 34)).drew = wP := ⟨_, rfl⟩
    have hHP : Kp V wP Nul := by rw[<- hwP]; exact((Kp.refl V Nul).alloc _).drew
    rw[hwP] at HX0 ⊢
    clear hwP
    have HP0 : Hid (Blk wP P [.int .i64 0, .int .i64 0, .int .i64 0, .int .i64 0] 34) := HX0.out
    refine hK.out _ _ hHP (fun hHeld => ?_)
    clear hK K hHP HX0
    (try simp only[Act.put,Sz0,Sz1,Sz2])
    refine wpH_step (i := 3) (by kernel_rfl) rfl rfl (fun K hK => ?_)
    go_simp
    refine(HA.out c s _).mono ?_
    rintro e wA ⟨rfl, hkA⟩
    have hHA := hHeld.trans hkA
    have HP1 : Hid (Blk wA P [.int .i64 0, .int .i64 0, .int .i64 0, .int .i64 0] 34) := HP0.out.kp hkA (fun x => x)
    refine hK.out _ _ hHA (fun hHeld => ?_)
    clear hK K hkA hHA
    (try simp only[Act.put,Sz0,Sz1,Sz2])
    refine wpH_step (i := 4) (by kernel_rfl) rfl rfl (fun K hK => ?_)
    go_simp
    refine(HFr.out _ hHeld).mono ?_
    rintro e wB ⟨rfl, hkB⟩
    have hHB := hHeld.trans hkB
    have HP2 : Hid (Blk wB P [.int .i64 0, .int .i64 0, .int .i64 0, .int .i64 0] 34) := HP1.out.kp hkB (fun x => x)
    refine hK.out _ _ hHB (fun hHeld => ?_)
    clear hK K hkB hHB
    (try simp only[Act.put,Sz0,Sz1,Sz2])
    refine wpH_takes (i := 5) (v := ?_) (some 15) rfl rfl (by kernel_rfl) (fun _ _ _ h => h) (Or.inl ⟨by rfl, ?_⟩) hHeld ?_
    rotate_left
    ·intro w' hSw; clear hSw; go_simp; try with_reducible rfl
    (try simp only[Act.put,Sz0,Sz1,Sz2])
    refine wpH_takes (i := 6) (v := ?_) (some 21) rfl rfl (by kernel_rfl) (fun _ _ _ h => h) (Or.inl ⟨by rfl, ?_⟩) hHeld ?_
    rotate_left
    ·intro w' hSw; clear hSw; go_simp; try with_reducible rfl
    (try simp only[Act.put,Sz0,Sz1,Sz2])
    refine wpH_takes (i := 7) (v := ?_) (some 22) rfl rfl (by kernel_rfl) (fun _ _ _ h => h) (Or.inl ⟨by rfl, ?_⟩) hHeld ?_
    rotate_left
    ·intro w' hSw; clear hSw; go_simp; try with_reducible rfl
    (try simp only[Act.put,Sz0,Sz1,Sz2])
    refine wpH_step (i := 9) (by kernel_rfl) rfl rfl (fun K hK => ?_)
    refine wp_store_blk 34 (.tmp 8) (.tmp 21) rfl P [.int .i64 0, .int .i64 0, .int .i64 0, .int .i64 0] [.int .i64 b1, .int .i64 s1, .int .i64 b2, .int .i64 s2] 34 HP2.out rfl rfl rfl infoArea (ints4 _ _ _ _) ?_
    intro w9 hb9 hk9
    have HP9 : Hid (Blk w9 P [.int .i64 b1, .int .i64 s1, .int .i64 b2, .int .i64 s2] 34) := hb9
    have hH9 : Kp V w9 Nul := hHeld.trans' hk9 (fun i hi e => by have e' : i = P := e; have := HPg.out; omega)
    have HK9 : Hid (Kp V w9 Nul) := hH9
    refine hK.out _ _ hH9 (fun hHeld => ?_)
    clear hK K hb9 hk9 hH9
    (try simp only[Act.put, List.setIfInBounds_toArray])
    refine wpH_takes (i := 10) (v := ?_) (some 9) rfl rfl (by kernel_rfl) (fun _ _ _ h => h) (Or.inl ⟨by rfl, ?_⟩) hHeld ?_
    rotate_left
    ·intro w' hSw; clear hSw; go_simp; try with_reducible rfl
    (try simp only[Act.put])
    refine wpAnyH_done (by kernel_rfl) ?_ _
    refine NoPanic.normal ?_
    clear hHeld
    have HbC9 : Hid (Blk w9 (W.heap.size + 1) ([.int .i64 a.k, .int .i64 a.v.k, .float .f64 a.v.x, .string a.v.s, .bool a.v.b, .int .i64 a.v.f]++a.t.hd.cells sl++[]) 50) := HbC.out.kp HK9.out (fun x => x)
    have HRg9 : Hid (w9.rangeAt (W.heap.size + 1) 6 (a.t.hd.cells sl)) := rangeAt_mid HbC9.out
    have HAl : Hid (Calls Tryz.prog 106 #[.agg #[fateM xf xt], a.t.hd.val sl] w9 fun e w' => ∃sl' fp', e = .returned ((alN (mvF ArA ArB) a.t).hd.val sl')/\AlR (mvF ArA ArB) a.t fp w9 w' sl' fp') := along_at xf xt ArA ArB HLn.out a.t sl fp w9 (HOwnV.out.mono (fun i hi => HK9.out.block i (node_lt (HOwnV.out.node i hi)) (fun x => x))) HNd.out (HIV.out.nul HK9.out).kept
    have f9 : w9.cell? ⟨w.heap.size, 0, none⟩ = some (fateM xf xt) := (HIV.out.nul HK9.out).fb.cell rfl
    have HI9 : Hid (BrI (mvF ArA ArB) w w3.heap.size xf xt ArA ArB g2 K k Z w9 M) := HIV.out.nul HK9.out
    gi_wp2_with (first | (refine loadIn_row rfl 48 (.tmp 26) rfl (W.heap.size + 1) 6 rfl (a.t.hd.cells sl) _ HRg9.out Tryz.underlying48 rfl infoNode ?_) | fail)
    refine⟨trivial, (callsIn_wide.2 HAl.out).mono ?_⟩
    rintro e wB ⟨sl', fp', rfl, hRR⟩
    have HRR : Hid (AlR (mvF ArA ArB) a.t fp w9 wB sl' fp') := hRR
    have hA2f : ∀i∈fp, i<W.heap.size := fun i hi => node_lt (HOwn.out.node i hi)
    have HbCB : Hid (Blk wB (W.heap.size + 1) ([.int .i64 a.k, .int .i64 a.v.k, .float .f64 a.v.x, .string a.v.s, .bool a.v.b, .int .i64 a.v.f]++a.t.hd.cells sl++[]) 50) := HbC9.out.kp hRR.kp (fun e => by have := hA2f _ e; omega)
    have HIB : Hid (BrI (mvF ArA ArB) w w3.heap.size xf xt ArA ArB g2 K k Z wB M) := HI9.out.far hRR.kp (fun i hi e => (HFz.out i e).2 hi) (fun i hi e => by have := (HFz.out i e).1; omega)
    have O5 : Hid (sl'.oneCell' = true) := hRR.own.one
    clear hRR f9
    gi_wp2_with (first | (refine storeIn_part rfl 48 (.tmp 29) (.tmp 28) rfl (W.heap.size + 1) 6 [.int .i64 a.k, .int .i64 a.v.k, .float .f64 a.v.x, .string a.v.s, .bool a.v.b, .int .i64 a.v.f] (a.t.hd.cells sl) [] ((alN (mvF ArA ArB) a.t).hd.cells sl') 50 HbCB.out rfl rfl rfl rfl infoNode (Hd.one (alN (mvF ArA ArB) a.t).hd O5.out) ?_; intro wC hbC hkC; have g0 : wC.cell? ⟨(w.heap.size + 1), 0, none⟩ = some (.pointer (some ⟨g2, 0, none⟩)) := (HIB.out.oth.kp hkC (by show ¬(w.heap.size + 1) = (W.heap.size + 1); have := HSW.out; have := HIB.out.hB; omega)).cell rfl; have g1 : wC.cell? ⟨P, 0, none⟩ = some (.int .i64 b1) := ((HP9.out.kp HRR.out.kp (fun e => by have := hA2f _ e; have := HPg.out; have := HVW.out; omega)).kp hkC (by show ¬P = (W.heap.size + 1); have := HPg.out; have := HVW.out; omega)).cell rfl; have g2' : wC.cell? ⟨P, 1, none⟩ = some (.int .i64 s1) := ((HP9.out.kp HRR.out.kp (fun e => by have := hA2f _ e; have := HPg.out; have := HVW.out; omega)).kp hkC (by show ¬P = (W.heap.size + 1); have := HPg.out; have := HVW.out; omega)).cell rfl; have HbCC : Hid (Blk wC (W.heap.size + 1) ((alC (mvF ArA ArB) a).cells sl') 50) := hbC) | (refine loadIn_content rfl (.tmp 7) rfl (W.heap.size + 1) rfl ((alC (mvF ArA ArB) a).cells sl').toArray HbCC.out rfl ?_) | fail)
    have kCV : Kp wB wC (fun i => i = (W.heap.size + 1)) := hkC
    have HIC : Hid (BrI (mvF ArA ArB) w w3.heap.size xf xt ArA ArB g2 K k Z wC M) := HIB.out.far kCV (fun i hi e => by have e' : i = (W.heap.size + 1) := e; have := (HI.out.zl i hi).1; omega) (fun i hi e => by have e' : i = (W.heap.size + 1) := e; have := HSW.out; omega)
    have hgd := alC_gd (mvF_ok HLn.out) (HOk.out.gd _ ((HKm.out _).1 (List.mem_of_getElem? HKk.out)))
    have hin : NdIn wC (fun _ => True) sl' (alC (mvF ArA ArB) a).t := (HRR.out.own.mono (fun i hi => kCV.block i (node_lt (HRR.out.own.node i hi)) (fun e => by have e' : i = (W.heap.size + 1) := e; have := hA2f i (HRR.out.sub.subset hi); omega))).isIn (fun _ _ => trivial)
    refine⟨trivial, (callsIn_wide.2 (put_any (fun i => (Z i/\i≠(w.heap.size + 1 + 1))∨wC.heap.size<=i) g2 b1 s1 (alC (mvF ArA ArB) a) sl' (fun _ => True) M wC (HIC.out.gi.mono (fun i hi => .inl hi)) (fun i hi => .inr hi) HIC.out.ok hgd.ok hgd.x hgd.size hin (HV.out.kp HIC.out.kp))).mono ?_⟩
    rintro e X ⟨er, M', rfl, h1, h2, h3⟩
    have hsz : w3.heap.size + 2<=wC.heap.size := by have := HSW.out; have := HbCC.out.lt; omega
    obtain⟨Z', hB', hZ'⟩ := HIC.out.put (mvF_ok HLn.out) (mvF_inj HLn.out) HKk.out HR.out HKs.out HKl.out (fun y hy => HOk.out.at' _ ((HKm.out _).1 hy)) (fun y hy => HOk.out.gd _ ((HKm.out _).1 hy)) hsz h1 h2 h3
    have HKX : Hid (Kp V X (fun i => (Z i∨i∈fp)∨W.heap.size<=i)) := (((HK9.out.mono (fun _ _ q => q.elim)).trans (HRR.out.kp.mono (fun i _ e => .inl (.inr e)))).trans (kCV.mono (fun i _ e => .inr (by have e' : i = (W.heap.size + 1) := e; omega)))).trans (h3.kp.mono (fun i _ e => .inl (.inl (HIC.out.sm e))))
    have HEND : Hid (∃Z', (∃M, BrI (mvF ArA ArB) w w3.heap.size xf xt ArA ArB g2 K (k + 1) Z' X M)/\More Z Z' W) := ⟨Z', ⟨M', hB'⟩, fun i hi => (hZ' i hi).imp id (fun q => by have := HbCC.out.lt; omega)⟩
    clear hB' hZ' h1 h2 h3 hin hgd kCV
    gi_wp2_with (fail)
    first
    | exact⟨rfl, HKX.out, HEND.out⟩
    | exact⟨HKX.out, HEND.out⟩
 case hdone =>
  subst hact
  rintro D Z W hD ⟨M, hB⟩ hdef
  have HB : Hid (BrI (mvF ArA ArB) w w3.heap.size xf xt ArA ArB g2 K K.length Z W M) := hB
  have HDf : Hid (W.heap[D]? = some (.deferred (some []))) := hdef
  have HDD : Hid (D = w3.heap.size) := hD
  have HN1 : Hid (Blk W (w.heap.size + 1) [.pointer (some ⟨g2, 0, none⟩)] 24) := hB.oth
  have HN2 : Hid (Blk W (w.heap.size + 1 + 1) [.bool (lostB (mvF ArA ArB) (K.take K.length))] 4) := hB.lo
  have HLs : Hid (lostB (mvF ArA ArB) (K.take K.length) = lostB (mvF ArA ArB) L) := by
   show _ = _
   rw[List.take_length]
   unfold lostB
   rw[Bool.eq_iff_iff, List.any_eq_true, List.any_eq_true]
   exact⟨fun ⟨x, h1, h2⟩ => ⟨x, (HKm.out x).1 h1, h2⟩, fun ⟨x, h1, h2⟩ => ⟨x, (HKm.out x).2 h1, h2⟩⟩
  clear hB hdef hD hgs hg2e
  generalize lostB (mvF ArA ArB) (K.take K.length) = lo at *
  go_wp2_with fail
  refine wp_region_noPanic ?_
  refine wp_region_hel (fun w' : World => DoS W w' (w.heap.size + 1) (.pointer (some ⟨g2, 0, none⟩)) (w.heap.size + 1 + 1) (.bool lo)) (by kernel_rfl) ⟨HN1.out.drewN 1, HN2.out.drewN 1, (Kp.refl _ _).drew⟩ (fun hHeld => ?_)
  refine wpH_takes (i := 0) (v := ?_) (some 35) rfl rfl (by kernel_rfl) (fun _ _ _ h => h) (Or.inl ⟨by rfl, ?_⟩) hHeld ?_
  rotate_left
  ·intro w' hSw; have s0 := hSw.ba.cell (i := 0) rfl; have s1 := hSw.bb.cell (i := 0) rfl; clear hSw; go_simp; try with_reducible rfl
  simp only[Act.put,Sz0,Sz1,Sz2]
  refine wpH_takes (i := 1) (v := ?_) (some 36) rfl rfl (by kernel_rfl) (fun _ _ _ h => h) (Or.inl ⟨by rfl, ?_⟩) hHeld ?_
  rotate_left
  ·intro w' hSw; have s0 := hSw.ba.cell (i := 0) rfl; have s1 := hSw.bb.cell (i := 0) rfl; clear hSw; go_simp; try with_reducible rfl
  simp only[Act.put,Sz0,Sz1,Sz2]
  refine wpH_step (i := 2) (by kernel_rfl) rfl rfl (fun K hK => ?_)
  refine wp_store_var 24 (.tmp 4) (.tmp 35) rfl (w.heap.size + 1) rfl (.pointer (some ⟨g2, 0, none⟩)) rfl rfl 24 (.pointer (some ⟨g2, 0, none⟩)) (HN1.out.drewN 1) (by kernel_rfl) ?_
  intro X1 hb1 hk1
  have HS1 : Hid (DoS W X1 (w.heap.size + 1) (.pointer (some ⟨g2, 0, none⟩)) (w.heap.size + 1 + 1) (.bool lo)) := ⟨hb1, (HN2.out.drewN 1).kp hk1 (by show ¬w.heap.size + 1 + 1 = w.heap.size + 1; omega), (Kp.refl _ _).drew.trans (hk1.mono (fun i _ e => .inl e))⟩
  refine hK.out _ _ HS1.out (fun hHeld => ?_)
  clear hK K hb1 hk1
  (try simp only[Act.put])
  refine wpH_step (i := 3) (by kernel_rfl) rfl rfl (fun K hK => ?_)
  refine wp_store_var 4 (.tmp 5) (.tmp 36) rfl (w.heap.size + 1 + 1) rfl (.bool lo) rfl rfl 4 (.bool lo) HS1.out.bb (by kernel_rfl) ?_
  intro X2 hb2 hk2
  have HS2 : Hid (DoS W X2 (w.heap.size + 1) (.pointer (some ⟨g2, 0, none⟩)) (w.heap.size + 1 + 1) (.bool lo)) := ⟨HS1.out.ba.kp hk2 (by show ¬w.heap.size + 1 = w.heap.size + 1 + 1; omega), hb2, HS1.out.kp.trans (hk2.mono (fun i _ e => .inr e))⟩
  refine hK.out _ _ HS2.out (fun _ => ?_)
  clear hK K hb2 hk2 HS1
  (try simp only[Act.put])
  refine wpAnyH_done (by kernel_rfl) ?_ _
  refine NoPanic.normal ?_
  go_wp2_with fail
  have hne : ∀i, i = w.heap.size + 1∨i = w.heap.size + 1 + 1->¬i = D := fun i hi => by have := HDD.out; have := HGS.out; have := HS0.out.1; omega
  have hD2 : X2.heap[D]? = some (.deferred (some [])) := (HS2.out.kp.block D (Array.getElem?_eq_some_iff.1 HDf.out).1 (fun e => hne D e rfl)).trans HDf.out
  refine⟨by simp, .inl ⟨_, _, rfl, run_takeDeferred hD2, ?_⟩⟩
  have q1 : Blk (X2.putObj D (.deferred none)) (w.heap.size + 1) [.pointer (some ⟨g2, 0, none⟩)] 24 := HS2.out.ba.kp putObj_self (fun e => hne _ (.inl rfl) e)
  have q2 : Blk (X2.putObj D (.deferred none)) (w.heap.size + 1 + 1) [.bool lo] 4 := HS2.out.bb.kp putObj_self (fun e => hne _ (.inr rfl) e)
  have HGi : GridIn (X2.putObj D (.deferred none)) (fun i => w.heap.size<=i) g2 M := by
   have g1 : GridIn W (fun i => (Z i/\i≠w.heap.size + 1 + 1)) g2 M := HB.out.gi
   have hzz : ∀i, Z i->i = w.heap.size + 1 + 1∨i = g2∨w3.heap.size + 2<=i := fun i hi => (HB.out.zl i hi).2
   have hg3 := HS0.out.1
   have hn1 : ∀i, (Z i/\i≠w.heap.size + 1 + 1)->i≠w.heap.size + 1 := fun i hi e => by rcases hzz i hi.1 with q | q | q <;> have := HGS.out <;> omega
   have g2' : GridIn X2 (fun i => (Z i/\i≠w.heap.size + 1 + 1)) g2 M := g1.far' HS2.out.kp (fun i hi e => by rcases e with e | e; exact hn1 i hi e; exact hi.2 e)
   have hnD : ∀i, (Z i/\i≠w.heap.size + 1 + 1)->¬i = D := fun i hi e => by rcases hzz i hi.1 with q | q | q <;> have := HGS.out <;> have := HDD.out <;> omega
   exact(g2'.far' putObj_self hnD).mono (fun i hi => by rcases hzz i hi.1 with q | q | q <;> have := HGS.out <;> omega)
  refine⟨.tuple #[.pointer (some ⟨g2, 0, none⟩), .bool lo], ?res, g2, M, by rw[HLs.out], HGi, HB.out.ok, fun y => ?_, by have := HS0.out.1; omega, ?_⟩
  case res =>
   have c1 : (X2.putObj D (.deferred none)).cell? ⟨w.heap.size + 1, 0, none⟩ = some (.pointer (some ⟨g2, 0, none⟩)) := q1.cell rfl
   have c2 : (X2.putObj D (.deferred none)).cell? ⟨w.heap.size + 1 + 1, 0, none⟩ = some (.bool lo) := q2.cell rfl
   rw[results_cells2 rfl]
   go_simp
  ·rw[HB.out.mem y, List.take_length, brL_mem, brL_mem]
   exact⟨fun ⟨x, h1, h2⟩ => ⟨x, (HKm.out x).1 h1, h2⟩, fun ⟨x, h1, h2⟩ => ⟨x, (HKm.out x).2 h1, h2⟩⟩
  ·exact putObj_kp (HB.out.kp.trans' HS2.out.kp (fun i hi e => by rcases e with e | e <;> omega)) (by have := HDD.out; have := HGS.out; have := HS0.out.1; omega)
end Go.Proofs.YtecjfnkakodebaaGreatDoor.OfM
namespace Go.Proofs.YtecjfnkakodebaaGreatDoor
open Go.RowKit Go.Maps
set_option maxRecDepth 20000 in
set_option maxHeartbeats 8000000 in
theorem asGreat_core (g : Nat) (A1 A2 A3 A4 t1 t2 d1 d2 c1 c2 c3 c4 E : Int) (p : Bool) (w : World)
  (hng : ∀(b : Nat) (wq : World), (binOp .eql 24 (.pointer (some ⟨b, 0, none⟩)) (.pointer none)).run Tryz.prog wq = .ok (.bool false) wq)
  (HV : Hid (∀w, Calls Tryz.prog 58 #[.agg #[.int .i64 A1, .int .i64 A2, .int .i64 A3, .int .i64 A4]] w fun e w' => e = .returned (.bool p)/\Kp w w' Nul))
  (HM : Hid (∀w, Calls Tryz.prog 56 #[.agg #[.int .i64 A3, .int .i64 A4], .agg #[.int .i64 A1, .int .i64 A2], .agg #[.int .i64 t1, .int .i64 t2]] w fun e w' => e = .returned (.agg #[.int .i64 d1, .int .i64 d2])/\Kp w w' Nul))
  (HA : Hid (∀w, Calls Tryz.prog 96 #[.agg #[.int .i64 t1, .int .i64 t2], .agg #[.int .i64 d1, .int .i64 d2]] w fun e w' => e = .returned (.tuple #[.agg #[.int .i64 c1, .int .i64 c2, .int .i64 c3, .int .i64 c4], .int .i64 E])/\Kp w w' Nul)) :
  Calls Tryz.prog 52 #[.pointer (some ⟨g, 0, none⟩), .agg #[.int .i64 A1, .int .i64 A2, .int .i64 A3, .int .i64 A4], .agg #[.int .i64 t1, .int .i64 t2]] w fun e w' => e = .returned (if p then .tuple #[.agg #[.int .i64 c1, .int .i64 c2, .int .i64 c3, .int .i64 c4], .int .i64 E] else .tuple #[.agg #[.int .i64 0, .int .i64 0, .int .i64 0, .int .i64 0], .int .i64 1])/\Kp w w' Nul := by
 obtain⟨W, hW⟩ : ∃W, ((w.alloc (.cells #[.int .i64 A1, .int .i64 A2, .int .i64 A3, .int .i64 A4] 34)).alloc (.cells #[.int .i64 t1, .int .i64 t2] 32)).alloc (.cells #[.int .i64 0, .int .i64 0, .int .i64 0, .int .i64 0] 34) = W := ⟨_, rfl⟩
 have HW : Hid (((w.alloc (.cells #[.int .i64 A1, .int .i64 A2, .int .i64 A3, .int .i64 A4] 34)).alloc (.cells #[.int .i64 t1, .int .i64 t2] 32)).alloc (.cells #[.int .i64 0, .int .i64 0, .int .i64 0, .int .i64 0] 34) = W) := hW
 have kW : Hid (Kp w W Nul) := by show Kp _ _ _; rw[<- hW]; exact(((Kp.refl w Nul).alloc _).alloc _).alloc _
 have HB0 : Hid (Blk W w.heap.size [.int .i64 A1, .int .i64 A2, .int .i64 A3, .int .i64 A4] 34) := by show Blk _ _ _ _; rw[<- hW]; exact((Blk.new w _ _).alloc _).alloc _
 have HB1 : Hid (Blk W (w.heap.size + 1) [.int .i64 t1, .int .i64 t2] 32) := by show Blk _ _ _ _; rw[<- hW]; exact(blk2 (cs := [.int .i64 t1, .int .i64 t2])).alloc _
 have HB2 : Hid (Blk W (w.heap.size + 1 + 1) [.int .i64 0, .int .i64 0, .int .i64 0, .int .i64 0] 34) := by show Blk _ _ _ _; rw[<- hW]; exact blk3
 clear hW
 go_enter Tryz.func52, Tryz.ntmps52
 go_wp2_with fail
 rw[HW.out]
 clear HW
 refine(HV.out W).mono ?_
 rintro e w1 ⟨rfl, hk1⟩
 have K1 : Hid (Kp W w1 Nul) := hk1
 clear hk1
 cases p
 ·have HB2' : Hid (Blk w1 (w.heap.size + 1 + 1) [.int .i64 0, .int .i64 0, .int .i64 0, .int .i64 0] 34) := HB2.out.kp K1.out (fun x => x)
  go_wp2_with (first | (refine wpList_store_blk rfl 34 (.tmp 6) (.tmp 15) rfl (w.heap.size + 1 + 1) _ [.int .i64 0, .int .i64 0, .int .i64 0, .int .i64 0] _ HB2'.out rfl rfl rfl infoArea (ints4 _ _ _ _) ?_; intro Y hbY hkY) | fail)
  refine bodyPost_ret (results_row_tmp rfl _ _ (w.heap.size + 1 + 1) 34 _ (0, 0) _ rfl hbY Tryz.underlying34 rfl infoArea) rfl ?_
  exact⟨rfl, (kW.out.trans K1.out).trans' hkY (fun i hi e => by have e' : i = w.heap.size + 1 + 1 := e; omega)⟩
 ·go_wp2_with fail
  have HS0 : Hid (∀wq, Kp W wq (fun i => i = (w.heap.size + 1 + 1))->Blk wq w.heap.size [.int .i64 A1, .int .i64 A2, .int .i64 A3, .int .i64 A4] 34) := fun wq k => HB0.out.kp k (fun e => by have e' : w.heap.size = w.heap.size + 1 + 1 := e; omega)
  have HS1 : Hid (∀wq, Kp W wq (fun i => i = (w.heap.size + 1 + 1))->Blk wq (w.heap.size + 1) [.int .i64 t1, .int .i64 t2] 32) := fun wq k => HB1.out.kp k (fun e => by have e' : w.heap.size + 1 = w.heap.size + 1 + 1 := e; omega)
  clear HV
  refine wp_region_hel (fun w' : World => Kp W w' (fun i => i = (w.heap.size + 1 + 1))) (by kernel_rfl) (K1.out.of_nul.drew) (fun hHeld => ?_)
  refine wpH_takes (i := 0) (v := .agg #[.int .i64 t1, .int .i64 t2]) (some 16) rfl rfl (by kernel_rfl) (fun _ _ _ h => h) (Or.inl ⟨by rfl, fun w' hSw => exec_load_row 32 (.tmp 5) rfl (w.heap.size + 1) 0 rfl [.int .i64 t1, .int .i64 t2] _ (rangeAt_blk (HS1.out w' hSw)) Tryz.underlying32 rfl infoAddr2'⟩) hHeld ?_
  simp only[Act.put,Sz0,Sz1,Sz2]
  refine wpH_takes (i := 1) (v := .pointer (some ⟨w.heap.size, 2, none⟩)) (some 17) rfl rfl (by kernel_rfl) (fun _ _ _ h => h) (Or.inl ⟨by rfl, ?_⟩) hHeld ?_
  ·intro w' hSw; clear hSw; go_simp
  simp only[Act.put,Sz0,Sz1,Sz2]
  refine wpH_takes (i := 2) (v := .agg #[.int .i64 A3, .int .i64 A4]) (some 18) rfl rfl (by kernel_rfl) (fun _ _ _ h => h) (Or.inl ⟨by rfl, fun w' hSw => exec_load_row 32 (.tmp 17) rfl w.heap.size 2 rfl [.int .i64 A3, .int .i64 A4] _ (row_hi (HS0.out w' hSw)) Tryz.underlying32 rfl infoAddr2'⟩) hHeld ?_
  simp only[Act.put,Sz0,Sz1,Sz2]
  refine wpH_takes (i := 3) (v := .pointer (some ⟨w.heap.size, 0, none⟩)) (some 19) rfl rfl (by kernel_rfl) (fun _ _ _ h => h) (Or.inl ⟨by rfl, ?_⟩) hHeld ?_
  ·intro w' hSw; clear hSw; go_simp
  simp only[Act.put,Sz0,Sz1,Sz2]
  refine wpH_takes (i := 4) (v := .agg #[.int .i64 A1, .int .i64 A2]) (some 20) rfl rfl (by kernel_rfl) (fun _ _ _ h => h) (Or.inl ⟨by rfl, fun w' hSw => exec_load_row 32 (.tmp 19) rfl w.heap.size 0 rfl [.int .i64 A1, .int .i64 A2] _ (row_lo (HS0.out w' hSw)) Tryz.underlying32 rfl infoAddr2'⟩) hHeld ?_
  simp only[Act.put,Sz0,Sz1,Sz2]
  refine wpH_takes (i := 5) (v := .agg #[.int .i64 t1, .int .i64 t2]) (some 21) rfl rfl (by kernel_rfl) (fun _ _ _ h => h) (Or.inl ⟨by rfl, fun w' hSw => exec_load_row 32 (.tmp 5) rfl (w.heap.size + 1) 0 rfl [.int .i64 t1, .int .i64 t2] _ (rangeAt_blk (HS1.out w' hSw)) Tryz.underlying32 rfl infoAddr2'⟩) hHeld ?_
  simp only[Act.put,Sz0,Sz1,Sz2]
  refine wpH_step (i := 6) (by kernel_rfl) rfl rfl (fun K hK => ?_)
  go_simp
  refine(HM.out _).mono ?_
  rintro e v1 ⟨rfl, hk2⟩
  have L1 : Hid (Kp W v1 Nul) := K1.out.drew.trans hk2
  refine hK.out _ _ L1.out.of_nul (fun hHeld => ?_)
  clear hK K hk2
  (try simp only[Act.put,Sz0,Sz1,Sz2])
  refine wpH_step (i := 7) (by kernel_rfl) rfl rfl (fun K hK => ?_)
  go_simp
  refine(HA.out _).mono ?_
  rintro e v2 ⟨rfl, hk2⟩
  have L2 : Hid (Kp W v2 Nul) := L1.out.trans hk2
  refine hK.out _ _ L2.out.of_nul (fun hHeld => ?_)
  clear hK K hk2
  (try simp only[Act.put,Sz0,Sz1,Sz2])
  refine wpH_takes (i := 8) (v := .agg #[.int .i64 c1, .int .i64 c2, .int .i64 c3, .int .i64 c4]) (some 24) rfl rfl (by kernel_rfl) (fun _ _ _ h => h) (Or.inl ⟨by rfl, ?_⟩) hHeld ?_
  ·intro w' hSw; clear hSw; go_simp
  simp only[Act.put,Sz0,Sz1,Sz2]
  refine wpH_takes (i := 9) (v := .int .i64 E) (some 25) rfl rfl (by kernel_rfl) (fun _ _ _ h => h) (Or.inl ⟨by rfl, ?_⟩) hHeld ?_
  ·intro w' hSw; clear hSw; go_simp
  simp only[Act.put,Sz0,Sz1,Sz2]
  have HB2' : Hid (Blk v2 (w.heap.size + 1 + 1) [.int .i64 0, .int .i64 0, .int .i64 0, .int .i64 0] 34) := HB2.out.kp L2.out (fun x => x)
  refine wpH_step (i := 10) (by kernel_rfl) rfl rfl (fun K hK => ?_)
  refine wp_store_blk 34 (.tmp 6) (.tmp 24) rfl (w.heap.size + 1 + 1) _ [.int .i64 c1, .int .i64 c2, .int .i64 c3, .int .i64 c4] _ HB2'.out rfl rfl rfl infoArea (ints4 _ _ _ _) ?_
  intro Y hbY hkY
  have LY : Hid (Kp W Y (fun i => i = (w.heap.size + 1 + 1))) := L2.out.of_nul.trans hkY
  refine hK.out _ _ LY.out (fun hHeld => ?_)
  clear hK K
  (try simp only[Act.put])
  refine wpH_step (i := 11) (by kernel_rfl) rfl rfl (fun K hK => ?_)
  go_simp
  refine hK.out _ _ LY.out (fun hHeld => ?_)
  clear hK K
  (try simp only[Act.put,Sz0,Sz1,Sz2])
  refine wpAnyH_done (by kernel_rfl) ?_ _
  go_wp2_with fail
  refine bodyPost_ret (results_row_tmp rfl _ _ (w.heap.size + 1 + 1) 34 _ (0, 0) _ rfl hbY Tryz.underlying34 rfl infoArea) rfl ?_
  exact⟨rfl, kW.out.trans' LY.out (fun i hi e => by have e' : i = w.heap.size + 1 + 1 := e; omega)⟩
def mvTo (A : Ar4) (t : Int×Int) : Ar4 := (t, (A.2.1 + t.1-A.1.1, A.2.2 + t.2-A.1.2))
def fits (A : Ar4) (t : Int×Int) : Bool := Ar4.ok (mvTo A t)
theorem fits_eq {A : Ar4} {t : Int×Int} (h : Ar4.ok A = true) : (vC t.1 t.2&&vC (mvd A.2.1 t.1 A.1.1) (mvd A.2.2 t.2 A.1.2)) = fits A t := by
 have hA := (ar_ok A).1 h
 by_cases ht : vC t.1 t.2 = true
 ·have ht' := ht
  rw[vC_iff] at ht'
  rw[mvd_val (by unfold I64; omega), mvd_val (by unfold I64; omega), Bool.eq_iff_iff]
  unfold fits
  rw[ar_ok, Bool.and_eq_true, vC_iff, vC_iff]
  unfold mvTo
  simp only
  omega
 ·have : vC t.1 t.2 = false := by simpa using ht
  rw[this, Bool.false_and]
  symm
  rw[Bool.eq_false_iff]
  intro hf
  unfold fits at hf
  rw[ar_ok] at hf
  rw[vC_iff] at ht
  unfold mvTo at hf
  simp only at hf
  omega
def agV (A : Ar4) (t : Int×Int) : Value := if Ar4.ok A = true then (if fits A t = true then .tuple #[.agg #[.int .i64 (mvTo A t).1.1, .int .i64 (mvTo A t).1.2, .int .i64 (mvTo A t).2.1, .int .i64 (mvTo A t).2.2], .int .i64 0] else .tuple #[.agg #[.int .i64 0, .int .i64 0, .int .i64 0, .int .i64 0], .int .i64 20]) else .tuple #[.agg #[.int .i64 0, .int .i64 0, .int .i64 0, .int .i64 0], .int .i64 1]
theorem nil_ptr' (g : Nat) (w : World) : (binOp .eql 24 (.pointer (some ⟨g, 0, none⟩)) (.pointer none)).run Tryz.prog w = .ok (.bool false) w := by
 simp[go_sem]
theorem asGreat_at (g : Nat) (A : Ar4) (t : Int×Int) (w : World) :
  Calls Tryz.prog 52 #[.pointer (some ⟨g, 0, none⟩), .agg #[.int .i64 A.1.1, .int .i64 A.1.2, .int .i64 A.2.1, .int .i64 A.2.2], .agg #[.int .i64 t.1, .int .i64 t.2]] w fun e w' => e = .returned (agV A t)/\Kp w w' Nul := by
 have hV : ∀w, Calls Tryz.prog 58 #[.agg #[.int .i64 A.1.1, .int .i64 A.1.2, .int .i64 A.2.1, .int .i64 A.2.2]] w fun e w' => e = .returned (.bool (Ar4.ok A))/\Kp w w' Nul := fun w => (pValidArea_any A.1.1 A.1.2 A.2.1 A.2.2 w).mono fun e w' h => ⟨h.1, Kp.of_gr h.2⟩
 have hM := moved_at A.2.1 A.2.2 A.1.1 A.1.2 t.1 t.2
 have hA : ∃c1 c2 c3 c4 E : Int, (∀w, Calls Tryz.prog 96 #[.agg #[.int .i64 t.1, .int .i64 t.2], .agg #[.int .i64 (mvd A.2.1 t.1 A.1.1), .int .i64 (mvd A.2.2 t.2 A.1.2)]] w fun e w' => e = .returned (.tuple #[.agg #[.int .i64 c1, .int .i64 c2, .int .i64 c3, .int .i64 c4], .int .i64 E])/\Kp w w' Nul)/\(Ar4.ok A = true -> .tuple #[.agg #[.int .i64 c1, .int .i64 c2, .int .i64 c3, .int .i64 c4], .int .i64 E] = agV A t) := by
  have h0 := fun w => pArea_any t.1 t.2 (mvd A.2.1 t.1 A.1.1) (mvd A.2.2 t.2 A.1.2) w
  unfold arV arE areaV at h0
  by_cases q : (vC t.1 t.2&&vC (mvd A.2.1 t.1 A.1.1) (mvd A.2.2 t.2 A.1.2)) = true
  ·simp only[q, if_true] at h0
   refine⟨_, _, _, _, _, fun w => (h0 w).mono fun e w' h => ⟨h.1, Kp.of_gr h.2⟩, fun hok => ?_⟩
   have hf := q
   rw[fits_eq hok] at hf
   unfold agV
   rw[if_pos hok, if_pos hf]
   have hA := (ar_ok A).1 hok
   have q' := q
   rw[Bool.and_eq_true, vC_iff, vC_iff] at q'
   have e1 : mvd A.2.1 t.1 A.1.1 = A.2.1 + t.1-A.1.1 := mvd_val (by unfold I64; omega)
   have e2 : mvd A.2.2 t.2 A.1.2 = A.2.2 + t.2-A.1.2 := mvd_val (by unfold I64; omega)
   rw[e1, e2]
   unfold mvTo
   simp only
   rw[show min t.1 (A.2.1 + t.1-A.1.1) = t.1 by omega, show min t.2 (A.2.2 + t.2-A.1.2) = t.2 by omega, show max t.1 (A.2.1 + t.1-A.1.1) = A.2.1 + t.1-A.1.1 by omega, show max t.2 (A.2.2 + t.2-A.1.2) = A.2.2 + t.2-A.1.2 by omega]
  ·have q0 : (vC t.1 t.2&&vC (mvd A.2.1 t.1 A.1.1) (mvd A.2.2 t.2 A.1.2)) = false := by simpa using q
   simp only[q0, Bool.false_eq_true, if_false] at h0
   refine⟨_, _, _, _, _, fun w => (h0 w).mono fun e w' h => ⟨h.1, Kp.of_gr h.2⟩, fun hok => ?_⟩
   rw[fits_eq hok] at q0
   unfold agV
   rw[if_pos hok, if_neg (by rw[q0]; decide)]
 obtain⟨c1, c2, c3, c4, E, hA1, hA2⟩ := hA
 refine(asGreat_core g _ _ _ _ _ _ _ _ c1 c2 c3 c4 E (Ar4.ok A) w nil_ptr' hV hM hA1).mono fun e w' h => ⟨h.1.trans ?_, h.2⟩
 cases hok : Ar4.ok A with
 | true => rw[<- hA2 hok]; rfl
 | false => unfold agV; rw[hok]; rfl
end Go.Proofs.YtecjfnkakodebaaGreatDoor
namespace Go.Proofs.YtecjfnkakodebaaGreatDoor
open Go.RowKit Go.Maps
set_option maxRecDepth 20000 in
set_option maxHeartbeats 8000000 in
theorem clear_no (g : Nat) (A1 A2 A3 A4 : Int) (w : World)
  (hng : ∀(b : Nat) (wq : World), (binOp .eql 24 (.pointer (some ⟨b, 0, none⟩)) (.pointer none)).run Tryz.prog wq = .ok (.bool false) wq)
  (HV : Hid (∀w, Calls Tryz.prog 58 #[.agg #[.int .i64 A1, .int .i64 A2, .int .i64 A3, .int .i64 A4]] w fun e w' => e = .returned (.bool false)/\Kp w w' Nul)) :
  Calls Tryz.prog 23 #[.pointer (some ⟨g, 0, none⟩), .agg #[.int .i64 A1, .int .i64 A2, .int .i64 A3, .int .i64 A4]] w fun e w' => e = .returned (.tuple #[.pointer none, .int .i64 1])/\Kp w w' Nul := by
 have kW : Hid (∀a, Kp w (w.alloc a) Nul) := fun a => (Kp.refl w Nul).alloc _
 go_enter Tryz.func23, Tryz.ntmps23
 go_wp2_with fail
 refine(HV.out _).mono ?_
 rintro e w1 ⟨rfl, hk1⟩
 have K1 : Hid (Kp w w1 Nul) := (kW.out _).trans hk1
 clear hk1
 go_wp2_with fail
 go_ret2
 first
 | exact⟨rfl, K1.out⟩
 | exact K1.out
theorem blkN {X : World} {n : Nat} (hn : X.heap.size = n) (cs : List Value) (t : TypeId) : Blk (X.alloc (.cells cs.toArray t)) n cs t := hn ▸ Blk.new X cs t
theorem results_vars {P : Program} {fn : Func} {p q : Tmp} {ty tz : TypeId} (h : fn.results = #[.cell p ty, .cell q tz]) (tmps : Array Value) (w : World) (a b : Nat) (v u : Value)
  (hp : tmps.getD p undef = .pointer (some ⟨a, 0, none⟩)) (hq : tmps.getD q undef = .pointer (some ⟨b, 0, none⟩)) (hv : (loadVar ty ⟨a, 0, none⟩).run P w = .ok v w) (hu : (loadVar tz ⟨b, 0, none⟩).run P w = .ok u w) :
  (results fn tmps).run P w = .ok (.tuple #[v, u]) w := by
 have hp' : tmps[p]?.getD undef = .pointer (some ⟨a, 0, none⟩) := by simpa using hp
 have hq' : tmps[q]?.getD undef = .pointer (some ⟨b, 0, none⟩) := by simpa using hq
 simp[results, h, hp', hq', asAddr, hv, hu]
set_option maxRecDepth 20000 in
set_option maxHeartbeats 8000000 in
theorem copy_no (g : Nat) (A1 A2 A3 A4 t1 t2 E : Int) (w : World) (hE : ¬E = 0)
  (HG : Hid (∀w, Calls Tryz.prog 52 #[.pointer (some ⟨g, 0, none⟩), .agg #[.int .i64 A1, .int .i64 A2, .int .i64 A3, .int .i64 A4], .agg #[.int .i64 t1, .int .i64 t2]] w fun e w' => e = .returned (.tuple #[.agg #[.int .i64 0, .int .i64 0, .int .i64 0, .int .i64 0], .int .i64 E])/\Kp w w' Nul)) :
  Calls Tryz.prog 16 #[.pointer (some ⟨g, 0, none⟩), .agg #[.int .i64 A1, .int .i64 A2, .int .i64 A3, .int .i64 A4], .agg #[.int .i64 t1, .int .i64 t2]] w fun e w' => e = .returned (.tuple #[.pointer none, .int .i64 E])/\Kp w w' Nul := by
 obtain⟨W, hW⟩ : ∃W, (((w.alloc (.cells #[.int .i64 A1, .int .i64 A2, .int .i64 A3, .int .i64 A4] 34)).alloc (.cells #[.int .i64 t1, .int .i64 t2] 32)).alloc (.cells #[.pointer none] 24)).alloc (.cells #[.int .i64 0] 39) = W := ⟨_, rfl⟩
 have HW : Hid ((((w.alloc (.cells #[.int .i64 A1, .int .i64 A2, .int .i64 A3, .int .i64 A4] 34)).alloc (.cells #[.int .i64 t1, .int .i64 t2] 32)).alloc (.cells #[.pointer none] 24)).alloc (.cells #[.int .i64 0] 39) = W) := hW
 have kW : Hid (Kp w W Nul) := by show Kp _ _ _; rw[<- hW]; exact((((Kp.refl w Nul).alloc _).alloc _).alloc _).alloc _
 have HB2 : Hid (Blk W (w.heap.size + 1 + 1) [.pointer none] 24) := by show Blk _ _ _ _; rw[<- hW]; exact(blkN (by simp) [.pointer none] _).alloc _
 have HB3 : Hid (Blk W (w.heap.size + 1 + 1 + 1) [.int .i64 0] 39) := by show Blk _ _ _ _; rw[<- hW]; exact blkN (by simp) [.int .i64 0] _
 clear hW
 go_enter Tryz.func16, Tryz.ntmps16
 go_wp2_with fail
 rw[HW.out]
 clear HW
 refine(HG.out _).mono ?_
 rintro e w1 ⟨rfl, hk1⟩
 have K1 : Hid (Kp w (w1.alloc (.cells #[.int .i64 0, .int .i64 0, .int .i64 0, .int .i64 0] 34)) Nul) := kW.out.trans (hk1.alloc _)
 have HC2 : Hid (Blk (w1.alloc (.cells #[.int .i64 0, .int .i64 0, .int .i64 0, .int .i64 0] 34)) (w.heap.size + 1 + 1) [.pointer none] 24) := HB2.out.kp (hk1.alloc _) (fun x => x)
 have HC3 : Hid (∀Y, Kp (w1.alloc (.cells #[.int .i64 0, .int .i64 0, .int .i64 0, .int .i64 0] 34)) Y (fun i => i = w.heap.size + 1 + 1)->Blk Y (w.heap.size + 1 + 1 + 1) [.int .i64 0] 39) := fun Y k => (HB3.out.kp (hk1.alloc _) (fun x => x)).kp k (fun e => by have e' : w.heap.size + 1 + 1 + 1 = w.heap.size + 1 + 1 := e; omega)
 clear hk1 HB2 HB3
 go_wp2_with (first
  | (refine wpList_store_var rfl 24 (.tmp 6) (.const (.pointer none)) rfl (w.heap.size + 1 + 1) rfl (.pointer none) rfl rfl 24 _ HC2.out (by kernel_rfl) ?_; intro Y hbY hkY; have HD2 : Hid (Blk Y (w.heap.size + 1 + 1) [.pointer none] 24) := hbY; have HD3 := HC3.out Y hkY; have KY : Hid (Kp w Y Nul) := K1.out.trans' hkY (fun i hi e => by have e' : i = w.heap.size + 1 + 1 := e; omega); clear hbY hkY HC2)
  | (refine wpList_store_var rfl 39 (.tmp 7) (.tmp 23) rfl (w.heap.size + 1 + 1 + 1) rfl (.int .i64 E) rfl rfl 39 _ HD3 (by kernel_rfl) ?_; intro Y2 hb2 hk2)
  | fail)
 have c1 : Y2.cell? ⟨w.heap.size + 1 + 1, 0, none⟩ = some (.pointer none) := (HD2.out.kp hk2 (fun e => by have e' : w.heap.size + 1 + 1 = w.heap.size + 1 + 1 + 1 := e; omega)).cell rfl
 have c2 : Y2.cell? ⟨w.heap.size + 1 + 1 + 1, 0, none⟩ = some (.int .i64 E) := hb2.cell rfl
 refine bodyPost_ret (results_vars rfl _ _ (w.heap.size + 1 + 1) (w.heap.size + 1 + 1 + 1) (.pointer none) (.int .i64 E) rfl rfl ?_ ?_) rfl ?_
 ·clear c2 hb2 hk2; go_simp
 ·clear c1 hb2 hk2; go_simp
 ·exact⟨rfl, KY.out.trans' hk2 (fun i hi e => by have e' : i = w.heap.size + 1 + 1 + 1 := e; omega)⟩
set_option maxRecDepth 20000 in
set_option maxHeartbeats 8000000 in
theorem fill_no (g : Nat) (A1 A2 A3 A4 t1 t2 : Int) (q : Bool) (w : World)
  (hng : ∀(b : Nat) (wq : World), (binOp .eql 24 (.pointer (some ⟨b, 0, none⟩)) (.pointer none)).run Tryz.prog wq = .ok (.bool false) wq)
  (HV : Hid (∀w, Calls Tryz.prog 58 #[.agg #[.int .i64 A1, .int .i64 A2, .int .i64 A3, .int .i64 A4]] w fun e w' => e = .returned (.bool q)/\Kp w w' Nul))
  (HU : Hid (q = true->∀w, Calls Tryz.prog 44 #[.agg #[.int .i64 t1, .int .i64 t2]] w fun e w' => e = .returned (.bool false)/\Kp w w' Nul)) :
  Calls Tryz.prog 22 #[.pointer (some ⟨g, 0, none⟩), .agg #[.int .i64 t1, .int .i64 t2], .agg #[.int .i64 A1, .int .i64 A2, .int .i64 A3, .int .i64 A4]] w fun e w' => e = .returned (.tuple #[.pointer none, .int .i64 (if q = true then 20 else 1)])/\Kp w w' Nul := by
 obtain⟨W, hW⟩ : ∃W, (((w.alloc (.cells #[.int .i64 t1, .int .i64 t2] 32)).alloc (.cells #[.int .i64 A1, .int .i64 A2, .int .i64 A3, .int .i64 A4] 34)).alloc (.cells #[.pointer none] 24)).alloc (.cells #[.int .i64 0] 39) = W := ⟨_, rfl⟩
 have HW : Hid ((((w.alloc (.cells #[.int .i64 t1, .int .i64 t2] 32)).alloc (.cells #[.int .i64 A1, .int .i64 A2, .int .i64 A3, .int .i64 A4] 34)).alloc (.cells #[.pointer none] 24)).alloc (.cells #[.int .i64 0] 39) = W) := hW
 have kW : Hid (Kp w W Nul) := by show Kp _ _ _; rw[<- hW]; exact((((Kp.refl w Nul).alloc _).alloc _).alloc _).alloc _
 have HB0 : Hid (Blk W w.heap.size [.int .i64 t1, .int .i64 t2] 32) := by show Blk _ _ _ _; rw[<- hW]; exact(((Blk.new w _ _).alloc _).alloc _).alloc _
 have HB2 : Hid (Blk W (w.heap.size + 1 + 1) [.pointer none] 24) := by show Blk _ _ _ _; rw[<- hW]; exact(blkN (by simp) [.pointer none] _).alloc _
 have HB3 : Hid (Blk W (w.heap.size + 1 + 1 + 1) [.int .i64 0] 39) := by show Blk _ _ _ _; rw[<- hW]; exact blkN (by simp) [.int .i64 0] _
 clear hW
 go_enter Tryz.func22, Tryz.ntmps22
 go_wp2_with fail
 rw[HW.out]
 clear HW
 refine(HV.out _).mono ?_
 rintro e w1 ⟨rfl, hk1⟩
 cases q with
 | false =>
  have K1 : Hid (Kp w w1 Nul) := kW.out.trans hk1
  have HC2 : Hid (Blk w1 (w.heap.size + 1 + 1) [.pointer none] 24) := HB2.out.kp hk1 (fun x => x)
  have HC3 : Hid (∀Y, Kp w1 Y (fun i => i = w.heap.size + 1 + 1)->Blk Y (w.heap.size + 1 + 1 + 1) [.int .i64 0] 39) := fun Y k => (HB3.out.kp hk1 (fun x => x)).kp k (fun e => by have e' : w.heap.size + 1 + 1 + 1 = w.heap.size + 1 + 1 := e; omega)
  clear hk1 HB2 HB3
  go_wp2_with (first
   | (refine wpList_store_var rfl 24 (.tmp 6) (.const (.pointer none)) rfl (w.heap.size + 1 + 1) rfl (.pointer none) rfl rfl 24 _ HC2.out (by kernel_rfl) ?_; intro Y hbY hkY; have HD2 : Hid (Blk Y (w.heap.size + 1 + 1) [.pointer none] 24) := hbY; have HD3 := HC3.out Y hkY; have KY : Hid (Kp w Y Nul) := K1.out.trans' hkY (fun i hi e => by have e' : i = w.heap.size + 1 + 1 := e; omega); clear hbY hkY HC2)
   | (refine wpList_store_var rfl 39 (.tmp 7) (.const (.int .i64 1)) rfl (w.heap.size + 1 + 1 + 1) rfl (.int .i64 1) rfl rfl 39 _ HD3 (by kernel_rfl) ?_; intro Y2 hb2 hk2)
   | fail)
  have c1 : Y2.cell? ⟨w.heap.size + 1 + 1, 0, none⟩ = some (.pointer none) := (HD2.out.kp hk2 (fun e => by have e' : w.heap.size + 1 + 1 = w.heap.size + 1 + 1 + 1 := e; omega)).cell rfl
  have c2 : Y2.cell? ⟨w.heap.size + 1 + 1 + 1, 0, none⟩ = some (.int .i64 1) := hb2.cell rfl
  refine bodyPost_ret (results_vars rfl _ _ (w.heap.size + 1 + 1) (w.heap.size + 1 + 1 + 1) (.pointer none) (.int .i64 1) rfl rfl ?_ ?_) rfl ?_
  ·clear c2 hb2 hk2; go_simp
  ·clear c1 hb2 hk2; go_simp
  ·exact⟨rfl, KY.out.trans' hk2 (fun i hi e => by have e' : i = w.heap.size + 1 + 1 + 1 := e; omega)⟩
 | true =>
  have c0 : w1.cell? ⟨w.heap.size, 0, none⟩ = some (.int .i64 t1) := (HB0.out.kp hk1 (fun x => x)).cell rfl
  have c1 : w1.cell? ⟨w.heap.size, 1, none⟩ = some (.int .i64 t2) := (HB0.out.kp hk1 (fun x => x)).cell rfl
  have K0 : Hid (Kp W w1 Nul) := hk1
  have HU' : Hid (∀w, Calls Tryz.prog 44 #[.agg #[.int .i64 t1, .int .i64 t2]] w fun e w' => e = .returned (.bool false)/\Kp w w' Nul) := HU.out rfl
  clear HU
  clear hk1
  go_wp2_with fail
  clear c0 c1
  refine(HU'.out _).mono ?_
  rintro e w2 ⟨rfl, hk2⟩
  have hk1 := K0.out.trans hk2
  clear hk2
  have K1 : Hid (Kp w w2 Nul) := kW.out.trans hk1
  have HC2 : Hid (Blk w2 (w.heap.size + 1 + 1) [.pointer none] 24) := HB2.out.kp hk1 (fun x => x)
  have HC3 : Hid (∀Y, Kp w2 Y (fun i => i = w.heap.size + 1 + 1)->Blk Y (w.heap.size + 1 + 1 + 1) [.int .i64 0] 39) := fun Y k => (HB3.out.kp hk1 (fun x => x)).kp k (fun e => by have e' : w.heap.size + 1 + 1 + 1 = w.heap.size + 1 + 1 := e; omega)
  clear hk1 HB2 HB3
  go_wp2_with (first
   | (refine wpList_store_var rfl 24 (.tmp 6) (.const (.pointer none)) rfl (w.heap.size + 1 + 1) rfl (.pointer none) rfl rfl 24 _ HC2.out (by kernel_rfl) ?_; intro Y hbY hkY; have HD2 : Hid (Blk Y (w.heap.size + 1 + 1) [.pointer none] 24) := hbY; have HD3 := HC3.out Y hkY; have KY : Hid (Kp w Y Nul) := K1.out.trans' hkY (fun i hi e => by have e' : i = w.heap.size + 1 + 1 := e; omega); clear hbY hkY HC2)
   | (refine wpList_store_var rfl 39 (.tmp 7) (.const (.int .i64 20)) rfl (w.heap.size + 1 + 1 + 1) rfl (.int .i64 20) rfl rfl 39 _ HD3 (by kernel_rfl) ?_; intro Y2 hb2 hk2)
   | fail)
  have c1 : Y2.cell? ⟨w.heap.size + 1 + 1, 0, none⟩ = some (.pointer none) := (HD2.out.kp hk2 (fun e => by have e' : w.heap.size + 1 + 1 = w.heap.size + 1 + 1 + 1 := e; omega)).cell rfl
  have c2 : Y2.cell? ⟨w.heap.size + 1 + 1 + 1, 0, none⟩ = some (.int .i64 20) := hb2.cell rfl
  refine bodyPost_ret (results_vars rfl _ _ (w.heap.size + 1 + 1) (w.heap.size + 1 + 1 + 1) (.pointer none) (.int .i64 20) rfl rfl ?_ ?_) rfl ?_
  ·clear c2 hb2 hk2; go_simp
  ·clear c1 hb2 hk2; go_simp
  ·exact⟨rfl, KY.out.trans' hk2 (fun i hi e => by have e' : i = w.heap.size + 1 + 1 + 1 := e; omega)⟩
theorem clear_bad (g : Nat) (A : Ar4) (w : World) (h : ¬Ar4.ok A = true) :
  Calls Tryz.prog 23 #[.pointer (some ⟨g, 0, none⟩), .agg #[.int .i64 A.1.1, .int .i64 A.1.2, .int .i64 A.2.1, .int .i64 A.2.2]] w fun e w' => e = .returned (.tuple #[.pointer none, .int .i64 1])/\Kp w w' Nul :=
 clear_no g _ _ _ _ w nil_ptr' (fun w => (pValidArea_any A.1.1 A.1.2 A.2.1 A.2.2 w).mono fun e w' q => ⟨by rw[q.1]; exact congrArg (fun b => Ending.returned (.bool b)) (show Ar4.ok A = false from Bool.eq_false_iff.2 h), Kp.of_gr q.2⟩)
theorem copy_bad (g : Nat) (A : Ar4) (t : Int×Int) (w : World) (h : ¬Ar4.ok A = true) :
  Calls Tryz.prog 16 #[.pointer (some ⟨g, 0, none⟩), .agg #[.int .i64 A.1.1, .int .i64 A.1.2, .int .i64 A.2.1, .int .i64 A.2.2], .agg #[.int .i64 t.1, .int .i64 t.2]] w fun e w' => e = .returned (.tuple #[.pointer none, .int .i64 1])/\Kp w w' Nul := by
 have hG := fun w => asGreat_at g A t w
 unfold agV at hG
 simp only[if_neg h] at hG
 exact copy_no g _ _ _ _ _ _ 1 w (by decide) hG
theorem copy_off (g : Nat) (A : Ar4) (t : Int×Int) (w : World) (h : Ar4.ok A = true) (hf : ¬fits A t = true) :
  Calls Tryz.prog 16 #[.pointer (some ⟨g, 0, none⟩), .agg #[.int .i64 A.1.1, .int .i64 A.1.2, .int .i64 A.2.1, .int .i64 A.2.2], .agg #[.int .i64 t.1, .int .i64 t.2]] w fun e w' => e = .returned (.tuple #[.pointer none, .int .i64 20])/\Kp w w' Nul := by
 have hG := fun w => asGreat_at g A t w
 unfold agV at hG
 simp only[if_pos h, if_neg hf] at hG
 exact copy_no g _ _ _ _ _ _ 20 w (by decide) hG
theorem fill_bad (g : Nat) (A : Ar4) (t : Int×Int) (w : World) (h : Ar4.ok A = true->¬vC t.1 t.2 = true) :
  Calls Tryz.prog 22 #[.pointer (some ⟨g, 0, none⟩), .agg #[.int .i64 t.1, .int .i64 t.2], .agg #[.int .i64 A.1.1, .int .i64 A.1.2, .int .i64 A.2.1, .int .i64 A.2.2]] w fun e w' => e = .returned (.tuple #[.pointer none, .int .i64 (if Ar4.ok A = true then 20 else 1)])/\Kp w w' Nul :=
 fill_no g _ _ _ _ _ _ (Ar4.ok A) w nil_ptr' (fun w => (pValidArea_any A.1.1 A.1.2 A.2.1 A.2.2 w).mono fun e w' q => ⟨q.1, Kp.of_gr q.2⟩)
  (fun hq w => (pValid_at t.1 t.2 w).mono fun e w' q => ⟨by rw[q.1]; exact congrArg (fun b => Ending.returned (.bool b)) (by simpa using h hq), by rw[q.2]; exact(Kp.refl w Nul).alloc _⟩)
end Go.Proofs.YtecjfnkakodebaaGreatDoor
