/-A grid's own steps: which blocks they touch; a content less. -/
import Derived.Test.YtecjfnkakodebaaGreatDoorQwXq
import Derived.Test.YtecjfnkakodebaaGreatDoorQwUj
import Derived.Test.YtecjfnkakodebaaGreatDoorQwQq
import Derived.Shelf.Unicode.ValidAny
import Derived.Test.YtecjfnkakodebaaGreatDoorProg
namespace Go.Proofs.YtecjfnkakodebaaGreatDoor
open Go.RowKit Go.Maps
mutual
theorem NdIn.monoC {w w' : World} {F F' : Nat->Prop} (hF : ∀b, F b->(∃o k x, w.cell? ⟨b, o, none⟩ = some (.int k x))->w'.heap[b]? = w.heap[b]? /\ F' b) {sl : Value} : ∀ {t : Nd}, NdIn w F sl t->NdIn w' F' sl t
 | .mk _ ts, h => by
  rw[NdIn] at h ⊢
  obtain⟨a, c, h1, h2, h3, h4⟩ := h
  refine⟨a, c, h1, h2, h3, ?_⟩
  rcases h4 with h4 | ⟨b, o, h4, h5, h6⟩
  ·exact .inl h4
  ·cases ts with
   | nil =>
    subst h4
    exact .inl ⟨rfl, .inr (by simp)⟩
   | cons t ts =>
    have hb : ∃o k x, w.cell? ⟨b, o, none⟩ = some (.int k x) := by
     rw[NdsIn] at h6
     obtain⟨⟨_, h7, _⟩, _⟩ := h6
     exact⟨o + 0, _, _, h7 0 _ rfl⟩
    exact .inr ⟨b, o, h4, (hF b h5 hb).2, NdsIn.monoC hF (hF b h5 hb).1 h6⟩
theorem NdsIn.monoC {w w' : World} {F F' : Nat->Prop} (hF : ∀b, F b->(∃o k x, w.cell? ⟨b, o, none⟩ = some (.int k x))->w'.heap[b]? = w.heap[b]? /\ F' b) {b : Nat} (hb : w'.heap[b]? = w.heap[b]?) : ∀ {ts : List Nd} {o : Nat}, NdsIn w F b o ts->NdsIn w' F' b o ts
 | [], _, _ => by rw[NdsIn]; trivial
 | t::ts, o, h => by
  rw[NdsIn] at h ⊢
  obtain⟨⟨sl, h1, h2⟩, h3⟩ := h
  exact⟨⟨sl, rangeAt_block h1 hb, NdIn.monoC hF h2⟩, NdsIn.monoC hF hb h3⟩
end
theorem cells_of_int {w : World} {b o : Nat} {k : IntKind} {x : Int} (h : w.cell? ⟨b, o, none⟩ = some (.int k x)) : ∃cs t f, w.heap[b]? = some (.cells cs t f)/\cs[o]? = some (.int k x) := by
 simp only[World.cell?] at h
 cases e : w.heap[b]? with
 | none => rw[e] at h; cases h
 | some ob =>
  rw[e] at h
  cases ob <;> simp at h
  exact⟨_, _, _, rfl, h⟩
abbrev GI (B : Nat) (w : World) (g : Nat) (L : List Cc) : Prop := GridIn w (fun i => B<=i) g L
theorem GI.blk {B : Nat} {w : World} {g : Nat} {L : List Cc} (h : GI B w g L) : ∃mv, Blk w g [.map mv] 96 := by
 obtain⟨_, ⟨hb, _⟩ | ⟨m, D, hb, _⟩⟩ := h
 ·exact⟨_, hb⟩
 ·exact⟨_, hb⟩
def delL (L : List Cc) (k : Int×Int) : List Cc := L.filter (fun x => decide (x.1≠k))
theorem delL_mem {L : List Cc} {k : Int×Int} (x : Cc) : x∈delL L k↔x∈L/\x.1≠k := by
 unfold delL
 rw[List.mem_filter]
 simp
theorem grid_del {w w' : World} {F : Nat->Prop} {D : DataW Value} {L : List Cc} {m n : Nat} {c r : Int} (hown : w.ownsMap Tryz.prog 32 rawE m n D) (hm : MapHas w F D L) (hc : I64 c) (hr : I64 r) (hold : ∀sl t, NdIn w F sl t->NdIn w' F sl t) :
  MapHas w' F (D.del (kl c r)) (delL L (c, r)) := by
 have hT := hown.tidy lawAddr
 have hne : ∀x y, I64 x->I64 y->(x, y)≠(c, r)->kl x y≠kl c r := fun x y hx hy h e => h (by
  have := kl_inj hx hy hc hr e
  exact Prod.ext this.1 this.2)
 refine⟨?_, fun x hx => hm.rng x ((delL_mem x).1 hx).1, fun x y hx hy => ?_, fun x y ct' h => ?_, List.Pairwise.filter _ hm.once⟩
 ·have h1 := size_del (k := kl c r) hT
  rw[hm.size] at h1
  unfold delL
  by_cases hh : Maps.has D (kl c r) = true
  ·obtain⟨ct', hmem⟩ := (hm.keys c r hc hr).1 hh
   have h2 := filt_one hm.once hmem
   rw[if_pos hh] at h1
   omega
  ·rw[if_neg hh] at h1
   rw[filt_none (fun ct' hmem => hh ((hm.keys c r hc hr).2 ⟨ct', hmem⟩))]
   omega
 ·by_cases e : (x, y) = (c, r)
  ·cases e
   rw[has_del_same]
   constructor
   ·intro h; cases h
   ·rintro⟨ct', h⟩; exact absurd rfl ((delL_mem _).1 h).2
  ·rw[has_del_other (hne x y hx hy e), hm.keys x y hx hy]
   constructor
   ·rintro⟨ct', h⟩; exact⟨ct', (delL_mem _).2 ⟨h, e⟩⟩
   ·rintro⟨ct', h⟩; exact⟨ct', ((delL_mem _).1 h).1⟩
 ·obtain⟨h, e⟩ := (delL_mem _).1 h
  have hxy := hm.rng _ h
  obtain⟨sl', e1, e2⟩ := hm.vals x y ct' h
  exact⟨sl', by rw[atKey_del_other (hne x y hxy.1 hxy.2 e)]; exact e1, hold _ _ e2⟩
theorem gi_len {B : Nat} {w : World} {g : Nat} {L : List Cc} (h : GI B w g L) : ∃mv, Blk w g [.map mv] 96/\∀w', Kp w w' Nul->∀ty, (Builtin.len_ #[94] ty #[.map mv]).run Tryz.prog w' = .ok (.int .i64 L.length) w' := by
 obtain⟨_, ⟨hb, rfl⟩ | ⟨m, D, hb, _, hne, hown, hm⟩⟩ := h
 ·exact⟨none, hb, fun w' _ ty => Maps.len_nil Tryz.underlying94 ty⟩
 ·refine⟨some m, hb, fun w' k ty => ?_⟩
  have := (ownsMap_block hown (k.block m hown.lt (fun x => x))).len Tryz.underlying94 ty
  rw[hm.size] at this
  exact this
end Go.Proofs.YtecjfnkakodebaaGreatDoor
namespace Go.Proofs.YtecjfnkakodebaaGreatDoor
open Go.RowKit Go.Maps
set_option maxRecDepth 20000 in
set_option maxHeartbeats 8000000 in
theorem has_at (g : Nat) (c r : Int) (mv : Option Nat) (cs : Array Value) (B : Bool) (w : World) (hcs : cs.size = 21) (hone : cs.all (·.oneCell') = true) (hlk : Lk w g c r mv (.agg cs) B) :
  Calls Tryz.prog 45 #[.pointer (some ⟨g, 0, none⟩), .agg #[.int .i64 c, .int .i64 r]] w fun e w' => e = .returned (.bool B)/\Kp w w' Nul := by
 obtain⟨W1, hW1⟩ : ∃W1, w.alloc (.cells #[.int .i64 c, .int .i64 r] 32) = W1 := ⟨_, rfl⟩
 have k1 : Kp w W1 Nul := by rw[<- hW1]; exact(Kp.refl w Nul).alloc _
 have hA1 : Blk W1 w.heap.size [.int .i64 c, .int .i64 r] 32 := by rw[<- hW1]; exact Blk.new w [.int .i64 c, .int .i64 r] _
 have hglt : g<w.heap.size := (Array.getElem?_eq_some_iff.1 hlk.cell).1
 have hg1 : Blk W1 g [.map mv] 96 := (k1.block g hglt (fun x => x)).trans hlk.cell
 have HS : Hid (∀wq, Kp W1 wq Nul->(wq.cell? ⟨w.heap.size, 0, none⟩ = some (.int .i64 c)/\wq.cell? ⟨w.heap.size, 1, none⟩ = some (.int .i64 r)/\wq.cell? ⟨g, 0, none⟩ = some (.map mv)/\(Instr.lookup 94 (.map mv) (.agg #[.int .i64 c, .int .i64 r]) true).run Tryz.prog wq = .ok (.tuple #[.agg cs, .bool B]) wq)) := fun wq k => ⟨(hA1.kp k (fun x => x)).cell rfl, (hA1.kp k (fun x => x)).cell rfl, (hg1.kp k (fun x => x)).cell rfl, hlk.two wq (fun m hm => by
  have h2 := (hlk.ne m hm).2
  have h3 := k1.size
  exact(k.block m (by omega) (fun x => x)).trans (k1.block m h2 (fun x => x)))⟩
 have HW1 : Hid (w.alloc (.cells #[.int .i64 c, .int .i64 r] 32) = W1) := hW1
 have HK1 : Hid (Kp w W1 Nul) := k1
 have HCS : Hid (cs.size = 21) := hcs
 have HONE : Hid (cs.all (·.oneCell') = true) := hone
 clear hW1 k1 hA1 hg1 hlk hglt hcs hone
 go_enter Tryz.func45, Tryz.ntmps45
 go_wp2_with fail
 rw[HW1.out]
 clear HW1
 refine wp_region_noPanic ?_
 refine wp_region_hel (fun w' : World => Kp W1 w' Nul) (by kernel_rfl) ((Kp.refl W1 _).drew) (fun hHeld => ?_)
 refine wpH_takes (i := 0) (v := ?_) (some 8) rfl rfl (by kernel_rfl) (fun _ _ _ h => h) (Or.inl ⟨by rfl, ?_⟩) hHeld ?_
 rotate_left
 ·intro w' hSw; obtain⟨s0, s1, s2, s3⟩ := HS.out _ hSw; clear hSw; go_simp; try with_reducible rfl
 simp only[Act.put,Sz0,Sz1,Sz2]
 refine wpH_takes (i := 1) (v := ?_) (some 9) rfl rfl (by kernel_rfl) (fun _ _ _ h => h) (Or.inl ⟨by rfl, ?_⟩) hHeld ?_
 rotate_left
 ·intro w' hSw; obtain⟨s0, s1, s2, s3⟩ := HS.out _ hSw; clear hSw; go_simp; try with_reducible rfl
 simp only[Act.put,Sz0,Sz1,Sz2]
 refine wpH_takes (i := 2) (v := ?_) (some 10) rfl rfl (by kernel_rfl) (fun _ _ _ h => h) (Or.inl ⟨by rfl, ?_⟩) hHeld ?_
 rotate_left
 ·intro w' hSw; obtain⟨s0, s1, s2, s3⟩ := HS.out _ hSw; clear hSw; go_simp; try with_reducible rfl
 simp only[Act.put,Sz0,Sz1,Sz2]
 refine wpH_takes (i := 3) (v := ?_) (some 11) rfl rfl (by kernel_rfl) (fun _ _ _ h => h) (Or.inl ⟨by rfl, ?_⟩) hHeld ?_
 rotate_left
 ·intro w' hSw; obtain⟨s0, s1, s2, s3⟩ := HS.out _ hSw; clear hSw; go_simp; try with_reducible rfl
 simp only[Act.put,Sz0,Sz1,Sz2]
 refine wpH_takes (i := 4) (v := ?_) (some 12) rfl rfl (by kernel_rfl) (fun _ _ _ h => h) (Or.inl ⟨by rfl, ?_⟩) hHeld ?_
 rotate_left
 ·intro w' hSw; obtain⟨s0, s1, s2, s3⟩ := HS.out _ hSw; clear hSw; go_simp; try with_reducible rfl
 simp only[Act.put,Sz0,Sz1,Sz2]
 refine wpH_takes (i := 5) (v := ?_) (some 13) rfl rfl (by kernel_rfl) (fun _ _ _ h => h) (Or.inl ⟨by rfl, ?_⟩) hHeld ?_
 rotate_left
 ·intro w' hSw; obtain⟨s0, s1, s2, s3⟩ := HS.out _ hSw; clear hSw; go_simp; try with_reducible rfl
 simp only[Act.put,Sz0,Sz1,Sz2]
 refine wpH_takes (i := 6) (v := ?_) (some 7) rfl rfl (by kernel_rfl) (fun _ _ _ h => h) (Or.inl ⟨by rfl, ?_⟩) hHeld ?_
 rotate_left
 ·intro w' hSw; obtain⟨s0, s1, s2, s3⟩ := HS.out _ hSw; clear hSw; go_simp; try with_reducible rfl
 simp only[Act.put,Sz0,Sz1,Sz2]
 refine wpH_takes (i := 7) (v := ?_) (some 14) rfl rfl (by kernel_rfl) (fun _ _ _ h => h) (Or.inl ⟨by rfl, ?_⟩) hHeld ?_
 rotate_left
 ·intro w' hSw; obtain⟨s0, s1, s2, s3⟩ := HS.out _ hSw; clear hSw; go_simp; try with_reducible rfl
 simp only[Act.put,Sz0,Sz1,Sz2]
 refine wpH_takes (i := 8) (v := ?_) (some 15) rfl rfl (by kernel_rfl) (fun _ _ _ h => h) (Or.inl ⟨by rfl, ?_⟩) hHeld ?_
 rotate_left
 ·intro w' hSw; obtain⟨s0, s1, s2, s3⟩ := HS.out _ hSw; clear hSw; go_simp; try with_reducible rfl
 simp only[Act.put,Sz0,Sz1,Sz2]
 refine wpH_step (i := 9) (by kernel_rfl) rfl rfl (fun K hK => ?_)
 go_simp
 obtain⟨W2, hW2⟩ : ∃W2, (W1.alloc (.cells #[.int .i64 0, .int .i64 0, .float .f64 0, .string ⟨#[]⟩, .bool false, .int .i64 0, .int .i64 0, .int .i64 0, .float .f64 0, .string ⟨#[]⟩, .bool false, .int .i64 0, .int .i64 0, .int .i64 0, .bool false, .bool false, .int .i64 0, .int .i64 0, .bool false, .bool false, .slice none 0 0] 50)).drew = W2 := ⟨_, rfl⟩
 have k12 : Kp W1 W2 Nul := by rw[<- hW2]; exact((Kp.refl W1 Nul).alloc _).drew
 have hB2 : W2.heap[W1.heap.size]? = some (.cells #[.int .i64 0, .int .i64 0, .float .f64 0, .string ⟨#[]⟩, .bool false, .int .i64 0, .int .i64 0, .int .i64 0, .float .f64 0, .string ⟨#[]⟩, .bool false, .int .i64 0, .int .i64 0, .int .i64 0, .bool false, .bool false, .int .i64 0, .int .i64 0, .bool false, .bool false, .slice none 0 0] 50 (0, 0)) := by rw[<- hW2]; exact heap_alloc_new W1 _
 rw[hW2]
 refine hK.out _ _ k12 (fun hHeld2 => ?_)
 clear hK K hHeld hW2
 refine wpH_step (i := 10) (by kernel_rfl) rfl rfl (fun K hK => ?_)
 refine wp_store_mid 50 (.tmp 5) (.tmp 14) rfl W1.heap.size 0 cs rfl rfl (there_of_block hB2 _ _ (by rw[HCS.out]; simp)) (by rw[HCS.out]; exact infoContent) HONE.out ?_
 obtain⟨W5, hW5⟩ : ∃W5, W2.setCells W1.heap.size 0 cs.toList = W5 := ⟨_, rfl⟩
 have k25 : Kp W2 W5 (fun i => i = W1.heap.size) := by rw[<- hW5]; exact setCells_kp (fun i => i = W1.heap.size) rfl _ _ _
 have k15 : Kp W1 W5 Nul := k12.trans' k25 (fun i hi e => by have : i = W1.heap.size := e; omega)
 show K _ (W2.setCells W1.heap.size 0 cs.toList)
 rw[hW5]
 refine hK.out _ _ k15 (fun hHeld3 => ?_)
 have HEND : Hid (Kp w W5 Nul) := HK1.out.trans k15
 clear hK K hHeld2 k12 k25 k15 hB2 hW5 HS HK1
 refine wpH_takes (i := 11) (v := ?_) (some 6) rfl rfl (by kernel_rfl) (fun _ _ _ h => h) (Or.inl ⟨by rfl, ?_⟩) hHeld3 ?_
 rotate_left
 ·intro w' hSw; clear hSw; go_simp; try with_reducible rfl
 simp only[Act.put, List.setIfInBounds_toArray]
 refine wpAnyH_done (by kernel_rfl) ?_ _
 refine NoPanic.normal ?_
 clear hHeld3
 go_wp2_with fail
 go_ret
 exact⟨rfl, HEND.out⟩
end Go.Proofs.YtecjfnkakodebaaGreatDoor
namespace Go.Proofs.YtecjfnkakodebaaGreatDoor
open Go.RowKit Go.Maps
theorem GI.once {B : Nat} {w : World} {g : Nat} {L : List Cc} (h : GI B w g L) : L.Pairwise (fun x y => x.1≠y.1) := by
 obtain⟨_, ⟨_, rfl⟩ | ⟨m, D, _, _, _, _, hm⟩⟩ := h
 ·exact List.Pairwise.nil
 ·exact hm.once
theorem putL_in {L : List Cc} {k : Int×Int} {ct : Ct} (ho : L.Pairwise (fun x y => x.1≠y.1)) (h : ∃c', (k, c')∈L) : (putL L k ct).length = L.length := by
 obtain⟨c', hc⟩ := h
 unfold putL
 rw[List.length_cons, filt_one ho hc]
theorem putL_out {L : List Cc} {k : Int×Int} {ct : Ct} (h : ∀c', (k, c')∉L) : (putL L k ct).length = L.length + 1 := by
 unfold putL
 rw[List.length_cons, filt_none h]
theorem has_gi {B0 : Nat} {w : World} {g : Nat} {L : List Cc} (h : GI B0 w g L) {c r : Int} (hc : I64 c) (hr : I64 r) :
  ∃B, ((B = true/\∃ct, ((c, r), ct)∈L)∨(B = false/\∀ct, ((c, r), ct)∉L))/\∀wq, Kp w wq Nul->Calls Tryz.prog 45 #[.pointer (some ⟨g, 0, none⟩), .agg #[.int .i64 c, .int .i64 r]] wq fun e w' => e = .returned (.bool B)/\Kp wq w' Nul := by
 obtain⟨mv, v, B, hlk, hv⟩ := lk_of h hc hr
 have hlk' : ∀wq, Kp w wq Nul->Lk wq g c r mv v B := fun wq k => ⟨(k.block g (Array.getElem?_eq_some_iff.1 hlk.cell).1 (fun x => x)).trans hlk.cell, fun m hm => ⟨(hlk.ne m hm).1, Nat.lt_of_lt_of_le (hlk.ne m hm).2 k.size⟩, fun w' hw' => hlk.two w' (fun m hm => (hw' m hm).trans (k.block m (hlk.ne m hm).2 (fun x => x))), fun w' hw' => hlk.one w' (fun m hm => (hw' m hm).trans (k.block m (hlk.ne m hm).2 (fun x => x)))⟩
 rcases hv with ⟨rfl, ct, sl, h1, rfl, h3⟩ | ⟨rfl, rfl, h2⟩
 ·exact⟨true, .inl ⟨rfl, ct, h1⟩, fun wq k => has_at g c r mv (ct.cells sl).toArray true wq rfl (ct.one h3.one) (hlk' wq k)⟩
 ·exact⟨false, .inr ⟨rfl, h2⟩, fun wq k => has_at g c r mv _ false wq rfl (Ct.one ⟨0, ⟨0, 0, ⟨#[]⟩, false, 0⟩, zNd⟩ (sl := .slice none 0 0) rfl) (hlk' wq k)⟩
set_option maxRecDepth 20000 in
set_option maxHeartbeats 8000000 in
theorem put_full (B g : Nat) (c r : Int) (hx : vC c r = true) (ct : Ct) (hct : ct.k≠0) (sl : Value) (L : List Cc) (w : World) (h : GI B w g L) (hlen : 4096<=L.length) (hno : ∀c', ((c, r), c')∉L)
  (hval : ∀wq, Kp w wq Nul->Calls Tryz.prog 43 #[ct.val sl] wq fun e w' => e = .returned (.bool true)/\Kp wq w' Nul) :
  Calls Tryz.prog 11 #[.pointer (some ⟨g, 0, none⟩), .agg #[.int .i64 c, .int .i64 r], ct.val sl] w fun e w' => e = .returned (.int .i64 41)/\Kp w w' Nul := by
 have hi : I64 c/\I64 r := by
  have := (vC_iff c r).1 hx
  unfold I64
  omega
 obtain⟨W1, hW1⟩ : ∃W1, (w.alloc (.cells #[.int .i64 c, .int .i64 r] 32)).alloc (.cells (ct.cells sl).toArray 50) = W1 := ⟨_, rfl⟩
 have k1 : Kp w W1 Nul := by rw[<- hW1]; exact((Kp.refl w Nul).alloc _).alloc _
 have hA1 : Blk W1 w.heap.size [.int .i64 c, .int .i64 r] 32 := by rw[<- hW1]; exact(Blk.new w [.int .i64 c, .int .i64 r] _).alloc _
 have hC1 : Blk W1 (w.heap.size + 1) (ct.cells sl) 50 := by
  have := Blk.new (w.alloc (.cells #[.int .i64 c, .int .i64 r] 32)) (ct.cells sl) 50
  rw[World.size_alloc] at this
  rw[<- hW1]; exact this
 have HC1 : Hid (((w.alloc (.cells #[.int .i64 c, .int .i64 r] 32)).alloc (.cells (ct.cells sl).toArray 50)).heap[w.heap.size + 1]? = some (.cells (ct.cells sl).toArray 50 (0, 0))) := by show _ = _; rw[hW1]; exact hC1
 have HW1 : Hid ((w.alloc (.cells #[.int .i64 c, .int .i64 r] 32)).alloc (.cells #[.int .i64 ct.k, .int .i64 ct.v.k, .float .f64 ct.v.x, .string ct.v.s, .bool ct.v.b, .int .i64 ct.v.f, .int .i64 ct.t.hd.k, .int .i64 ct.t.hd.o, .float .f64 ct.t.hd.x, .string ct.t.hd.s, .bool ct.t.hd.b, .int .i64 ct.t.hd.f, .int .i64 ct.t.hd.c1, .int .i64 ct.t.hd.r1, .bool ct.t.hd.p1, .bool ct.t.hd.q1, .int .i64 ct.t.hd.c2, .int .i64 ct.t.hd.r2, .bool ct.t.hd.p2, .bool ct.t.hd.q2, sl] 50) = W1) := hW1
 obtain⟨mv, hgb⟩ := h.blk
 have hglt0 : g<w.heap.size := hgb.lt
 have hgB : B<=g := h.1
 have HS : Hid (∀wq, Kp W1 wq Nul->(wq.cell? ⟨w.heap.size, 0, none⟩ = some (.int .i64 c)/\wq.cell? ⟨w.heap.size, 1, none⟩ = some (.int .i64 r)/\wq.cell? ⟨w.heap.size + 1, 0, none⟩ = some (.int .i64 ct.k))) := fun wq k => ⟨(hA1.kp k (fun x => x)).cell rfl, (hA1.kp k (fun x => x)).cell rfl, (hC1.kp k (fun x => x)).cell (i := 0) rfl⟩
 have HV : Hid (Calls Tryz.prog 43 #[ct.val sl] W1 fun e w' => e = .returned (.bool true)/\Kp W1 w' Nul) := hval W1 k1
 have HA : Hid (∀w, Calls Tryz.prog 44 #[.agg #[.int .i64 c, .int .i64 r]] w fun e w' => e = .returned (.bool true)/\Kp w w' Nul) := fun w => (pValid_at c r w).mono fun e w' ⟨h1, h2⟩ => ⟨by rw[h1, hx], by rw[h2]; exact(Kp.refl w Nul).alloc _⟩
 have HK1 : Hid (Kp w W1 Nul) := k1
 obtain⟨mv', hgb', hlenq⟩ := gi_len h
 have HG : Hid (∀wq, Kp W1 wq Nul->wq.cell? ⟨g, 0, none⟩ = some (.map mv')/\∀ty, (Builtin.len_ #[94] ty #[.map mv']).run Tryz.prog wq = .ok (.int .i64 L.length) wq) := fun wq k => ⟨(hgb'.kp (k1.trans k) (fun x => x)).cell rfl, hlenq wq (k1.trans k)⟩
 obtain⟨b0, hB, hhas⟩ := has_gi h hi.1 hi.2
 have hBf : b0 = false := by
  rcases hB with hB | hB
  ·obtain⟨_, c', hc'⟩ := hB; exact absurd hc' (hno c')
  ·exact hB.1
 subst hBf
 have HH : Hid (∀wq, Kp W1 wq Nul->Calls Tryz.prog 45 #[.pointer (some ⟨g, 0, none⟩), .agg #[.int .i64 c, .int .i64 r]] wq fun e w' => e = .returned (.bool false)/\Kp wq w' Nul) := fun wq k => hhas wq (k1.trans k)
 have hk0 : (ct.k==0) = false := by simpa using hct
 have j : (4096 : Int)<=(L.length : Int) := by omega
 clear hval hW1 k1 hA1 hC1 hx hi hct hglt0 hgB h hlen hno hgb hgb' hlenq hhas hB mv
 go_enter Tryz.func11, Tryz.ntmps11
 go_wp2_with (first | (refine load_content_law rfl (.tmp 5) rfl (w.heap.size + 1) rfl _ HC1.out rfl ?_) | fail)
 rw[HW1.out]
 refine HV.out.mono ?_
 rintro e w2 ⟨rfl, hk2⟩
 obtain⟨a1, a2, a3⟩ := HS.out w2 hk2
 have HK2 : Hid (Kp W1 w2 Nul) := hk2
 clear hk2 HV HC1 HW1
 go_wp2_with fail
 refine(HA.out _).mono ?_
 rintro e w3 ⟨rfl, hk3⟩
 obtain⟨b1, b2, b3⟩ := HS.out w3 (HK2.out.trans hk3)
 obtain⟨b4, hl3⟩ := HG.out w3 (HK2.out.trans hk3)
 have HK3 : Hid (Kp W1 w3 Nul) := HK2.out.trans hk3
 clear hk3 HA a1 a2 a3 HK2
 go_wp2_with fail
 refine(HH.out _ HK3.out).mono ?_
 rintro e w4 ⟨rfl, hk4⟩
 have HK4 : Hid (Kp w w4 Nul) := (HK1.out.trans HK3.out).trans hk4
 clear hk4 b1 b2 b3 b4 hl3 HK3
 go_wp2_with fail
 go_ret
 exact⟨rfl, HK4.out⟩
end Go.Proofs.YtecjfnkakodebaaGreatDoor
namespace Go.Proofs.YtecjfnkakodebaaGreatDoor
open Go.RowKit Go.Maps
def Sm (w : World) (g : Nat) : Nat->Prop := fun i => i = g∨(w.heap[g]? = some (.cells #[.map (some i)] 96 (0, 0))/\∀cs t f, w.heap[i]? ≠ some (.cells cs t f))
structure Km (g : Nat) (w w' : World) : Prop where
 kp : Kp w w' (Sm w g)
 own : ∀m, w'.heap[g]? = some (.cells #[.map (some m)] 96 (0, 0))->w.heap[g]? = some (.cells #[.map (some m)] 96 (0, 0))∨w.heap.size<=m
theorem Km.trans {g : Nat} {w w1 w2 : World} (h : Km g w w1) (k : Km g w1 w2) : Km g w w2 := by
 refine⟨⟨k.kp.os.trans h.kp.os, k.kp.tape.trans h.kp.tape, k.kp.output.trans h.kp.output, Nat.le_trans h.kp.size k.kp.size, fun i hi hs => ?_⟩, fun m hm => ?_⟩
 ·have h1 := h.kp.block i hi hs
  refine(k.kp.block i (Nat.lt_of_lt_of_le hi h.kp.size) (fun q => ?_)).trans h1
  rcases q with q | ⟨q1, q2⟩
  ·exact hs (.inl q)
  ·rcases h.own i q1 with e | e
   ·exact hs (.inr ⟨e, fun cs t f q => q2 cs t f (h1.trans q)⟩)
   ·omega
 ·rcases k.own m hm with e | e
  ·exact h.own m e
  ·exact .inr (Nat.le_trans h.kp.size e)
theorem Km.of_nul {g : Nat} {w w' : World} (h : Kp w w' Nul) (hg : g<w.heap.size) : Km g w w' :=
 ⟨h.of_nul, fun m hm => .inl (by rw[<- h.block g hg (fun x => x)]; exact hm)⟩
theorem sm_blk {g b : Nat} {w w' : World} {cs : List Value} {t : TypeId} (h : Kp w w' (Sm w g)) (hb : Blk w b cs t) (hne : b≠g) : Blk w' b cs t :=
 hb.kp h (fun q => by
  rcases q with q | q
  ·exact hne q
  ·exact q.2 _ _ _ hb)
theorem Km.blk {g b : Nat} {w w' : World} {cs : List Value} {t : TypeId} (h : Km g w w') (hb : Blk w b cs t) (hne : b≠g) : Blk w' b cs t := sm_blk h.kp hb hne
theorem no_int_map {w : World} {g o : Nat} {mv : Option Nat} {k : IntKind} {x : Int} (hg : Blk w g [.map mv] 96) (hc : w.cell? ⟨g, o, none⟩ = some (.int k x)) : False := by
 rw[hg.at'] at hc
 cases o <;> simp at hc
theorem NdIn.km {g : Nat} {w w' : World} {F : Nat->Prop} {sl : Value} {t : Nd} (h : NdIn w F sl t) (k : Km g w w') {mv : Option Nat} (hg : Blk w g [.map mv] 96) : NdIn w' F sl t :=
 h.monoC fun b hb hc => by
  obtain⟨o, q, x, hc⟩ := hc
  obtain⟨cs, ty, f, e1, e2⟩ := cells_of_int hc
  refine⟨k.kp.block b (Array.getElem?_eq_some_iff.1 e1).1 (fun q => ?_), hb⟩
  rcases q with q | q
  ·subst q; exact no_int_map hg hc
  ·exact q.2 _ _ _ e1
theorem map_no_cells {w : World} {m n : Nat} {D : DataW Value} (hown : w.ownsMap Tryz.prog 32 rawE m n D) : ∀cs t f, w.heap[m]? ≠ some (.cells cs t f) := fun cs t f q => by
 obtain⟨es, clock, h1, _⟩ := hown
 rw[h1] at q; cases q
theorem GridIn.mono {w : World} {F G : Nat->Prop} {g : Nat} {L : List Cc} (h : GridIn w F g L) (hFG : ∀i, F i->G i) : GridIn w G g L := by
 obtain⟨hg, ⟨q1, q2⟩ | ⟨m, D, q1, q2, q3, q4, q5⟩⟩ := h
 ·exact⟨hFG _ hg, .inl ⟨q1, q2⟩⟩
 ·exact⟨hFG _ hg, .inr ⟨m, D, q1, hFG _ q2, q3, q4, ⟨q5.size, q5.rng, q5.keys, fun c r ct hc => by obtain⟨sl, e1, e2⟩ := q5.vals c r ct hc; exact⟨sl, e1, e2.mono (fun b hb _ => ⟨rfl, hFG _ hb⟩)⟩, q5.once⟩⟩⟩
theorem keep_m (G : Nat->Prop) (g : Nat) (c r : Int) (hc : I64 c) (hr : I64 r) (ct : Ct) (sl : Value) (L : List Cc) (w : World) (h : GridIn w G g L) (hroom : (putL L (c, r) ct).length<=4096) (hin : NdIn w G sl ct.t) (hnew : ∀i, w.heap.size<=i->G i) :
  Calls Tryz.prog 46 #[.pointer (some ⟨g, 0, none⟩), .agg #[.int .i64 c, .int .i64 r], ct.val sl] w fun e w' => e = .returned (.tuple #[])/\GridIn w' G g (putL L (c, r) ct)/\Km g w w' := by
 obtain⟨hg, ⟨hb, rfl⟩ | ⟨m, D, hb, hFm, hne, hown, hm⟩⟩ := h
 ·have hb' : Blk w g [.map none] 96 := hb
  have hin' : NdIn w (fun b => ((b = g∨(∃cs t f, w.heap[b]? = some (.cells cs t f))∨w.heap.size<=b)/\G b)/\b≠g/\b<w.heap.size) sl ct.t := hin.monoC fun b hG hc => by
   obtain⟨o, q, x, hc⟩ := hc
   obtain⟨cs, ty, f, e1, e2⟩ := cells_of_int hc
   exact⟨rfl, ⟨.inr (.inl ⟨cs, ty, f, e1⟩), hG⟩, fun e => by subst e; exact no_int_map hb' hc, (Array.getElem?_eq_some_iff.1 e1).1⟩
  refine(keep_first g c r hc hr ct sl (fun b => (b = g∨(∃cs t f, w.heap[b]? = some (.cells cs t f))∨w.heap.size<=b)/\G b) w hb ⟨.inl rfl, hg⟩ (fun i hi => ⟨.inr (.inr hi), hnew i hi⟩) hin').mono ?_
  rintro e w' ⟨rfl, h1, h2⟩
  refine⟨rfl, GridIn.mono h1 (fun i q => q.2), h2.mono (fun i _ e => .inl e), fun m hm => ?_⟩
  ·obtain⟨_, ⟨q1, q2⟩ | ⟨m', D, q1, q2, q3, q4, q5⟩⟩ := h1
   ·rw[q1] at hm; simp at hm
   ·rw[q1] at hm
    have e : m' = m := by simpa using hm
    subst e
    rcases q2.1 with q | ⟨cs, t, f, q⟩ | q
    ·exact absurd q q3
    ·exfalso
     refine map_no_cells q4 cs t f ((h2.block m' (Array.getElem?_eq_some_iff.1 q).1 q3).trans q)
    ·exact .inr q
 ·have hbk : Blk w g [.map (some m)] 96 := hb
  have kmof : ∀w', Kp w w' (fun i => i = m)->Km g w w' := fun w' k => ⟨k.mono (fun i _ e => by have e' : i = m := e; subst e'; exact .inr ⟨hb, map_no_cells hown⟩), fun m' hm' => .inl (by rw[<- k.block g hbk.lt (fun e => hne e.symm)]; exact hm')⟩
  refine(keep_more g m c r hc hr ct sl G D L w hb hg hFm hne hown hm hroom hin (fun w' hk sl t ht => ht.km (kmof w' hk) hbk)).mono ?_
  rintro e w' ⟨rfl, h1, h2⟩
  exact⟨rfl, h1, kmof w' h2⟩
theorem gi_del_m {w : World} {G : Nat->Prop} {g : Nat} {L : List Cc} (h : GridIn w G g L) {c r : Int} (hc : I64 c) (hr : I64 r) : ∃mv w', w.cell? ⟨g, 0, none⟩ = some (.map mv)/\(∀ty, (Builtin.delete_ #[94, 32] ty #[.map mv, .agg #[.int .i64 c, .int .i64 r]]).run Tryz.prog w = .ok (.tuple #[]) w')/\GridIn w' G g (delL L (c, r))/\Km g w w' := by
 have hkey := kl_key hc hr
 obtain⟨hg, ⟨hb, rfl⟩ | ⟨m, D, hb, hFm, hne, hown, hm⟩⟩ := h
 ·have hbk : Blk w g [.map none] 96 := hb
  exact⟨none, w, Blk.cell (cs := [.map none]) hb rfl, fun ty => Maps.drop_nil lawAddr Tryz.underlying94 hkey ty, ⟨hg, .inl ⟨hb, rfl⟩⟩, Km.of_nul (Kp.refl _ _) hbk.lt⟩
 ·have hbk : Blk w g [.map (some m)] 96 := hb
  obtain⟨w', h1, h2, h3⟩ := hown.drop lawAddr Tryz.underlying94 hkey 0
  have k := Kp.of_turned h3
  have km : Km g w w' := ⟨k.mono (fun i _ e => by have e' : i = m := e; subst e'; exact .inr ⟨hb, map_no_cells hown⟩), fun m' hm' => .inl (by rw[<- k.block g hbk.lt (fun e => hne e.symm)]; exact hm')⟩
  have hd := grid_del hown hm hc hr (fun sl t ht => ht.km km hbk)
  exact⟨some m, w', Blk.cell (cs := [.map (some m)]) hb rfl, fun ty => h1, ⟨hg, .inr ⟨m, _, (k.block g hbk.lt (fun e => hne e.symm)).trans hb, hFm, hne, h2, hd⟩⟩, km⟩
end Go.Proofs.YtecjfnkakodebaaGreatDoor
namespace Go.Proofs.YtecjfnkakodebaaGreatDoor
open Go.RowKit Go.Maps
set_option maxRecDepth 20000 in
set_option maxHeartbeats 8000000 in
theorem put_m (G : Nat->Prop) (g : Nat) (c r : Int) (hx : vC c r = true) (ct : Ct) (hct : ct.k≠0) (sl : Value) (L : List Cc) (w : World) (h : GI 0 w g L) (hG : GridIn w G g L) (hnew : ∀i, w.heap.size<=i->G i) (hlen : L.length<=4096) (hroom : L.length<4096∨∃c', ((c, r), c')∈L)
  (hval : ∀wq, Kp w wq Nul->Calls Tryz.prog 43 #[ct.val sl] wq fun e w' => e = .returned (.bool true)/\Kp wq w' Nul)
  (hcp : ∀wq, Kp w wq Nul->Calls Tryz.prog 47 #[ct.val sl] wq fun e w' => ∃sl' fp, e = .returned ((cpC ct).val sl')/\Own w' wq.heap.size sl' (cpC ct).t fp/\Kp wq w' Nul) :
  Calls Tryz.prog 11 #[.pointer (some ⟨g, 0, none⟩), .agg #[.int .i64 c, .int .i64 r], ct.val sl] w fun e w' => e = .returned (.int .i64 0)/\GridIn w' G g (putL L (c, r) (cpC ct))/\Km g w w' := by
 have hi : I64 c/\I64 r := by
  have := (vC_iff c r).1 hx
  unfold I64
  omega
 obtain⟨W1, hW1⟩ : ∃W1, (w.alloc (.cells #[.int .i64 c, .int .i64 r] 32)).alloc (.cells (ct.cells sl).toArray 50) = W1 := ⟨_, rfl⟩
 have k1 : Kp w W1 Nul := by rw[<- hW1]; exact((Kp.refl w Nul).alloc _).alloc _
 have hA1 : Blk W1 w.heap.size [.int .i64 c, .int .i64 r] 32 := by rw[<- hW1]; exact(Blk.new w [.int .i64 c, .int .i64 r] _).alloc _
 have hC1 : Blk W1 (w.heap.size + 1) (ct.cells sl) 50 := by
  have := Blk.new (w.alloc (.cells #[.int .i64 c, .int .i64 r] 32)) (ct.cells sl) 50
  rw[World.size_alloc] at this
  rw[<- hW1]; exact this
 have HC1 : Hid (((w.alloc (.cells #[.int .i64 c, .int .i64 r] 32)).alloc (.cells (ct.cells sl).toArray 50)).heap[w.heap.size + 1]? = some (.cells (ct.cells sl).toArray 50 (0, 0))) := by show _ = _; rw[hW1]; exact hC1
 have HW1 : Hid ((w.alloc (.cells #[.int .i64 c, .int .i64 r] 32)).alloc (.cells #[.int .i64 ct.k, .int .i64 ct.v.k, .float .f64 ct.v.x, .string ct.v.s, .bool ct.v.b, .int .i64 ct.v.f, .int .i64 ct.t.hd.k, .int .i64 ct.t.hd.o, .float .f64 ct.t.hd.x, .string ct.t.hd.s, .bool ct.t.hd.b, .int .i64 ct.t.hd.f, .int .i64 ct.t.hd.c1, .int .i64 ct.t.hd.r1, .bool ct.t.hd.p1, .bool ct.t.hd.q1, .int .i64 ct.t.hd.c2, .int .i64 ct.t.hd.r2, .bool ct.t.hd.p2, .bool ct.t.hd.q2, sl] 50) = W1) := hW1
 obtain⟨mv, hgb⟩ := h.blk
 have hglt0 : g<w.heap.size := hgb.lt
 have HGL0 : Hid (g<w.heap.size) := hglt0
 have HGL : Hid (g<W1.heap.size) := Nat.lt_of_lt_of_le hglt0 k1.size
 have HS : Hid (∀wq, Kp W1 wq Nul->(wq.cell? ⟨w.heap.size, 0, none⟩ = some (.int .i64 c)/\wq.cell? ⟨w.heap.size, 1, none⟩ = some (.int .i64 r)/\wq.cell? ⟨w.heap.size + 1, 0, none⟩ = some (.int .i64 ct.k))) := fun wq k => ⟨(hA1.kp k (fun x => x)).cell rfl, (hA1.kp k (fun x => x)).cell rfl, (hC1.kp k (fun x => x)).cell (i := 0) rfl⟩
 have HV : Hid (Calls Tryz.prog 43 #[ct.val sl] W1 fun e w' => e = .returned (.bool true)/\Kp W1 w' Nul) := hval W1 k1
 have HA : Hid (∀w, Calls Tryz.prog 44 #[.agg #[.int .i64 c, .int .i64 r]] w fun e w' => e = .returned (.bool true)/\Kp w w' Nul) := fun w => (pValid_at c r w).mono fun e w' ⟨h1, h2⟩ => ⟨by rw[h1, hx], by rw[h2]; exact(Kp.refl w Nul).alloc _⟩
 have HK1 : Hid (Kp w W1 Nul) := k1
 have HS2 : Hid (∀wq, Kp W1 wq (Sm W1 g)->(wq.cell? ⟨w.heap.size, 0, none⟩ = some (.int .i64 c)/\wq.cell? ⟨w.heap.size, 1, none⟩ = some (.int .i64 r)/\Blk wq (w.heap.size + 1) (ct.cells sl) 50)) := fun wq k => ⟨(sm_blk k hA1 (by omega)).cell rfl, (sm_blk k hA1 (by omega)).cell rfl, sm_blk k hC1 (by omega)⟩
 have HCp : Hid (∀wq, Kp W1 wq Nul->Calls Tryz.prog 47 #[ct.val sl] wq fun e w' => ∃sl' fp, e = .returned ((cpC ct).val sl')/\Own w' wq.heap.size sl' (cpC ct).t fp/\Kp wq w' Nul) := fun wq k => hcp wq (k1.trans k)
 have HKeep : Hid (∀wq sl', Kp W1 wq Nul->NdIn wq (fun b => W1.heap.size<=b/\b<wq.heap.size) sl' (cpC ct).t->Calls Tryz.prog 46 #[.pointer (some ⟨g, 0, none⟩), .agg #[.int .i64 c, .int .i64 r], (cpC ct).val sl'] wq fun e w' => e = .returned (.tuple #[])/\GridIn w' G g (putL L (c, r) (cpC ct))/\Km g wq w') := fun wq sl' k hin => by
  refine keep_m G g c r hi.1 hi.2 (cpC ct) sl' L wq (hG.kp (k1.trans k)) ?_ (hin.mono (fun b hb _ => ⟨rfl, hnew b (Nat.le_trans k1.size hb.1)⟩)) (fun i hi => hnew i (Nat.le_trans (k1.trans k).size hi))
  by_cases hn : ∃c', ((c, r), c')∈L
  ·rw[putL_in h.once hn]; exact hlen
  ·rw[putL_out (fun c' hc' => hn ⟨c', hc'⟩)]
   rcases hroom with h | h
   ·omega
   ·exact absurd h hn
 obtain⟨mv', hgb', hlenq⟩ := gi_len h
 have HG : Hid (∀wq, Kp W1 wq Nul->wq.cell? ⟨g, 0, none⟩ = some (.map mv')/\∀ty, (Builtin.len_ #[94] ty #[.map mv']).run Tryz.prog wq = .ok (.int .i64 L.length) wq) := fun wq k => ⟨(hgb'.kp (k1.trans k) (fun x => x)).cell rfl, hlenq wq (k1.trans k)⟩
 obtain⟨b0, hB, hhas⟩ := has_gi h hi.1 hi.2
 have HH : Hid (∀wq, Kp W1 wq Nul->Calls Tryz.prog 45 #[.pointer (some ⟨g, 0, none⟩), .agg #[.int .i64 c, .int .i64 r]] wq fun e w' => e = .returned (.bool b0)/\Kp wq w' Nul) := fun wq k => hhas wq (k1.trans k)
 have HRoom : Hid (¬L.length<4096->b0 = true) := fun hn => by
  rcases hroom with h | h
  ·exact absurd h hn
  ·rcases hB with hB | hB
   ·exact hB.1
   ·obtain⟨c', hc'⟩ := h; exact absurd hc' (hB.2 c')
 have hk0 : (ct.k==0) = false := by simpa using hct
 have HL : Hid (L.length<=4096) := hlen
 clear hval hcp hW1 k1 hA1 hC1 hx hi hct hglt0 h hlen hroom hgb hgb' hlenq hhas hB mv
 go_enter Tryz.func11, Tryz.ntmps11
 go_wp2_with (first | (refine load_content_law rfl (.tmp 5) rfl (w.heap.size + 1) rfl _ HC1.out rfl ?_) | fail)
 rw[HW1.out]
 refine HV.out.mono ?_
 rintro e w2 ⟨rfl, hk2⟩
 obtain⟨a1, a2, a3⟩ := HS.out w2 hk2
 have HK2 : Hid (Kp W1 w2 Nul) := hk2
 clear hk2 HV HC1 HW1
 go_wp2_with fail
 refine(HA.out _).mono ?_
 rintro e w3 ⟨rfl, hk3⟩
 obtain⟨b1, b2, b3⟩ := HS.out w3 (HK2.out.trans hk3)
 obtain⟨b4, hl3⟩ := HG.out w3 (HK2.out.trans hk3)
 have HK3 : Hid (Kp W1 w3 Nul) := HK2.out.trans hk3
 clear hk3 HA a1 a2 a3 HK2
 by_cases hl : L.length<4096
 ·have j : ¬(4096 : Int)<=(L.length : Int) := by omega
  have j2 : decide ((4096 : Int)<=(L.length : Int)) = false := by simp; omega
  go_wp2_with fail
  refine wp_region_noPanic ?_
  refine wp_region_hel (fun w' : World => Kp W1 w' (Sm W1 g)) (by kernel_rfl) (HK3.out.of_nul.drew) (fun hHeld => ?_)
  have tok0 : True := trivial
  have tok1 : True := trivial
  iterate 2 ((first | (clear tok0; refine wpH_takes (i := 0) (v := ?_) (some 41) rfl rfl (by kernel_rfl) (fun _ _ _ h => h) (Or.inl ⟨by rfl, ?_⟩) hHeld ?_) | (clear tok1; refine wpH_takes (i := 1) (v := ?_) (some 42) rfl rfl (by kernel_rfl) (fun _ _ _ h => h) (Or.inl ⟨by rfl, ?_⟩) hHeld ?_)); rotate_left; (· intro w hSw; obtain⟨s0, s1, _⟩ := HS2.out _ hSw; clear hSw; go_simp; try with_reducible rfl); simp only[Act.put,Sz0,Sz1,Sz2])
  refine wpH_takes (i := 2) (v := ct.val sl) (some 43) rfl rfl (by kernel_rfl) (fun _ _ _ h => h) (Or.inl ⟨by rfl, fun w' hSw => exec_load_content _ rfl rfl (HS2.out w' hSw).2.2 rfl⟩) hHeld ?_
  simp only[Act.put,Sz0,Sz1,Sz2]
  refine wpH_step (i := 3) (by kernel_rfl) rfl rfl (fun K hK => ?_)
  go_simp
  refine(HCp.out _ HK3.out.drew).mono ?_
  rintro e w4 ⟨sl', fp, rfl, hown, hk4⟩
  have hk14 : Kp W1 w4 Nul := HK3.out.drew.trans hk4
  have hin4 := hown.isIn.mono (w' := w4) (F' := fun b => W1.heap.size<=b/\b<w4.heap.size) (fun b hB _ => ⟨rfl, by have h1 := hB.1; have h2 := HK3.out.size; have h3 : w3.drew.heap.size = w3.heap.size := rfl; omega, hB.2⟩)
  refine hK.out _ _ hk14.of_nul (fun hHeld2 => ?_)
  clear hK K hown hk4
  refine wpH_step (i := 4) (by kernel_rfl) rfl rfl (fun K hK => ?_)
  go_simp
  refine(HKeep.out w4 sl' hk14 hin4).mono ?_
  rintro e w5 ⟨rfl, hg5, hk5⟩
  refine hK.out _ _ ((Km.of_nul hk14 HGL.out).trans hk5).kp (fun _ => ?_)
  have HEND : Hid (GridIn w5 G g (putL L (c, r) (cpC ct))/\Km g w w5) := ⟨hg5, (Km.of_nul (HK1.out.trans hk14) HGL0.out).trans hk5⟩
  clear hK K hHeld hHeld2 hg5 hk5 hk14 hin4
  refine wpAnyH_done (by kernel_rfl) ?_ _
  refine NoPanic.normal ?_
  go_wp2_with fail
  go_ret
  exact⟨rfl, HEND.out⟩
 ·have j : (4096 : Int)<=(L.length : Int) := by omega
  have hBt := HRoom.out hl
  subst hBt
  go_wp2_with fail
  refine(HH.out _ HK3.out).mono ?_
  rintro e w3' ⟨rfl, hk3'⟩
  have HK3' : Hid (Kp W1 w3' Nul) := HK3.out.trans hk3'
  clear hk3' b1 b2 b3 b4 hl3 HK3
  go_wp2_with fail
  refine wp_region_noPanic ?_
  refine wp_region_hel (fun w' : World => Kp W1 w' (Sm W1 g)) (by kernel_rfl) (HK3'.out.of_nul.drew) (fun hHeld => ?_)
  have tok0 : True := trivial
  have tok1 : True := trivial
  iterate 2 ((first | (clear tok0; refine wpH_takes (i := 0) (v := ?_) (some 41) rfl rfl (by kernel_rfl) (fun _ _ _ h => h) (Or.inl ⟨by rfl, ?_⟩) hHeld ?_) | (clear tok1; refine wpH_takes (i := 1) (v := ?_) (some 42) rfl rfl (by kernel_rfl) (fun _ _ _ h => h) (Or.inl ⟨by rfl, ?_⟩) hHeld ?_)); rotate_left; (· intro w hSw; obtain⟨s0, s1, _⟩ := HS2.out _ hSw; clear hSw; go_simp; try with_reducible rfl); simp only[Act.put,Sz0,Sz1,Sz2])
  refine wpH_takes (i := 2) (v := ct.val sl) (some 43) rfl rfl (by kernel_rfl) (fun _ _ _ h => h) (Or.inl ⟨by rfl, fun w' hSw => exec_load_content _ rfl rfl (HS2.out w' hSw).2.2 rfl⟩) hHeld ?_
  simp only[Act.put,Sz0,Sz1,Sz2]
  refine wpH_step (i := 3) (by kernel_rfl) rfl rfl (fun K hK => ?_)
  go_simp
  refine(HCp.out _ HK3'.out.drew).mono ?_
  rintro e w4 ⟨sl', fp, rfl, hown, hk4⟩
  have hk14 : Kp W1 w4 Nul := HK3'.out.drew.trans hk4
  have hin4 := hown.isIn.mono (w' := w4) (F' := fun b => W1.heap.size<=b/\b<w4.heap.size) (fun b hB _ => ⟨rfl, by have h1 := hB.1; have h2 := HK3'.out.size; have h3 : w3'.drew.heap.size = w3'.heap.size := rfl; omega, hB.2⟩)
  refine hK.out _ _ hk14.of_nul (fun hHeld2 => ?_)
  clear hK K hown hk4
  refine wpH_step (i := 4) (by kernel_rfl) rfl rfl (fun K hK => ?_)
  go_simp
  refine(HKeep.out w4 sl' hk14 hin4).mono ?_
  rintro e w5 ⟨rfl, hg5, hk5⟩
  refine hK.out _ _ ((Km.of_nul hk14 HGL.out).trans hk5).kp (fun _ => ?_)
  have HEND : Hid (GridIn w5 G g (putL L (c, r) (cpC ct))/\Km g w w5) := ⟨hg5, (Km.of_nul (HK1.out.trans hk14) HGL0.out).trans hk5⟩
  clear hK K hHeld hHeld2 hg5 hk5 hk14 hin4
  refine wpAnyH_done (by kernel_rfl) ?_ _
  refine NoPanic.normal ?_
  go_wp2_with fail
  go_ret
  exact⟨rfl, HEND.out⟩
set_option maxRecDepth 20000 in
set_option maxHeartbeats 8000000 in
theorem put_dm (G : Nat->Prop) (g : Nat) (c r : Int) (hx : vC c r = true) (ct : Ct) (hct : ct.k = 0) (sl : Value) (L : List Cc) (w : World) (h : GridIn w G g L)
  (hval : ∀wq, Kp w wq Nul->Calls Tryz.prog 43 #[ct.val sl] wq fun e w' => e = .returned (.bool true)/\Kp wq w' Nul) :
  Calls Tryz.prog 11 #[.pointer (some ⟨g, 0, none⟩), .agg #[.int .i64 c, .int .i64 r], ct.val sl] w fun e w' => e = .returned (.int .i64 0)/\GridIn w' G g (delL L (c, r))/\Km g w w' := by
 have hi : I64 c/\I64 r := by
  have := (vC_iff c r).1 hx
  unfold I64
  omega
 obtain⟨W1, hW1⟩ : ∃W1, (w.alloc (.cells #[.int .i64 c, .int .i64 r] 32)).alloc (.cells (ct.cells sl).toArray 50) = W1 := ⟨_, rfl⟩
 have k1 : Kp w W1 Nul := by rw[<- hW1]; exact((Kp.refl w Nul).alloc _).alloc _
 have hA1 : Blk W1 w.heap.size [.int .i64 c, .int .i64 r] 32 := by rw[<- hW1]; exact(Blk.new w [.int .i64 c, .int .i64 r] _).alloc _
 have hC1 : Blk W1 (w.heap.size + 1) (ct.cells sl) 50 := by
  have := Blk.new (w.alloc (.cells #[.int .i64 c, .int .i64 r] 32)) (ct.cells sl) 50
  rw[World.size_alloc] at this
  rw[<- hW1]; exact this
 have HC1 : Hid (((w.alloc (.cells #[.int .i64 c, .int .i64 r] 32)).alloc (.cells (ct.cells sl).toArray 50)).heap[w.heap.size + 1]? = some (.cells (ct.cells sl).toArray 50 (0, 0))) := by show _ = _; rw[hW1]; exact hC1
 have HW1 : Hid ((w.alloc (.cells #[.int .i64 c, .int .i64 r] 32)).alloc (.cells #[.int .i64 ct.k, .int .i64 ct.v.k, .float .f64 ct.v.x, .string ct.v.s, .bool ct.v.b, .int .i64 ct.v.f, .int .i64 ct.t.hd.k, .int .i64 ct.t.hd.o, .float .f64 ct.t.hd.x, .string ct.t.hd.s, .bool ct.t.hd.b, .int .i64 ct.t.hd.f, .int .i64 ct.t.hd.c1, .int .i64 ct.t.hd.r1, .bool ct.t.hd.p1, .bool ct.t.hd.q1, .int .i64 ct.t.hd.c2, .int .i64 ct.t.hd.r2, .bool ct.t.hd.p2, .bool ct.t.hd.q2, sl] 50) = W1) := hW1
 obtain⟨mv, hgb⟩ := GI.blk (B := 0) (GridIn.mono h (fun _ _ => Nat.zero_le _))
 have hglt0 : g<w.heap.size := hgb.lt
 have HGL0 : Hid (g<w.heap.size) := hglt0
 have HS : Hid (∀wq, Kp W1 wq Nul->(wq.cell? ⟨w.heap.size, 0, none⟩ = some (.int .i64 c)/\wq.cell? ⟨w.heap.size, 1, none⟩ = some (.int .i64 r)/\wq.cell? ⟨w.heap.size + 1, 0, none⟩ = some (.int .i64 ct.k))) := fun wq k => ⟨(hA1.kp k (fun x => x)).cell rfl, (hA1.kp k (fun x => x)).cell rfl, (hC1.kp k (fun x => x)).cell (i := 0) rfl⟩
 have HV : Hid (Calls Tryz.prog 43 #[ct.val sl] W1 fun e w' => e = .returned (.bool true)/\Kp W1 w' Nul) := hval W1 k1
 have HA : Hid (∀w, Calls Tryz.prog 44 #[.agg #[.int .i64 c, .int .i64 r]] w fun e w' => e = .returned (.bool true)/\Kp w w' Nul) := fun w => (pValid_at c r w).mono fun e w' ⟨h1, h2⟩ => ⟨by rw[h1, hx], by rw[h2]; exact(Kp.refl w Nul).alloc _⟩
 have HK1 : Hid (Kp w W1 Nul) := k1
 have HD : Hid (∀wq, Kp W1 wq Nul->GridIn wq G g L) := fun wq k => h.kp (k1.trans k)
 have HI : Hid (I64 c/\I64 r) := hi
 rw[hct] at HS
 clear hval hW1 k1 hA1 hC1 hx hi hct hglt0 h hgb mv
 go_enter Tryz.func11, Tryz.ntmps11
 go_wp2_with (first | (refine load_content_law rfl (.tmp 5) rfl (w.heap.size + 1) rfl _ HC1.out rfl ?_) | fail)
 rw[HW1.out]
 refine HV.out.mono ?_
 rintro e w2 ⟨rfl, hk2⟩
 obtain⟨a1, a2, a3⟩ := HS.out w2 hk2
 have HK2 : Hid (Kp W1 w2 Nul) := hk2
 clear hk2 HV HC1 HW1
 go_wp2_with fail
 refine(HA.out _).mono ?_
 rintro e w3 ⟨rfl, hk3⟩
 obtain⟨b1, b2, b3⟩ := HS.out w3 (HK2.out.trans hk3)
 have hk13 : Kp W1 w3 Nul := HK2.out.trans hk3
 obtain⟨mv, W4, hmc, hdel, hl4, hk4⟩ := gi_del_m (HD.out w3.drew hk13.drew) HI.out.1 HI.out.2
 have HEND : Hid (GridIn W4 G g (delL L (c, r))/\Km g w W4) := ⟨hl4, (Km.of_nul ((HK1.out.trans hk13).drew) HGL0.out).trans hk4⟩
 have d2 : w3.cell? ⟨g, 0, none⟩ = some (.map mv) := hmc
 clear hk3 HA a1 a2 a3 HK2 hl4 hk4 hmc hk13 HD
 go_wp2_with fail
 go_region
 all_goals
  go_wp2_with fail
  go_ret
  exact⟨rfl, HEND.out⟩
end Go.Proofs.YtecjfnkakodebaaGreatDoor
namespace Go.Proofs.YtecjfnkakodebaaGreatDoor
open Go.RowKit Go.Maps
def GRg (w : World) (A : Nat) (mv : Option Nat) (r : Nat) (rem : List Cc) : Prop :=
 rem.Pairwise (fun x y => x.1≠y.1)/\(∀x∈rem, I64 x.1.1/\I64 x.1.2) /\
 ((mv = none/\rem = []/\w.heap[r]? = some (.mapIter none 0 #[] 0)) ∨
 ∃m D left cnt, mv = some m/\m<A/\w.ranges Tryz.prog 32 rawE m r 4096 D left cnt/\(∀c s, I64 c->I64 s->(left (kl c s) = true↔∃ct, ((c, s), ct)∈rem)) /\
  (∀c s ct, ((c, s), ct)∈rem->∃sl, D.atKey (kl c s) (.held zCv) = .held (ct.val sl)/\NdIn w (fun b => b<A) sl ct.t))
def glen (w : World) (mv : Option Nat) (r : Nat) : Nat := match mv with | none => 0 | some m => w.rangeLeft m r
theorem ranges_block {w w' : World} {m r n cnt : Nat} {D : DataW Value} {left : Lit->Bool} (h : w.ranges Tryz.prog 32 rawE m r n D left cnt) (hm : w'.heap[m]? = w.heap[m]?) (hr : w'.heap[r]? = w.heap[r]?) : w'.ranges Tryz.prog 32 rawE m r n D left cnt := by
 obtain⟨es, clock, since, seen, c0, h1, h2, h3, h4, h5, h6⟩ := h
 exact⟨es, clock, since, seen, c0, hm.trans h1, h2, h3, h4, hr.trans h5, h6⟩
theorem GRg.keep {w w' : World} {A : Nat} {mv : Option Nat} {r : Nat} {rem : List Cc} (h : GRg w A mv r rem) (k : Below A w w') (hr : w'.heap[r]? = w.heap[r]?) : GRg w' A mv r rem := by
 obtain⟨h1, h2, h3⟩ := h
 refine⟨h1, h2, ?_⟩
 rcases h3 with ⟨e1, e2, e3⟩ | ⟨m, D, left, cnt, e1, e2, e3, e4, e5⟩
 ·exact .inl ⟨e1, e2, hr.trans e3⟩
 ·exact .inr ⟨m, D, left, cnt, e1, e2, ranges_block e3 (k.block m e2) hr, e4, fun c s ct hc => by obtain⟨sl, q1, q2⟩ := e5 c s ct hc; exact⟨sl, q1, q2.mono (fun b hb _ => ⟨k.block b hb, hb⟩)⟩⟩
theorem GRg.glen {w w' : World} {A : Nat} {mv : Option Nat} {r : Nat} {rem : List Cc} (h : GRg w A mv r rem) (k : Below A w w') (hr : w'.heap[r]? = w.heap[r]?) : Go.Proofs.YtecjfnkakodebaaGreatDoor.glen w' mv r = Go.Proofs.YtecjfnkakodebaaGreatDoor.glen w mv r := by
 obtain⟨_, _, h3⟩ := h
 rcases h3 with ⟨e1, _⟩ | ⟨m, D, left, cnt, e1, e2, e3, _⟩
 ·subst e1; rfl
 ·subst e1
  show w'.rangeLeft m r = w.rangeLeft m r
  rw[(ranges_block e3 (k.block m e2) hr).left_eq, e3.left_eq]
theorem GI.low {w : World} {g : Nat} {L : List Cc} (h : GI 0 w g L) : GridIn w (fun b => b<w.heap.size) g L := by
 obtain⟨_, ⟨hb, e⟩ | ⟨m, D, hb, _, hne, hown, hm⟩⟩ := h
 ·exact⟨(Array.getElem?_eq_some_iff.1 hb).1, .inl ⟨hb, e⟩⟩
 ·exact⟨(Array.getElem?_eq_some_iff.1 hb).1, .inr ⟨m, D, hb, hown.lt, hne, hown, ⟨hm.size, hm.rng, hm.keys, fun c r ct hc => by obtain⟨sl, e1, e2⟩ := hm.vals c r ct hc; exact⟨sl, e1, e2.mono (fun b _ hb => ⟨rfl, hb⟩)⟩, hm.once⟩⟩⟩
theorem wpList_range_grid (w : World) {ops : Array Oper} {rest : List Oper} {o : Oper} {a : Act} {Q : Exit->Act->World->Prop} (hg : o.guard = none) (x : Operand) (hop : o.op = Op.range 94 x)
  (g : Nat) (L : List Cc) (mv : Option Nat) (A : Nat) (hx : a.eval x = .map mv) (hL : GridIn w (fun b => b<A) g L) (hgb : Blk w g [.map mv] 96)
  (hK : ∀w', GRg w' A mv w.heap.size L->w.grownBy w' none->w'.heap.size = w.heap.size + 1->wpList Tryz.prog ops Q rest (a.put o.dst (.pointer (some ⟨w.heap.size, 0, none⟩))) w') :
  wpList Tryz.prog ops Q (o::rest) a w := by
 obtain⟨_, ⟨hb, rfl⟩ | ⟨m, D, hb, hFm, hne, hown, hmh⟩⟩ := hL
 ·have e : mv = none := by
   have q := hgb.symm.trans hb
   simpa using q
  subst e
  refine wpList_plain hg fun K hK' => ?_
  have hrun : (Instr.range 94 (.map none)).run Tryz.prog w = .ok (.pointer (some ⟨w.heap.size, 0, none⟩)) (w.alloc (.mapIter none 0 #[] 0)) := by
   simp[Instr.range, Sem.run_bind, run_underlying Tryz.underlying94 w]
  unfold Oper.wp
  simp[execOp, hop, hx, hrun, Result.andThen]
  exact hK' _ _ (hK _ ⟨List.Pairwise.nil, fun x hx => by simp at hx, .inl ⟨rfl, rfl, heap_alloc_new _ _⟩⟩ (World.grownBy_alloc w _ none) (by rw[World.size_alloc]))
 ·have e : mv = some m := by
   have q := hgb.symm.trans hb
   simpa using q
  subst e
  refine wpList_range_own w hg x 94 hop 32 50 lawAddr Tryz.underlying94 _ m 4096 D hx hown (fun w' h1 h2 h3 => ?_)
  have k : Kp w w' Nul := Kp.of_grown h2 (fun i e => by cases e)
  exact hK w' ⟨hmh.once, hmh.rng, .inr ⟨m, D, _, _, rfl, hFm, h1, fun c s hc hs => hmh.keys c s hc hs, fun c s ct hc => by obtain⟨sl, q1, q2⟩ := hmh.vals c s ct hc; exact⟨sl, q1, q2.kp k (fun _ _ x => x)⟩⟩⟩ h2 h3
set_option maxRecDepth 20000 in
theorem wpList_next_grid (w : World) {ops : Array Oper} {rest : List Oper} {o : Oper} {a : Act} {Q : Exit->Act->World->Prop} (hg : o.guard = none) (it : Operand) (hop : o.op = Op.next it false)
  (A : Nat) (mv : Option Nat) (r : Nat) (rem : List Cc) (hit : a.eval it = .pointer (some ⟨r, 0, none⟩)) (h : GRg w A mv r rem) (hA : A<=r)
  (hDone : rem = []->wpList Tryz.prog ops Q rest (a.put o.dst (.tuple #[.bool false])) w)
  (hMore : ∀(c s : Int) (ct : Ct) (sl : Value) (w' : World), ((c, s), ct)∈rem->NdIn w' (fun b => b<A) sl ct.t->GRg w' A mv r (rem.filter (fun x => decide (x.1≠(c, s))))->glen w' mv r<glen w mv r->w.grownBy w' (some r)->w'.heap.size = w.heap.size ->
   (Instr.entry (.pointer (some ⟨r, 0, none⟩))).run Tryz.prog w' = .ok (.tuple #[.agg #[.int .i64 c, .int .i64 s], ct.val sl]) w'->wpList Tryz.prog ops Q rest (a.put o.dst (.tuple #[.bool true, .agg #[.int .i64 c, .int .i64 s], ct.val sl])) w') :
  wpList Tryz.prog ops Q (o::rest) a w := by
 obtain⟨h1, h2, h3⟩ := h
 rcases h3 with ⟨rfl, rfl, e3⟩ | ⟨m, D, left, cnt, rfl, e2, e3, e4, e5⟩
 ·refine wpList_plain hg fun K hK' => ?_
  have hrun : (Instr.next (.pointer (some ⟨r, 0, none⟩)) false o.type).run Tryz.prog w = .ok (.tuple #[.bool false]) w := by
   simp[Instr.next, getObj, Sem.run_bind, Sem.run, e3, Result.andThen]
  unfold Oper.wp
  simp[execOp, hop, hit, hrun, Result.andThen]
  exact hK' _ _ (hDone rfl)
 ·refine wpList_next_cells w hg it hop m r 4096 D left cnt hit e3 (fun _ hl => ?_) (fun x cv w' cnt' hi hlx hat hrg hlt hgr hsz hen => ?_)
  ·refine hDone ?_
   cases rem with
   | nil => rfl
   | cons y ys =>
    exfalso
    obtain⟨⟨yc, ys'⟩, yt⟩ := y
    have hy := h2 _ (List.mem_cons_self)
    have := (e4 yc ys' hy.1 hy.2).2 ⟨yt, List.mem_cons_self⟩
    rw[hl] at this; cases this
  ·obtain⟨ct, hct⟩ := (e4 x.1 x.2 hi.1 hi.2).1 hlx
   obtain⟨sl, q1, q2⟩ := e5 x.1 x.2 ct hct
   have hcv : cv = ct.val sl := by
    have := (hat (.held zCv)).symm.trans q1
    exact DataW.held.inj this
   subst hcv
   have kb : Below A w w' := ⟨hgr.os, hgr.tape, hgr.output, hgr.size, fun i hi' => hgr.block i (by have := e3.lt; omega) (fun e => by have := Option.some.inj e; omega)⟩
   have hT : ∀sl t, NdIn w (fun b => b<A) sl t->NdIn w' (fun b => b<A) sl t := fun sl t q => q.mono (fun b hb _ => ⟨kb.block b hb, hb⟩)
   refine hMore x.1 x.2 ct sl w' hct (hT _ _ q2) ⟨List.Pairwise.filter _ h1, fun y hy => h2 y (List.mem_filter.1 hy).1, .inr ⟨m, D, _, cnt', rfl, e2, hrg, fun c s hc hs => ?_, fun c s ct' hc => ?_⟩⟩ ?_ hgr hsz hen
   ·have hsame : (kl c s).sameKey (kl x.1 x.2) = true↔(c, s) = (x.1, x.2) := by
     constructor
     ·intro hk
      by_cases e : (c, s) = (x.1, x.2)
      ·exact e
      ·have : kl c s≠kl x.1 x.2 := fun e' => e (by have := kl_inj hc hs hi.1 hi.2 e'; exact Prod.ext this.1 this.2)
       rw[Maps.sameKey_ne this] at hk; cases hk
     ·intro e
      have e1 := congrArg Prod.fst e
      have e2' := congrArg Prod.snd e
      simp only at e1 e2'
      subst e1 e2'
      exact WideAt.sameKey_self (lawAddr.key (kl_key hi.1 hi.2))
    simp only[Bool.and_eq_true, Bool.not_eq_true']
    constructor
    ·rintro⟨q3, q4⟩
     obtain⟨ct', hc'⟩ := (e4 c s hc hs).1 q3
     refine⟨ct', List.mem_filter.2 ⟨hc', ?_⟩⟩
     have : (c, s)≠(x.1, x.2) := fun e => by rw[hsame.2 e] at q4; cases q4
     exact decide_eq_true this
    ·rintro⟨ct', hc'⟩
     obtain⟨q3, q4⟩ := List.mem_filter.1 hc'
     refine⟨(e4 c s hc hs).2 ⟨ct', q3⟩, ?_⟩
     have hne : (c, s)≠(x.1, x.2) := of_decide_eq_true q4
     cases hk : (kl c s).sameKey (kl x.1 x.2)
     ·rfl
     ·exact absurd (hsame.1 hk) hne
   ·obtain⟨sl', p1, p2⟩ := e5 c s ct' (List.mem_filter.1 hc).1
    exact⟨sl', p1, hT _ _ p2⟩
   ·show w'.rangeLeft m r<w.rangeLeft m r
    rw[hrg.left_eq, e3.left_eq]; exact hlt
end Go.Proofs.YtecjfnkakodebaaGreatDoor
namespace Go.Proofs
open Go.Shelf
def Tryz.laysValid_ren : Go.Shelf.Ren := ⟨fun | 196 => 117 | 259 => 148 | n => n, fun | 9 => 9 | 4 => 4 | 3 => 3 | 5 => 5 | 12 => 12 | 119 => 173 | 0 => 0 | 46 => 177 | 139 => 176 | 138 => 175 | 53 => 151 | n => n, fun | 3 => 0 | 4 => 1 | n => n⟩
theorem Tryz.laysValid : Go.Proofs.Lays.n196 Tryz.prog Tryz.laysValid_ren := {
 mixed := by kernel_rfl
 f196 := Tryz.func117.trans (congrArg some (by kernel_rfl))
 f259 := Tryz.func148.trans (congrArg some (by kernel_rfl))
 t0 := Tryz.underlying0
 a0 := Tryz.isAgg0
 z0 := Tryz.sizeOf0
 v0 := Tryz.zeroValue0
 t3 := Tryz.underlying3
 a3 := Tryz.isAgg3
 z3 := Tryz.sizeOf3
 v3 := Tryz.zeroValue3
 t4 := Tryz.underlying4
 a4 := Tryz.isAgg4
 z4 := Tryz.sizeOf4
 v4 := Tryz.zeroValue4
 t5 := Tryz.underlying5
 a5 := Tryz.isAgg5
 z5 := Tryz.sizeOf5
 v5 := Tryz.zeroValue5
 t9 := Tryz.underlying9
 a9 := Tryz.isAgg9
 z9 := Tryz.sizeOf9
 v9 := Tryz.zeroValue9
 t12 := Tryz.underlying12
 a12 := Tryz.isAgg12
 z12 := Tryz.sizeOf12
 v12 := Tryz.zeroValue12
 t46 := Tryz.underlying177
 a46 := Tryz.isAgg177
 z46 := Tryz.sizeOf177
 v46 := Tryz.zeroValue177
 t53 := Tryz.underlying151
 a53 := Tryz.isAgg151
 z53 := Tryz.sizeOf151
 v53 := Tryz.zeroValue151
 t119 := Tryz.underlying173
 a119 := Tryz.isAgg173
 z119 := Tryz.sizeOf173
 t138 := Tryz.underlying175
 a138 := Tryz.isAgg175
 z138 := Tryz.sizeOf175
 v138 := Tryz.zeroValue175
 t139 := Tryz.underlying176
 a139 := Tryz.isAgg176
 z139 := Tryz.sizeOf176
 v139 := Tryz.zeroValue176
 g3 := by kernel_rfl
 g4 := by kernel_rfl }
end Go.Proofs
namespace Go.Proofs.YtecjfnkakodebaaGreatDoor
open Go.RowKit Go.Maps
theorem vs_of {w : World} (hT : Lib.Utf8Tabs (Tryz.laysValid_ren.g 3) (Tryz.laysValid_ren.g 4) w) : VS w := fun s wq hs hk => by
 have hc : ∀ {b j : Nat} {v : Value}, w.cell? ⟨b, j, none⟩ = some v->wq.cell? ⟨b, j, none⟩ = some v := fun {b j v} h => by
  have := hk.block b (cell_lt h) (fun x => x)
  simp only[World.cell?] at h ⊢
  rw[this]; exact h
 have hT' : Lib.Utf8Tabs (Tryz.laysValid_ren.g 3) (Tryz.laysValid_ren.g 4) wq := ⟨fun c h => hc (hT.1 c h), fun i h => ⟨hc (hT.2 i h).1, hc (hT.2 i h).2⟩⟩
 refine(Any.utf8_ValidString Tryz.laysValid s wq (by omega) hT').mono ?_
 rintro e w' ⟨h1, h2⟩
 exact⟨h1, Kp.of_below h2⟩
structure Cn (w : World) (ct : Ct) (sl : Value) : Prop where
 ok : ct.t.ok
 vx : ct.v.x<18446744073709551616
 inn : NdIn w (fun _ => True) sl ct.t
def ct0 : Ct := ⟨0, ⟨0, 0, ⟨#[]⟩, false, 0⟩, zNd⟩
theorem gv0 : gv ct0 = true := by
 have h1 : zeroV ct0.v = true := by simp[zeroV, bareV, ct0]
 have h2 : zeroN ct0.t = true := zeroN_z
 unfold gv validC
 rw[h1, h2]
 rfl
section
variable {w w2 u u' : World} {g : Nat} {L L' : List Cc}
end
end Go.Proofs.YtecjfnkakodebaaGreatDoor
namespace Go.Proofs.YtecjfnkakodebaaGreatDoor
open Go.RowKit Go.Maps
section
variable {w w2 u u' : World} {g p1 p2 : Nat} {x y : Int} {L L' : List Cc}
end
end Go.Proofs.YtecjfnkakodebaaGreatDoor
