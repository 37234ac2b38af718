/- The walk that finds groups: what it leaves. circled. -/
import Derived.Test.YtdlieecpckpemaaGreatDoorLcTp
import Derived.Test.YtdlieecpckpemaaGreatDoorLcLxe
import Derived.Test.YtdlieecpckpemaaGreatDoorLcYk
import Derived.Maps.AppendAt
namespace Go.Proofs.YtdlieecpckpemaaGreatDoor
open Go.RowKit Go.Shelf
attribute [local go_sem] Oper.semAt_some
theorem infoInt1 : (Tryz.prog.info? 3).map (·.size) = some 1 := by kernel_rfl
theorem infoSlI1 : (Tryz.prog.info? 32).map (·.size) = some 1 := by kernel_rfl
/-- put, of marks that are a whole block. -/
theorem put_blk (b n c p : Nat) (M : Nat → Bool) (w : World) (hp : p / 64 < n) (hp2 : p < 4294967296) (h : Blk w b (wds M n) 122) :
    Calls Tryz.prog 57 #[.slice (some ⟨b, 0, none⟩) n c, .int .i64 (p : Int)] w fun e w' => e = .returned (.tuple #[]) ∧ Blk w' b (wds (ins M p) n) 122 ∧ Kp w w' (fun i => i = b) := by
  refine (put_at b 0 n c p (Wd.wd M (p / 64) : Nat) (Wd.wd (ins M p) (p / 64) : Nat) w hp hp2 (or_put _ _) (by rw [Nat.zero_add]; exact h.cell (wds_get hp)) (h.froz _)).mono ?_
  rintro e w' ⟨rfl, rfl⟩
  rw [Nat.zero_add]
  have hs := h.set (p / 64) (.int .u64 ((Wd.wd (ins M p) (p / 64) : Nat) : Int))
  rw [wds_set (N := ins M p) (fun j _ hj => wd_far true hj)] at hs
  exact ⟨rfl, hs.drew, ((Kp.refl w (fun i => i = b)).setCell ⟨b, p / 64, none⟩ _ (.inr rfl)).drew⟩
theorem infoI : ∃ i0, Tryz.prog.info? 3 = some i0 ∧ i0.zero = some (.int .i64 0) ∧ i0.size = 1 ∧ i0.bytes = 8 := by
  have := infoInt
  cases h : Tryz.prog.info? 3 with
  | none => rw [h] at this; cases this
  | some i0 => rw [h] at this; simp only [Option.map_some, Option.some.injEq, Prod.mk.injEq] at this; exact ⟨i0, rfl, this.1, this.2.1, this.2.2⟩
theorem row_step {w w5 : World} {o : Obj} {B size n : Nat} {e : TypeId} {v : Value} {xs : List Value} (h : w.ownsRow B e size v n xs) (hg : (w.alloc o).grownBy w5 v.ownBlock) {b : Nat} {cs : List Value} {t : TypeId} (hb : Blk w b cs t) (hB : b < B) : Blk w5 b cs t :=
  (hb.alloc o).kp (Kp.of_grown (S := fun i => v.ownBlock = some i) hg (fun i e => e)) (fun e => by have := (row_base h b e).1; omega)
theorem row_one {w : World} {B size n : Nat} {e : TypeId} {v : Value} {xs : List Value} (h : w.ownsRow B e size v n xs) : v.oneCell' = true := by
  rcases h.2 with ⟨rfl, _⟩ | ⟨g, cap, cur, rfl, _⟩ <;> rfl
/-- How it stands between two rounds of its range: what is met behind it is l, the least number m; open is v1. -/
structure WkM (C : Ce) (s : Tj.St) (G : Nat → Prop) (p : Nat) (v v5 : Value) (w : World) (B7 LB mx : Nat) (va : Value) (us l : List Nat) (m : Nat) (s1 : Tj.St) (v1 : Value) (W : World) : Prop where
  mid : Tj.Mid C.n C.E G s p us l m s1
  fix : CFix C W
  var : CVar C s1 v1 W
  lb : Blk W LB [.int .i64 (m : Int)] 3
  mx : Blk W mx [va] 84
  kp : Kp w W (CS C v)
  own : ∀ i, v1.ownBlock = some i → v5.ownBlock = some i ∨ B7 + 2 ≤ i
theorem WkM.far {C : Ce} (hC : C.Ord) {s : Tj.St} {G : Nat → Prop} {p : Nat} {v v5 : Value} {w : World} {B7 LB mx : Nat} {va : Value} {us l : List Nat} {m : Nat} {s1 : Tj.St} {v1 : Value} {W W' : World} {S : Nat → Prop}
    (h : WkM C s G p v v5 w B7 LB mx va us l m s1 v1 W) (g : Kp W W' S) (hS : ∀ i, S i → B7 ≤ i ∧ i < B7 + 2) (h5 : ∀ i, v5.ownBlock = some i → i < B7) (hL : LB < B7) (hm : mx < B7) (hB : C.B ≤ B7) (hw : w.heap.size ≤ B7) :
    WkM C s G p v v5 w B7 LB mx va us l m s1 v1 W' := by
  have ha := hC.g; have hq1 := hC.h; have hq2 := hC.i; have hq3 := hC.j; have hq4 := hC.k; have hq5 := hC.l; have hq6 := hC.e; have hq7 := hC.f
  refine ⟨h.mid, h.fix.kp hC g (fun i hi q => by have := (hS i q).1; omega), h.var.kp g (fun i q e => ?_), h.lb.kp g (fun e => by have := (hS _ e).1; omega), h.mx.kp g (fun e => by have := (hS _ e).1; omega), h.kp.trans' g (fun i hi e => by have := (hS _ e).1; omega), h.own⟩
  have h1 := hS i e
  rcases q with q | q | q | q | q
  · omega
  · omega
  · omega
  · omega
  · rcases h.own i q with q | q
    · have := h5 i q; omega
    · omega
theorem WkM.apart {C : Ce} (hC : C.Ord) {s : Tj.St} {G : Nat → Prop} {p : Nat} {v v5 : Value} {w : World} {B7 LB mx : Nat} {va : Value} {us l : List Nat} {m : Nat} {s1 : Tj.St} {v1 : Value} {W : World}
    (h : WkM C s G p v v5 w B7 LB mx va us l m s1 v1 W) (h5 : ∀ i, v5.ownBlock = some i → i ≠ LB) (hL : LB < B7 ∧ w.heap.size ≤ LB) (hB : C.B ≤ w.heap.size) : ¬ CS C v1 LB := by
  have ha := hC.g; have hq1 := hC.h; have hq2 := hC.i; have hq3 := hC.j; have hq4 := hC.k; have hq5 := hC.l; have hq6 := hC.e; have hq7 := hC.f
  rintro (q | q | q | q | q)
  · omega
  · omega
  · omega
  · omega
  · rcases h.own _ q with q | q
    · exact h5 _ q rfl
    · omega
/-- A round's end. -/
theorem WkM.next {C : Ce} (hC : C.Ord) {s : Tj.St} {G : Nat → Prop} {p : Nat} {v v5 : Value} {w : World} {B7 LB mx : Nat} {va : Value} {us us' l l' : List Nat} {m m' : Nat} {s1 s2 : Tj.St} {v1 v2 : Value} {V X Y : World}
    (h : WkM C s G p v v5 w B7 LB mx va us l m s1 v1 V) (hmid : Tj.Mid C.n C.E G s p us' l' m' s2) (hf : CFix C X) (hv : CVar C s2 v2 X) (g : Kp V X (CS C v1)) (ho : ∀ i, v2.ownBlock = some i → v1.ownBlock = some i ∨ V.heap.size ≤ i)
    (hY : Blk Y LB [.int .i64 (m' : Int)] 3) (gY : Kp X Y (fun i => i = LB)) (h5 : ∀ i, v5.ownBlock = some i → (i ≠ LB ∧ i ≠ mx) ∧ i < B7 ∧ (v.ownBlock = some i ∨ w.heap.size ≤ i)) (hL : LB < B7 ∧ w.heap.size ≤ LB) (hm : mx < B7 ∧ w.heap.size ≤ mx ∧ mx ≠ LB) (hB : C.B ≤ w.heap.size) (hVs : B7 + 2 ≤ V.heap.size) :
    Own2 B7 V Y ∧ WkM C s G p v v5 w B7 LB mx va us' l' m' s2 v2 Y := by
  have ha := hC.g; have hq1 := hC.h; have hq2 := hC.i; have hq3 := hC.j; have hq4 := hC.k; have hq5 := hC.l; have hq6 := hC.e; have hq7 := hC.f
  have hcs : ∀ i, CS C v1 i → i < C.B ∨ (v5.ownBlock = some i) ∨ B7 + 2 ≤ i := fun i q => by
    rcases q with q | q | q | q | q
    · exact .inl (by omega)
    · exact .inl (by omega)
    · exact .inl (by omega)
    · exact .inl (by omega)
    · exact .inr (h.own i q)
  have n5 : ∀ i, v5.ownBlock = some i → i ≠ LB ∧ i ≠ mx ∧ i < B7 := fun i q => ⟨(h5 i q).1.1, (h5 i q).1.2, (h5 i q).2.1⟩
  have hVY : Kp V Y (fun i => CS C v1 i ∨ i = LB) := (g.mono (fun _ _ e => .inl e)).trans' gY (fun _ _ e => .inr e)
  refine ⟨Own2.of_kp hVY (by omega) (fun e => ?_) (fun e => ?_), hmid, hf.kp hC gY (fun i hi e => by omega), hv.kp gY (fun i q e => ?_), hY, h.mx.kp hVY (fun e => ?_), h.kp.trans' hVY (fun i hi e => ?_), fun i q => ?_⟩
  · rcases e with e | e
    · rcases hcs _ e with e | e | e
      · omega
      · have := n5 _ e; omega
      · omega
    · omega
  · rcases e with e | e
    · rcases hcs _ e with e | e | e
      · omega
      · have := n5 _ e; omega
      · omega
    · omega
  · subst e
    have hlv : i < V.heap.size := by omega
    rcases q with q | q | q | q | q
    · omega
    · omega
    · omega
    · omega
    · rcases ho i q with q | q
      · rcases h.own i q with q | q
        · exact (n5 i q).1 rfl
        · omega
      · omega
  · rcases e with e | e
    · rcases hcs _ e with e | e | e
      · omega
      · exact (n5 _ e).2.1 rfl
      · omega
    · omega
  · rcases e with e | e
    · rcases e with e | e | e | e | e
      · exact .inl e
      · exact .inr (.inl e)
      · exact .inr (.inr (.inl e))
      · exact .inr (.inr (.inr (.inl e)))
      · rcases h.own i e with q | q
        · rcases (h5 i q).2.2 with q | q
          · exact .inr (.inr (.inr (.inr q)))
          · omega
        · omega
    · omega
  · rcases ho i q with q | q
    · exact h.own i q
    · exact .inr (by omega)
/-- The state while a group is told: its first k are. -/
def shutS (C : Ce) (s1 : Tj.St) (p : Nat) (l : List Nat) (k : Nat) : Tj.St :=
  ⟨fun q => if q ∈ (p :: l).take k then C.n + 1 else s1.met q, s1.op, s1.cnt, fun q => s1.out q ∨ (q ∈ (p :: l).take k ∧ (l ≠ [] ∨ C.E q q))⟩
def ShR (C : Ce) (s1 : Tj.St) (p : Nat) (l : List Nat) (v1 : Value) (W : World) (i : Value) (wr : World) : Prop :=
  ∃ k : Nat, i = .int .i64 (k : Int) ∧ k ≤ (p :: l).length ∧ CFix C wr ∧ CVar C (shutS C s1 p l k) v1 wr ∧ Kp W wr (CS C v1)
theorem shut_step {C : Ce} (hC : C.Ord) {s1 : Tj.St} {p q k : Nat} {l : List Nat} {v1 : Value} {W wr Wa X : World} (hq : (p :: l)[k]? = some q) (hqn : q < C.n)
    (hf : CFix C wr) (hv : CVar C (shutS C s1 p l k) v1 wr) (hk : Kp W wr (CS C v1)) (ga : Kp wr Wa (fun i => i = C.Mb)) (hMb : Blk Wa C.Mb ((nums (fun x => (((shutS C s1 p l k).met x : Nat) : Int)) C.n).set q (.int .i64 ((C.n : Int) + 1))) 3)
    (gx : Kp Wa X (fun i => i = C.Cb)) {O O' : Nat → Bool} (hO : ∀ x, x < C.n → (O x = true ↔ (shutS C s1 p l k).out x)) (hl : ∀ x, O x = true → x < C.n) (hb' : Blk X C.Cb (wds O' C.W) 122) (hl' : ∀ x, O' x = true → O x = true ∨ x = q) (hO' : ∀ x, x < C.n → (O' x = true ↔ (O x = true ∨ (x = q ∧ (l ≠ [] ∨ C.E q q))))) :
    CFix C X ∧ CVar C (shutS C s1 p l (k + 1)) v1 X ∧ Kp W X (CS C v1) := by
  have ha := hC.g; have hq1 := hC.h; have hq2 := hC.i; have hq3 := hC.j; have hq4 := hC.k; have hq5 := hC.l; have hq6 := hC.e; have hq7 := hC.f
  have hwx : Kp wr X (fun i => i = C.Mb ∨ i = C.Cb) := (ga.mono (fun _ _ e => .inl e)).trans' gx (fun _ _ e => .inr e)
  have htk : (p :: l).take (k + 1) = (p :: l).take k ++ [q] := by rw [List.take_add_one, hq]; rfl
  have hmem : ∀ x, x ∈ (p :: l).take (k + 1) ↔ (x ∈ (p :: l).take k ∨ x = q) := fun x => by rw [htk, List.mem_append, List.mem_singleton]
  have hrow : ∀ i, v1.ownBlock = some i → ¬ (i = C.Mb ∨ i = C.Cb) := fun i e q => by have := (row_base hv.row i e).1; rcases q with q | q <;> omega
  refine ⟨hf.kp hC hwx (fun i hi e => by rcases e with e | e; exact .inr (.inr (.inl e)); exact .inr (.inr (.inr e))), ⟨?_, ?_, ⟨O', fun x hx => ?_, fun x hx => (by rcases hl' x hx with e | e; exact hl x e; subst e; exact hqn), hb'⟩, ?_, ?_⟩, hk.trans' hwx (fun i _ e => by rcases e with e | e; exact .inr (.inr (.inl e)); exact .inr (.inr (.inr (.inl e))))⟩
  · exact hv.cb.kp hwx (fun e => by rcases e with e | e <;> omega)
  · have h1 := hMb.kp gx (fun e => by have e' : C.Mb = C.Cb := e; omega)
    rw [nums_set (s := fun x => (((shutS C s1 p l k).met x : Nat) : Int)) (t := fun x => (((shutS C s1 p l (k + 1)).met x : Nat) : Int)) (i := q) ((C.n : Int) + 1) (fun _ => ?_) (fun j _ hj => ?_)] at h1
    · exact h1
    · show _ = ((if q ∈ (p :: l).take (k + 1) then C.n + 1 else s1.met q : Nat) : Int)
      rw [if_pos ((hmem q).2 (.inr rfl))]; rfl
    · show ((if j ∈ (p :: l).take k then C.n + 1 else s1.met j : Nat) : Int) = ((if j ∈ (p :: l).take (k + 1) then C.n + 1 else s1.met j : Nat) : Int)
      by_cases e : j ∈ (p :: l).take k
      · rw [if_pos e, if_pos ((hmem j).2 (.inl e))]
      · rw [if_neg e, if_neg (fun q => by rcases (hmem j).1 q with q | q; exact e q; exact hj q)]
  · rw [hO' x hx, hO x hx]
    show ((s1.out x ∨ (x ∈ (p :: l).take k ∧ (l ≠ [] ∨ C.E x x))) ∨ (x = q ∧ (l ≠ [] ∨ C.E q q))) ↔ (s1.out x ∨ (x ∈ (p :: l).take (k + 1) ∧ (l ≠ [] ∨ C.E x x)))
    rw [hmem x]
    constructor
    · rintro ((h1 | ⟨h1, h2⟩) | ⟨h1, h2⟩)
      · exact .inl h1
      · exact .inr ⟨.inl h1, h2⟩
      · subst h1; exact .inr ⟨.inr rfl, h2⟩
    · rintro (h1 | ⟨h1 | h1, h2⟩)
      · exact .inl (.inl h1)
      · exact .inl (.inr ⟨h1, h2⟩)
      · subst h1; exact .inr ⟨rfl, h2⟩
  · exact hv.ob.kp hwx (fun e => by rcases e with e | e <;> omega)
  · exact row_keep hv.row hwx hrow
/-- A slice from a place on; up to a place. -/
theorem ints_from (g n c i : Nat) (h1 : i ≤ n) (h2 : i < c) (_h3 : n ≤ c) (hi : i ≤ 1048576) (w : World) :
    (Instr.sliceAt 32 (.slice (some ⟨g, 0, none⟩) n c) (some (.int .i64 (i : Int))) none none).run Tryz.prog w = .ok (.slice (some ⟨g, i, none⟩) (n - i) (c - i)) w := by
  have ht : Tryz.prog.underlying 32 = some (.slice (Tryz.prog.elem 32)) := by kernel_rfl
  have hz : (Go.sizeOf (Tryz.prog.elem 32)).run Tryz.prog w = .ok 1 w := by
    have : Tryz.prog.elem 32 = 3 := by kernel_rfl
    rw [this]; exact Tryz.sizeOf3 w
  rw [run_sliceAt_slice w _ _ _ _ _ ht, run_slice_l w _ _ _ _ ht .i64 (i : Int) (by omega) (by omega), hz]
  have e : ((i : Int)).toNat = i := by omega
  simp only [Result.andThen, sliced, e, Option.map_some, Addr.add]
  rw [if_neg (by omega)]
  simp
  intro h
  omega
theorem ints_upto (a : Option Addr) (n c i : Nat) (h1 : i ≤ n) (_h3 : n ≤ c) (hi : i ≤ 1048576) (w : World) :
    (Instr.sliceAt 32 (.slice a n c) none (some (.int .i64 (i : Int))) none).run Tryz.prog w = .ok (.slice a i c) w := by
  have ht : Tryz.prog.underlying 32 = some (.slice (Tryz.prog.elem 32)) := by kernel_rfl
  have hz : (Go.sizeOf (Tryz.prog.elem 32)).run Tryz.prog w = .ok 1 w := by
    have : Tryz.prog.elem 32 = 3 := by kernel_rfl
    rw [this]; exact Tryz.sizeOf3 w
  rw [run_sliceAt_slice w _ _ _ _ _ ht, run_slice_h w _ _ _ _ ht .i64 (i : Int) (by omega) (by omega), hz]
  have e : ((i : Int)).toNat = i := by omega
  simp only [Result.andThen, sliced, e, Nat.zero_mul, Nat.sub_zero]
  rw [show (if c = 0 then a else a.map (fun x => x.add 0)) = a by
    split
    · rfl
    · cases a with
      | none => rfl
      | some a => unfold Addr.add; cases a; simp]
theorem row_cut {w : World} {B : Nat} {e : TypeId} {g n c i : Nat} {xs : List Value} (h : w.ownsRow B e 1 (.slice (some ⟨g, 0, none⟩) n c) n xs) (hi : i ≤ n) : w.ownsRow B e 1 (.slice (some ⟨g, 0, none⟩) i c) i (xs.take i) := by
  obtain ⟨h0, h⟩ := h
  rcases h with ⟨h, _⟩ | ⟨g', cap, cur, h1, h2, h3, h4, h5, h6, h7⟩
  · cases h
  · cases h1
    refine ⟨by rw [List.length_take]; omega, .inr ⟨g, c, cur, rfl, h2, h3, by omega, h5, h6, ?_⟩⟩
    rw [← h7, List.take_take, show min i (n * 1) = i * 1 by omega]
def WkR (C : Ce) (s : Tj.St) (G : Nat → Prop) (p : Nat) (v : Value) (w : World) (e : Ending) (w' : World) : Prop :=
  ∃ (r : Nat) (s' : Tj.St) (v' : Value), e = .returned (.int .i64 (r : Int)) ∧ Tj.Post C.n C.E G s p r s' ∧ CFix C w' ∧ CVar C s' v' w' ∧ Kp w w' (CS C v) ∧ (∀ i, v'.ownBlock = some i → v.ownBlock = some i ∨ w.heap.size ≤ i)
set_option maxRecDepth 100000 in
set_option maxHeartbeats 8000000 in
theorem walk_any (C : Ce) (hC : C.Ord) : ∀ (k : Nat) (s : Tj.St) (G : Nat → Prop) (p : Nat) (v : Value) (w : World), C.n ≤ s.cnt + k → p < C.n → s.met p = 0 → Tj.Inv C.n C.E G s → (∀ g, G g → Tj.Rc C.E g p) → CFix C w → CVar C s v w →
    Calls Tryz.prog 98 #[.int .i64 (p : Int), .pointer (some ⟨C.cb, 0, none⟩), .pointer (some ⟨C.ob, 0, none⟩), .pointer (some ⟨C.mt, 0, none⟩), .pointer (some ⟨C.wb, 0, none⟩), .pointer (some ⟨C.kb, 0, none⟩), .pointer (some ⟨C.rb, 0, none⟩)] w (WkR C s G p v w) := by
  intro k
  induction k with
  | zero =>
    intro s G p v w hk hp h0 hI _ _ _
    have := Tj.mets_lt hp h0
    have := hI.num
    omega
  | succ k ih =>
    intro s G p v w hk hp h0 hI hG hF hV
    have HC : Hid C.Ord := hC
    have HIH : Hid (∀ (s : Tj.St) (G : Nat → Prop) (p : Nat) (v : Value) (w : World), C.n ≤ s.cnt + k → p < C.n → s.met p = 0 → Tj.Inv C.n C.E G s → (∀ g, G g → Tj.Rc C.E g p) → CFix C w → CVar C s v w →
      Calls Tryz.prog 98 #[.int .i64 (p : Int), .pointer (some ⟨C.cb, 0, none⟩), .pointer (some ⟨C.ob, 0, none⟩), .pointer (some ⟨C.mt, 0, none⟩), .pointer (some ⟨C.wb, 0, none⟩), .pointer (some ⟨C.kb, 0, none⟩), .pointer (some ⟨C.rb, 0, none⟩)] w (WkR C s G p v w)) := ih
    have hcl : s.cnt < C.n := by have h1 := Tj.mets_lt hp h0; rw [hI.num] at h1; exact h1
    have hn4 : C.n ≤ 4096 := hC.n
    have HF : Hid (CFix C w) := hF
    have HV : Hid (CVar C s v w) := hV
    have HI : Hid (Tj.Inv C.n C.E G s) := hI
    have HG : Hid (∀ g, G g → Tj.Rc C.E g p) := hG
    have H0 : Hid (s.met p = 0) := h0
    have HKn : Hid (C.n ≤ s.cnt + (k + 1)) := hk
    obtain ⟨va, vc, hvs⟩ := hV.slice
    have HVS : Hid (v = .slice va s.op.length vc) := hvs
    have hcb : w.cell? ⟨C.cb, 0, none⟩ = some (.int .i64 (s.cnt : Int)) := hV.cb.cell rfl
    have HCB : Hid (Blk w C.cb [.int .i64 (s.cnt : Int)] 3) := hV.cb
    clear hC ih hk h0 hI hG hF hV hvs
    refine (callsIn_wide (n := 12)).1 ?_
    refine callsIn_of_wp_marks Tryz.func98 rfl trivial ?_ rfl
    simp only [Tryz.ntmps98, List.size_toArray, List.length_cons, List.length_nil, Nat.reduceAdd, Nat.reduceSub, Array.replicate_succ, Array.replicate_zero, List.push_toArray, List.append_toArray, List.nil_append, List.cons_append]
    refine wpIn_wide.2 ?_
    go_wp2_with (first
      | (refine wpList_store_cell rfl 3 (.tmp 1) (.tmp 18) rfl C.cb 0 rfl (.int .i64 ((s.cnt : Int) + 1)) rfl rfl _ _ HCB.out (by simp) infoInt1 ?_; intro W1 hb1 hk1)
      | fail)
    have HB1 : Hid (Blk W1 C.cb [.int .i64 ((s.cnt : Int) + 1)] 3) := hb1
    have HK1 : Hid (Kp w W1 (fun i => i = C.cb)) := hk1
    have HOb : Hid (Blk W1 C.ob [.slice va s.op.length vc] 32) := by
      have h1 := HV.out.ob.kp hk1 (fun e => by have := HC.out.j; omega)
      rw [HVS.out] at h1
      exact h1
    clear hb1 hk1 hcb HCB
    obtain ⟨ct, hct⟩ : ∃ ct, s.cnt + 1 = ct := ⟨_, rfl⟩
    have HCT : Hid (s.cnt + 1 = ct) := hct
    have hcti : (s.cnt : Int) + 1 = (ct : Int) := by omega
    rw [hcti] at HB1
    obtain ⟨on, hon⟩ : ∃ on, s.op.length = on := ⟨_, rfl⟩
    have HON : Hid (s.op.length = on) := hon
    rw [hon] at HOb
    have c1 : W1.cell? ⟨C.cb, 0, none⟩ = some (.int .i64 (ct : Int)) := HB1.out.cell rfl
    have c2 : W1.cell? ⟨C.ob, 0, none⟩ = some (.slice va on vc) := HOb.out.cell rfl
    clear hct hcti hon
    have KS : Hid (∀ w', Kp W1 w' Nul → w'.cell? ⟨C.cb, 0, none⟩ = some (.int .i64 (ct : Int)) ∧ w'.cell? ⟨C.ob, 0, none⟩ = some (.slice va on vc)) := fun w' g => ⟨(HB1.out.kp g (fun x => x)).cell rfl, (HOb.out.kp g (fun x => x)).cell rfl⟩
    go_region_held3 (fun w' => w'.cell? ⟨C.cb, 0, none⟩ = some (.int .i64 (ct : Int)) ∧ w'.cell? ⟨C.ob, 0, none⟩ = some (.slice va on vc))
      (first | (exact KS.out _ (Kp.refl _ _)) | (exact KS.out _ (Kp.refl _ _).drew) | (exact KS.out _ ((Kp.refl _ _).drew.alloc _)) | (exact KS.out _ (((Kp.refl _ _).drew.alloc _).setCell _ _ (.inl (by simp)))))
      (fail)
    clear c1 c2 KS
    have hW2 : Hid (Kp W1 (W1.alloc (.cells #[.int .i64 (ct : Int)] 3)).drew Nul) := ((Kp.refl W1 Nul).alloc _).drew
    have hB2 := (Blk.new W1 [.int .i64 (ct : Int)] 3).drew
    obtain ⟨W2, hW2e⟩ : ∃ W2, (W1.alloc (.cells #[.int .i64 (ct : Int)] 3)).drew = W2 := ⟨_, rfl⟩
    rw [show (W1.alloc (.cells [Value.int .i64 (ct : Int)].toArray 3)) = W1.alloc (.cells #[.int .i64 (ct : Int)] 3) from rfl] at hB2
    rw [hW2e] at hW2 hB2 ⊢
    obtain ⟨LB, hLB⟩ : ∃ LB, W1.heap.size = LB := ⟨_, rfl⟩
    have HLBw : Hid (w.heap.size ≤ LB) := by show _ ≤ _; rw [← hLB]; exact HK1.out.size
    rw [hLB] at hB2 ⊢
    have HL2 : Hid (Blk W2 LB [.int .i64 (ct : Int)] 3) := hB2
    have HK2 : Hid (Kp w W2 (fun i => i = C.cb)) := HK1.out.trans' hW2.out (fun _ _ q => q.elim)
    have HF2 : Hid (CFix C W2) := HF.out.kp HC.out HK2.out (fun i _ e => .inl e)
    have HOb2 : Hid (Blk W2 C.ob [.slice va on vc] 32) := HOb.out.kp hW2.out (fun x => x)
    have HCB2 : Hid (Blk W2 C.cb [.int .i64 (ct : Int)] 3) := HB1.out.kp hW2.out (fun x => x)
    have HMb2 : Hid (Blk W2 C.Mb (nums (fun p => (s.met p : Int)) C.n) 3) := HV.out.Mb.kp HK2.out (fun e => by have := HC.out.h; have := HC.out.i; have := HC.out.j; omega)
    clear hW2 hB2 hW2e HK1 HOb HB1
    have c3 : W2.cell? ⟨C.mt, 0, none⟩ = some (.slice (some ⟨C.Mb, 0, none⟩) C.n C.n) := HF2.out.mt.cell rfl
    have hpi : (p : Int) < (C.n : Int) := by omega
    have hp0 : (0 : Int) ≤ (p : Int) := by omega
    go_upto_region 4 with (first
      | (refine wpList_store_cell rfl 3 (.tmp 26) (.tmp 25) rfl C.Mb p rfl (.int .i64 (ct : Int)) rfl rfl _ _ HMb2.out (by rw [nums_length]; exact hp) infoInt1 ?_; intro W3 hb3 hk3)
      | fail)
    have HMb3 : Hid (Blk W3 C.Mb (nums (fun q => ((Tj.upd s.met p ct q : Nat) : Int)) C.n) 3) := by
      show Blk _ _ _ _
      rw [← nums_set (s := fun q => (s.met q : Int)) (t := fun q => ((Tj.upd s.met p ct q : Nat) : Int)) (i := p) (ct : Int) (fun _ => by unfold Tj.upd; rw [if_pos rfl]) (fun j _ hj => by unfold Tj.upd; rw [if_neg hj])]
      exact hb3
    have HK3 : Hid (Kp w W3 (fun i => i = C.cb ∨ i = C.Mb)) := (HK2.out.mono (fun _ _ e => .inl e)).trans' hk3 (fun _ _ e => .inr e)
    have HF3 : Hid (CFix C W3) := HF.out.kp HC.out HK3.out (fun i _ e => by rcases e with e | e; exact .inl e; exact .inr (.inr (.inl e)))
    have HL3 : Hid (Blk W3 LB [.int .i64 (ct : Int)] 3) := HL2.out.kp hk3 (fun e => by have e' : LB = C.Mb := e; have := HV.out.Mb.lt; have := HLBw.out; omega)
    have HOb3 : Hid (Blk W3 C.ob [.slice va on vc] 32) := HOb2.out.kp hk3 (fun e => by have e' : C.ob = C.Mb := e; have := HC.out.h; have := HC.out.i; omega)
    have HCB3 : Hid (Blk W3 C.cb [.int .i64 (ct : Int)] 3) := HCB2.out.kp hk3 (fun e => by have e' : C.cb = C.Mb := e; have := HC.out.h; have := HC.out.i; have := HC.out.j; omega)
    have HRow3 : Hid (W3.ownsRow C.B 3 1 (.slice va on vc) on (s.op.map fun q : Nat => Value.int .i64 (q : Int))) := by
      show World.ownsRow _ _ _ _ _ _ _
      rw [← HON.out, ← HVS.out]
      refine row_keep HV.out.row HK3.out (fun i q e => ?_)
      have h1 := (row_base HV.out.row i q).1
      have := HC.out.h; have := HC.out.i; have := HC.out.j; have := HC.out.k; have := HC.out.l
      rcases e with e | e <;> omega
    have HON4 : Hid (on ≤ 4096) := by
      show _ ≤ _
      rw [← HON.out]
      have := Tj.nodup_lt (l := s.op) (N := C.n) (HI.out.rise.imp (fun {a b} h e => by rw [e] at h; exact Nat.lt_irrefl _ h)) HI.out.lt
      omega
    have HBl : Hid (C.B ≤ W3.heap.size) := HF3.out.sz
    have HSr : Hid (Blk (W3.alloc (.cells #[.int .i64 (p : Int)] 3)) W3.heap.size [.int .i64 (p : Int)] 3) := Blk.new W3 [.int .i64 (p : Int)] 3
    have c4 : W3.cell? ⟨C.ob, 0, none⟩ = some (.slice va on vc) := HOb3.out.cell rfl
    obtain ⟨i0, hi, hz0, hz1, hz2⟩ := infoI
    clear hb3 hk3 c3 HMb2 HF2 HL2 HOb2 HCB2 HK2
    go_upto_region 5 with (first
      | (at_builtin; refine wpList_append_own_at _ rfl _ _ 32 rfl C.B 3 i0 _ 1 8 Tryz.underlying32 hi hz0 hz1 hz2 rfl (by decide) (.slice va on vc) on _ rfl (HRow3.out.alloc _) ⟨W3.heap.size, 0, none⟩ 1 1 [.int .i64 (p : Int)] rfl rfl (fun j u hj => by rw [Addr.add_lit, Nat.zero_add]; exact HSr.out.at'.trans hj) (fun u hu => by simp at hu; subst hu; rfl) (by have := HON4.out; unfold maxLen; omega) (by have := HON4.out; omega) (by rw [World.size_alloc]; exact Nat.le_succ_of_le HBl.out) ?_; intro v5 w5 hrow5 hg5 hnil5 hown5; have hob5 : Blk w5 C.ob [.slice va on vc] 32 := row_step HRow3.out hg5 HOb3.out (by have := HC.out.j; have := HC.out.k; have := HC.out.l; omega); have hone5 : v5.oneCell' = true := row_one hrow5)
      | (refine wpList_store_cell rfl 32 (.tmp 2) (.tmp 30) rfl C.ob 0 rfl v5 rfl hone5 _ _ hob5 (by simp) infoSlI1 ?_; intro W6 hb6 hk6)
      | fail)
    obtain ⟨s5, hs5⟩ : ∃ s5 : Tj.St, s5 = ⟨Tj.upd s.met p ct, s.op ++ [p], ct, s.out⟩ := ⟨_, rfl⟩
    have hg5' : Kp W3 w5 (fun i => (Value.slice va on vc).ownBlock = some i) := ((Kp.refl W3 _).alloc _).trans (Kp.of_grown hg5 (fun i e => e))
    have hrb : ∀ i, (Value.slice va on vc).ownBlock = some i → C.B ≤ i ∧ i < W3.heap.size := row_base HRow3.out
    have k36 : Kp W3 W6 (fun i => i = C.ob ∨ (Value.slice va on vc).ownBlock = some i) := (hg5'.mono (fun _ _ e => .inr e)).trans' hk6 (fun _ _ e => .inl e)
    have HK6 : Hid (Kp w W6 (CS C v)) := (HK3.out.mono (fun i _ e => by rcases e with e | e; exact .inl e; exact .inr (.inr (.inl e)))).trans' k36 (fun i _ e => by
      rcases e with e | e
      · exact .inr (.inl e)
      · exact .inr (.inr (.inr (.inr (by rw [HVS.out, HON.out]; exact e)))))
    have HF6 : Hid (CFix C W6) := HF.out.cs HC.out HV.out HK6.out
    have HL6 : Hid (Blk W6 LB [.int .i64 (ct : Int)] 3) := HL3.out.kp k36 (fun e => by
      have hlb := HLBw.out
      rcases e with e | e
      · have := HV.out.ob.lt; omega
      · have := (row_base HV.out.row LB (by rw [HVS.out, HON.out]; exact e)).2; omega)
    have HV6 : Hid (CVar C s5 v5 W6) := by
      obtain ⟨O, hO, hl, hb⟩ := HV.out.Cb
      subst hs5
      have h := HC.out
      have ha := h.g; have hq1 := h.h; have hq2 := h.i; have hq3 := h.j; have hq4 := h.k; have hq5 := h.l; have hq6 := h.e; have hq7 := h.f
      refine ⟨HCB3.out.kp k36 (fun e => ?_), HMb3.out.kp k36 (fun e => ?_), ⟨O, hO, hl, (hb.kp HK3.out (fun e => by rcases e with e | e <;> omega)).kp k36 (fun e => ?_)⟩, hb6, ?_⟩
      · rcases e with e | e
        · omega
        · have := (hrb _ e).1; omega
      · rcases e with e | e
        · omega
        · have := (hrb _ e).1; omega
      · rcases e with e | e
        · omega
        · have := (hrb _ e).1; omega
      · have h5 := row_keep hrow5 hk6 (fun i q e => by have e' : i = C.ob := e; have := (row_base hrow5 i q).1; omega)
        rw [show (s.op ++ [p]).length = on + 1 by rw [List.length_append, HON.out]; rfl, List.map_append]
        exact h5
    have HM6 : Hid (Tj.Mid C.n C.E G s p [] [] ct s5) := by
      show Tj.Mid _ _ _ _ _ _ _ _ _
      rw [hs5, ← HCT.out]
      exact HI.out.enter hp H0.out HG.out
    have HO5 : Hid (∀ i, v5.ownBlock = some i → v.ownBlock = some i ∨ w.heap.size ≤ i) := fun i hi => by
      rcases hown5 with e | e
      · rw [e] at hi; exact .inl (by rw [HVS.out, HON.out]; exact hi)
      · rw [e, World.size_alloc] at hi
        have := HK3.out.size
        cases hi; exact .inr (by omega)
    have HO5L : Hid (∀ i, v5.ownBlock = some i → i ≠ LB ∧ i < W6.heap.size) := fun i hi => by
      refine ⟨fun e => ?_, by have := (row_base HV6.out.row i hi).2; exact this⟩
      subst e
      rcases hown5 with e | e
      · rw [e] at hi
        have := (row_base HV.out.row i (by rw [HVS.out, HON.out]; exact hi)).2
        have := HLBw.out; omega
      · rw [e, World.size_alloc] at hi
        have := HL3.out.lt
        cases hi; omega
    have HLw : Hid (LB < W6.heap.size) := HL6.out.lt
    clear hrow5 hg5 hnil5 hown5 hob5 hone5 hb6 hk6 hg5' hrb k36 HMb3 HK3 HF3 HL3 HOb3 HCB3 HRow3 HBl HSr c4 hi hz0 hz1 hz2 hs5
    obtain ⟨hub, hma⟩ := HF6.out.users HC.out hp
    obtain ⟨ca, cc, hcl2⟩ := HF6.out.cl
    have d1 : W6.cell? ⟨C.wb, 0, none⟩ = some (.pointer (some ⟨C.wp, 0, none⟩)) := HF6.out.wb.cell rfl
    have d2 : W6.cell? ⟨C.wp, 1, none⟩ = some (.slice (some ⟨C.ub, 0, none⟩) C.n C.n) := HF6.out.wp.cell rfl
    obtain ⟨uc, huc⟩ : ∃ uc, (C.n - p) * C.W = uc := ⟨_, rfl⟩
    obtain ⟨uo, huo⟩ : ∃ uo, p * C.W = uo := ⟨_, rfl⟩
    rw [huc, huo] at hub
    rw [huo] at hma
    have HMa : Hid (MarksAt W6 C.mb uo C.W (C.U p)) := hma
    have HUO : Hid (p * C.W = uo) := huo
    clear hma hcl2 huc huo
    go_wp2_with (go_at_call 58; refine (all_at _ _ _ _).mono ?_; rintro e W7 ⟨rfl, h7⟩; subst h7)
    obtain ⟨MV, hMV⟩ : ∃ MV, Value.slice (some ⟨C.mb, uo, none⟩) C.W uc = MV := ⟨_, rfl⟩
    have HMV : Hid (Value.slice (some ⟨C.mb, uo, none⟩) C.W uc = MV) := hMV
    obtain ⟨mx, hmx⟩ : ∃ mx, W6.heap.size = mx := ⟨_, rfl⟩
    have hBm := Blk.new W6 [Value.slice (some ⟨C.mb, uo, none⟩) C.W uc] 84
    obtain ⟨W7, h7⟩ : ∃ W7, W6.alloc (.cells #[Value.slice (some ⟨C.mb, uo, none⟩) C.W uc] 84) = W7 := ⟨_, rfl⟩
    have k67 : Kp W6 W7 Nul := by rw [← h7]; exact (Kp.refl W6 Nul).alloc _
    have s67 : W7.heap.size = mx + 1 := by rw [← h7, World.size_alloc, hmx]
    rw [show (W6.alloc (.cells [Value.slice (some ⟨C.mb, uo, none⟩) C.W uc].toArray 84)) = W7 from h7, hmx, hMV] at hBm
    rw [h7, hmx]
    have HMX : Hid (w.heap.size ≤ mx ∧ LB < mx ∧ w.heap.size ≤ LB ∧ C.B ≤ w.heap.size) := ⟨by rw [← hmx]; exact HK6.out.size, by rw [← hmx]; exact HLw.out, HLBw.out, HF.out.sz⟩
    have H5 : Hid (∀ i, v5.ownBlock = some i → (i ≠ LB ∧ i ≠ mx) ∧ i < W7.heap.size ∧ (v.ownBlock = some i ∨ w.heap.size ≤ i)) := fun i q => by
      have h1 := HO5L.out i q
      rw [hmx] at h1
      exact ⟨⟨h1.1, by omega⟩, by omega, HO5.out i q⟩
    have HI0 : Hid (WkM C s G p v v5 w W7.heap.size LB mx MV [] [] ct s5 v5 W7) := ⟨HM6.out, HF6.out.kpn HC.out k67, HV6.out.kpn k67, HL6.out.kp k67 (fun x => x), hBm, HK6.out.trans' k67 (fun _ _ q => q.elim), fun i q => .inl q⟩
    have HS7 : Hid (W7.heap.size = mx + 1) := s67
    clear k67 s67 hBm h7 hmx hMV HM6 HO5 HO5L HLw HF6 HV6 HL6 HK6 d1 d2 hub HMa
    generalize hact : Act.mk _ _ = a0
    refine wp_range_all (gf := 95) (lb := #[.pointer (some ⟨mx, 0, none⟩)]) (by rw [← hact]; rfl) (enters_of Tryz.func95 (by kernel_rfl) rfl) (encs := encP (C.U p) C.W) (fun _ => rfl) (AllM mx (some ⟨C.mb, uo, none⟩) C.mb uo C.W uc (C.U p)) (all1_seq (C.U p) mx (some ⟨C.mb, uo, none⟩) C.mb uo C.W uc (by have := HC.out.words; omega) W7)
      (fun j W => ∃ l m s1 v1, WkM C s G p v v5 w W7.heap.size LB mx MV ((pl (C.U p) (64 * C.W)).take j) l m s1 v1 W) (fun _ _ => False) ?hM ?hI (fun _ _ _ q _ => q) ?h0 ?hround ?hdone (fun _ _ _ _ q => q.elim)
    case hM =>
      rintro j W ⟨l, m, s1, v1, h⟩
      refine ⟨by rw [HMV.out]; exact h.mx.cell rfl, fun _ => ⟨rfl, ?_⟩, h.fix.tab⟩
      have := (h.fix.users HC.out hp).2
      rw [HUO.out] at this
      exact this
    case hI =>
      rintro j W W' ⟨l, m, s1, v1, h⟩ q
      exact ⟨l, m, s1, v1, h.far HC.out q (fun i e => by rcases e with e | e <;> omega) (fun i e => (H5.out i e).2.1) (by have := HMX.out; have := HS7.out; omega) (by have := HS7.out; omega) (by have := HMX.out; have := HS7.out; omega) (by have := HMX.out; have := HS7.out; omega)⟩
    case h0 => exact ⟨[], ct, s5, v5, HI0.out⟩
    case hround =>
      subst hact
      rintro j W KK hj hsW ⟨l, m, s1, v1, hM⟩ hcont
      obtain ⟨u, hu⟩ : ∃ u, (pl (C.U p) (64 * C.W))[j]? = some u := ⟨_, List.getElem?_eq_getElem hj⟩
      have hE : C.E p u := (HC.out.mem hp).1 (List.mem_of_getElem? hu)
      have hun : u < C.n := HC.out.u p u hE.2
      have HE : Hid (C.E p u) := hE
      have HU : Hid ((pl (C.U p) (64 * C.W)).take (j + 1) = (pl (C.U p) (64 * C.W)).take j ++ [u]) := by
        show _ = _
        rw [List.take_add_one, hu]; rfl
      have henc : encP (C.U p) C.W j = #[.int .i64 (u : Int)] := by unfold encP; rw [List.getD_eq_getElem?_getD, hu]; rfl
      rw [henc]
      have HM : Hid (WkM C s G p v v5 w W7.heap.size LB mx MV ((pl (C.U p) (64 * C.W)).take j) l m s1 v1 W) := hM
      clear hM hu hE henc hj
      simp only [List.zip_toArray, List.zip_cons_cons, List.zip_nil_right, List.foldl_toArray', List.foldl_cons, List.foldl_nil]
      gi_wp2_with (fail)
      refine hcont _ _ (Kp.refl _ _) (fun V hV hloop hdef => ?_)
      have HMv : Hid (WkM C s G p v v5 w W7.heap.size LB mx MV ((pl (C.U p) (64 * C.W)).take j) l m s1 v1 V) := HM.out.far HC.out hV (fun i e => by have e' : i = W7.heap.size + 1 := e; omega) (fun i e => (H5.out i e).2.1) (by have := HMX.out; have := HS7.out; omega) (by have := HS7.out; omega) (by have := HMX.out; have := HS7.out; omega) (by have := HMX.out; have := HS7.out; omega)
      have HVs : Hid (W7.heap.size + 2 ≤ V.heap.size) := Nat.le_trans hsW hV.size
      clear hcont hV hloop hdef HM hsW HI0
      have c1 : V.cell? ⟨C.mt, 0, none⟩ = some (.slice (some ⟨C.Mb, 0, none⟩) C.n C.n) := HMv.out.fix.mt.cell rfl
      have c2 : V.cell? ⟨C.Mb, u, none⟩ = some (.int .i64 (s1.met u : Int)) := HMv.out.var.Mb.cell (nums_get hun)
      have c3 : V.cell? ⟨C.kb, 0, none⟩ = some (.func (.func 98) #[] C.lb) := HMv.out.fix.kb.cell rfl
      have hui : (u : Int) < (C.n : Int) := by omega
      have hu0 : (0 : Int) ≤ (u : Int) := by omega
      obtain ⟨mu, hmu⟩ : ∃ mu, s1.met u = mu := ⟨_, rfl⟩
      have HMU : Hid (s1.met u = mu) := hmu
      rw [hmu] at c2
      clear hmu
      by_cases h0 : mu = 0
      · subst h0
        have hz : ((0 : Nat) : Int) = 0 := rfl
        rw [hz] at c2
        have HR : Hid (Calls Tryz.prog 98 #[.int .i64 (u : Int), .pointer (some ⟨C.cb, 0, none⟩), .pointer (some ⟨C.ob, 0, none⟩), .pointer (some ⟨C.mt, 0, none⟩), .pointer (some ⟨C.wb, 0, none⟩), .pointer (some ⟨C.kb, 0, none⟩), .pointer (some ⟨C.rb, 0, none⟩)] V (WkR C s1 (fun x => x = p ∨ G x) u v1 V)) :=
          HIH.out s1 (fun x => x = p ∨ G x) u v1 V (by have := HMv.out.mid.cnt; have := HKn.out; omega) hun HMU.out HMv.out.mid.inv (fun g hg => by
            rcases hg with e | hg
            · subst e; exact .one HE.out
            · exact (HG.out g hg).trans (.one HE.out)) HMv.out.fix HMv.out.var
        gi_wp2_with (fail)
        refine ⟨trivial, CallsIn.inRound _ ((callsIn_wide.2 HR.out).mono ?_)⟩
        rintro e X ⟨r, s2, v2, rfl, hp2, hf2, hv2, hk2, ho2⟩
        have hlx : Blk X LB [.int .i64 (m : Int)] 3 := HMv.out.lb.kp hk2 (HMv.out.apart HC.out (fun i q => (H5.out i q).1.1) ⟨by have := HMX.out; have := HS7.out; omega, HMX.out.2.2.1⟩ HMX.out.2.2.2)
        have c4 : X.cell? ⟨LB, 0, none⟩ = some (.int .i64 (m : Int)) := hlx.cell rfl
        have f4 : X.frozen? ⟨LB, 0, none⟩ = false := hlx.froz _
        have HEND : Hid (Own2 W7.heap.size V (X.setCell ⟨LB, 0, none⟩ (.int .i64 (min (m : Int) (r : Int)))) ∧ ∃ l1 m1 s1 v1, WkM C s G p v v5 w W7.heap.size LB mx MV ((pl (C.U p) (64 * C.W)).take (j + 1)) l1 m1 s1 v1 (X.setCell ⟨LB, 0, none⟩ (.int .i64 (min (m : Int) (r : Int))))) := by
          obtain ⟨l', hmid⟩ := HMv.out.mid.walked HI.out hun HE.out HMU.out hp2
          rw [← HU.out] at hmid
          have hb := hlx.set 0 (.int .i64 (min (m : Int) (r : Int)))
          rw [show (min (m : Int) (r : Int)) = ((min m r : Nat) : Int) by omega] at hb ⊢
          obtain ⟨o1, o2⟩ := HMv.out.next HC.out hmid hf2 hv2 hk2 ho2 hb ((Kp.refl X _).setCell _ _ (.inr rfl)) H5.out ⟨by have := HMX.out; have := HS7.out; omega, HMX.out.2.2.1⟩ ⟨by have := HS7.out; omega, HMX.out.1, by have := HMX.out; omega⟩ HMX.out.2.2.2 HVs.out
          exact ⟨o1, _, _, _, _, o2⟩
        clear hlx hp2 hf2 hv2 hk2 ho2 HR c1 c2 c3
        gi_wp2_with (fail)
        exact HEND.out
      · have h1 : ((mu : Int) == 0) = false := by simp; omega
        have c4 : V.cell? ⟨LB, 0, none⟩ = some (.int .i64 (m : Int)) := HMv.out.lb.cell rfl
        have f4 : V.frozen? ⟨LB, 0, none⟩ = false := HMv.out.lb.froz _
        have HEND : Hid (Own2 W7.heap.size V (V.setCell ⟨LB, 0, none⟩ (.int .i64 (min (m : Int) (mu : Int)))) ∧ ∃ l1 m1 s1 v1, WkM C s G p v v5 w W7.heap.size LB mx MV ((pl (C.U p) (64 * C.W)).take (j + 1)) l1 m1 s1 v1 (V.setCell ⟨LB, 0, none⟩ (.int .i64 (min (m : Int) (mu : Int))))) := by
          have hmid := HMv.out.mid.seen HI.out hun HE.out (by rw [HMU.out]; exact h0)
          rw [← HU.out, HMU.out] at hmid
          have hb := HMv.out.lb.set 0 (.int .i64 (min (m : Int) (mu : Int)))
          rw [show (min (m : Int) (mu : Int)) = ((min m mu : Nat) : Int) by omega] at hb ⊢
          obtain ⟨o1, o2⟩ := HMv.out.next HC.out hmid HMv.out.fix HMv.out.var (Kp.refl V _) (fun i q => .inl q) hb ((Kp.refl V _).setCell _ _ (.inr rfl)) H5.out ⟨by have := HMX.out; have := HS7.out; omega, HMX.out.2.2.1⟩ ⟨by have := HS7.out; omega, HMX.out.1, by have := HMX.out; omega⟩ HMX.out.2.2.2 HVs.out
          exact ⟨o1, _, _, _, _, o2⟩
        gi_wp2_with (fail)
        exact HEND.out
    case hdone =>
      subst hact
      rintro D W hD ⟨l, m, s1, v1, hM⟩ hdef
      rw [List.take_length] at hM
      have HM : Hid (WkM C s G p v v5 w W7.heap.size LB mx MV (pl (C.U p) (64 * C.W)) l m s1 v1 W) := hM
      have HDf : Hid (W.heap[D]? = some (.deferred (some []))) := hdef
      have HD : Hid (D = W7.heap.size) := hD
      have HUs : Hid (∀ q, C.E p q → q ∈ pl (C.U p) (64 * C.W)) := fun q h => (HC.out.mem hp).2 h
      have hle := hM.mid.le
      have c4 : W.cell? ⟨LB, 0, none⟩ = some (.int .i64 (m : Int)) := hM.lb.cell rfl
      clear hM hdef hD HI0
      have HPO : Hid (∀ o, WkM C s G p v v5 w W7.heap.size LB mx MV (pl (C.U p) (64 * C.W)) l m s1 v1 (W.putObj D o)) := fun o => HM.out.far HC.out (putObj_self (l := D)) (fun i e => by have e' : i = D := e; have := HD.out; omega) (fun i e => (H5.out i e).2.1) (by have := HMX.out; have := HS7.out; omega) (by have := HS7.out; omega) (by have := HMX.out; have := HS7.out; omega) (by have := HMX.out; have := HS7.out; omega)
      have HOW : Hid (∀ i, v1.ownBlock = some i → v.ownBlock = some i ∨ w.heap.size ≤ i) := fun i q => by
        rcases HM.out.own i q with q | q
        · exact (H5.out i q).2.2
        · have := HMX.out; have := HS7.out; exact .inr (by omega)
      by_cases hlt : m < ct
      · have hlti : (m : Int) < (ct : Int) := by omega
        go_wp2_with fail
        refine ⟨by simp, .inl ⟨_, _, rfl, run_takeDeferred HDf.out, ?_⟩⟩
        refine ⟨_, results_tmp rfl _ _ _, m, s1, v1, rfl, HM.out.mid.leave HI.out HUs.out (by rw [HCT.out]; exact hlt), (HPO.out _).fix, (HPO.out _).var, (HPO.out _).kp, HOW.out⟩
      · have hlti : ¬ (m : Int) < (ct : Int) := by omega
        have hmct : m = s.cnt + 1 := by have := HCT.out; omega
        have HMC : Hid (m = s.cnt + 1) := hmct
        have hop := HM.out.mid.op
        have HOP : Hid (s1.op = s.op ++ p :: l) := hop
        obtain ⟨g, c, hv1, hnc, hg0⟩ : ∃ g c, v1 = .slice (some ⟨g, 0, none⟩) (on + (l.length + 1)) c ∧ on + (l.length + 1) ≤ c ∧ C.B ≤ g := by
          rcases HM.out.var.row.2 with ⟨_, q⟩ | ⟨g, cap, cur, q, hb, _, hnc, _⟩
          · rw [hop] at q; simp at q
          · have e : s1.op.length = on + (l.length + 1) := by rw [hop, List.length_append, HON.out]; rfl
            rw [e] at q hnc
            exact ⟨g, cap, q, hnc, hb⟩
        have HV1 : Hid (v1 = .slice (some ⟨g, 0, none⟩) (on + (l.length + 1)) c) := hv1
        have hll : on + (l.length + 1) ≤ 4096 := by
          have := Tj.nodup_lt (l := s1.op) (N := C.n) (HM.out.mid.inv.rise.imp (fun {a b} h e => by rw [e] at h; exact Nat.lt_irrefl _ h)) HM.out.mid.inv.lt
          rw [hop, List.length_append, HON.out, List.length_cons] at this
          omega
        have d1 : W.cell? ⟨C.ob, 0, none⟩ = some (.slice (some ⟨g, 0, none⟩) (on + (l.length + 1)) c) := by have := HM.out.var.ob.cell (i := 0) rfl; rw [hv1] at this; exact this
        have hsl := fun w' => ints_from g (on + (l.length + 1)) c on (by omega) (by omega) hnc (by omega) w'
        obtain ⟨gn, hgn⟩ : ∃ gn, l.length + 1 = gn := ⟨_, rfl⟩
        rw [show on + (l.length + 1) - on = gn by omega] at hsl
        have HGN : Hid (l.length + 1 = gn) := hgn
        rw [hgn] at d1 hsl hll hnc HV1
        clear hop hmct hle hv1 hgn
        go_wp2_with fail
        have HX : Hid (∀ k, k < gn → ∃ q, (p :: l)[k]? = some q ∧ q < C.n ∧ ∀ wr s' , CVar C s' v1 wr → s'.op = s1.op → wr.cell? ⟨g, on + k, none⟩ = some (.int .i64 (q : Int))) := fun k hk => by
          obtain ⟨q, hq⟩ : ∃ q, (p :: l)[k]? = some q := ⟨_, List.getElem?_eq_getElem (by rw [List.length_cons, HGN.out]; exact hk)⟩
          refine ⟨q, hq, HM.out.mid.inv.lt q (by rw [HOP.out]; exact List.mem_append_right _ (List.mem_of_getElem? hq)), fun wr s' h e => ?_⟩
          have h1 := h.row.cells (g := g) (by rw [HV1.out]; rfl) (on + k) (.int .i64 (q : Int)) (by
            rw [e, HOP.out, List.map_append, List.getElem?_append_right (by rw [List.length_map, HON.out]; omega), List.length_map, HON.out, Nat.add_sub_cancel_left, List.getElem?_map, hq]; rfl)
          rw [Addr.add_lit, Nat.zero_add] at h1
          exact h1
        have HS0 : Hid (ShR C s1 p l v1 W (.int .i64 0) W) := ⟨0, rfl, Nat.zero_le _, HM.out.fix, by
          have : shutS C s1 p l 0 = s1 := by unfold shutS; simp
          rw [this]; exact HM.out.var, Kp.refl _ _⟩
        have HDC : Hid (¬ CS C v1 D) := fun q => by
          have h := HC.out
          have ha := h.g; have hq1 := h.h; have hq2 := h.i; have hq3 := h.j; have hq4 := h.k; have hq5 := h.l; have hq6 := h.e; have hq7 := h.f; have := HMX.out; have := HS7.out; have := HD.out
          rcases q with q | q | q | q | q
          · omega
          · omega
          · omega
          · omega
          · rcases HM.out.own _ q with q | q
            · have := (H5.out _ q).2.1; omega
            · omega
        go_loopw [61] (fun i wr => ShR C s1 p l v1 W i wr) (fun i _ => gn - (intOf i).toNat)
        case atStart => exact HS0.out
        case round =>
          clear HS0 d1 hsl
          obtain ⟨k, rfl, hk, hfx, hvr, hkp⟩ := hrel
          rw [List.length_cons, HGN.out] at hk
          have HFX : Hid (CFix C wr) := hfx
          have HVR : Hid (CVar C (shutS C s1 p l k) v1 wr) := hvr
          have HKP : Hid (Kp W wr (CS C v1)) := hkp
          clear hfx hvr hkp
          by_cases hkn : k < gn
          · obtain ⟨q, hq, hqn, hcell⟩ := HX.out k hkn
            have HQ : Hid ((p :: l)[k]? = some q) := hq
            have e1 : wr.cell? ⟨g, on + k, none⟩ = some (.int .i64 (q : Int)) := hcell wr _ HVR.out rfl
            have hki : (k : Int) < (gn : Int) := by omega
            clear hq hcell
            go_wp2_with fail
            obtain ⟨cva, cvc, hcv⟩ := HFX.out.cl
            have c1 : wr.cell? ⟨C.mt, 0, none⟩ = some (.slice (some ⟨C.Mb, 0, none⟩) C.n C.n) := HFX.out.mt.cell rfl
            have c2 : wr.cell? ⟨C.wb, 0, none⟩ = some (.pointer (some ⟨C.wp, 0, none⟩)) := HFX.out.wb.cell rfl
            have c3 : wr.cell? ⟨C.wp, 0, none⟩ = some (.slice cva C.n cvc) := by have := HFX.out.wp.cell (i := 0) rfl; rw [hcv] at this; exact this
            obtain ⟨old, hold⟩ : ∃ old, wr.cell? ⟨C.Mb, q, none⟩ = some (.int .i64 old) := ⟨_, HVR.out.Mb.cell (nums_get hqn)⟩
            have hf : wr.frozen? ⟨C.Mb, q, none⟩ = false := HVR.out.Mb.froz _
            have hqi : (q : Int) < (C.n : Int) := by omega
            have hq0 : (0 : Int) ≤ (q : Int) := by omega
            have hwr : IntKind.i64.wrap ((C.n : Int) + 1) = (C.n : Int) + 1 := by rw [IntKind.wrap_i64]; omega
            have KS : Hid (∀ w', Kp wr w' (fun i => i = C.Mb) → (w'.cell? ⟨C.mt, 0, none⟩ = some (.slice (some ⟨C.Mb, 0, none⟩) C.n C.n) ∧ w'.cell? ⟨C.wb, 0, none⟩ = some (.pointer (some ⟨C.wp, 0, none⟩)) ∧ w'.cell? ⟨C.wp, 0, none⟩ = some (.slice cva C.n cvc))) := fun w' g' => by
              have h1 := HFX.out.kp HC.out g' (fun i _ e => .inr (.inr (.inl e)))
              refine ⟨h1.mt.cell rfl, h1.wb.cell rfl, ?_⟩
              have := h1.wp.cell (i := 0) rfl; rw [hcv] at this; exact this
            go_region_held3 (fun w' => w'.cell? ⟨C.mt, 0, none⟩ = some (.slice (some ⟨C.Mb, 0, none⟩) C.n C.n) ∧ w'.cell? ⟨C.wb, 0, none⟩ = some (.pointer (some ⟨C.wp, 0, none⟩)) ∧ w'.cell? ⟨C.wp, 0, none⟩ = some (.slice cva C.n cvc))
              (first | (exact KS.out _ (Kp.refl _ _)) | (exact KS.out _ (Kp.refl _ _).drew) | (exact KS.out _ ((Kp.setCell (Kp.refl wr (fun i => i = C.Mb)) ⟨C.Mb, q, none⟩ _ (.inr rfl)).drew)))
              (fail)
            have hMa := (HVR.out.Mb.set q (.int .i64 ((C.n : Int) + 1))).drew
            have gMa : Kp wr (wr.setCell ⟨C.Mb, q, none⟩ (.int .i64 ((C.n : Int) + 1))).drew (fun i => i = C.Mb) := (Kp.setCell (Kp.refl wr (fun i => i = C.Mb)) ⟨C.Mb, q, none⟩ _ (.inr rfl)).drew
            obtain ⟨Wa, hWa⟩ : ∃ Wa, (wr.setCell ⟨C.Mb, q, none⟩ (.int .i64 ((C.n : Int) + 1))).drew = Wa := ⟨_, rfl⟩
            rw [hWa] at hMa gMa ⊢
            have HMA : Hid (Blk Wa C.Mb ((nums (fun x => (((shutS C s1 p l k).met x : Nat) : Int)) C.n).set q (.int .i64 ((C.n : Int) + 1))) 3) := hMa
            have GMA : Hid (Kp wr Wa (fun i => i = C.Mb)) := gMa
            have HFA : Hid (CFix C Wa) := HFX.out.kp HC.out gMa (fun i _ e => .inr (.inr (.inl e)))
            clear hMa gMa hWa hold hf KS hwr c1 c2 c3 e1
            have b1 : Wa.cell? ⟨C.rb, 0, none⟩ = some (.slice (some ⟨C.Cb, 0, none⟩) C.W C.W) := HFA.out.rb.cell rfl
            have HPut : Hid (∀ O : Nat → Bool, Blk Wa C.Cb (wds O C.W) 122 → Calls Tryz.prog 57 #[.slice (some ⟨C.Cb, 0, none⟩) C.W C.W, .int .i64 (q : Int)] Wa fun e w' => e = .returned (.tuple #[]) ∧ Blk w' C.Cb (wds (ins O q) C.W) 122 ∧ Kp Wa w' (fun i => i = C.Cb)) := fun O h => put_blk C.Cb C.W C.W q O Wa (by have := HC.out.bits; omega) (by have := HC.out.n; omega) h
            obtain ⟨O, hO, hOl, hbO⟩ := HVR.out.Cb
            have HOl : Hid (∀ x, O x = true → x < C.n) := hOl
            have HO : Hid (∀ x, x < C.n → (O x = true ↔ (shutS C s1 p l k).out x)) := hO
            have HBO : Hid (Blk Wa C.Cb (wds O C.W) 122) := hbO.kp GMA.out (fun e => by have := HC.out.e; have := HC.out.f; have := HC.out.g; have e' : C.Cb = C.Mb := e; omega)
            clear hO hbO hOl
            have HYes : Hid ((l ≠ [] ∨ C.E q q) → ∀ X, Blk X C.Cb (wds (ins O q) C.W) 122 → Kp Wa X (fun i => i = C.Cb) → ShR C s1 p l v1 W (.int .i64 ((k : Int) + 1)) X) := fun hc X hb gx => by
              obtain ⟨h1, h2, h3⟩ := shut_step HC.out HQ.out hqn HFX.out HVR.out HKP.out GMA.out HMA.out gx HO.out HOl.out hb (fun x hx => by
                unfold ins at hx
                by_cases e : x = q
                · exact .inr e
                · rw [if_neg e] at hx; exact .inl hx) (fun x _ => by
                unfold ins
                by_cases e : x = q
                · subst e; simp [hc]
                · simp [e])
              exact ⟨k + 1, by push_cast; rfl, by rw [List.length_cons, HGN.out]; omega, h1, h2, h3⟩
            have HNo : Hid (¬ (l ≠ [] ∨ C.E q q) → ShR C s1 p l v1 W (.int .i64 ((k : Int) + 1)) Wa) := fun hc => by
              obtain ⟨h1, h2, h3⟩ := shut_step HC.out HQ.out hqn HFX.out HVR.out HKP.out GMA.out HMA.out (Kp.refl Wa _) HO.out HOl.out HBO.out (fun x hx => .inl hx) (fun x _ => by
                constructor
                · exact .inl
                · rintro (h | ⟨_, h⟩)
                  · exact h
                  · exact absurd h hc)
              exact ⟨k + 1, by push_cast; rfl, by rw [List.length_cons, HGN.out]; omega, h1, h2, h3⟩
            by_cases hg1 : 1 < gn
            · have hg1i : (1 : Int) < (gn : Int) := by omega
              have HL : Hid (l ≠ [] ∨ C.E q q) := .inl (fun e => by have := HGN.out; rw [e] at this; simp at this; omega)
              go_wp2_with (go_at_call 57; refine (HPut.out O HBO.out).mono ?_; rintro e X ⟨rfl, hbX, hkX⟩)
              have HR := HYes.out HL.out X hbX hkX
              clear hbX hkX
              go_wp2_with fail
              go_roundw
              case rel => exact HR
              case measure => simp only [intOf]; omega
            · have hg1i : ¬ (1 : Int) < (gn : Int) := by omega
              have hll0 : l = [] := List.length_eq_zero_iff.1 (by have := HGN.out; omega)
              obtain ⟨hub, hma⟩ := HFA.out.users HC.out hqn
              have b2 : Wa.cell? ⟨C.wb, 0, none⟩ = some (.pointer (some ⟨C.wp, 0, none⟩)) := HFA.out.wb.cell rfl
              have b3 : Wa.cell? ⟨C.wp, 1, none⟩ = some (.slice (some ⟨C.ub, 0, none⟩) C.n C.n) := HFA.out.wp.cell rfl
              obtain ⟨uc2, huc2⟩ : ∃ uc2, (C.n - q) * C.W = uc2 := ⟨_, rfl⟩
              obtain ⟨uo2, huo2⟩ : ∃ uo2, q * C.W = uo2 := ⟨_, rfl⟩
              rw [huc2, huo2] at hub
              rw [huo2] at hma
              have HHas : Hid (Calls Tryz.prog 56 #[.slice (some ⟨C.mb, uo2, none⟩) C.W uc2, .int .i64 (q : Int)] Wa fun e w' => e = .returned (.bool (C.U q q)) ∧ w' = Wa) := mhas_at C.mb uo2 C.W uc2 q (C.U q) Wa (by have := HC.out.bits; omega) (by have := HC.out.n; omega) hma
              have HCond : Hid (C.U q q = true ↔ (l ≠ [] ∨ C.E q q)) := by
                show _ ↔ _
                unfold Ce.E
                rw [hll0]
                simp [hqn]
              clear hma huc2 huo2
              generalize C.U q q = uq at *
              cases uq with
              | true =>
                have HL := HCond.out.1 rfl
                go_wp2_with (first
                  | (go_at_call 56; refine HHas.out.mono ?_; rintro e wz ⟨rfl, hz⟩; subst hz)
                  | (go_at_call 57; refine (HPut.out O HBO.out).mono ?_; rintro e X ⟨rfl, hbX, hkX⟩))
                have HR := HYes.out HL X hbX hkX
                clear hbX hkX
                go_wp2_with fail
                go_roundw
                case rel => exact HR
                case measure => simp only [intOf]; omega
              | false =>
                have HR := HNo.out (fun q => by have := HCond.out.2 q; cases this)
                go_wp2_with (first
                  | (go_at_call 56; refine HHas.out.mono ?_; rintro e wz ⟨rfl, hz⟩; subst hz))
                go_roundw
                case rel => exact HR
                case measure => simp only [intOf]; omega
          · have hkg : k = gn := by omega
            subst hkg
            have hnn : ¬ ((k : Int) < (k : Int)) := by omega
            have hsu := fun w' => ints_upto (some ⟨g, 0, none⟩) (on + k) c on (by omega) hnc (by omega) w'
            have d1 : wr.cell? ⟨C.ob, 0, none⟩ = some (.slice (some ⟨g, 0, none⟩) (on + k) c) := by have := HVR.out.ob.cell (i := 0) rfl; rw [HV1.out] at this; exact this
            have HOb2 : Hid (Blk wr C.ob [.slice (some ⟨g, 0, none⟩) (on + k) c] 32) := by have := HVR.out.ob; rw [HV1.out] at this; exact this
            go_wp2_with (first
              | (refine wpList_store_cell rfl 32 (.tmp 2) (.tmp 94) rfl C.ob 0 rfl (.slice (some ⟨g, 0, none⟩) on c) rfl rfl _ _ HOb2.out (by simp) infoSlI1 ?_; intro X hbX hkX)
              | fail)
            have hDX : X.heap[D]? = some (.deferred (some [])) := by
              have hDl := (Array.getElem?_eq_some_iff.1 HDf.out).1
              have hb := HKP.out.block D hDl HDC.out
              refine (hkX.block D (Nat.lt_of_lt_of_le hDl HKP.out.size) (fun e => HDC.out (.inr (.inl e)))).trans (hb.trans HDf.out)
            refine ⟨by simp, .inl ⟨_, _, rfl, run_takeDeferred hDX, ?_⟩⟩
            have HGY : Hid (Kp wr (X.putObj D (.deferred none)) (fun i => i = C.ob ∨ i = D)) := (hkX.mono (fun _ _ e => .inl e)).trans' putObj_self (fun _ _ e => .inr e)
            have hwD : w.heap.size ≤ D := by have := HMX.out; have := HS7.out; have := HD.out; omega
            have hBD : C.B ≤ D := by have := HMX.out; omega
            have HbY : Hid (Blk (X.putObj D (.deferred none)) C.ob [.slice (some ⟨g, 0, none⟩) on c] 32) := hbX.kp putObj_self (fun e => HDC.out (.inr (.inl (by have e' : C.ob = D := e; exact e'.symm))))
            generalize X.putObj D (.deferred none) = Y at *
            refine ⟨_, results_tmp rfl _ _ _, s.cnt + 1, ⟨fun x => if x ∈ p :: l then C.n + 1 else s1.met x, s.op, s1.cnt, fun x => s1.out x ∨ (x ∈ p :: l ∧ (l ≠ [] ∨ C.E x x))⟩, .slice (some ⟨g, 0, none⟩) on c, by rw [← HCT.out]; rfl,
              HM.out.mid.shut HI.out (fun a b h => HC.out.u a b h.2) hp HUs.out HMC.out (fun x => rfl) rfl rfl (fun x => Iff.rfl), ?_, ?_, ?_, fun i hi => HOW.out i (by rw [HV1.out]; exact hi)⟩
            · have h := HC.out
              have ha := h.g; have hq1 := h.h; have hq2 := h.i; have hq3 := h.j; have hq4 := h.k; have hq5 := h.l; have hq6 := h.e; have hq7 := h.f
              exact HFX.out.kp HC.out HGY.out (fun i hi e => by rcases e with e | e; exact .inr (.inl e); omega)
            · have h := HC.out
              have ha := h.g; have hq1 := h.h; have hq2 := h.i; have hq3 := h.j; have hq4 := h.k; have hq5 := h.l; have hq6 := h.e; have hq7 := h.f
              have htk : (p :: l).take k = p :: l := List.take_of_length_le (by rw [List.length_cons]; have := HGN.out; omega)
              obtain ⟨O, hO, hl, hb⟩ := HVR.out.Cb
              refine ⟨HVR.out.cb.kp HGY.out (fun e => by rcases e with e | e <;> omega), ?_, ⟨O, fun x hx => ?_, hl, hb.kp HGY.out (fun e => by rcases e with e | e <;> omega)⟩, HbY.out, ?_⟩
              · have h1 := HVR.out.Mb.kp HGY.out (fun e => by rcases e with e | e <;> omega)
                unfold shutS at h1
                simp only [htk] at h1
                exact h1
              · have h1 := hO x hx
                unfold shutS at h1
                simp only [htk] at h1
                exact h1
              · have h1 := row_keep HVR.out.row HGY.out (fun i e q => by
                  have h2 := (row_base HVR.out.row i e).1
                  rcases q with q | q
                  · omega
                  · subst q; exact HDC.out (.inr (.inr (.inr (.inr e)))))
                have e1 : (shutS C s1 p l k).op = s.op ++ p :: l := HOP.out
                rw [e1, HV1.out, List.length_append, HON.out, List.length_cons, HGN.out] at h1
                have h2 := row_cut h1 (i := on) (by omega)
                rw [List.map_append, List.take_left' (by rw [List.length_map, HON.out])] at h2
                rw [HON.out]
                exact h2
            · refine (HM.out.kp.trans' HKP.out (fun i hi e => ?_)).trans' HGY.out (fun i hi e => ?_)
              · rcases e with e | e | e | e | e
                · exact .inl e
                · exact .inr (.inl e)
                · exact .inr (.inr (.inl e))
                · exact .inr (.inr (.inr (.inl e)))
                · rcases HOW.out i e with q | q
                  · exact .inr (.inr (.inr (.inr q)))
                  · omega
              · rcases e with e | e
                · exact .inr (.inl e)
                · omega
end Go.Proofs.YtdlieecpckpemaaGreatDoor
namespace Go.Proofs.YtdlieecpckpemaaGreatDoor
open Go.RowKit Go.Shelf
attribute [local go_sem] Oper.semAt_some
/-- A web in memory: its struct wp, its list ub, its memory mb; n cells, of each its users U. -/
structure WebM (w : World) (wp ub mb : Nat) (cells : Value) (n : Nat) (U : Nat → Nat → Bool) : Prop where
  bw : Blk w wp [cells, .slice (some ⟨ub, 0, none⟩) n n] 88
  bu : Blk w ub (upL mb ((n + 63) / 64) n n) 84
  bm : Blk w mb (memL U ((n + 63) / 64) n) 122
  cl : ∃ a c, cells = .slice a n c
  ord : 0 < mb ∧ mb < ub ∧ ub < wp
  lt : ∀ p q, U p q = true → q < n
  le : n ≤ 4096
theorem WebM.kp {w w' : World} {wp ub mb : Nat} {cells : Value} {n : Nat} {U : Nat → Nat → Bool} {S : Nat → Prop} (h : WebM w wp ub mb cells n U) (g : Kp w w' S) (h1 : ¬ S wp) (h2 : ¬ S ub) (h3 : ¬ S mb) : WebM w' wp ub mb cells n U :=
  ⟨h.bw.kp g h1, h.bu.kp g h2, h.bm.kp g h3, h.cl, h.ord, h.lt, h.le⟩
theorem WebM.kpn {w w' : World} {wp ub mb : Nat} {cells : Value} {n : Nat} {U : Nat → Nat → Bool} (h : WebM w wp ub mb cells n U) (g : Kp w w' Nul) : WebM w' wp ub mb cells n U := h.kp g (fun x => x) (fun x => x) (fun x => x)
/-- Place p's users are those q. -/
def webE (n : Nat) (U : Nat → Nat → Bool) (p q : Nat) : Prop := p < n ∧ U p q = true
def CirR (C : Ce) (w : World) (i : Value) (wr : World) : Prop :=
  ∃ (k : Nat) (s : Tj.St) (v : Value), i = .int .i64 (k : Int) ∧ k ≤ C.n ∧ Tj.Inv C.n C.E (fun _ => False) s ∧ CFix C wr ∧ CVar C s v wr ∧ (∀ x, x < k → s.met x ≠ 0) ∧ Kp w wr Nul
set_option maxRecDepth 100000 in
set_option maxHeartbeats 8000000 in
theorem circled_at (wp ub mb n : Nat) (cells : Value) (U : Nat → Nat → Bool) (w : World) (h : WebM w wp ub mb cells n U) (hT : Tab w) :
    Calls Tryz.prog 61 #[.pointer (some ⟨wp, 0, none⟩)] w fun e w' => ∃ (Cb : Nat) (O : Nat → Bool), e = .returned (.slice (some ⟨Cb, 0, none⟩) ((n + 63) / 64) ((n + 63) / 64)) ∧ w.heap.size ≤ Cb ∧ Blk w' Cb (wds O ((n + 63) / 64)) 122 ∧ (∀ x, O x = true ↔ x < n ∧ Tj.Cy (webE n U) x) ∧ Kp w w' Nul := by
  obtain ⟨W, hW⟩ : ∃ W, (n + 63) / 64 = W := ⟨_, rfl⟩
  have HW : Hid ((n + 63) / 64 = W) := hW
  have hn := h.le
  have HH : Hid (WebM w wp ub mb cells n U) := h
  have HT : Hid (Tab w) := hT
  obtain ⟨ca, cc, hcl⟩ := h.cl
  have HCL : Hid (cells = .slice ca n cc) := hcl
  have c0 : w.cell? ⟨wp, 0, none⟩ = some (.slice ca n cc) := by have := h.bw.cell (i := 0) rfl; rw [hcl] at this; exact this
  obtain ⟨ds, hds, hmk⟩ := make_is 32 3 (.int .i64 0) 8 Tryz.underlying32 infoInt rfl n (by omega) (by omega)
  have HNM : Hid (∀ wq, Calls Tryz.prog 54 #[.int .i64 (n : Int)] wq fun e w' => ∃ cs : Array Value, e = .returned (.slice (some ⟨wq.heap.size, 0, none⟩) W W) ∧ cs.toList = wds (fun _ => false) W ∧ w' = wq.alloc (.cells cs 122)) := fun wq => by
    have := newMarks_at n (by omega) wq
    rw [hW] at this
    exact this
  rw [hW]
  have hwl := h.bw.lt
  clear h hT hcl hW
  go_enter Tryz.func61, Tryz.ntmps61
  go_upto_region 2 with (first
    | (go_at_call 54; refine (HNM.out _).mono ?_; rintro e wq ⟨cs, rfl, hcs, hwq⟩; subst hwq)
    | fail)
  obtain ⟨b0, hb0⟩ : ∃ b0, w.heap.size = b0 := ⟨_, rfl⟩
  have HB0 : Hid (w.heap.size = b0) := hb0
  simp only [hb0]
  obtain ⟨W3, hW3⟩ : ∃ W3, ((w.alloc (.cells #[.pointer (some ⟨wp, 0, none⟩)] 81)).alloc (.cells cs 122)).alloc (.cells #[.slice (some ⟨b0 + 1, 0, none⟩) W W] 84) = W3 := ⟨_, rfl⟩
  have k3 : Kp w W3 Nul := by rw [← hW3]; exact (((Kp.refl w Nul).alloc _).alloc _).alloc _
  have s3 : W3.heap.size = b0 + 3 := by rw [← hW3]; simp only [World.size_alloc]; omega
  have x0 : Blk W3 b0 [.pointer (some ⟨wp, 0, none⟩)] 81 := by rw [← hW3]; exact ((Blk.at_ hb0 _ _).alloc _).alloc _
  have x1 : Blk W3 (b0 + 1) (wds (fun _ => false) W) 122 := by rw [← hW3]; exact (Blk.atA (by rw [World.size_alloc, hb0]) cs 122 hcs).alloc _
  have x2 : Blk W3 (b0 + 2) [.slice (some ⟨b0 + 1, 0, none⟩) W W] 84 := by rw [← hW3]; exact Blk.at_ (by rw [World.size_alloc, World.size_alloc, hb0]) _ _
  rw [hW3]
  have K3 : Hid (Kp w W3 Nul) := k3
  have X0 : Hid (Blk W3 b0 [.pointer (some ⟨wp, 0, none⟩)] 81) := x0
  have X1 : Hid (Blk W3 (b0 + 1) (wds (fun _ => false) W) 122) := x1
  have X2 : Hid (Blk W3 (b0 + 2) [.slice (some ⟨b0 + 1, 0, none⟩) W W] 84) := x2
  have S3 : Hid (W3.heap.size = b0 + 3) := s3
  have c1 : W3.cell? ⟨b0, 0, none⟩ = some (.pointer (some ⟨wp, 0, none⟩)) := x0.cell rfl
  have c2 : W3.cell? ⟨wp, 0, none⟩ = some (.slice ca n cc) := by have := (HH.out.kpn k3).bw.cell (i := 0) rfl; rw [HCL.out] at this; exact this
  clear k3 x0 x1 x2 hW3 hcs HNM c0 hwl hb0
  go_upto_region 3 with fail
  obtain ⟨W5, hW5⟩ : ∃ W5, (W3.alloc (.cells ds 3)).alloc (.cells #[.slice (some ⟨b0 + 3, 0, none⟩) n n] 32) = W5 := ⟨_, rfl⟩
  have k5 : Kp W3 W5 Nul := by rw [← hW5]; exact ((Kp.refl W3 Nul).alloc _).alloc _
  have s5 : W5.heap.size = b0 + 5 := by rw [← hW5]; simp only [World.size_alloc]; omega
  have X3 : Hid (Blk W5 (b0 + 3) (nums (fun _ => 0) n) 3) := by
    show Blk _ _ _ _
    rw [← hW5]; exact (Blk.atA s3 ds 3 (hds.trans (zeros_nums n))).alloc _
  have X4 : Hid (Blk W5 (b0 + 4) [.slice (some ⟨b0 + 3, 0, none⟩) n n] 32) := by
    show Blk _ _ _ _
    rw [← hW5]; exact Blk.at_ (by rw [World.size_alloc, s3]) _ _
  rw [hW5, show b0 + 3 + 1 = b0 + 4 from rfl]
  have K5 : Hid (Kp W3 W5 Nul) := k5
  have S5 : Hid (W5.heap.size = b0 + 5) := s5
  have c3 : W5.cell? ⟨b0, 0, none⟩ = some (.pointer (some ⟨wp, 0, none⟩)) := (X0.out.kp k5 (fun x => x)).cell rfl
  have c4 : W5.cell? ⟨wp, 0, none⟩ = some (.slice ca n cc) := by have := (HH.out.kpn (K3.out.trans k5)).bw.cell (i := 0) rfl; rw [HCL.out] at this; exact this
  clear k5 hW5 c1 c2 hmk hds s3
  go_upto_region 7 with fail
  simp only [Nat.add_assoc, Nat.reduceAdd]
  obtain ⟨C, hC⟩ : ∃ C : Ce, C = { n := n, W := W, mb := mb, ub := ub, wp := wp, wb := b0, Cb := b0 + 1, rb := b0 + 2, Mb := b0 + 3, mt := b0 + 4, ob := b0 + 5, cb := b0 + 6, kb := b0 + 7, B := b0 + 8, cells := cells, U := U } := ⟨_, rfl⟩
  obtain ⟨W8, hW8⟩ : ∃ W8, ((W5.alloc (.cells #[.slice none 0 0] 32)).alloc (.cells #[.int .i64 0] 3)).alloc (.cells #[.func (.func 98) #[] C.lb] 116) = W8 := ⟨_, rfl⟩
  have k8 : Kp W5 W8 Nul := by rw [← hW8]; exact (((Kp.refl W5 Nul).alloc _).alloc _).alloc _
  have s8 : W8.heap.size = b0 + 8 := by rw [← hW8]; simp only [World.size_alloc]; omega
  have y5 : Blk W8 (b0 + 5) [.slice none 0 0] 32 := by rw [← hW8]; exact ((Blk.at_ s5 _ _).alloc _).alloc _
  have y6 : Blk W8 (b0 + 6) [.int .i64 0] 3 := by rw [← hW8]; exact (Blk.at_ (by rw [World.size_alloc, s5]) _ _).alloc _
  have y7 : Blk W8 (b0 + 7) [.func (.func 98) #[] C.lb] 116 := by rw [← hW8]; exact Blk.at_ (by rw [World.size_alloc, World.size_alloc, s5]) _ _
  have k08 : Kp w W8 Nul := (K3.out.trans K5.out).trans k8
  have hw8 := HH.out.kpn k08
  have hord := HH.out.ord
  have hwl := HH.out.bw.lt
  have hO : C.Ord := by
    have hb := HB0.out
    rw [hC]
    exact ⟨hord.1, hord.2.1, hord.2.2, by show wp < b0; omega, Nat.lt_succ_self _, Nat.lt_succ_self _, Nat.lt_succ_self _, Nat.lt_succ_self _, Nat.lt_succ_self _, Nat.lt_succ_self _, Nat.lt_succ_self _, Nat.lt_succ_self _, hn, HW.out.symm, HH.out.lt⟩
  have hF : CFix C W8 := by
    have e := HW.out
    rw [hC] at y7 ⊢
    refine ⟨(X4.out).kp k8 (fun x => x), (X2.out.kp K5.out (fun x => x)).kp k8 (fun x => x), (X0.out.kp K5.out (fun x => x)).kp k8 (fun x => x), y7, hw8.bw, ?_, ?_, hw8.cl, HT.out.kp k08 (fun x => x), Nat.le_of_eq s8.symm⟩
    · have := hw8.bu; rw [e] at this; exact this
    · have := hw8.bm; rw [e] at this; exact this
  have hV : CVar C ⟨fun _ => 0, [], 0, fun _ => False⟩ (.slice none 0 0) W8 := by
    rw [hC]
    exact ⟨y6, X3.out.kp k8 (fun x => x), ⟨fun _ => false, fun p _ => by simp, fun p hp => by simp at hp, (X1.out.kp K5.out (fun x => x)).kp k8 (fun x => x)⟩, y5, World.ownsRow_nil _ _ _ _⟩
  have hCE : C.E = webE n U := by rw [hC]; rfl
  have hCn : C.n = n := by rw [hC]
  have hCW : C.W = W := by rw [hC]
  have hCc : C.Cb = b0 + 1 := by rw [hC]
  have hlow : ∀ i v s wq, CVar C s v wq → CS C v i → b0 ≤ i := fun i v s wq hv q => by
    have hB : C.B = b0 + 8 := by rw [hC]
    have h1 := hO.e; have h2 := hO.f; have h3 := hO.g; have h4 := hO.h; have h5 := hO.i; have h6 := hO.j
    rcases q with q | q | q | q | q
    · omega
    · omega
    · omega
    · omega
    · have := (row_base hv.row i q).1; omega
  have l1 : C.lb = #[.pointer (some ⟨b0 + 6, 0, none⟩), .pointer (some ⟨b0 + 5, 0, none⟩), .pointer (some ⟨b0 + 4, 0, none⟩), .pointer (some ⟨b0, 0, none⟩), .pointer (some ⟨b0 + 7, 0, none⟩), .pointer (some ⟨b0 + 2, 0, none⟩)] := by rw [hC]
  have HWalk : Hid (∀ (s : Tj.St) (p : Nat) (v : Value) (wq : World), p < n → s.met p = 0 → Tj.Inv n C.E (fun _ => False) s → CFix C wq → CVar C s v wq →
      Calls Tryz.prog 98 #[.int .i64 (p : Int), .pointer (some ⟨b0 + 6, 0, none⟩), .pointer (some ⟨b0 + 5, 0, none⟩), .pointer (some ⟨b0 + 4, 0, none⟩), .pointer (some ⟨b0, 0, none⟩), .pointer (some ⟨b0 + 7, 0, none⟩), .pointer (some ⟨b0 + 2, 0, none⟩)] wq (WkR C s (fun _ => False) p v wq)) := fun s p v wq hp h0 hI hf hv => by
    have := walk_any C hO C.n s (fun _ => False) p v wq (by omega) (by rw [hCn]; exact hp) h0 (by rw [hCn]; exact hI) (fun _ q => q.elim) hf hv
    rw [hC] at this ⊢
    exact this
  have HO : Hid C.Ord := hO
  have HCn : Hid (C.n = n) := hCn
  have HCW : Hid (C.W = W) := hCW
  have HCE : Hid (C.E = webE n U) := hCE
  have HCc : Hid (C.Cb = b0 + 1) := hCc
  have HLow : Hid (∀ i v s wq, CVar C s v wq → CS C v i → b0 ≤ i) := hlow
  have HI0 : Hid (CirR C w (.int .i64 0) W8) := ⟨0, ⟨fun _ => 0, [], 0, fun _ => False⟩, .slice none 0 0, rfl, Nat.zero_le _, Tj.Inv.start, hF, hV, fun x hx => absurd hx (Nat.not_lt_zero _), k08⟩
  have HFb : Hid (∀ wq, CFix C wq → wq.cell? ⟨b0 + 4, 0, none⟩ = some (.slice (some ⟨b0 + 3, 0, none⟩) n n) ∧ wq.cell? ⟨b0 + 7, 0, none⟩ = some (.func (.func 98) #[] C.lb) ∧ wq.cell? ⟨b0 + 2, 0, none⟩ = some (.slice (some ⟨b0 + 1, 0, none⟩) W W)) := fun wq hf => by
    have h1 := hf.mt.cell (i := 0) rfl
    have h2 := hf.kb.cell (i := 0) rfl
    have h3 := hf.rb.cell (i := 0) rfl
    rw [hC] at h1 h2 h3 ⊢
    exact ⟨h1, h2, h3⟩
  have HMb : Hid (∀ wq s v p, CVar C s v wq → p < n → wq.cell? ⟨b0 + 3, p, none⟩ = some (.int .i64 (s.met p : Int))) := fun wq s v p hv hp => by
    have h1 := hv.Mb.cell (i := p) (nums_get (by rw [hCn]; exact hp))
    rw [hC] at h1
    exact h1
  have d1 : W8.cell? ⟨b0, 0, none⟩ = some (.pointer (some ⟨wp, 0, none⟩)) := ((X0.out.kp K5.out (fun x => x)).kp k8 (fun x => x)).cell rfl
  have d2 : W8.cell? ⟨wp, 0, none⟩ = some (.slice ca n cc) := by have := hw8.bw.cell (i := 0) rfl; rw [HCL.out] at this; exact this
  rw [← l1, hW8]
  have HL1 : Hid (C.lb = #[.pointer (some ⟨b0 + 6, 0, none⟩), .pointer (some ⟨b0 + 5, 0, none⟩), .pointer (some ⟨b0 + 4, 0, none⟩), .pointer (some ⟨b0, 0, none⟩), .pointer (some ⟨b0 + 7, 0, none⟩), .pointer (some ⟨b0 + 2, 0, none⟩)]) := l1
  clear hW8 k8 s8 y5 y6 y7 k08 hw8 hord hwl hO hF hV hCE hCn hCW hCc hlow l1 s5 c3 c4
  go_wp2_with fail
  go_loopw [27] (fun i wr => CirR C w i wr) (fun i _ => n - (intOf i).toNat)
  case atStart => exact HI0.out
  case round =>
    clear HI0 d1 d2
    obtain ⟨k, s, v, rfl, hk, hI, hf, hv, hm, hkp⟩ := hrel
    rw [HCn.out] at hk
    have HI : Hid (Tj.Inv C.n C.E (fun _ => False) s) := hI
    have HF : Hid (CFix C wr) := hf
    have HV : Hid (CVar C s v wr) := hv
    have HM : Hid (∀ x, x < k → s.met x ≠ 0) := hm
    have HK : Hid (Kp w wr Nul) := hkp
    clear hI hf hv hm hkp
    obtain ⟨e1, e2, e3⟩ := HFb.out wr HF.out
    by_cases hkn : k < n
    · have hki : (k : Int) < (n : Int) := by omega
      have e4 := HMb.out wr s v k HV.out hkn
      obtain ⟨mk, hmk⟩ : ∃ mk, s.met k = mk := ⟨_, rfl⟩
      have HMk : Hid (s.met k = mk) := hmk
      rw [hmk] at e4
      rw [HL1.out] at e2
      clear hmk
      by_cases h0 : mk = 0
      · subst h0
        have hz : ((0 : Nat) : Int) = 0 := rfl
        rw [hz] at e4
        have HR : Hid (Calls Tryz.prog 98 #[.int .i64 (k : Int), .pointer (some ⟨b0 + 6, 0, none⟩), .pointer (some ⟨b0 + 5, 0, none⟩), .pointer (some ⟨b0 + 4, 0, none⟩), .pointer (some ⟨b0, 0, none⟩), .pointer (some ⟨b0 + 7, 0, none⟩), .pointer (some ⟨b0 + 2, 0, none⟩)] wr (WkR C s (fun _ => False) k v wr)) := HWalk.out s k v wr hkn HMk.out (by rw [← HCn.out]; exact HI.out) HF.out HV.out
        go_wp2_with fail
        refine HR.out.mono ?_
        rintro e X ⟨r, s2, v2, rfl, hp2, hf2, hv2, hk2, ho2⟩
        have HEND : Hid (CirR C w (.int .i64 ((k : Int) + 1)) X) := ⟨k + 1, s2, v2, by push_cast; rfl, by rw [HCn.out]; omega, hp2.inv, hf2, hv2, fun x hx => by
          by_cases e : x = k
          · subst e; exact hp2.met
          · have h1 := HM.out x (by omega)
            rw [hp2.keep x h1]; exact h1, HK.out.trans' hk2 (fun i hi q => by have := HLow.out i v s wr HV.out q; have := HB0.out; omega)⟩
        clear hp2 hf2 hv2 hk2 ho2 HR e1 e2 e3 e4
        go_wp2_with fail
        go_roundw
        case rel => exact HEND.out
        case measure => simp only [intOf]; omega
      · have h1 : ((mk : Int) == 0) = false := by simp; omega
        have HEND : Hid (CirR C w (.int .i64 ((k : Int) + 1)) wr) := ⟨k + 1, s, v, by push_cast; rfl, by rw [HCn.out]; omega, HI.out, HF.out, HV.out, fun x hx => by
          by_cases e : x = k
          · subst e; rw [HMk.out]; exact h0
          · exact HM.out x (by omega), HK.out⟩
        go_wp2_with fail
        go_roundw
        case rel => exact HEND.out
        case measure => simp only [intOf]; omega
    · have hke : k = n := by omega
      have HKE : Hid (k = n) := hke
      have hki : ¬ (k : Int) < (n : Int) := by omega
      clear hke
      go_wp2_with fail
      refine bodyPost_ret (results_tmp rfl _ _ _) rfl ?_
      obtain ⟨O, hO, hl, hb⟩ := HV.out.Cb
      rw [HCW.out, HCc.out] at hb
      refine ⟨b0 + 1, rfl, by have := HB0.out; omega, O, hb, fun x => ?_, HK.out⟩
      constructor
      · intro hx
        have h1 := hl x hx
        have h2 := (hO x h1).1 hx
        rw [HI.out.all (fun y hy => HM.out y (by rw [HCn.out] at hy; have := HKE.out; omega)) x h1, HCE.out] at h2
        exact ⟨by rw [← HCn.out]; exact h1, h2⟩
      · rintro ⟨h1, h2⟩
        have h3 : x < C.n := by rw [HCn.out]; exact h1
        rw [hO x h3, HI.out.all (fun y hy => HM.out y (by rw [HCn.out] at hy; have := HKE.out; omega)) x h3, HCE.out]
        exact h2
end Go.Proofs.YtdlieecpckpemaaGreatDoor
