/- Circle and Order agree. Set: any blocks; the areas in order. The law's circle. The document's Valid, In, Before. What the law of LinksHang wants. LinksHang: the walk. -/
import Derived.Test.YtdlieecpckpemaaGreatDoorLhLxu
import Derived.Test.YtdlieecpckpemaaGreatDoorLhLxd
namespace Go.Proofs.YtdlieecpckpemaaGreatDoor
open Go.RowKit Go.Sort Go.Lib Tj
theorem usE_lt {L : List (Int × Int)} {us : Int × Int → Option (List Ar)} : ∀ a b, usE L us a b → a < L.length ∧ b < L.length := fun a b h => ⟨h.1, by
  have h2 := h.2
  unfold useP at h2
  dsimp only at h2
  cases hq : L[b]? with
  | none => rw [hq] at h2; cases h2
  | some z => exact (List.getElem?_eq_some_iff.1 hq).1⟩
theorem cyc_iff {L : List (Int × Int)} {us : Int × Int → Option (List Ar)} (hset : ∀ x y, usR us x y → x ∈ L) : (∃ i, i < L.length ∧ Cy (usE L us) i) ↔ ∃ x, Hg (usR us) x x :=
  some_cy (E := usE L us) (uses := usR us) (fun _ _ _ _ ha hb => useP_iff ha hb) usE_lt hset
theorem usR_some {us : Int × Int → Option (List Ar)} {x y : Int × Int} (h : usR us x y) : (us x).isSome = true := by
  unfold usR at h
  cases hq : us x with
  | none => rw [hq] at h; cases h
  | some al => rfl
theorem useP_lt2 {L : List (Int × Int)} {us : Int × Int → Option (List Ar)} : ∀ p q, useP L us p q = true → p < L.length ∧ q < L.length := fun p q h => by
  unfold useP inPl at h
  cases hp : L[p]? with
  | none => rw [hp] at h; cases h
  | some x =>
    refine ⟨(List.getElem?_eq_some_iff.1 hp).1, ?_⟩
    rw [hp] at h
    dsimp only at h
    cases hq : L[q]? with
    | none => rw [hq] at h; simp at h
    | some y => exact (List.getElem?_eq_some_iff.1 hq).1
theorem ready_er {us : Int × Int → Option (List Ar)} {A : List (Int × Int)} {B : Nat} {w' : World} {v : Value} {er : Int} (h : RdIs us A [] B w' v er) (hA : ∀ x ∈ A, vC x.1 x.2 = true) (hset : ∀ x, (us x).isSome = true → x ∈ A) :
    ((∃ x, Hg (usR us) x x) ∧ er = 40) ∨ ((¬ ∃ x, Hg (usR us) x x) ∧ er = 0) := by
  rcases h with ⟨h, _⟩ | ⟨_, L, _, hm, h⟩
  · obtain ⟨x, hx, e⟩ := List.any_eq_true.1 h
    rw [hA x hx] at e; cases e
  · have e : (fun a b => useP L us b a = true) = usE L us := by
      funext a b
      exact propext ⟨fun h => ⟨(useP_lt2 b a h).2, h⟩, fun h => h.2⟩
    have hc := cyc_iff (us := us) (L := L) (fun x y hu => (hm x).2 (hset x (usR_some hu)))
    rw [← e] at hc
    have hi := (none_iff (P := []) (use := useP L us) useP_lt2).trans hc
    rcases h with ⟨h1, _, h3⟩ | ⟨o, R, b, h1, _, _, _, _, _, _, h3⟩
    · exact .inl ⟨hi.1 h1, h3⟩
    · refine .inr ⟨fun hh => ?_, h3⟩
      have := hi.2 hh
      rw [show (allM L) = fun q => decide (q < L.length) from rfl] at h1
      rw [h1] at this; cases this
theorem CirIs.sub {w w' : World} {us : Int × Int → Option (List Ar)} {L : List (Int × Int)} {f : Nat} {l : List Nat} {left : Nat} {R : List (Int × Int)} {v : Value} (h : CirIs w w' us L f l left R v) : ∀ x ∈ R, x ∈ L := fun x hx => by
  obtain ⟨i, hi⟩ := List.mem_iff_getElem?.1 hx
  have hlt := (List.getElem?_eq_some_iff.1 hi).1
  have hll : l.length = left := Tj.Chn.len h.chn
  have hR := h.len
  have : i < (f :: l).length := by rw [List.length_cons]; omega
  have := h.at' i _ (List.getElem?_eq_getElem this)
  rw [hi] at this
  exact List.mem_of_getElem? this.symm
/-- What Circle tells, for the law. -/
def CirLaw (w : World) (us : Int × Int → Option (List Ar)) (n : Nat) (e : Ending) (w' : World) : Prop :=
  Kp w w' Nul ∧ ((e = .returned (.tuple #[.slice none 0 0, .bool false]) ∧ ¬ ∃ x, Hg (usR us) x x) ∨
    ∃ (R : List (Int × Int)) (b c : Nat), e = .returned (.tuple #[.slice (some ⟨b, 0, none⟩) R.length c, .bool true]) ∧ R.length ≤ c ∧ R.length ≤ n ∧ (∃ x, Hg (usR us) x x) ∧ Ring us R ∧ w.heap.size ≤ b ∧ CellsAt w' b 0 R)
theorem circ_law {w w' : World} {us : Int × Int → Option (List Ar)} {n : Nat} {e : Ending} (h : CirOut w us n e w') : CirLaw w us n e w' := by
  obtain ⟨L, hst, hm, hn, hk, h⟩ := h
  refine ⟨hk, ?_⟩
  have hi := cyc_iff (us := us) (L := L) (fun x y hu => (hm x).2 (usR_some hu))
  rcases h with ⟨rfl, h⟩ | ⟨f, l, left, R, v, rfl, hc⟩
  · exact .inl ⟨rfl, fun hh => by
      obtain ⟨i, h1, h2⟩ := hi.2 hh
      exact h i h1 h2⟩
  · have hr := hc.ring hst
    obtain ⟨a, c, hv, ho⟩ := hc.out
    obtain ⟨a', c', hv', hcc⟩ := hc.cap
    rw [hv] at hv'
    cases hv'
    rcases ho with ⟨_, e⟩ | ⟨b, rfl, h2, h3⟩
    · rw [e] at hr; exact absurd hr.pos (Nat.lt_irrefl _)
    · refine .inr ⟨R, b, c, by rw [hv], hcc, ?_, hi.1 ⟨f, hc.lt, hc.cy⟩, hr, h2, h3⟩
      exact Nat.le_trans (hr.nod.length_le_of_subset hc.sub) hn
end Go.Proofs.YtdlieecpckpemaaGreatDoor
namespace Go.Proofs.YtdlieecpckpemaaGreatDoor
open Go.RowKit Go.Sort Go.Lib Go.Maps
/-- Links lie in those blocks alone that there are. -/
theorem LinksIn.below {w : World} {F : Nat → Prop} {l n : Nat} {us : Int × Int → Option (List Ar)} (h : LinksIn w F l us n) : LinksIn w (fun b => F b ∧ b < w.heap.size) l us n := by
  obtain ⟨hl, h⟩ := h
  rcases h with ⟨hb, e1, e2⟩ | ⟨m, D, hb, hm, hne, hown, hmh⟩
  · exact ⟨⟨hl, hb.lt⟩, .inl ⟨hb, e1, e2⟩⟩
  · refine ⟨⟨hl, hb.lt⟩, .inr ⟨m, D, hb, ⟨hm, hown.lt⟩, hne, hown, hmh.size, hmh.keys, fun c r al hu => ?_, hmh.rng, hmh.oks⟩⟩
    obtain ⟨v, h1, a, c', e1, e2, e3, h4⟩ := hmh.vals c r al hu
    refine ⟨v, h1, a, c', e1, e2, e3, fun hl => ?_⟩
    obtain ⟨b, o, f1, f2, f3⟩ := h4 hl
    obtain ⟨y, hy⟩ : ∃ y, al[0]? = some y := ⟨_, List.getElem?_eq_getElem hl⟩
    exact ⟨b, o, f1, ⟨f2, cell_lt (f3 0 y hy).1⟩, f3⟩
end Go.Proofs.YtdlieecpckpemaaGreatDoor
namespace Go.Proofs.YtdlieecpckpemaaGreatDoor
open Go.RowKit Go.Sort Go.Lib Go.Maps
/-- What 'c[i+1:]' comes to. -/
theorem slice_from2 (b RN cc i : Nat) (hi : i < RN) (hcc : RN ≤ cc) : ∃ a', (i + 1 < RN → a' = some ⟨b, (i + 1) * 2, none⟩) ∧ ∀ w, (Instr.sliceAt 30 (.slice (some ⟨b, 0, none⟩) RN cc) (some (.int .i64 ((i : Int) + 1))) none none).run Tryz.prog w = .ok (.slice a' (RN - (i + 1)) (cc - (i + 1))) w := by
  refine ⟨if cc = i + 1 then some ⟨b, 0, none⟩ else some ⟨b, (i + 1) * 2, none⟩, fun h => if_neg (by omega), fun w => ?_⟩
  have ht : Tryz.prog.underlying 30 = some (.slice (Tryz.prog.elem 30)) := by kernel_rfl
  have hz : (Go.sizeOf (Tryz.prog.elem 30)).run Tryz.prog w = .ok 2 w := by
    have : Tryz.prog.elem 30 = 29 := by kernel_rfl
    rw [this]; exact Tryz.sizeOf29 w
  rw [run_sliceAt_slice w _ _ _ _ _ ht, run_slice_l w _ _ _ _ ht .i64 ((i : Int) + 1) (by omega) (by omega), hz]
  have e : ((i : Int) + 1).toNat = i + 1 := by omega
  simp only [Result.andThen, sliced, e, Option.map_some, Addr.add]
  by_cases h : cc = i + 1
  · simp only [if_pos h]
  · simp only [if_neg h]
    rw [if_neg (by omega), Nat.zero_add]
/-- What the walk wants to know of the circle. -/
structure CLF (w2 : World) (l b RN : Nat) (R : List (Int × Int)) : Prop where
  at' : ∀ (wq : World) (i : Nat), Kp w2 wq Nul → i < RN → ∃ x1 x2, R[i]? = some (x1, x2) ∧ (wq.cell? ⟨b, i * 2, none⟩ = some (.int .i64 x1) ∧ wq.cell? ⟨b, i * 2 + 1, none⟩ = some (.int .i64 x2))
  dr : ∀ (wq : World) (i : Nat) (x1 x2 : Int) (a : Option Addr) (c : Nat), Kp w2 wq Nul → R[i]? = some (x1, x2) → (i + 1 < RN → a = some ⟨b, (i + 1) * 2, none⟩) → Calls Tryz.prog 18 #[.slice a (RN - (i + 1)) c, .agg #[.int .i64 x1, .int .i64 x2]] wq fun e w' => e = .returned (.bool false) ∧ Kp wq w' Nul
  us : ∀ (wq : World) (i : Nat) (x1 x2 y1 y2 : Int), Kp w2 wq Nul → R[i]? = some (x1, x2) → R[(i + 1) % RN]? = some (y1, y2) → Calls Tryz.prog 19 #[.pointer (some ⟨l, 0, none⟩), .agg #[.int .i64 y1, .int .i64 y2]] wq fun e w' => ∃ a nL c, e = .returned (.slice a nL c) ∧ Kp wq w' Nul ∧
    (∀ (wz : World), Kp w' wz Nul → Calls Tryz.prog 18 #[.slice a nL c, .agg #[.int .i64 x1, .int .i64 x2]] wz fun e w' => e = .returned (.bool true) ∧ Kp wz w' Nul)
theorem clf_of {w2 : World} {F : Nat → Prop} {l n b RN : Nat} {R : List (Int × Int)} {us : Int × Int → Option (List Ar)} (hRN : R.length = RN) (hR4 : RN ≤ 4096) (hc : CellsAt w2 b 0 R) (hr : Ring us R) (hl : LinksIn w2 F l us n) (hn : n ≤ 300) : CLF w2 l b RN R := by
  have hlk : ∀ wq, Kp w2 wq Nul → LinksIn wq F l us n := fun wq k => hl.kp k (fun _ _ x => x)
  refine ⟨fun wq i k hi => ?_, fun wq i x1 x2 a c k hx ha => ?_, fun wq i x1 x2 y1 y2 k hx hy => ?_⟩
  · obtain ⟨⟨x1, x2⟩, hx⟩ : ∃ x, R[i]? = some x := ⟨_, List.getElem?_eq_getElem (by omega)⟩
    have := (hc.kp k (fun x => x)) i _ hx
    rw [Nat.zero_add] at this
    exact ⟨x1, x2, hx, this⟩
  · have hdl : (R.drop (i + 1)).length = RN - (i + 1) := by rw [List.length_drop, hRN]
    have := has_is (R.drop (i + 1)) a c (x1, x2) false wq (by omega) (fun h => ⟨b, 0 + (i + 1) * 2, by rw [Nat.zero_add]; exact ha (by omega), (hc.kp k (fun x => x)).drop (i + 1)⟩) (by
      simp only [decide_eq_false_iff_not]
      intro hm
      obtain ⟨j, hj⟩ := List.mem_iff_getElem?.1 hm
      rw [List.getElem?_drop] at hj
      have := nodup_inj hr.nod hx hj
      omega)
    rw [hdl] at this
    exact this
  · refine (users_at F l n us y1 y2 wq (hlk wq k) (by omega)).mono ?_
    rintro e w' ⟨L, v', rfl, ⟨a, c, rfl, hL⟩, hst, hmm, hk'⟩
    refine ⟨a, L.length, c, rfl, hk', fun wz kz => ?_⟩
    refine has_is L a c (x1, x2) true wz (few_cells hst (fun z hz => ?_)) (fun h0 => ?_) ?_
    · have := (hmm z).1 hz
      cases hu : us z with
      | none => rw [hu] at this; cases this
      | some al => exact (hlk wq k).rng z al hu
    · rcases hL with ⟨_, e⟩ | ⟨b2, e1, _, e3⟩
      · rw [e] at h0; exact absurd h0 (Nat.lt_irrefl _)
      · exact ⟨b2, 0, e1, e3.kp kz (fun x => x)⟩
    · obtain ⟨y, h1, h2⟩ := hr.on i _ hx
      rw [hRN, hy] at h1
      cases h1
      simp only [decide_eq_true_eq]
      exact (hmm _).2 ((usR_any hl _ _).2 h2)
set_option maxRecDepth 20000 in
set_option maxHeartbeats 4000000 in
theorem ring_law (R0 : List Rl) (ra : Option Addr) (rc : Nat) (R : List (Int × Int)) (b cc : Nat) (us1 : Int × Int → Option (List Ar)) (w : World) (hR0 : R0.length ≤ 9223372036854775807) (hra : 0 < R0.length → ∃ b o, ra = some ⟨b, o, none⟩ ∧ RulesAt w b o R0)
    (hr : Ring us1 R) (h1 : UsLike us1 (usM (R0.take 300))) (hcc : R.length ≤ cc) (h4 : R.length ≤ 4096) (hc : CellsAt w b 0 R) :
    Calls Tryz.prog 25 #[.slice ra R0.length rc, .slice (some ⟨b, 0, none⟩) R.length cc] w fun e w' => e = .returned (.bool true) ∧ Kp w w' Nul := by
  have HMa : Hid (Calls Tryz.prog 16 #[.slice ra R0.length rc] w fun e w' => ∃ l us n, e = .returned (.pointer (some ⟨l, 0, none⟩)) ∧ n ≤ 300 ∧ LinksIn w' (Fr w.heap.size) l us n ∧ Kp w w' Nul ∧ UsN us n (usM (R0.take 300))) :=
    made2_at R0 ra rc w hR0 hra
  obtain ⟨N, hN⟩ : ∃ N, R.length = N := ⟨_, rfl⟩
  have HN : Hid (R.length = N) := hN
  have HR : Hid (Ring us1 R ∧ UsLike us1 (usM (R0.take 300))) := ⟨hr, h1⟩
  have HC : Hid (CellsAt w b 0 R) := hc
  have hN0 : 0 < N := by rw [← hN]; exact hr.pos
  rw [hN] at hcc h4 ⊢
  generalize R0.length = RN0 at *
  clear hra hR0 hr h1 hc hN
  go_enter Tryz.func25, Tryz.ntmps25
  go_wp2_with fail
  refine HMa.out.mono ?_
  rintro e w2 ⟨l, us, n, rfl, hn, hl2, hk2, hun⟩
  have HK2 : Hid (Kp w w2 Nul) := hk2
  have HF : Hid (CLF w2 l b N R) := clf_of HN.out h4 (HC.out.kp hk2 (fun x => x)) (HR.out.1.like HR.out.2 hun.like) hl2 hn
  clear hl2 hk2 hun HMa
  go_wp2_with fail
  go_loopw [6] (fun s wr => RoundR w2 N s wr) (fun s _ => N - (intOf s).toNat)
  case atStart => exact ⟨0, Nat.zero_le _, rfl, Kp.refl _ _⟩
  case round =>
    obtain ⟨i, hi, rfl, hkp⟩ := hrel
    have HKs : Hid (Kp w2 wr Nul) := hkp
    clear hkp
    by_cases hlt : i < N
    · have g1 : (i : Int) < (N : Int) := by omega
      obtain ⟨j, hj⟩ : ∃ j, (i + 1) % N = j := ⟨_, rfl⟩
      have hjN : j < N := by rw [← hj]; exact Nat.mod_lt _ hN0
      obtain ⟨x1, x2, hx, c1, c2⟩ := HF.out.at' wr i HKs.out hlt
      obtain ⟨y1, y2, hy, d1, d2⟩ := HF.out.at' wr j HKs.out hjN
      have HX : Hid (R[i]? = some (x1, x2) ∧ R[(i + 1) % N]? = some (y1, y2)) := ⟨hx, by rw [hj]; exact hy⟩
      have g2 : IntKind.i64.wrap ((i : Int) + 1) = (i : Int) + 1 := by rw [IntKind.wrap_i64]; omega
      have g3 : ((i : Int) + 1).tmod (N : Int) = (j : Int) := by
        rw [Int.tmod_eq_emod_of_nonneg (by omega), ← hj, Int.natCast_emod]; rfl
      have g4 : (N : Int) ≠ 0 := by omega
      obtain ⟨nb, hnb⟩ : ∃ nb, wr.heap.size = nb := ⟨_, rfl⟩
      have HNB : Hid (wr.heap.size = nb) := hnb
      obtain ⟨w5, hw5⟩ : ∃ w5, wr.alloc (.cells #[.int .i64 y1, .int .i64 y2] 29) = w5 := ⟨_, rfl⟩
      have HW5 : Hid (wr.alloc (.cells #[.int .i64 y1, .int .i64 y2] 29) = w5) := hw5
      have k5 : Kp wr w5 Nul := by rw [← hw5]; exact (Kp.refl wr Nul).alloc _
      have b5 : Blk w5 nb [.int .i64 y1, .int .i64 y2] 29 := by rw [← hw5, ← hnb]; exact Blk.new wr _ _
      have HK5 : Hid (Kp w2 w5 Nul) := HKs.out.trans k5
      have KS5 : Hid (∀ wq, Kp w5 wq Nul → (wq.cell? ⟨b, i * 2, none⟩ = some (.int .i64 x1) ∧ wq.cell? ⟨b, i * 2 + 1, none⟩ = some (.int .i64 x2) ∧ wq.cell? ⟨nb, 0, none⟩ = some (.int .i64 y1) ∧ wq.cell? ⟨nb, 1, none⟩ = some (.int .i64 y2))) := fun wq kq => by
        have e := (k5.trans kq).block b (cell_lt c1) (fun x => x)
        refine ⟨?_, ?_, (b5.kp kq (fun x => x)).cell rfl, (b5.kp kq (fun x => x)).cell rfl⟩
        · simp only [World.cell?] at c1 ⊢; rw [e]; exact c1
        · simp only [World.cell?] at c2 ⊢; rw [e]; exact c2
      have HDr : Hid (∀ wq a c, Kp w2 wq Nul → (i + 1 < N → a = some ⟨b, (i + 1) * 2, none⟩) → Calls Tryz.prog 18 #[.slice a (N - (i + 1)) c, .agg #[.int .i64 x1, .int .i64 x2]] wq fun e w' => e = .returned (.bool false) ∧ Kp wq w' Nul) := fun wq a c kq ha => HF.out.dr wq i x1 x2 a c kq HX.out.1 ha
      have HUs : Hid (∀ wq, Kp w2 wq Nul → Calls Tryz.prog 19 #[.pointer (some ⟨l, 0, none⟩), .agg #[.int .i64 y1, .int .i64 y2]] wq fun e w' => ∃ a nL c, e = .returned (.slice a nL c) ∧ Kp wq w' Nul ∧ (∀ (wz : World), Kp w' wz Nul → Calls Tryz.prog 18 #[.slice a nL c, .agg #[.int .i64 x1, .int .i64 x2]] wz fun e w' => e = .returned (.bool true) ∧ Kp wz w' Nul)) := fun wq kq => HF.out.us wq i x1 x2 y1 y2 kq HX.out.1 HX.out.2
      obtain ⟨a', ha', hsl⟩ := slice_from2 b N cc i hlt hcc
      have HA' : Hid (i + 1 < N → a' = some ⟨b, (i + 1) * 2, none⟩) := ha'
      clear hx hy ha' hw5 k5 b5 c1 c2 hj hnb
      go_upto_region 8 with fail
      rw [HW5.out, HNB.out]
      go_region_held3 (fun w' => w'.cell? ⟨b, i * 2, none⟩ = some (.int .i64 x1) ∧ w'.cell? ⟨b, i * 2 + 1, none⟩ = some (.int .i64 x2) ∧ w'.cell? ⟨nb, 0, none⟩ = some (.int .i64 y1) ∧ w'.cell? ⟨nb, 1, none⟩ = some (.int .i64 y2))
        (first | (exact KS5.out _ (Kp.refl _ _)) | (exact KS5.out _ (Kp.refl _ _).drew) | (exact KS5.out _ (hk6.trans hk7)) | (exact KS5.out _ hk6))
        (first
        | (go_at_call 19; refine (HUs.out _ (by first | exact HK5.out.drew | exact HK5.out)).mono ?_; rintro e w6 ⟨au, nu, cu, rfl, hk6', hh⟩; have hk6 : Kp w5 w6 Nul := (by first | exact ((Kp.refl w5 Nul).drew).trans hk6' | exact hk6'); clear hk6')
        | (go_at_call 18; refine (hh _ (by first | exact Kp.refl _ _ | exact (Kp.refl _ _).drew)).mono ?_; rintro e w7 ⟨rfl, hk7⟩))
      all_goals
        have hk57 : Kp w5 w7 Nul := by first | exact hk6.trans hk7 | exact hk6.trans (((Kp.refl w6 Nul).drew).trans hk7)
        have HK7 : Hid (Kp w2 w7 Nul) := HK5.out.trans hk57
        have KS7 : Hid (∀ wq, Kp w7 wq Nul → (wq.cell? ⟨b, i * 2, none⟩ = some (.int .i64 x1) ∧ wq.cell? ⟨b, i * 2 + 1, none⟩ = some (.int .i64 x2))) := fun wq kq => by
          obtain ⟨e1, e2, _, _⟩ := KS5.out wq (hk57.trans kq)
          exact ⟨e1, e2⟩
        clear hk57 hk6 hk7 hh HUs d1 d2 g3
        go_wp2_with fail
        go_region_held3 (fun w' => w'.cell? ⟨b, i * 2, none⟩ = some (.int .i64 x1) ∧ w'.cell? ⟨b, i * 2 + 1, none⟩ = some (.int .i64 x2))
          (first | (exact KS7.out _ (Kp.refl _ _)) | (exact KS7.out _ (Kp.refl _ _).drew) | (exact KS7.out _ ((Kp.refl _ _).drew.trans hk8)) | (exact KS7.out _ hk8))
          ((go_at_call 18; refine (HDr.out _ _ _ (by first | exact HK7.out.drew | exact HK7.out) HA'.out).mono ?_; rintro e w8 ⟨rfl, hk8⟩))
        all_goals
          have HK8 : Hid (Kp w2 w8 Nul) := by first | exact HK7.out.trans hk8 | exact HK7.out.trans (((Kp.refl w7 Nul).drew).trans hk8)
          clear hk8
          go_wp2_with fail
          go_roundw
          case rel => exact ⟨i + 1, by omega, by go_num, HK8.out⟩
          case measure => simp only [intOf]; omega
    · have g1 : ¬ (i : Int) < (N : Int) := by omega
      go_wp2_with fail
      go_ret
      exact ⟨rfl, HK2.out.trans HKs.out⟩
end Go.Proofs.YtdlieecpckpemaaGreatDoor
namespace Go.Proofs.YtdlieecpckpemaaGreatDoor
open Go.RowKit Go.Sort Go.Lib Go.Maps
set_option maxHeartbeats 2000000 in
theorem valid18_at (c r : Int) (w : World) : Calls Tryz.prog 17 #[.agg #[.int .i64 c, .int .i64 r]] w fun e w' => e = .returned (.bool (vC c r)) ∧ Kp w w' Nul := by
  go_enter Tryz.func17, Tryz.ntmps17
  have h : vC c r = (decide (1 ≤ c) && decide (c ≤ 256) && decide (1 ≤ r) && decide (r ≤ 4096)) := rfl
  by_cases h1 : 1 ≤ c
  · by_cases h2 : c ≤ 256
    · by_cases h3 : 1 ≤ r
      · by_cases h4 : r ≤ 4096
        all_goals
          go_wp2_with fail
          go_ret
          exact ⟨by simp [*] <;> omega, (Kp.refl w Nul).alloc _⟩
      · go_wp2_with fail
        go_ret
        exact ⟨by simp [*] <;> omega, (Kp.refl w Nul).alloc _⟩
    · go_wp2_with fail
      go_ret
      exact ⟨by simp [*] <;> omega, (Kp.refl w Nul).alloc _⟩
  · go_wp2_with fail
    go_ret
    exact ⟨by simp [*] <;> omega, (Kp.refl w Nul).alloc _⟩
set_option maxHeartbeats 2000000 in
theorem in18_at (a : Ar) (x y : Int) (w : World) : Calls Tryz.prog 20 #[.agg #[.int .i64 a.c1, .int .i64 a.r1, .int .i64 a.c2, .int .i64 a.r2], .agg #[.int .i64 x, .int .i64 y]] w fun e w' => e = .returned (.bool (a.has (x, y))) ∧ Kp w w' Nul := by
  go_enter Tryz.func20, Tryz.ntmps20
  have h : a.has (x, y) = (decide (a.c1 ≤ x) && decide (x ≤ a.c2) && decide (a.r1 ≤ y) && decide (y ≤ a.r2)) := rfl
  generalize a.c1 = c1 at *
  generalize a.r1 = r1 at *
  generalize a.c2 = c2 at *
  generalize a.r2 = r2 at *
  by_cases h1 : c1 ≤ x
  · by_cases h2 : x ≤ c2
    · by_cases h3 : r1 ≤ y
      · by_cases h4 : y ≤ r2
        all_goals
          go_wp2_with fail
          go_ret
          exact ⟨by simp [*] <;> omega, ((Kp.refl w Nul).alloc _).alloc _⟩
      · go_wp2_with fail
        go_ret
        exact ⟨by simp [*] <;> omega, ((Kp.refl w Nul).alloc _).alloc _⟩
    · go_wp2_with fail
      go_ret
      exact ⟨by simp [*] <;> omega, ((Kp.refl w Nul).alloc _).alloc _⟩
  · go_wp2_with fail
    go_ret
    exact ⟨by simp [*] <;> omega, ((Kp.refl w Nul).alloc _).alloc _⟩
end Go.Proofs.YtdlieecpckpemaaGreatDoor
namespace Go.Proofs.YtdlieecpckpemaaGreatDoor
open Go.RowKit Go.Sort Go.Lib Go.Maps
open Tj (Hg)
/-- The law's list of all cells. -/
def allS (A : List (Int × Int)) (ρ : Rl) : List (Int × Int) := if (vC ρ.x.1 ρ.x.2 && !decide (ρ.x ∈ A)) = true then A ++ [ρ.x] else A
def allL (R : List Rl) : List (Int × Int) := R.foldl allS []
theorem allL_snoc (R : List Rl) (ρ : Rl) : allL (R ++ [ρ]) = allS (allL R) ρ := by unfold allL; rw [List.foldl_append]; rfl
theorem list_snoc {α : Type} (P : List α → Prop) (h0 : P []) (h1 : ∀ l x, P l → P (l ++ [x])) : ∀ l, P l := by
  intro l
  have : ∀ n (l : List α), l.length = n → P l := by
    intro n
    induction n with
    | zero => intro l hl; rw [List.length_eq_zero_iff.1 hl]; exact h0
    | succ n ih =>
      intro l hl
      rcases List.eq_nil_or_concat l with e | ⟨l', x, e⟩
      · rw [e]; exact h0
      · rw [e, List.concat_eq_append]; rw [e, List.concat_eq_append] at hl; exact h1 l' x (ih l' (by rw [List.length_append] at hl; simp at hl; omega))
  exact this _ l rfl
theorem allL_all : ∀ R : List Rl, (∀ x ∈ allL R, vC x.1 x.2 = true) ∧ (allL R).length ≤ R.length ∧ (∀ x, (usM R x).isSome = true → x ∈ allL R) := by
  refine list_snoc _ ⟨fun x hx => (by cases hx), Nat.le_refl _, fun x hx => (by unfold usM at hx; cases hx)⟩ (fun R ρ ⟨h1, h2, h3⟩ => ?_)
  rw [allL_snoc, usM_snoc, List.length_append]
  have hone : [ρ].length = 1 := rfl
  unfold allS
  by_cases hc : (vC ρ.x.1 ρ.x.2 && !decide (ρ.x ∈ allL R)) = true
  · rw [if_pos hc]
    rw [Bool.and_eq_true] at hc
    refine ⟨fun x hx => ?_, by rw [List.length_append]; simp; omega, fun x hx => ?_⟩
    · rcases List.mem_append.1 hx with h | h
      · exact h1 x h
      · rw [List.mem_singleton.1 h]; exact hc.1
    · split at hx
      · unfold updU at hx
        by_cases e : x = ρ.x
        · rw [e]; simp
        · rw [if_neg e] at hx; exact List.mem_append_left _ (h3 x hx)
      · exact List.mem_append_left _ (h3 x hx)
  · rw [if_neg hc]
    refine ⟨h1, by omega, fun x hx => ?_⟩
    split at hx
    · rename_i hok
      unfold updU at hx
      by_cases e : x = ρ.x
      · unfold okRule at hok
        rw [Bool.and_eq_true, Bool.and_eq_true] at hok
        rw [hok.1.1] at hc
        simp at hc
        rw [e]; exact hc
      · rw [if_neg e] at hx; exact h3 x hx
    · exact h3 x hx
/-- A list of cells lies there. -/
structure Lst (w : World) (L : List (Int × Int)) (a : Option Addr) (m : Nat) : Prop where
  len : L.length = m
  le : m ≤ 1048576
  cells : 0 < m → ∃ b, a = some ⟨b, 0, none⟩ ∧ CellsAt w b 0 L
theorem Lst.kp {w w' : World} {L : List (Int × Int)} {a : Option Addr} {m : Nat} (h : Lst w L a m) (k : Kp w w' Nul) : Lst w' L a m :=
  ⟨h.len, h.le, fun h0 => by obtain ⟨b, e, hc⟩ := h.cells h0; exact ⟨b, e, hc.kp k (fun x => x)⟩⟩
theorem Lst.kc {w w' : World} {L : List (Int × Int)} {a : Option Addr} {m : Nat} (h : Lst w L a m) (k : KC w w') : Lst w' L a m :=
  ⟨h.len, h.le, fun h0 => by obtain ⟨b, e, hc⟩ := h.cells h0; exact ⟨b, e, hc.kc k⟩⟩
theorem Lst.get {w : World} {L : List (Int × Int)} {a : Option Addr} {m : Nat} (h : Lst w L a m) {i : Nat} (hi : i < m) : ∃ b x1 x2, a = some ⟨b, 0, none⟩ ∧ L[i]? = some (x1, x2) ∧ w.cell? ⟨b, i * 2, none⟩ = some (.int .i64 x1) ∧ w.cell? ⟨b, i * 2 + 1, none⟩ = some (.int .i64 x2) := by
  obtain ⟨b, e, hc⟩ := h.cells (by omega)
  obtain ⟨⟨x1, x2⟩, hx⟩ : ∃ x, L[i]? = some x := ⟨_, List.getElem?_eq_getElem (by have := h.len; omega)⟩
  have := hc i _ hx
  rw [Nat.zero_add] at this
  exact ⟨b, x1, x2, e, hx, this⟩
theorem Lst.has {w : World} {L : List (Int × Int)} {a : Option Addr} {m : Nat} (h : Lst w L a m) (cc : Nat) (x1 x2 : Int) (B : Bool) (hB : decide ((x1, x2) ∈ L) = B) :
    Calls Tryz.prog 18 #[.slice a m cc, .agg #[.int .i64 x1, .int .i64 x2]] w fun e w' => e = .returned (.bool B) ∧ Kp w w' Nul := by
  have := has_is L a cc (x1, x2) B w (by rw [h.len]; exact h.le) (fun h0 => by
    obtain ⟨b, e, hc⟩ := h.cells (by rw [← h.len]; exact h0)
    exact ⟨b, 0, e, hc⟩) hB
  rw [h.len] at this
  exact this
theorem Lst.of {B : Nat} {w : World} {v : Value} {L : List (Int × Int)} (h : CellsFrom B w v L) (hle : L.length ≤ 1048576) : ∃ a m c, v = .slice a m c ∧ Lst w L a m := by
  obtain ⟨a, c, e, h⟩ := h
  refine ⟨a, L.length, c, e, rfl, hle, fun h0 => ?_⟩
  rcases h with ⟨_, e⟩ | ⟨b, e1, _, e3⟩
  · rw [e] at h0; exact absurd h0 (Nat.lt_irrefl _)
  · exact ⟨b, e1, e3⟩
theorem usR_vC {w : World} {F : Nat → Prop} {l n : Nat} {us : Int × Int → Option (List Ar)} (h : LinksIn w F l us n) {x y : Int × Int} (hu : usR us x y) : VC x ∧ kC y = true := by
  unfold usR at hu
  cases hq : us x with
  | none => rw [hq] at hu; cases hu
  | some al =>
    refine ⟨h.rng x al hq, ?_⟩
    rw [hq, Option.any_some, List.any_eq_true] at hu
    obtain ⟨a, ha, hh⟩ := hu
    have hok := (h.oks2 hq).1 a ha
    unfold Ar.ok at hok
    unfold Ar.has at hh
    simp only [Bool.and_eq_true, decide_eq_true_eq] at hh
    show vC y.1 y.2 = true
    unfold vC
    simp only [Bool.and_eq_true, decide_eq_true_eq]
    omega
/-- Users, for the law. -/
theorem users_lst {wq : World} {F : Nat → Prop} {l n : Nat} {us : Int × Int → Option (List Ar)} (h : LinksIn wq F l us n) (hn : n ≤ 300) (y1 y2 : Int) :
    Calls Tryz.prog 19 #[.pointer (some ⟨l, 0, none⟩), .agg #[.int .i64 y1, .int .i64 y2]] wq fun e w' => ∃ (L : List (Int × Int)) (a : Option Addr) (m c : Nat), e = .returned (.slice a m c) ∧ Kp wq w' Nul ∧ Lst w' L a m ∧ ∀ x, x ∈ L ↔ usR us x (y1, y2) := by
  refine (users_at F l n us y1 y2 wq h (by omega)).mono ?_
  rintro e w' ⟨L, v', rfl, hf, hst, hmm, hk'⟩
  have hmem : ∀ x, x ∈ L ↔ usR us x (y1, y2) := fun x => by rw [hmm, usR_any h]
  obtain ⟨a, m, c, rfl, hl⟩ := Lst.of hf (few_cells hst (fun z hz => (usR_vC h ((hmem z).1 hz)).1))
  exact ⟨L, a, m, c, rfl, hk', hl, hmem⟩
/-- Above of one cell, for the law. -/
theorem above_lst {wq : World} {F : Nat → Prop} {l n : Nat} {us : Int × Int → Option (List Ar)} (h : LinksIn wq F l us n) (hn : n ≤ 300) (hF : ∀ b, F b → b < wq.heap.size) (hT : Tab wq) (y1 y2 : Int) (b c : Nat) (hb : CellsAt wq b 0 [(y1, y2)]) :
    Calls Tryz.prog 21 #[.pointer (some ⟨l, 0, none⟩), .slice (some ⟨b, 0, none⟩) 1 c] wq fun e w' => ∃ (L : List (Int × Int)) (a : Option Addr) (m c : Nat), e = .returned (.slice a m c) ∧ Kp wq w' Nul ∧ Lst w' L a m ∧ ∀ x, x ∈ L ↔ Hg (usR us) x (y1, y2) := by
  refine (above_at F l n us [(y1, y2)] (some ⟨b, 0, none⟩) c wq h (by omega) hF hT (by simp) (fun _ => ⟨b, 0, rfl, hb⟩)).mono ?_
  rintro e w' ⟨L, v, rfl, hf, hst, hmm, hk⟩
  have hlast : ∀ x y, Hg (usR us) x y → ∃ z, usR us z y := fun x y hh => by
    induction hh with
    | one h => exact ⟨_, h⟩
    | step _ _ ih => exact ih
  have hmem : ∀ x, x ∈ L ↔ Hg (usR us) x (y1, y2) := fun x => by
    rw [hmm]
    constructor
    · rintro ⟨y, hy, _, hh⟩
      rw [List.mem_singleton.1 hy] at hh; exact hh
    · intro hh
      obtain ⟨z, hz⟩ := hlast _ _ hh
      exact ⟨(y1, y2), List.mem_singleton.2 rfl, (usR_vC h hz).2, hh⟩
  obtain ⟨a, m, c', rfl, hl⟩ := Lst.of hf (few_cells hst (fun z hz => by
    have := (hmem z).1 hz
    cases this with
    | one hu => exact (usR_vC h hu).1
    | step hu _ => exact (usR_vC h hu).1))
  exact ⟨L, a, m, c', rfl, hk, hl, hmem⟩
/-- Uses, for the law. -/
structure LstR (w : World) (L : List Ar) (a : Option Addr) (m : Nat) : Prop where
  len : L.length = m
  le : m ≤ 256
  cells : 0 < m → ∃ b, a = some ⟨b, 0, none⟩ ∧ AreasAt w b 0 L
theorem LstR.kp {w w' : World} {L : List Ar} {a : Option Addr} {m : Nat} (h : LstR w L a m) (k : Kp w w' Nul) : LstR w' L a m :=
  ⟨h.len, h.le, fun h0 => by obtain ⟨b, e, hc⟩ := h.cells h0; exact ⟨b, e, hc.kp k (fun x => x)⟩⟩
theorem LstR.get {w : World} {L : List Ar} {a : Option Addr} {m : Nat} (h : LstR w L a m) {i : Nat} (hi : i < m) : ∃ (b : Nat) (x : Ar), a = some ⟨b, 0, none⟩ ∧ L[i]? = some x ∧ w.cell? ⟨b, i * 4, none⟩ = some (.int .i64 x.c1) ∧ w.cell? ⟨b, i * 4 + 1, none⟩ = some (.int .i64 x.r1) ∧ w.cell? ⟨b, i * 4 + 2, none⟩ = some (.int .i64 x.c2) ∧ w.cell? ⟨b, i * 4 + 3, none⟩ = some (.int .i64 x.r2) := by
  obtain ⟨b, e, hc⟩ := h.cells (by omega)
  obtain ⟨x, hx⟩ : ∃ x, L[i]? = some x := ⟨_, List.getElem?_eq_getElem (by have := h.len; omega)⟩
  have := hc i _ hx
  rw [Nat.zero_add] at this
  exact ⟨b, x, e, hx, this⟩
theorem uses_lst {wq : World} {F : Nat → Prop} {l n : Nat} {us : Int × Int → Option (List Ar)} (h : LinksIn wq F l us n) (y1 y2 : Int) (h1 : I64 y1) (h2 : I64 y2) :
    Calls Tryz.prog 14 #[.pointer (some ⟨l, 0, none⟩), .agg #[.int .i64 y1, .int .i64 y2]] wq fun e w' => ∃ (a : Option Addr) (m c : Nat), e = .returned (.slice a m c) ∧ Kp wq w' Nul ∧ LstR w' ((us (y1, y2)).getD []) a m := by
  have hlen := areas_len h (y1, y2)
  refine (usesL_at F l n us y1 y2 wq h h1 h2).mono ?_
  rintro e w' ⟨v, rfl, ho, hk⟩
  generalize (us (y1, y2)).getD [] = al at ho hlen ⊢
  rcases ho with ⟨e0, rfl⟩ | ⟨g, cap, rfl, _, _, e4, _, _⟩
  · have : al = [] := List.map_eq_nil_iff.1 e0
    subst this
    exact ⟨none, 0, 0, rfl, hk, rfl, Nat.zero_le _, fun h => absurd h (Nat.lt_irrefl _)⟩
  · refine ⟨_, _, _, rfl, hk, by rw [List.length_map], by rw [List.length_map]; exact hlen, fun _ => ⟨g, rfl, ?_⟩⟩
    intro i x hx
    have he := holds_enc encR_len e4 i (tupA x) (by simp [hx])
    refine ⟨?_, ?_, ?_, ?_⟩
    · have := he 0 _ rfl; simpa [tupA] using this
    · have := he 1 _ rfl; simpa [tupA] using this
    · have := he 2 _ rfl; simpa [tupA] using this
    · have := he 3 _ rfl; simpa [tupA] using this
/-- What Circle tells, both ways in one form. -/
def CirC (us : Int × Int → Option (List Ar)) (w' : World) (a : Option Addr) (m cc : Nat) (is : Bool) : Prop :=
  (is = false ∧ m = 0 ∧ ¬ ∃ x, Hg (usR us) x x) ∨ (is = true ∧ 0 < m ∧ (∃ x, Hg (usR us) x x) ∧ ∃ (R : List (Int × Int)) (b : Nat), a = some ⟨b, 0, none⟩ ∧ R.length = m ∧ m ≤ cc ∧ m ≤ 4096 ∧ Ring us R ∧ CellsAt w' b 0 R)
theorem circ_lst {wq : World} {F : Nat → Prop} {l n : Nat} {us : Int × Int → Option (List Ar)} (h : LinksIn wq F l us n) (hn : n ≤ 300) (hF : ∀ b, F b → b < wq.heap.size) (hT : Tab wq) :
    Calls Tryz.prog 22 #[.pointer (some ⟨l, 0, none⟩)] wq fun e w' => ∃ a m cc is, e = .returned (.tuple #[.slice a m cc, .bool is]) ∧ Kp wq w' Nul ∧ CirC us w' a m cc is := by
  refine (circ_at F l n us wq h (by omega) hF hT).mono ?_
  intro e w' ho
  obtain ⟨hk, h | ⟨R, b, c, rfl, h1, h2, h3, h4, _, h6⟩⟩ := circ_law ho
  · exact ⟨none, 0, 0, false, h.1, hk, .inl ⟨rfl, rfl, h.2⟩⟩
  · exact ⟨_, _, _, _, rfl, hk, .inr ⟨rfl, h4.pos, h3, R, b, rfl, rfl, h1, by omega, h4, h6⟩⟩
theorem CirC.kc {us : Int × Int → Option (List Ar)} {w w' : World} {a : Option Addr} {m cc : Nat} {is : Bool} (h : CirC us w a m cc is) (k : KC w w') : CirC us w' a m cc is := by
  rcases h with h | ⟨h1, h2, h3, R, b, h4, h5, h6, h7, h8, h9⟩
  · exact .inl h
  · exact .inr ⟨h1, h2, h3, R, b, h4, h5, h6, h7, h8, h9.kc k⟩
/-- Order of all, for the law. -/
theorem order_lst {wq : World} {F : Nat → Prop} {l n : Nat} {us : Int × Int → Option (List Ar)} (h : LinksIn wq F l us n) (hF : ∀ b, F b → b < wq.heap.size) {A : List (Int × Int)} {a : Option Addr} {m : Nat} (c : Nat) (hA : Lst wq A a m) (hv : ∀ x ∈ A, vC x.1 x.2 = true) (hs : ∀ x, (us x).isSome = true → x ∈ A) :
    Calls Tryz.prog 23 #[.pointer (some ⟨l, 0, none⟩), .slice a m c] wq fun e w' => ∃ v er, e = .returned (.tuple #[v, .int .i64 er]) ∧ Kp wq w' Nul ∧ (((∃ x, Hg (usR us) x x) ∧ er = 40) ∨ ((¬ ∃ x, Hg (usR us) x x) ∧ er = 0)) := by
  have := order_at l n us A a c wq (h.mono (fun b _ hb => hF b hb)) (by rw [hA.len]; exact hA.le) (fun h0 => by
    obtain ⟨b, e, hc⟩ := hA.cells (by rw [← hA.len]; exact h0)
    exact ⟨b, 0, e, hc⟩)
  rw [hA.len] at this
  refine this.mono ?_
  rintro e w' ⟨v, er, rfl, hk, hr⟩
  exact ⟨v, er, rfl, hk, ready_er hr hv hs⟩
/-- A row's slice. -/
theorem row_slice {w : World} {base size n : Nat} {e : TypeId} {v : Value} {xs : List Value} (h : w.ownsRow base e size v n xs) : ∃ a c, v = .slice a n c := by
  rcases h.2 with ⟨rfl, e2⟩ | ⟨g, cap, cur, rfl, _⟩
  · exact ⟨none, 0, by rw [e2]⟩
  · exact ⟨_, _, rfl⟩
end Go.Proofs.YtdlieecpckpemaaGreatDoor
namespace Go.Proofs.YtdlieecpckpemaaGreatDoor
open Go.RowKit Go.Sort Go.Lib Go.Maps
open Tj (Hg)
/-- The list of all cells, so far. -/
def AlR (w3 : World) (R0 : List Rl) (v s : Value) (wr : World) : Prop := ∃ k : Nat, k ≤ R0.length ∧ k ≤ 300 ∧ s = .int .i64 (k : Int) ∧ wr.ownsRow w3.heap.size 29 2 v (allL (R0.take k)).length (flatK encA 2 (allL (R0.take k)).toArray).toList ∧ Kp w3 wr Nul
theorem row_lst {w : World} {B : Nat} {v : Value} {A : List (Int × Int)} (h : w.ownsRow B 29 2 v A.length (flatK encA 2 A.toArray).toList) (hA : A.length ≤ 1048576) : ∃ a m c, v = .slice a m c ∧ Lst w A a m :=
  Lst.of (own1_from (own1_row rfl h)) hA
theorem allL_take (R0 : List Rl) (k : Nat) : (allL (R0.take k)).length ≤ k := Nat.le_trans (allL_all _).2.1 (by rw [List.length_take]; omega)
/-- Do any of the first areas have the cell? -/
def OnR (w6 : World) (al : List Ar) (y : Int × Int) (m : Nat) (o s : Value) (wr : World) : Prop := ∃ k : Nat, k ≤ m ∧ s = .int .i64 (k : Int) ∧ o = .bool ((al.take k).any (fun a => a.has y)) ∧ Kp w6 wr Nul
theorem KC.then {w w' w'' : World} {S : Nat → Prop} (h : KC w w') (g : Kp w' w'' S) (hS : ∀ i, i < w.heap.size → ¬ S i) : KC w w'' := fun j o v hi => by
  have h1 := h j o v hi
  have e := g.block j (cell_lt h1) (hS j (cell_lt hi))
  simp only [World.cell?] at h1 ⊢
  rw [e]; exact h1
/-- How the drops stand. -/
def DrR (w11 : World) (F : Nat → Prop) (l : Nat) (us : Int × Int → Option (List Ar)) (A : List (Int × Int)) (v s : Value) (wr : World) : Prop :=
  ∃ (k j n' : Nat) (us' : Int × Int → Option (List Ar)) (xs : List Value), k ≤ A.length ∧ j ≤ k ∧ s = .int .i64 (k : Int) ∧ LinksIn wr F l us' n' ∧ CntU us' n' ∧ (∀ x, us' x = if x ∈ A.take k then none else us x) ∧ wr.ownsRow w11.heap.size 29 2 v j xs ∧ Kp w11 wr F ∧ KC w11 wr
set_option maxRecDepth 20000 in
set_option maxHeartbeats 8000000 in
theorem hang_law (R0 : List Rl) (ra : Option Addr) (rc : Nat) (c r : Int) (w : World) (hR0 : R0.length ≤ 9223372036854775807) (hra : 0 < R0.length → ∃ b o, ra = some ⟨b, o, none⟩ ∧ RulesAt w b o R0) (hT : Tab w) :
    Calls Tryz.prog 4 #[.slice ra R0.length rc, .agg #[.int .i64 c, .int .i64 r]] w fun e w' => e = .returned (.bool true) ∧ Kp w w' Nul := by
  obtain ⟨RN, hRN⟩ : ∃ RN, R0.length = RN := ⟨_, rfl⟩
  have HRN : Hid (R0.length = RN) := hRN
  obtain ⟨nb, hnb⟩ : ∃ nb, w.heap.size = nb := ⟨_, rfl⟩
  have HNB : Hid (w.heap.size = nb) := hnb
  obtain ⟨w1, hw1⟩ : ∃ w1, w.alloc (.cells #[.int .i64 c, .int .i64 r] 29) = w1 := ⟨_, rfl⟩
  have HW1 : Hid (w.alloc (.cells #[.int .i64 c, .int .i64 r] 29) = w1) := hw1
  have k1 : Kp w w1 Nul := by rw [← hw1]; exact (Kp.refl w Nul).alloc _
  have HK1 : Hid (Kp w w1 Nul) := k1
  have HB1 : Hid (Blk w1 nb [.int .i64 c, .int .i64 r] 29) := by show Blk _ _ _ _; rw [← hw1, ← hnb]; exact Blk.new w _ _
  have HAw : Hid (Calls Tryz.prog 6 #[] w1 fun e w' => e = .returned (.bool true) ∧ Kp w1 w' Nul) := awake_at w1
  have HMa : Hid (∀ wq, Kp w wq Nul → Calls Tryz.prog 16 #[.slice ra RN rc] wq fun e w' => ∃ l us n, e = .returned (.pointer (some ⟨l, 0, none⟩)) ∧ n ≤ 300 ∧ LinksIn w' (Fr wq.heap.size) l us n ∧ Kp wq w' Nul ∧ UsN us n (usM (R0.take 300))) := fun wq k => by
    have := made2_at R0 ra rc wq hR0 (fun h => by obtain ⟨b, o, e, hh⟩ := hra h; exact ⟨b, o, e, hh.kp k⟩)
    rw [hRN] at this
    exact this
  have HRA : Hid (0 < RN → ∃ b o, ra = some ⟨b, o, none⟩ ∧ RulesAt w b o R0) := by show _ → _; rw [← hRN]; exact hra
  have HT : Hid (Tab w) := hT
  have hRm : RN ≤ 9223372036854775807 := by rw [← hRN]; exact hR0
  rw [hRN]
  clear hR0 hra hT hRN hnb hw1 k1
  obtain ⟨i0, hi, hz0, hz1, hz2⟩ := infoAddr
  go_enter Tryz.func4, Tryz.ntmps4
  go_upto_region 1 with fail
  rw [HW1.out, HNB.out]
  go_wp2_with fail
  refine HAw.out.mono ?_
  rintro e w2 ⟨rfl, hk2⟩
  have HK2 : Hid (Kp w w2 Nul) := HK1.out.trans hk2
  have HK12 : Hid (Kp w1 w2 Nul) := hk2
  clear hk2 HAw
  go_wp2_with fail
  refine (HMa.out w2 HK2.out).mono ?_
  rintro e w3 ⟨l, us, n, rfl, hn, hl3, hk3, hun⟩
  have HK3 : Hid (Kp w w3 Nul) := HK2.out.trans hk3
  have HN3 : Hid (n ≤ 300) := hn
  have HUN : Hid (UsN us n (usM (R0.take 300))) := hun
  have HLI : Hid (∀ wq, Kp w3 wq Nul → LinksIn wq (fun b => w2.heap.size ≤ b ∧ b < w3.heap.size) l us n) := fun wq k => hl3.below.kp k (fun _ _ x => x)
  have HAT : Hid (∀ wq, Kp w3 wq Nul → wq.cell? ⟨nb, 0, none⟩ = some (.int .i64 c) ∧ wq.cell? ⟨nb, 1, none⟩ = some (.int .i64 r)) := fun wq k => by
    have := HB1.out.kp ((HK12.out.trans hk3).trans k) (fun x => x)
    exact ⟨this.cell rfl, this.cell rfl⟩
  have HR3 : Hid (∀ wq, Kp w3 wq Nul → ∀ k, k < RN → ∃ b o x y, ra = some ⟨b, o, none⟩ ∧ (∃ ρ, R0[k]? = some ρ ∧ ρ.x = (x, y)) ∧ wq.cell? ⟨b, o + k * 3, none⟩ = some (.int .i64 x) ∧ wq.cell? ⟨b, o + k * 3 + 1, none⟩ = some (.int .i64 y)) := fun wq kq k hk => by
    obtain ⟨b, o, e, hh⟩ := HRA.out (by omega)
    obtain ⟨ρ, hρ⟩ : ∃ ρ, R0[k]? = some ρ := ⟨_, List.getElem?_eq_getElem (by rw [HRN.out]; exact hk)⟩
    have := ((hh.kp (HK3.out.trans kq)) k _ hρ).1
    exact ⟨b, o, ρ.x.1, ρ.x.2, e, ⟨ρ, hρ, rfl⟩, this.1, this.2.1⟩
  clear hn hl3 hk3 hun HB1 HW1
  go_wp2_with fail
  go_loopw [7, 8] (fun v s wr => AlR w3 R0 v s wr) (fun _ s _ => 300 - (intOf s).toNat)
  case atStart => exact ⟨0, Nat.zero_le _, Nat.zero_le _, rfl, by rw [List.take_zero, show (flatK encA 2 (allL []).toArray).toList = [] by simp [allL, flatK]]; exact World.ownsRow_nil _ _ _ _, Kp.refl _ _⟩
  case round =>
    obtain ⟨k, hk, hk3, rfl, hrow, hkp⟩ := hrel
    rw [HRN.out] at hk
    have HKr : Hid (Kp w3 wr Nul) := hkp
    have HROW : Hid (wr.ownsRow w3.heap.size 29 2 u7 (allL (R0.take k)).length (flatK encA 2 (allL (R0.take k)).toArray).toList) := hrow
    have hAl := allL_take R0 k
    obtain ⟨aa, am, ac, hv7, hlst⟩ := row_lst hrow (by omega)
    clear hrow hkp
    by_cases hlt2 : k < RN ∧ k < 300
    · obtain ⟨hlt, h300⟩ := hlt2
      have j1 : (k : Int) < (RN : Int) := by omega
      have j2 : (k : Int) < 300 := by omega
      obtain ⟨b, o, x, y, rfl, ⟨ρ, hρ, hρx⟩, c1, c2⟩ := HR3.out wr HKr.out k hlt
      have KS : Hid (∀ wq, Kp wr wq Nul → wq.cell? ⟨b, o + k * 3, none⟩ = some (.int .i64 x) ∧ wq.cell? ⟨b, o + k * 3 + 1, none⟩ = some (.int .i64 y)) := fun wq kq => by
        have e := kq.block b (cell_lt c1) (fun x => x)
        simp only [World.cell?] at c1 c2 ⊢
        rw [e]; exact ⟨c1, c2⟩
      obtain ⟨V, hV⟩ : ∃ V, vC x y = V := ⟨_, rfl⟩
      have HVA : Hid (∀ wq, Calls Tryz.prog 17 #[.agg #[.int .i64 x, .int .i64 y]] wq fun e w' => e = .returned (.bool V) ∧ Kp wq w' Nul) := fun wq => by rw [← hV]; exact valid18_at x y wq
      obtain ⟨H, hH⟩ : ∃ H, decide ((x, y) ∈ allL (R0.take k)) = H := ⟨_, rfl⟩
      have HHA : Hid (∀ wq, Kp wr wq Nul → Calls Tryz.prog 18 #[u7, .agg #[.int .i64 x, .int .i64 y]] wq fun e w' => e = .returned (.bool H) ∧ Kp wq w' Nul) := fun wq kq => by
        rw [hv7]; exact (hlst.kp kq).has ac x y H hH
      have HST : Hid (allL (R0.take (k + 1)) = if (V && !H) = true then allL (R0.take k) ++ [(x, y)] else allL (R0.take k)) := by
        show _ = _
        rw [List.take_add_one, hρ, Option.toList_some, allL_snoc, allS, hρx, hV, hH]
      obtain ⟨A, hA⟩ : ∃ A, allL (R0.take k) = A := ⟨_, rfl⟩
      rw [hA] at HROW HST hAl
      have HAk : Hid (A.length ≤ k) := hAl
      clear hρ hρx hv7 hlst hV hH hA hAl HMa
      go_wp2_with fail
      refine (HVA.out _).mono ?_
      rintro e w5 ⟨rfl, hk5⟩
      obtain ⟨d1, d2⟩ := KS.out w5 hk5
      have HK5 : Hid (Kp wr w5 Nul) := hk5
      clear hk5 c1 c2 HVA
      go_wp2_with fail
      refine (HHA.out w5 HK5.out).mono ?_
      rintro e w6 ⟨rfl, hk6⟩
      have HK6 : Hid (Kp wr w6 Nul) := HK5.out.trans hk6
      obtain ⟨e1, e2⟩ := KS.out w6 HK6.out
      clear hk6 d1 d2 HHA
      cases V with
      | false =>
        go_wp2_with fail
        go_roundw
        case rel => exact ⟨k + 1, by rw [HRN.out]; omega, by omega, by go_num, by rw [HST.out]; exact row_kp HROW.out HK6.out (fun _ _ e => e), HKr.out.trans HK6.out⟩
        case measure => simp only [intOf]; omega
      | true =>
        cases H with
        | true =>
          go_wp2_with fail
          go_roundw
          case rel => exact ⟨k + 1, by rw [HRN.out]; omega, by omega, by go_num, by rw [HST.out]; exact row_kp HROW.out HK6.out (fun _ _ e => e), HKr.out.trans HK6.out⟩
          case measure => simp only [intOf]; omega
        | false =>
          have hb4 := Blk.new w6 [.int .i64 x, .int .i64 y] 29
          have HB4 : Hid (Blk (w6.alloc (.cells #[.int .i64 x, .int .i64 y] 29)) w6.heap.size [.int .i64 x, .int .i64 y] 29) := hb4
          have HRow4 : Hid ((w6.alloc (.cells #[.int .i64 x, .int .i64 y] 29)).ownsRow w3.heap.size 29 2 u7 A.length (flatK encA 2 A.toArray).toList) := row_kp HROW.out (HK6.out.alloc _) (fun i _ e => e)
          clear hb4
          go_wp2_with (at_builtin; refine wpList_append_own _ rfl _ _ 30 rfl w3.heap.size 29 i0 _ 2 16 Tryz.underlying30 hi hz0 hz1 hz2 rfl (by decide) _ _ _ rfl HRow4.out ⟨w6.heap.size, 0, none⟩ 1 1 (encA (x, y)) rfl ?qc1 ?qc2 ?qc3 ?qc4 ?qc5 ?qc6 ?_)
          case qc1 => rfl
          case qc2 =>
            intro j u hj
            rw [Addr.add_lit, Nat.zero_add]
            exact HB4.out.at'.trans hj
          case qc3 => exact encA_one _
          case qc4 => have := HAk.out; unfold maxLen; omega
          case qc5 => have := HAk.out; omega
          case qc6 => rw [World.size_alloc]; have := HKr.out.size; have := HK6.out.size; omega
          intro v8 w8 hrow8 hg8 hnil8
          have hob := own_block HRow4.out
          have k68 := Kp.of_grown (S := fun i => u7.ownBlock = some i) hg8 (fun i e => e)
          have HK8 : Hid (Kp w3 w8 Nul) := ((HKr.out.trans HK6.out).alloc _).trans' k68 (fun i hi e => by have := hob i e; omega)
          have HROW8 : Hid (w8.ownsRow w3.heap.size 29 2 v8 (A ++ [(x, y)]).length (flatK encA 2 (A ++ [(x, y)]).toArray).toList) := by
            show World.ownsRow _ _ _ _ _ _ _
            rw [flat_snoc, List.length_append]
            exact hrow8
          clear hrow8 hg8 hnil8 k68 hob
          go_wp2_with fail
          go_roundw
          case rel => exact ⟨k + 1, by rw [HRN.out]; omega, by omega, by go_num, by rw [HST.out]; exact HROW8.out, HK8.out⟩
          case measure => simp only [intOf]; omega
    · have htk : R0.take k = R0.take 300 := by
        rcases Nat.lt_or_ge k RN with q | q
        · rw [show k = 300 by omega]
        · rw [List.take_of_length_le (by rw [HRN.out]; exact q), List.take_of_length_le (by rw [HRN.out]; omega)]
      rw [htk] at hAl hlst HROW
      obtain ⟨A, hA⟩ : ∃ A, allL (R0.take 300) = A := ⟨_, rfl⟩
      have hall := allL_all (R0.take 300)
      rw [hA] at hAl hlst HROW hall
      subst hv7
      have ham : am ≤ 300 := by rw [← hlst.len]; omega
      have HAL : Hid (Lst wr A aa am) := hlst
      have HAV : Hid (∀ x ∈ A, vC x.1 x.2 = true) := hall.1
      have HAM : Hid (∀ x, (us x).isSome = true → x ∈ A) := fun x hx => hall.2.2 x (by rw [← HUN.out.like.isSome x]; exact hx)
      obtain ⟨a1, a2⟩ := HAT.out wr HKr.out
      have hE : (¬ k < RN) ∨ (k < RN ∧ ¬ k < 300) := by omega
      clear hall hlst hAl HROW htk hA hlt2 HMa HR3
      rcases hE with hE | ⟨hE1, hE2⟩
      have j1 : ¬ (k : Int) < (RN : Int) := by omega
      go_upto_region 13 with fail
      rotate_left
      have j1 : (k : Int) < (RN : Int) := by omega
      have j2 : ¬ (k : Int) < 300 := by omega
      go_upto_region 13 with fail
      clear j2 hE1 hE2
      rotate_left
      clear hE
      all_goals
        clear j1 hk hk3
        have HKw : Hid (Kp w3 wr Nul) := HKr.out
        go_wp2_with fail
        refine (users_lst (HLI.out wr HKw.out) HN3.out c r).mono ?_
        rintro e w5 ⟨UL, ua, um, uc, rfl, hk5, hul, hum⟩
        have HK5 : Hid (Kp w3 w5 Nul) := HKw.out.trans hk5
        have HUL : Hid (Lst w5 UL ua um) := hul
        have HUM : Hid (∀ x, x ∈ UL ↔ usR us x (c, r)) := hum
        have HA5 : Hid (Lst w5 A aa am) := HAL.out.kp hk5
        clear hk5 hul hum a1 a2 HAL HKr
        go_wp2_with fail
        go_loopw [12] (fun s wr => RoundR w5 am s wr) (fun s _ => am - (intOf s).toNat)
        case atStart => exact ⟨0, Nat.zero_le _, rfl, Kp.refl _ _⟩
        case round =>
          rename World => wq
          obtain ⟨i, him, rfl, hkp⟩ := hrel
          have HKi : Hid (Kp w5 wq Nul) := hkp
          clear hkp
          by_cases hlt : i < am
          · have g1 : (i : Int) < (am : Int) := by omega
            obtain ⟨ba, x1, x2, rfl, hx, c1, c2⟩ := (HA5.out.kp HKi.out).get hlt
            have hxm := List.mem_of_getElem? hx
            have hxi := ((vc_iff' (x1, x2)).1 (HAV.out _ hxm)).i64
            have KS : Hid (∀ wz, Kp wq wz Nul → wz.cell? ⟨ba, i * 2, none⟩ = some (.int .i64 x1) ∧ wz.cell? ⟨ba, i * 2 + 1, none⟩ = some (.int .i64 x2)) := fun wz kz => by
              have e := kz.block ba (cell_lt c1) (fun x => x)
              simp only [World.cell?] at c1 c2 ⊢
              rw [e]; exact ⟨c1, c2⟩
            have HUS : Hid (Calls Tryz.prog 14 #[.pointer (some ⟨l, 0, none⟩), .agg #[.int .i64 x1, .int .i64 x2]] wq fun e w' => ∃ (a : Option Addr) (m c : Nat), e = .returned (.slice a m c) ∧ Kp wq w' Nul ∧ LstR w' ((us (x1, x2)).getD []) a m) := uses_lst (HLI.out wq (HK5.out.trans HKi.out)) x1 x2 hxi.1 hxi.2
            obtain ⟨On, hOn⟩ : ∃ On, ((us (x1, x2)).getD []).any (fun a => a.has (c, r)) = On := ⟨_, rfl⟩
            have HON : Hid (((us (x1, x2)).getD []).any (fun a => a.has (c, r)) = On) := hOn
            have HHas : Hid (∀ wz, Kp w5 wz Nul → Calls Tryz.prog 18 #[.slice ua um uc, .agg #[.int .i64 x1, .int .i64 x2]] wz fun e w' => e = .returned (.bool On) ∧ Kp wz w' Nul) := fun wz kz => (HUL.out.kp kz).has uc x1 x2 On (by
              rw [Bool.eq_iff_iff, decide_eq_true_eq, HUM.out, ← HON.out]
              unfold usR
              cases us (x1, x2) <;> simp)
            obtain ⟨al, hal⟩ : ∃ al, (us (x1, x2)).getD [] = al := ⟨_, rfl⟩
            rw [hal] at HUS HON
            clear hx hxm hxi hOn hal
            go_wp2_with fail
            refine HUS.out.mono ?_
            rintro e w6 ⟨va, vm, vc, rfl, hk6, hvl⟩
            have HK6 : Hid (Kp wq w6 Nul) := hk6
            have HVL : Hid (LstR w6 al va vm) := hvl
            have hvm : vm ≤ 256 := hvl.le
            clear hk6 hvl HUS c1 c2
            go_wp2_with fail
            go_loopw [13, 15] (fun o s wz => OnR w6 al (c, r) vm o s wz) (fun _ s _ => vm - (intOf s).toNat)
            case atStart => exact ⟨0, Nat.zero_le _, rfl, rfl, Kp.refl _ _⟩
            case round =>
              obtain ⟨k, hk, rfl, rfl, hkp⟩ := hrel
              have HKk : Hid (Kp w6 wr Nul) := hkp
              clear hkp
              by_cases hkm : k < vm
              · have g2 : (k : Int) < (vm : Int) := by omega
                obtain ⟨bb, a, rfl, ha, d1, d2, d3, d4⟩ := (HVL.out.kp HKk.out).get hkm
                obtain ⟨e1, e2⟩ := HAT.out wr (HK5.out.trans (HKi.out.trans (HK6.out.trans HKk.out)))
                have KS2 : Hid (∀ wz, Kp wr wz Nul → (wz.cell? ⟨bb, k * 4, none⟩ = some (.int .i64 a.c1) ∧ wz.cell? ⟨bb, k * 4 + 1, none⟩ = some (.int .i64 a.r1) ∧ wz.cell? ⟨bb, k * 4 + 2, none⟩ = some (.int .i64 a.c2) ∧ wz.cell? ⟨bb, k * 4 + 3, none⟩ = some (.int .i64 a.r2) ∧ wz.cell? ⟨nb, 0, none⟩ = some (.int .i64 c) ∧ wz.cell? ⟨nb, 1, none⟩ = some (.int .i64 r))) := fun wz kz => by
                  have q1 := kz.block bb (cell_lt d1) (fun x => x)
                  have q2 := kz.block nb (cell_lt e1) (fun x => x)
                  simp only [World.cell?] at d1 d2 d3 d4 e1 e2 ⊢
                  rw [q1, q2]; exact ⟨d1, d2, d3, d4, e1, e2⟩
                obtain ⟨B, hB⟩ : ∃ B, a.has (c, r) = B := ⟨_, rfl⟩
                have HIN : Hid (∀ wz, Calls Tryz.prog 20 #[.agg #[.int .i64 a.c1, .int .i64 a.r1, .int .i64 a.c2, .int .i64 a.r2], .agg #[.int .i64 c, .int .i64 r]] wz fun e w' => e = .returned (.bool B) ∧ Kp wz w' Nul) := fun wz => by rw [← hB]; exact in18_at a c r wz
                have HNX : Hid ((al.take (k + 1)).any (fun a => a.has (c, r)) = ((al.take k).any (fun a => a.has (c, r)) || B)) := by
                  show _ = _
                  rw [List.take_add_one, ha, List.any_append, ← hB]; simp
                generalize a.c1 = f1 at *
                generalize a.r1 = f2 at *
                generalize a.c2 = f3 at *
                generalize a.r2 = f4 at *
                generalize (al.take k).any (fun a => a.has (c, r)) = P at *
                clear ha hB
                go_upto_region 22 with fail
                go_region_held3 (fun wz => wz.cell? ⟨bb, k * 4, none⟩ = some (.int .i64 f1) ∧ wz.cell? ⟨bb, k * 4 + 1, none⟩ = some (.int .i64 f2) ∧ wz.cell? ⟨bb, k * 4 + 2, none⟩ = some (.int .i64 f3) ∧ wz.cell? ⟨bb, k * 4 + 3, none⟩ = some (.int .i64 f4) ∧ wz.cell? ⟨nb, 0, none⟩ = some (.int .i64 c) ∧ wz.cell? ⟨nb, 1, none⟩ = some (.int .i64 r))
                  (first | (exact KS2.out _ (Kp.refl _ _)) | (exact KS2.out _ (Kp.refl _ _).drew) | (exact KS2.out _ hk7) | (exact KS2.out _ ((Kp.refl _ _).drew.trans hk7)))
                  ((go_at_call 20; refine (HIN.out _).mono ?_; rintro e w7 ⟨rfl, hk7⟩))
                all_goals
                  have HK7 : Hid (Kp w6 w7 Nul) := by first | exact HKk.out.trans hk7 | exact HKk.out.trans ((Kp.refl wr Nul).drew.trans hk7)
                  clear hk7 d1 d2 d3 d4 e1 e2
                  cases P
                  all_goals
                    go_wp2_with fail
                    go_roundw
                    case rel => exact ⟨k + 1, by omega, by go_num, by rw [HNX.out]; simp, HK7.out⟩
                    case measure => simp only [intOf]; omega
              · have g2 : ¬ (k : Int) < (vm : Int) := by omega
                have HPA : Hid ((al.take k).any (fun a => a.has (c, r)) = On) := by
                  show _ = _
                  rw [List.take_of_length_le (by rw [HVL.out.len]; omega)]; exact HON.out
                rw [HPA.out]
                obtain ⟨c1, c2⟩ := KS.out wr (HK6.out.trans HKk.out)
                go_wp2_with fail
                refine (HHas.out wr (HKi.out.trans (HK6.out.trans HKk.out))).mono ?_
                rintro e w7 ⟨rfl, hk7⟩
                have HK7 : Hid (Kp w5 w7 Nul) := HKi.out.trans (HK6.out.trans (HKk.out.trans hk7))
                clear hk7 c1 c2
                cases On
                all_goals
                  go_wp2_with fail
                  go_roundw
                  case rel => exact ⟨i + 1, by omega, by go_num, HK7.out⟩
                  case measure => simp only [intOf]; omega
          · have g1 : ¬ (i : Int) < (am : Int) := by omega
            obtain ⟨a1, a2⟩ := HAT.out wq (HK5.out.trans HKi.out)
            have HK6 : Hid (Kp w3 wq Nul) := HK5.out.trans HKi.out
            have HUL6 : Hid (Lst wq UL ua um) := HUL.out.kp HKi.out
            have HA6 : Hid (Lst wq A aa am) := HA5.out.kp HKi.out
            have hum := HUL.out.le
            clear HUL HA5 HKi HK5 him
            go_wp2_with fail
            obtain ⟨w7, hw7⟩ : ∃ w7, wq.alloc (.cells #[.int .i64 c, .int .i64 r] 29) = w7 := ⟨_, rfl⟩
            have k7 : Kp wq w7 Nul := by rw [← hw7]; exact (Kp.refl wq Nul).alloc _
            have hb7 : CellsAt w7 wq.heap.size 0 [(c, r)] := by
              intro j x hx
              have hj : j = 0 := by
                have := (List.getElem?_eq_some_iff.1 hx).1
                simp at this; exact this
              subst hj
              simp at hx
              subst hx
              have hb : Blk w7 wq.heap.size [.int .i64 c, .int .i64 r] 29 := by rw [← hw7]; exact Blk.new wq _ _
              exact ⟨hb.cell (i := 0) rfl, hb.cell (i := 1) rfl⟩
            rw [hw7]
            refine (above_lst (HLI.out w7 (HK6.out.trans k7)) HN3.out (fun b hb => by have := (HK6.out.trans k7).size; omega) (HT.out.kp (HK3.out.trans (HK6.out.trans k7)) (fun x => x)) c r _ 1 hb7).mono ?_
            rintro e w8 ⟨AL, va, vm, vc, rfl, hk8, hal, halm⟩
            have HK8 : Hid (Kp w3 w8 Nul) := HK6.out.trans (k7.trans hk8)
            have HUL8 : Hid (Lst w8 UL ua um) := HUL6.out.kp (k7.trans hk8)
            have HA8 : Hid (Lst w8 A aa am) := HA6.out.kp (k7.trans hk8)
            have HAL8 : Hid (Lst w8 AL va vm) := hal
            have HALM : Hid (∀ x, x ∈ AL ↔ Hg (usR us) x (c, r)) := halm
            have hvm := hal.le
            clear hk8 hal halm k7 hb7 hw7 HK6 HUL6 HA6 a1 a2
            go_wp2_with fail
            go_loopw [19] (fun s wr => RoundR w8 um s wr) (fun s _ => um - (intOf s).toNat)
            case atStart => exact ⟨0, Nat.zero_le _, rfl, Kp.refl _ _⟩
            case round =>
              rename World => wq
              obtain ⟨i, him, rfl, hkp⟩ := hrel
              have HKi : Hid (Kp w8 wq Nul) := hkp
              clear hkp
              by_cases hlt : i < um
              · have g1 : (i : Int) < (um : Int) := by omega
                obtain ⟨ba, x1, x2, rfl, hx, c1, c2⟩ := (HUL8.out.kp HKi.out).get hlt
                have HHas : Hid (Calls Tryz.prog 18 #[.slice va vm vc, .agg #[.int .i64 x1, .int .i64 x2]] wq fun e w' => e = .returned (.bool true) ∧ Kp wq w' Nul) := (HAL8.out.kp HKi.out).has vc x1 x2 true (by
                  rw [decide_eq_true_eq, HALM.out]
                  exact .one ((HUM.out _).1 (List.mem_of_getElem? hx)))
                clear hx
                go_wp2_with fail
                refine HHas.out.mono ?_
                rintro e w9 ⟨rfl, hk9⟩
                have HK9 : Hid (Kp w8 w9 Nul) := HKi.out.trans hk9
                clear hk9 c1 c2 HHas
                go_wp2_with fail
                go_roundw
                case rel => exact ⟨i + 1, by omega, by go_num, HK9.out⟩
                case measure => simp only [intOf]; omega
              · have g1 : ¬ (i : Int) < (um : Int) := by omega
                have HK9 : Hid (Kp w3 wq Nul) := HK8.out.trans HKi.out
                have HA9 : Hid (Lst wq A aa am) := HA8.out.kp HKi.out
                have HAL9 : Hid (Lst wq AL va vm) := HAL8.out.kp HKi.out
                clear HUL8 HA8 HAL8 HK8 HKi him
                go_wp2_with fail
                go_loopw [21] (fun s wr => RoundR wq vm s wr) (fun s _ => vm - (intOf s).toNat)
                case atStart => exact ⟨0, Nat.zero_le _, rfl, Kp.refl _ _⟩
                case round =>
                  rename World => wp
                  obtain ⟨i, him, rfl, hkp⟩ := hrel
                  have HKi : Hid (Kp wq wp Nul) := hkp
                  clear hkp
                  by_cases hlt : i < vm
                  · have g1 : (i : Int) < (vm : Int) := by omega
                    obtain ⟨ba, y1, y2, rfl, hy, c1, c2⟩ := (HAL9.out.kp HKi.out).get hlt
                    have HY : Hid (Hg (usR us) (y1, y2) (c, r)) := (HALM.out _).1 (List.mem_of_getElem? hy)
                    clear hy
                    go_wp2_with fail
                    refine (users_lst (HLI.out wp (HK9.out.trans HKi.out)) HN3.out y1 y2).mono ?_
                    rintro e w10 ⟨ML, ma, mm, mc, rfl, hk10, hml, hmm⟩
                    have HK10 : Hid (Kp wq w10 Nul) := HKi.out.trans hk10
                    have HML : Hid (Lst w10 ML ma mm) := hml
                    have HMM : Hid (∀ x, x ∈ ML ↔ usR us x (y1, y2)) := hmm
                    have hmm2 := hml.le
                    clear hk10 hml hmm c1 c2 HKi
                    go_wp2_with fail
                    go_loopw [23] (fun s wr => RoundR w10 mm s wr) (fun s _ => mm - (intOf s).toNat)
                    case atStart => exact ⟨0, Nat.zero_le _, rfl, Kp.refl _ _⟩
                    case round =>
                      obtain ⟨k, hk, rfl, hkp⟩ := hrel
                      have HKk : Hid (Kp w10 wr Nul) := hkp
                      clear hkp
                      by_cases hkm : k < mm
                      · have g2 : (k : Int) < (mm : Int) := by omega
                        obtain ⟨bm, x1, x2, rfl, hx, c1, c2⟩ := (HML.out.kp HKk.out).get hkm
                        have HHas : Hid (Calls Tryz.prog 18 #[.slice (some ⟨ba, 0, none⟩) vm vc, .agg #[.int .i64 x1, .int .i64 x2]] wr fun e w' => e = .returned (.bool true) ∧ Kp wr w' Nul) := (HAL9.out.kp (HK10.out.trans HKk.out)).has vc x1 x2 true (by
                          rw [decide_eq_true_eq, HALM.out]
                          exact .step ((HMM.out _).1 (List.mem_of_getElem? hx)) HY.out)
                        clear hx
                        go_wp2_with fail
                        refine HHas.out.mono ?_
                        rintro e w11 ⟨rfl, hk11⟩
                        have HK11 : Hid (Kp w10 w11 Nul) := HKk.out.trans hk11
                        clear hk11 c1 c2 HHas
                        go_wp2_with fail
                        go_roundw
                        case rel => exact ⟨k + 1, by omega, by go_num, HK11.out⟩
                        case measure => simp only [intOf]; omega
                      · have g2 : ¬ (k : Int) < (mm : Int) := by omega
                        go_wp2_with fail
                        go_roundw
                        case rel => exact ⟨i + 1, by omega, by go_num, HK10.out.trans HKk.out⟩
                        case measure => simp only [intOf]; omega
                  · have g1 : ¬ (i : Int) < (vm : Int) := by omega
                    have HKx : Hid (Kp w3 wp Nul) := HK9.out.trans HKi.out
                    have HAx : Hid (Lst wp A aa am) := HA9.out.kp HKi.out
                    clear HA9 HAL9 HK9 HKi him HALM HUM
                    go_wp2_with fail
                    refine (circ_lst (HLI.out wp HKx.out) HN3.out (fun b hb => by have := HKx.out.size; omega) (HT.out.kp (HK3.out.trans HKx.out) (fun x => x))).mono ?_
                    rintro e w10 ⟨ca, cm, cc, is, rfl, hk10, hcc⟩
                    have HK10 : Hid (Kp w3 w10 Nul) := HKx.out.trans hk10
                    have HC10 : Hid (CirC us w10 ca cm cc is) := hcc
                    have HA10 : Hid (Lst w10 A aa am) := HAx.out.kp hk10
                    clear hk10 hcc HKx HAx
                    go_wp2_with fail
                    refine (order_lst (HLI.out w10 HK10.out) (fun b hb => by have := HK10.out.size; omega) ac HA10.out HAV.out HAM.out).mono ?_
                    rintro e w11 ⟨ov, er, rfl, hk11, her⟩
                    have HK11 : Hid (Kp w3 w11 Nul) := HK10.out.trans hk11
                    have HC11 : Hid (CirC us w11 ca cm cc is) := HC10.out.kc (kc_nul hk11)
                    have HA11 : Hid (Lst w11 A aa am) := HA10.out.kp hk11
                    have HER : Hid (((∃ x, Hg (usR us) x x) ∧ er = 40) ∨ ((¬ ∃ x, Hg (usR us) x x) ∧ er = 0)) := her
                    have HD0 : Hid (DrR w11 (fun b => w2.heap.size ≤ b ∧ b < w3.heap.size) l us A (.slice none 0 0) (.int .i64 0) w11) := ⟨0, 0, n, us, [], Nat.zero_le _, Nat.le_refl _, rfl, HLI.out w11 HK11.out, HUN.out.cnt, fun x => by simp, World.ownsRow_nil _ _ _ _, Kp.refl _ _, kc_nul (Kp.refl _ _)⟩
                    clear hk11 her HK10 HC10 HA10
                    go_wp2_with fail
                    go_loopw [29, 30] (fun v s wr => DrR w11 (fun b => w2.heap.size ≤ b ∧ b < w3.heap.size) l us A v s wr) (fun _ s _ => am - (intOf s).toNat)
                    case atStart => exact HD0.out
                    case round =>
                      clear HD0
                      obtain ⟨k, j, n', us', xs, hk, hj, rfl, hl', hcn, hus', hrow, hkp, hkc⟩ := hrel
                      rw [HA11.out.len] at hk
                      have HLd : Hid (LinksIn wr (fun b => w2.heap.size ≤ b ∧ b < w3.heap.size) l us' n') := hl'
                      have HCn : Hid (CntU us' n') := hcn
                      have HUd : Hid (∀ x, us' x = if x ∈ A.take k then none else us x) := hus'
                      have HRd : Hid (wr.ownsRow w11.heap.size 29 2 u29 j xs) := hrow
                      have HKd : Hid (Kp w11 wr (fun b => w2.heap.size ≤ b ∧ b < w3.heap.size)) := hkp
                      have HKc : Hid (KC w11 wr) := hkc
                      have HSZ : Hid (w3.heap.size ≤ w11.heap.size) := HK11.out.size
                      clear hl' hcn hus' hrow hkp hkc
                      by_cases hlt : k < am
                      · have g1 : (k : Int) < (am : Int) := by omega
                        obtain ⟨ba, x1, x2, rfl, hx, c1, c2⟩ := (HA11.out.kc HKc.out).get hlt
                        have hxi := ((vc_iff' (x1, x2)).1 (HAV.out _ (List.mem_of_getElem? hx))).i64
                        obtain ⟨Dp, hDp⟩ : ∃ Dp, (us' (x1, x2)).isSome = Dp := ⟨_, rfl⟩
                        have HDr : Hid (Calls Tryz.prog 24 #[.pointer (some ⟨l, 0, none⟩), .agg #[.int .i64 x1, .int .i64 x2]] wr fun e w' => e = .returned (.bool Dp) ∧ LinksIn w' (fun b => w2.heap.size ≤ b ∧ b < w3.heap.size) l (delU us' (x1, x2)) (cntD us' (x1, x2) n') ∧ Kp wr w' (fun b => w2.heap.size ≤ b ∧ b < w3.heap.size) ∧ KC wr w') := by
                          show Calls _ _ _ _ _
                          rw [← hDp]
                          exact drop2_at _ l n' us' x1 x2 wr HLd.out hxi.1 hxi.2
                        have HUx : Hid (∀ x, delU us' (x1, x2) x = if x ∈ A.take (k + 1) then none else us x) := fun x => by
                          unfold delU
                          rw [HUd.out, List.take_add_one, hx, Option.toList_some]
                          by_cases e1 : x = (x1, x2)
                          · simp [e1]
                          · by_cases e2 : x ∈ A.take k <;> simp [e1, e2]
                        clear hx hxi hDp
                        go_wp2_with fail
                        refine HDr.out.mono ?_
                        rintro e w12 ⟨rfl, hl12, hk12, hc12⟩
                        have HL12 : Hid (LinksIn w12 (fun b => w2.heap.size ≤ b ∧ b < w3.heap.size) l (delU us' (x1, x2)) (cntD us' (x1, x2) n')) := hl12
                        have HK12' : Hid (Kp w11 w12 (fun b => w2.heap.size ≤ b ∧ b < w3.heap.size)) := HKd.out.trans hk12
                        have HC12 : Hid (KC w11 w12) := HKc.out.trans hc12
                        have HR12 : Hid (w12.ownsRow w11.heap.size 29 2 u29 j xs) := row_kp HRd.out hk12 (fun i hi e => by have := HSZ.out; omega)
                        have d1 := hc12 _ _ _ c1
                        have d2 := hc12 _ _ _ c2
                        clear hl12 hk12 hc12 HDr c1 c2 HRd
                        cases Dp with
                        | false =>
                          go_wp2_with fail
                          go_roundw
                          case rel => exact ⟨k + 1, j, _, _, xs, by rw [HA11.out.len]; omega, by omega, by go_num, HL12.out, HCn.out.del _, HUx.out, HR12.out, HK12'.out, HC12.out⟩
                          case measure => simp only [intOf]; omega
                        | true =>
                          have hb4 := Blk.new w12 [.int .i64 x1, .int .i64 x2] 29
                          have HB4 : Hid (Blk (w12.alloc (.cells #[.int .i64 x1, .int .i64 x2] 29)) w12.heap.size [.int .i64 x1, .int .i64 x2] 29) := hb4
                          have HRow4 : Hid ((w12.alloc (.cells #[.int .i64 x1, .int .i64 x2] 29)).ownsRow w11.heap.size 29 2 u29 j xs) := row_kp HR12.out ((Kp.refl w12 Nul).alloc _) (fun i _ e => e)
                          clear hb4
                          go_wp2_with (at_builtin; refine wpList_append_own _ rfl _ _ 30 rfl w11.heap.size 29 i0 _ 2 16 Tryz.underlying30 hi hz0 hz1 hz2 rfl (by decide) _ _ _ rfl HRow4.out ⟨w12.heap.size, 0, none⟩ 1 1 (encA (x1, x2)) rfl ?qc1 ?qc2 ?qc3 ?qc4 ?qc5 ?qc6 ?_)
                          case qc1 => rfl
                          case qc2 =>
                            intro j u hj
                            rw [Addr.add_lit, Nat.zero_add]
                            exact HB4.out.at'.trans hj
                          case qc3 => exact encA_one _
                          case qc4 => unfold maxLen; omega
                          case qc5 => omega
                          case qc6 => rw [World.size_alloc]; have := HK12'.out.size; omega
                          intro v8 w13 hrow8 hg8 hnil8
                          have hob := own_block HRow4.out
                          have k1213 : Kp w12 w13 (fun i => u29.ownBlock = some i) := ((Kp.refl w12 _).alloc _).trans (Kp.of_grown (S := fun i => u29.ownBlock = some i) hg8 (fun i e => e))
                          have HK13 : Hid (Kp w11 w13 (fun b => w2.heap.size ≤ b ∧ b < w3.heap.size)) := HK12'.out.trans' k1213 (fun i hi e => by have := hob i e; omega)
                          have HC13 : Hid (KC w11 w13) := HC12.out.then k1213 (fun i hi e => by have := hob i e; omega)
                          have HL13 : Hid (LinksIn w13 (fun b => w2.heap.size ≤ b ∧ b < w3.heap.size) l (delU us' (x1, x2)) (cntD us' (x1, x2) n')) := HL12.out.kp k1213 (fun i h e => by have := hob i e; have := HSZ.out; omega)
                          have HR13 : Hid (w13.ownsRow w11.heap.size 29 2 v8 (j + 1) (xs ++ encA (x1, x2))) := hrow8
                          clear hrow8 hg8 hnil8 k1213 hob
                          go_wp2_with fail
                          go_roundw
                          case rel => exact ⟨k + 1, j + 1, _, _, _, by rw [HA11.out.len]; omega, by omega, by go_num, HL13.out, HCn.out.del _, HUx.out, HR13.out, HK13.out, HC13.out⟩
                          case measure => simp only [intOf]; omega
                      · have g1 : ¬ (k : Int) < (am : Int) := by omega
                        have hz : n' = 0 := HCn.out.none (fun x => by
                          rw [HUd.out, List.take_of_length_le (by rw [HA11.out.len]; omega)]
                          by_cases hm : x ∈ A
                          · rw [if_pos hm]
                          · rw [if_neg hm]
                            cases hu : us x with
                            | none => rfl
                            | some al => exact absurd (HAM.out x (by rw [hu]; rfl)) hm)
                        subst hz
                        obtain ⟨sa, sc, hsv⟩ := row_slice HRd.out
                        subst hsv
                        have HLen : Hid (Calls Tryz.prog 15 #[.pointer (some ⟨l, 0, none⟩)] wr fun e w' => e = .returned (.int .i64 ((0 : Nat) : Int)) ∧ w' = wr) := len_at _ l 0 us' wr HLd.out
                        have HEND : Hid (Kp w wr Nul) := (HK3.out.trans HK11.out).trans' HKd.out (fun i hi e => by have := HK2.out.size; omega)
                        have g2 : ¬ (am : Int) < (j : Int) := by omega
                        have hcz := HC11.out.kc HKc.out
                        clear HRd HKd HC11 HAM HUd hk hj
                        rcases hcz with ⟨rfl, rfl, hno⟩ | ⟨rfl, hm0, hyes, R, b, rfl, hRl, hmc, hm4, hring, hcells⟩
                        · have he : er = 0 := by
                            rcases HER.out with ⟨h, _⟩ | ⟨_, h⟩
                            · exact absurd h hno
                            · exact h
                          subst he
                          clear hno HER
                          go_wp2_with fail
                          refine HLen.out.mono ?_
                          rintro e w14 ⟨rfl, hw14⟩
                          subst hw14
                          go_wp2_with fail
                          go_ret
                          exact ⟨rfl, HEND.out⟩
                        · have he : er = 40 := by
                            rcases HER.out with ⟨_, h⟩ | ⟨h, _⟩
                            · exact h
                            · exact absurd hyes h
                          subst he
                          have g3 : (0 : Int) < (cm : Int) := by omega
                          have HRing : Hid (Calls Tryz.prog 25 #[.slice ra RN rc, .slice (some ⟨b, 0, none⟩) cm cc] wr fun e w' => e = .returned (.bool true) ∧ Kp wr w' Nul) := by
                            have := ring_law R0 ra rc R b cc us wr (by rw [HRN.out]; exact hRm) (fun h0 => by
                              obtain ⟨b, o, e, hh⟩ := HRA.out (by rw [← HRN.out]; exact h0)
                              exact ⟨b, o, e, hh.kp HEND.out⟩) hring HUN.out.like (by rw [hRl]; exact hmc) (by rw [hRl]; exact hm4) hcells
                            rw [HRN.out, hRl] at this
                            exact this
                          clear hyes HER hRl hmc hm4 hring hcells
                          go_wp2_with fail
                          refine HLen.out.mono ?_
                          rintro e w14 ⟨rfl, hw14⟩
                          subst hw14
                          go_wp2_with fail
                          refine HRing.out.mono ?_
                          rintro e w15 ⟨rfl, hk15⟩
                          have HK15 : Hid (Kp w w15 Nul) := HEND.out.trans hk15
                          clear hk15
                          go_wp2_with fail
                          go_ret
                          exact ⟨rfl, HK15.out⟩
end Go.Proofs.YtdlieecpckpemaaGreatDoor
