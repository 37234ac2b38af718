/- LinksOrders: the walk. -/
import Derived.Test.YtkgolfmnlbmmeaaZu
namespace Go.Proofs.Ytkgolfmnlbmmeaa
open Go.RowKit Go.Sort Go.Lib Go.Maps

theorem CellsAt.take {w : World} {b o : Nat} {A : List (Int × Int)} (h : CellsAt w b o A) (n : Nat) : CellsAt w b o (A.take n) := fun i x hx => h i x (by
  rw [List.getElem?_take] at hx
  split at hx
  · exact hx
  · cases hx)
theorem CellsAt.drop {w : World} {b o : Nat} {A : List (Int × Int)} (h : CellsAt w b o A) (n : Nat) : CellsAt w b (o + n * 2) (A.drop n) := fun i x hx => by
  rw [List.getElem?_drop] at hx
  have := h (n + i) x hx
  rw [show o + n * 2 + i * 2 = o + (n + i) * 2 by omega]
  exact this
theorem LinksIn.oks {w : World} {F : Nat → Prop} {l n : Nat} {us : Int × Int → Option (List Ar)} (h : LinksIn w F l us n) : ∀ x al, us x = some al → ∀ a ∈ al, a.ok := by
  obtain ⟨_, h⟩ := h
  rcases h with ⟨_, rfl, _⟩ | ⟨m, D, _, _, _, _, hm⟩
  · intro x al hu; cases hu
  · exact fun x al hu => (hm.oks x al hu).1
theorem LinksIn.rng {w : World} {F : Nat → Prop} {l n : Nat} {us : Int × Int → Option (List Ar)} (h : LinksIn w F l us n) : ∀ x al, us x = some al → VC x := by
  obtain ⟨_, h⟩ := h
  rcases h with ⟨_, rfl, _⟩ | ⟨m, D, _, _, _, _, hm⟩
  · intro x al hu; cases hu
  · exact hm.rng
/-- There are no more cells than this. -/
theorem few_cells {L : List (Int × Int)} (hs : Strict L) (h : ∀ x ∈ L, VC x) : L.length ≤ 1048576 := by
  have hn : L.Nodup := by
    refine List.Pairwise.imp ?_ hs
    intro a b h e
    subst e
    rw [swoA.irrefl] at h; cases h
  have := hn.length_le_of_subset (l₂ := (List.range 1048576).map (fun k : Nat => (((k % 256 + 1 : Nat) : Int), ((k / 256 + 1 : Nat) : Int)))) (fun x hx => by
    obtain ⟨h1, h2, h3, h4⟩ := h x hx
    rw [List.mem_map]
    refine ⟨(x.2.toNat - 1) * 256 + (x.1.toNat - 1), ?_, ?_⟩
    · rw [List.mem_range]; omega
    · exact Prod.ext (by simp only; omega) (by simp only; omega))
  rw [List.length_map, List.length_range] at this
  exact this
/-- What Ready and Order come to, whatever the cells are. -/
def RdIs (us : Int × Int → Option (List Ar)) (A : List (Int × Int)) (P : List Int) (B : Nat) (w' : World) (v : Value) (er : Int) : Prop :=
  (A.any (fun x => !vC x.1 x.2) = true ∧ v = .slice none 0 0 ∧ er = 20) ∨ (A.any (fun x => !vC x.1 x.2) = false ∧ ReadyIs us A P B w' v er)
theorem both_same {us : Int × Int → Option (List Ar)} (hok : ∀ x al, us x = some al → ∀ a ∈ al, a.ok) {A : List (Int × Int)} {P P' : List Int} {B B' : Nat} {w w' : World} {v v' : Value} {er er' : Int} (h : RdIs us A P B w v er) (h' : RdIs us A P' B' w' v' er') :
    er' = er ∧ (((er = 20 ∨ er = 40) ∧ v = .slice none 0 0 ∧ v' = .slice none 0 0) ∨ (er = 0 ∧ ∃ R R' b b', v = .slice (some ⟨b, 0, none⟩) R.length R.length ∧ v' = .slice (some ⟨b', 0, none⟩) R.length R.length ∧ R'.length = R.length ∧ R.length ≤ A.length ∧ CellsAt w b 0 R ∧ CellsAt w' b' 0 R' ∧ GoodO us A R ∧ GoodO us A R')) := by
  rcases h with ⟨h1, h2, h3⟩ | ⟨h1, h2⟩
  · rcases h' with ⟨_, g2, g3⟩ | ⟨g1, _⟩
    · exact ⟨by rw [g3, h3], .inl ⟨.inl h3, h2, g2⟩⟩
    · rw [h1] at g1; cases g1
  · rcases h' with ⟨g1, _⟩ | ⟨_, g2⟩
    · rw [h1] at g1; cases g1
    · obtain ⟨e, h⟩ := orders_same hok h2 g2
      refine ⟨e, ?_⟩
      rcases h with ⟨e1, e2, e3⟩ | h
      · exact .inl ⟨.inr e1, e2, e3⟩
      · exact .inr h
def RoundR (w : World) (n : Nat) (s : Value) (wr : World) : Prop := ∃ k : Nat, k ≤ n ∧ s = .int .i64 (k : Int) ∧ Kp w wr Nul
/-- has, of a list that is told. -/
theorem has_is (L : List (Int × Int)) (a : Option Addr) (cc : Nat) (x : Int × Int) (B : Bool) (w : World) (hL : L.length ≤ 1048576) (ha : 0 < L.length → ∃ b o, a = some ⟨b, o, none⟩ ∧ CellsAt w b o L) (hB : decide (x ∈ L) = B) :
    Calls Try.prog 9 #[.slice a L.length cc, .agg #[.int .i64 x.1, .int .i64 x.2]] w fun e w' => e = .returned (.bool B) ∧ Kp w w' Nul := by
  rw [← hB]; exact has_at L a cc x.1 x.2 w hL ha
/-- What 'o[i+1:]' comes to. -/
theorem slice_from (b RN i : Nat) (hi : i < RN) : ∃ a', (i + 1 < RN → a' = some ⟨b, (i + 1) * 2, none⟩) ∧ ∀ w, (Instr.sliceAt 23 (.slice (some ⟨b, 0, none⟩) RN RN) (some (.int .i64 ((i : Int) + 1))) none none).run Try.prog w = .ok (.slice a' (RN - (i + 1)) (RN - (i + 1))) w := by
  refine ⟨if RN = i + 1 then some ⟨b, 0, none⟩ else some ⟨b, (i + 1) * 2, none⟩, fun h => if_neg (by omega), fun w => ?_⟩
  have ht : Try.prog.underlying 23 = some (.slice (Try.prog.elem 23)) := by kernel_rfl
  have hz : (Go.sizeOf (Try.prog.elem 23)).run Try.prog w = .ok 2 w := by
    have : Try.prog.elem 23 = 34 := by kernel_rfl
    rw [this]; exact Try.sizeOf34 w
  rw [run_sliceAt_slice w _ _ _ _ _ ht, run_slice_l w _ _ _ _ ht .i64 ((i : Int) + 1) (by omega) (by omega), hz]
  have e : ((i : Int) + 1).toNat = i + 1 := by omega
  simp only [Result.andThen, sliced, e, Option.map_some, Addr.add]
  by_cases h : RN = i + 1
  · simp only [if_pos h]
  · simp only [if_neg h]
    rw [if_neg (by omega), Nat.zero_add]
/-- What the walk wants to know of the two orders, from a world on. -/
structure OrdF (w4 : World) (aa : Option Addr) (ac N l b b' RN : Nat) (R : List (Int × Int)) : Prop where
  ho : ∀ (wq : World) (i : Nat), Kp w4 wq Nul → i < N → ∃ ba oa x1 x2, aa = some ⟨ba, oa, none⟩ ∧ (wq.cell? ⟨ba, oa + i * 2, none⟩ = some (.int .i64 x1) ∧ wq.cell? ⟨ba, oa + i * 2 + 1, none⟩ = some (.int .i64 x2)) ∧
    (∀ wz, Kp w4 wz Nul → Calls Try.prog 9 #[.slice (some ⟨b, 0, none⟩) RN RN, .agg #[.int .i64 x1, .int .i64 x2]] wz fun e w' => e = .returned (.bool true) ∧ Kp wz w' Nul) ∧
    (∀ wz, Kp w4 wz Nul → Calls Try.prog 9 #[.slice (some ⟨b', 0, none⟩) RN RN, .agg #[.int .i64 x1, .int .i64 x2]] wz fun e w' => e = .returned (.bool true) ∧ Kp wz w' Nul)
  at' : ∀ (wq : World) (i : Nat), Kp w4 wq Nul → i < RN → ∃ x1 x2, R[i]? = some (x1, x2) ∧ (wq.cell? ⟨b, i * 2, none⟩ = some (.int .i64 x1) ∧ wq.cell? ⟨b, i * 2 + 1, none⟩ = some (.int .i64 x2))
  ha : ∀ (wq : World) (i : Nat) (x1 x2 : Int), Kp w4 wq Nul → R[i]? = some (x1, x2) → Calls Try.prog 9 #[.slice aa N ac, .agg #[.int .i64 x1, .int .i64 x2]] wq fun e w' => e = .returned (.bool true) ∧ Kp wq w' Nul
  dr : ∀ (wq : World) (i : Nat) (x1 x2 : Int) (a : Option Addr) (c : Nat), Kp w4 wq Nul → R[i]? = some (x1, x2) → (i + 1 < RN → a = some ⟨b, (i + 1) * 2, none⟩) → Calls Try.prog 9 #[.slice a (RN - (i + 1)) c, .agg #[.int .i64 x1, .int .i64 x2]] wq fun e w' => e = .returned (.bool false) ∧ Kp wq w' Nul
  us : ∀ (wq : World) (i : Nat) (x1 x2 : Int), Kp w4 wq Nul → R[i]? = some (x1, x2) → Calls Try.prog 10 #[.pointer (some ⟨l, 0, none⟩), .agg #[.int .i64 x1, .int .i64 x2]] wq fun e w' => ∃ a nL c, e = .returned (.slice a nL c) ∧ Kp wq w' Nul ∧
    (∀ (wz : World) (k : Nat) (y1 y2 : Int), Kp w' wz Nul → R[k]? = some (y1, y2) → k ≤ i → Calls Try.prog 9 #[.slice a nL c, .agg #[.int .i64 y1, .int .i64 y2]] wz fun e w' => e = .returned (.bool false) ∧ Kp wz w' Nul)
theorem ordF_of {w4 : World} {aa : Option Addr} {ac N l n b b' RN : Nat} {A R R' : List (Int × Int)} {us : Int × Int → Option (List Ar)} (hNA : A.length = N) (hN : N ≤ 300) (hA : 0 < N → ∃ b o, aa = some ⟨b, o, none⟩ ∧ CellsAt w4 b o A) (hRN : R.length = RN) (hR' : R'.length = RN) (hRA : RN ≤ N)
    (hc : CellsAt w4 b 0 R) (hc' : CellsAt w4 b' 0 R') (hg : GoodO us A R) (hg' : GoodO us A R') (hl : LinksIn w4 (under w4) l us n) (hn : n ≤ 300) : OrdF w4 aa ac N l b b' RN R := by
  have hlk : ∀ wq, Kp w4 wq Nul → LinksIn wq (under wq) l us n := fun wq k => (hl.kp k (fun _ _ x => x)).mono (fun b hb _ => hb)
  refine ⟨fun wq i k hi => ?_, fun wq i k hi => ?_, fun wq i x1 x2 k hx => ?_, fun wq i x1 x2 a c k hx ha => ?_, fun wq i x1 x2 k hx => ?_⟩
  · obtain ⟨ba, oa, e, hca⟩ := hA (by omega)
    obtain ⟨⟨x1, x2⟩, hx⟩ : ∃ x, A[i]? = some x := ⟨_, List.getElem?_eq_getElem (by omega)⟩
    have hm := List.mem_of_getElem? hx
    refine ⟨ba, oa, x1, x2, e, (hca.kp k (fun x => x)) i _ hx, fun wz kz => ?_, fun wz kz => ?_⟩
    · have := has_is R (some ⟨b, 0, none⟩) RN (x1, x2) true wz (by omega) (fun _ => ⟨b, 0, rfl, hc.kp kz (fun x => x)⟩) (by simpa using (hg.mem _).2 hm)
      rw [hRN] at this
      exact this
    · have := has_is R' (some ⟨b', 0, none⟩) RN (x1, x2) true wz (by omega) (fun _ => ⟨b', 0, rfl, hc'.kp kz (fun x => x)⟩) (by simpa using (hg'.mem _).2 hm)
      rw [hR'] at this
      exact this
  · obtain ⟨⟨x1, x2⟩, hx⟩ : ∃ x, R[i]? = some x := ⟨_, List.getElem?_eq_getElem (by omega)⟩
    have := (hc.kp k (fun x => x)) i _ hx
    rw [Nat.zero_add] at this
    exact ⟨x1, x2, hx, this⟩
  · have := has_is A aa ac (x1, x2) true wq (by omega) (fun h => by obtain ⟨ba, oa, e, hca⟩ := hA (by omega); exact ⟨ba, oa, e, hca.kp k (fun x => x)⟩) (by simpa using (hg.mem _).1 (List.mem_of_getElem? hx))
    rw [hNA] at this
    exact this
  · have hdl : (R.drop (i + 1)).length = RN - (i + 1) := by rw [List.length_drop, hRN]
    have := has_is (R.drop (i + 1)) a c (x1, x2) false wq (by omega) (fun h => ⟨b, 0 + (i + 1) * 2, by rw [Nat.zero_add]; exact ha (by omega), (hc.kp k (fun x => x)).drop (i + 1)⟩) (by
      simp only [decide_eq_false_iff_not]
      intro hm
      obtain ⟨j, hj⟩ := List.mem_iff_getElem?.1 hm
      rw [List.getElem?_drop] at hj
      have := nodup_inj hg.nod hx hj
      omega)
    rw [hdl] at this
    exact this
  · refine (users_at (under wq) l n us x1 x2 wq (hlk wq k) (by omega)).mono ?_
    rintro e w' ⟨L, v', rfl, ⟨a, c, rfl, hL⟩, hst, hmm, hk'⟩
    refine ⟨a, L.length, c, rfl, hk', fun wz k' y1 y2 kz hy hki => ?_⟩
    refine has_is L a c (y1, y2) false wz (few_cells hst (fun z hz => ?_)) (fun h0 => ?_) ?_
    · have := (hmm z).1 hz
      cases hu : us z with
      | none => rw [hu] at this; cases this
      | some al => exact (hlk wq k).rng z al hu
    · rcases hL with ⟨_, e⟩ | ⟨b2, e1, _, e3⟩
      · rw [e] at h0; exact absurd h0 (Nat.lt_irrefl _)
      · exact ⟨b2, 0, e1, e3.kp kz (fun x => x)⟩
    · simp only [decide_eq_false_iff_not]
      intro hm
      have h1 := (hmm (y1, y2)).1 hm
      have h2 := hg.beh k' i (y1, y2) (x1, x2) hy hx hki
      unfold usesC at h2
      rw [h2] at h1; cases h1
set_option maxRecDepth 20000 in
set_option maxHeartbeats 2000000 in
theorem orders_law (R0 : List Rl) (ra : Option Addr) (rc : Nat) (A : List (Int × Int)) (aa : Option Addr) (ac : Nat) (P : List Int) (pa : Option Addr) (pc : Nat) (w : World) (hR0 : R0.length ≤ 9223372036854775807) (hra : 0 < R0.length → ∃ b o, ra = some ⟨b, o, none⟩ ∧ RulesAt w b o R0)
    (hac : A.length ≤ ac) (hAm : A.length ≤ 9223372036854775807) (haa : 0 < A.length → ∃ b o, aa = some ⟨b, o, none⟩ ∧ CellsAt w b o A) (hP : P.length ≤ maxLen) (hpa : 0 < P.length → ∃ b o, pa = some ⟨b, o, none⟩ ∧ IntsAt w b o P) :
    Calls Try.prog 3 #[.slice ra R0.length rc, .slice aa A.length ac, .slice pa P.length pc] w fun e w' => e = .returned (.bool true) ∧ Kp w w' Nul := by
  have HAw : Hid (Calls Try.prog 5 #[] w fun e w' => e = .returned (.bool true) ∧ Kp w w' Nul) := awake_at w
  have HMa : Hid (∀ wq, Kp w wq Nul → Calls Try.prog 6 #[.slice ra R0.length rc] wq fun e w' => ∃ l us n, e = .returned (.pointer (some ⟨l, 0, none⟩)) ∧ n ≤ 300 ∧ LinksIn w' (Fr wq.heap.size) l us n ∧ Kp wq w' Nul) := fun wq k =>
    made_at R0 ra rc wq hR0 (fun h => by obtain ⟨b, o, e, hh⟩ := hra h; exact ⟨b, o, e, hh.kp k⟩)
  obtain ⟨N, hN⟩ : ∃ N, (A.take 300).length = N := ⟨_, rfl⟩
  have HCA : Hid (∀ wq, Kp w wq Nul → 0 < N → ∃ b o, aa = some ⟨b, o, none⟩ ∧ CellsAt wq b o (A.take 300)) := fun wq k h => by
    obtain ⟨b, o, e, hc⟩ := haa (by rw [← hN, List.length_take] at h; omega)
    exact ⟨b, o, e, (hc.take 300).kp k (fun x => x)⟩
  have hN300 : N ≤ 300 := by rw [← hN, List.length_take]; omega
  have HRd : Hid (∀ wq l us n, Kp w wq Nul → LinksIn wq (under wq) l us n → Calls Try.prog 7 #[.pointer (some ⟨l, 0, none⟩), .slice aa N ac, .slice pa P.length pc] wq fun e w' => ∃ v er, e = .returned (.tuple #[v, .int .i64 er]) ∧ Kp wq w' Nul ∧ RdIs us (A.take 300) P wq.heap.size w' v er) := fun wq l us n k hl => by
    have := ready_at l n us (A.take 300) aa ac P pa pc wq hl (by omega) (fun h => HCA.out wq k (by rw [← hN]; exact h)) hP (fun h => by obtain ⟨b, o, e, hh⟩ := hpa h; exact ⟨b, o, e, hh.kp k (fun x => x)⟩)
    rw [hN] at this
    exact this
  have HOd : Hid (∀ wq l us n, Kp w wq Nul → LinksIn wq (under wq) l us n → Calls Try.prog 8 #[.pointer (some ⟨l, 0, none⟩), .slice aa N ac] wq fun e w' => ∃ v er, e = .returned (.tuple #[v, .int .i64 er]) ∧ Kp wq w' Nul ∧ RdIs us (A.take 300) [] wq.heap.size w' v er) := fun wq l us n k hl => by
    have := order_at l n us (A.take 300) aa ac wq hl (by omega) (fun h => HCA.out wq k (by rw [← hN]; exact h))
    rw [hN] at this
    exact this
  obtain ⟨A', hA'⟩ : ∃ A', A.take 300 = A' := ⟨_, rfl⟩
  have hcut : (A.length ≤ 300 ∧ N = A.length) ∨ (300 < A.length ∧ N = 300) := by rw [← hN, List.length_take]; omega
  rw [hA'] at HCA HRd HOd hN
  have HNA : Hid (A'.length = N) := hN
  generalize A.length = AN at *
  generalize R0.length = RN0 at *
  generalize P.length = PN at *
  clear hra haa hpa hA' hP hN
  go_enter Try.func3, Try.ntmps3
  go_wp2_with fail
  refine HAw.out.mono ?_
  rintro e w1 ⟨rfl, hk1⟩
  have HK1 : Hid (Kp w w1 Nul) := hk1
  clear hk1 HAw
  go_wp2_with fail
  refine (HMa.out w1 HK1.out).mono ?_
  rintro e w2 ⟨l, us, n, rfl, hn, hl2, hk2⟩
  have HK2 : Hid (Kp w w2 Nul) := HK1.out.trans hk2
  have HL : Hid (∀ wq, Kp w2 wq Nul → LinksIn wq (under wq) l us n) := fun wq k => (hl2.kp k (fun _ _ x => x)).mono (fun b hb _ => hb)
  have HOK : Hid (∀ x al, us x = some al → ∀ a ∈ al, a.ok) := hl2.oks
  clear hl2 hk2 HMa HK1
  rcases hcut with ⟨hle, rfl⟩ | ⟨hgt, hN⟩
  rotate_left
  have j1 : (300 : Int) < (AN : Int) := by omega
  have j2 : (300 : Nat) ≤ ac := by omega
  have HN2 : Hid (N = 300) := hN
  clear hN
  go_wp2_with fail
  rw [show Value.slice aa 300 ac = Value.slice aa N ac by rw [HN2.out]]
  rotate_left
  have j1 : ¬ (300 : Int) < (N : Int) := by omega
  go_wp2_with fail
  all_goals
    clear j1
    refine (HRd.out w2 l us n HK2.out (HL.out w2 (Kp.refl _ _))).mono ?_
    rintro e w3 ⟨v3, e3, rfl, hk3, hr3⟩
    have HK3 : Hid (Kp w w3 Nul) := HK2.out.trans hk3
    have HK23 : Hid (Kp w2 w3 Nul) := hk3
    have HR3 : Hid (RdIs us A' P w2.heap.size w3 v3 e3) := hr3
    clear hk3 hr3
    go_wp2_with fail
    refine (HOd.out w3 l us n HK3.out (HL.out w3 HK23.out)).mono ?_
    rintro e w4 ⟨v4, e4, rfl, hk4, hr4⟩
    have HK4 : Hid (Kp w w4 Nul) := HK3.out.trans hk4
    have HL4 : Hid (∀ wq, Kp w4 wq Nul → LinksIn wq (under wq) l us n) := fun wq k => HL.out wq ((HK23.out.trans hk4).trans k)
    obtain ⟨ee, hb⟩ := both_same HOK.out HR3.out hr4
    subst ee
    clear hr4 HR3 HL
    rcases hb with ⟨he, rfl, rfl⟩ | ⟨rfl, R, R', b, b', rfl, rfl, hRl, hRA, hc, hc', hg, hg'⟩
    · clear hk4
      rcases he with rfl | rfl
      · go_wp2_with fail
        go_ret
        exact ⟨rfl, HK4.out⟩
      · go_wp2_with fail
        go_ret
        exact ⟨rfl, HK4.out⟩
    · obtain ⟨RN, hRN⟩ : ∃ RN, R.length = RN := ⟨_, rfl⟩
      have HF : Hid (OrdF w4 aa ac N l b b' RN R) := ordF_of HNA.out hN300 (HCA.out w4 HK4.out) hRN (hRl.trans hRN) (by rw [← hRN]; have := HNA.out; omega) (hc.kp hk4 (fun x => x)) hc' hg hg' (HL4.out w4 (Kp.refl _ _)) hn
      have hRN3 : RN ≤ 300 := by rw [← hRN]; have := HNA.out; omega
      rw [hRN]
      clear hc hc' hg hg' hRl hRA hk4 hRN HRd HOd HCA HL4 HOK
      go_wp2_with fail
      go_loopw [13] (fun s wr => RoundR w4 N s wr) (fun s _ => N - (intOf s).toNat)
      case atStart => exact ⟨0, Nat.zero_le _, rfl, Kp.refl _ _⟩
      case round =>
        obtain ⟨k, hk, rfl, hkp⟩ := hrel
        have HKr : Hid (Kp w4 wr Nul) := hkp
        clear hkp
        by_cases hlt : k < N
        · have h1 : (k : Int) < (N : Int) := by omega
          obtain ⟨ba, oa, x1, x2, rfl, ⟨c1, c2⟩, hh1, hh2⟩ := HF.out.ho wr k HKr.out hlt
          have KS : Hid (∀ wq, Kp wr wq Nul → wq.cell? ⟨ba, oa + k * 2, none⟩ = some (.int .i64 x1) ∧ wq.cell? ⟨ba, oa + k * 2 + 1, none⟩ = some (.int .i64 x2)) := fun wq kq => by
            have e := kq.block ba (cell_lt c1) (fun x => x)
            simp only [World.cell?] at c1 c2 ⊢
            rw [e]; exact ⟨c1, c2⟩
          have H1 : Hid (Calls Try.prog 9 #[.slice (some ⟨b, 0, none⟩) RN RN, .agg #[.int .i64 x1, .int .i64 x2]] wr fun e w' => e = .returned (.bool true) ∧ Kp wr w' Nul) := hh1 wr HKr.out
          have H2 : Hid (∀ wz, Kp w4 wz Nul → Calls Try.prog 9 #[.slice (some ⟨b', 0, none⟩) RN RN, .agg #[.int .i64 x1, .int .i64 x2]] wz fun e w' => e = .returned (.bool true) ∧ Kp wz w' Nul) := hh2
          clear hh1 hh2
          go_wp2_with fail
          refine H1.out.mono ?_
          rintro e w5 ⟨rfl, hk5⟩
          obtain ⟨d1, d2⟩ := KS.out w5 hk5
          have HK5 : Hid (Kp w4 w5 Nul) := HKr.out.trans hk5
          clear hk5 c1 c2 H1 KS
          go_wp2_with fail
          refine (H2.out w5 HK5.out).mono ?_
          rintro e w6 ⟨rfl, hk6⟩
          have HK6 : Hid (Kp w4 w6 Nul) := HK5.out.trans hk6
          clear hk6
          go_wp2_with fail
          go_roundw
          case rel => exact ⟨k + 1, by omega, by go_num, HK6.out⟩
          case measure => simp only [intOf]; omega
        · have h1 : ¬ (k : Int) < (N : Int) := by omega
          go_wp2_with fail
          go_loopw [16] (fun s wr => RoundR w4 RN s wr) (fun s _ => RN - (intOf s).toNat)
          case atStart => exact ⟨0, Nat.zero_le _, rfl, HKr.out⟩
          case round =>
            clear h1 hlt hk HKr
            obtain ⟨i, hi, rfl, hkp⟩ := hrel
            have HKs : Hid (Kp w4 wr Nul) := hkp
            clear hkp
            by_cases hlt : i < RN
            · have g1 : (i : Int) < (RN : Int) := by omega
              obtain ⟨x1, x2, hx, c1, c2⟩ := HF.out.at' wr i HKs.out hlt
              have HX : Hid (R[i]? = some (x1, x2)) := hx
              have KS : Hid (∀ wq, Kp wr wq Nul → wq.cell? ⟨b, i * 2, none⟩ = some (.int .i64 x1) ∧ wq.cell? ⟨b, i * 2 + 1, none⟩ = some (.int .i64 x2)) := fun wq kq => by
                have e := kq.block b (cell_lt c1) (fun x => x)
                simp only [World.cell?] at c1 c2 ⊢
                rw [e]; exact ⟨c1, c2⟩
              have H1 : Hid (Calls Try.prog 9 #[.slice aa N ac, .agg #[.int .i64 x1, .int .i64 x2]] wr fun e w' => e = .returned (.bool true) ∧ Kp wr w' Nul) := HF.out.ha wr i x1 x2 HKs.out hx
              clear hx
              go_wp2_with fail
              refine H1.out.mono ?_
              rintro e w5 ⟨rfl, hk5⟩
              obtain ⟨d1, d2⟩ := KS.out w5 hk5
              have HK5 : Hid (Kp w4 w5 Nul) := HKs.out.trans hk5
              have KS5 : Hid (∀ wq, Kp w5 wq Nul → wq.cell? ⟨b, i * 2, none⟩ = some (.int .i64 x1) ∧ wq.cell? ⟨b, i * 2 + 1, none⟩ = some (.int .i64 x2)) := fun wq kq => KS.out wq (hk5.trans kq)
              have HDr : Hid (∀ wq a c, Kp w5 wq Nul → (i + 1 < RN → a = some ⟨b, (i + 1) * 2, none⟩) → Calls Try.prog 9 #[.slice a (RN - (i + 1)) c, .agg #[.int .i64 x1, .int .i64 x2]] wq fun e w' => e = .returned (.bool false) ∧ Kp wq w' Nul) := fun wq a c kq ha => HF.out.dr wq i x1 x2 a c (HK5.out.trans kq) HX.out ha
              clear hk5 c1 c2 H1 KS HKs
              obtain ⟨a', ha', hsl⟩ := slice_from b RN i hlt
              have HA' : Hid (i + 1 < RN → a' = some ⟨b, (i + 1) * 2, none⟩) := ha'
              have g2 : IntKind.i64.wrap ((i : Int) + 1) = (i : Int) + 1 := by rw [IntKind.wrap_i64]; omega
              clear ha'
              go_wp2_with fail
              go_region_held3 (fun w' => w'.cell? ⟨b, i * 2, none⟩ = some (.int .i64 x1) ∧ w'.cell? ⟨b, i * 2 + 1, none⟩ = some (.int .i64 x2))
                (first | (exact KS5.out _ (Kp.refl _ _)) | (exact KS5.out _ (Kp.refl _ _).drew) | (exact KS5.out _ ((Kp.refl _ _).drew.trans hk6)))
                ((go_at_call 9; refine (HDr.out _ _ _ ((Kp.refl _ _).drew) HA'.out).mono ?_; rintro e w6 ⟨rfl, hk6⟩))
              all_goals
                have hk56 : Kp w5 w6 Nul := (Kp.refl w5 Nul).drew.trans hk6
                have HK6 : Hid (Kp w4 w6 Nul) := HK5.out.trans hk56
                obtain ⟨e1, e2⟩ := KS5.out w6 hk56
                have HU := HF.out.us w6 i x1 x2 HK6.out HX.out
                have HUs : Hid (Calls Try.prog 10 #[.pointer (some ⟨l, 0, none⟩), .agg #[.int .i64 x1, .int .i64 x2]] w6 fun e w' => ∃ a nL c, e = .returned (.slice a nL c) ∧ Kp w6 w' Nul ∧ (∀ (wz : World) (k : Nat) (y1 y2 : Int), Kp w' wz Nul → R[k]? = some (y1, y2) → k ≤ i → Calls Try.prog 9 #[.slice a nL c, .agg #[.int .i64 y1, .int .i64 y2]] wz fun e w' => e = .returned (.bool false) ∧ Kp wz w' Nul)) := HU
                clear hk6 hk56 HU d1 d2 hsl KS5 HDr HA'
                go_wp2_with fail
                refine HUs.out.mono ?_
                rintro e w7 ⟨au, nu, cu, rfl, hk7, hh⟩
                have HK7 : Hid (Kp w4 w7 Nul) := HK6.out.trans hk7
                have HH : Hid (∀ (wz : World) (k : Nat) (y1 y2 : Int), Kp w7 wz Nul → R[k]? = some (y1, y2) → k ≤ i → Calls Try.prog 9 #[.slice au nu cu, .agg #[.int .i64 y1, .int .i64 y2]] wz fun e w' => e = .returned (.bool false) ∧ Kp wz w' Nul) := hh
                clear hk7 hh HUs e1 e2
                go_wp2_with fail
                go_loopw [20] (fun s wr => RoundR w7 (i + 1) s wr) (fun s _ => i + 1 - (intOf s).toNat)
                case atStart => exact ⟨0, Nat.zero_le _, rfl, Kp.refl _ _⟩
                case round =>
                  obtain ⟨k, hk, rfl, hkp⟩ := hrel
                  have HKt : Hid (Kp w7 wr Nul) := hkp
                  clear hkp
                  by_cases hle : k ≤ i
                  · have f1 : (k : Int) ≤ (i : Int) := by omega
                    have f2 : (k : Int) < (RN : Int) := by omega
                    obtain ⟨y1, y2, hy, c1, c2⟩ := HF.out.at' wr k (HK7.out.trans HKt.out) (by omega)
                    have H1 : Hid (Calls Try.prog 9 #[.slice au nu cu, .agg #[.int .i64 y1, .int .i64 y2]] wr fun e w' => e = .returned (.bool false) ∧ Kp wr w' Nul) := HH.out wr k y1 y2 HKt.out hy hle
                    clear hy
                    go_wp2_with fail
                    refine H1.out.mono ?_
                    rintro e w8 ⟨rfl, hk8⟩
                    have HK8 : Hid (Kp w7 w8 Nul) := HKt.out.trans hk8
                    clear hk8 H1
                    go_wp2_with fail
                    go_roundw
                    case rel => exact ⟨k + 1, by omega, by go_num, HK8.out⟩
                    case measure => simp only [intOf]; omega
                  · have f1 : ¬ (k : Int) ≤ (i : Int) := by omega
                    go_wp2_with fail
                    go_roundw
                    case rel => exact ⟨i + 1, by omega, by go_num, HK7.out.trans HKt.out⟩
                    case measure => simp only [intOf]; omega
            · have g1 : ¬ (i : Int) < (RN : Int) := by omega
              go_wp2_with fail
              go_ret
              exact ⟨rfl, HK4.out.trans HKs.out⟩
end Go.Proofs.Ytkgolfmnlbmmeaa
