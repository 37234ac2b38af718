/- web. used: the first cell that a cell uses and from which just so many steps are left. -/
import Derived.Test.YtdlieecpckpemaaGreatDoorLcLxg
import Derived.Test.YtdlieecpckpemaaGreatDoorLcLxh
import Derived.Test.YtdlieecpckpemaaGreatDoorLcYu
import Derived.Test.YtdlieecpckpemaaGreatDoorLcZs
import Derived.Test.YtdlieecpckpemaaGreatDoorLcLxj
import Derived.Test.YtdlieecpckpemaaGreatDoorLcLxe
namespace Go.Proofs.YtdlieecpckpemaaGreatDoor
open Go.RowKit Go.Shelf Go.Sort Go.Maps
attribute [local go_sem] Oper.semAt_some
set_option maxHeartbeats 1000000 in
theorem keys_at (mv : Option Nat) (w : World) : Calls Tryz.prog 92 #[.map mv] w fun e w' => e = .returned (.func (.func 112) #[] #[.pointer (some ⟨w.heap.size, 0, none⟩)]) ∧ w' = w.alloc (.cells #[.map mv] 64) := by
  go_enter Tryz.func92, Tryz.ntmps92
  go_wp2_with fail
  go_ret
  exact ⟨rfl, rfl⟩
/-- Links as KeyM, their map in a new box. -/
theorem LinksIn.keyM {w : World} {F : Nat → Prop} {l n : Nat} {us : Int × Int → Option (List Ar)} (h : LinksIn w F l us n) : ∃ mv, w.cell? ⟨l, 0, none⟩ = some (.map mv) ∧ KeyM (w.alloc (.cells #[.map mv] 64)) F w.heap.size mv us n := by
  obtain ⟨_, h⟩ := h
  rcases h with ⟨h1, h2, _⟩ | ⟨m, D, h1, _, _, h4, h5⟩
  · exact ⟨none, h1.cell rfl, Blk.new w [.map none] _, .inl ⟨rfl, h2⟩⟩
  · have hk : Kp w (w.alloc (.cells #[.map (some m)] 64)) Nul := (Kp.refl w Nul).alloc _
    exact ⟨some m, h1.cell rfl, Blk.new w [.map (some m)] _, .inr ⟨m, D, rfl, Nat.ne_of_lt h4.lt, ownsMap_block h4 (hk.block m h4.lt (fun x => x)), h5.kp hk (fun _ _ x => x)⟩⟩
theorem LinksIn.oks2 {w : World} {F : Nat → Prop} {l n : Nat} {us : Int × Int → Option (List Ar)} (h : LinksIn w F l us n) {x : Int × Int} {al : List Ar} (hu : us x = some al) : (∀ a ∈ al, a.ok) ∧ al.length ≤ 256 := by
  obtain ⟨_, h⟩ := h
  rcases h with ⟨_, e, _⟩ | ⟨m, D, _, _, _, _, h5⟩
  · rw [e] at hu; cases hu
  · exact h5.oks x al hu
/-- put, of marks that are one of many. -/
theorem put_mem (mb W m p q cap : Nat) (U : Nat → Nat → Bool) (w : World) (hp : p < m) (hq : q / 64 < W) (hq2 : q < 4294967296) (h : Blk w mb (memL U W m) 122) :
    Calls Tryz.prog 57 #[.slice (some ⟨mb, p * W, none⟩) W cap, .int .i64 (q : Int)] w fun e w' => e = .returned (.tuple #[]) ∧ Blk w' mb (memL (putRow' U p q) W m) 122 ∧ Kp w w' (fun i => i = mb) := by
  refine (put_at mb (p * W) W cap q (Wd.wd (U p) (q / 64) : Nat) (Wd.wd (ins (U p) q) (q / 64) : Nat) w hq hq2 (or_put _ _) (h.cell (memL_get hp hq)) (h.froz _)).mono ?_
  rintro e w' ⟨rfl, rfl⟩
  have e : putRow' U p q p = ins (U p) q := by unfold putRow'; rw [if_pos rfl]
  have hs := h.set (p * W + q / 64) (.int .u64 (Wd.wd (putRow' U p q p) (q / 64) : Nat))
  rw [memL_set (rows := U) (rows' := putRow' U p q) hp hq (fun c' i' _ _ hor => by
    unfold putRow'
    by_cases e : c' = p
    · subst e
      rw [if_pos rfl]
      rcases hor with hor | hor
      · exact absurd rfl hor
      · exact wd_far true hor
    · rw [if_neg e]), e] at hs
  exact ⟨rfl, hs.drew, ((Kp.refl w (fun i => i = mb)).setCell ⟨mb, p * W + q / 64, none⟩ _ (.inr rfl)).drew⟩
/-- Whom the first k use: place p's users. -/
def usrU (L : List (Int × Int)) (us : Int × Int → Option (List Ar)) (k : Nat) : Nat → Nat → Bool := fun p q => useP L us q p && decide (q < k)
/-- The places that place k uses, of its first j areas. -/
def ussA (L : List (Int × Int)) (al : List Ar) (j : Nat) : Nat → Bool := fun q => (al.take j).any (fun a => inPl L a q)
theorem ussA_zero (L : List (Int × Int)) (al : List Ar) : ussA L al 0 = fun _ => false := by funext q; simp [ussA]
theorem ussA_succ {L : List (Int × Int)} {al : List Ar} {j : Nat} {a : Ar} (h : al[j]? = some a) : ussA L al (j + 1) = fun q => ussA L al j q || inPl L a q := by
  funext q
  unfold ussA
  rw [List.take_add_one, h, List.any_append]
  simp
theorem blk_setCells {b : Nat} {t : TypeId} : ∀ (vs : List Value) (o : Nat) (w : World) (cs : List Value), Blk w b cs t → o + vs.length ≤ cs.length → Blk (w.setCells b o vs) b (cs.take o ++ vs ++ cs.drop (o + vs.length)) t
  | [], o, w, cs, h, _ => by
    show Blk w b _ t
    simpa using h
  | v :: r, o, w, cs, h, hl => by
    rw [List.length_cons] at hl
    have h1 := blk_setCells r (o + 1) (w.setCell ⟨b, o, none⟩ v) (cs.set o v) (h.set o v) (by rw [List.length_set]; omega)
    rw [World.setCells]
    have e1 : (cs.set o v).take (o + 1) = cs.take o ++ [v] := by
      rw [List.take_add_one, List.getElem?_set_self (by omega), List.take_set_of_le (Nat.le_refl _)]
      rfl
    have e2 : (cs.set o v).drop (o + 1 + r.length) = cs.drop (o + (v :: r).length) := by
      rw [List.drop_set_of_lt (by omega), List.length_cons, show o + 1 + r.length = o + (r.length + 1) by omega]
    rw [e1, e2, List.append_assoc (cs.take o)] at h1
    exact h1
theorem clear_marks {w : World} {b n c : Nat} {M : Nat → Bool} (h : Blk w b (wds M n) 122) (hn : 0 < n) :
    ∃ w', (∀ ty, (Builtin.clear_ #[84] ty #[.slice (some ⟨b, 0, none⟩) n c]).run Tryz.prog w = .ok (.tuple #[]) w') ∧ Blk w' b (wds (fun _ => false) n) 122 ∧ Kp w w' (fun i => i = b) := by
  have e : (Builtin.zeroCells (Value.int .u64 0).cells n).toList = wds (fun _ => false) n := by
    rw [← zeros_wds]
    apply List.ext_getElem?
    intro i
    simp only [Builtin.zeroCells, Value.cells, Array.toList_map, List.getElem?_map, Array.toList_range, List.getElem?_replicate]
    by_cases h : i < n
    · rw [if_pos h, List.getElem?_range (by simpa using h)]
      simp [Nat.mod_one]
    · rw [if_neg h, List.getElem?_eq_none (by simpa using h)]
      rfl
  have hl : (wds (fun _ => false) n).length = n := by simp [wds]
  have hl2 : (wds M n).length = n := by simp [wds]
  refine ⟨w.setCells b 0 (wds (fun _ => false) n), fun ty => ?_, ?_, setCells_kp b _ 0 w⟩
  · have := clear_is w 84 122 ty (.int .u64 0) Tryz.underlying84 (fun w => by kernel_rfl) b 0 n c hn (fun j hj => by
      rw [e, hl] at hj
      rw [Nat.zero_add, h.cell (wds_get hj)]; rfl) (fun j hj => h.froz _) (fun v hv => by
      rw [e, ← zeros_wds] at hv
      have := (List.mem_replicate.1 hv).2
      subst this; rfl)
    rw [e] at this
    exact this
  · have h1 := blk_setCells (wds (fun _ => false) n) 0 w (wds M n) h (by rw [hl, hl2]; omega)
    rw [hl, Nat.zero_add, List.drop_of_length_le (by rw [hl2]; exact Nat.le_refl _)] at h1
    simpa using h1
theorem useP_lt {L : List (Int × Int)} {us : Int × Int → Option (List Ar)} {k p : Nat} (h : useP L us k p = true) : p < L.length := by
  unfold useP at h
  cases hk : L[k]? with
  | none => rw [hk] at h; cases h
  | some x =>
    rw [hk] at h
    simp only [List.any_eq_true] at h
    obtain ⟨a, _, ha⟩ := h
    unfold inPl at ha
    cases hp : L[p]? with
    | none => rw [hp] at ha; cases ha
    | some y => exact (List.getElem?_eq_some_iff.1 hp).1
/-- While place k is put in: those of list ps have it. -/
def usrM (L : List (Int × Int)) (us : Int × Int → Option (List Ar)) (k : Nat) (ps : List Nat) : Nat → Nat → Bool := fun p q => usrU L us k p q || (q == k && decide (p ∈ ps))
theorem usrM_nil (L : List (Int × Int)) (us : Int × Int → Option (List Ar)) (k : Nat) : usrM L us k [] = usrU L us k := by funext p q; unfold usrM; simp
theorem usrM_put (L : List (Int × Int)) (us : Int × Int → Option (List Ar)) (k p : Nat) (ps : List Nat) : putRow' (usrM L us k ps) p k = usrM L us k (ps ++ [p]) := by
  funext c q
  unfold putRow' usrM ins
  by_cases e : c = p
  · subst e
    rw [if_pos rfl]
    by_cases h : q = k
    · subst h; simp
    · have h2 : (q == k) = false := by simp [h]
      show (if q = k then true else (usrU L us k c q || (q == k && decide (c ∈ ps)))) = (usrU L us k c q || (q == k && decide (c ∈ ps ++ [c])))
      rw [if_neg h, h2, Bool.false_and, Bool.false_and]
  · rw [if_neg e]
    simp [e]
theorem usrM_all {L : List (Int × Int)} {us : Int × Int → Option (List Ar)} {k : Nat} {ps : List Nat} (h : ∀ p, p ∈ ps ↔ useP L us k p = true) : usrM L us k ps = usrU L us (k + 1) := by
  funext p q
  unfold usrM usrU
  by_cases e : q = k
  · subst e
    have h1 := h p
    rw [Bool.eq_iff_iff]
    simp [h1]
  · have : decide (q < k) = decide (q < k + 1) := by rw [decide_eq_decide]; omega
    rw [this]
    simp [e]
structure WebR (wb : World) (L : List (Int × Int)) (us : Int × Int → Option (List Ar)) (mb ud : Nat) (k : Nat) (wr : World) : Prop where
  m : Blk wr mb (memL (usrU L us k) ((L.length + 63) / 64) L.length) 122
  u : ∃ M, Blk wr ud (wds M ((L.length + 63) / 64)) 122
  kp : Kp wb wr (fun i => i = mb ∨ i = ud)
/-- What web hands back. -/
structure WebIs (w w' : World) (us : Int × Int → Option (List Ar)) (n : Nat) (L : List (Int × Int)) (wp ub mb : Nat) (a : Option Addr) (c : Nat) : Prop where
  st : Strict L
  mem : ∀ x, x ∈ L ↔ (us x).isSome = true
  len : L.length ≤ n
  web : WebM w' wp ub mb (.slice a L.length c) L.length (fun p q => useP L us q p)
  cl : 0 < L.length → ∃ b, a = some ⟨b, 0, none⟩ ∧ w.heap.size ≤ b ∧ CellsAt w' b 0 L
  new : w.heap.size ≤ mb ∧ w.heap.size ≤ ub ∧ w.heap.size ≤ wp
  kp : Kp w w' Nul
def WebOut (w : World) (us : Int × Int → Option (List Ar)) (n : Nat) (e : Ending) (w' : World) : Prop :=
  ∃ (L : List (Int × Int)) (wp ub mb : Nat) (a : Option Addr) (c : Nat), e = .returned (.pointer (some ⟨wp, 0, none⟩)) ∧ WebIs w w' us n L wp ub mb a c
set_option maxRecDepth 100000 in
set_option maxHeartbeats 8000000 in
theorem web_at (F : Nat → Prop) (l n : Nat) (us : Int × Int → Option (List Ar)) (w : World) (h : LinksIn w F l us n) (hn : n ≤ 4096) (hF : ∀ b, F b → b < w.heap.size) (hT : Tab w) :
    Calls Tryz.prog 53 #[.pointer (some ⟨l, 0, none⟩)] w (WebOut w us n) := by
  obtain ⟨mv, hc0, hkm⟩ := h.keyM
  have HSK : Hid (Calls Tryz.prog 91 #[.func (.func 112) #[] #[.pointer (some ⟨w.heap.size, 0, none⟩)], .func (.func 50) #[] #[]] (w.alloc (.cells #[.map mv] 64))
      fun e w' => ∃ (L : List (Int × Int)) (v' : Value), e = .returned v' ∧ CellsFrom (w.alloc (.cells #[.map mv] 64)).heap.size w' v' L ∧ Strict L ∧ (∀ x, x ∈ L ↔ (us x).isSome = true) ∧ L.length ≤ n ∧ Kp (w.alloc (.cells #[.map mv] 64)) w' Nul) := sortedKeys_at F w.heap.size n mv us _ hkm (by omega)
  have HK0 : Hid (Kp w (w.alloc (.cells #[.map mv] 64)) Nul) := (Kp.refl w Nul).alloc _
  have HL : Hid (LinksIn w F l us n) := h
  have HT : Hid (Tab w) := hT
  have HFl : Hid (∀ b, F b → b < w.heap.size) := hF
  clear h hT hkm hF
  refine (callsIn_wide (n := 12)).1 ?_
  refine callsIn_of_wp_marks Tryz.func53 rfl trivial ?_ rfl
  simp only [Tryz.ntmps53, List.size_toArray, List.length_cons, List.length_nil, Nat.reduceAdd, Nat.reduceSub, Array.replicate_succ, Array.replicate_zero, List.push_toArray, List.append_toArray, List.nil_append, List.cons_append]
  refine wpIn_wide.2 ?_
  go_upto_region 2 with (first
    | (go_at_call 92; refine (keys_at _ _).mono ?_; rintro e wz ⟨rfl, hz⟩; subst hz)
    | (go_at_call 91; refine HSK.out.mono ?_; rintro e w2 ⟨L, v2, rfl, hcf, hst, hmem, hlen, hk2⟩)
    | fail)
  have HST : Hid (Strict L) := hst
  have HMEM : Hid (∀ x, x ∈ L ↔ (us x).isSome = true) := hmem
  have HLEN : Hid (L.length ≤ n ∧ n ≤ 4096) := ⟨hlen, hn⟩
  have HK2 : Hid (Kp w w2 Nul) := HK0.out.trans hk2
  obtain ⟨ca, cc, rfl, hca⟩ := hcf
  have HCA : Hid (0 < L.length → ∃ b, ca = some ⟨b, 0, none⟩ ∧ w.heap.size ≤ b ∧ CellsAt w2 b 0 L) := fun h0 => by
    rcases hca with ⟨_, e⟩ | ⟨b, e1, e2, e3⟩
    · rw [e] at h0; simp at h0
    · exact ⟨b, e1, by rw [World.size_alloc] at e2; omega, e3⟩
  have HVC : Hid (∀ x ∈ L, VC x) := fun x hx => by
    have h1 := (hmem x).1 hx
    cases hu : us x with
    | none => rw [hu] at h1; cases h1
    | some al => exact HL.out.rng x al hu
  obtain ⟨N, hN⟩ : ∃ N, L.length = N := ⟨_, rfl⟩
  have HN : Hid (L.length = N) := hN
  rw [hN] at HLEN HCA
  have hN4 : N ≤ 4096 := by have := HLEN.out; omega
  obtain ⟨W, hW⟩ : ∃ W, (N + 63) / 64 = W := ⟨_, rfl⟩
  have HW : Hid ((N + 63) / 64 = W) := hW
  have HMM : Hid (∀ wq, Calls Tryz.prog 82 #[.int .i64 (N : Int), .int .i64 (N : Int)] wq fun e w' => e = .returned (.slice (some ⟨wq.heap.size + 1, 0, none⟩) N N) ∧
      Blk w' wq.heap.size (memL (fun _ _ => false) W N) 122 ∧ Blk w' (wq.heap.size + 1) (upL wq.heap.size W N N) 84 ∧ Kp wq w' Nul) := fun wq => by
    have := manyMarks_at N N (by omega) (by omega) wq
    rw [hW, memL_zero] at this
    exact this
  rw [hN]
  clear hst hmem hlen hk2 hca hN hW HSK HK0 hc0 hn
  go_upto_region 3 with (first
    | (go_at_call 82; refine (HMM.out _).mono ?_; rintro e w3 ⟨rfl, hm3, hu3, hk3⟩)
    | fail)
  obtain ⟨mb, hmb⟩ : ∃ mb, w2.heap.size = mb := ⟨_, rfl⟩
  obtain ⟨wp, hwp⟩ : ∃ wp, w3.heap.size = wp := ⟨_, rfl⟩
  rw [hmb] at hm3 hu3
  have hs3 : mb + 2 ≤ wp := by have := hu3.lt; omega
  rw [hmb, hwp]
  obtain ⟨w4, hw4⟩ : ∃ w4, (w3.alloc (.cells #[.slice ca N cc, .slice (some ⟨mb + 1, 0, none⟩) N N] 88)).alloc (.cells #[.pointer (some ⟨wp, 0, none⟩)] 81) = w4 := ⟨_, rfl⟩
  have k34 : Kp w3 w4 Nul := by rw [← hw4]; exact ((Kp.refl w3 Nul).alloc _).alloc _
  have s4 : w4.heap.size = wp + 2 := by rw [← hw4]; simp only [World.size_alloc]; omega
  have bwp : Blk w4 wp [.slice ca N cc, .slice (some ⟨mb + 1, 0, none⟩) N N] 88 := by rw [← hw4]; exact (Blk.at_ hwp _ _).alloc _
  have bwv : Blk w4 (wp + 1) [.pointer (some ⟨wp, 0, none⟩)] 81 := by rw [← hw4]; exact Blk.at_ (by rw [World.size_alloc, hwp]) _ _
  rw [hw4]
  have HK24 : Hid (Kp w2 w4 Nul) := hk3.trans k34
  have HWM : Hid (w.heap.size ≤ mb ∧ mb + 2 ≤ wp ∧ w4.heap.size = wp + 2) := ⟨by rw [← hmb]; exact HK2.out.size, hs3, s4⟩
  have HM4 : Hid (Blk w4 mb (memL (fun _ _ => false) W N) 122) := hm3.kp k34 (fun x => x)
  have HU4 : Hid (Blk w4 (mb + 1) (upL mb W N N) 84) := hu3.kp k34 (fun x => x)
  have HWP : Hid (Blk w4 wp [.slice ca N cc, .slice (some ⟨mb + 1, 0, none⟩) N N] 88) := bwp
  have HWV : Hid (Blk w4 (wp + 1) [.pointer (some ⟨wp, 0, none⟩)] 81) := bwv
  have HCA4 : Hid (∀ wq, Kp w4 wq Nul → 0 < N → ∃ b, ca = some ⟨b, 0, none⟩ ∧ w.heap.size ≤ b ∧ b < mb ∧ CellsAt wq b 0 L) := fun wq k h0 => by
    obtain ⟨b, e1, e2, e3⟩ := HCA.out h0
    have hb : b < w2.heap.size := by
      obtain ⟨x, hx⟩ : ∃ x, L[0]? = some x := ⟨_, List.getElem?_eq_getElem (by rw [HN.out]; exact h0)⟩
      exact cell_lt (e3 0 x hx).1
    exact ⟨b, e1, e2, by rw [← hmb]; exact hb, (e3.kp HK24.out (fun x => x)).kp k (fun x => x)⟩
  have HNB : Hid (Calls Tryz.prog 47 #[.slice ca N cc] w4 fun e w' => ∃ B ubB mbB, e = .returned (.pointer (some ⟨B, 0, none⟩)) ∧ BoardM w' B ubB mbB W (.slice ca N cc) (colTo L) ∧ (w4.heap.size ≤ B ∧ w4.heap.size ≤ ubB ∧ w4.heap.size ≤ mbB) ∧ Kp w4 w' Nul) := by
    have := newBoard_at L ca cc w4 (by rw [HN.out]; omega) (fun i x hx => by have := HVC.out x (List.mem_of_getElem? hx); exact ⟨this.1, this.2.1⟩) (fun h0 => by obtain ⟨b, e1, _, _, e4⟩ := HCA4.out w4 (Kp.refl _ _) (by rw [← HN.out]; exact h0); exact ⟨b, 0, e1, e4⟩)
    rw [HN.out, HW.out] at this
    exact this
  have HNM : Hid (∀ wq, Calls Tryz.prog 54 #[.int .i64 (N : Int)] wq fun e w' => ∃ cs : Array Value, e = .returned (.slice (some ⟨wq.heap.size, 0, none⟩) W W) ∧ cs.toList = wds (fun _ => false) W ∧ w' = wq.alloc (.cells cs 122)) := fun wq => by
    have := newMarks_at N (by omega) wq
    rw [HW.out] at this
    exact this
  clear hm3 hu3 hk3 hw4 k34 s4 bwp bwv hs3 hmb hwp HMM HCA
  go_upto_region 5 with (first
    | (go_at_call 47; refine HNB.out.mono ?_; rintro e w5 ⟨B, ubB, mbB, rfl, hbm, hbo, hk5⟩)
    | (go_at_call 54; refine (HNM.out _).mono ?_; rintro e wz ⟨cs, rfl, hcs, hz⟩; subst hz)
    | fail)
  obtain ⟨ud, hud⟩ : ∃ ud, w5.heap.size = ud := ⟨_, rfl⟩
  obtain ⟨w6, hw6⟩ : ∃ w6, w5.alloc (.cells cs 122) = w6 := ⟨_, rfl⟩
  have k56 : Kp w5 w6 Nul := by rw [← hw6]; exact (Kp.refl w5 Nul).alloc _
  have bud : Blk w6 ud (wds (fun _ => false) W) 122 := by rw [← hw6]; exact Blk.atA hud cs _ hcs
  rw [hw6, hud]
  have HK46 : Hid (Kp w4 w6 Nul) := hk5.trans k56
  have HBM : Hid (BoardM w6 B ubB mbB W (.slice ca N cc) (colTo L)) := hbm.kpn k56
  have HBO : Hid ((wp + 2 ≤ B ∧ wp + 2 ≤ ubB ∧ wp + 2 ≤ mbB) ∧ (B < ud ∧ ubB < ud ∧ mbB < ud) ∧ w6.heap.size = ud + 1) := by
    have h1 := HWM.out.2.2
    exact ⟨⟨by omega, by omega, by omega⟩, ⟨by rw [← hud]; exact hbm.b.lt, by rw [← hud]; exact hbm.u.lt, by rw [← hud]; exact hbm.m.lt⟩, by rw [← hw6, World.size_alloc, hud]⟩
  have HBI : Hid (∀ wq, Kp w6 wq (fun i => i = mb ∨ i = ud) → BoardIn wq (fun b => b < mb) B ubB mbB L) := fun wq k => by
    have h0 := HWM.out
    have h1 := HBO.out
    have hb : BoardIn w6 (fun b => b < mb) B ubB mbB L := by
      refine ⟨⟨ca, cc, ?_, fun hl => ?_⟩, by rw [HN.out]; omega, fun i x hx => (HVC.out x (List.mem_of_getElem? hx)).1, rise_of HST.out⟩
      · rw [HN.out, HW.out]; exact HBM.out
      · obtain ⟨b, e1, _, e3, e4⟩ := HCA4.out w6 HK46.out (by rw [← HN.out]; exact hl)
        exact ⟨b, 0, e1, e4, e3⟩
    exact hb.kp k (fun e => by rcases e with e | e <;> omega) (fun e => by rcases e with e | e <;> omega) (fun e => by rcases e with e | e <;> omega) (fun b hb e => by rcases e with e | e <;> omega)
  have HLI : Hid (∀ wq, Kp w6 wq (fun i => i = mb ∨ i = ud) → LinksIn wq F l us n) := fun wq k => HL.out.kp (((HK2.out.trans HK24.out).trans HK46.out).of_nul.trans k) (fun b hb e => by have := HFl.out b hb; have := HWM.out; have := HBO.out; rcases e with e | e <;> omega)
  have HTB : Hid (∀ wq, Kp w6 wq (fun i => i = mb ∨ i = ud) → Tab wq) := fun wq k => HT.out.kp (((HK2.out.trans HK24.out).trans HK46.out).of_nul.trans k) (fun e => by
    have h2 := HT.out 0 (by omega)
    have := cell_lt h2
    have := HWM.out; have := HBO.out
    rcases e with e | e <;> omega)
  have HBl : Hid (∀ wq, Kp w6 wq (fun i => i = mb ∨ i = ud) → (Blk wq (mb + 1) (upL mb W N N) 84 ∧ Blk wq wp [.slice ca N cc, .slice (some ⟨mb + 1, 0, none⟩) N N] 88 ∧ Blk wq (wp + 1) [.pointer (some ⟨wp, 0, none⟩)] 81) ∧ (0 < N → ∃ b, ca = some ⟨b, 0, none⟩ ∧ w.heap.size ≤ b ∧ CellsAt wq b 0 L)) := fun wq k => by
    have h0 := HWM.out
    have h1 := HBO.out
    refine ⟨⟨(HU4.out.kp HK46.out (fun x => x)).kp k (fun e => by rcases e with e | e <;> omega), (HWP.out.kp HK46.out (fun x => x)).kp k (fun e => by rcases e with e | e <;> omega), (HWV.out.kp HK46.out (fun x => x)).kp k (fun e => by rcases e with e | e <;> omega)⟩, fun hp => ?_⟩
    obtain ⟨b, e1, e2, e3, e4⟩ := HCA4.out w6 HK46.out hp
    exact ⟨b, e1, e2, e4.kp k (fun e => by rcases e with e | e <;> omega)⟩
  have HR0 : Hid (WebR w6 L us mb ud 0 w6) := by
    refine ⟨?_, ⟨fun _ => false, by rw [HN.out, HW.out]; exact bud⟩, Kp.refl _ _⟩
    have e : usrU L us 0 = fun _ _ => false := by funext p q; unfold usrU; simp
    rw [e, HN.out, HW.out]
    exact HM4.out.kp HK46.out (fun x => x)
  clear hw6 k56 bud hbm hbo hk5 hcs hud HNB HNM HM4 HU4 HWP HWV
  go_upto_region 6 with fail
  refine wp_loop_g (fun nn a wr => ∃ (k : Nat) (Ds : List Nat) (u7 u8 u10 u11 u34 u35 u36 u37 u38 u39 u40 u41 u42 u43 u44 u45 u46 u47 u48 u49 u50 u51 u52 u53 u54 u55 u56 u57 u58 u59 u60 u61 u62 u63 u64 u65 u66 u67 u68 u69 : Value), (nn = N - k ∧ k ≤ N ∧ WebR w6 L us mb ud k wr ∧ Dfs (ud + 1) Ds wr) ∧ a = { tmps := #[Value.pointer (some ⟨l, 0, none⟩), undef, Value.pointer none, Value.slice ca N cc, Value.pointer (some ⟨wp + 1, 0, none⟩), Value.pointer (some ⟨B, 0, none⟩), Value.slice (some ⟨ud, 0, none⟩) W W, u7, u8, undef, u10, u11, Value.pointer (some ⟨l, 0, none⟩), Value.pointer (some ⟨l, 0, none⟩), Value.pointer (some ⟨l, 0, none⟩), Value.map mv, Value.func (.func 112) #[] #[.pointer (some ⟨w.heap.size, 0, none⟩)], Value.slice ca N cc, Value.slice ca N cc, Value.slice ca N cc, Value.int .i64 (N : Int), Value.slice ca N cc, Value.int .i64 (N : Int), Value.slice (some ⟨mb + 1, 0, none⟩) N N, Value.agg #[.slice ca N cc, .slice (some ⟨mb + 1, 0, none⟩) N N], Value.pointer (some ⟨wp, 0, none⟩), Value.slice ca N cc, Value.pointer (some ⟨B, 0, none⟩), Value.slice ca N cc, Value.int .i64 (N : Int), Value.slice (some ⟨ud, 0, none⟩) W W, Value.slice ca N cc, Value.int .i64 (N : Int), Value.int .i64 (k : Int), u34, u35, u36, u37, u38, u39, u40, u41, u42, u43, u44, u45, u46, u47, u48, u49, u50, u51, u52, u53, u54, u55, u56, u57, u58, u59, u60, u61, u62, u63, u64, u65, u66, u67, u68, u69], defers := Ds.map mkD }) N ⟨0, [], _, _, _, _, _, _, _, _, _, _, _, _, _, _, _, _, _, _, _, _, _, _, _, _, _, _, _, _, _, _, _, _, _, _, _, _, _, _, _, _, ⟨by omega, Nat.zero_le _, HR0.out, Dfs.nil _ _⟩, rfl⟩ ?_
  · clear HR0
    rintro nn a wr K ⟨k, Ds, u7, u8, u10, u11, u34, u35, u36, u37, u38, u39, u40, u41, u42, u43, u44, u45, u46, u47, u48, u49, u50, u51, u52, u53, u54, u55, u56, u57, u58, u59, u60, u61, u62, u63, u64, u65, u66, u67, u68, u69, ⟨hnn, hk, hR, hD⟩, rfl⟩ hK
    have HNN : Hid (nn = N - k) := hnn
    have HR : Hid (WebR w6 L us mb ud k wr) := hR
    have HDS : Hid (Dfs (ud + 1) Ds wr) := hD
    have HKK : Hid (∀ (k' : Nat) (Ds' : List Nat) (u7 u8 u10 u11 u34 u35 u36 u37 u38 u39 u40 u41 u42 u43 u44 u45 u46 u47 u48 u49 u50 u51 u52 u53 u54 u55 u56 u57 u58 u59 u60 u61 u62 u63 u64 u65 u66 u67 u68 u69 : Value) (wq : World), N - k' < nn → k' ≤ N → WebR w6 L us mb ud k' wq → Dfs (ud + 1) Ds' wq → K { tmps := #[Value.pointer (some ⟨l, 0, none⟩), undef, Value.pointer none, Value.slice ca N cc, Value.pointer (some ⟨wp + 1, 0, none⟩), Value.pointer (some ⟨B, 0, none⟩), Value.slice (some ⟨ud, 0, none⟩) W W, u7, u8, undef, u10, u11, Value.pointer (some ⟨l, 0, none⟩), Value.pointer (some ⟨l, 0, none⟩), Value.pointer (some ⟨l, 0, none⟩), Value.map mv, Value.func (.func 112) #[] #[.pointer (some ⟨w.heap.size, 0, none⟩)], Value.slice ca N cc, Value.slice ca N cc, Value.slice ca N cc, Value.int .i64 (N : Int), Value.slice ca N cc, Value.int .i64 (N : Int), Value.slice (some ⟨mb + 1, 0, none⟩) N N, Value.agg #[.slice ca N cc, .slice (some ⟨mb + 1, 0, none⟩) N N], Value.pointer (some ⟨wp, 0, none⟩), Value.slice ca N cc, Value.pointer (some ⟨B, 0, none⟩), Value.slice ca N cc, Value.int .i64 (N : Int), Value.slice (some ⟨ud, 0, none⟩) W W, Value.slice ca N cc, Value.int .i64 (N : Int), Value.int .i64 (k' : Int), u34, u35, u36, u37, u38, u39, u40, u41, u42, u43, u44, u45, u46, u47, u48, u49, u50, u51, u52, u53, u54, u55, u56, u57, u58, u59, u60, u61, u62, u63, u64, u65, u66, u67, u68, u69], defers := Ds'.map mkD } wq) := fun k' Ds' u7 u8 u10 u11 u34 u35 u36 u37 u38 u39 u40 u41 u42 u43 u44 u45 u46 u47 u48 u49 u50 u51 u52 u53 u54 u55 u56 u57 u58 u59 u60 u61 u62 u63 u64 u65 u66 u67 u68 u69 wq h1 h2 h3 h4 => hK.out (N - k') _ _ h1 ⟨k', Ds', u7, u8, u10, u11, u34, u35, u36, u37, u38, u39, u40, u41, u42, u43, u44, u45, u46, u47, u48, u49, u50, u51, u52, u53, u54, u55, u56, u57, u58, u59, u60, u61, u62, u63, u64, u65, u66, u67, u68, u69, ⟨rfl, h2, h3, h4⟩, rfl⟩
    clear hR hD hK hnn
    by_cases hlt : k < N
    · have hki : (k : Int) < (N : Int) := by omega
      have hk0 : (0 : Int) ≤ (k : Int) := by omega
      obtain ⟨cb, rfl, hcb, hcl⟩ := (HBl.out wr HR.out.kp).2 (by omega)
      obtain ⟨⟨x1, x2⟩, hx⟩ : ∃ x, L[k]? = some x := ⟨_, List.getElem?_eq_getElem (by rw [HN.out]; exact hlt)⟩
      obtain ⟨c1, c2⟩ := hcl k _ hx
      have HX : Hid (L[k]? = some (x1, x2)) := hx
      rw [Nat.zero_add] at c1 c2
      clear hcl hx
      go_upto_region 8 with fail
      obtain ⟨x0, hx0⟩ : ∃ x0, wr.heap.size = x0 := ⟨_, rfl⟩
      obtain ⟨w7, hw7⟩ : ∃ w7, (wr.alloc (.cells #[.int .i64 (k : Int)] 3)).alloc (.cells #[.int .i64 x1, .int .i64 x2] 29) = w7 := ⟨_, rfl⟩
      have k7 : Kp wr w7 Nul := by rw [← hw7]; exact ((Kp.refl wr Nul).alloc _).alloc _
      have bu7 : Blk w7 x0 [.int .i64 (k : Int)] 3 := by rw [← hw7]; exact (Blk.at_ hx0 _ _).alloc _
      have ba7 : Blk w7 (x0 + 1) [.int .i64 x1, .int .i64 x2] 29 := by rw [← hw7]; exact Blk.at_ (by rw [World.size_alloc, hx0]) _ _
      rw [hw7, hx0]
      have hxl : ud < x0 := by rw [← hx0]; have := HR.out.kp.size; have := HBO.out; omega
      have HXL : Hid (ud < x0 ∧ x0 = wr.heap.size) := ⟨hxl, hx0.symm⟩
      have hWp : 0 < W := by have := HW.out; omega
      obtain ⟨M0, hM0⟩ := HR.out.u
      rw [HN.out, HW.out] at hM0
      obtain ⟨w8, hclr, hud8, hk8⟩ := clear_marks (c := W) (hM0.kp k7 (fun x => x)) hWp
      have k78 : Kp wr w8 (fun i => i = ud) := k7.of_nul.trans hk8
      have HUD8 : Hid (Blk w8 ud (wds (fun _ => false) W) 122) := hud8
      have HK8 : Hid (Kp wr w8 (fun i => i = ud)) := k78
      have HBU8 : Hid (Blk w8 x0 [.int .i64 (k : Int)] 3) := bu7.kp hk8 (fun e => by have e' : x0 = ud := e; omega)
      have ba8 : Blk w8 (x0 + 1) [.int .i64 x1, .int .i64 x2] 29 := ba7.kp hk8 (fun e => by have e' : x0 + 1 = ud := e; omega)
      have HK68 : Hid (Kp w6 w8 (fun i => i = mb ∨ i = ud)) := HR.out.kp.trans' k78 (fun i _ e => .inr e)
      have hvx := HVC.out (x1, x2) (List.mem_of_getElem? HX.out)
      obtain ⟨mv2, va, hlk, har⟩ := lk_of (HLI.out w8 HK68.out) hvx.i64.1 hvx.i64.2
      obtain ⟨al, hal⟩ : ∃ al, us (x1, x2) = some al := Option.isSome_iff_exists.1 ((HMEM.out _).1 (List.mem_of_getElem? HX.out))
      have HAL : Hid (us (x1, x2) = some al) := hal
      rw [hal, Option.getD_some] at har
      obtain ⟨av, acap, rfl, hac1, hac2, hare⟩ := har
      have HOKS : Hid ((∀ a ∈ al, a.ok) ∧ al.length ≤ 256) := HL.out.oks2 hal
      have HARE : Hid (0 < al.length → ∃ b o, av = some ⟨b, o, none⟩ ∧ F b ∧ AreasAt w8 b o al) := hare
      have d1 : w8.cell? ⟨l, 0, none⟩ = some (.map mv2) := hlk.cell.cell rfl
      have d2 : w8.cell? ⟨x0 + 1, 0, none⟩ = some (.int .i64 x1) := ba8.cell rfl
      have d3 : w8.cell? ⟨x0 + 1, 1, none⟩ = some (.int .i64 x2) := ba8.cell rfl
      have hlook := fun m => hlk.one (w8.drewN m) (fun _ _ => rfl)
      clear hw7 k7 bu7 ba7 hxl hM0 hud8 hk8 k78 ba8 hvx hlk hal hare hac1 hac2 hx0
      go_upto_region 9 with fail
      obtain ⟨an, han⟩ : ∃ an, al.length = an := ⟨_, rfl⟩
      have HAN : Hid (al.length = an) := han
      simp only [han] at hlook
      clear han
      go_quiet (fail)
      obtain ⟨w9, hw9⟩ : ∃ w9, w8.drewN nq = w9 := ⟨_, rfl⟩
      have k89 : Kp w8 w9 Nul := by rw [← hw9]; exact (Kp.refl w8 Nul).drewN nq
      rw [hw9]
      have HUD9 : Hid (Blk w9 ud (wds (ussA L al 0) W) 122) := by show Blk _ _ _ _; rw [ussA_zero]; exact HUD8.out.kp k89 (fun x => x)
      have HK69 : Hid (Kp w6 w9 (fun i => i = mb ∨ i = ud)) := HK68.out.trans k89.of_nul
      have HKr9 : Hid (Kp wr w9 (fun i => i = ud)) := HK8.out.trans k89.of_nul
      have HBU9 : Hid (Blk w9 x0 [.int .i64 (k : Int)] 3) := HBU8.out.kp k89 (fun x => x)
      have HAR9 : Hid (∀ wq, Kp w9 wq (fun i => i = mb ∨ i = ud) → 0 < an → ∃ b o, av = some ⟨b, o, none⟩ ∧ AreasAt wq b o al) := fun wq g h0 => by
        obtain ⟨b, o, e1, e2, e3⟩ := HARE.out (by rw [HAN.out]; exact h0)
        have := HFl.out b e2
        exact ⟨b, o, e1, (e3.kp k89 (fun x => x)).kp g (fun e => by have := HWM.out; have := HBO.out; rcases e with e | e <;> omega)⟩
      clear hw9 k89 HUD8 HBU8 d1 d2 d3 hlook HARE HK8
      generalize wr = wo at *
      go_wp2_with fail
      go_loopw [46] (fun i wq => ∃ j : Nat, i = .int .i64 (j : Int) ∧ j ≤ an ∧ Blk wq ud (wds (ussA L al j) W) 122 ∧ Kp w9 wq (fun i => i = ud)) (fun i _ => an - (intOf i).toNat)
      case atStart => exact ⟨0, rfl, Nat.zero_le _, HUD9.out, Kp.refl _ _⟩
      case round =>
        clear HUD9
        obtain ⟨j, rfl, hj, hbj, hkj⟩ := hrel
        have HBJ : Hid (Blk wr ud (wds (ussA L al j) W) 122) := hbj
        have HKJ : Hid (Kp w9 wr (fun i => i = ud)) := hkj
        clear hbj hkj
        by_cases hja : j < an
        · have hji : (j : Int) < (an : Int) := by omega
          have hj0 : (0 : Int) ≤ (j : Int) := by omega
          have hk9j : Kp w9 wr (fun i => i = mb ∨ i = ud) := HKJ.out.mono (fun i _ e => .inr e)
          obtain ⟨ab, ao, rfl, haa⟩ := HAR9.out wr hk9j (by omega)
          obtain ⟨a, ha⟩ : ∃ a, al[j]? = some a := ⟨_, List.getElem?_eq_getElem (by rw [HAN.out]; exact hja)⟩
          have HA : Hid (al[j]? = some a) := ha
          have hok := HOKS.out.1 a (List.mem_of_getElem? ha)
          obtain ⟨p0, p1, p2, p3⟩ := haa j a ha
          obtain ⟨a1, a2, a3, a4⟩ := a
          obtain ⟨q1, q2, q3, q4, q5, q6⟩ := hok
          simp only at q1 q2 q3 q4 q5 q6 p0 p1 p2 p3
          obtain ⟨la, hla⟩ : ∃ la : Nat, a1 = (la : Int) + 1 := ⟨(a1 - 1).toNat, by omega⟩
          obtain ⟨ra, hra⟩ : ∃ ra : Nat, a3 = (ra : Int) := ⟨a3.toNat, by omega⟩
          subst hla hra
          have HPc : Hid (∀ wq, Kp wr wq Nul → Calls Tryz.prog 89 #[.pointer (some ⟨B, 0, none⟩), .agg #[.int .i64 ((la : Int) + 1), .int .i64 a2, .int .i64 (ra : Int), .int .i64 a4]] wq fun e w' => ∃ fr tq : Nat, e = .returned (pcV fr tq mbB W la ra) ∧ AheadIs L a2 fr ∧ AheadIs L (a4 + 1) tq ∧ Gr wq w') := fun wq g => by
            have := piece_at (fun b => b < mb) B ubB mbB L la ra a2 a4 wq (HBI.out wq (HK69.out.trans (hk9j.trans g.of_nul))) (by omega) (by omega) (by omega) (by omega) (by omega)
            rw [HN.out, HW.out] at this
            exact this
          have HLa : Hid (la < 257 ∧ ra < 257) := ⟨by omega, by omega⟩
          have HK9J : Hid (Kp w9 wr (fun i => i = mb ∨ i = ud)) := hk9j
          clear ha haa q1 q2 q3 q4 q5 q6 hk9j
          go_wp2_with (first
            | (go_at_call 89; refine (HPc.out _ ((Kp.refl _ _).alloc _)).mono ?_; rintro e w10 ⟨fr, tq, rfl, hfr, hto, hg10⟩)
            | fail)
          have k10 : Kp wr w10 Nul := ((Kp.refl wr Nul).alloc _).trans (Kp.of_gr hg10)
          have K10 : Hid (Kp wr w10 Nul) := k10
          have hbm := HBM.out.kp (HK69.out.trans (HK9J.out.trans k10.of_nul)) (fun e => by have := HWM.out; have := HBO.out; rcases e with e | e <;> omega) (fun e => by have := HWM.out; have := HBO.out; rcases e with e | e <;> omega) (fun e => by have := HWM.out; have := HBO.out; rcases e with e | e <;> omega)
          have HAdd : Hid (Calls Tryz.prog 93 #[pcV fr tq mbB W la ra, .slice (some ⟨ud, 0, none⟩) W W] w10 fun e w' => e = .returned (.tuple #[]) ∧ Blk w' ud (wds (ussA L al (j + 1)) W) 122 ∧ Kp w10 w' (fun i => i = ud)) := by
            have hf1 := hfr.1
            have hf2 := hto.1
            have hW := HW.out
            rw [HN.out] at hf1 hf2
            have := addTo_at fr tq mbB (la * W) ((257 - la) * W) mbB (ra * W) ((257 - ra) * W) ud W W (colTo L la) (colTo L ra) (ussA L al j) w10 (by omega) (by omega) (by omega) (row_marks hbm HLa.out.1) (row_marks hbm HLa.out.2) (HBJ.out.kp k10 (fun x => x)) (fun e => by have := HBO.out; omega) (fun e => by have := HBO.out; omega)
            rw [ussA_succ HA.out]
            rw [show (fun q => ussA L al j q || inPl L ⟨(la : Int) + 1, a2, (ra : Int), a4⟩ q) = fun q => ussA L al j q || pcSet fr tq (colTo L la) (colTo L ra) q by
              funext q
              rw [pc_area (a := ⟨(la : Int) + 1, a2, (ra : Int), a4⟩) rfl rfl hfr hto q]]
            exact this
          clear hfr hto hg10 k10 hbm HPc p0 p1 p2 p3
          refine HAdd.out.mono ?_
          rintro e w11 ⟨rfl, hb11, hk11⟩
          have hk9 : Kp w9 w11 (fun i => i = ud) := HKJ.out.trans (K10.out.of_nul.trans hk11)
          have HEND : Hid (∃ j' : Nat, Value.int .i64 ((j : Int) + 1) = .int .i64 (j' : Int) ∧ j' ≤ an ∧ Blk w11 ud (wds (ussA L al j') W) 122 ∧ Kp w9 w11 (fun i => i = ud)) := ⟨j + 1, by push_cast; rfl, by omega, hb11, hk9⟩
          have hwj : wrap64 ((j : Int) + 1) = (j : Int) + 1 := by unfold wrap64; have := HOKS.out.2; have := HAN.out; omega
          clear hb11 hk11 hk9 HAdd
          go_wp2_with fail
          go_roundw
          case rel => rw [hwj]; exact HEND.out
          case measure => rw [hwj]; simp only [intOf]; omega
        · have hja2 : j = an := by omega
          have HJA : Hid (j = an) := hja2
          have hji : ¬ (j : Int) < (an : Int) := by omega
          have HUse : Hid (∀ p, ussA L al j p = useP L us k p) := fun p => by
            unfold ussA useP
            rw [HJA.out, ← HAN.out, List.take_length, HX.out]
            simp only [HAL.out, Option.getD_some]
          clear hja2
          go_wp2_with (go_at_call 58; refine (all_at _ _ _ _).mono ?_; rintro e wz ⟨rfl, hz⟩; subst hz)
          obtain ⟨mx, hmx⟩ : ∃ mx, wr.heap.size = mx := ⟨_, rfl⟩
          obtain ⟨w12, hw12⟩ : ∃ w12, wr.alloc (.cells #[.slice (some ⟨ud, 0, none⟩) W W] 84) = w12 := ⟨_, rfl⟩
          have k12 : Kp wr w12 Nul := by rw [← hw12]; exact (Kp.refl wr Nul).alloc _
          have bmx : Blk w12 mx [.slice (some ⟨ud, 0, none⟩) W W] 84 := by rw [← hw12]; exact Blk.at_ hmx _ _
          have s12 : w12.heap.size = mx + 1 := by rw [← hw12, World.size_alloc, hmx]
          rw [hw12, hmx]
          have hK9 : Kp w9 w12 (fun i => i = ud) := HKJ.out.trans k12.of_nul
          have hKw : Kp w6 w12 (fun i => i = mb ∨ i = ud) := HK69.out.trans (hK9.mono (fun _ _ e => .inr e))
          have hKo : Kp wo w12 (fun i => i = ud) := HKr9.out.trans hK9
          have HK12 : Hid (Kp w6 w12 (fun i => i = mb ∨ i = ud)) := hKw
          have HKo : Hid (Kp wo w12 (fun i => i = ud)) := hKo
          have HMX : Hid (Blk w12 mx [.slice (some ⟨ud, 0, none⟩) W W] 84) := bmx
          have HUD : Hid (Blk w12 ud (wds (ussA L al j) W) 122) := HBJ.out.kp k12 (fun x => x)
          have hmb12 := HR.out.m
          rw [HN.out, HW.out] at hmb12
          have HMB : Hid (Blk w12 mb (memL (usrM L us k []) W N) 122) := by
            show Blk _ _ _ _
            rw [usrM_nil]
            exact hmb12.kp hKo (fun e => by have e' : mb = ud := e; have := HWM.out; have := HBO.out; omega)
          have HBU : Hid (Blk w12 x0 [.int .i64 (k : Int)] 3) := HBU9.out.kp hK9 (fun e => by have e' : x0 = ud := e; have := HXL.out; omega)
          have HS12 : Hid (w12.heap.size = mx + 1 ∧ x0 < mx ∧ ud < x0 ∧ mb < ud) := by
            have h1 := HXL.out.1
            have h2 := HBU9.out.lt
            have h3 := HKJ.out.size
            have := HWM.out; have := HBO.out
            exact ⟨s12, by omega, h1, by omega⟩
          clear hw12 k12 bmx s12 hK9 hKw hKo hmx hmb12 HBJ HKJ HKr9 HBU9
          generalize hact : Act.mk _ _ = a0
          refine wp_range_all (gf := 95) (lb := #[.pointer (some ⟨mx, 0, none⟩)]) (by rw [← hact]; rfl) (enters_of Tryz.func95 (by kernel_rfl) rfl) (encs := encP (ussA L al j) W) (fun _ => rfl) (AllM mx (some ⟨ud, 0, none⟩) ud 0 W W (ussA L al j)) (all1_seq (ussA L al j) mx (some ⟨ud, 0, none⟩) ud 0 W W (by have := HW.out; omega) w12)
            (fun t V => Blk V mb (memL (usrM L us k ((pl (ussA L al j) (64 * W)).take t)) W N) 122 ∧ Kp w12 V (fun i => i = mb)) (fun _ _ => False) ?hM ?hI (fun _ _ _ q _ => q) ?h0 ?hround ?hdone (fun _ _ _ _ q => q.elim)
          case hM =>
            rintro t V ⟨_, hk⟩
            have h1 := HS12.out
            refine ⟨(HMX.out.kp hk (fun e => by have e' : mx = mb := e; omega)).cell rfl, fun _ => ⟨rfl, MarksAt.of_blk (HUD.out.kp hk (fun e => by have e' : ud = mb := e; omega)) (Nat.le_refl _)⟩, HTB.out V (HK12.out.trans (hk.mono (fun _ _ e => .inl e)))⟩
          case hI =>
            rintro t V V' ⟨hb, hk⟩ q
            have h1 := HS12.out
            exact ⟨hb.kp q (fun e => by rcases e with e | e <;> omega), hk.trans' q (fun i hi e => by rcases e with e | e <;> omega)⟩
          case h0 => exact ⟨HMB.out, Kp.refl _ _⟩
          case hround =>
            subst hact
            rintro t V KK ht hsV ⟨hb, hk⟩ hcont
            obtain ⟨p, hp⟩ : ∃ p, (pl (ussA L al j) (64 * W))[t]? = some p := ⟨_, List.getElem?_eq_getElem ht⟩
            have hpM : ussA L al j p = true := (mem_pl.1 (List.mem_of_getElem? hp)).2
            have hpN : p < N := by
              rw [HUse.out] at hpM
              have := useP_lt hpM
              rw [← HN.out]; exact this
            have HPT : Hid ((pl (ussA L al j) (64 * W)).take (t + 1) = (pl (ussA L al j) (64 * W)).take t ++ [p]) := by
              show _ = _
              rw [List.take_add_one, hp]; rfl
            have henc : encP (ussA L al j) W t = #[.int .i64 (p : Int)] := by unfold encP; rw [List.getD_eq_getElem?_getD, hp]; rfl
            rw [henc]
            have HB : Hid (Blk V mb (memL (usrM L us k ((pl (ussA L al j) (64 * W)).take t)) W N) 122) := hb
            have HKV : Hid (Kp w12 V (fun i => i = mb)) := hk
            clear hb hk hp hpM henc ht
            simp only [List.zip_toArray, List.zip_cons_cons, List.zip_nil_right, List.foldl_toArray', List.foldl_cons, List.foldl_nil]
            gi_wp2_with (fail)
            refine hcont _ _ (Kp.refl _ _) (fun X hX hloop hdef => ?_)
            have hVX : Kp w12 X (fun i => i = mb) := HKV.out.trans' hX (fun i hi e => by have e' : i = w12.heap.size + 1 := e; omega)
            have HVX : Hid (Kp w12 X (fun i => i = mb)) := hVX
            have h6X : Kp w6 X (fun i => i = mb ∨ i = ud) := HK12.out.trans (hVX.mono (fun _ _ e => .inl e))
            obtain ⟨⟨bu, bwp, bwv⟩, _⟩ := HBl.out X h6X
            have HBX : Hid (Blk X mb (memL (usrM L us k ((pl (ussA L al j) (64 * W)).take t)) W N) 122) := HB.out.kp hX (fun e => by have e' : mb = w12.heap.size + 1 := e; have := HS12.out; omega)
            have HSD : Hid (w12.heap.size + 2 ≤ X.heap.size) := Nat.le_trans hsV hX.size
            have HC : Hid (∀ w', Kp X w' (fun i => i = mb) → w'.cell? ⟨wp + 1, 0, none⟩ = some (.pointer (some ⟨wp, 0, none⟩)) ∧ w'.cell? ⟨wp, 1, none⟩ = some (.slice (some ⟨mb + 1, 0, none⟩) N N) ∧ w'.cell? ⟨mb + 1, p, none⟩ = some (.slice (some ⟨mb, p * W, none⟩) W ((N - p) * W)) ∧ w'.cell? ⟨x0, 0, none⟩ = some (.int .i64 (k : Int))) := fun w' g => by
              have h1 := HWM.out; have h2 := HS12.out
              refine ⟨(bwv.kp g (fun e => by have e' : wp + 1 = mb := e; omega)).cell rfl, (bwp.kp g (fun e => by have e' : wp = mb := e; omega)).cell rfl, (bu.kp g (fun e => by have e' : mb + 1 = mb := e; omega)).cell (by rw [upL_get hpN, if_pos hpN]), ?_⟩
              exact ((HBU.out.kp hVX (fun e => by have e' : x0 = mb := e; omega)).kp g (fun e => by have e' : x0 = mb := e; omega)).cell rfl
            have hpi : (p : Int) < (N : Int) := by omega
            have hp0 : (0 : Int) ≤ (p : Int) := by omega
            obtain ⟨po, hpo⟩ : ∃ po, p * W = po := ⟨_, rfl⟩
            obtain ⟨pc, hpc⟩ : ∃ pc, (N - p) * W = pc := ⟨_, rfl⟩
            have HPut : Hid (∀ w', Kp X w' Nul → Calls Tryz.prog 57 #[.slice (some ⟨mb, po, none⟩) W pc, .int .i64 (k : Int)] w' fun e w2 => e = .returned (.tuple #[]) ∧ Blk w2 mb (memL (usrM L us k ((pl (ussA L al j) (64 * W)).take (t + 1))) W N) 122 ∧ Kp X w2 (fun i => i = mb)) := fun w' g => by
              have := put_mem mb W N p k pc (usrM L us k ((pl (ussA L al j) (64 * W)).take t)) w' hpN (by have := HW.out; omega) (by omega) (HBX.out.kp g (fun x => x))
              rw [hpo] at this
              refine this.mono ?_
              rintro e w2 ⟨rfl, h1, h2⟩
              rw [usrM_put, ← HPT.out] at h1
              exact ⟨rfl, h1, g.of_nul.trans h2⟩
            rw [hpo, hpc] at HC
            clear hcont hX hloop hdef hVX h6X bu bwp bwv hpo hpc hsV
            gi_wp2_with (fail)
            refine regIn_noPanic ?_
            refine regIn_held (fun w' : World => Kp X w' Nul ∨ (Blk w' mb (memL (usrM L us k ((pl (ussA L al j) (64 * W)).take (t + 1))) W N) 122 ∧ Kp X w' (fun i => i = mb))) (by kernel_rfl) (by kernel_rfl) (noPanic_lets (fun a w h => by rcases h with ⟨_, (⟨h, _⟩ | ⟨c, h, _⟩)⟩ <;> cases h)) (.inl ((Kp.refl _ _).drew)) (fun hHeld => ?_)
            refine wpH_takes (i := 0) (v := ?_) (some 59) rfl rfl (by kernel_rfl) (by kernel_rfl) (by kernel_rfl) (fun _ _ _ h => h) (Or.inl ⟨by rfl, ?_⟩) hHeld ?_
            rotate_left
            · intro w' hSw; obtain ⟨s0, s1, s2, s3⟩ := HC.out w' (hSw.elim (fun q => q.of_nul) (fun q => q.2)); clear hSw; go_simp; try with_reducible rfl
            simp only [Act.put, List.setIfInBounds_toArray, List.set_cons_zero, List.set_cons_succ]
            refine wpH_takes (i := 1) (v := ?_) (some 60) rfl rfl (by kernel_rfl) (by kernel_rfl) (by kernel_rfl) (fun _ _ _ h => h) (Or.inl ⟨by rfl, ?_⟩) hHeld ?_
            rotate_left
            · intro w' hSw; clear hSw; go_simp; try with_reducible rfl
            simp only [Act.put, List.setIfInBounds_toArray, List.set_cons_zero, List.set_cons_succ]
            refine wpH_takes (i := 2) (v := ?_) (some 61) rfl rfl (by kernel_rfl) (by kernel_rfl) (by kernel_rfl) (fun _ _ _ h => h) (Or.inl ⟨by rfl, ?_⟩) hHeld ?_
            rotate_left
            · intro w' hSw; clear hSw; go_simp; try with_reducible rfl
            simp only [Act.put, List.setIfInBounds_toArray, List.set_cons_zero, List.set_cons_succ]
            refine wpH_takes (i := 3) (v := ?_) (some 62) rfl rfl (by kernel_rfl) (by kernel_rfl) (by kernel_rfl) (fun _ _ _ h => h) (Or.inl ⟨by rfl, ?_⟩) hHeld ?_
            rotate_left
            · intro w' hSw; obtain ⟨s0, s1, s2, s3⟩ := HC.out w' (hSw.elim (fun q => q.of_nul) (fun q => q.2)); clear hSw; go_simp; try with_reducible rfl
            simp only [Act.put, List.setIfInBounds_toArray, List.set_cons_zero, List.set_cons_succ]
            refine wpH_takes (i := 4) (v := ?_) (some 63) rfl rfl (by kernel_rfl) (by kernel_rfl) (by kernel_rfl) (fun _ _ _ h => h) (Or.inl ⟨by rfl, ?_⟩) hHeld ?_
            rotate_left
            · intro w' hSw; clear hSw; go_simp; try with_reducible rfl
            simp only [Act.put, List.setIfInBounds_toArray, List.set_cons_zero, List.set_cons_succ]
            refine wpH_takes (i := 5) (v := ?_) (some 64) rfl rfl (by kernel_rfl) (by kernel_rfl) (by kernel_rfl) (fun _ _ _ h => h) (Or.inl ⟨by rfl, ?_⟩) hHeld ?_
            rotate_left
            · intro w' hSw; clear hSw; go_simp; try with_reducible rfl
            simp only [Act.put, List.setIfInBounds_toArray, List.set_cons_zero, List.set_cons_succ]
            refine wpH_takes (i := 6) (v := ?_) (some 65) rfl rfl (by kernel_rfl) (by kernel_rfl) (by kernel_rfl) (fun _ _ _ h => h) (Or.inl ⟨by rfl, ?_⟩) hHeld ?_
            rotate_left
            · intro w' hSw; obtain ⟨s0, s1, s2, s3⟩ := HC.out w' (hSw.elim (fun q => q.of_nul) (fun q => q.2)); clear hSw; go_simp; try with_reducible rfl
            simp only [Act.put, List.setIfInBounds_toArray, List.set_cons_zero, List.set_cons_succ]
            refine wpH_takes (i := 7) (v := ?_) (some 66) rfl rfl (by kernel_rfl) (by kernel_rfl) (by kernel_rfl) (fun _ _ _ h => h) (Or.inl ⟨by rfl, ?_⟩) hHeld ?_
            rotate_left
            · intro w' hSw; obtain ⟨s0, s1, s2, s3⟩ := HC.out w' (hSw.elim (fun q => q.of_nul) (fun q => q.2)); clear hSw; go_simp; try with_reducible rfl
            simp only [Act.put, List.setIfInBounds_toArray, List.set_cons_zero, List.set_cons_succ]
            refine wpH_step (i := 8) (by kernel_rfl) rfl rfl (fun K hK => ?_)
            go_simp
            refine (HPut.out _ (Kp.refl _ _).drew).mono ?_
            rintro e Y ⟨rfl, hbY, hkY⟩
            refine hK.out _ _ (.inr ⟨hbY, hkY⟩) (fun _ => ?_)
            clear hK K hHeld
            (try simp only [Act.put, List.setIfInBounds_toArray, List.set_cons_zero, List.set_cons_succ])
            refine wpAnyH_done (by kernel_rfl) ?_ _
            refine NoPanic.normal ?_
            have hKX : Kp X Y (fun i => i = mb) := hkY
            have HEND : Hid (Own2 w12.heap.size X Y ∧ (Blk Y mb (memL (usrM L us k ((pl (ussA L al j) (64 * W)).take (t + 1))) W N) 122 ∧ Kp w12 Y (fun i => i = mb))) := ⟨Own2.of_kp hkY (by have := HSD.out; omega) (fun e => by have e' : w12.heap.size = mb := e; have := HS12.out; omega) (fun e => by have e' : w12.heap.size + 1 = mb := e; have := HS12.out; omega), hbY, HVX.out.trans hkY⟩
            clear hbY hkY hKX
            gi_wp2_with (fail)
            exact HEND.out
          case hdone =>
            subst hact
            rintro D V hD ⟨hb, hk⟩ hdef
            rw [List.take_length, usrM_all (fun p => by
              rw [mem_pl, ← HUse.out]
              constructor
              · exact fun q => q.2
              · intro q
                refine ⟨?_, q⟩
                have := useP_lt (HUse.out p ▸ q)
                have := HN.out
                have := HW.out
                omega)] at hb
            have HRk : Hid (WebR w6 L us mb ud (k + 1) V) := ⟨by rw [HN.out, HW.out]; exact hb, ⟨_, by rw [HN.out, HW.out]; exact HUD.out.kp hk (fun e => by have e' : ud = mb := e; have := HS12.out; omega)⟩, HK12.out.trans (hk.mono (fun _ _ e => .inl e))⟩
            have HDk : Hid (Dfs (ud + 1) (D :: Ds) V) := by
              have hDo := HDS.out
              have h1 : Dfs (ud + 1) Ds V := (hDo.kp HKo.out (fun i e => by have e' : i = ud := e; omega)).kp hk (fun i e => by have e' : i = mb := e; have := HS12.out; omega)
              refine h1.cons (by have := HS12.out; omega) hdef (fun hm => ?_)
              have h2 := (Array.getElem?_eq_some_iff.1 (hDo.at' D hm).2).1
              have := HKo.out.size
              omega
            have hwk : wrap64 ((k : Int) + 1) = (k : Int) + 1 := by unfold wrap64; omega
            clear hb hk hdef hD HMB HMX HUD
            go_wp2_with fail
            rw [show ((k : Int) + 1) = ((k + 1 : Nat) : Int) by push_cast; rfl]
            refine HKK.out (k + 1) (D :: Ds) _ _ _ _ _ _ _ _ _ _ _ _ _ _ _ _ _ _ _ _ _ _ _ _ _ _ _ _ _ _ _ _ _ _ _ _ _ _ _ _ _ (by have := HNN.out; omega) (by omega) HRk.out HDk.out
    · have hki : ¬ (k : Int) < (N : Int) := by omega
      have hkN : k = N := by omega
      have HKN : Hid (k = N) := hkN
      obtain ⟨⟨bu, bwp, bwv⟩, hcl⟩ := (HBl.out wr HR.out.kp)
      have c1 : wr.cell? ⟨wp + 1, 0, none⟩ = some (.pointer (some ⟨wp, 0, none⟩)) := bwv.cell rfl
      have HBu : Hid (Blk wr (mb + 1) (upL mb W N N) 84 ∧ Blk wr wp [.slice ca N cc, .slice (some ⟨mb + 1, 0, none⟩) N N] 88) := ⟨bu, bwp⟩
      have HCl : Hid (0 < N → ∃ b, ca = some ⟨b, 0, none⟩ ∧ w.heap.size ≤ b ∧ CellsAt wr b 0 L) := hcl
      clear hkN bu bwp bwv hcl
      go_wp2_with fail
      refine leaves_dfs HDS.out (fun W' gW0 => ?_)
      have gW : Kp _ W' (fun i => ud + 1 ≤ i) := gW0.mono (fun i _ e => (HDS.out.at' i e).1)
      refine ⟨_, results_tmp rfl _ _ _, L, wp, mb + 1, mb, ca, cc, rfl, ?_⟩
      have h0 := HWM.out
      have h1 := HBO.out
      have hm := HR.out.m
      rw [HKN.out] at hm
      have hu0 : usrU L us N = fun p q => useP L us q p := by
        funext p q
        unfold usrU
        cases h : useP L us q p with
        | false => rfl
        | true =>
          have : q < N := by
            rw [← HN.out]
            unfold useP at h
            cases hq : L[q]? with
            | none => rw [hq] at h; cases h
            | some x => exact (List.getElem?_eq_some_iff.1 hq).1
          simp [this]
      rw [hu0] at hm
      have kW : Kp w W' Nul := (((HK2.out.trans HK24.out).trans HK46.out).trans' HR.out.kp (fun i hi e => by rcases e with e | e <;> omega)).trans' gW (fun i hi e => by have e' : ud + 1 ≤ i := e; omega)
      refine ⟨HST.out, HMEM.out, by rw [HN.out]; exact HLEN.out.1, ⟨?_, ?_, hm.kp gW (fun e => by have e' : ud + 1 ≤ mb := e; omega), ⟨ca, cc, rfl⟩, ⟨?_, Nat.lt_succ_self _, by omega⟩, fun p q h => ?_, by rw [HN.out]; omega⟩, fun hp => ?_, ⟨by omega, by omega, by omega⟩, kW⟩
      · rw [HN.out]; exact HBu.out.2.kp gW (fun e => by have e' : ud + 1 ≤ wp := e; omega)
      · rw [HN.out, HW.out]; exact HBu.out.1.kp gW (fun e => by have e' : ud + 1 ≤ mb + 1 := e; omega)
      · have h2 := cell_lt (HT.out 0 (by omega))
        exact Nat.lt_of_lt_of_le h2 h0.1
      · unfold useP at h
        cases hq : L[q]? with
        | none => rw [hq] at h; cases h
        | some x => exact (List.getElem?_eq_some_iff.1 hq).1
      · obtain ⟨b, e1, e2, e3⟩ := HCl.out (by rw [← HN.out]; exact hp)
        subst e1
        refine ⟨b, rfl, e2, e3.kp gW (fun e => ?_)⟩
        have e' : ud + 1 ≤ b := e
        obtain ⟨b', q1, q2, q3, q4⟩ := HCA4.out w4 (Kp.refl _ _) (by rw [← HN.out]; exact hp)
        cases q1
        omega
end Go.Proofs.YtdlieecpckpemaaGreatDoor
namespace Go.Proofs.YtdlieecpckpemaaGreatDoor
open Go.RowKit
def UsR (U : Nat → Nat → Bool) (st : Nat → Nat) (p d n : Nat) (w : World) (i : Value) (wr : World) : Prop := ∃ k : Nat, i = .int .i64 (k : Int) ∧ k ≤ n ∧ wr = w ∧ ∀ q, q < k → ¬ (st q = d ∧ U q p = true)
set_option maxRecDepth 20000 in
set_option maxHeartbeats 4000000 in
theorem used_at (wp ub mb n sm p d r : Nat) (cells : Value) (U : Nat → Nat → Bool) (st : Nat → Nat) (w : World) (h : WebM w wp ub mb cells n U) (hs : Blk w sm (nums (fun q => (st q : Int)) n) 3) (hp : p < n) (hr : r < n) (hr1 : st r = d ∧ U r p = true) (hr2 : ∀ q, q < r → ¬ (st q = d ∧ U q p = true)) :
    Calls Tryz.prog 99 #[.pointer (some ⟨wp, 0, none⟩), .int .i64 (p : Int), .slice (some ⟨sm, 0, none⟩) n n, .int .i64 (d : Int)] w fun e w' => e = .returned (.int .i64 (r : Int)) ∧ w' = w := by
  obtain ⟨ca, cc, hcl⟩ := h.cl
  have c0 : w.cell? ⟨wp, 0, none⟩ = some (.slice ca n cc) := by have := h.bw.cell (i := 0) rfl; rw [hcl] at this; exact this
  have c1 : w.cell? ⟨wp, 1, none⟩ = some (.slice (some ⟨ub, 0, none⟩) n n) := h.bw.cell rfl
  have HS : Hid (∀ k, k < n → w.cell? ⟨sm, k, none⟩ = some (.int .i64 (st k : Int))) := fun k hk => hs.cell (nums_get hk)
  have HH : Hid (WebM w wp ub mb cells n U) := h
  have HR1 : Hid (st r = d ∧ U r p = true) := hr1
  have HR2 : Hid (∀ q, q < r → ¬ (st q = d ∧ U q p = true)) := hr2
  have HRN : Hid (r < n ∧ p < n ∧ n ≤ 4096) := ⟨hr, hp, h.le⟩
  clear h hs hr1 hr2 hcl hp hr
  go_enter Tryz.func99, Tryz.ntmps99
  go_wp2_with fail
  go_loopw [15] (fun i wr => UsR U st p d n w i wr) (fun i _ => n - (intOf i).toNat)
  case atStart => exact ⟨0, rfl, Nat.zero_le _, rfl, fun q hq => absurd hq (Nat.not_lt_zero _)⟩
  case round =>
    obtain ⟨k, rfl, hk, rfl, hno⟩ := hrel
    have HNO : Hid (∀ q, q < k → ¬ (st q = d ∧ U q p = true)) := hno
    have hkr : k ≤ r := by
      rcases Nat.lt_or_ge r k with c | c
      · exact absurd HR1.out (hno r c)
      · exact c
    have hkn : k < n := by have := HRN.out; omega
    have hki : (k : Int) < (n : Int) := by omega
    have hk0 : (0 : Int) ≤ (k : Int) := by omega
    have c2 := HS.out k hkn
    obtain ⟨hub, hma⟩ : wr.cell? ⟨ub, k, none⟩ = some (.slice (some ⟨mb, k * ((n + 63) / 64), none⟩) ((n + 63) / 64) ((n - k) * ((n + 63) / 64))) ∧ MarksAt wr mb (k * ((n + 63) / 64)) ((n + 63) / 64) (U k) := ⟨HH.out.bu.cell (by rw [upL_get hkn, if_pos hkn]), fun i hi => HH.out.bm.cell (memL_get hkn hi)⟩
    obtain ⟨uo, huo⟩ : ∃ uo, k * ((n + 63) / 64) = uo := ⟨_, rfl⟩
    obtain ⟨uc, huc⟩ : ∃ uc, (n - k) * ((n + 63) / 64) = uc := ⟨_, rfl⟩
    obtain ⟨W, hW⟩ : ∃ W, (n + 63) / 64 = W := ⟨_, rfl⟩
    rw [huo, huc, hW] at hub
    rw [huo, hW] at hma
    have HHas : Hid (Calls Tryz.prog 56 #[.slice (some ⟨mb, uo, none⟩) W uc, .int .i64 (p : Int)] wr fun e w' => e = .returned (.bool (U k p)) ∧ w' = wr) := mhas_at mb uo W uc p (U k) wr (by have := HRN.out; omega) (by have := HRN.out; omega) hma
    obtain ⟨sk, hsk⟩ : ∃ sk, st k = sk := ⟨_, rfl⟩
    have HSK : Hid (st k = sk) := hsk
    rw [hsk] at c2
    have HU : Hid (∃ x, U k p = x) := ⟨_, rfl⟩
    obtain ⟨ux, hux⟩ := HU.out
    have HUX : Hid (U k p = ux) := hux
    rw [hux] at HHas
    have hwk : wrap64 ((k : Int) + 1) = (k : Int) + 1 := by unfold wrap64; have := HRN.out; omega
    clear hno hma huo huc hW hsk HU hux hk
    by_cases he : sk = d
    · subst he
      cases ux with
      | true =>
        have hkre : k = r := by
          rcases Nat.lt_or_ge k r with c | c
          · exact absurd ⟨HSK.out, HUX.out⟩ (HR2.out k c)
          · omega
        subst hkre
        go_wp2_with (go_at_call 56; refine HHas.out.mono ?_; rintro e wz ⟨rfl, hz⟩; replace hz := hz.symm; subst hz)
        go_ret
        exact ⟨rfl, rfl⟩
      | false =>
        have HEND : Hid (UsR U st p sk n wr (.int .i64 ((k : Int) + 1)) wr) := ⟨k + 1, by push_cast; rfl, hkn, rfl, fun q hq => by
          by_cases e : q = k
          · subst e; rw [HUX.out]; simp
          · exact HNO.out q (by omega)⟩
        clear hkr
        go_wp2_with (go_at_call 56; refine HHas.out.mono ?_; rintro e wz ⟨rfl, hz⟩; replace hz := hz.symm; subst hz)
        go_roundw
        case rel => rw [hwk]; exact HEND.out
        case measure => rw [hwk]; simp only [intOf]; omega
    · have hei : ¬ ((sk : Int) = (d : Int)) := by omega
      have HEND : Hid (UsR U st p d n wr (.int .i64 ((k : Int) + 1)) wr) := ⟨k + 1, by push_cast; rfl, hkn, rfl, fun q hq => by
        by_cases e : q = k
        · subst e; rw [HSK.out]; exact fun h => he h.1
        · exact HNO.out q (by omega)⟩
      clear hkr
      go_wp2_with fail
      go_roundw
      case rel => rw [hwk]; exact HEND.out
      case measure => rw [hwk]; simp only [intOf]; omega
end Go.Proofs.YtdlieecpckpemaaGreatDoor
