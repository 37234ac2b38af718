/- Drop; Len; rest. -/
import Derived.Test.YtkgolfmnlbmmeaaZt
namespace Go.Proofs.Ytkgolfmnlbmmeaa
open Go.RowKit Go.Sort Go.Lib Go.Maps

/-- A cell is forgotten. -/
def delU (us : Int × Int → Option (List Ar)) (x : Int × Int) : Int × Int → Option (List Ar) := fun y => if y = x then none else us y
def cntD (us : Int × Int → Option (List Ar)) (x : Int × Int) (n : Nat) : Nat := if (us x).isSome then n - 1 else n
/-- What the map's delete makes. -/
theorem map_del {w w' : World} {F : Nat → Prop} {D : DataW Value} {us : Int × Int → Option (List Ar)} {n m : Nat} {x : Int × Int} (hown : w.ownsMap Try.prog 34 rawE m n D) (hm : MapHas w F D us n) (hown' : w'.ownsMap Try.prog 34 rawE m n (D.del (kl x.1 x.2))) (hk : Kp w w' (fun i => i = m)) (hi : I64 x.1 ∧ I64 x.2) :
    w'.ownsMap Try.prog 34 rawE m (cntD us x n) (D.del (kl x.1 x.2)) ∧ MapHas w' F (D.del (kl x.1 x.2)) (delU us x) (cntD us x n) := by
  have hkey := hm.keys x.1 x.2 hi.1 hi.2
  generalize hK : kl x.1 x.2 = K at *
  have hT := hown.tidy lawAddr
  have hsz : Maps.size (D.del K) = cntD us x n := by
    have h1 := size_del (k := K) hT
    rw [hkey, hm.size] at h1
    unfold cntD
    have e : us (x.1, x.2) = us x := rfl
    rw [e] at h1
    split at h1 <;> rename_i h2 <;> simp only [h2] <;> simp <;> omega
  have hne : ∀ c r, I64 c → I64 r → (c, r) ≠ x → kl c r ≠ K := fun c r hc hr h e => by
    rw [← hK] at e
    have := kl_inj hc hr hi.1 hi.2 e
    exact h (Prod.ext this.1 this.2)
  refine ⟨by rw [← hsz]; exact ownsMap_tight hown', hsz, fun c r hc hr => ?_, fun c r al' hu => ?_, fun y al' hu => ?_, fun y al' hu => ?_⟩
  · unfold delU
    by_cases e : (c, r) = x
    · subst e
      simp only at hK
      rw [hK, has_del_same, if_pos rfl]; rfl
    · rw [has_del_other (hne c r hc hr e), hm.keys c r hc hr, if_neg e]
  · unfold delU at hu
    by_cases e : (c, r) = x
    · rw [if_pos e] at hu; cases hu
    · rw [if_neg e] at hu
      have hcr := (hm.rng _ _ hu).i64
      obtain ⟨v', h1, h2⟩ := hm.vals c r al' hu
      refine ⟨v', by rw [atKey_del_other (hne c r hcr.1 hcr.2 e)]; exact h1, ?_⟩
      obtain ⟨a, c', e1, e2, e3, e4⟩ := h2
      refine ⟨a, c', e1, e2, e3, fun hl => ?_⟩
      obtain ⟨b, o, f1, f2, f3⟩ := e4 hl
      refine ⟨b, o, f1, f2, f3.kp hk (fun eb => ?_)⟩
      obtain ⟨y, hy⟩ : ∃ y, al'[0]? = some y := ⟨_, List.getElem?_eq_getElem hl⟩
      have hcell := (f3 0 y hy).1
      obtain ⟨es, clock, hmm, _⟩ := hown
      simp only [World.cell?] at hcell
      rw [eb, hmm] at hcell
      cases hcell
  · unfold delU at hu
    by_cases e : y = x
    · rw [if_pos e] at hu; cases hu
    · rw [if_neg e] at hu; exact hm.rng y al' hu
  · unfold delU at hu
    by_cases e : y = x
    · rw [if_pos e] at hu; cases hu
    · rw [if_neg e] at hu; exact hm.oks y al' hu
/-- Links out of which a cell is deleted. -/
theorem links_del {w : World} {B l n : Nat} {us : Int × Int → Option (List Ar)} {x : Int × Int} (h : LinksIn w (Fr B) l us n) (hi : I64 x.1 ∧ I64 x.2) : ∃ mv w', w.cell? ⟨l, 0, none⟩ = some (.map mv) ∧ (∀ ty, (Builtin.delete_ #[73, 34] ty #[.map mv, .agg #[.int .i64 x.1, .int .i64 x.2]]).run Try.prog w = .ok (.tuple #[]) w') ∧ LinksIn w' (Fr B) l (delU us x) (cntD us x n) ∧ Kp w w' (Fr B) ∧ (∀ i cs, Blk w i cs 34 → Blk w' i cs 34) := by
  obtain ⟨hl, h⟩ := h
  have hkey := kl_key hi.1 hi.2
  rcases h with ⟨hb, rfl, rfl⟩ | ⟨m, D, hb, hm, hne, hown, hmh⟩
  · refine ⟨none, w, hb.cell rfl, fun ty => Maps.drop_nil lawAddr Try.underlying73 hkey ty, ⟨hl, .inl ⟨hb, ?_, rfl⟩⟩, Kp.refl _ _, fun _ _ h => h⟩
    funext y; unfold delU; split <;> rfl
  · obtain ⟨w', h1, h2, h3⟩ := hown.drop lawAddr Try.underlying73 hkey 0
    have k := Kp.of_turned h3
    have hd := map_del hown hmh h2 k hi
    refine ⟨some m, w', hb.cell rfl, fun ty => h1, ⟨hl, .inr ⟨m, _, hb.kp k (fun e => hne e.symm), hm, hne, hd.1, hd.2⟩⟩, k.mono (fun i _ e => by subst e; exact hm), fun i cs hi => hi.kp k (fun e => ?_)⟩
    obtain ⟨es, clock, hmm, _⟩ := hown
    unfold Blk at hi
    rw [e, hmm] at hi
    cases hi
set_option maxRecDepth 20000 in
set_option maxHeartbeats 4000000 in
theorem dropL_at (B l n : Nat) (us : Int × Int → Option (List Ar)) (c r : Int) (w : World) (h : LinksIn w (Fr B) l us n) (hc : I64 c) (hr : I64 r) :
    Calls Try.prog 14 #[.pointer (some ⟨l, 0, none⟩), .agg #[.int .i64 c, .int .i64 r]] w fun e w' => e = .returned (.bool (us (c, r)).isSome) ∧ LinksIn w' (Fr B) l (delU us (c, r)) (cntD us (c, r) n) ∧ Kp w w' (Fr B) ∧ (∀ i cs, Blk w i cs 34 → Blk w' i cs 34) := by
  obtain ⟨W, hW⟩ : ∃ W, w.alloc (.cells #[.int .i64 c, .int .i64 r] 34) = W := ⟨_, rfl⟩
  have kW : Kp w W Nul := by rw [← hW]; exact (Kp.refl w Nul).alloc _
  have hbx : Blk W w.heap.size [.int .i64 c, .int .i64 r] 34 := by rw [← hW]; exact Blk.new w [.int .i64 c, .int .i64 r] _
  have HW : Hid (w.alloc (.cells #[.int .i64 c, .int .i64 r] 34) = W) := hW
  have HKW : Hid (Kp w W Nul) := kW
  have HBX : Hid (Blk W w.heap.size [.int .i64 c, .int .i64 r] 34) := hbx
  have q0 : W.cell? ⟨w.heap.size, 0, none⟩ = some (.int .i64 c) := hbx.cell rfl
  have q1 : W.cell? ⟨w.heap.size, 1, none⟩ = some (.int .i64 r) := hbx.cell rfl
  have HLk : Hid (∀ wq, Kp W wq Nul → LinksIn wq (Fr B) l us n) := fun wq k => h.kp (kW.trans k) (fun _ _ x => x)
  have HS : Hid (Calls Try.prog 31 #[.pointer (some ⟨l, 0, none⟩), .agg #[.int .i64 c, .int .i64 r]] W fun e w' => e = .returned (.bool (us (c, r)).isSome) ∧ Kp W w' Nul) := isSet_at (Fr B) l n us c r W (HLk.out W (Kp.refl _ _)) hc hr
  have HI : Hid (I64 c ∧ I64 r) := ⟨hc, hr⟩
  have HNo : Hid ((us (c, r)).isSome = false → delU us (c, r) = us ∧ cntD us (c, r) n = n) := fun hn => by
    have hu : us (c, r) = none := by
      cases e : us (c, r) with
      | none => rfl
      | some a => rw [e] at hn; cases hn
    refine ⟨funext fun y => ?_, by unfold cntD; rw [hn]; rfl⟩
    unfold delU
    by_cases e : y = (c, r)
    · rw [if_pos e, e, hu]
    · rw [if_neg e]
  obtain ⟨V, hV⟩ : ∃ V, (us (c, r)).isSome = V := ⟨_, rfl⟩
  rw [hV] at HS HNo ⊢
  clear hW kW hbx h hc hr hV
  go_enter Try.func14, Try.ntmps14
  go_wp2_with fail
  rw [HW.out]
  refine HS.out.mono ?_
  rintro e w2 ⟨rfl, hk2⟩
  have HK2 : Hid (Kp W w2 Nul) := hk2
  cases V with
  | false =>
    clear hk2
    go_wp2_with fail
    go_ret
    obtain ⟨e1, e2⟩ := HNo.out trivial
    rw [e1, e2]
    exact ⟨rfl, HLk.out w2 HK2.out, (HKW.out.trans HK2.out).of_nul, fun i cs hi => (hi.kp HKW.out (fun x => x)).kp HK2.out (fun x => x)⟩
  | true =>
    have hb2 := HBX.out.kp hk2 (fun x => x)
    have d0 : w2.cell? ⟨w.heap.size, 0, none⟩ = some (.int .i64 c) := hb2.cell rfl
    have d1 : w2.cell? ⟨w.heap.size, 1, none⟩ = some (.int .i64 r) := hb2.cell rfl
    obtain ⟨mv, W4, hmc, hdel, hl4, hk4, hb4⟩ := links_del (x := (c, r)) (HLk.out w2.drew (hk2.drew)) HI.out
    have HEND : Hid (LinksIn W4 (Fr B) l (delU us (c, r)) (cntD us (c, r) n) ∧ Kp w W4 (Fr B) ∧ (∀ i cs, Blk w i cs 34 → Blk W4 i cs 34)) := ⟨hl4, ((HKW.out.trans hk2.drew).of_nul).trans hk4, fun i cs hi => hb4 i cs ((hi.kp HKW.out (fun x => x)).kp hk2.drew (fun x => x))⟩
    have d2 : w2.cell? ⟨l, 0, none⟩ = some (.map mv) := hmc
    simp only at hdel
    clear hl4 hk4 hb4 hmc hb2 hk2
    go_wp2_with fail
    go_region
    all_goals
      go_wp2_with fail
      go_ret
      exact ⟨rfl, HEND.out⟩
set_option maxHeartbeats 1000000 in
theorem len_at (F : Nat → Prop) (l n : Nat) (us : Int × Int → Option (List Ar)) (w : World) (h : LinksIn w F l us n) :
    Calls Try.prog 15 #[.pointer (some ⟨l, 0, none⟩)] w fun e w' => e = .returned (.int .i64 (n : Int)) ∧ w' = w := by
  obtain ⟨mv, h1, h2⟩ := len_of h
  clear h
  go_enter Try.func15, Try.ntmps15
  go_wp2_with fail
  go_ret
  exact ⟨rfl, rfl⟩
set_option maxHeartbeats 1000000 in
theorem rest_at (x : Int) (n : Nat) (hx : I64 x) (hn : 0 < n) (hn2 : n ≤ 4096) (w : World) :
    Calls Try.prog 13 #[.int .i64 x, .int .i64 (n : Int)] w fun e w' => (∃ q : Int, e = .returned (.int .i64 q) ∧ 0 ≤ q ∧ q < n) ∧ w' = w := by
  have h1 : -(n : Int) < x.tmod n := by
    have := Int.lt_tmod_of_pos x (b := n) (by omega); omega
  have h2 : x.tmod n < n := Int.tmod_lt_of_pos x (b := n) (by omega)
  have h3 : (n : Int) ≠ 0 := by omega
  obtain ⟨hx1, hx2⟩ := hx
  go_enter Try.func13, Try.ntmps13
  go_wp2_with fail
  go_ret
  exact ⟨⟨_, rfl, Int.emod_nonneg _ (by omega), Int.emod_lt_of_pos _ (by omega)⟩, rfl⟩
end Go.Proofs.Ytkgolfmnlbmmeaa
