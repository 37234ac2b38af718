/- Set. -/
import Derived.Test.YtkgolfmnlbmmeaaGreatDoorZo
namespace Go.Proofs.YtkgolfmnlbmmeaaGreatDoor
open Go.RowKit Go.Sort Go.Lib Go.Maps

theorem len_of {w : World} {F : Nat → Prop} {l n : Nat} {us : Int × Int → Option (List Ar)} (h : LinksIn w F l us n) : ∃ mv, w.cell? ⟨l, 0, none⟩ = some (.map mv) ∧ ∀ ty, (Builtin.len_ #[66] ty #[.map mv]).run Tryz.prog w = .ok (.int .i64 (n : Int)) w := by
  obtain ⟨_, h⟩ := h
  rcases h with ⟨hb, _, rfl⟩ | ⟨m, D, hb, _, _, hown, hmh⟩
  · exact ⟨none, hb.cell rfl, fun ty => Maps.len_nil Tryz.underlying66 ty⟩
  · refine ⟨some m, hb.cell rfl, fun ty => ?_⟩
    have := hown.len Tryz.underlying66 ty
    rw [hmh.size] at this
    exact this
/-- What Set tells, and what it leaves. -/
def SetIs (us : Int × Int → Option (List Ar)) (n : Nat) (x : Int × Int) (al : List Ar) (er : Int) (us' : Int × Int → Option (List Ar)) (n' : Nat) : Prop :=
  (us' = us ∧ n' = n ∧ ((vC x.1 x.2 = false ∧ er = 20) ∨ (vC x.1 x.2 = true ∧ 256 < al.length ∧ er = 34) ∨ (vC x.1 x.2 = true ∧ al.length ≤ 256 ∧ al.any (fun a => !vR a) = true ∧ er = 1) ∨ (vC x.1 x.2 = true ∧ al.length ≤ 256 ∧ al.any (fun a => !vR a) = false ∧ 4096 ≤ n ∧ us x = none ∧ er = 41))) ∨
  (vC x.1 x.2 = true ∧ al.length ≤ 256 ∧ al.any (fun a => !vR a) = false ∧ (n < 4096 ∨ (us x).isSome = true) ∧ er = 0 ∧ ∃ al', (∀ a, a ∈ al' ↔ a ∈ al) ∧ us' = updU us x al' ∧ n' = cntU us x n)
theorem vc_iff' (x : Int × Int) : vC x.1 x.2 = true ↔ VC x := by rw [vC_iff]; unfold VC; exact Iff.rfl
theorem vR_ok {a : Ar} (h : vR a = true) : a.ok := by
  have := vA_bd _ _ _ _ h
  unfold Ar.ok
  omega
set_option maxRecDepth 20000 in
set_option maxHeartbeats 8000000 in
theorem set_at (B l n : Nat) (us : Int × Int → Option (List Ar)) (c r : Int) (al : List Ar) (av : Option Addr) (cv : Nat) (w : World) (h : LinksIn w (Fr B) l us n) (hc : I64 c) (hr : I64 r) (hal : al.length ≤ 9223372036854775807) (ha0 : 0 < al.length → ∃ b o, av = some ⟨b, o, none⟩ ∧ AreasAt w b o al) (hn : n < maxLen) (hB : B ≤ w.heap.size) :
    Calls Tryz.prog 27 #[.pointer (some ⟨l, 0, none⟩), .agg #[.int .i64 c, .int .i64 r], .slice av al.length cv] w fun e w' => ∃ er us' n', e = .returned (.int .i64 er) ∧ SetIs us n (c, r) al er us' n' ∧ LinksIn w' (Fr B) l us' n' ∧ Kp w w' (Fr B) ∧ (∀ i cs, Blk w i cs 29 → Blk w' i cs 29) := by
  have HV : Hid (∀ w, Calls Tryz.prog 65 #[.agg #[.int .i64 c, .int .i64 r]] w fun e w' => e = .returned (.bool (vC c r)) ∧ w' = w.alloc (.cells #[.int .i64 c, .int .i64 r] 29)) := pValid_at c r
  have HC : Hid (∀ wq, Kp w wq Nul → Calls Tryz.prog 47 #[.slice av al.length cv, .func (.func 66) #[] #[]] wq fun e w' => e = .returned (.bool (al.any (fun x => !vR x))) ∧ Kp wq w' Nul) := fun wq k =>
    noArea_any al av cv wq hal (fun h => by obtain ⟨b, o, e, hh⟩ := ha0 h; exact ⟨b, o, e, hh.kp k (fun x => x)⟩)
  have HL : Hid (∀ wq, Kp w wq Nul → LinksIn wq (Fr B) l us n) := fun wq k => h.kp k (fun _ _ x => x)
  have HS : Hid (∀ wq, Kp w wq Nul → Calls Tryz.prog 64 #[.pointer (some ⟨l, 0, none⟩), .agg #[.int .i64 c, .int .i64 r]] wq fun e w' => e = .returned (.bool (us (c, r)).isSome) ∧ Kp wq w' Nul) := fun wq k => isSet_at (Fr B) l n us c r wq (h.kp k (fun _ _ x => x)) hc hr
  have HO : Hid (al.length ≤ 256 → ∀ wq, Kp w wq Nul → Calls Tryz.prog 67 #[.slice av al.length cv, .func (.func 68) #[] #[]] wq fun e w' => ∃ (L : List Ar) (v' : Value), e = .returned v' ∧ AreasFrom wq.heap.size w' v' L ∧ L.length ≤ al.length ∧ (∀ x, x ∈ L ↔ x ∈ al) ∧ Kp wq w' Nul) := fun h256 wq k =>
    orderedR_at al av cv wq (by omega) (fun h0 => by obtain ⟨b, o, e, h⟩ := ha0 h0; exact ⟨b, o, e, h.kp k (fun x => x)⟩)
  have hA : Blk (w.alloc (.cells #[.int .i64 c, .int .i64 r] 29)) w.heap.size [.int .i64 c, .int .i64 r] 29 := Blk.new w [.int .i64 c, .int .i64 r] _
  have HAt : Hid (∀ wq, Kp (w.alloc (.cells #[.int .i64 c, .int .i64 r] 29)) wq Nul → Blk wq w.heap.size [.int .i64 c, .int .i64 r] 29) := fun wq k => hA.kp k (fun x => x)
  have HKw : Hid (∀ wq, Kp (w.alloc (.cells #[.int .i64 c, .int .i64 r] 29)) wq Nul → Kp w wq Nul) := fun wq k => ((Kp.refl w Nul).alloc _).trans k
  have HKeep : Hid (VC (c, r) → al.length ≤ 256 → al.any (fun x => !vR x) = false → ∀ wq v L, Kp w wq Nul → AreasFrom w.heap.size wq v L → L.length ≤ al.length → (∀ x, x ∈ L ↔ x ∈ al) → Calls Tryz.prog 41 #[.pointer (some ⟨l, 0, none⟩), .agg #[.int .i64 c, .int .i64 r], v] wq fun e w' => e = .returned (.tuple #[]) ∧ LinksIn w' (Fr B) l (updU us (c, r) L) (cntU us (c, r) n) ∧ Kp w w' (Fr B) ∧ (∀ i cs, Blk wq i cs 29 → Blk w' i cs 29)) := fun hx h256 hall wq v L k hf hlen hmem => by
    obtain ⟨a, c', rfl, f1, f2, f3⟩ := hf
    refine (keep_at B l n us c r L a L.length c' wq (h.kp k (fun _ _ x => x)) hx ⟨a, c', rfl, f1, f2, fun hl => ?_⟩ ⟨fun x hxL => ?_, by omega⟩ hn (Nat.le_trans hB k.size)).mono ?_
    · rcases f3 with ⟨_, e⟩ | ⟨b, e1, e2, e3⟩
      · rw [e] at hl; exact absurd hl (Nat.lt_irrefl _)
      · exact ⟨b, 0, e1, Nat.le_trans hB e2, e3⟩
    · rw [List.any_eq_false] at hall
      have := hall x ((hmem x).1 hxL)
      exact vR_ok (by simpa using this)
    · rintro e w' ⟨rfl, h1, h2, h3⟩
      exact ⟨rfl, h1, k.of_nul.trans h2, h3⟩
  have HVC : Hid (vC c r = true → VC (c, r)) := fun hv => (vc_iff' (c, r)).1 hv
  clear hA ha0 h hal hc hr hn
  obtain ⟨N, hN⟩ : ∃ N, al.length = N := ⟨_, rfl⟩
  have HN : Hid (al.length = N) := hN
  rw [hN] at HC HO HKeep ⊢
  obtain ⟨A, hA⟩ : ∃ A, al.any (fun x => !vR x) = A := ⟨_, rfl⟩
  have HA : Hid (al.any (fun x => !vR x) = A) := hA
  rw [hA] at HC HKeep
  obtain ⟨I, hI⟩ : ∃ I, (us (c, r)).isSome = I := ⟨_, rfl⟩
  have HI : Hid ((us (c, r)).isSome = I) := hI
  rw [hI] at HS
  obtain ⟨V, hV⟩ : ∃ V, vC c r = V := ⟨_, rfl⟩
  have HVV : Hid (vC c r = V) := hV
  rw [hV] at HV HVC
  clear hN hA hI hV
  go_enter Tryz.func27, Tryz.ntmps27
  go_wp2_with fail
  refine (HV.out _).mono ?_
  rintro e w1 ⟨rfl, hw1⟩
  have HK1 : Hid (Kp (w.alloc (.cells #[.int .i64 c, .int .i64 r] 29)) w1 Nul) := by rw [hw1]; exact (Kp.refl _ _).alloc _
  clear hw1 HV
  cases V with
  | false =>
    go_wp2_with fail
    go_ret
    exact ⟨_, us, n, rfl, .inl ⟨rfl, rfl, .inl ⟨HVV.out, rfl⟩⟩, HL.out _ (HKw.out _ HK1.out), (HKw.out _ HK1.out).of_nul, fun i cs hi => hi.kp (HKw.out _ HK1.out) (fun x => x)⟩
  | true =>
    by_cases hbig : 256 < N
    · have hb1 : (256 : Int) < (N : Int) := by omega
      go_wp2_with fail
      go_ret
      exact ⟨_, us, n, rfl, .inl ⟨rfl, rfl, .inr (.inl ⟨HVV.out, by rw [HN.out]; exact hbig, rfl⟩)⟩, HL.out _ (HKw.out _ HK1.out), (HKw.out _ HK1.out).of_nul, fun i cs hi => hi.kp (HKw.out _ HK1.out) (fun x => x)⟩
    · have hb1 : ¬ (256 : Int) < (N : Int) := by omega
      have hb2 : N ≤ 256 := by omega
      go_wp2_with fail
      refine (HC.out w1 (HKw.out _ HK1.out)).mono ?_
      rintro e w2 ⟨rfl, hk2⟩
      have HK2 : Hid (Kp (w.alloc (.cells #[.int .i64 c, .int .i64 r] 29)) w2 Nul) := HK1.out.trans hk2
      clear hk2 HC
      cases A with
      | true =>
        go_wp2_with fail
        go_ret
        exact ⟨_, us, n, rfl, .inl ⟨rfl, rfl, .inr (.inr (.inl ⟨HVV.out, by rw [HN.out]; exact hb2, HA.out, rfl⟩))⟩, HL.out _ (HKw.out _ HK2.out), (HKw.out _ HK2.out).of_nul, fun i cs hi => hi.kp (HKw.out _ HK2.out) (fun x => x)⟩
      | false =>
        obtain ⟨mv, q1, q2⟩ := len_of (HL.out w2 (HKw.out _ HK2.out))
        have q3 : w2.cell? ⟨w.heap.size, 0, none⟩ = some (.int .i64 c) := (HAt.out w2 HK2.out).cell rfl
        have q4 : w2.cell? ⟨w.heap.size, 1, none⟩ = some (.int .i64 r) := (HAt.out w2 HK2.out).cell rfl
        by_cases hfull : 4096 ≤ n
        · have hf1 : (4096 : Int) ≤ (n : Int) := by omega
          go_wp2_with fail
          refine (HS.out w2 (HKw.out _ HK2.out)).mono ?_
          rintro e w3 ⟨rfl, hk3⟩
          have HK3 : Hid (Kp (w.alloc (.cells #[.int .i64 c, .int .i64 r] 29)) w3 Nul) := HK2.out.trans hk3
          clear hk3 q1 q2 q3 q4
          cases I with
          | false =>
            go_wp2_with fail
            go_ret
            exact ⟨_, us, n, rfl, .inl ⟨rfl, rfl, .inr (.inr (.inr ⟨HVV.out, by rw [HN.out]; exact hb2, HA.out, hfull, by have := HI.out; cases hu : us (c, r) with | none => rfl | some x => (rw [hu] at this; cases this), rfl⟩))⟩, HL.out _ (HKw.out _ HK3.out), (HKw.out _ HK3.out).of_nul, fun i cs hi => hi.kp (HKw.out _ HK3.out) (fun x => x)⟩
          | true =>
            go_wp2_with fail
            have KS : Hid (∀ w', Kp w3 w' Nul → (w'.cell? ⟨w.heap.size, 0, none⟩ = some (.int .i64 c) ∧ w'.cell? ⟨w.heap.size, 1, none⟩ = some (.int .i64 r))) := fun w' k => by
              have := (HAt.out w3 HK3.out).kp k (fun x => x)
              exact ⟨this.cell rfl, this.cell rfl⟩
            have HO2 : Hid (Calls Tryz.prog 67 #[.slice av N cv, .func (.func 68) #[] #[]] w3.drew fun e w' => ∃ (L : List Ar) (v' : Value), e = .returned v' ∧ AreasFrom w.heap.size w' v' L ∧ L.length ≤ N ∧ (∀ x, x ∈ L ↔ x ∈ al) ∧ Kp w3 w' Nul) := (HO.out hb2 w3.drew (HKw.out _ HK3.out.drew)).mono fun e w' ⟨L, v', h1, h2, h3, h4, h5⟩ => ⟨L, v', h1, by
              obtain ⟨a, c', f0, f1, f2, f3⟩ := h2
              refine ⟨a, c', f0, f1, f2, ?_⟩
              rcases f3 with f3 | ⟨b, e1, e2, e3⟩
              · exact .inl f3
              · exact .inr ⟨b, e1, Nat.le_trans (HKw.out _ HK3.out.drew).size e2, e3⟩, h3, h4, ((Kp.refl w3 Nul).drew).trans h5⟩
            have HK5 : Hid (∀ w4 v L, Kp w3 w4 Nul → AreasFrom w.heap.size w4 v L → L.length ≤ N → (∀ x, x ∈ L ↔ x ∈ al) → Calls Tryz.prog 41 #[.pointer (some ⟨l, 0, none⟩), .agg #[.int .i64 c, .int .i64 r], v] w4 fun e w' => e = .returned (.tuple #[]) ∧ (LinksIn w' (Fr B) l (updU us (c, r) L) (cntU us (c, r) n) ∧ Kp w w' (Fr B) ∧ (∀ i cs, Blk w i cs 29 → Blk w' i cs 29)) ∧ (w'.cell? ⟨w.heap.size, 0, none⟩ = some (.int .i64 c) ∧ w'.cell? ⟨w.heap.size, 1, none⟩ = some (.int .i64 r))) := fun w4 v L k hf hlen hmem =>
              (HKeep.out (HVC.out (by simp)) hb2 (by simp) w4 v L ((HKw.out _ HK3.out).trans k) hf hlen hmem).mono fun e w' ⟨h1, h2, h3, h4⟩ => ⟨h1, ⟨h2, h3, fun i cs hi => h4 i cs (hi.kp ((HKw.out _ HK3.out).trans k) (fun x => x))⟩, by
                have := h4 _ _ ((HAt.out w3 HK3.out).kp k (fun x => x))
                exact ⟨this.cell rfl, this.cell rfl⟩⟩
            clear HKeep HO HS HAt HL
            go_region_held3 (fun w' => w'.cell? ⟨w.heap.size, 0, none⟩ = some (.int .i64 c) ∧ w'.cell? ⟨w.heap.size, 1, none⟩ = some (.int .i64 r))
              (first | (exact KS.out _ hk4) | (exact hs5) | (exact KS.out _ ((Kp.refl _ _).drew)) | (exact KS.out _ (Kp.refl _ _)))
              (first
              | (go_at_call 67; refine HO2.out.mono ?_; rintro e w4 ⟨L, v4, rfl, hf, hlen, hmem, hk4⟩)
              | (go_at_call 41; refine (HK5.out _ _ _ hk4 hf hlen hmem).mono ?_; rintro e w5 ⟨rfl, hl5, hs5⟩))
            all_goals
              have HMEM : Hid (∀ x, x ∈ L ↔ x ∈ al) := hmem
              have HL5 : Hid (LinksIn w5 (Fr B) l (updU us (c, r) L) (cntU us (c, r) n) ∧ Kp w w5 (Fr B) ∧ (∀ i cs, Blk w i cs 29 → Blk w5 i cs 29)) := hl5
              clear hmem hl5 hs5 hk4 hf hlen
              go_wp2_with fail
              go_ret
              exact ⟨_, _, _, rfl, .inr ⟨HVV.out, by rw [HN.out]; exact hb2, HA.out, .inr HI.out, rfl, L, HMEM.out, rfl, rfl⟩, HL5.out⟩
        · have hf1 : ¬ (4096 : Int) ≤ (n : Int) := by omega
          go_wp2_with fail
          clear q1 q2 q3 q4
          have KS : Hid (∀ w', Kp w2 w' Nul → (w'.cell? ⟨w.heap.size, 0, none⟩ = some (.int .i64 c) ∧ w'.cell? ⟨w.heap.size, 1, none⟩ = some (.int .i64 r))) := fun w' k => by
            have := (HAt.out w2 HK2.out).kp k (fun x => x)
            exact ⟨this.cell rfl, this.cell rfl⟩
          have HO2 : Hid (Calls Tryz.prog 67 #[.slice av N cv, .func (.func 68) #[] #[]] w2.drew fun e w' => ∃ (L : List Ar) (v' : Value), e = .returned v' ∧ AreasFrom w.heap.size w' v' L ∧ L.length ≤ N ∧ (∀ x, x ∈ L ↔ x ∈ al) ∧ Kp w2 w' Nul) := (HO.out hb2 w2.drew (HKw.out _ HK2.out.drew)).mono fun e w' ⟨L, v', h1, h2, h3, h4, h5⟩ => ⟨L, v', h1, by
            obtain ⟨a, c', f0, f1, f2, f3⟩ := h2
            refine ⟨a, c', f0, f1, f2, ?_⟩
            rcases f3 with f3 | ⟨b, e1, e2, e3⟩
            · exact .inl f3
            · exact .inr ⟨b, e1, Nat.le_trans (HKw.out _ HK2.out.drew).size e2, e3⟩, h3, h4, ((Kp.refl w2 Nul).drew).trans h5⟩
          have HK5 : Hid (∀ w4 v L, Kp w2 w4 Nul → AreasFrom w.heap.size w4 v L → L.length ≤ N → (∀ x, x ∈ L ↔ x ∈ al) → Calls Tryz.prog 41 #[.pointer (some ⟨l, 0, none⟩), .agg #[.int .i64 c, .int .i64 r], v] w4 fun e w' => e = .returned (.tuple #[]) ∧ (LinksIn w' (Fr B) l (updU us (c, r) L) (cntU us (c, r) n) ∧ Kp w w' (Fr B) ∧ (∀ i cs, Blk w i cs 29 → Blk w' i cs 29)) ∧ (w'.cell? ⟨w.heap.size, 0, none⟩ = some (.int .i64 c) ∧ w'.cell? ⟨w.heap.size, 1, none⟩ = some (.int .i64 r))) := fun w4 v L k hf hlen hmem =>
            (HKeep.out (HVC.out (by simp)) hb2 (by simp) w4 v L ((HKw.out _ HK2.out).trans k) hf hlen hmem).mono fun e w' ⟨h1, h2, h3, h4⟩ => ⟨h1, ⟨h2, h3, fun i cs hi => h4 i cs (hi.kp ((HKw.out _ HK2.out).trans k) (fun x => x))⟩, by
              have := h4 _ _ ((HAt.out w2 HK2.out).kp k (fun x => x))
              exact ⟨this.cell rfl, this.cell rfl⟩⟩
          clear HKeep HO HS HAt HL
          go_region_held3 (fun w' => w'.cell? ⟨w.heap.size, 0, none⟩ = some (.int .i64 c) ∧ w'.cell? ⟨w.heap.size, 1, none⟩ = some (.int .i64 r))
            (first | (exact KS.out _ hk4) | (exact hs5) | (exact KS.out _ ((Kp.refl _ _).drew)) | (exact KS.out _ (Kp.refl _ _)))
            (first
            | (go_at_call 67; refine HO2.out.mono ?_; rintro e w4 ⟨L, v4, rfl, hf, hlen, hmem, hk4⟩)
            | (go_at_call 41; refine (HK5.out _ _ _ hk4 hf hlen hmem).mono ?_; rintro e w5 ⟨rfl, hl5, hs5⟩))
          all_goals
            have HMEM : Hid (∀ x, x ∈ L ↔ x ∈ al) := hmem
            have HL5 : Hid (LinksIn w5 (Fr B) l (updU us (c, r) L) (cntU us (c, r) n) ∧ Kp w w5 (Fr B) ∧ (∀ i cs, Blk w i cs 29 → Blk w5 i cs 29)) := hl5
            clear hmem hl5 hs5 hk4 hf hlen
            go_wp2_with fail
            go_ret
            exact ⟨_, _, _, rfl, .inr ⟨HVV.out, by rw [HN.out]; exact hb2, HA.out, .inl (by omega), rfl, L, HMEM.out, rfl, rfl⟩, HL5.out⟩
end Go.Proofs.YtkgolfmnlbmmeaaGreatDoor
