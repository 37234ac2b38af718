/- awake. -/
import Derived.Test.YtkgolfmnlbmmeaaGreatDoorZs
namespace Go.Proofs.YtkgolfmnlbmmeaaGreatDoor
open Go.RowKit Go.Sort Go.Lib Go.Maps

theorem go_two (use : Nat → Nat → Bool) (h00 : use 0 0 = false) (h01 : use 0 1 = true) (h10 : use 1 0 = false) (h11 : use 1 1 = false) : Od.go 2 use [] 2 0 (fun q => decide (q < 2)) = some [1, 0] := by
  have r1 : Od.rdyL 2 use (fun q => decide (q < 2)) = [1] := by
    simp [Od.rdyL, Od.rdy, List.range_succ, h01, h10, h11]
  have r2 : Od.rdyL 2 use (Od.del (fun q => decide (q < 2)) 1) = [0] := by
    simp [Od.rdyL, Od.rdy, Od.del, List.range_succ, h00]
  simp [Od.go, r1, r2, Od.pk]
theorem awake_set {us' : Int × Int → Option (List Ar)} {n' : Nat} {er : Int} (h : SetIs (fun _ => none) 0 (1, 1) [⟨2, 1, 2, 1⟩] er us' n') : er = 0 ∧ n' = 1 ∧ ∃ al, (∀ a, a ∈ al ↔ a = (⟨2, 1, 2, 1⟩ : Ar)) ∧ us' = updU (fun _ => none) (1, 1) al := by
  have hv : vC 1 1 = true := by decide
  have ha : ([⟨2, 1, 2, 1⟩] : List Ar).any (fun a => !vR a) = false := by decide
  rcases h with ⟨_, _, h⟩ | ⟨_, _, _, _, h5, al, h6, h7, h8⟩
  · rcases h with ⟨h, _⟩ | ⟨_, h, _⟩ | ⟨_, _, h, _⟩ | ⟨_, _, _, h, _⟩
    · simp only at h; rw [hv] at h; cases h
    · simp at h
    · rw [ha] at h; cases h
    · omega
  · refine ⟨h5, h8, al, fun a => ?_, h7⟩
    rw [h6]; simp
theorem awake_users {al : List Ar} (ha : ∀ a, a ∈ al ↔ a = (⟨2, 1, 2, 1⟩ : Ar)) {L : List (Int × Int)} (hs : Strict L) (hm : ∀ x, x ∈ L ↔ (updU (fun _ => none) (1, 1) al x).any (anyHas (2, 1)) = true) : L = [(1, 1)] := by
  refine hs.same (L' := [(1, 1)]) (List.pairwise_singleton _ _) (fun x => ?_)
  rw [hm]
  unfold updU
  by_cases e : x = (1, 1)
  · rw [if_pos e]
    simp only [Option.any_some, List.mem_singleton, e, iff_true]
    unfold anyHas
    rw [List.any_eq_true]
    exact ⟨⟨2, 1, 2, 1⟩, (ha _).2 rfl, by decide⟩
  · rw [if_neg e]
    simp [e]
theorem awake_order {al : List Ar} (ha : ∀ a, a ∈ al ↔ a = (⟨2, 1, 2, 1⟩ : Ar)) {B : Nat} {w : World} {v : Value} {er : Int} (h : ReadyIs (updU (fun _ => none) (1, 1) al) [(1, 1), (2, 1)] [] B w v er) : er = 0 ∧ ∃ b c, v = .slice (some ⟨b, 0, none⟩) 2 c ∧ CellsAt w b 0 [(2, 1), (1, 1)] := by
  obtain ⟨L, hs, hm, h⟩ := h
  have hL : L = [(1, 1), (2, 1)] := hs.same (L' := [(1, 1), (2, 1)]) (by
    unfold Strict
    simp [cfA_lt]) (fun x => hm x)
  subst hL
  have hg : Od.go ([(1, 1), (2, 1)] : List (Int × Int)).length (useP [(1, 1), (2, 1)] (updU (fun _ => none) (1, 1) al)) [] ([(1, 1), (2, 1)] : List (Int × Int)).length 0 (allM [(1, 1), (2, 1)]) = some [1, 0] := by
    have hany : ∀ q, al.any (fun a => inPl [(1, 1), (2, 1)] a q) = inPl [(1, 1), (2, 1)] ⟨2, 1, 2, 1⟩ q := fun q => by
      cases h : inPl [(1, 1), (2, 1)] ⟨2, 1, 2, 1⟩ q with
      | true => rw [List.any_eq_true]; exact ⟨_, (ha _).2 rfl, h⟩
      | false =>
        rw [List.any_eq_false]
        intro a hal
        rw [(ha a).1 hal, h]
        simp
    refine go_two _ ?_ ?_ ?_ ?_
    · show ((updU (fun _ => none) (1, 1) al (1, 1)).getD []).any (fun a => inPl [(1, 1), (2, 1)] a 0) = _
      have e : updU (fun _ => none) (1, 1) al (1, 1) = some al := if_pos rfl
      rw [e, Option.getD_some, hany]; decide
    · show ((updU (fun _ => none) (1, 1) al (1, 1)).getD []).any (fun a => inPl [(1, 1), (2, 1)] a 1) = _
      have e : updU (fun _ => none) (1, 1) al (1, 1) = some al := if_pos rfl
      rw [e, Option.getD_some, hany]; decide
    · show ((updU (fun _ => none) (1, 1) al (2, 1)).getD []).any (fun a => inPl [(1, 1), (2, 1)] a 0) = _
      have e : updU (fun _ => none) (1, 1) al (2, 1) = none := if_neg (by decide)
      rw [e]; rfl
    · show ((updU (fun _ => none) (1, 1) al (2, 1)).getD []).any (fun a => inPl [(1, 1), (2, 1)] a 1) = _
      have e : updU (fun _ => none) (1, 1) al (2, 1) = none := if_neg (by decide)
      rw [e]; rfl
  rcases h with ⟨h1, _⟩ | ⟨o, R, b, h1, h2, h3, h4, h5, h6, h7, h8⟩
  · rw [hg] at h1; cases h1
  · rw [hg] at h1
    cases h1
    have hR : R = [(2, 1), (1, 1)] := by
      have e0 := h4 0 1 rfl
      have e1 := h4 1 0 rfl
      match R, h2 with
      | [r0, r1], _ =>
        simp at e0 e1
        rw [e0, e1]
    subst hR
    exact ⟨h8, b, _, h5, h7⟩
set_option maxRecDepth 20000 in
set_option maxHeartbeats 4000000 in
theorem awake_at (w : World) : Calls Tryz.prog 7 #[] w fun e w' => e = .returned (.bool true) ∧ Kp w w' Nul := by
  have HNew : Hid (Calls Tryz.prog 8 #[] w fun e w' => e = .returned (.pointer (some ⟨w.heap.size, 0, none⟩)) ∧ w' = w.alloc (.cells #[.map none] 68)) := newL_at w
  obtain ⟨W1, hW1⟩ : ∃ W1, w.alloc (.cells #[.map none] 68) = W1 := ⟨_, rfl⟩
  have hl1 : LinksIn W1 (Fr w.heap.size) w.heap.size (fun _ => none) 0 := by rw [← hW1]; exact links_new w _ (Nat.le_refl _)
  have k1 : Kp w W1 Nul := by rw [← hW1]; exact (Kp.refl w Nul).alloc _
  have s1 : W1.heap.size = w.heap.size + 1 := by rw [← hW1]; exact World.size_alloc _ _
  rw [hW1] at HNew
  clear hW1
  obtain ⟨W2, hW2⟩ : ∃ W2, ((W1.alloc (.cells #[.int .i64 1, .int .i64 1] 29)).alloc (.cells #[.int .i64 2, .int .i64 1] 29)).alloc (.cells #[.int .i64 2, .int .i64 1, .int .i64 2, .int .i64 1] 52) = W2 := ⟨_, rfl⟩
  have k2 : Kp W1 W2 Nul := by rw [← hW2]; exact (((Kp.refl W1 Nul).alloc _).alloc _).alloc _
  have bA : Blk W2 (w.heap.size + 1) [.int .i64 1, .int .i64 1] 29 := by
    rw [← hW2, ← s1]
    exact ((Blk.new W1 [.int .i64 1, .int .i64 1] _).alloc _).alloc _
  have bB : Blk W2 (w.heap.size + 1 + 1) [.int .i64 2, .int .i64 1] 29 := by
    have := (Blk.new (W1.alloc (.cells #[.int .i64 1, .int .i64 1] 29)) [.int .i64 2, .int .i64 1] 29).alloc (.cells #[.int .i64 2, .int .i64 1, .int .i64 2, .int .i64 1] 52)
    rw [World.size_alloc, s1, hW2] at this
    exact this
  have bR : Blk W2 (w.heap.size + 1 + 1 + 1) [.int .i64 2, .int .i64 1, .int .i64 2, .int .i64 1] 52 := by
    have := Blk.new ((W1.alloc (.cells #[.int .i64 1, .int .i64 1] 29)).alloc (.cells #[.int .i64 2, .int .i64 1] 29)) [.int .i64 2, .int .i64 1, .int .i64 2, .int .i64 1] 52
    rw [World.size_alloc, World.size_alloc, s1] at this
    rw [← hW2]
    exact this
  have hat : AreasAt W2 (w.heap.size + 1 + 1 + 1) 0 [⟨2, 1, 2, 1⟩] := fun i x hx => by
    match i, hx with
    | 0, hx => cases hx; exact ⟨bR.cell rfl, bR.cell rfl, bR.cell rfl, bR.cell rfl⟩
  have i1 : I64 1 := by unfold I64; omega
  have HSet : Hid (Calls Tryz.prog 27 #[.pointer (some ⟨w.heap.size, 0, none⟩), .agg #[.int .i64 1, .int .i64 1], .slice (some ⟨w.heap.size + 1 + 1 + 1, 0, none⟩) 1 1] W2 fun e w' => ∃ er us' n', e = .returned (.int .i64 er) ∧ SetIs (fun _ => none) 0 (1, 1) [⟨2, 1, 2, 1⟩] er us' n' ∧ LinksIn w' (Fr w.heap.size) w.heap.size us' n' ∧ Kp W2 w' (Fr w.heap.size) ∧ (∀ i cs, Blk W2 i cs 29 → Blk w' i cs 29)) :=
    set_at w.heap.size w.heap.size 0 (fun _ => none) 1 1 [⟨2, 1, 2, 1⟩] (some ⟨w.heap.size + 1 + 1 + 1, 0, none⟩) 1 W2 (hl1.kp k2 (fun _ _ x => x)) i1 i1 (by decide) (fun _ => ⟨_, _, rfl, hat⟩) (by decide) (k1.trans k2).size
  have K12 : Hid (Kp w W2 Nul) := k1.trans k2
  have BA : Hid (Blk W2 (w.heap.size + 1) [.int .i64 1, .int .i64 1] 29) := bA
  have BB : Hid (Blk W2 (w.heap.size + 1 + 1) [.int .i64 2, .int .i64 1] 29) := bB
  clear k1 k2 bA bB bR hat i1 hl1
  go_enter Tryz.func7, Tryz.ntmps7
  go_wp2_with fail
  refine HNew.out.mono ?_
  rintro e w1 ⟨rfl, hz⟩
  replace hz := hz.symm
  subst hz
  go_wp2_with fail
  refine HSet.out.mono ?_
  rintro e w3 ⟨er, us', n', rfl, hset, hl3, hk3, hst3⟩
  obtain ⟨rfl, rfl, al, hal, rfl⟩ := awake_set hset
  have hA3 := hst3 _ _ BA.out
  have hB3 := hst3 _ _ BB.out
  have HA3 : Hid (Blk w3 (w.heap.size + 1) [.int .i64 1, .int .i64 1] 29) := hA3
  have HB3 : Hid (Blk w3 (w.heap.size + 1 + 1) [.int .i64 2, .int .i64 1] 29) := hB3
  have b1 : w3.cell? ⟨w.heap.size + 1 + 1, 0, none⟩ = some (.int .i64 2) := hB3.cell rfl
  have b2 : w3.cell? ⟨w.heap.size + 1 + 1, 1, none⟩ = some (.int .i64 1) := hB3.cell rfl
  have HK3 : Hid (Kp w w3 Nul) := K12.out.trans' hk3 (fun i hi e => absurd hi (Nat.not_lt.2 e))
  have HL3 : Hid (LinksIn w3 (Fr w.heap.size) w.heap.size (updU (fun _ => none) (1, 1) al) 1) := hl3
  have HUs := users_at (Fr w.heap.size) w.heap.size 1 (updU (fun _ => none) (1, 1) al) 2 1 w3 hl3 (by omega)
  have HAl : Hid (∀ a, a ∈ al ↔ a = (⟨2, 1, 2, 1⟩ : Ar)) := hal
  have HU : Hid (Calls Tryz.prog 20 #[.pointer (some ⟨w.heap.size, 0, none⟩), .agg #[.int .i64 2, .int .i64 1]] w3 fun e w' => ∃ L v', e = .returned v' ∧ CellsFrom w3.heap.size w' v' L ∧ Strict L ∧ (∀ x, x ∈ L ↔ (updU (fun _ => none) (1, 1) al x).any (anyHas (2, 1)) = true) ∧ Kp w3 w' Nul) := HUs
  clear hset hl3 hk3 hst3 hA3 hB3 HUs hal HSet HNew
  go_wp2_with fail
  refine HU.out.mono ?_
  rintro e w4 ⟨L, v4, rfl, ⟨a4, c4, rfl, h4⟩, hs4, hm4, hk4⟩
  have hL := awake_users HAl.out hs4 hm4
  subst hL
  obtain ⟨b4, rfl, hb4⟩ : ∃ b4, a4 = some ⟨b4, 0, none⟩ ∧ CellsAt w4 b4 0 [(1, 1)] := by
    rcases h4 with ⟨_, e⟩ | ⟨b, e1, _, e3⟩
    · cases e
    · exact ⟨b, e1, e3⟩
  have HC4 : Hid (CellsAt w4 b4 0 [(1, 1)]) := hb4
  have HA4 : Hid (Blk w4 (w.heap.size + 1) [.int .i64 1, .int .i64 1] 29) := HA3.out.kp hk4 (fun x => x)
  have HB4 : Hid (Blk w4 (w.heap.size + 1 + 1) [.int .i64 2, .int .i64 1] 29) := HB3.out.kp hk4 (fun x => x)
  have HK4 : Hid (Kp w w4 Nul) := HK3.out.trans hk4
  have HL4 : Hid (LinksIn w4 (Fr w.heap.size) w.heap.size (updU (fun _ => none) (1, 1) al) 1) := HL3.out.kp hk4 (fun _ _ x => x)
  have d1 : w4.cell? ⟨w.heap.size + 1 + 1, 0, none⟩ = some (.int .i64 2) := HB4.out.cell rfl
  have d2 : w4.cell? ⟨w.heap.size + 1 + 1, 1, none⟩ = some (.int .i64 1) := HB4.out.cell rfl
  have d3 : w4.cell? ⟨w.heap.size + 1, 0, none⟩ = some (.int .i64 1) := HA4.out.cell rfl
  have d4 : w4.cell? ⟨w.heap.size + 1, 1, none⟩ = some (.int .i64 1) := HA4.out.cell rfl
  have hb5 := Blk.new w4 [.int .i64 1, .int .i64 1, .int .i64 2, .int .i64 1] 29
  have hc5 : CellsAt (w4.alloc (.cells #[.int .i64 1, .int .i64 1, .int .i64 2, .int .i64 1] 29)) w4.heap.size 0 [(1, 1), (2, 1)] := fun i x hx => by
    match i, hx with
    | 0, hx => cases hx; exact ⟨hb5.cell rfl, hb5.cell rfl⟩
    | 1, hx => cases hx; exact ⟨hb5.cell rfl, hb5.cell rfl⟩
  have k45 : Kp w4 (w4.alloc (.cells #[.int .i64 1, .int .i64 1, .int .i64 2, .int .i64 1] 29)) Nul := (Kp.refl w4 Nul).alloc _
  have HO : Hid (Calls Tryz.prog 24 #[.pointer (some ⟨w.heap.size, 0, none⟩), .slice (some ⟨w4.heap.size, 0, none⟩) 2 2] (w4.alloc (.cells #[.int .i64 1, .int .i64 1, .int .i64 2, .int .i64 1] 29)) fun e w' => ∃ b c, e = .returned (.tuple #[.slice (some ⟨b, 0, none⟩) 2 c, .int .i64 0]) ∧ CellsAt w' b 0 [(2, 1), (1, 1)] ∧ Kp w4 w' Nul) := by
    have ho := order_at w.heap.size 1 (updU (fun _ => none) (1, 1) al) [(1, 1), (2, 1)] (some ⟨w4.heap.size, 0, none⟩) 2 _ ((HL4.out.kp k45 (fun _ _ x => x)).mono (fun b hb _ => hb)) (by decide) (fun _ => ⟨_, _, rfl, hc5⟩)
    refine ho.mono ?_
    rintro e w' ⟨v, er, rfl, hk, h⟩
    rcases h with ⟨h, _⟩ | ⟨_, h⟩
    · exact absurd h (by decide)
    · obtain ⟨rfl, b, c, rfl, hc⟩ := awake_order HAl.out h
      exact ⟨b, c, rfl, hc, k45.trans hk⟩
  clear hs4 hm4 hk4 h4 hb4 hb5 hc5 k45 HU b1 b2
  go_wp2_with fail
  refine HO.out.mono ?_
  rintro e w6 ⟨b6, c6, rfl, hc6, hk6⟩
  have hA6 := HA4.out.kp hk6 (fun x => x)
  have hB6 := HB4.out.kp hk6 (fun x => x)
  obtain ⟨e1, e2⟩ := (HC4.out.kp hk6 (fun x => x)) 0 _ rfl
  obtain ⟨f1, f2⟩ := hc6 0 _ rfl
  simp only [Nat.zero_mul, Nat.add_zero, Nat.zero_add] at e1 e2 f1 f2
  have g1 : w6.cell? ⟨w.heap.size + 1 + 1, 0, none⟩ = some (.int .i64 2) := hB6.cell rfl
  have g2 : w6.cell? ⟨w.heap.size + 1 + 1, 1, none⟩ = some (.int .i64 1) := hB6.cell rfl
  have g3 : w6.cell? ⟨w.heap.size + 1, 0, none⟩ = some (.int .i64 1) := hA6.cell rfl
  have g4 : w6.cell? ⟨w.heap.size + 1, 1, none⟩ = some (.int .i64 1) := hA6.cell rfl
  have h1 := eql_addr 1 1 1 1 true (by decide)
  have h2 := eql_addr 2 1 2 1 true (by decide)
  have HK6 : Hid (Kp w w6 Nul) := HK4.out.trans hk6
  clear hc6 hk6 hA6 hB6 HO d1 d2 d3 d4
  go_wp2_with fail
  go_quiet (fail)
  go_wp2_with fail
  go_ret
  exact ⟨rfl, HK6.out.drewN _⟩
end Go.Proofs.YtkgolfmnlbmmeaaGreatDoor
