/- LinksFull: the walk. -/
import Derived.Test.YtkgolfmnlbmmeaaVe
namespace Go.Proofs.Ytkgolfmnlbmmeaa
open Go.RowKit Go.Sort Go.Lib Go.Maps

def FullR (w1 : World) (l : Nat) (s : Value) (wr : World) : Prop := ∃ k : Nat, k ≤ 4096 ∧ s = .int .i64 (k : Int) ∧ LinksIn wr (Fr l) l (usF k) k ∧ Kp w1 wr Nul
/-- Set with no areas. -/
theorem set_none (l n : Nat) (us : Int × Int → Option (List Ar)) (c r : Int) (w : World) (h : LinksIn w (Fr l) l us n) (hx : VC (c, r)) (hn : n ≤ 4096) (hB : l ≤ w.heap.size) :
    Calls Try.prog 12 #[.pointer (some ⟨l, 0, none⟩), .agg #[.int .i64 c, .int .i64 r], .slice none 0 0] w fun e w' => ∃ er us' n', e = .returned (.int .i64 er) ∧ SetIs us n (c, r) [] er us' n' ∧ LinksIn w' (Fr l) l us' n' ∧ Kp w w' (Fr l) ∧ (∀ i cs, Blk w i cs 34 → Blk w' i cs 34) := by
  have hmx : (4096 : Nat) < maxLen := by decide
  exact set_at l l n us c r [] none 0 w h hx.i64.1 hx.i64.2 (by decide) (fun h => absurd h (Nat.lt_irrefl _)) (by omega) hB
theorem full_round {w1 wr : World} {l k : Nat} (hl : LinksIn wr (Fr l) l (usF k) k) (hk : Kp w1 wr Nul) (h1 : w1.heap.size = l) (hlt : k < 4096) (c r : Int) (hc : 1 ≤ c ∧ c ≤ 256) (hr : 1 ≤ r) (he : (r - 1) * 256 + (c - 1) = (k : Int)) :
    Calls Try.prog 12 #[.pointer (some ⟨l, 0, none⟩), .agg #[.int .i64 c, .int .i64 r], .slice none 0 0] wr fun e w' => e = .returned (.int .i64 0) ∧ FullR w1 l (.int .i64 ((k + 1 : Nat) : Int)) w' := by
  refine (set_none l k (usF k) c r wr hl (by unfold VC; simp only; omega) (by omega) (by rw [← h1]; exact hk.size)).mono ?_
  rintro e w' ⟨er, us', n', rfl, hs, hl', hk', _⟩
  obtain ⟨rfl, rfl, rfl⟩ := full_step hlt hc hr he hs
  exact ⟨rfl, k + 1, by omega, rfl, hl', hk.trans' hk' (fun i hi e => by have : l ≤ i := e; omega)⟩
/-- What rest and the store make of a new cell. -/
theorem cut_addr {wr : World} {x y i j m : Int} (h1 : 0 ≤ x) (h2 : x < 256) (h3 : 0 ≤ y) (h4 : y < m) (hi : 0 ≤ i ∧ i ≤ 17 := by omega) (hj : 0 ≤ j ∧ j ≤ 17 := by omega) (hm : m ≤ 4096 := by omega) : (0 ≤ x ∧ x < 256 ∧ 0 ≤ y ∧ y < m) ∧ Blk (wr.alloc (.cells #[.int .i64 (IntKind.i64.wrap (i + x)), .int .i64 (IntKind.i64.wrap (j + y))] 34)).drew wr.heap.size [.int .i64 (i + x), .int .i64 (j + y)] 34 ∧
    Kp wr (wr.alloc (.cells #[.int .i64 (IntKind.i64.wrap (i + x)), .int .i64 (IntKind.i64.wrap (j + y))] 34)).drew Nul := by
  have e1 : IntKind.i64.wrap (i + x) = i + x := by rw [IntKind.wrap_i64]; omega
  have e2 : IntKind.i64.wrap (j + y) = j + y := by rw [IntKind.wrap_i64]; omega
  rw [e1, e2]
  exact ⟨⟨h1, h2, h3, h4⟩, (Blk.new wr [.int .i64 (i + x), .int .i64 (j + y)] _).drew, ((Kp.refl wr Nul).alloc _).drew⟩
/-- How it stands behind the loop: the links, the two cells' own blocks. -/
structure FS (w : World) (l pa pb : Nat) (a b : Int × Int) (us : Int × Int → Option (List Ar)) (n : Nat) (u : World) : Prop where
  li : LinksIn u (Fr l) l us n
  kw : Kp w u Nul
  ba : Blk u pa [.int .i64 a.1, .int .i64 a.2] 34
  bb : Blk u pb [.int .i64 b.1, .int .i64 b.2] 34
  lu : l ≤ u.heap.size
  lw : w.heap.size ≤ l
section
variable {w u u' : World} {l pa pb : Nat} {a b : Int × Int} {us us' : Int × Int → Option (List Ar)} {n n' : Nat}
theorem FS.step (h : FS w l pa pb a b us n u) (hl : LinksIn u' (Fr l) l us' n') (hk : Kp u u' (Fr l)) (hs : ∀ i cs, Blk u i cs 34 → Blk u' i cs 34) : FS w l pa pb a b us' n' u' :=
  ⟨hl, h.kw.trans' hk (fun i hi e => by have h1 : l ≤ i := e; have := h.lw; omega), hs _ _ h.ba, hs _ _ h.bb, Nat.le_trans h.lu hk.size, h.lw⟩
theorem FS.kp (h : FS w l pa pb a b us n u) (hk : Kp u u' Nul) : FS w l pa pb a b us n u' :=
  ⟨h.li.kp hk (fun _ _ x => x), h.kw.trans hk, h.ba.kp hk (fun x => x), h.bb.kp hk (fun x => x), Nat.le_trans h.lu hk.size, h.lw⟩
theorem fs_full (h : FS w l pa pb a b us 4096 u) {c r : Int} (hx : VC (c, r)) (hu : us (c, r) = none) :
    Calls Try.prog 12 #[.pointer (some ⟨l, 0, none⟩), .agg #[.int .i64 c, .int .i64 r], .slice none 0 0] u fun e w' => e = .returned (.int .i64 41) ∧ FS w l pa pb a b us 4096 w' := by
  refine (set_none l 4096 us c r u h.li hx (Nat.le_refl _) h.lu).mono ?_
  rintro e w' ⟨er, us', n', rfl, hs, hl', hk', hst⟩
  obtain ⟨rfl, rfl, rfl⟩ := set_full hx hu hs
  exact ⟨rfl, h.step hl' hk' hst⟩
theorem fs_new (h : FS w l pa pb a b us n u) {c r : Int} (hx : VC (c, r)) (hu : us (c, r) = none) (hn : n < 4096) :
    Calls Try.prog 12 #[.pointer (some ⟨l, 0, none⟩), .agg #[.int .i64 c, .int .i64 r], .slice none 0 0] u fun e w' => e = .returned (.int .i64 0) ∧ FS w l pa pb a b (updU us (c, r) []) (n + 1) w' := by
  refine (set_none l n us c r u h.li hx (by omega) h.lu).mono ?_
  rintro e w' ⟨er, us', n', rfl, hs, hl', hk', hst⟩
  obtain ⟨rfl, rfl, rfl⟩ := set_new hx hu hn hs
  exact ⟨rfl, h.step hl' hk' hst⟩
theorem fs_again (h : FS w l pa pb a b us n u) {c r : Int} {g : Nat} (hx : VC (c, r)) (hy : VC b) (hu : (us (c, r)).isSome = true) (hn : n ≤ 4096) (hg : Blk u g [.int .i64 b.1, .int .i64 b.2, .int .i64 b.1, .int .i64 b.2] 41) :
    Calls Try.prog 12 #[.pointer (some ⟨l, 0, none⟩), .agg #[.int .i64 c, .int .i64 r], .slice (some ⟨g, 0, none⟩) 1 1] u fun e w' => ∃ al, e = .returned (.int .i64 0) ∧ (∀ x, x ∈ al ↔ x = (⟨b.1, b.2, b.1, b.2⟩ : Ar)) ∧ FS w l pa pb a b (updU us (c, r) al) n w' := by
  have hmx : (4096 : Nat) < maxLen := by decide
  have hat : AreasAt u g 0 [⟨b.1, b.2, b.1, b.2⟩] := fun i x hx => by
    match i, hx with
    | 0, hx => cases hx; exact ⟨hg.cell rfl, hg.cell rfl, hg.cell rfl, hg.cell rfl⟩
  refine (set_at l l n us c r [⟨b.1, b.2, b.1, b.2⟩] (some ⟨g, 0, none⟩) 1 u h.li hx.i64.1 hx.i64.2 (by simp) (fun _ => ⟨g, 0, rfl, hat⟩) (by omega) h.lu).mono ?_
  rintro e w' ⟨er, us', n', rfl, hs, hl', hk', hst⟩
  obtain ⟨rfl, rfl, al, hal, rfl⟩ := set_again hx hy hu hs
  exact ⟨al, rfl, hal, h.step hl' hk' hst⟩
theorem fs_drop (h : FS w l pa pb a b us n u) {c r : Int} (hx : VC (c, r)) (hu : (us (c, r)).isSome = true) :
    Calls Try.prog 14 #[.pointer (some ⟨l, 0, none⟩), .agg #[.int .i64 c, .int .i64 r]] u fun e w' => e = .returned (.bool true) ∧ FS w l pa pb a b (delU us (c, r)) (n - 1) w' := by
  refine (dropL_at l l n us c r u h.li hx.i64.1 hx.i64.2).mono ?_
  rintro e w' ⟨rfl, hl', hk', hst⟩
  rw [hu]
  have e : cntD us (c, r) n = n - 1 := by unfold cntD; rw [if_pos hu]
  rw [e] at hl'
  exact ⟨rfl, h.step hl' hk' hst⟩
theorem fs_users {us0 : List Ar} (h : FS w l pa pb a b (updU (usF 4096) a us0) 4096 u) (hb : VC b) (hal : ∀ x, x ∈ us0 ↔ x = (⟨b.1, b.2, b.1, b.2⟩ : Ar)) :
    Calls Try.prog 10 #[.pointer (some ⟨l, 0, none⟩), .agg #[.int .i64 b.1, .int .i64 b.2]] u fun e w' => ∃ ad cc, e = .returned (.slice ad 1 cc) ∧ FS w l pa pb a b (updU (usF 4096) a us0) 4096 w' := by
  refine (users_at (Fr l) l 4096 (updU (usF 4096) a us0) b.1 b.2 u h.li (by decide)).mono ?_
  rintro e w' ⟨L, v', rfl, ⟨ad, cc, rfl, _⟩, hst, hmm, hk'⟩
  have hL := full_users hb hal hst hmm
  subst hL
  exact ⟨ad, cc, rfl, h.kp hk'⟩
end
set_option maxRecDepth 20000 in
set_option maxHeartbeats 20000000 in
theorem full_law (c r d s : Int) (hc : I64 c) (hr : I64 r) (hd : I64 d) (hs : I64 s) (w : World) :
    Calls Try.prog 4 #[.agg #[.int .i64 c, .int .i64 r], .agg #[.int .i64 d, .int .i64 s]] w fun e w' => e = .returned (.bool true) ∧ Kp w w' Nul := by
  obtain ⟨W, hW⟩ : ∃ W, (w.alloc (.cells #[.int .i64 c, .int .i64 r] 34)).alloc (.cells #[.int .i64 d, .int .i64 s] 34) = W := ⟨_, rfl⟩
  have HW : Hid ((w.alloc (.cells #[.int .i64 c, .int .i64 r] 34)).alloc (.cells #[.int .i64 d, .int .i64 s] 34) = W) := hW
  have HKW : Hid (Kp w W Nul) := by show Kp w W Nul; rw [← hW]; exact ((Kp.refl w Nul).alloc _).alloc _
  have HB1 : Hid (Blk W w.heap.size [.int .i64 c, .int .i64 r] 34) := by show Blk _ _ _ _; rw [← hW]; exact (Blk.new w [.int .i64 c, .int .i64 r] _).alloc _
  have HB2 : Hid (Blk W (w.heap.size + 1) [.int .i64 d, .int .i64 s] 34) := by
    show Blk _ _ _ _
    have := Blk.new (w.alloc (.cells #[.int .i64 c, .int .i64 r] 34)) [.int .i64 d, .int .i64 s] 34
    rw [World.size_alloc] at this
    rw [← hW]; exact this
  have HAw : Hid (Calls Try.prog 5 #[] W fun e w' => e = .returned (.bool true) ∧ Kp W w' Nul) := awake_at W
  have HNew : Hid (∀ wq, Calls Try.prog 11 #[] wq fun e w' => e = .returned (.pointer (some ⟨wq.heap.size, 0, none⟩)) ∧ LinksIn w' (Fr wq.heap.size) wq.heap.size (fun _ => none) 0 ∧ Kp wq w' Nul) := fun wq => (newL_at wq).mono fun e w' ⟨h1, h2⟩ => ⟨h1, by rw [h2]; exact links_new wq _ (Nat.le_refl _), by rw [h2]; exact (Kp.refl wq Nul).alloc _⟩
  have HR : Hid (∀ (x n : Int), Hid (I64 x) → (0 < n ∧ n ≤ 4096) → ∀ w, Calls Try.prog 13 #[.int .i64 x, .int .i64 n] w fun e w' => (∃ q : Int, e = .returned (.int .i64 q) ∧ 0 ≤ q ∧ q < n) ∧ w' = w) := fun x n hx hn w => by
    have := rest_at x n.toNat hx.out (by omega) (by omega) w
    rw [Int.toNat_of_nonneg (by omega)] at this
    exact this
  have HC : Hid (I64 c) := hc
  have HRr : Hid (I64 r) := hr
  have HD : Hid (I64 d) := hd
  have HSs : Hid (I64 s) := hs
  clear hW hc hr hd hs
  go_enter Try.func4, Try.ntmps4
  go_wp2_with fail
  rw [HW.out]
  refine HAw.out.mono ?_
  rintro e w1 ⟨rfl, hk1⟩
  have HK1 : Hid (Kp W w1 Nul) := hk1
  clear hk1 HAw
  go_wp2_with fail
  refine (HNew.out w1).mono ?_
  rintro e w2 ⟨rfl, hl2, hk2⟩
  obtain ⟨l, hlw⟩ : ∃ l, w1.heap.size = l := ⟨_, rfl⟩
  have HLw : Hid (w1.heap.size = l) := hlw
  rw [hlw] at hl2 ⊢
  have HS : Hid (FullR w1 l (.int .i64 0) w2) := ⟨0, Nat.zero_le _, rfl, by rw [usF_zero]; exact hl2, hk2⟩
  clear hl2 hk2 HNew hlw
  go_wp2_with fail
  go_loopw [7] (fun s wr => FullR w1 l s wr) (fun s _ => 4096 - (intOf s).toNat)
  case atStart => exact HS.out
  case round =>
    clear HS
    obtain ⟨k, hk, rfl, hlk, hkp⟩ := hrel
    have HL : Hid (LinksIn wr (Fr l) l (usF k) k) := hlk
    have HKr : Hid (Kp w1 wr Nul) := hkp
    clear hlk hkp
    by_cases hlt : k < 4096
    · have j1 : (k : Int) < 4096 := by omega
      have HSet : Hid (∀ c r : Int, 1 ≤ c ∧ c ≤ 256 → 1 ≤ r → (r - 1) * 256 + (c - 1) = (k : Int) → Calls Try.prog 12 #[.pointer (some ⟨l, 0, none⟩), .agg #[.int .i64 c, .int .i64 r], .slice none 0 0] wr fun e w' => e = .returned (.int .i64 0) ∧ FullR w1 l (.int .i64 ((k + 1 : Nat) : Int)) w') := fun c r hc hr he => full_round HL.out HKr.out HLw.out hlt c r hc hr he
      go_wp2_with fail
      refine (HSet.out _ _ (by omega) (by omega) (by omega)).mono ?_
      rintro e w3 ⟨rfl, hm⟩
      have HM : Hid (FullR w1 l (.int .i64 ((k + 1 : Nat) : Int)) w3) := hm
      clear hm
      go_wp2_with fail
      go_roundw
      case rel => exact HM.out
      case measure => simp only [intOf]; omega
    · have e4 : k = 4096 := by omega
      subst e4
      have j1 : ¬ ((4096 : Nat) : Int) < 4096 := by omega
      have hb1 := (HB1.out.kp HK1.out (fun x => x)).kp HKr.out (fun x => x)
      have q1 : wr.cell? ⟨w.heap.size, 0, none⟩ = some (.int .i64 c) := hb1.cell rfl
      have q2 : wr.cell? ⟨w.heap.size, 1, none⟩ = some (.int .i64 r) := hb1.cell rfl
      have hlt1 : w.heap.size < wr.heap.size := hb1.lt
      have q3 : ∀ o, (wr.drew.alloc o).cell? ⟨w.heap.size, 0, none⟩ = some (.int .i64 c) := fun o => (hb1.kp (((Kp.refl wr Nul).drew).alloc o) (fun x => x)).cell rfl
      have q4 : ∀ o, (wr.drew.alloc o).cell? ⟨w.heap.size, 1, none⟩ = some (.int .i64 r) := fun o => (hb1.kp (((Kp.refl wr Nul).drew).alloc o) (fun x => x)).cell rfl
      clear hb1 hk hlt
      go_wp2_with fail
      go_cut [9] from 40 (fun v w' => ∃ x y : Int, v = .pointer (some ⟨wr.heap.size, 0, none⟩) ∧ (0 ≤ x ∧ x < 256 ∧ 0 ≤ y ∧ y < 16) ∧ Blk w' wr.heap.size [.int .i64 (1 + x), .int .i64 (1 + y)] 34 ∧ Kp wr w' Nul)
      case first =>
        go_region_with ((go_at_call 13; refine (HR.out _ _ (by first | exact HC | exact HRr) (by omega) _).mono ?_; rintro e wz ⟨⟨x, rfl, hx1, hx2⟩, hz⟩; replace hz := hz.symm; subst hz))
        all_goals
          go_wp2_with fail
          go_meet
          case rel => exact ⟨_, _, rfl, cut_addr (by assumption) (by assumption) (by assumption) (by assumption)⟩
      case rest =>
        obtain ⟨x, y, rfl, hxy, hA, hkA⟩ := hcut
        obtain ⟨pa, hpa⟩ : ∃ pa, wr.heap.size = pa := ⟨_, rfl⟩
        rw [hpa] at hA ⊢
        obtain ⟨a1, ha1⟩ : ∃ a1, 1 + x = a1 := ⟨_, rfl⟩
        obtain ⟨a2, ha2⟩ : ∃ a2, 1 + y = a2 := ⟨_, rfl⟩
        rw [ha1, ha2] at hA
        have HVA : Hid (VC (a1, a2) ∧ a2 ≤ 16) := by show VC _ ∧ _; unfold VC; simp only; omega
        have HA : Hid (Blk wc pa [.int .i64 a1, .int .i64 a2] 34) := hA
        have HKA : Hid (Kp wr wc Nul) := hkA
        have hb2 := ((HB2.out.kp HK1.out (fun x => x)).kp HKr.out (fun x => x)).kp hkA (fun x => x)
        have q5 : wc.cell? ⟨w.heap.size + 1, 0, none⟩ = some (.int .i64 d) := hb2.cell rfl
        have q6 : wc.cell? ⟨w.heap.size + 1, 1, none⟩ = some (.int .i64 s) := hb2.cell rfl
        have hlt2 : w.heap.size + 1 < wc.heap.size := hb2.lt
        have q7 : ∀ o, (wc.drew.alloc o).cell? ⟨w.heap.size + 1, 0, none⟩ = some (.int .i64 d) := fun o => (hb2.kp (((Kp.refl wc Nul).drew).alloc o) (fun x => x)).cell rfl
        have q8 : ∀ o, (wc.drew.alloc o).cell? ⟨w.heap.size + 1, 1, none⟩ = some (.int .i64 s) := fun o => (hb2.kp (((Kp.refl wc Nul).drew).alloc o) (fun x => x)).cell rfl
        clear hb2 hA hkA ha1 ha2 hxy q1 q2 q3 q4 hlt1 hpa x y
        obtain ⟨wp, rfl⟩ : ∃ wp, wp = wc := ⟨wc, rfl⟩
        go_wp2_with fail
        go_cut [10] from 49 (fun v w' => ∃ x y : Int, v = .pointer (some ⟨wp.heap.size, 0, none⟩) ∧ (0 ≤ x ∧ x < 256 ∧ 0 ≤ y ∧ y < 4080) ∧ Blk w' wp.heap.size [.int .i64 (1 + x), .int .i64 (17 + y)] 34 ∧ Kp wp w' Nul)
        case first =>
          go_region_with ((go_at_call 13; refine (HR.out _ _ (by first | exact HD | exact HSs) (by omega) _).mono ?_; rintro e wz ⟨⟨x, rfl, hx1, hx2⟩, hz⟩; replace hz := hz.symm; subst hz))
          all_goals
            go_wp2_with fail
            go_meet
            case rel => exact ⟨_, _, rfl, cut_addr (by assumption) (by assumption) (by assumption) (by assumption)⟩
        case rest =>
          clear q5 q6 q7 q8 hlt2
          obtain ⟨x, y, rfl, hxy, hB, hkB⟩ := hcut
          obtain ⟨pb, hpb⟩ : ∃ pb, wp.heap.size = pb := ⟨_, rfl⟩
          rw [hpb] at hB ⊢
          obtain ⟨b1, hb1⟩ : ∃ b1, 1 + x = b1 := ⟨_, rfl⟩
          obtain ⟨b2, hb2⟩ : ∃ b2, 17 + y = b2 := ⟨_, rfl⟩
          rw [hb1, hb2] at hB
          have HVB : Hid (VC (b1, b2) ∧ 17 ≤ b2) := by show VC _ ∧ _; unfold VC; simp only; omega
          have hlW : w.heap.size ≤ l := by
            rw [← HLw.out]
            exact Nat.le_trans HKW.out.size HK1.out.size
          have hkp2 : Kp wr wc Nul := HKA.out.trans hkB
          have hfs : FS w l pa pb (a1, a2) (b1, b2) (usF 4096) 4096 wc := ⟨HL.out.kp hkp2 (fun _ _ x => x), ((HKW.out.trans HK1.out).trans HKr.out).trans hkp2, HA.out.kp hkB (fun x => x), hB, by rw [← HLw.out]; exact Nat.le_trans HKr.out.size hkp2.size, hlW⟩
          have HFS : Hid (FS w l pa pb (a1, a2) (b1, b2) (usF 4096) 4096 wc) := hfs
          clear hB hkB hb1 hb2 hxy hlW hkp2 hfs hpb HA HKA HL HKr HB1 HB2 HK1 HKW HR HC HRr HD HSs HLw HW j1 x y
          have hnb : usF 4096 (b1, b2) = none := by
            have := usF_all HVB.out.1
            have h17 := HVB.out.2
            simp only at this
            rw [show decide (b2 ≤ 16) = false by simpa using (by omega : 16 < b2)] at this
            cases hu : usF 4096 (b1, b2) with
            | none => rfl
            | some al => rw [hu] at this; cases this
          have hsa : (usF 4096 (a1, a2)).isSome = true := by
            have := usF_all HVA.out.1
            rw [this]; simpa using HVA.out.2
          have HNB : Hid (usF 4096 (b1, b2) = none) := hnb
          have HSA : Hid ((usF 4096 (a1, a2)).isSome = true) := hsa
          have HAB : Hid (((a1, a2) : Int × Int) ≠ (b1, b2)) := fun e => by
            have h1 := HVA.out.2
            have h2 := HVB.out.2
            cases e
            omega
          have c1 : wc.cell? ⟨pb, 0, none⟩ = some (.int .i64 b1) := HFS.out.bb.cell rfl
          have c2 : wc.cell? ⟨pb, 1, none⟩ = some (.int .i64 b2) := HFS.out.bb.cell rfl
          have H1 : Hid (Calls Try.prog 12 #[.pointer (some ⟨l, 0, none⟩), .agg #[.int .i64 b1, .int .i64 b2], .slice none 0 0] wc fun e w' => e = .returned (.int .i64 41) ∧ FS w l pa pb (a1, a2) (b1, b2) (usF 4096) 4096 w') := fs_full HFS.out HVB.out.1 hnb
          clear hnb hsa HFS
          go_wp2_with fail
          refine H1.out.mono ?_
          rintro e w3 ⟨rfl, hf3⟩
          have d1 : w3.cell? ⟨pb, 0, none⟩ = some (.int .i64 b1) := hf3.bb.cell rfl
          have d2 : w3.cell? ⟨pb, 1, none⟩ = some (.int .i64 b2) := hf3.bb.cell rfl
          have d3 : w3.cell? ⟨pa, 0, none⟩ = some (.int .i64 a1) := hf3.ba.cell rfl
          have d4 : w3.cell? ⟨pa, 1, none⟩ = some (.int .i64 a2) := hf3.ba.cell rfl
          have hg := Blk.new w3 [.int .i64 b1, .int .i64 b2, .int .i64 b1, .int .i64 b2] 41
          have H2 : Hid (Calls Try.prog 12 #[.pointer (some ⟨l, 0, none⟩), .agg #[.int .i64 a1, .int .i64 a2], .slice (some ⟨w3.heap.size, 0, none⟩) 1 1] (w3.alloc (.cells #[.int .i64 b1, .int .i64 b2, .int .i64 b1, .int .i64 b2] 41)) fun e w' => ∃ al, e = .returned (.int .i64 0) ∧ (∀ x, x ∈ al ↔ x = (⟨b1, b2, b1, b2⟩ : Ar)) ∧ FS w l pa pb (a1, a2) (b1, b2) (updU (usF 4096) (a1, a2) al) 4096 w') :=
            fs_again (hf3.kp ((Kp.refl w3 Nul).alloc _)) HVA.out.1 HVB.out.1 HSA.out (Nat.le_refl _) hg
          clear c1 c2 H1 hf3 hg
          go_wp2_with fail
          refine H2.out.mono ?_
          rintro e w4 ⟨al, rfl, hal, hf4⟩
          have c1 : w4.cell? ⟨pb, 0, none⟩ = some (.int .i64 b1) := hf4.bb.cell rfl
          have c2 : w4.cell? ⟨pb, 1, none⟩ = some (.int .i64 b2) := hf4.bb.cell rfl
          have H3 : Hid (Calls Try.prog 10 #[.pointer (some ⟨l, 0, none⟩), .agg #[.int .i64 b1, .int .i64 b2]] w4 fun e w' => ∃ ad cc, e = .returned (.slice ad 1 cc) ∧ FS w l pa pb (a1, a2) (b1, b2) (updU (usF 4096) (a1, a2) al) 4096 w') := fs_users hf4 HVB.out.1 hal
          clear d1 d2 d3 d4 H2 hf4 hal
          go_wp2_with fail
          refine H3.out.mono ?_
          rintro e w5 ⟨ad, cc, rfl, hf5⟩
          have d3 : w5.cell? ⟨pa, 0, none⟩ = some (.int .i64 a1) := hf5.ba.cell rfl
          have d4 : w5.cell? ⟨pa, 1, none⟩ = some (.int .i64 a2) := hf5.ba.cell rfl
          have H4 : Hid (Calls Try.prog 14 #[.pointer (some ⟨l, 0, none⟩), .agg #[.int .i64 a1, .int .i64 a2]] w5 fun e w' => e = .returned (.bool true) ∧ FS w l pa pb (a1, a2) (b1, b2) (delU (updU (usF 4096) (a1, a2) al) (a1, a2)) 4095 w') := fs_drop hf5 HVA.out.1 (by unfold updU; rw [if_pos rfl]; rfl)
          clear c1 c2 H3 hf5
          go_wp2_with fail
          refine H4.out.mono ?_
          rintro e w6 ⟨rfl, hf6⟩
          have c1 : w6.cell? ⟨pb, 0, none⟩ = some (.int .i64 b1) := hf6.bb.cell rfl
          have c2 : w6.cell? ⟨pb, 1, none⟩ = some (.int .i64 b2) := hf6.bb.cell rfl
          have H5 : Hid (Calls Try.prog 12 #[.pointer (some ⟨l, 0, none⟩), .agg #[.int .i64 b1, .int .i64 b2], .slice none 0 0] w6 fun e w' => e = .returned (.int .i64 0) ∧ FS w l pa pb (a1, a2) (b1, b2) (updU (delU (updU (usF 4096) (a1, a2) al) (a1, a2)) (b1, b2) []) 4096 w') := fs_new hf6 HVB.out.1 (by
            unfold delU updU
            rw [if_neg (fun e => HAB.out e.symm), if_neg (fun e => HAB.out e.symm)]
            exact HNB.out) (by omega)
          clear d3 d4 H4 hf6
          go_wp2_with fail
          refine H5.out.mono ?_
          rintro e w7 ⟨rfl, hf7⟩
          have d3 : w7.cell? ⟨pa, 0, none⟩ = some (.int .i64 a1) := hf7.ba.cell rfl
          have d4 : w7.cell? ⟨pa, 1, none⟩ = some (.int .i64 a2) := hf7.ba.cell rfl
          have H6 : Hid (Calls Try.prog 12 #[.pointer (some ⟨l, 0, none⟩), .agg #[.int .i64 a1, .int .i64 a2], .slice none 0 0] w7 fun e w' => e = .returned (.int .i64 41) ∧ FS w l pa pb (a1, a2) (b1, b2) (updU (delU (updU (usF 4096) (a1, a2) al) (a1, a2)) (b1, b2) []) 4096 w') := fs_full hf7 HVA.out.1 (by
            unfold updU delU
            rw [if_neg HAB.out, if_pos rfl])
          clear c1 c2 H5 hf7
          go_wp2_with fail
          refine H6.out.mono ?_
          rintro e w8 ⟨rfl, hf8⟩
          have H7 : Hid (Calls Try.prog 15 #[.pointer (some ⟨l, 0, none⟩)] w8 fun e w' => e = .returned (.int .i64 ((4096 : Nat) : Int)) ∧ w' = w8) := len_at (Fr l) l 4096 _ w8 hf8.li
          have HK8 : Hid (Kp w w8 Nul) := hf8.kw
          clear d3 d4 H6 hf8
          go_wp2_with fail
          refine H7.out.mono ?_
          rintro e w9 ⟨rfl, hz⟩
          replace hz := hz.symm
          subst hz
          clear H7
          go_wp2_with fail
          go_ret
          exact ⟨rfl, HK8.out⟩
end Go.Proofs.Ytkgolfmnlbmmeaa
