/- turns, walked. -/
import Derived.Test.YtdlieecpckpemaaGreatDoorLcYv
import Derived.Test.YtdlieecpckpemaaGreatDoorLcYk
namespace Go.Proofs.YtdlieecpckpemaaGreatDoor
open Go.RowKit

/-- Which places use which. -/
def useP (L : List (Int × Int)) (us : Int × Int → Option (List Ar)) (p q : Nat) : Bool := match L[p]? with | some x => ((us x).getD []).any (fun a => inPl L a q) | none => false
/-- The blocks of turns are new. -/
structure ENew (w : World) (E : Tb) : Prop where
  new : w.heap.size ≤ E.B ∧ w.heap.size ≤ E.ub ∧ w.heap.size ≤ E.mb ∧ w.heap.size ≤ E.un ∧ w.heap.size ≤ E.qb ∧ w.heap.size ≤ E.sb ∧ w.heap.size ≤ E.wb
  ne : E.mb ≠ E.un
def PutR (w1 : World) (E : Tb) (L : List (Int × Int)) (s : Value) (wr : World) : Prop := ∃ k : Nat, k ≤ L.length ∧ s = .int .i64 (k : Int) ∧ Blk wr E.un (wds (fun q => decide (q < k)) ((L.length + 63) / 64)) 122 ∧ Kp w1 wr (fun i => i = E.un)
def TurR (w : World) (E : Tb) (L : List (Int × Int)) (us : Int × Int → Option (List Ar)) (s : Value) (wr : World) : Prop := ∃ k : Nat, k ≤ L.length ∧ s = .int .i64 (k : Int) ∧ TurnsR w E L (useP L us) k wr
/-- The map's block as it was. -/
def Ms (w : World) (mv : Option Nat) (w' : World) : Prop := ∀ m, mv = some m → w'.heap[m]? = w.heap[m]?
/-- The variable in which a cell's address lies. -/
def atW (wr : World) (c r : Int) : World := wr.alloc (.cells #[.int .i64 c, .int .i64 r] 29)
theorem atW_kp (wr : World) (c r : Int) : Kp wr (atW wr c r) Nul := (Kp.refl wr Nul).alloc _
theorem atW_blk (wr : World) (c r : Int) : Blk (atW wr c r) wr.heap.size [.int .i64 c, .int .i64 r] 29 := Blk.new wr [.int .i64 c, .int .i64 r] 29
theorem atW_size (wr : World) (c r : Int) : (atW wr c r).heap.size = wr.heap.size + 1 := World.size_alloc _ _
/-- Blocks other than those that the region reads. -/
def Oth (wr : World) (l : Nat) (mv : Option Nat) : Nat → Prop := fun i => i ≠ l ∧ i ≠ wr.heap.size ∧ ∀ m, mv = some m → i ≠ m
theorem rd_of {w wr : World} {l : Nat} {c r x y : Int} {mv : Option Nat} {v : Value} {b : Bool} (h : Lk w l x y mv v b) (hk : Kp w wr Nul) {w' : World} (g : Kp (atW wr c r) w' (Oth wr l mv)) : (w'.cell? ⟨l, 0, none⟩ = some (.map mv) ∧ w'.cell? ⟨wr.heap.size, 0, none⟩ = some (.int .i64 c) ∧ w'.cell? ⟨wr.heap.size, 1, none⟩ = some (.int .i64 r) ∧ Ms wr mv w') := by
  have k1 := hk.trans (atW_kp wr c r)
  have hs : w.heap.size ≤ wr.heap.size := hk.size
  have hb : Blk w' l [.map mv] 66 := (h.cell.kp k1 (fun x => x)).kp g (fun e => e.1 rfl)
  have ha := (atW_blk wr c r).kp g (fun e => e.2.1 rfl)
  refine ⟨hb.cell rfl, ha.cell rfl, ha.cell rfl, fun m hm => ?_⟩
  have hlt := (h.ne m hm).2
  rw [g.block m (by rw [atW_size]; omega) (fun e => e.2.2 m hm rfl), (atW_kp wr c r).block m (by omega) (fun x => x)]
set_option maxRecDepth 20000 in
set_option maxHeartbeats 8000000 in
theorem turns_at (L : List (Int × Int)) (a : Option Addr) (cc l n : Nat) (us : Int × Int → Option (List Ar)) (w : World) (hL : L.length ≤ 4294967295) (hv : ∀ (i : Nat) (x : Int × Int), L[i]? = some x → VC x) (hr : RowsRise L) (ha : 0 < L.length → ∃ b o, a = some ⟨b, o, none⟩ ∧ CellsAt w b o L) (hl : LinksIn w (under w) l us n) :
    Calls Tryz.prog 74 #[.pointer (some ⟨l, 0, none⟩), .slice a L.length cc] w fun e w' => ∃ E, e = .returned (.pointer (some ⟨E.t, 0, none⟩)) ∧ TurnsR w E L (useP L us) L.length w' ∧ ENew w E := by
  obtain ⟨ds, hds, hmk⟩ := make_is 111 140 (.pointer none) 8 Tryz.underlying111 infoPtr rfl L.length (by omega) (by omega)
  have HNB : Hid (∀ wq, Kp w wq Nul → Calls Tryz.prog 47 #[.slice a L.length cc] wq fun e w' => ∃ B ub mb, e = .returned (.pointer (some ⟨B, 0, none⟩)) ∧ BoardM w' B ub mb ((L.length + 63) / 64) (.slice a L.length cc) (colTo L) ∧ (wq.heap.size ≤ B ∧ wq.heap.size ≤ ub ∧ wq.heap.size ≤ mb) ∧ Kp wq w' Nul) := fun wq k =>
    newBoard_at L a cc wq (by omega) (fun i x hx => ⟨(hv i x hx).1, (hv i x hx).2.1⟩) (fun h => by obtain ⟨b, o, e, hc⟩ := ha h; exact ⟨b, o, e, hc.kp k (fun x => x)⟩)
  have HNM : Hid (∀ wq, Calls Tryz.prog 54 #[.int .i64 (L.length : Int)] wq fun e w' => ∃ un, e = .returned (.slice (some ⟨un, 0, none⟩) ((L.length + 63) / 64) ((L.length + 63) / 64)) ∧ Blk w' un (wds (fun _ => false) ((L.length + 63) / 64)) 122 ∧ un = wq.heap.size ∧ Kp wq w' Nul) := fun wq => by
    refine (newMarks_at L.length (by omega) wq).mono ?_
    rintro e w' ⟨cs, rfl, hcs, rfl⟩
    have := Blk.new' wq cs 122
    rw [hcs] at this
    exact ⟨_, rfl, this, rfl, (Kp.refl _ _).alloc _⟩
  have HNQ : Hid (∀ wq, Calls Tryz.prog 102 #[.int .i64 (L.length : Int)] wq fun e w' => ∃ qb sb, e = .returned (.pointer (some ⟨qb, 0, none⟩)) ∧ Blk w' qb [.int .i64 0, .slice (some ⟨sb, 0, none⟩) (L.length + 1) (L.length + 1)] 115 ∧ Blk w' sb (nums (fun _ => 0) (L.length + 1)) 3 ∧ (wq.heap.size ≤ qb ∧ wq.heap.size ≤ sb) ∧ Kp wq w' Nul) := fun wq => by
    refine (newQueue_at L.length (by omega) wq).mono ?_
    rintro e w' ⟨cs, rfl, hcs, rfl⟩
    have h1 := Blk.new' wq cs 3
    rw [hcs] at h1
    have h2 := Blk.new (wq.alloc (.cells cs 3)) [.int .i64 0, .slice (some ⟨wq.heap.size, 0, none⟩) (L.length + 1) (L.length + 1)] 115
    rw [World.size_alloc] at h2
    exact ⟨_, _, rfl, h2, h1.alloc _, ⟨by omega, by omega⟩, ((Kp.refl _ _).alloc _).alloc _⟩
  have HDS : Hid (∀ wq : World, Blk (wq.alloc (.cells ds 140)) wq.heap.size (vals (fun _ => .pointer none) L.length) 140) := fun wq => by
    have := Blk.new' wq ds 140
    rw [hds, vals_nil] at this
    exact this
  have HA : Hid (0 < L.length → ∃ b o, a = some ⟨b, o, none⟩ ∧ CellsAt w b o L) := ha
  have HV : Hid (∀ (i : Nat) (x : Int × Int), L[i]? = some x → VC x) := hv
  have HR : Hid (RowsRise L) := hr
  have HLI : Hid (LinksIn w (under w) l us n) := hl
  clear hds ha hv hr hl
  obtain ⟨N, hN⟩ : ∃ N, L.length = N := ⟨_, rfl⟩
  obtain ⟨W, hW⟩ : ∃ W, (L.length + 63) / 64 = W := ⟨_, rfl⟩
  have HN : Hid (L.length = N) := hN
  have HW : Hid ((L.length + 63) / 64 = W) := hW
  rw [hW] at HNB HNM
  rw [hN] at hL hmk HNB HNM HNQ HDS ⊢
  clear hN hW
  go_enter Tryz.func74, Tryz.ntmps74
  go_wp2_with fail
  go_cut [5] from 9 (fun v w' => TCut w L (.slice a N cc) v w')
  case first =>
    go_region_with (first
      | (go_at_call 47; refine (HNB.out _ (by repeat (first | exact Kp.refl _ Nul | refine Kp.drew ?_ | refine Kp.alloc ?_ _))).mono ?_; rintro e wB ⟨B, ub, mb, rfl, hbm, hbs, hkB⟩)
      | (go_at_call 54; refine (HNM.out _).mono ?_; rintro e wM ⟨un, rfl, hun, hue, hkM⟩)
      | (go_at_call 102; refine (HNQ.out _).mono ?_; rintro e wQ ⟨qb, sb, rfl, hqb, hsb, hqs, hkQ⟩))
    all_goals
      go_wp2_with fail
      go_meet
      case rel => first | exact tcut1 HN.out HW.out HDS.out hbm hbs hkB hun hue hkM hqb hsb hqs hkQ | exact tcut2 HN.out HW.out HDS.out hbm hbs hkB hun hue hkM hqb hsb hqs hkQ | exact tcut3 HN.out HW.out HDS.out hbm hbs hkB hun hue hkM hqb hsb hqs hkQ | exact tcut4 HN.out HW.out HDS.out hbm hbs hkB hun hue hkM hqb hsb hqs hkQ
  case rest =>
    obtain ⟨E, rfl, ht, hm⟩ := hcut
    clear HDS HNQ HNM HNB hmk
    have hnew := hm.new
    have hne := hm.ne
    have ntu : E.t ≠ E.un := ht.ne hm.u (by decide)
    have HT : Hid (Blk wc E.t [.pointer (some ⟨E.B, 0, none⟩), .slice (some ⟨E.un, 0, none⟩) ((L.length + 63) / 64) ((L.length + 63) / 64), .pointer (some ⟨E.qb, 0, none⟩), .slice (some ⟨E.wb, 0, none⟩) L.length L.length] 113) := ht
    have HM : Hid (Made w wc E L (.slice a N cc)) := hm
    have HU : Hid (Blk wc E.un (wds (fun q => decide (q < 0)) ((L.length + 63) / 64)) 122) := by
      have := hm.u
      rw [show (fun q => decide (q < 0)) = fun (_ : Nat) => false from funext fun q => by simp]
      exact this
    have HTC : Hid (∀ wr, Kp wc wr (fun i => i = E.un) → wr.cell? ⟨E.t, 1, none⟩ = some (.slice (some ⟨E.un, 0, none⟩) W W)) := fun wr k => by
      have := ht.kp k ntu
      rw [HW.out] at this
      exact this.cell rfl
    have HPut : Hid (∀ k wr, k < N → Blk wr E.un (wds (fun q => decide (q < k)) ((L.length + 63) / 64)) 122 → Kp wc wr (fun i => i = E.un) → Calls Tryz.prog 57 #[.slice (some ⟨E.un, 0, none⟩) W W, .int .i64 (k : Int)] wr fun e w' => e = .returned (.tuple #[]) ∧ Blk w' E.un (wds (fun q => decide (q < k + 1)) ((L.length + 63) / 64)) 122 ∧ Kp wc w' (fun i => i = E.un)) := fun k wr hk hb hkp => by
      rw [← HW.out]
      have hkL : k < L.length := by rw [HN.out]; exact hk
      refine (put_at E.un 0 ((L.length + 63) / 64) _ k ((Wd.wd (fun q => decide (q < k)) (k / 64) : Nat) : Int) _ wr (by omega) (by omega) (or_put (fun q => decide (q < k)) k) (by rw [Nat.zero_add]; exact hb.cell (wds_get (by omega))) (hb.froz _)).mono ?_
      rintro e w2 ⟨rfl, rfl⟩
      refine ⟨rfl, ?_, (hkp.setCell ⟨E.un, 0 + k / 64, none⟩ _ (.inr rfl)).drew⟩
      have := (hb.set (k / 64) (.int .u64 ((Wd.wd (ins (fun q => decide (q < k)) k) (k / 64) : Nat) : Int))).drew
      rw [wds_set (N := ins (fun q => decide (q < k)) k) (fun j _ hj => wd_far true hj)] at this
      have e2 : ins (fun q => decide (q < k)) k = fun q => decide (q < k + 1) := ins_lt k
      rw [e2] at this
      rw [Nat.zero_add, ← e2]
      rw [← e2] at this
      exact this
    clear ht hm ntu
    go_wp2_with fail
    go_loopw [24] (fun s wr => PutR wc E L s wr) (fun s _ => N - (intOf s).toNat)
    case atStart => exact ⟨0, Nat.zero_le _, rfl, HU.out, Kp.refl _ _⟩
    case round =>
      obtain ⟨k, hk, rfl, hb, hkp⟩ := hrel
      rw [HN.out] at hk
      have HB : Hid (Blk wr E.un (wds (fun q => decide (q < k)) ((L.length + 63) / 64)) 122) := hb
      have HK : Hid (Kp wc wr (fun i => i = E.un)) := hkp
      have c1 := HTC.out wr hkp
      clear hb hkp
      by_cases hlt : k < N
      · have hlt2 : (k : Int) < (N : Int) := by omega
        go_wp2_with fail
        refine (HPut.out k wr hlt HB.out HK.out).mono ?_
        rintro e w1 ⟨rfl, hb1, hk1⟩
        have HB1 : Hid (Blk w1 E.un (wds (fun q => decide (q < k + 1)) ((L.length + 63) / 64)) 122) := hb1
        have HK1 : Hid (Kp wc w1 (fun i => i = E.un)) := hk1
        clear hb1 hk1
        go_wp2_with fail
        go_roundw
        case rel => exact ⟨k + 1, by rw [HN.out]; omega, by go_num, HB1.out, HK1.out⟩
        case measure => simp only [intOf]; omega
      · have : k = N := by omega
        subst this
        have HTI : Hid (TurnsR w E L (useP L us) 0 wr) := by
          have hb2 := HB.out
          have hm := HM.out
          rw [← HN.out] at hb2 hm
          refine ⟨fun _ => 0, _, _, _, TI.start (useP L us) (fun _ => 0) HT.out hm hb2 HK.out HA.out (by rw [HN.out]; exact hL) (fun i x hx => (HV.out i x hx).1) HR.out, fun p hp => absurd hp (Nat.not_lt_zero _), hm.kp.trans' HK.out (fun i hi e => absurd hnew.2.2.2.1 (by subst e; omega))⟩
        clear HT HM HU HTC HPut HB HK c1
        go_wp2_with fail
        go_loopw [36] (fun s wr => TurR w E L us s wr) (fun s _ => k - (intOf s).toNat)
        case atStart => exact ⟨0, Nat.zero_le _, rfl, HTI.out⟩
        case round =>
          clear HTI
          obtain ⟨j, hj, rfl, htu⟩ := hrel
          rw [HN.out] at hj
          have HTU : Hid (TurnsR w E L (useP L us) j wr) := htu
          clear htu
          by_cases hlt : j < k
          · have hjL : j < L.length := by rw [HN.out]; exact hlt
            obtain ⟨⟨c, r⟩, hx⟩ : ∃ x, L[j]? = some x := ⟨_, List.getElem?_eq_getElem hjL⟩
            have hvc := HV.out j _ hx
            obtain ⟨b, o, rfl, hcl⟩ := HA.out (by omega)
            obtain ⟨blk, Q, ptr, ch, hti, hbk, hkp⟩ := HTU.out
            obtain ⟨q1, q2⟩ := (hcl.kp hkp (fun x => x)) j _ hx
            simp only at q1 q2
            obtain ⟨mv, v, hlk, hav⟩ := lk_of HLI.out hvc.i64.1 hvc.i64.2
            simp only at hlk hav
            have HRd : Hid (∀ w', Kp (wr.alloc (.cells #[.int .i64 c, .int .i64 r] 29)) w' (Oth wr l mv) → (w'.cell? ⟨l, 0, none⟩ = some (.map mv) ∧ w'.cell? ⟨wr.heap.size, 0, none⟩ = some (.int .i64 c) ∧ w'.cell? ⟨wr.heap.size, 1, none⟩ = some (.int .i64 r) ∧ Ms wr mv w')) := fun w' g => rd_of hlk hkp g
            have hlook : ∀ w', Ms wr mv w' → (Instr.lookup 64 (.map mv) (.agg #[.int .i64 c, .int .i64 r]) false).run Tryz.prog w' = .ok v w' := fun w' g => hlk.one w' (fun m hm => by rw [g m hm, hkp.block m (hlk.ne m hm).2 (fun x => x)])
            obtain ⟨nl, av, cv, rfl⟩ : ∃ nl av cv, v = .slice av nl cv := by obtain ⟨a', c', e, _⟩ := hav; exact ⟨_, _, _, e⟩
            have HSet : Hid (∀ w0 b, Kp (wr.alloc (.cells #[.int .i64 c, .int .i64 r] 29)) w0 Nul → b = w0.heap.size → Calls Tryz.prog 103 #[.pointer (some ⟨E.t, 0, none⟩), .pointer (some ⟨b, 0, none⟩)] (w0.alloc (.cells #[.int .i64 (j : Int), .int .i64 0, .int .i64 0, .slice none 0 0, .slice none 0 0, .slice av nl cv, .pointer none] 142)) fun e w' => e = .returned (.tuple #[]) ∧ TurnsR w E L (useP L us) (j + 1) w' ∧ Kp (wr.alloc (.cells #[.int .i64 c, .int .i64 r] 29)) w' (Oth wr l mv)) := fun w0 b k0 eb => by
              subst eb
              have kA : Kp wr (w0.alloc (.cells #[.int .i64 (j : Int), .int .i64 0, .int .i64 0, .slice none 0 0, .slice none 0 0, .slice av nl cv, .pointer none] 142)) Nul := (((Kp.refl wr Nul).alloc _).trans k0).alloc _
              have s0 : wr.heap.size + 1 ≤ w0.heap.size := by have := k0.size; rw [World.size_alloc] at this; exact this
              have hokx : ∀ a ∈ (us (c, r)).getD [], a.ok := by
                cases hu : us (c, r) with
                | none => intro a ha; cases ha
                | some al =>
                  obtain ⟨_, hh⟩ := HLI.out
                  rcases hh with ⟨_, e, _⟩ | ⟨m, D, _, _, _, _, hmh⟩
                  · rw [e] at hu; cases hu
                  · exact (hmh.oks _ _ hu).1
              refine (settle_place (b := w0.heap.size) HTU.out hjL ⟨hnew.2.2.2.2.1, hnew.2.2.2.2.2.1, hnew.2.2.2.2.2.2⟩ kA (Blk.new w0 [.int .i64 (j : Int), .int .i64 0, .int .i64 0, .slice none 0 0, .slice none 0 0, .slice av nl cv, .pointer none] 142) (by omega) (hav.kp (hkp.trans kA) (fun _ _ x => x)) hokx (fun q => by unfold useP; rw [hx])).mono ?_
              rintro e w' ⟨rfl, h1, h2⟩
              have l1 := hti.queue.qq.lt
              have l2 := hti.queue.ss.lt
              have l3 := hti.wb.lt
              have hs := hkp.size
              have nlt : l < w.heap.size := hlk.cell.lt
              refine ⟨rfl, h1, ((k0.alloc _).of_nul).trans' h2 (fun i hi e => ⟨fun e1 => ?_, fun e1 => ?_, fun m hm e1 => ?_⟩)⟩
              · rcases e with e | e | e | e <;> omega
              · rcases e with e | e | e | e <;> omega
              · have := (hlk.ne m hm).2
                rcases e with e | e | e | e <;> omega
            have hj2 : (j : Int) < (k : Int) := by omega
            clear hti hbk hkp hcl hlk hav hvc
            go_wp2_with fail
            refine wp_region_noPanic ?_
            refine wp_region_hel (fun w' : World => w'.cell? ⟨l, 0, none⟩ = some (.map mv) ∧ w'.cell? ⟨wr.heap.size, 0, none⟩ = some (.int .i64 c) ∧ w'.cell? ⟨wr.heap.size, 1, none⟩ = some (.int .i64 r) ∧ Ms wr mv w') (by kernel_rfl) (HRd.out _ ((Kp.refl _ _).drew)) (fun hHeld => ?_)
            have tok0 : True := trivial
            have tok1 : True := trivial
            have tok2 : True := trivial
            have tok3 : True := trivial
            have tok4 : True := trivial
            have tok5 : True := trivial
            have tok6 : True := trivial
            have tok7 : True := trivial
            have tok8 : True := trivial
            iterate 9 ((first | (clear tok0; refine wpH_takes (i := 0) (v := ?_) (some 41) rfl rfl (by kernel_rfl) (by kernel_rfl) (by kernel_rfl) (fun _ _ _ h => h) (Or.inl ⟨by rfl, ?_⟩) hHeld ?_) | (clear tok1; refine wpH_takes (i := 1) (v := ?_) (some 42) rfl rfl (by kernel_rfl) (by kernel_rfl) (by kernel_rfl) (fun _ _ _ h => h) (Or.inl ⟨by rfl, ?_⟩) hHeld ?_) | (clear tok2; refine wpH_takes (i := 2) (v := ?_) (some 43) rfl rfl (by kernel_rfl) (by kernel_rfl) (by kernel_rfl) (fun _ _ _ h => h) (Or.inl ⟨by rfl, ?_⟩) hHeld ?_) | (clear tok3; refine wpH_takes (i := 3) (v := ?_) (some 44) rfl rfl (by kernel_rfl) (by kernel_rfl) (by kernel_rfl) (fun _ _ _ h => h) (Or.inl ⟨by rfl, ?_⟩) hHeld ?_) | (clear tok4; refine wpH_takes (i := 4) (v := ?_) (some 45) rfl rfl (by kernel_rfl) (by kernel_rfl) (by kernel_rfl) (fun _ _ _ h => h) (Or.inl ⟨by rfl, ?_⟩) hHeld ?_) | (clear tok5; refine wpH_takes (i := 5) (v := ?_) (some 46) rfl rfl (by kernel_rfl) (by kernel_rfl) (by kernel_rfl) (fun _ _ _ h => h) (Or.inl ⟨by rfl, ?_⟩) hHeld ?_) | (clear tok6; refine wpH_takes (i := 6) (v := ?_) (some 47) rfl rfl (by kernel_rfl) (by kernel_rfl) (by kernel_rfl) (fun _ _ _ h => h) (Or.inl ⟨by rfl, ?_⟩) hHeld ?_) | (clear tok7; refine wpH_takes (i := 7) (v := ?_) (some 48) rfl rfl (by kernel_rfl) (by kernel_rfl) (by kernel_rfl) (fun _ _ _ h => h) (Or.inl ⟨by rfl, ?_⟩) hHeld ?_) | (clear tok8; refine wpH_takes (i := 8) (v := ?_) (some 49) rfl rfl (by kernel_rfl) (by kernel_rfl) (by kernel_rfl) (fun _ _ _ h => h) (Or.inl ⟨by rfl, ?_⟩) hHeld ?_)); rotate_left; (· intro w hSw; obtain ⟨s0, s1, s2, s3⟩ := hSw; have hlw := hlook w s3; go_simp; try with_reducible rfl); simp only [Act.put, List.setIfInBounds_toArray, List.set_cons_zero, List.set_cons_succ])
            refine wpH_step (i := 9) (by kernel_rfl) rfl rfl (fun K hK => ?_)
            go_simp
            refine hK.out _ _ (HRd.out _ (((Kp.refl _ _).drew).alloc _)) (fun hHeld2 => ?_)
            clear hK K
            refine wpH_step (i := 10) (by kernel_rfl) rfl rfl (fun K hK => ?_)
            go_simp
            refine (HSet.out _ _ ((Kp.refl _ _).drew) (by simp)).mono ?_
            rintro e w2 ⟨rfl, hT2, hk2⟩
            refine hK.out _ _ (HRd.out _ hk2) (fun _ => ?_)
            clear hK K hHeld hHeld2
            have HT2 : Hid (TurnsR w E L (useP L us) (j + 1) w2) := hT2
            clear hT2 hk2
            refine wpAnyH_done (by kernel_rfl) ?_ _
            refine NoPanic.normal ?_
            go_wp2_with fail
            go_roundw
            case rel => exact ⟨j + 1, by rw [HN.out]; omega, by go_num, HT2.out⟩
            case measure => simp only [intOf]; omega
          · have : j = k := by omega
            subst this
            go_wp2_with fail
            go_ret
            exact ⟨E, rfl, by have := HTU.out; rw [← HN.out] at this ⊢; exact this, hnew, hne⟩
end Go.Proofs.YtdlieecpckpemaaGreatDoor
