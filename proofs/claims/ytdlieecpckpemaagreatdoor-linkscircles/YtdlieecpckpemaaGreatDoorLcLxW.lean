/- The document's Circle. The two tables side by side: Set, Drop, Circle; addrs. LinksCircles: the state of both, addrs. LinksCircles: the walk. -/
import Derived.Test.YtdlieecpckpemaaGreatDoorLcLxU
namespace Go.Proofs.YtdlieecpckpemaaGreatDoor
open Go.RowKit Go.Sort Go.Lib Go.Maps
theorem farIs_eq {use : Nat → Nat → Prop} {f : Nat} {far : Nat → Nat} (h : Tj.FarIs use f far) (p d : Nat) (hd : 0 < d) : far p = d ↔ Tj.Far use f p d := by
  rcases h p with ⟨h0, hn⟩ | ⟨h0, hf⟩
  · exact ⟨fun e => by omega, fun e => absurd e (hn d)⟩
  · exact ⟨fun e => e ▸ hf, fun e => hf.uniq e⟩
theorem wrap_le (m : Nat) (h : m ≤ 4096) : wrap64 ((m : Int) + 1 - 1) = (m : Int) ∧ IntKind.i64.wrap ((m : Int) + 1 - 1) = (m : Int) ∧ wrap64 (m : Int) = (m : Int) ∧ IntKind.i64.wrap (m : Int) = (m : Int) := by
  refine ⟨?_, ?_, ?_, ?_⟩
  · unfold wrap64; omega
  · rw [IntKind.wrap_i64]; omega
  · unfold wrap64; omega
  · rw [IntKind.wrap_i64]; omega
/-- What the document's Circle tells. -/
def RCir (X : List Rl) (e : Ending) (w' : World) : Prop :=
  (e = .returned (.tuple #[.slice none 0 0, .bool false]) ∧ ∀ j, j < X.length → ∀ d, ¬ Tj.Far (useD X) j j d) ∨
  ∃ (f : Nat) (l : List Nat) (left b c : Nat), e = .returned (.tuple #[.slice (some ⟨b, 0, none⟩) (left + 1) c, .bool true]) ∧ f < X.length ∧ (∀ j, j < f → ∀ d, ¬ Tj.Far (useD X) j j d) ∧ Tj.Far (useD X) f f (left + 1) ∧ Tj.Chn (useD X) f f left l ∧ CellsAt w' b 0 ((f :: l).map (fun p => (X.map (·.x)).getD p (0, 0)))
def RCr (w : World) (X : List Rl) (s : Value) (wr : World) : Prop := ∃ k : Nat, k ≤ X.length ∧ s = .int .i64 (k : Int) ∧ (∀ j, j < k → ∀ d, ¬ Tj.Far (useD X) j j d) ∧ Kp w wr Nul
/-- The way back, so far. -/
def RCc (w w5 : World) (X : List Rl) (f : Nat) (l : List Nat) (left : Nat) (o at' lv : Value) (wr : World) : Prop := ∃ (t p m : Nat), t + m = left ∧ (f :: l)[t]? = some p ∧ at' = .int .i64 (p : Int) ∧ lv = .int .i64 (m : Int) ∧ wr.ownsRow w.heap.size 29 2 o (t + 1) (CiRw (X.map (·.x)) f l (t + 1)) ∧ Kp w5 wr (fun j => o.ownBlock = some j ∨ w5.heap.size ≤ j) ∧ Kp w wr Nul ∧ (∀ j, o.ownBlock = some j → w5.heap.size ≤ j)
def RCi (wi : World) (o6 : Value) (y q : Nat) (o a s : Value) (wr : World) : Prop := o = o6 ∧ a = .int .i64 (y : Int) ∧ ∃ j : Nat, j ≤ q ∧ s = .int .i64 (j : Int) ∧ Kp wi wr Nul
set_option maxRecDepth 20000 in
set_option maxHeartbeats 8000000 in
theorem rcircle_at (G : Nat → Prop) (x : Nat) (v : Value) (X : List Rl) (w : World) (h : DX w G x v X) (hX : X.length ≤ 4096) :
    Calls Tryz.prog 28 #[.pointer (some ⟨x, 0, none⟩)] w fun e w' => RCir X e w' ∧ Kp w w' Nul := by
  obtain ⟨N, hN⟩ : ∃ N, X.length = N := ⟨_, rfl⟩
  have HN : Hid (X.length = N) := hN
  obtain ⟨va, vc, hv⟩ := h.slice
  subst hv
  have HD : Hid (DX w G x (.slice va X.length vc) X) := h
  have HX0 : Hid (∀ wq, Kp w wq Nul → wq.cell? ⟨x, 0, none⟩ = some (.slice va N vc)) := fun wq k => by have := (h.kpn k).box.cell (i := 0) rfl; rw [hN] at this; exact this
  have HFar : Hid (∀ wq, Kp w wq Nul → ∀ k, k < N → Calls Tryz.prog 71 #[.pointer (some ⟨x, 0, none⟩), .int .i64 (k : Int)] wq fun e w' => ∃ (fb : Nat) (far : Nat → Nat), e = .returned (.slice (some ⟨fb, 0, none⟩) N N) ∧ wq.heap.size ≤ fb ∧ Blk w' fb (nums (fun p => (far p : Int)) N) 3 ∧ Tj.FarIs (useD X) k far ∧ (∀ p, far p ≤ 4096) ∧ Kp wq w' Nul) := fun wq k j hj => by
    have := far18_at G x _ X j wq (h.kpn k) hX (by omega)
    rw [hN] at this
    exact this
  have HU : Hid (∀ wq, Kp w wq Nul → ∀ p q ρ σ B, X[p]? = some ρ → X[q]? = some σ → UD X p q = B → Calls Tryz.prog 72 #[.agg #[.int .i64 ρ.x.1, .int .i64 ρ.x.2, .slice ρ.av ρ.al.length ρ.cv], .agg #[.int .i64 σ.x.1, .int .i64 σ.x.2]] wq fun e w' => e = .returned (.bool B) ∧ Kp wq w' Nul) := fun wq k p q ρ σ B hp hq hB => usesX_at (h.kpn k) hp hq B hB
  rw [hN] at hX
  have c0 := HX0.out w (Kp.refl _ _)
  clear h hN
  obtain ⟨i0, hi, hz0, hz1, hz2⟩ := infoAddr
  go_enter Tryz.func28, Tryz.ntmps28
  go_wp2_with fail
  go_loopw [4] (fun s wr => RCr w X s wr) (fun s _ => N - (intOf s).toNat)
  case atStart => exact ⟨0, Nat.zero_le _, rfl, fun j hj => absurd hj (Nat.not_lt_zero _), Kp.refl _ _⟩
  case round =>
    clear c0
    rename World => wk
    obtain ⟨k, hk, rfl, hno, hkp⟩ := hrel
    rw [HN.out] at hk
    have HNo : Hid (∀ j, j < k → ∀ d, ¬ Tj.Far (useD X) j j d) := hno
    have HKk : Hid (Kp w wk Nul) := hkp
    clear hno hkp
    have c1 := HX0.out wk HKk.out
    by_cases hlt : k < N
    · have j1 : (k : Int) < (N : Int) := by omega
      obtain ⟨⟨⟨z1, z2⟩, zl, zv, zc⟩, hσ⟩ : ∃ σ, X[k]? = some σ := ⟨_, List.getElem?_eq_getElem (by rw [HN.out]; exact hlt)⟩
      have HZ : Hid (X[k]? = some ⟨(z1, z2), zl, zv, zc⟩) := hσ
      obtain ⟨g, hva, _⟩ := HD.out.get hσ
      subst hva
      have HC : Hid (∀ wq, Kp w wq Nul → ∀ j ρ, X[j]? = some ρ → wq.cell? ⟨g, j * 3, none⟩ = some (.int .i64 ρ.x.1) ∧ wq.cell? ⟨g, j * 3 + 1, none⟩ = some (.int .i64 ρ.x.2) ∧ wq.cell? ⟨g, j * 3 + 2, none⟩ = some (.slice ρ.av ρ.al.length ρ.cv)) := fun wq k j ρ hj => by
        obtain ⟨g', e, _, c⟩ := (HD.out.kpn k).get hj
        injection e with e
        injection e with e
        subst e
        exact c
      clear hσ
      go_wp2_with fail
      refine (HFar.out wk HKk.out k hlt).mono ?_
      rintro e w5 ⟨fb, far, rfl, hfb, hblk, hfi, hbd, hk5⟩
      have HK5 : Hid (Kp w w5 Nul) := HKk.out.trans hk5
      have HB : Hid (Blk w5 fb (nums (fun p => (far p : Int)) N) 3) := hblk
      have HFI : Hid (Tj.FarIs (useD X) k far) := hfi
      have HBD : Hid (∀ p, far p ≤ 4096) := hbd
      have HFB : Hid (fb < w5.heap.size) := hblk.lt
      have d0 : w5.cell? ⟨fb, k, none⟩ = some (.int .i64 (far k : Int)) := hblk.cell (nums_get hlt)
      clear hfb hblk hfi hbd hk5 c1
      by_cases hf : far k = 0
      · rw [hf] at d0
        have HF0 : Hid (far k = 0) := hf
        clear hf
        go_wp2_with fail
        go_roundw
        case rel =>
          refine ⟨k + 1, by rw [HN.out]; omega, by go_num, fun j hj d hd => ?_, HK5.out⟩
          rcases Nat.lt_or_ge j k with q | q
          · exact HNo.out j q d hd
          · have e : j = k := by omega
            rw [e] at hd
            rcases HFI.out k with ⟨_, hn⟩ | ⟨h0, _⟩
            · exact hn d hd
            · exact h0 HF0.out
        case measure => simp only [intOf]; omega
      · obtain ⟨left, hleft⟩ : ∃ left, far k = left + 1 := ⟨far k - 1, by omega⟩
        rw [hleft] at d0
        have hff : Tj.Far (useD X) k k (left + 1) := (farIs_eq HFI.out k (left + 1) (Nat.succ_pos _)).1 hleft
        have HFF : Hid (Tj.Far (useD X) k k (left + 1)) := hff
        have hl4 : left ≤ 4096 := by have := HBD.out k; omega
        obtain ⟨l, hch, _⟩ := Tj.Chn.of (N := X.length) (fun p q hu => (useD_lt hu).2) hff
        have HCH : Hid (Tj.Chn (useD X) k k left l) := hch
        have hcast : ((left + 1 : Nat) : Int) = (left : Int) + 1 := by omega
        rw [hcast] at d0
        have hnz : ¬ ((left : Int) + 1 = 0) := by omega
        have hb0 : (((left : Int) + 1) == 0) = false := by rw [beq_eq_false_iff_ne]; exact hnz
        have HB0 : Hid ((((left : Int) + 1) == 0) = false) := hb0
        clear hb0
        obtain ⟨e1, e2, _⟩ := HC.out w5 HK5.out k _ HZ.out
        have e3 := HX0.out w5 HK5.out
        simp only at e1 e2
        obtain ⟨w6, hw6⟩ : ∃ w6, w5.alloc (.cells #[.int .i64 z1, .int .i64 z2] 29) = w6 := ⟨_, rfl⟩
        have HW6 : Hid (w5.alloc (.cells #[.int .i64 z1, .int .i64 z2] 29) = w6) := hw6
        have k56 : Kp w5 w6 Nul := by rw [← hw6]; exact (Kp.refl w5 Nul).alloc _
        have d6 : w6.cell? ⟨fb, k, none⟩ = some (.int .i64 ((left : Int) + 1)) := by
          have h1 := (HB.out.kp k56 (fun e => e)).cell (nums_get (s := fun p => (far p : Int)) hlt)
          rw [h1, hleft, hcast]
        have HZK : Hid ((X.map (·.x))[k]? = some (z1, z2)) := by show _ = _; rw [List.getElem?_map, HZ.out]; rfl
        have HR6 : Hid (RCc w w5 X k l left (.slice (some ⟨w5.heap.size, 0, none⟩) 1 1) (.int .i64 (k : Int)) (.int .i64 (left : Int)) w6) := by
          refine ⟨0, k, left, by omega, rfl, rfl, rfl, ?_, k56.of_nul, HK5.out.trans k56, fun j hj => ?_⟩
          · have := World.ownsRow_lit (base := w.heap.size) (e := 29) (size := 2) w5 #[.int .i64 z1, .int .i64 z2] 1 HK5.out.size (by unfold maxLen; omega) rfl
            rw [hw6] at this
            rw [CiRw_succ (q := k) (z := (z1, z2)) rfl HZK.out, CiRw_zero]
            exact this
          · have e : w5.heap.size = j := by simpa [Value.ownBlock] using hj
            omega
        clear hf hff hch hleft hcast hw6 k56
        go_upto_region 7 with fail
        rw [HW6.out, HB0.out]
        obtain ⟨f1, f2, f3, f4⟩ := wrap_le left hl4
        clear f2 f4
        go_wp2_with fail
        go_loopw [6, 7, 8] (fun o a lv wr => RCc w w5 X k l left o a lv wr) (fun _ _ lv _ => (intOf lv).toNat)
        case atStart => exact HR6.out
        case round =>
          clear HR6 d0 d6 e1 e2 e3 f1 f3 hnz
          rename World => wi
          obtain ⟨t, p, m, htm, hp, rfl, rfl, hrow, hk5i, hki, hob⟩ := hrel
          have HROW : Hid (wi.ownsRow w.heap.size 29 2 u6 (t + 1) (CiRw (X.map (·.x)) k l (t + 1))) := hrow
          have HK5i : Hid (Kp w5 wi (fun j => u6.ownBlock = some j ∨ w5.heap.size ≤ j)) := hk5i
          have HKi : Hid (Kp w wi Nul) := hki
          have HOB : Hid (∀ j, u6.ownBlock = some j → w5.heap.size ≤ j) := hob
          have HTP : Hid ((k :: l)[t]? = some p ∧ t + m = left) := ⟨hp, htm⟩
          clear hp hrow hk5i hki hob
          have HBi : Hid (Blk wi fb (nums (fun p => (far p : Int)) N) 3) := HB.out.kp HK5i.out (fun e => by
            have h1 := HFB.out
            rcases e with e | e
            · have := HOB.out fb e; omega
            · omega)
          rcases m with _ | m
          · have htl : t = left := by omega
            have hlen : (k :: l).length = left + 1 := by rw [List.length_cons, Tj.Chn.len HCH.out]
            have hr := HROW.out
            unfold CiRw at hr
            rw [htl, ← hlen, List.take_length] at hr
            obtain ⟨a9, c9, hv9, hcs⟩ := own1_from (own1_row (by rw [List.length_map]) hr)
            rw [List.length_map, hlen] at hv9
            have hcs2 : ∃ b, a9 = some ⟨b, 0, none⟩ ∧ CellsAt wi b 0 ((k :: l).map (fun p => (X.map (·.x)).getD p (0, 0))) := by
              rcases hcs with ⟨_, e⟩ | ⟨b, e1, _, e3⟩
              · have := congrArg List.length e
                rw [List.length_map, hlen] at this
                cases this
              · exact ⟨b, e1, e3⟩
            obtain ⟨b9, hb9, hcell⟩ := hcs2
            subst hb9
            have HEND : Hid (RCir X (.returned (.tuple #[.slice (some ⟨b9, 0, none⟩) (left + 1) c9, .bool true])) wi) := .inr ⟨k, l, left, b9, c9, rfl, by rw [HN.out]; exact hlt, HNo.out, HFF.out, HCH.out, hcell⟩
            subst hv9
            clear hr hcs hcell hlen htl HROW HOB HK5i HTP htm
            go_wp2_with fail
            refine bodyPost_ret (results_tmp2 rfl _ _ _) rfl ?_
            exact ⟨HEND.out, HKi.out⟩
          · obtain ⟨y, q, hy, hq, hyq, hmin⟩ := Chn_at HCH.out t (by omega)
            have ey : y = p := by have := HTP.out.1; rw [this] at hy; exact (Option.some.inj hy).symm
            subst ey
            have hmt : left - t = m + 1 := by omega
            rw [hmt] at hyq hmin
            have HQ : Hid ((k :: l)[t + 1]? = some q ∧ useD X y q ∧ Tj.Far (useD X) k q (m + 1)) := ⟨hq, hyq.1, hyq.2⟩
            have HMin : Hid (∀ q', q' < q → ¬ (useD X y q' ∧ Tj.Far (useD X) k q' (m + 1))) := hmin
            have hqN : q < N := by rw [← HN.out]; exact (useD_lt hyq.1).2
            have hyN : y < N := by rw [← HN.out]; exact (useD_lt hyq.1).1
            have hyZ : (y : Int) < (N : Int) := by omega
            have hm4 : m ≤ 4096 := by omega
            have hcast : ((m + 1 : Nat) : Int) = (m : Int) + 1 := by omega
            have hpos : (0 : Int) < (m : Int) + 1 := by omega
            rw [hcast]
            obtain ⟨⟨⟨y1, y2⟩, yl, yv, yc⟩, hyr⟩ : ∃ ρ, X[y]? = some ρ := ⟨_, List.getElem?_eq_getElem (by rw [HN.out]; exact hyN)⟩
            have HY : Hid (X[y]? = some ⟨(y1, y2), yl, yv, yc⟩) := hyr
            clear hy hq hyq hmin hmt hyr htm hcast
            go_wp2_with fail
            go_loopw [6, 7, 9] (fun o a s wr => RCi wi u6 y q o a s wr) (fun _ _ s _ => q - (intOf s).toNat)
            case atStart => exact ⟨rfl, rfl, 0, Nat.zero_le _, rfl, Kp.refl _ _⟩
            case round =>
              rename World => wj
              obtain ⟨ho6, ha7, j, hj, rfl, hkj⟩ := hrel
              subst ho6 ha7
              have HKj : Hid (Kp wi wj Nul) := hkj
              clear hkj
              have hjN : j < N := by omega
              have j2 : (j : Int) < (N : Int) := by omega
              obtain ⟨⟨⟨x1, x2⟩, xl, xv, xc⟩, hρ⟩ : ∃ ρ, X[j]? = some ρ := ⟨_, List.getElem?_eq_getElem (by rw [HN.out]; exact hjN)⟩
              have HXj : Hid (X[j]? = some ⟨(x1, x2), xl, xv, xc⟩) := hρ
              obtain ⟨B, hB⟩ : ∃ B, UD X y j = B := ⟨_, rfl⟩
              have HBu : Hid (UD X y j = B) := hB
              have HUS : Hid (∀ wq, Kp wj wq Nul → Calls Tryz.prog 72 #[.agg #[.int .i64 y1, .int .i64 y2, .slice yv yl.length yc], .agg #[.int .i64 x1, .int .i64 x2]] wq fun e w' => e = .returned (.bool B) ∧ Kp wq w' Nul) := fun wq kq => HU.out wq (HKi.out.trans (HKj.out.trans kq)) y j ⟨(y1, y2), yl, yv, yc⟩ ⟨(x1, x2), xl, xv, xc⟩ B HY.out hρ hB
              have KS : Hid (∀ wq, Kp wj wq Nul → (wq.cell? ⟨x, 0, none⟩ = some (.slice (some ⟨g, 0, none⟩) N vc) ∧ (wq.cell? ⟨g, y * 3, none⟩ = some (.int .i64 y1) ∧ wq.cell? ⟨g, y * 3 + 1, none⟩ = some (.int .i64 y2) ∧ wq.cell? ⟨g, y * 3 + 2, none⟩ = some (.slice yv yl.length yc)) ∧ (wq.cell? ⟨g, j * 3, none⟩ = some (.int .i64 x1) ∧ wq.cell? ⟨g, j * 3 + 1, none⟩ = some (.int .i64 x2)))) := fun wq kq => by
                have kk := HKi.out.trans (HKj.out.trans kq)
                have e1 := HC.out wq kk y _ HY.out
                have e2 := HC.out wq kk j _ HXj.out
                exact ⟨HX0.out wq kk, e1, e2.1, e2.2.1⟩
              have c1 := HX0.out wj (HKi.out.trans HKj.out)
              generalize yl.length = yn at *
              obtain ⟨fj, hfj⟩ : ∃ fj, far j = fj := ⟨_, rfl⟩
              have HFJ : Hid (far j = fj) := hfj
              clear hρ hB hfj
              go_upto_region 14 with fail
              clear c1
              refine wp_region_noPanic ?_
              refine wp_region_hel (fun w' : World => Kp wj w' Nul) (by kernel_rfl) ((Kp.refl wj Nul).drew) (fun hHeld => ?_)
              refine wpH_takes (i := 0) (v := ?_) (some 56) rfl rfl (by kernel_rfl) (by kernel_rfl) (by kernel_rfl) (fun _ _ _ h => h) (Or.inl ⟨by rfl, ?_⟩) hHeld ?_
              rotate_left
              · intro w' hSw; clear hSw; go_simp; try with_reducible rfl
              simp only [Act.put, List.setIfInBounds_toArray, List.set_cons_zero, List.set_cons_succ]
              refine wpH_takes (i := 1) (v := ?_) (some 57) rfl rfl (by kernel_rfl) (by kernel_rfl) (by kernel_rfl) (fun _ _ _ h => h) (Or.inl ⟨by rfl, ?_⟩) hHeld ?_
              rotate_left
              · intro w' hSw; clear hSw; go_simp; try with_reducible rfl
              simp only [Act.put, List.setIfInBounds_toArray, List.set_cons_zero, List.set_cons_succ]
              refine wpH_takes (i := 2) (v := ?_) (some 58) rfl rfl (by kernel_rfl) (by kernel_rfl) (by kernel_rfl) (fun _ _ _ h => h) (Or.inl ⟨by rfl, ?_⟩) hHeld ?_
              rotate_left
              · intro w' hSw; clear hSw; go_simp; try with_reducible rfl
              simp only [Act.put, List.setIfInBounds_toArray, List.set_cons_zero, List.set_cons_succ]
              refine wpH_takes (i := 3) (v := ?_) (some 59) rfl rfl (by kernel_rfl) (by kernel_rfl) (by kernel_rfl) (fun _ _ _ h => h) (Or.inl ⟨by rfl, ?_⟩) hHeld ?_
              rotate_left
              · intro w' hSw; obtain ⟨p1, ⟨p2, p3, p4⟩, p5, p6⟩ := KS.out _ hSw; clear hSw; go_simp; try with_reducible rfl
              simp only [Act.put, List.setIfInBounds_toArray, List.set_cons_zero, List.set_cons_succ]
              refine wpH_takes (i := 4) (v := ?_) (some 60) rfl rfl (by kernel_rfl) (by kernel_rfl) (by kernel_rfl) (fun _ _ _ h => h) (Or.inl ⟨by rfl, ?_⟩) hHeld ?_
              rotate_left
              · intro w' hSw; clear hSw; go_simp; try with_reducible rfl
              simp only [Act.put, List.setIfInBounds_toArray, List.set_cons_zero, List.set_cons_succ]
              refine wpH_takes (i := 5) (v := ?_) (some 61) rfl rfl (by kernel_rfl) (by kernel_rfl) (by kernel_rfl) (fun _ _ _ h => h) (Or.inl ⟨by rfl, ?_⟩) hHeld ?_
              rotate_left
              · intro w' hSw; clear hSw; go_simp; try with_reducible rfl
              simp only [Act.put, List.setIfInBounds_toArray, List.set_cons_zero, List.set_cons_succ]
              refine wpH_takes (i := 6) (v := ?_) (some 62) rfl rfl (by kernel_rfl) (by kernel_rfl) (by kernel_rfl) (fun _ _ _ h => h) (Or.inl ⟨by rfl, ?_⟩) hHeld ?_
              rotate_left
              · intro w' hSw; obtain ⟨p1, ⟨p2, p3, p4⟩, p5, p6⟩ := KS.out _ hSw; clear hSw; go_simp; try with_reducible rfl
              simp only [Act.put, List.setIfInBounds_toArray, List.set_cons_zero, List.set_cons_succ]
              refine wpH_takes (i := 7) (v := ?_) (some 63) rfl rfl (by kernel_rfl) (by kernel_rfl) (by kernel_rfl) (fun _ _ _ h => h) (Or.inl ⟨by rfl, ?_⟩) hHeld ?_
              rotate_left
              · intro w' hSw; clear hSw; go_simp; try with_reducible rfl
              simp only [Act.put, List.setIfInBounds_toArray, List.set_cons_zero, List.set_cons_succ]
              refine wpH_takes (i := 8) (v := ?_) (some 64) rfl rfl (by kernel_rfl) (by kernel_rfl) (by kernel_rfl) (fun _ _ _ h => h) (Or.inl ⟨by rfl, ?_⟩) hHeld ?_
              rotate_left
              · intro w' hSw; clear hSw; go_simp; try with_reducible rfl
              simp only [Act.put, List.setIfInBounds_toArray, List.set_cons_zero, List.set_cons_succ]
              refine wpH_takes (i := 9) (v := ?_) (some 65) rfl rfl (by kernel_rfl) (by kernel_rfl) (by kernel_rfl) (fun _ _ _ h => h) (Or.inl ⟨by rfl, ?_⟩) hHeld ?_
              rotate_left
              · intro w' hSw; clear hSw; go_simp; try with_reducible rfl
              simp only [Act.put, List.setIfInBounds_toArray, List.set_cons_zero, List.set_cons_succ]
              refine wpH_takes (i := 10) (v := ?_) (some 66) rfl rfl (by kernel_rfl) (by kernel_rfl) (by kernel_rfl) (fun _ _ _ h => h) (Or.inl ⟨by rfl, ?_⟩) hHeld ?_
              rotate_left
              · intro w' hSw; obtain ⟨p1, ⟨p2, p3, p4⟩, p5, p6⟩ := KS.out _ hSw; clear hSw; go_simp; try with_reducible rfl
              simp only [Act.put, List.setIfInBounds_toArray, List.set_cons_zero, List.set_cons_succ]
              refine wpH_takes (i := 11) (v := ?_) (some 67) rfl rfl (by kernel_rfl) (by kernel_rfl) (by kernel_rfl) (fun _ _ _ h => h) (Or.inl ⟨by rfl, ?_⟩) hHeld ?_
              rotate_left
              · intro w' hSw; clear hSw; go_simp; try with_reducible rfl
              simp only [Act.put, List.setIfInBounds_toArray, List.set_cons_zero, List.set_cons_succ]
              refine wpH_takes (i := 12) (v := ?_) (some 68) rfl rfl (by kernel_rfl) (by kernel_rfl) (by kernel_rfl) (fun _ _ _ h => h) (Or.inl ⟨by rfl, ?_⟩) hHeld ?_
              rotate_left
              · intro w' hSw; clear hSw; go_simp; try with_reducible rfl
              simp only [Act.put, List.setIfInBounds_toArray, List.set_cons_zero, List.set_cons_succ]
              refine wpH_takes (i := 13) (v := ?_) (some 69) rfl rfl (by kernel_rfl) (by kernel_rfl) (by kernel_rfl) (fun _ _ _ h => h) (Or.inl ⟨by rfl, ?_⟩) hHeld ?_
              rotate_left
              · intro w' hSw; clear hSw; go_simp; try with_reducible rfl
              simp only [Act.put, List.setIfInBounds_toArray, List.set_cons_zero, List.set_cons_succ]
              refine wpH_takes (i := 14) (v := ?_) (some 70) rfl rfl (by kernel_rfl) (by kernel_rfl) (by kernel_rfl) (fun _ _ _ h => h) (Or.inl ⟨by rfl, ?_⟩) hHeld ?_
              rotate_left
              · intro w' hSw; obtain ⟨p1, ⟨p2, p3, p4⟩, p5, p6⟩ := KS.out _ hSw; clear hSw; go_simp; try with_reducible rfl
              simp only [Act.put, List.setIfInBounds_toArray, List.set_cons_zero, List.set_cons_succ]
              refine wpH_step (i := 15) (by kernel_rfl) rfl rfl (fun K hK => ?_)
              go_simp
              refine (HUS.out _ (Kp.refl wj Nul).drew).mono ?_
              rintro e w7 ⟨rfl, hk7'⟩
              have hk7 : Kp wj w7 Nul := ((Kp.refl wj Nul).drew).trans hk7'
              clear hk7'
              refine hK.out _ _ hk7 (fun hHeld => ?_)
              clear hK K
              (try simp only [Act.put, List.setIfInBounds_toArray, List.set_cons_zero, List.set_cons_succ])
              refine wpH_takes (i := 16) (v := ?_) (some 10) rfl rfl (by kernel_rfl) (by kernel_rfl) (by kernel_rfl) (fun _ _ _ h => h) (Or.inl ⟨by rfl, ?_⟩) hHeld ?_
              rotate_left
              · intro w' hSw; clear hSw; go_simp; try with_reducible rfl
              simp only [Act.put, List.setIfInBounds_toArray, List.set_cons_zero, List.set_cons_succ]
              refine wpAnyH_done (by kernel_rfl) ?_ _
              refine NoPanic.normal ?_
              go_upto_region 15 with fail
              have HK6 : Hid (Kp wi w7 Nul) := HKj.out.trans hk7
              clear hk7
              have dj : w7.cell? ⟨fb, j, none⟩ = some (.int .i64 (fj : Int)) := by
                have h1 := (HBi.out.kp HK6.out (fun e => e)).cell (nums_get (s := fun p => (far p : Int)) hjN)
                rw [h1, HFJ.out]
              rcases Nat.lt_or_ge j q with hjq | hjq
              · cases B with
                | false =>
                  go_wp2_with fail
                  go_roundw
                  case rel => exact ⟨rfl, rfl, j + 1, by omega, by go_num, HK6.out⟩
                  case measure => simp only [intOf]; omega
                | true =>
                  have hne : ¬ ((fj : Int) = (m : Int) + 1) := fun e => HMin.out j hjq ⟨HBu.out, (farIs_eq HFI.out j (m + 1) (Nat.succ_pos _)).1 (by rw [HFJ.out]; omega)⟩
                  go_wp2_with fail
                  go_roundw
                  case rel => exact ⟨rfl, rfl, j + 1, by omega, by go_num, HK6.out⟩
                  case measure => simp only [intOf]; omega
              · have ejq : j = q := by omega
                subst ejq
                have hBt : B = true := by rw [← HBu.out]; exact HQ.out.2.1
                subst hBt
                have hfe : fj = m + 1 := by rw [← HFJ.out]; exact (farIs_eq HFI.out j (m + 1) (Nat.succ_pos _)).2 HQ.out.2.2
                rw [hfe, show ((m + 1 : Nat) : Int) = (m : Int) + 1 by omega] at dj
                have kk7 : Kp w w7 Nul := HKi.out.trans HK6.out
                obtain ⟨e1, e2, _⟩ := HC.out w7 kk7 j _ HXj.out
                have e3 := HX0.out w7 kk7
                simp only at e1 e2
                have HR8 : Hid (World.ownsRow (w7.alloc (.cells #[.int .i64 x1, .int .i64 x2] 29)) w.heap.size 29 2 u6 (t + 1) (CiRw (X.map (·.x)) k l (t + 1))) := row_kp HROW.out (HK6.out.alloc _) (fun _ _ e => e)
                have HB8 : Hid (Blk (w7.alloc (.cells #[.int .i64 x1, .int .i64 x2] 29)) w7.heap.size [.int .i64 x1, .int .i64 x2] 29) := Blk.new w7 _ _
                have HS8 : Hid (t + m + 1 = left ∧ left ≤ 4096 ∧ Kp w w7 Nul) := ⟨by have := HTP.out.2; omega, by have := HTP.out.2; omega, kk7⟩
                have HXC : Hid ((X.map (·.x))[j]? = some (x1, x2)) := by show _ = _; rw [List.getElem?_map, HXj.out]; rfl
                clear hfe kk7 hjq hj
                go_wp2_with (first
                  | (at_builtin; refine wpList_append_tell _ rfl (.tmp 81) (.tmp 90) 30 rfl w.heap.size 29 i0 _ 2 16 Tryz.underlying30 hi hz0 hz1 hz2 rfl (by decide) _ _ _ rfl HR8.out ⟨w7.heap.size, 0, none⟩ 1 1 (encA (x1, x2)) rfl rfl ?d1 ?d2 (by decide) ?d3 ?d4 ?d5 ?_)
                  | fail)
                case d1 =>
                  intro j u hj
                  first
                  | (rw [Addr.add_lit, Nat.zero_add]; exact HB8.out.at'.trans hj)
                  | exact hj
                  | simpa using hj
                case d2 => exact encA_one _
                case d3 => have := HS8.out; unfold maxLen; omega
                case d4 => have := HS8.out; omega
                case d5 =>
                  have hs8 := HS8.out.2.2.size
                  first
                  | omega
                  | (rw [World.size_alloc]; omega)
                intro g9 c9 w9 hrow9 hg9 ht9
                have k79 : Kp (w7.alloc (.cells #[.int .i64 x1, .int .i64 x2] 29)) w9 (fun i => u6.ownBlock = some i) := ⟨hg9.os, hg9.tape, hg9.output, hg9.size, fun k hk hn => hg9.block k hk (fun e => hn e.symm)⟩
                have HNEW : Hid (RCc w w5 X k l left (.slice (some ⟨g9, 0, none⟩) (t + 1 + 1) c9) (.int .i64 (j : Int)) (.int .i64 (m : Int)) w9) := by
                  have hg5 : w5.heap.size ≤ g9 := by
                    rcases ht9 with q | q
                    · exact HOB.out g9 q
                    · have hs6 := HK6.out.size
                      have hs5 := HK5i.out.size
                      first
                      | omega
                      | (rw [World.size_alloc] at q; omega)
                  have hb5 : ∀ i, u6.ownBlock = some i → w5.heap.size ≤ i := HOB.out
                  refine ⟨t + 1, j, m, by have := HS8.out.1; omega, HQ.out.1, rfl, rfl, ?_, ?_, ?_, fun i hi => ?_⟩
                  · rw [CiRw_succ HQ.out.1 HXC.out]; exact hrow9
                  · refine (((HK5i.out.mono (fun i _ e => .inr (by rcases e with e | e; exact hb5 i e; exact e))).trans' ((HK6.out.alloc _).of_nul) (fun i _ e => e)).trans' k79 (fun i _ e => .inr (hb5 i e)))
                  · exact (HS8.out.2.2.alloc _).trans' k79 (fun i hi e => by have h1 := hb5 i e; have h2 := HK5.out.size; omega)
                  · have e : g9 = i := by simpa [Value.ownBlock] using hi
                    omega
                clear hrow9 hg9 ht9 k79 HR8 HB8
                go_upto_region 10 with fail
                clear j1 j2 hlt hqN hyN hyZ hpos hjN hX
                go_wp2_with fail
                try rw [(wrap_le m hm4).2.2.1]
                refine ⟨HNEW.out, ?_⟩
                simp only [intOf]
                omega
    · have j1 : ¬ (k : Int) < (N : Int) := by omega
      go_wp2_with fail
      refine bodyPost_ret (results_tmp2 rfl _ _ _) rfl ?_
      refine ⟨.inl ⟨rfl, fun j hj d => HNo.out j (by rw [HN.out] at hj; omega) d⟩, HKk.out⟩
end Go.Proofs.YtdlieecpckpemaaGreatDoor
namespace Go.Proofs.YtdlieecpckpemaaGreatDoor
open Go.RowKit Go.Sort Go.Lib Go.Maps
/-- The links' table is the document's list. -/
structure TabX (us : Int × Int → Option (List Ar)) (X : List Rl) : Prop where
  at' : ∀ ρ ∈ X, us ρ.x = some ρ.al
  no : ∀ q, q ∉ X.map (·.x) → us q = none
  st : Strict (X.map (·.x))
theorem TabX.some {us : Int × Int → Option (List Ar)} {X : List Rl} (h : TabX us X) (q : Int × Int) : (us q).isSome = true ↔ q ∈ X.map (·.x) := by
  constructor
  · intro hs
    by_cases hm : q ∈ X.map (·.x)
    · exact hm
    · rw [h.no q hm] at hs; cases hs
  · intro hm
    obtain ⟨ρ, hρ, rfl⟩ := List.mem_map.1 hm
    rw [h.at' ρ hρ]; rfl
theorem strict_nodup {K : List (Int × Int)} (h : Strict K) : K.Nodup := List.Pairwise.imp (fun {a b} h e => by subst e; rw [swoA.irrefl] at h; cases h) h
theorem setX_map {X : List Rl} {lo : Nat} {b : Bool} {q : Int × Int} {al : List Ar} {av : Option Addr} {cv : Nat} : (setX X lo b ⟨q, al, av, cv⟩).map (·.x) = (X.map (·.x)).take lo ++ q :: (X.map (·.x)).drop (if b then lo + 1 else lo) := by
  unfold setX
  rw [List.map_append, List.map_cons, List.map_take, List.map_drop]
theorem setX_true {X : List Rl} {lo : Nat} {q : Int × Int} {al : List Ar} {av : Option Addr} {cv : Nat} (h : (X.map (·.x))[lo]? = some q) : (setX X lo true ⟨q, al, av, cv⟩).map (·.x) = X.map (·.x) := by
  rw [setX_map]
  obtain ⟨hl, he⟩ := List.getElem?_eq_some_iff.1 h
  have : (X.map (·.x)).drop lo = q :: (X.map (·.x)).drop (lo + 1) := by rw [List.drop_eq_getElem_cons hl, he]
  rw [if_pos rfl, ← this, List.take_append_drop]
theorem setX_strict {X : List Rl} {lo : Nat} {b : Bool} {q : Int × Int} {al : List Ar} {av : Option Addr} {cv : Nat} (hs : Strict (X.map (·.x))) (hf : FndIs (X.map (·.x)) q lo b) : Strict ((setX X lo b ⟨q, al, av, cv⟩).map (·.x)) := by
  cases b with
  | true => rw [setX_true hf.mem]; exact hs
  | false =>
    rw [setX_map]
    obtain ⟨h1, h2, h3⟩ := hf
    have hup : ∀ y, (X.map (·.x))[lo]? = some y → ltOf cfA q y = true := by
      rcases h3 with ⟨e, _⟩ | ⟨_, h⟩
      · cases e
      · exact h
    have hlow : ∀ j y, j < lo → (X.map (·.x))[j]? = some y → ltOf cfA y q = true := fun j y hj hy => by
      obtain ⟨g1, g2⟩ := h2 j y hj hy
      cases hq : ltOf cfA y q with
      | true => rfl
      | false => exact absurd (cfA_same _ _ hq g1) g2
    have hab : ∀ j y, lo ≤ j → (X.map (·.x))[j]? = some y → ltOf cfA q y = true := fun j y hj hy => by
      have hkl := Nat.lt_of_le_of_lt hj (List.getElem?_eq_some_iff.1 hy).1
      obtain ⟨z, hz⟩ : ∃ z, (X.map (·.x))[lo]? = some z := ⟨_, List.getElem?_eq_getElem hkl⟩
      rcases Nat.lt_or_ge lo j with c | c
      · exact swoA.trans _ _ _ (hup z hz) (strict_lt hs hz hy c)
      · have e : lo = j := by omega
        subst e
        exact hup y hy
    rw [if_neg (by decide)]
    unfold Strict at hs ⊢
    rw [List.pairwise_append]
    refine ⟨hs.take, ?_, fun a ha c hc => ?_⟩
    · rw [List.pairwise_cons]
      refine ⟨fun y hy => ?_, hs.drop⟩
      obtain ⟨j, hj⟩ := List.mem_iff_getElem?.1 hy
      rw [List.getElem?_drop] at hj
      exact hab (lo + j) y (by omega) hj
    · obtain ⟨j, hj⟩ := List.mem_iff_getElem?.1 ha
      rw [List.getElem?_take] at hj
      split at hj
      · rename_i hjl
        have g1 := hlow j a hjl hj
        rcases List.mem_cons.1 hc with e | hc
        · rw [e]; exact g1
        · obtain ⟨i, hi⟩ := List.mem_iff_getElem?.1 hc
          rw [List.getElem?_drop] at hi
          exact swoA.trans _ _ _ g1 (hab (lo + i) c (by omega) hi)
      · cases hj
theorem fnd_ne {X : List Rl} {lo : Nat} {b : Bool} {q : Int × Int} (hs : Strict (X.map (·.x))) (hf : FndIs (X.map (·.x)) q lo b) {ρ : Rl} (h : ρ ∈ X.take lo ∨ ρ ∈ X.drop (if b then lo + 1 else lo)) : ρ.x ≠ q := fun e => by
  have hpos : ∃ j, X[j]? = some ρ ∧ (b = true → j ≠ lo) := by
    rcases h with h | h
    · obtain ⟨j, hj⟩ := List.mem_iff_getElem?.1 h
      rw [List.getElem?_take] at hj
      split at hj
      · exact ⟨j, hj, fun _ => by omega⟩
      · cases hj
    · obtain ⟨j, hj⟩ := List.mem_iff_getElem?.1 h
      rw [List.getElem?_drop] at hj
      refine ⟨_, hj, fun hb => ?_⟩
      rw [hb, if_pos rfl]
      omega
  obtain ⟨j, hj, hne⟩ := hpos
  have hk : (X.map (·.x))[j]? = some q := by rw [List.getElem?_map, hj, ← e]; rfl
  cases b with
  | true => exact hne rfl (nodup_inj (strict_nodup hs) hk hf.mem)
  | false => exact hf.not_mem hs (List.mem_of_getElem? hk)
theorem TabX.set {us : Int × Int → Option (List Ar)} {X : List Rl} (h : TabX us X) {q : Int × Int} {lo : Nat} {b : Bool} {al : List Ar} {av : Option Addr} {cv : Nat} (hf : FndIs (X.map (·.x)) q lo b) : TabX (updU us q al) (setX X lo b ⟨q, al, av, cv⟩) := by
  refine ⟨fun ρ hρ => ?_, fun q' hq' => ?_, setX_strict h.st hf⟩
  · unfold setX at hρ
    unfold updU
    rcases List.mem_append.1 hρ with hρ | hρ
    · rw [if_neg (fnd_ne h.st hf (.inl hρ))]; exact h.at' ρ (List.mem_of_mem_take hρ)
    · rcases List.mem_cons.1 hρ with rfl | hρ
      · rw [if_pos rfl]
      · rw [if_neg (fnd_ne h.st hf (.inr hρ))]; exact h.at' ρ (List.mem_of_mem_drop hρ)
  · have hqq : q' ≠ q := fun e => hq' (by rw [setX_map, e]; simp)
    unfold updU
    rw [if_neg hqq]
    refine h.no q' (fun hm => hq' ?_)
    cases b with
    | true => rw [setX_true hf.mem]; exact hm
    | false =>
      rw [setX_map, if_neg (by decide)]
      rw [← List.take_append_drop lo (X.map (·.x))] at hm
      rcases List.mem_append.1 hm with hm | hm
      · exact List.mem_append_left _ hm
      · exact List.mem_append_right _ (List.mem_cons_of_mem _ hm)
theorem TabX.drop {us : Int × Int → Option (List Ar)} {X : List Rl} (h : TabX us X) {q : Int × Int} {lo : Nat} {b : Bool} (hf : FndIs (X.map (·.x)) q lo b) : TabX (delU us q) (dropX X lo b) := by
  cases b with
  | false =>
    have hq : us q = none := h.no q (hf.not_mem h.st)
    have e : delU us q = us := by
      funext y
      unfold delU
      by_cases e : y = q
      · rw [if_pos e, e, hq]
      · rw [if_neg e]
    rw [e]; exact h
  | true =>
    have hdx : dropX X lo true = X.take lo ++ X.drop (lo + 1) := rfl
    rw [hdx]
    refine ⟨fun ρ hρ => ?_, fun q' hq' => ?_, ?_⟩
    · have hne : ρ.x ≠ q := fnd_ne h.st hf (List.mem_append.1 hρ)
      unfold delU
      rw [if_neg hne]
      exact h.at' ρ (dropX_mem (b := true) hρ)
    · unfold delU
      by_cases e : q' = q
      · rw [if_pos e]
      · rw [if_neg e]
        refine h.no q' (fun hm => hq' ?_)
        obtain ⟨hl, he⟩ := List.getElem?_eq_some_iff.1 hf.mem
        rw [List.map_append, List.map_take, List.map_drop]
        rw [← List.take_append_drop lo (X.map (·.x)), List.drop_eq_getElem_cons hl, he] at hm
        rcases List.mem_append.1 hm with hm | hm
        · exact List.mem_append_left _ hm
        · rcases List.mem_cons.1 hm with hm | hm
          · exact absurd hm e
          · exact List.mem_append_right _ hm
    · rw [List.map_append, List.map_take, List.map_drop]
      have hsub : ((X.map (·.x)).take lo ++ (X.map (·.x)).drop (lo + 1)).Sublist (X.map (·.x)) := by
        conv => rhs; rw [← List.take_append_drop lo (X.map (·.x))]
        refine List.Sublist.append (List.Sublist.refl _) ?_
        rw [← List.drop_drop]
        exact List.drop_sublist _ _
      exact List.Pairwise.sublist hsub h.st
/-- Set on both sides: one answer, one table. -/
theorem set_both {us us' : Int × Int → Option (List Ar)} {X X' : List Rl} {n n' : Nat} {q : Int × Int} {A : List Ar} {er er' : Int} (h : TabX us X) (hn : n = X.length) (h1 : SetIs2 us n q A er us' n') (h2 : RSet X q A er' X') : er = er' ∧ TabX us' X' ∧ n' = X'.length := by
  have hsm := h.some q
  rcases h1 with ⟨rfl, rfl, h1⟩ | ⟨a1, a2, a3, a4, rfl, al, hal, rfl, rfl⟩
  · rcases h2 with ⟨rfl, h2⟩ | ⟨b1, b2, b3, b4, rfl, _⟩
    · refine ⟨?_, h, hn⟩
      rcases h1 with ⟨c1, rfl⟩ | ⟨c1, c2, rfl⟩ | ⟨c1, c2, c3, rfl⟩ | ⟨c1, c2, c3, c4, c5, rfl⟩ <;> rcases h2 with ⟨d1, rfl⟩ | ⟨d1, d2, rfl⟩ | ⟨d1, d2, d3, rfl⟩ | ⟨d1, d2, d3, d4, d5, rfl⟩ <;> first | rfl | (exfalso; first | omega | (rw [c1] at d1; cases d1; done) | (rw [c3] at d3; cases d3; done))
    · exfalso
      rcases h1 with ⟨c1, _⟩ | ⟨c1, c2, _⟩ | ⟨c1, c2, c3, _⟩ | ⟨c1, c2, c3, c4, c5, _⟩
      · rw [c1] at b1; cases b1
      · omega
      · rw [c3] at b3; cases b3
      · rcases b4 with b4 | b4
        · omega
        · have := hsm.2 b4; rw [c5] at this; cases this
  · rcases h2 with ⟨rfl, h2⟩ | ⟨b1, b2, b3, b4, rfl, lo, b, al', av, cv, hf, hal', rfl⟩
    · exfalso
      rcases h2 with ⟨c1, _⟩ | ⟨c1, c2, _⟩ | ⟨c1, c2, c3, _⟩ | ⟨c1, c2, c3, c4, c5, _⟩
      · rw [c1] at a1; cases a1
      · omega
      · rw [c3] at a3; cases a3
      · rcases a4 with a4 | a4
        · omega
        · exact c5 (hsm.1 a4)
    · have e := hal.uniq hal'
      subst e
      refine ⟨rfl, h.set hf, ?_⟩
      have hlo : lo ≤ X.length := by have := hf.1; rwa [List.length_map] at this
      unfold cntU
      cases b with
      | true =>
        have hm := List.mem_of_getElem? hf.mem
        rw [setX_len hlo (fun _ => by have := (List.getElem?_eq_some_iff.1 hf.mem).1; rwa [List.length_map] at this), if_pos (hsm.2 hm), hn]; rfl
      | false =>
        rw [setX_len hlo (fun e => by cases e), if_neg (fun e => hf.not_mem h.st (hsm.1 e)), hn]; rfl
theorem drop_len {X : List Rl} {us : Int × Int → Option (List Ar)} (h : TabX us X) {q : Int × Int} {lo : Nat} {b : Bool} (hf : FndIs (X.map (·.x)) q lo b) : cntD us q X.length = (dropX X lo b).length := by
  unfold cntD dropX
  cases b with
  | true =>
    have hm := List.mem_of_getElem? hf.mem
    have hl := (List.getElem?_eq_some_iff.1 hf.mem).1
    rw [List.length_map] at hl
    rw [if_pos ((h.some q).2 hm), if_pos rfl, List.length_append, List.length_take, List.length_drop]
    omega
  | false => rw [if_neg (fun e => hf.not_mem h.st ((h.some q).1 e))]; rfl
theorem useD_iff {us : Int × Int → Option (List Ar)} {X : List Rl} (h : TabX us X) : usW (X.map (·.x)) us = useD X := by
  funext p q
  apply propext
  show (q < (X.map (·.x)).length ∧ useP (X.map (·.x)) us p q = true) ↔ useD X p q
  constructor
  · rintro ⟨hq, hu⟩
    rw [List.length_map] at hq
    have hp := (useP_lt2 p q hu).1
    rw [List.length_map] at hp
    have e1 : X[p]? = some X[p] := List.getElem?_eq_getElem hp
    have e2 : X[q]? = some X[q] := List.getElem?_eq_getElem hq
    have hr := (useP_iff (L := X.map (·.x)) (us := us) (a := q) (b := p) (by rw [List.getElem?_map, e2]; rfl) (by rw [List.getElem?_map, e1]; rfl)).1 ⟨by rw [List.length_map]; exact hq, hu⟩
    unfold usR at hr
    rw [h.at' _ (List.mem_of_getElem? e1), Option.any_some] at hr
    unfold useD
    rw [UD_some e1 e2]; exact hr
  · intro hu
    obtain ⟨hp, hq⟩ := useD_lt hu
    have e1 : X[p]? = some X[p] := List.getElem?_eq_getElem hp
    have e2 : X[q]? = some X[q] := List.getElem?_eq_getElem hq
    unfold useD at hu
    rw [UD_some e1 e2] at hu
    have hr : usR us X[p].x X[q].x := by
      unfold usR
      rw [h.at' _ (List.mem_of_getElem? e1), Option.any_some]; exact hu
    have := (useP_iff (L := X.map (·.x)) (us := us) (a := q) (b := p) (by rw [List.getElem?_map, e2]; rfl) (by rw [List.getElem?_map, e1]; rfl)).2 hr
    exact ⟨this.1, this.2⟩
theorem cy_far {use : Nat → Nat → Prop} {f : Nat} : Tj.Cy (fun a b => use b a) f ↔ ∃ d, Tj.Far use f f d := by
  rw [Tj.cy_iff]
  constructor
  · rintro ⟨d, h1, h2⟩; exact Tj.Far.of h2 h1
  · rintro ⟨d, h1, h2, _⟩; exact ⟨d, h1, h2⟩
/-- Circle on both sides: one answer. -/
theorem circle_both {w w' w'' : World} {us : Int × Int → Option (List Ar)} {X : List Rl} {n : Nat} {e e' : Ending} (h : TabX us X) (h1 : CirOut w us n e w') (h2 : RCir X e' w'') :
    Kp w w' Nul ∧ ((e = .returned (.tuple #[.slice none 0 0, .bool false]) ∧ e' = .returned (.tuple #[.slice none 0 0, .bool false])) ∨
      ∃ (R : List (Int × Int)) (b c b' c' : Nat), 0 < R.length ∧ R.length ≤ (X.map (·.x)).length ∧ e = .returned (.tuple #[.slice (some ⟨b, 0, none⟩) R.length c, .bool true]) ∧ e' = .returned (.tuple #[.slice (some ⟨b', 0, none⟩) R.length c', .bool true]) ∧ w.heap.size ≤ b ∧ CellsAt w' b 0 R ∧ CellsAt w'' b' 0 R ∧ ∀ x ∈ R, x ∈ X.map (·.x)) := by
  obtain ⟨L, hst, hm, hn, hk, h1⟩ := h1
  have hL : L = X.map (·.x) := hst.same h.st (fun x => by rw [hm, h.some])
  subst hL
  have hU := useD_iff h
  have hcy : ∀ f, Tj.Cy (usE (X.map (·.x)) us) f ↔ ∃ d, Tj.Far (useD X) f f d := fun f => by
    rw [← hU]
    exact cy_far (use := usW (X.map (·.x)) us)
  refine ⟨hk, ?_⟩
  rcases h1 with ⟨rfl, h1⟩ | ⟨f, l, left, R, v, rfl, hc⟩
  · rcases h2 with ⟨rfl, _⟩ | ⟨f', l', left', b', c', _, hf, _, hfar, _⟩
    · exact .inl ⟨rfl, rfl⟩
    · exact absurd ((hcy f').2 ⟨_, hfar⟩) (h1 f' (by rw [List.length_map]; exact hf))
  · have hcl := hc.lt
    rw [List.length_map] at hcl
    rcases h2 with ⟨_, h2⟩ | ⟨f', l', left', b', c', rfl, hf, hfirst, hfar, hchn, hcells⟩
    · obtain ⟨d, hd⟩ := (hcy f).1 hc.cy
      exact absurd hd (h2 f hcl d)
    · have hff : f = f' := by
        rcases Nat.lt_trichotomy f f' with q | q | q
        · obtain ⟨d, hd⟩ := (hcy f).1 hc.cy
          exact absurd hd (hfirst f q d)
        · exact q
        · exact absurd ((hcy f').2 ⟨_, hfar⟩) (hc.first f' q)
      subst hff
      have hcf := hc.far
      have hcc := hc.chn
      rw [hU] at hcf hcc
      have hlr := hcf.uniq hfar
      have hle : left = left' := by omega
      subst hle
      have hll := hcc.uniq hchn
      subst hll
      obtain ⟨a, c, hv, ho⟩ := hc.out
      have hRl := hc.len
      rcases ho with ⟨_, e⟩ | ⟨b, rfl, h2, h3⟩
      · rw [e] at hRl; cases hRl
      · have hlen : l.length = left := Tj.Chn.len hcc
        have hR : (f :: l).map (fun p => (X.map (·.x)).getD p (0, 0)) = R := by
          apply List.ext_getElem?
          intro i
          rw [List.getElem?_map]
          cases hi : (f :: l)[i]? with
          | none =>
            have : R[i]? = none := by
              rw [List.getElem?_eq_none_iff] at hi ⊢
              rw [List.length_cons] at hi; omega
            rw [this]; rfl
          | some p =>
            have h4 := hc.at' i p hi
            have hil := (List.getElem?_eq_some_iff.1 hi).1
            rw [List.length_cons] at hil
            have hRi : R[i]? = some R[i] := List.getElem?_eq_getElem (by omega)
            rw [h4, Option.map_some, List.getD_eq_getElem?_getD]
            rw [h4] at hRi
            rw [hRi]; rfl
        rw [hR] at hcells
        have hsub := hc.sub
        have hnd := (hc.ring hst).nod
        exact .inr ⟨R, b, c, b', c', by omega, hnd.length_le_of_subset hsub, by rw [hv], by rw [hRl], h2, h3, hcells, hsub⟩
end Go.Proofs.YtdlieecpckpemaaGreatDoor
namespace Go.Proofs.YtdlieecpckpemaaGreatDoor
open Go.RowKit Go.Sort Go.Lib Go.Maps
set_option maxRecDepth 20000 in
set_option maxHeartbeats 2000000 in
theorem addrs_at (R : List (Int × Int)) (a b : Option Addr) (m c d : Nat) (w : World) (ha : Lst w R a m) (hb : Lst w R b m) :
    Calls Tryz.prog 29 #[.slice a m c, .slice b m d] w fun e w' => e = .returned (.bool true) ∧ Kp w w' Nul := by
  have HA : Hid (Lst w R a m) := ha
  have HB : Hid (Lst w R b m) := hb
  have hm := ha.le
  clear ha hb
  go_enter Tryz.func29, Tryz.ntmps29
  go_wp2_with fail
  go_loopw [5] (fun s wr => RoundR w m s wr) (fun s _ => m - (intOf s).toNat)
  case atStart => exact ⟨0, Nat.zero_le _, rfl, Kp.refl _ _⟩
  case round =>
    obtain ⟨k, hk, rfl, hkp⟩ := hrel
    have HK : Hid (Kp w wr Nul) := hkp
    by_cases hlt : k < m
    · have j1 : (k : Int) < (m : Int) := by omega
      obtain ⟨b1, x1, x2, rfl, hx, c1, c2⟩ := (HA.out.kp hkp).get hlt
      obtain ⟨b2, y1, y2, rfl, hy, d1, d2⟩ := (HB.out.kp hkp).get hlt
      have e := hx.symm.trans hy
      injection e with e
      injection e with e1 e2
      subst e1 e2
      have hq := neq_addr x1 x2 x1 x2 true (by simp)
      clear hx hy hkp
      go_wp2_with fail
      go_quiet (fail)
      go_wp2_with fail
      go_roundw
      case rel => exact ⟨k + 1, by omega, by go_num, HK.out.drewN _⟩
      case measure => simp only [intOf]; omega
    · have j1 : ¬ (k : Int) < (m : Int) := by omega
      clear hkp
      go_wp2_with fail
      go_ret
      exact ⟨rfl, HK.out⟩
/-- The links and the document's, side by side. -/
structure CiS (w0 : World) (l x k : Nat) (wr : World) (F G : Nat → Prop) (v : Value) (X : List Rl) (us : Int × Int → Option (List Ar)) : Prop where
  lk : LinksIn wr F l us X.length
  dx : DX wr G x v X
  tab : TabX us X
  ap : ∀ j, F j → ¬ G j
  fr : ∀ j, F j → w0.heap.size ≤ j ∧ j < wr.heap.size
  gr : ∀ j, G j → w0.heap.size ≤ j ∧ j < wr.heap.size
  kp : Kp w0 wr Nul
  le : X.length ≤ k
def CiE (w0 : World) (l x k : Nat) (wr : World) : Prop := ∃ F G v X us, CiS w0 l x k wr F G v X us
theorem CiS.keep {w0 wr wq : World} {l x k : Nat} {F G : Nat → Prop} {v : Value} {X : List Rl} {us : Int × Int → Option (List Ar)} (h : CiS w0 l x k wr F G v X us) (g : Kp wr wq Nul) : CiS w0 l x k wq F G v X us :=
  ⟨h.lk.kp g (fun _ _ x => x), h.dx.kpn g, h.tab, h.ap, fun j hj => ⟨(h.fr j hj).1, Nat.lt_of_lt_of_le (h.fr j hj).2 g.size⟩, fun j hj => ⟨(h.gr j hj).1, Nat.lt_of_lt_of_le (h.gr j hj).2 g.size⟩, h.kp.trans g, h.le⟩
theorem CiE.keep {w0 wr wq : World} {l x k : Nat} (h : CiE w0 l x k wr) (g : Kp wr wq Nul) : CiE w0 l x k wq := by
  obtain ⟨F, G, v, X, us, h⟩ := h
  exact ⟨F, G, v, X, us, h.keep g⟩
/-- Between the two Sets. -/
def CiM (w0 : World) (l x k : Nat) (q : Int × Int) (al : List Ar) (er : Int) (wr : World) : Prop := ∃ F G v X us us' n', LinksIn wr F l us' n' ∧ DX wr G x v X ∧ TabX us X ∧ SetIs2 us X.length q al er us' n' ∧ (∀ j, F j → ¬ G j) ∧ (∀ j, F j → w0.heap.size ≤ j ∧ j < wr.heap.size) ∧ (∀ j, G j → w0.heap.size ≤ j ∧ j < wr.heap.size) ∧ Kp w0 wr Nul ∧ X.length ≤ k
theorem CiM.keep {w0 wr wq : World} {l x k : Nat} {q : Int × Int} {al : List Ar} {er : Int} (h : CiM w0 l x k q al er wr) (g : Kp wr wq Nul) : CiM w0 l x k q al er wq := by
  obtain ⟨F, G, v, X, us, us', n', h1, h2, h3, h4, h5, h6, h7, h8, h9⟩ := h
  exact ⟨F, G, v, X, us, us', n', h1.kp g (fun _ _ x => x), h2.kpn g, h3, h4, h5, fun j hj => ⟨(h6 j hj).1, Nat.lt_of_lt_of_le (h6 j hj).2 g.size⟩, fun j hj => ⟨(h7 j hj).1, Nat.lt_of_lt_of_le (h7 j hj).2 g.size⟩, h8.trans g, h9⟩
theorem cis_set1 {w0 wr : World} {l x k : Nat} (h : CiE w0 l x k wr) (hk : k ≤ 300) (c r : Int) (al : List Ar) (av : Option Addr) (cv : Nat) (hc : I64 c) (hr : I64 r) (hal : al.length ≤ 9223372036854775807) (ha : 0 < al.length → ∃ b o, av = some ⟨b, o, none⟩ ∧ AreasAt w0 b o al) :
    Calls Tryz.prog 26 #[.pointer (some ⟨l, 0, none⟩), .agg #[.int .i64 c, .int .i64 r], .slice av al.length cv] wr fun e w' => ∃ er, e = .returned (.int .i64 er) ∧ CiM w0 l x k (c, r) al er w' := by
  obtain ⟨F, G, v, X, us, h⟩ := h
  have hmx : (300 : Nat) < maxLen := by decide
  refine (set_any (fun j => F j ∨ wr.heap.size ≤ j) l X.length us c r al av cv wr (h.lk.mono (fun j _ hj => .inl hj)) hc hr hal (fun h0 => by obtain ⟨b, o, e, hh⟩ := ha h0; exact ⟨b, o, e, hh.kp h.kp (fun x => x)⟩) (by have := h.le; omega) (fun b hb => .inr hb)).mono ?_
  rintro e w' ⟨er, us', n', rfl, hs, hl, hk', _⟩
  have hF : Kp wr w' F := ⟨hk'.os, hk'.tape, hk'.output, hk'.size, fun j hj hn => hk'.block j hj (fun e => by rcases e with e | e; exact hn e; omega)⟩
  refine ⟨er, rfl, fun j => (F j ∨ wr.heap.size ≤ j) ∧ j < w'.heap.size, G, v, X, us, us', n', hl.below, h.dx.kp hF (fun j hj e => h.ap j e hj), h.tab, hs, fun j hj hg => ?_, fun j hj => ⟨?_, hj.2⟩, fun j hj => ⟨(h.gr j hj).1, Nat.lt_of_lt_of_le (h.gr j hj).2 hk'.size⟩, h.kp.trans' hF (fun j hj e => by have := (h.fr j e).1; omega), h.le⟩
  · rcases hj.1 with q | q
    · exact h.ap j q hg
    · have := (h.gr j hg).2; omega
  · rcases hj.1 with q | q
    · exact (h.fr j q).1
    · have := h.kp.size; omega
theorem cis_set2 {w0 wr : World} {l x k : Nat} {c r : Int} {al : List Ar} {er : Int} (h : CiM w0 l x k (c, r) al er wr) (hk : k ≤ 300) (av : Option Addr) (cv : Nat) (hal : al.length ≤ 9223372036854775807) (ha : 0 < al.length → ∃ b o, av = some ⟨b, o, none⟩ ∧ AreasAt w0 b o al) :
    Calls Tryz.prog 27 #[.pointer (some ⟨x, 0, none⟩), .agg #[.int .i64 c, .int .i64 r], .slice av al.length cv] wr fun e w' => e = .returned (.int .i64 er) ∧ CiE w0 l x (k + 1) w' := by
  obtain ⟨F, G, v, X, us, us', n', h1, h2, h3, h4, h5, h6, h7, h8, h9⟩ := h
  refine (rset_at G x v X c r al av cv wr h2 (by omega) h3.st hal (fun h0 => by
    obtain ⟨b, o, e, hh⟩ := ha h0
    obtain ⟨y, hy⟩ : ∃ y, al[0]? = some y := ⟨_, List.getElem?_eq_getElem h0⟩
    exact ⟨b, o, e, fun hg => by have := cell_lt (hh 0 y hy).1; have := (h7 b hg).1; omega, hh.kp h8 (fun x => x)⟩)).mono ?_
  rintro e w' ⟨er', v', X', rfl, hrs, hdx, hk'⟩
  obtain ⟨he, ht, hn⟩ := set_both h3 rfl h4 hrs
  subst he hn
  have hG : Kp wr w' G := hk'.mono (fun j _ e => by
    rcases e with e | e
    · rw [e]; exact h2.gx
    · exact h2.gr j e)
  have hlen : X'.length ≤ k + 1 := by
    rcases h4 with ⟨_, e2, _⟩ | ⟨_, _, _, _, _, al', _, _, e2⟩
    · omega
    · rw [e2]; unfold cntU; split <;> omega
  refine ⟨rfl, F, fun j => (G j ∨ wr.heap.size ≤ j) ∧ j < w'.heap.size, v', X', us', ⟨h1.kp hG (fun j hj hf => h5 j hj hf), hdx.mono (fun j hj hg => ⟨hg, hj⟩), ht, fun j hj hg => ?_, fun j hj => ⟨(h6 j hj).1, Nat.lt_of_lt_of_le (h6 j hj).2 hk'.size⟩, fun j hj => ⟨?_, hj.2⟩, h8.trans' hG (fun j hj e => by have := (h7 j e).1; omega), hlen⟩⟩
  · rcases hg.1 with q | q
    · exact h5 j hj q
    · have := (h6 j hj).2; omega
  · rcases hj.1 with q | q
    · exact (h7 j q).1
    · have := h8.size; omega
/-- Behind the two Circles. -/
theorem cis_circ1 {w0 wr : World} {l x k : Nat} {F G : Nat → Prop} {v : Value} {X : List Rl} {us : Int × Int → Option (List Ar)} (h : CiS w0 l x k wr F G v X us) (hk : k ≤ 300) (hT : Tab w0) :
    Calls Tryz.prog 22 #[.pointer (some ⟨l, 0, none⟩)] wr fun e w' => ∃ u is, e = .returned (.tuple #[u, .bool is]) ∧ CirOut wr us X.length e w' := by
  refine (circ_at F l X.length us wr h.lk (by have := h.le; omega) (fun b hb => (h.fr b hb).2) (hT.kp h.kp (fun x => x))).mono ?_
  intro e w' ho
  have ho' := ho
  obtain ⟨L, _, _, _, _, h1 | ⟨f, l', left, R, u, e1, _⟩⟩ := ho
  · exact ⟨_, _, h1.1, ho'⟩
  · exact ⟨_, _, e1, ho'⟩
theorem cis_circ2 {w0 wr w1 : World} {l x k : Nat} {F G : Nat → Prop} {v : Value} {X : List Rl} {us : Int × Int → Option (List Ar)} {u : Value} {is : Bool} (h : CiS w0 l x k wr F G v X us) (hk : k ≤ 300) (ho : CirOut wr us X.length (.returned (.tuple #[u, .bool is])) w1) :
    Calls Tryz.prog 28 #[.pointer (some ⟨x, 0, none⟩)] w1 fun e w' => CiE w0 l x k w' ∧ ((u = .slice none 0 0 ∧ is = false ∧ e = .returned (.tuple #[.slice none 0 0, .bool false])) ∨
      ∃ (R : List (Int × Int)) (m b c b' c' : Nat), 0 < m ∧ u = .slice (some ⟨b, 0, none⟩) m c ∧ is = true ∧ e = .returned (.tuple #[.slice (some ⟨b', 0, none⟩) m c', .bool true]) ∧ Lst w' R (some ⟨b, 0, none⟩) m ∧ Lst w' R (some ⟨b', 0, none⟩) m ∧ ∀ y ∈ R, I64 y.1 ∧ I64 y.2) := by
  have hk1 : Kp wr w1 Nul := by obtain ⟨_, _, _, _, hk, _⟩ := ho; exact hk
  refine (rcircle_at G x v X w1 (h.dx.kpn hk1) (by have := h.le; omega)).mono ?_
  rintro e w' ⟨hr, hk2⟩
  have h' := h.keep (hk1.trans hk2)
  refine ⟨⟨F, G, v, X, us, h'⟩, ?_⟩
  obtain ⟨_, hb⟩ := circle_both h.tab ho hr
  rcases hb with ⟨e1, e2⟩ | ⟨R, b, c, b', c', h1, h2, e1, e2, h3, h4, h5, h6⟩
  · injection e1 with e1
    injection e1 with e1
    have e3 : u = .slice none 0 0 ∧ is = false := by simpa using e1
    exact .inl ⟨e3.1, e3.2, e2⟩
  · injection e1 with e1
    injection e1 with e1
    have e3 : u = .slice (some ⟨b, 0, none⟩) R.length c ∧ is = true := by simpa using e1
    have hl : R.length ≤ 1048576 := by rw [List.length_map] at h2; have := h.le; omega
    refine .inr ⟨R, R.length, b, c, b', c', h1, e3.1, e3.2, e2, ⟨rfl, hl, fun _ => ⟨b, rfl, h4.kp hk2 (fun x => x)⟩⟩, ⟨rfl, hl, fun _ => ⟨b', rfl, h5⟩⟩, fun y hy => ?_⟩
    have hs := (h.tab.some y).2 (h6 y hy)
    cases hu : us y with
    | none => rw [hu] at hs; cases hs
    | some al => exact (h.lk.rng y al hu).i64
theorem cis_drop1 {w0 wr : World} {l x k : Nat} {F G : Nat → Prop} {v : Value} {X : List Rl} {us : Int × Int → Option (List Ar)} (h : CiS w0 l x k wr F G v X us) (c r : Int) (hc : I64 c) (hr : I64 r) :
    Calls Tryz.prog 24 #[.pointer (some ⟨l, 0, none⟩), .agg #[.int .i64 c, .int .i64 r]] wr fun e w' => (∃ b, e = .returned (.bool b)) ∧ KC wr w' ∧ Kp wr w' F ∧ LinksIn w' F l (delU us (c, r)) (cntD us (c, r) X.length) :=
  (drop2_at F l X.length us c r wr h.lk hc hr).mono fun _ _ ⟨h1, h2, h3, h4⟩ => ⟨⟨_, h1⟩, h4, h3, h2⟩
theorem cis_drop2 {w0 wr w1 : World} {l x k : Nat} {F G : Nat → Prop} {v : Value} {X : List Rl} {us : Int × Int → Option (List Ar)} (h : CiS w0 l x k wr F G v X us) (hk : k ≤ 300) (c r : Int) (h1 : Kp wr w1 F) (h2 : LinksIn w1 F l (delU us (c, r)) (cntD us (c, r) X.length)) :
    Calls Tryz.prog 30 #[.pointer (some ⟨x, 0, none⟩), .agg #[.int .i64 c, .int .i64 r]] w1 fun e w' => (∃ b, e = .returned (.bool b)) ∧ CiE w0 l x k w' := by
  have hd := h.dx.kp h1 (fun j hj e => h.ap j e hj)
  refine (rdrop_at G x v X c r w1 hd (by have := h.le; omega)).mono ?_
  rintro e w' ⟨lo, b, v', rfl, hf, hdx, hk'⟩
  have hG : Kp w1 w' G := hk'.mono (fun j _ e => by
    rcases e with e | e
    · rw [e]; exact hd.gx
    · exact hd.gr j e)
  rw [drop_len h.tab hf] at h2
  have hle : (dropX X lo b).length ≤ k := by
    have := h.le
    rw [← drop_len h.tab hf]
    unfold cntD
    split <;> omega
  refine ⟨⟨b, rfl⟩, F, fun j => (G j ∨ w1.heap.size ≤ j) ∧ j < w'.heap.size, v', dropX X lo b, _, ⟨h2.kp hG (fun j hj hf => h.ap j hj hf), hdx.mono (fun j hj hg => ⟨hg, hj⟩), h.tab.drop hf, fun j hj hg => ?_, fun j hj => ⟨(h.fr j hj).1, Nat.lt_of_lt_of_le (h.fr j hj).2 (Nat.le_trans h1.size hk'.size)⟩, fun j hj => ⟨?_, hj.2⟩, (h.kp.trans' h1 (fun j hj e => by have := (h.fr j e).1; omega)).trans' hG (fun j hj e => by have := (h.gr j e).1; omega), hle⟩⟩
  · rcases hg.1 with q | q
    · exact h.ap j hj q
    · have := (h.fr j hj).2; have := h1.size; omega
  · rcases hj.1 with q | q
    · exact (h.gr j q).1
    · have := h.kp.size; have := h1.size; omega
end Go.Proofs.YtdlieecpckpemaaGreatDoor
namespace Go.Proofs.YtdlieecpckpemaaGreatDoor
open Go.RowKit Go.Sort Go.Lib Go.Maps
def C1R (w0 : World) (l x RN : Nat) (s : Value) (wr : World) : Prop := ∃ k : Nat, k ≤ RN ∧ k ≤ 300 ∧ s = .int .i64 (k : Int) ∧ CiE w0 l x k wr
def C2S (w0 : World) (l x : Nat) (s : Value) (wr : World) : Prop := ∃ k : Nat, k ≤ 4 ∧ s = .int .i64 (k : Int) ∧ CiE w0 l x 300 wr
theorem CiE.up {w0 wr : World} {l x k k' : Nat} (h : CiE w0 l x k wr) (hk : k ≤ k') : CiE w0 l x k' wr := by
  obtain ⟨F, G, v, X, us, h⟩ := h
  exact ⟨F, G, v, X, us, h.lk, h.dx, h.tab, h.ap, h.fr, h.gr, h.kp, Nat.le_trans h.le hk⟩
theorem CiE.kpw {w0 wr : World} {l x k : Nat} (h : CiE w0 l x k wr) : Kp w0 wr Nul := by
  obtain ⟨F, G, v, X, us, h⟩ := h
  exact h.kp
theorem CiM.kpw {w0 wr : World} {l x k : Nat} {q : Int × Int} {al : List Ar} {er : Int} (h : CiM w0 l x k q al er wr) : Kp w0 wr Nul := by
  obtain ⟨F, G, v, X, us, us', n', _, _, _, _, _, _, _, h8, _⟩ := h
  exact h8
theorem cis_start {w1 w2 w3 : World} {x : Nat} (h2 : w2 = w1.alloc (.cells #[.map none] 66)) (hd : DX w3 (fun j => w2.heap.size ≤ j) x (.slice none 0 0) []) (hk : Kp w2 w3 Nul) : CiE w1 w1.heap.size x 0 w3 := by
  have hl : LinksIn w2 (Fr w1.heap.size) w1.heap.size (fun _ => none) 0 := by rw [h2]; exact links_new w1 _ (Nat.le_refl _)
  have k12 : Kp w1 w2 Nul := by rw [h2]; exact (Kp.refl w1 Nul).alloc _
  refine ⟨fun j => w1.heap.size ≤ j ∧ j < w2.heap.size, fun j => w2.heap.size ≤ j ∧ j < w3.heap.size, _, [], fun _ => none, hl.below.kp hk (fun _ _ x => x), hd.mono (fun j hj hg => ⟨hg, hj⟩), ⟨fun ρ hρ => (by cases hρ), fun q _ => rfl, List.Pairwise.nil⟩, fun j hf hg => by omega, fun j hj => ⟨hj.1, by have := hk.size; omega⟩, fun j hj => ⟨by have := k12.size; omega, hj.2⟩, k12.trans hk, Nat.le_refl _⟩
set_option maxRecDepth 20000 in
set_option maxHeartbeats 8000000 in
theorem circles_law (R0 : List Rl) (ra : Option Addr) (rc : Nat) (w : World) (hR0 : R0.length ≤ 9223372036854775807) (hra : 0 < R0.length → ∃ b o, ra = some ⟨b, o, none⟩ ∧ RulesAt w b o R0) (hT : Tab w) :
    Calls Tryz.prog 5 #[.slice ra R0.length rc] w fun e w' => e = .returned (.bool true) ∧ Kp w w' Nul := by
  obtain ⟨RN, hRN⟩ : ∃ RN, R0.length = RN := ⟨_, rfl⟩
  have HRN : Hid (R0.length = RN) := hRN
  have HAw : Hid (Calls Tryz.prog 6 #[] w fun e w' => e = .returned (.bool true) ∧ Kp w w' Nul) := awake_at w
  have HT : Hid (Tab w) := hT
  have HRA : Hid (0 < RN → ∃ b o, ra = some ⟨b, o, none⟩ ∧ RulesAt w b o R0) := by show _ → _; rw [← hRN]; exact hra
  have hRm : RN ≤ 9223372036854775807 := by rw [← hRN]; exact hR0
  rw [hRN]
  clear hR0 hra hT hRN
  go_enter Tryz.func5, Tryz.ntmps5
  go_wp2_with fail
  refine HAw.out.mono ?_
  rintro e w1 ⟨rfl, hk1⟩
  have HK1 : Hid (Kp w w1 Nul) := hk1
  clear hk1 HAw
  go_wp2_with fail
  refine (newL_at w1).mono ?_
  rintro e w2 ⟨rfl, hw2⟩
  have HW2 : Hid (w2 = w1.alloc (.cells #[.map none] 66)) := hw2
  clear hw2
  go_wp2_with fail
  refine (new18_at w2).mono ?_
  rintro e w3 ⟨x, rfl, hd, hk3⟩
  have HS3 : Hid (CiE w1 w1.heap.size x 0 w3) := cis_start HW2.out hd hk3
  clear hd hk3
  obtain ⟨l, hl⟩ : ∃ l, w1.heap.size = l := ⟨_, rfl⟩
  rw [hl] at HS3 ⊢
  have HRr : Hid (∀ k, k < RN → ∃ b o c r al av cv, ra = some ⟨b, o, none⟩ ∧ (I64 c ∧ I64 r) ∧ al.length ≤ 9223372036854775807 ∧ (0 < al.length → ∃ b o, av = some ⟨b, o, none⟩ ∧ AreasAt w1 b o al) ∧ ∀ wq, Kp w1 wq Nul → (wq.cell? ⟨b, o + k * 3, none⟩ = some (.int .i64 c) ∧ wq.cell? ⟨b, o + k * 3 + 1, none⟩ = some (.int .i64 r) ∧ wq.cell? ⟨b, o + k * 3 + 2, none⟩ = some (.slice av al.length cv))) := fun k hk => by
    obtain ⟨b, o, e, hh⟩ := HRA.out (by omega)
    obtain ⟨⟨⟨c, r⟩, al, av, cv⟩, hρ⟩ : ∃ ρ, R0[k]? = some ρ := ⟨_, List.getElem?_eq_getElem (by rw [HRN.out]; exact hk)⟩
    obtain ⟨_, ⟨i1, i2⟩, hal, hav⟩ := (hh.kp HK1.out) k _ hρ
    exact ⟨b, o, c, r, al, av, cv, e, ⟨i1, i2⟩, hal, hav, fun wq kq => ((hh.kp (HK1.out.trans kq)) k _ hρ).1⟩
  clear hl
  go_wp2_with fail
  go_loopw [6] (fun s wr => C1R w1 l x RN s wr) (fun s _ => 300 - (intOf s).toNat)
  case atStart => exact ⟨0, Nat.zero_le _, Nat.zero_le _, rfl, HS3.out⟩
  case round =>
    clear HS3
    rename World => wk
    obtain ⟨k, hk, hk3, rfl, hci⟩ := hrel
    have HCI : Hid (CiE w1 l x k wk) := hci
    clear hci
    by_cases hlt2 : k < RN ∧ k < 300
    · obtain ⟨hlt, h300⟩ := hlt2
      have j1 : (k : Int) < (RN : Int) := by omega
      have j2 : (k : Int) < 300 := by omega
      obtain ⟨b, o, c, r, al, av, cv, rfl, hi, hal, hav, hcel⟩ := HRr.out k hlt
      have KS : Hid (∀ wq, Kp w1 wq Nul → (wq.cell? ⟨b, o + k * 3, none⟩ = some (.int .i64 c) ∧ wq.cell? ⟨b, o + k * 3 + 1, none⟩ = some (.int .i64 r) ∧ wq.cell? ⟨b, o + k * 3 + 2, none⟩ = some (.slice av al.length cv))) := hcel
      have HSet1 : Hid (∀ wq, Kp wk wq Nul → Calls Tryz.prog 26 #[.pointer (some ⟨l, 0, none⟩), .agg #[.int .i64 c, .int .i64 r], .slice av al.length cv] wq fun e w' => ∃ er, e = .returned (.int .i64 er) ∧ CiM w1 l x k (c, r) al er w') := fun wq kq => cis_set1 (HCI.out.keep kq) hk3 c r al av cv hi.1 hi.2 hal hav
      have HSet2 : Hid (∀ er wq, CiM w1 l x k (c, r) al er wq → Calls Tryz.prog 27 #[.pointer (some ⟨x, 0, none⟩), .agg #[.int .i64 c, .int .i64 r], .slice av al.length cv] wq fun e w' => e = .returned (.int .i64 er) ∧ CiE w1 l x (k + 1) w') := fun er wq hm => cis_set2 hm hk3 av cv hal hav
      have HKW : Hid (Kp w1 wk Nul) := HCI.out.kpw
      have hcel0 := KS.out wk HKW.out
      generalize hnl : al.length = nl at *
      clear hnl hal hav hcel hi
      obtain ⟨c1, c2, c3⟩ := hcel0
      go_upto_region 9 with fail
      go_region_held3 (fun w' => w'.cell? ⟨b, o + k * 3, none⟩ = some (.int .i64 c) ∧ w'.cell? ⟨b, o + k * 3 + 1, none⟩ = some (.int .i64 r) ∧ w'.cell? ⟨b, o + k * 3 + 2, none⟩ = some (.slice av nl cv))
        (first | (exact KS.out _ HKW.out) | (exact KS.out _ HKW.out.drew) | (exact KS.out _ hm5.kpw))
        ((go_at_call 26; refine (HSet1.out _ (by first | exact (Kp.refl _ _).drew | exact Kp.refl _ _)).mono ?_; rintro e w5 ⟨er, rfl, hm5⟩))
      all_goals
        have HM5 : Hid (CiM w1 l x k (c, r) al er w5) := hm5
        have HK5 : Hid (Kp w1 w5 Nul) := hm5.kpw
        obtain ⟨d1, d2, d3⟩ := KS.out w5 HK5.out
        clear hm5 c1 c2 c3 HSet1
        go_upto_region 10 with fail
        go_region_held3 (fun w' => w'.cell? ⟨b, o + k * 3, none⟩ = some (.int .i64 c) ∧ w'.cell? ⟨b, o + k * 3 + 1, none⟩ = some (.int .i64 r) ∧ w'.cell? ⟨b, o + k * 3 + 2, none⟩ = some (.slice av nl cv))
          (first | (exact KS.out _ HK5.out) | (exact KS.out _ HK5.out.drew) | (exact KS.out _ hm6.kpw))
          ((go_at_call 27; refine (HSet2.out er _ (by first | exact HM5.out.keep ((Kp.refl _ _).drew) | exact HM5.out)).mono ?_; rintro e w6 ⟨rfl, hm6⟩))
        all_goals
          have HM6 : Hid (CiE w1 l x (k + 1) w6) := hm6
          clear hm6
          go_wp2_with fail
          go_roundw
          case rel => exact ⟨k + 1, by omega, by omega, by go_num, HM6.out⟩
          case measure => simp only [intOf]; omega
    · have HC2 : Hid (CiE w1 l x 300 wk) := HCI.out.up hk3
      have hE : (¬ k < RN) ∨ (k < RN ∧ ¬ k < 300) := by omega
      clear hlt2
      rcases hE with hE | ⟨hE1, hE2⟩
      have j1 : ¬ (k : Int) < (RN : Int) := by omega
      go_upto_region 13 with fail
      rotate_left
      have j1 : (k : Int) < (RN : Int) := by omega
      have j2 : ¬ (k : Int) < 300 := by omega
      go_upto_region 13 with fail
      clear j2 hE1 hE2
      rotate_left
      clear hE
      all_goals
        clear j1 hk hk3
        go_wp2_with fail
        go_loopw [9] (fun s wr => C2S w1 l x s wr) (fun s _ => 4 - (intOf s).toNat)
        case atStart => exact ⟨0, Nat.zero_le _, rfl, HC2.out⟩
        case round =>
          rename World => wi
          obtain ⟨i, hi4, rfl, F, G, v, X, us, hci⟩ := hrel
          have HS : Hid (CiS w1 l x 300 wi F G v X us) := hci
          clear hci
          by_cases hlt : i < 4
          · have g1 : (i : Int) < 4 := by omega
            go_wp2_with fail
            refine (cis_circ1 HS.out (Nat.le_refl _) (HT.out.kp HK1.out (fun x => x))).mono ?_
            rintro e w4 ⟨u, is, rfl, ho⟩
            have HO : Hid (CirOut wi us X.length (.returned (.tuple #[u, .bool is])) w4) := ho
            clear ho
            go_wp2_with fail
            refine (cis_circ2 HS.out (Nat.le_refl _) HO.out).mono ?_
            rintro e w5 ⟨hce, hcs⟩
            have HCE : Hid (CiE w1 l x 300 w5) := hce
            clear hce
            rcases hcs with ⟨rfl, rfl, rfl⟩ | ⟨R, m, b, c, b', c', hm0, rfl, rfl, rfl, hL1, hL2, hri⟩
            · have hL0 : Lst w5 [] none 0 := ⟨rfl, Nat.zero_le _, fun h => absurd h (Nat.lt_irrefl _)⟩
              have HAd : Hid (Calls Tryz.prog 29 #[.slice none 0 0, .slice none 0 0] w5 fun e w' => e = .returned (.bool true) ∧ Kp w5 w' Nul) := addrs_at [] none none 0 0 0 w5 hL0 hL0
              clear hL0 HO HS
              go_wp2_with fail
              refine HAd.out.mono ?_
              rintro e w6 ⟨rfl, hk6⟩
              have HC6 : Hid (CiE w1 l x 300 w6) := HCE.out.keep hk6
              clear hk6 HAd HCE
              go_wp2_with fail
              go_roundw
              case rel => exact ⟨i + 1, by omega, by go_num, HC6.out⟩
              case measure => simp only [intOf]; omega
            · have HAd : Hid (Calls Tryz.prog 29 #[.slice (some ⟨b, 0, none⟩) m c, .slice (some ⟨b', 0, none⟩) m c'] w5 fun e w' => e = .returned (.bool true) ∧ Kp w5 w' Nul) := addrs_at R _ _ m c c' w5 hL1 hL2
              have HL2 : Hid (Lst w5 R (some ⟨b', 0, none⟩) m) := hL2
              have HRI : Hid (∀ y ∈ R, I64 y.1 ∧ I64 y.2) := hri
              have hmz : (0 : Int) < (m : Int) := by omega
              clear hL1 hL2 hri HO HS
              go_wp2_with fail
              refine HAd.out.mono ?_
              rintro e w6 ⟨rfl, hk6⟩
              have HC6 : Hid (CiE w1 l x 300 w6) := HCE.out.keep hk6
              obtain ⟨b2, x1, x2, hb2, hx, c1, c2⟩ := (HL2.out.kp hk6).get hm0
              injection hb2 with hb2
              injection hb2 with hb2
              subst hb2
              have hxi := HRI.out _ (List.mem_of_getElem? hx)
              rw [Nat.zero_mul] at c1 c2
              rw [Nat.zero_add] at c2
              obtain ⟨F6, G6, v6, X6, us6, hci6⟩ := HC6.out
              have HS6 : Hid (CiS w1 l x 300 w6 F6 G6 v6 X6 us6) := hci6
              have HDr : Hid (Calls Tryz.prog 24 #[.pointer (some ⟨l, 0, none⟩), .agg #[.int .i64 x1, .int .i64 x2]] w6 fun e w' => (∃ b, e = .returned (.bool b)) ∧ KC w6 w' ∧ Kp w6 w' F6 ∧ LinksIn w' F6 l (delU us6 (x1, x2)) (cntD us6 (x1, x2) X6.length)) := cis_drop1 hci6 x1 x2 hxi.1 hxi.2
              clear hk6 HAd HCE hx hxi hci6 HC6
              go_wp2_with fail
              refine HDr.out.mono ?_
              rintro e w7 ⟨⟨bb, rfl⟩, hkc, hkF, hlk⟩
              have d1 := hkc _ _ _ c1
              have d2 := hkc _ _ _ c2
              have HDr2 : Hid (Calls Tryz.prog 30 #[.pointer (some ⟨x, 0, none⟩), .agg #[.int .i64 x1, .int .i64 x2]] w7 fun e w' => (∃ b, e = .returned (.bool b)) ∧ CiE w1 l x 300 w') := cis_drop2 HS6.out (Nat.le_refl _) x1 x2 hkF hlk
              clear hkc hkF hlk c1 c2 HDr
              go_wp2_with fail
              refine HDr2.out.mono ?_
              rintro e w8 ⟨⟨bb2, rfl⟩, hce8⟩
              have HC8 : Hid (CiE w1 l x 300 w8) := hce8
              clear hce8 d1 d2 HDr2
              go_wp2_with fail
              go_roundw
              case rel => exact ⟨i + 1, by omega, by go_num, HC8.out⟩
              case measure => simp only [intOf]; omega
          · have g1 : ¬ (i : Int) < 4 := by omega
            go_wp2_with fail
            go_ret
            exact ⟨rfl, HK1.out.trans HS.out.kp⟩
end Go.Proofs.YtdlieecpckpemaaGreatDoor
