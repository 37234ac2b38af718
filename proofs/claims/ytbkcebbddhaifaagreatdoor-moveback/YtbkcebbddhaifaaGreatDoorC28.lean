/- The document's Valid, less, Order, ValidArea. The document's own (quadrilleref12): a node's own error. The document's first and Check (quadrilleref12). -/
import Derived.Test.YtbkcebbddhaifaaGreatDoorC10
import Derived.Deep.RegionWith
import Derived.Test.YtbkcebbddhaifaaGreatDoorC26
import Derived.Test.YtbkcebbddhaifaaGreatDoorC24
import Derived.Test.YtbkcebbddhaifaaGreatDoorC8
namespace Go.Proofs.YtbkcebbddhaifaaGreatDoor
open Go.RowKit

set_option maxHeartbeats 1000000 in
theorem rValid_at (c r : Int) (w : World) :
    Calls Tryz.prog 63 #[.agg #[.int .i64 c, .int .i64 r]] w fun e w' => e = .returned (.bool (vC c r)) ∧ w' = w.alloc (.cells #[.int .i64 c, .int .i64 r] 32) := by
  have hV : Hid (vC c r = (decide (1 ≤ c) && decide (c ≤ 256) && decide (1 ≤ r) && decide (r ≤ 4096))) := rfl
  generalize vC c r = V at *
  go_enter Tryz.func63, Tryz.ntmps63
  go_wp2
  all_goals
    go_ret
    refine ⟨rBool ?_, rfl⟩
    rw [hV.out, Bool.eq_iff_iff]
    simp only [Bool.and_eq_true, decide_eq_true_eq, Bool.false_eq_true, false_iff]
    omega
theorem rValid_any (c r : Int) (w : World) :
    Calls Tryz.prog 63 #[.agg #[.int .i64 c, .int .i64 r]] w fun e w' => e = .returned (.bool (vC c r)) ∧ Gr w w' :=
  (rValid_at c r w).mono fun e w' h => ⟨h.1, by rw [h.2]; exact (Gr.refl w).alloc _ _⟩

set_option maxHeartbeats 1000000 in
theorem rless_any (a b : Int) (w : World) :
    Calls Tryz.prog 145 #[.int .i64 a, .int .i64 b] w fun e w' => e = .returned (.int .i64 (cmpI a b)) ∧ w' = w := by
  have hV : Hid (cmpI a b = if a < b then -1 else if b < a then 1 else 0) := rfl
  generalize cmpI a b = V at *
  go_enter Tryz.func145, Tryz.ntmps145
  go_wp2
  all_goals
    go_ret
    refine ⟨rInt ?_, rfl⟩
    rw [hV.out]
    repeat' split
    all_goals omega

set_option maxHeartbeats 1000000 in
theorem rOrder_any (c r d s : Int) (w : World) :
    Calls Tryz.prog 115 #[.agg #[.int .i64 c, .int .i64 r], .agg #[.int .i64 d, .int .i64 s]] w fun e w' => e = .returned (.int .i64 (ordC c r d s)) ∧ Gr w w' := by
  have G1 : Hid (Gr w ((w.alloc (.cells #[.int .i64 c, .int .i64 r] 32)).alloc (.cells #[.int .i64 d, .int .i64 s] 32))) := ((Gr.refl w).alloc _ _).alloc _ _
  have H1 : Hid (∀ w, Calls Tryz.prog 145 #[.int .i64 r, .int .i64 s] w fun e w' => e = .returned (.int .i64 (cmpI r s)) ∧ w' = w) := rless_any r s
  have H2 : Hid (∀ w, Calls Tryz.prog 145 #[.int .i64 c, .int .i64 d] w fun e w' => e = .returned (.int .i64 (cmpI c d)) ∧ w' = w) := rless_any c d
  have hV : Hid (ordC c r d s = if cmpI r s = 0 then cmpI c d else cmpI r s) := rfl
  generalize ordC c r d s = V at *
  generalize cmpI r s = p at *
  generalize cmpI c d = q at *
  go_enter Tryz.func115, Tryz.ntmps115
  go_wp2_with (first | (go_at_call_of 145 (Value.int .i64 r); refine (H1.out _).mono ?_; rintro e w' ⟨rfl, rfl⟩) | (go_at_call_of 145 (Value.int .i64 c); refine (H2.out _).mono ?_; rintro e w' ⟨rfl, rfl⟩))
  all_goals
    rename_i hp
    go_ret
    refine ⟨rInt ?_, G1.out⟩
    rw [hV.out]
    simp only [bne_iff_ne, ne_eq, bne_eq_false_iff_eq] at hp
    simp only [hp, if_true, if_false]

set_option maxHeartbeats 2000000 in
theorem rValidArea_at (c r d s : Int) (w : World) :
    Calls Tryz.prog 81 #[.agg #[.int .i64 c, .int .i64 r, .int .i64 d, .int .i64 s]] w fun e w' => e = .returned (.bool (vA c r d s)) ∧ w' = ((w.alloc (.cells #[.int .i64 c, .int .i64 r, .int .i64 d, .int .i64 s] 34)).alloc (.cells #[.int .i64 c, .int .i64 r] 32)).alloc (.cells #[.int .i64 d, .int .i64 s] 32) := by
  have H1 : Hid (∀ w, Calls Tryz.prog 63 #[.agg #[.int .i64 c, .int .i64 r]] w fun e w' => e = .returned (.bool (vC c r)) ∧ w' = w.alloc (.cells #[.int .i64 c, .int .i64 r] 32)) := rValid_at c r
  have H2 : Hid (∀ w, Calls Tryz.prog 63 #[.agg #[.int .i64 d, .int .i64 s]] w fun e w' => e = .returned (.bool (vC d s)) ∧ w' = w.alloc (.cells #[.int .i64 d, .int .i64 s] 32)) := rValid_at d s
  have hV : Hid (vA c r d s = (vC c r && vC d s && decide (c ≤ d) && decide (r ≤ s))) := rfl
  generalize vA c r d s = V at *
  generalize vC c r = p at *
  generalize vC d s = q at *
  go_enter Tryz.func81, Tryz.ntmps81
  go_wp2_with fail
  refine (H1.out _).mono ?_
  rintro e w' ⟨rfl, rfl⟩
  go_wp2_with fail
  refine (H2.out _).mono ?_
  rintro e w' ⟨rfl, rfl⟩
  go_wp2_with fail
  all_goals
    go_ret
    refine ⟨rBool ?_, rfl⟩
    rw [hV.out]
    clear H1 H2 hV
    cases p <;> cases q <;> (try simp_all) <;> (try omega)
end Go.Proofs.YtbkcebbddhaifaaGreatDoor
namespace Go.Proofs.YtbkcebbddhaifaaGreatDoor
open Go.RowKit Go.Lib

theorem vA_one (c r : Int) : vA c r c r = vC c r := by unfold vA; simp
set_option maxRecDepth 20000 in
set_option maxHeartbeats 16000000 in
theorem rown_at (h : Hd) (n : Nat) (a : Option Addr) (c : Nat) (inside : Bool) (hx : h.x < 18446744073709551616) (hs : h.s.size ≤ 140737488355328) (w : World) (B : BaresAll) :
    Calls Tryz.prog 138 #[h.val (.slice a n c), .bool inside] w fun e w' => e = .returned (.int .i64 (ownE h n inside)) ∧ Gr w w' := by
  have H1 : Hid (∀ w, Calls Tryz.prog 161 #[h.val (.slice a n c)] w fun e w' => e = .returned (.bool (wm h n)) ∧ Gr w w') := fun w => made_at h n a c hx hs w B
  have H2 : Hid (∀ w, Calls Tryz.prog 162 #[.string h.s] w fun e w' => e = .returned (.tuple #[.int .i64 (known h.s).1, .int .i64 (known h.s).2.1, .bool (known h.s).2.2]) ∧ w' = w) := rknown_at h.s
  have H3 : Hid (∀ w, Calls Tryz.prog 63 #[.agg #[.int .i64 h.c1, .int .i64 h.r1]] w fun e w' => e = .returned (.bool (vC h.c1 h.r1)) ∧ Gr w w') := rValid_any h.c1 h.r1
  have H4 : Hid (∀ w, Calls Tryz.prog 81 #[.agg #[.int .i64 h.c1, .int .i64 h.r1, .int .i64 h.c2, .int .i64 h.r2]] w fun e w' => e = .returned (.bool (vA h.c1 h.r1 h.c2 h.r2)) ∧ Gr w w') := fun w => (rValidArea_at h.c1 h.r1 h.c2 h.r2 w).mono fun e w' ⟨q1, q2⟩ => ⟨q1, by rw [q2]; exact (((Gr.refl w).alloc _ _).alloc _ _).alloc _ _⟩
  have hE : Hid (ownE h n inside = if wm h n = false then 1 else if h.k = 5 then (if vC h.c1 h.r1 = true then 0 else 20) else if h.k = 6 then (if vA h.c1 h.r1 h.c2 h.r2 = true then (if inside = true then 0 else 31) else 20) else if h.k = 9 then (if (known h.s).2.2 = false then 21 else if (n : Int) < (known h.s).1 ∨ (known h.s).2.1 < n then 22 else 0) else 0) := by
    show _ = _
    unfold ownE callE
    rw [vA_one]
  have GA : Hid (∀ a t, Gr w (w.alloc (.cells a t))) := fun a t => (Gr.refl w).alloc _ _
  generalize ownE h n inside = E at *
  generalize wm h n = M at *
  generalize vC h.c1 h.r1 = VC1 at *
  generalize vA h.c1 h.r1 h.c2 h.r2 = VA1 at *
  generalize known h.s = kn at *
  obtain ⟨kl, km, kb⟩ := kn
  obtain ⟨k, o, x, s, b, f, c1, r1, p1, q1, c2, r2, p2, q2⟩ := h
  simp only at *
  clear hx hs B
  go_enter Tryz.func138, Tryz.ntmps138
  go_wp2_with fail
  refine (H1.out _).mono ?_
  rintro e w1 ⟨rfl, hg1⟩
  have hcell := hg1.ext.cell
  have GG1 : Hid (Gr _ w1) := hg1
  clear hg1 H1
  go_wp2_with (go_at_call 162; refine (H2.out _).mono ?_; rintro e w' ⟨rfl, rfl⟩)
  refine (H3.out _).mono ?_
  rintro e w2 ⟨rfl, hg2⟩
  have GG2 : Hid (Gr _ w2) := GG1.out.trans hg2
  have hcell2 := (GG1.out.trans hg2).ext.cell
  clear hg2 H3 H2 hcell GG1
  go_wp2_with fail
  refine (H4.out _).mono ?_
  rintro e w3 ⟨rfl, hg3⟩
  have G3 : Hid (Gr w w3) := (GA.out _ _).trans (GG2.out.trans hg3)
  have hcell := (GG2.out.trans hg3).ext.cell
  clear hg3 H4 hcell2 GG2 GA
  cases M
  · go_wp21
    go_ret
    exact ⟨rInt (by rw [hE.out]; rfl), G3.out⟩
  by_cases k5 : k = 5
  · subst k5
    cases VC1
    all_goals
      go_wp21
      go_ret
      exact ⟨rInt (by rw [hE.out]; rfl), G3.out⟩
  by_cases k6 : k = 6
  · subst k6
    cases VA1
    · go_wp21
      go_ret
      exact ⟨rInt (by rw [hE.out]; rfl), G3.out⟩
    · cases inside
      all_goals
        go_wp21
        go_ret
        exact ⟨rInt (by rw [hE.out]; rfl), G3.out⟩
  have e5 : (k == 5) = false := by simpa using k5
  have e6 : (k == 6) = false := by simpa using k6
  by_cases k9 : k = 9
  · subst k9
    cases kb
    · go_wp21
      go_ret
      exact ⟨rInt (by rw [hE.out]; rfl), G3.out⟩
    · by_cases l1 : (n : Int) < kl
      · have HE : Hid (E = 22) := by show _ = _; rw [hE.out]; simp [l1]
        go_wp21
        go_ret
        exact ⟨rInt HE.out.symm, G3.out⟩
      · by_cases l2 : km < (n : Int)
        · have HE : Hid (E = 22) := by show _ = _; rw [hE.out]; simp [l2]
          go_wp21
          go_ret
          exact ⟨rInt HE.out.symm, G3.out⟩
        · have HE : Hid (E = 0) := by show _ = _; rw [hE.out]; simp [l1, l2]
          go_wp21
          go_ret
          exact ⟨rInt HE.out.symm, G3.out⟩
  · have e9 : (k == 9) = false := by simpa using k9
    have HE : Hid (E = 0) := by show _ = _; rw [hE.out]; simp [k5, k6, k9]
    go_wp21
    go_ret
    exact ⟨rInt HE.out.symm, G3.out⟩
end Go.Proofs.YtbkcebbddhaifaaGreatDoor
namespace Go.Proofs.YtbkcebbddhaifaaGreatDoor
open Go.RowKit Go.Lib
attribute [local irreducible] Nd.fe feL

theorem exec_load_mid {o : Oper} {a : Act} {x : Operand} {b p : Nat} {w : World} (cs : List Value) (ho : o.op = .load 44 x) (hx : a.eval x = .pointer (some ⟨b, p, none⟩)) (hc : w.rangeAt b p cs) (hcs : cs.length = 15) : (execOp a.eval o).run Tryz.prog w = .ok (.value (.agg cs.toArray)) w := by
  unfold execOp
  simp only [ho, hx, Instr.loadAt, Instr.sureAddr, Sem.run_bind, Sem.run_pure, Result.andThen_ok, run_loadVar_mid w b p 44 cs _ hc Tryz.underlying44 rfl (by rw [hcs]; exact infoNode)]
/-- The first q have no error. -/
def Okup (ts : List Nd) (c : Bool) (q : Nat) : Prop := ∀ i (h : i < ts.length), i < q → (ts[i]).fe c = 0
mutual
/-- Texts that are no longer than texts can be. -/
def Nd.txt : Nd → Prop
  | .mk h ts => h.s.size ≤ 140737488355328 ∧ txtL ts
def txtL : List Nd → Prop
  | [] => True
  | t :: ts => t.txt ∧ txtL ts
end
theorem txtL.get : ∀ {ts : List Nd}, txtL ts → ∀ i, (h : i < ts.length) → (ts[i]).txt
  | [], _, i, h => absurd h (by simp)
  | t :: ts, hk, i, h => by
    rw [txtL] at hk
    cases i with
    | zero => exact hk.1
    | succ i => exact hk.2.get i (by simpa using h)
set_option maxRecDepth 20000 in
set_option maxHeartbeats 8000000 in
theorem rfirst_any (B : BaresAll) (N : Nat) : ∀ (t : Nd) (sl : Value) (F : Nat → Prop) (inside : Bool) (w : World), t.size ≤ N → t.ok → t.txt → NdIn w F sl t →
    Calls Tryz.prog 104 #[t.hd.val sl, .bool inside] w fun e w' => e = .returned (.int .i64 (t.fe inside)) ∧ Kp w w' Nul := by
  induction N with
  | zero => intro t sl F inside w h; have := size_pos t; omega
  | succ N ih =>
    intro t sl F inside w hN hok htx hin
    obtain ⟨hd, ts⟩ := t
    rw [NdIn] at hin
    rw [Nd.txt] at htx
    obtain ⟨a, c, rfl, h2, h3, h4⟩ := hin
    have hsz : Hid ((Nd.mk hd ts).size = 1 + sizeL ts) := by show _ = _; rw [Nd.size]
    have hfe : Hid ((Nd.mk hd ts).fe inside = if ownE hd ts.length inside ≠ 0 then ownE hd ts.length inside else feL ts (hd.k == 9)) := by show _ = _; rw [Nd.fe]
    have HN : Hid ((Nd.mk hd ts).size ≤ N + 1) := hN
    have HOK : Hid (okL ts) := hok.l
    have HTX : Hid (txtL ts) := htx.2
    have IH : Hid (∀ (t : Nd) (sl : Value) (F : Nat → Prop) (inside : Bool) (w : World), t.size ≤ N → t.ok → t.txt → NdIn w F sl t →
      Calls Tryz.prog 104 #[t.hd.val sl, .bool inside] w fun e w' => e = .returned (.int .i64 (t.fe inside)) ∧ Kp w w' Nul) := ih
    have hlen : ts.length ≤ 9223372036854775807 := by unfold maxLen at h3; omega
    have H4 : Hid ((ts = [] ∧ (c = 0 ∨ a ≠ none)) ∨ ∃ b o, a = some ⟨b, o, none⟩ ∧ F b ∧ NdsIn w F b o ts) := h4
    have HO : Hid (∀ wq, Calls Tryz.prog 138 #[hd.val (.slice a ts.length c), .bool inside] wq fun e w' => e = .returned (.int .i64 (ownE hd ts.length inside)) ∧ Gr wq w') := fun wq => rown_at hd ts.length a c inside hok.x htx.1 wq B
    clear ih hN h4 h2 h3 hok htx
    generalize hn : ts.length = n at *
    have HL : Hid (ts.length = n) := hn
    have HLEN : Hid (n ≤ 9223372036854775807) := hlen
    clear hn hlen
    generalize hSS : (Nd.mk hd ts).fe inside = S at *
    simp only [Nd.hd]
    obtain ⟨W1, hW1⟩ : ∃ W1, w.alloc (.cells (hd.cells (.slice a n c)).toArray 44) = W1 := ⟨_, rfl⟩
    have k1 : Kp w W1 Nul := by rw [← hW1]; exact (Kp.refl w Nul).alloc _
    have b1 : Blk W1 w.heap.size (hd.cells (.slice a n c)) 44 := by rw [← hW1]; exact Blk.new w _ _
    have HW1 : Hid (w.alloc (.cells #[.int .i64 hd.k, .int .i64 hd.o, .float .f64 hd.x, .string hd.s, .bool hd.b, .int .i64 hd.f, .int .i64 hd.c1, .int .i64 hd.r1, .bool hd.p1, .bool hd.q1, .int .i64 hd.c2, .int .i64 hd.r2, .bool hd.p2, .bool hd.q2, .slice a n c] 44) = W1) := hW1
    have HB : Hid (∀ wq, Kp W1 wq Nul → Blk wq w.heap.size (hd.cells (.slice a n c)) 44) := fun wq hq => b1.kp hq (fun x => x)
    have HK1 : Hid (Kp w W1 Nul) := k1
    generalize hOE : ownE hd n inside = OE at *
    clear hW1 k1 b1 hSS hOE B
    go_enter Tryz.func104, Tryz.ntmps104
    go_wp2_with fail
    rw [HW1.out]
    refine (HO.out _).mono ?_
    rintro e w1 ⟨rfl, hg1⟩
    have HK2 : Hid (Kp W1 w1 Nul) := Kp.of_gr hg1
    clear hg1 HO HW1
    go_wp2_with fail
    go_loopw [5, 6] (fun e i wr => ∃ (q : Nat) (z : Int), q ≤ n ∧ e = .int .i64 z ∧ i = .int .i64 q ∧ Kp w1 wr Nul ∧ ((z = 0 ∧ OE = 0 ∧ Okup ts (hd.k == 9) q) ∨ (z ≠ 0 ∧ S = z))) (fun _ i _ => n - (intOf i).toNat)
    case atStart =>
      refine ⟨0, OE, Nat.zero_le _, rfl, rfl, Kp.refl _ _, ?_⟩
      by_cases h0 : OE = 0
      · exact .inl ⟨h0, h0, fun i h hi => by omega⟩
      · exact .inr ⟨h0, by rw [hfe.out, if_pos h0]⟩
    case round =>
      obtain ⟨q, z, hq, rfl, rfl, hkq, hz⟩ := hrel
      have KQ : Hid (Kp w1 wr Nul) := hkq
      have hkw : Kp w wr Nul := (HK1.out.trans HK2.out).trans hkq
      have HKW : Hid (Kp w wr Nul) := hkw
      have HBk := HB.out wr (HK2.out.trans hkq)
      have x14 : wr.cell? ⟨w.heap.size, 14, none⟩ = some (.slice a n c) := HBk.cell rfl
      rcases hz with ⟨rfl, h0, hz⟩ | ⟨hz, hS⟩
      · by_cases hlt : q < n
        · have hqt : q < ts.length := by rw [HL.out]; exact hlt
          obtain ⟨b, o, rfl, hFb, hns⟩ : ∃ b o, a = some ⟨b, o, none⟩ ∧ F b ∧ NdsIn w F b o ts := by
            rcases H4.out with h | h
            · rw [h.1] at hqt; simp at hqt
            · exact h
          obtain ⟨s1, hr, hni⟩ := hns.get q hqt
          have hr' : wr.rangeAt b (o + q * 15) ((ts[q]).hd.cells s1) := rangeAt_block hr (hkw.block b (rangeAt_lt hr) (fun x => x))
          have HR : Hid (∀ wq, Kp wr wq Nul → wq.rangeAt b (o + q * 15) ((ts[q]).hd.cells s1)) := fun wq hk => rangeAt_block hr' (hk.block b (rangeAt_lt hr') (fun x => x))
          have hni' := hni.kp hkw (fun _ _ x => x)
          have hs1 := size_get ts q hqt
          have HC : Hid (∀ wq, Kp wr wq Nul → Calls Tryz.prog 104 #[(ts[q]).hd.val s1, .bool (hd.k == 9)] wq fun e w' => e = .returned (.int .i64 ((ts[q]).fe (hd.k == 9))) ∧ Kp wq w' Nul) := fun wq hq => IH.out ts[q] s1 F _ wq (by have := HN.out; have := hsz.out; omega) (HOK.out.get q hqt) (HTX.out.get q hqt) (hni'.kp hq (fun _ _ x => x))
          have HS : Hid (∀ wq, Kp wr wq Nul → wq.cell? ⟨w.heap.size, 14, none⟩ = some (.slice (some ⟨b, o, none⟩) n c) ∧ wq.cell? ⟨w.heap.size, 0, none⟩ = some (.int .i64 hd.k)) := fun wq hk => ⟨(HBk.kp hk (fun x => x)).cell rfl, (HBk.kp hk (fun x => x)).cell rfl⟩
          have hnext : Hid ((((ts[q]).fe (hd.k == 9) = 0 ∧ OE = 0 ∧ Okup ts (hd.k == 9) (q + 1)) ∨ ((ts[q]).fe (hd.k == 9) ≠ 0 ∧ S = (ts[q]).fe (hd.k == 9)))) := by
            by_cases e : (ts[q]).fe (hd.k == 9) = 0
            · refine .inl ⟨e, h0, fun i h hi => ?_⟩
              rcases Nat.lt_or_ge i q with g | g
              · exact hz i h g
              · have : i = q := by omega
                subst this; exact e
            · refine .inr ⟨e, ?_⟩
              rw [hfe.out, h0]
              simp only [ne_eq, not_true_eq_false, if_false]
              exact feL_at hqt hz e
          clear hs1 hni hni' hr hr' hns hkw hkq HBk hz h0 hfe
          generalize (ts[q]).fe (hd.k == 9) = z' at *
          generalize (ts[q]).hd = hh at *
          have hkb : (q : Int) + 1 ≤ 9223372036854775807 := by have := HLEN.out; omega
          have hq0 : (0 : Int) ≤ (q : Int) := by omega
          have hqn : (q : Int) < (n : Int) := by omega
          go_wp2_with fail
          refine wp_region_noPanic ?_
          refine wp_region_hel (fun w' : World => Kp wr w' Nul) (by kernel_rfl) ((Kp.refl wr Nul).drew) (fun hHeld => ?_)
          refine wpH_takes (i := 0) (v := ?_) (some 21) rfl rfl (by kernel_rfl) (by kernel_rfl) (by kernel_rfl) (fun _ _ _ h => h) (Or.inl ⟨by rfl, ?_⟩) hHeld ?_
          rotate_left
          · intro w' hSw; obtain ⟨s0, s1⟩ := HS.out _ hSw; clear hSw; go_simp; try with_reducible rfl
          simp only [Act.put, List.setIfInBounds_toArray, List.set_cons_zero, List.set_cons_succ]
          refine wpH_takes (i := 1) (v := ?_) (some 22) rfl rfl (by kernel_rfl) (by kernel_rfl) (by kernel_rfl) (fun _ _ _ h => h) (Or.inl ⟨by rfl, ?_⟩) hHeld ?_
          rotate_left
          · intro w' hSw; obtain ⟨s0, s1⟩ := HS.out _ hSw; clear hSw; go_simp; try with_reducible rfl
          simp only [Act.put, List.setIfInBounds_toArray, List.set_cons_zero, List.set_cons_succ]
          refine wpH_takes (i := 2) (v := ?_) (some 23) rfl rfl (by kernel_rfl) (by kernel_rfl) (by kernel_rfl) (fun _ _ _ h => h) (Or.inl ⟨by rfl, ?_⟩) hHeld ?_
          rotate_left
          · intro w' hSw; obtain ⟨s0, s1⟩ := HS.out _ hSw; clear hSw; go_simp; try with_reducible rfl
          simp only [Act.put, List.setIfInBounds_toArray, List.set_cons_zero, List.set_cons_succ]
          refine wpH_takes (i := 3) (v := ?_) (some 24) rfl rfl (by kernel_rfl) (by kernel_rfl) (by kernel_rfl) (fun _ _ _ h => h) (Or.inl ⟨by rfl, ?_⟩) hHeld ?_
          rotate_left
          · intro w' hSw; obtain ⟨s0, s1⟩ := HS.out _ hSw; clear hSw; go_simp; try with_reducible rfl
          simp only [Act.put, List.setIfInBounds_toArray, List.set_cons_zero, List.set_cons_succ]
          refine wpH_takes (i := 4) (v := hh.val s1) (some 25) rfl rfl (by kernel_rfl) (by kernel_rfl) (by kernel_rfl) (fun _ _ _ h => h) (Or.inl ⟨by rfl, fun w' hSw => exec_load_mid (hh.cells s1) rfl rfl (HR.out w' hSw) rfl⟩) hHeld ?_
          simp only [Act.put, List.setIfInBounds_toArray, List.set_cons_zero, List.set_cons_succ]
          refine wpH_takes (i := 5) (v := ?_) (some 26) rfl rfl (by kernel_rfl) (by kernel_rfl) (by kernel_rfl) (fun _ _ _ h => h) (Or.inl ⟨by rfl, ?_⟩) hHeld ?_
          rotate_left
          · intro w' hSw; obtain ⟨s0, s1⟩ := HS.out _ hSw; clear hSw; go_simp; try with_reducible rfl
          simp only [Act.put, List.setIfInBounds_toArray, List.set_cons_zero, List.set_cons_succ]
          refine wpH_takes (i := 6) (v := ?_) (some 27) rfl rfl (by kernel_rfl) (by kernel_rfl) (by kernel_rfl) (fun _ _ _ h => h) (Or.inl ⟨by rfl, ?_⟩) hHeld ?_
          rotate_left
          · intro w' hSw; obtain ⟨s0, s1⟩ := HS.out _ hSw; clear hSw; go_simp; try with_reducible rfl
          simp only [Act.put, List.setIfInBounds_toArray, List.set_cons_zero, List.set_cons_succ]
          refine wpH_takes (i := 7) (v := ?_) (some 28) rfl rfl (by kernel_rfl) (by kernel_rfl) (by kernel_rfl) (fun _ _ _ h => h) (Or.inl ⟨by rfl, ?_⟩) hHeld ?_
          rotate_left
          · intro w' hSw; obtain ⟨s0, s1⟩ := HS.out _ hSw; clear hSw; go_simp; try with_reducible rfl
          simp only [Act.put, List.setIfInBounds_toArray, List.set_cons_zero, List.set_cons_succ]
          refine wpH_step (i := 8) (by kernel_rfl) rfl rfl (fun K hK => ?_)
          go_simp
          refine (HC.out _ ((Kp.refl wr Nul).drew)).mono ?_
          rintro e w2 ⟨rfl, hk2⟩
          have hk2' : Kp wr w2 Nul := ((Kp.refl wr Nul).drew).trans hk2
          have HK3 : Hid (Kp w1 w2 Nul) := KQ.out.trans hk2'
          refine hK.out _ _ hk2' (fun hHeld2 => ?_)
          clear hK K hHeld hk2 hk2' HC HS HR x14
          refine wpH_takes (i := 9) (v := ?_) (some 5) rfl rfl (by kernel_rfl) (by kernel_rfl) (by kernel_rfl) (fun _ _ _ h => h) (Or.inl ⟨by rfl, ?_⟩) hHeld2 ?_
          rotate_left
          · intro w' hSw; clear hSw; go_simp; try with_reducible rfl
          simp only [Act.put, List.setIfInBounds_toArray, List.set_cons_zero, List.set_cons_succ]
          refine wpAnyH_done (by kernel_rfl) ?_ _
          refine NoPanic.normal ?_
          clear hHeld2
          go_wp2_with fail
          go_roundw
          case rel => exact ⟨q + 1, z', by omega, rfl, by go_num, HK3.out, hnext.out⟩
          case measure => simp only [intOf]; omega
        · have hqe : q = n := by omega
          subst hqe
          have hqn : ¬ ((q : Int) < (q : Int)) := by omega
          have HS0 : Hid (S = 0) := by
            show _ = _
            rw [hfe.out, h0]
            simp only [ne_eq, not_true_eq_false, if_false]
            exact feL_all fun i h hi => hz i h (by rw [← HL.out]; exact h)
          clear hz h0 hkw hkq HBk hfe
          go_wp2_with fail
          go_ret
          exact ⟨rInt HS0.out.symm, HKW.out⟩
      · have HS0 : Hid (S = z) := hS
        have hzb : (z == 0) = false := by simpa using hz
        have jj : ((q : Int) < (n : Int)) ∨ ¬ ((q : Int) < (n : Int)) := Decidable.em _
        clear hkw hkq HBk hfe hS
        rcases jj with jj | jj
        all_goals
          go_wp2_with fail
          go_ret
          exact ⟨rInt HS0.out.symm, HKW.out⟩
end Go.Proofs.YtbkcebbddhaifaaGreatDoor
