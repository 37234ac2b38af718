/- The document's form. -/
import Derived.Test.YthehdloofamadaaDoorAv
import Derived.Test.YthehdloofamadaaDoorAp
import Derived.Deep.CutRange
import Derived.Deep.DeepCutAuto
import Derived.Deep.QuietTactic
namespace Go.Proofs.YthehdloofamadaaDoor
open Go.RowKit

theorem add_long (x y : List UInt8) (n : Int) (h : (x.length : Int) ≤ n) (hn : n < 140737488355328) (hy : y.length ≤ 100) : ∀ w, (Op.stringOp .add ⟨x.toArray⟩ ⟨y.toArray⟩).run Tryd.prog w = .ok (.string ⟨(x ++ y).toArray⟩) w := fun w => by
  rw [run_string_add_sum w _ _ (by show x.length + y.length ≤ _; omega), ByteArray.mk_append_mk]

theorem results_five {fn : Func} {t u v x y : Tmp} (h : fn.results = #[.tmp t, .tmp u, .tmp v, .tmp x, .tmp y]) (tmps : Array Value) (P : Program) (w : World) :
    (results fn tmps).run P w = .ok (.tuple #[tmps.getD t undef, tmps.getD u undef, tmps.getD v undef, tmps.getD x undef, tmps.getD y undef]) w := by
  simp [results, h]

set_option maxHeartbeats 8000000 in
set_option maxRecDepth 20000 in
theorem rform_core (l : List UInt8) (n : Int) (hn : (l.length : Int) = n) (hn0 : 0 ≤ n) (hl : n < 140737488355328)
    (C R O : Bool) (la lb lc le : List UInt8) (W D : List UInt8) (w : World) (i0 : Int)
    (hC : Hid (C = dol l)) (hla : Hid (la = cutD l)) (hi0 : Hid (i0 = if C then 1 else 0)) (hb0 : 0 ≤ i0) (hb1 : i0 ≤ 1) (hS : Hid (Suf l la i0))
    (hW : Hid (W = (la.takeWhile isL).map upB)) (hlb : Hid (lb = la.dropWhile isL)) (hR : Hid (R = (!W.isEmpty && dol lb)))
    (hlc : Hid (lc = if R then lb.drop 1 else lb)) (hD : Hid (D = lc.takeWhile isD)) (hle : Hid (le = lc.dropWhile isD)) (hO : Hid (O = (le.isEmpty && !W.isEmpty && nz D))) :
    Calls Tryd.prog 48 #[.string ⟨l.toArray⟩] w fun e w' => e = .returned (.tuple #[.string ⟨W.toArray⟩, .string ⟨D.toArray⟩, .bool C, .bool R, .bool O]) ∧ Gr w w' := by
  go_enter Tryd.func48, Tryd.ntmps48
  go_upto_region 2 with fail
  go_cut [8] (fun s wx => s = .bool C ∧ wx = w)
  case first =>
    as_aux_lemma =>
    cases l with
    | nil =>
      have hn' : n = 0 := hn.symm
      subst hn'
      go_wp2_with fail
      go_meet
      case rel => exact ⟨vBool hC.out.symm, rfl⟩
    | cons b t =>
      have hn' : 0 < n := by rw [← hn, List.length_cons]; omega
      have hb : bi (b :: t) 0 = (b.toNat : Int) := rfl
      have hb2 : (((b.toNat : Nat) : Int) == 36) = C := by
        rw [hC.out]
        show _ = (b == 36)
        rw [Bool.eq_iff_iff, beq_iff_eq, beq_iff_eq]
        constructor
        · intro h
          have : b.toNat = 36 := by omega
          exact UInt8.toNat_inj.1 this
        · rintro rfl; rfl
      go_wp2_with fail
      all_goals
        go_meet
        case rel => exact ⟨rfl, rfl⟩
  case rest =>
    as_aux_lemma =>
    obtain ⟨hs, hw⟩ := hcut
    have hs' := hs.symm
    have hw' := hw.symm
    subst hs' hw'
    clear hs hw
    go_upto_if 24 with fail
    go_cut [7] (fun s wx => s = .int .i64 i0 ∧ wx = w)
    case first =>
      as_aux_lemma =>
      cases C
      · go_wp2_with fail
        go_meet
        case rel => exact ⟨vInt hi0.out.symm, rfl⟩
      · go_wp2_with fail
        go_meet
        case rel => exact ⟨vInt hi0.out.symm, rfl⟩
    case rest =>
      as_aux_lemma =>
      obtain ⟨hs, hw⟩ := hcut
      have hs' := hs.symm
      have hw' := hw.symm
      subst hs' hw'
      clear hs hw hC hla hi0
      go_wp2_with fail
      go_loopw [7, 9, 10] (fun si sw sc wr => ∃ (i : Int) (pre s : List UInt8), la = pre ++ s ∧ (∀ b ∈ pre, isL b = true) ∧ Suf l s i ∧ si = .int .i64 i ∧ sw = .string ⟨(pre.map upB).toArray⟩ ∧ Gr w wr) (fun si _ _ _ => (n - intOf si).toNat)
      case atStart => exact ⟨i0, [], la, rfl, by simp, hS.out, rfl, rfl, Gr.refl w⟩
      case round =>
        as_aux_lemma =>
        obtain ⟨i, pre, s, hsp, hall, hsuf, rfl, rfl, hg⟩ := hrel
        have GR : Hid (Gr w wr) := hg
        have HS : Hid (Suf l s i) := hsuf
        have HA : Hid (∀ b ∈ pre, isL b = true) := hall
        have HP : Hid (la = pre ++ s) := hsp
        obtain ⟨p0, p1⟩ := hsuf.place hn
        have HT : Hid (hd isL s = hd isL s) := rfl
        generalize hT' : hd isL s = T at HT
        have HT : Hid (hd isL s = T) := hT'
        clear hg hsuf hall hsp hT'
        go_upto_region 6 with fail
        go_cut [54] (fun x wx => x = .bool T ∧ wx = wr)
        case first =>
          as_aux_lemma =>
          cases s with
          | nil =>
            have hT : T = false := HT.out.symm
            subst hT
            have hin : i = n := by simpa using p1
            subst hin
            go_wp2_with fail
            go_meet
            case rel => exact ⟨rfl, rfl⟩
          | cons b t =>
            have hlt : i < n := by rw [List.length_cons] at p1; omega
            have hb := HS.out.byte
            have hT : Hid (isL b = T) := HT.out
            have hT2 : Hid (isL b = ((decide (65 ≤ (b.toNat : Int)) && decide ((b.toNat : Int) ≤ 90)) || (decide (97 ≤ (b.toNat : Int)) && decide ((b.toNat : Int) ≤ 122)))) := by
              show _ = _
              unfold isL
              rw [Bool.eq_iff_iff]
              simp only [Bool.or_eq_true, Bool.and_eq_true, decide_eq_true_eq]
              omega
            clear HS HT p1
            generalize (b.toNat : Int) = B at *
            go_wp2_with fail
            all_goals
              go_meet
              case rel =>
                refine ⟨vBool ?_, rfl⟩
                rw [← hT.out, hT2.out, Bool.eq_iff_iff]
                simp only [Bool.or_eq_true, Bool.and_eq_true, decide_eq_true_eq, Bool.false_eq_true, false_iff, true_iff]
                omega
        case rest =>
          as_aux_lemma =>
          obtain ⟨hs, hw⟩ := hcut
          have hs' := hs.symm
          have hw' := hw.symm
          subst hs' hw'
          clear hs hw
          cases T
          · obtain ⟨hw1, hw2⟩ := while_split isL pre s HA.out (hd_false HT.out)
            rw [← HP.out] at hw1 hw2
            have hW' : W = pre.map upB := by rw [hW.out, hw1]
            have hlb' : lb = s := by rw [hlb.out, hw2]
            subst hlb'
            have EW : Hid (pre.map upB = W) := hW'.symm
            have hWn : (W.length : Int) = (pre.length : Int) := by rw [hW']; simp
            rw [EW.out]
            clear hw1 hw2 hW' HA HP HT hW hlb hS hWn EW
            obtain ⟨p0, p1⟩ := HS.out.place hn
            go_upto_region 12 with fail
            go_cut [11] (fun x wx => x = .bool R ∧ wx = wr)
            case first =>
              as_aux_lemma =>
              cases W with
              | nil =>
                have hR' : R = false := hR.out
                subst hR'
                go_wp2_with fail
                go_meet
                case rel => exact ⟨rfl, rfl⟩
              | cons a W' =>
                cases lb with
                | nil =>
                  have hR' : R = false := hR.out
                  have hin : i = n := by simpa using p1
                  subst hR' hin
                  go_wp2_with fail
                  go_meet
                  case rel => exact ⟨rfl, rfl⟩
                | cons b t =>
                  have hlt : i < n := by rw [List.length_cons] at p1; omega
                  have hb := HS.out.byte
                  have hb2 : (((b.toNat : Nat) : Int) == 36) = R := by
                    rw [hR.out]
                    show _ = (true && (b == 36))
                    rw [Bool.true_and, Bool.eq_iff_iff, beq_iff_eq, beq_iff_eq]
                    constructor
                    · intro h
                      have : b.toNat = 36 := by omega
                      exact UInt8.toNat_inj.1 this
                    · rintro rfl; rfl
                  clear p1
                  go_wp2_with fail
                  all_goals
                    go_meet
                    case rel => exact ⟨rfl, rfl⟩
            case rest =>
              as_aux_lemma =>
              obtain ⟨hs, hw⟩ := hcut
              have hs' := hs.symm
              have hw' := hw.symm
              subst hs' hw'
              clear hs hw
              obtain ⟨i1, hi1⟩ : ∃ i1, i1 = if R then i + 1 else i := ⟨_, rfl⟩
              have HI : Hid (i1 = if R then i + 1 else i) := hi1
              have HS1 : Hid (Suf l lc i1) := by
                show Suf l lc i1
                rw [hlc.out, hi1]
                cases hRR : R
                · exact HS.out
                · rw [hR.out] at hRR
                  cases lb with
                  | nil => simp [dol] at hRR
                  | cons b t => exact HS.out.next
              have hi2 : i ≤ i1 ∧ i1 ≤ n := by
                have := (HS1.out.place hn)
                have h3 : i ≤ i1 := by rw [hi1]; split <;> omega
                omega
              obtain ⟨q0, q1⟩ := hi2
              clear hi1 hlc HS
              go_upto_if 83 with fail
              go_cut [7] (fun x wx => x = .int .i64 i1 ∧ wx = wr)
              case first =>
                as_aux_lemma =>
                cases R
                · go_wp2_with fail
                  go_meet
                  case rel => exact ⟨vInt HI.out.symm, rfl⟩
                · have : i < n := by have := HI.out; simp only [if_true] at this; omega
                  go_wp2_with fail
                  go_meet
                  case rel => exact ⟨vInt HI.out.symm, rfl⟩
              case rest =>
                as_aux_lemma =>
                obtain ⟨hs, hw⟩ := hcut
                have hs' := hs.symm
                have hw' := hw.symm
                subst hs' hw'
                clear hs hw HI p0 p1 q0 hb0 hb1 hR
                have h10 : 0 ≤ i1 := (HS1.out.place hn).1
                go_wp2_with fail
                go_loopw [7] (fun si wq => ∃ (j : Int) (pr s : List UInt8), lc = pr ++ s ∧ (∀ b ∈ pr, isD b = true) ∧ Suf l s j ∧ j = i1 + pr.length ∧ si = .int .i64 j ∧ wq = wr) (fun si _ => (n - intOf si).toNat)
                case atStart => exact ⟨i1, [], lc, rfl, by simp, HS1.out, by simp, rfl, rfl⟩
                case round =>
                  as_aux_lemma =>
                  obtain ⟨j, pr, s, hsp, hall, hsuf, hj, rfl, hwq⟩ := hrel
                  subst hwq
                  have HS : Hid (Suf l s j) := hsuf
                  have HA : Hid (∀ b ∈ pr, isD b = true) := hall
                  have HP : Hid (lc = pr ++ s) := hsp
                  have HJ : Hid (j = i1 + pr.length) := hj
                  obtain ⟨p0, p1⟩ := hsuf.place hn
                  have HT : Hid (hd isD s = hd isD s) := rfl
                  generalize hT' : hd isD s = T at HT
                  have HT : Hid (hd isD s = T) := hT'
                  clear hsuf hall hsp hT' hj
                  go_upto_region 16 with fail
                  go_cut [102] (fun x wx => x = .bool T ∧ wx = wr)
                  case first =>
                    as_aux_lemma =>
                    cases s with
                    | nil =>
                      have hT : T = false := HT.out.symm
                      subst hT
                      have hin : j = n := by simpa using p1
                      subst hin
                      go_wp2_with fail
                      go_meet
                      case rel => exact ⟨rfl, rfl⟩
                    | cons b t =>
                      have hlt : j < n := by rw [List.length_cons] at p1; omega
                      have hb := HS.out.byte
                      have hT : Hid (isD b = T) := HT.out
                      have hT2 : Hid (isD b = (decide (48 ≤ (b.toNat : Int)) && decide ((b.toNat : Int) ≤ 57))) := by
                        show _ = _
                        unfold isD
                        rw [Bool.eq_iff_iff]
                        simp only [Bool.and_eq_true, decide_eq_true_eq]
                        omega
                      clear HS HT p1
                      generalize (b.toNat : Int) = B at *
                      go_wp2_with fail
                      all_goals
                        go_meet
                        case rel =>
                          refine ⟨vBool ?_, rfl⟩
                          rw [← hT.out, hT2.out, Bool.eq_iff_iff]
                          simp only [Bool.and_eq_true, decide_eq_true_eq, Bool.false_eq_true, false_iff]
                          omega
                  case rest =>
                    as_aux_lemma =>
                    obtain ⟨hs, hw⟩ := hcut
                    have hs' := hs.symm
                    have hw' := hw.symm
                    subst hs' hw'
                    clear hs hw
                    cases T
                    · obtain ⟨hw1, hw2⟩ := while_split isD pr s HA.out (hd_false HT.out)
                      rw [← HP.out] at hw1 hw2
                      have hD' : D = pr := by rw [hD.out, hw1]
                      have hle' : le = s := by rw [hle.out, hw2]
                      subst hD' hle'
                      have hex : (ByteArray.mk l.toArray).extract i1.toNat j.toNat = ⟨D.toArray⟩ := by
                        rw [ByteArray.extract_mk]
                        have h1 := HS1.out
                        rw [HP.out] at h1
                        rw [HJ.out, h1.take]
                      have hji : i1 ≤ j ∧ j ≤ n := by have := HJ.out; omega
                      obtain ⟨j0, j1⟩ := hji
                      have hjn : Hid ((j == n) = le.isEmpty) := by
                        show _ = _
                        cases le with
                        | nil => simpa using p1
                        | cons b t =>
                          rw [List.length_cons] at p1
                          show _ = false
                          rw [beq_eq_false_iff_ne]
                          omega
                      clear hw1 hw2 HA HP HT hD hle HJ p1 HS1 HS
                      go_upto_region 19 with fail
                      clear hex hl
                      cases le with
                      | cons b t =>
                        have hO' : O = false := hO.out
                        have hj : (j == n) = false := hjn.out
                        subst hO'
                        clear hjn hO
                        go_quiet (fail)
                        go_wp2
                        refine bodyPost_ret (results_five rfl _ _ _) rfl ?_
                        exact ⟨rfl, GR.out.drewN _⟩
                      | nil =>
                        have hj : (j == n) = true := hjn.out
                        have hj' : j = n := by simpa using hj
                        subst hj'
                        clear hj hjn
                        cases W with
                        | nil =>
                          have hO' : O = false := hO.out
                          subst hO'
                          clear hO
                          go_quiet (fail)
                          go_wp2
                          refine bodyPost_ret (results_five rfl _ _ _) rfl ?_
                          exact ⟨rfl, GR.out.drewN _⟩
                        | cons a W' =>
                          cases D with
                          | nil =>
                            have hO' : O = false := hO.out
                            subst hO'
                            clear hO
                            go_quiet (fail)
                            go_wp2
                            refine bodyPost_ret (results_five rfl _ _ _) rfl ?_
                            exact ⟨rfl, GR.out.drewN _⟩
                          | cons d D' =>
                            have hdl : (0 : Int) < ((d :: D').length : Int) := by rw [List.length_cons]; omega
                            have hb : bi (d :: D') 0 = (d.toNat : Int) := rfl
                            have hb2 : (((d.toNat : Nat) : Int) != 48) = O := by
                              rw [hO.out]
                              show _ = (true && true && (d != 48))
                              rw [Bool.true_and, Bool.true_and, Bool.eq_iff_iff, bne_iff_ne, bne_iff_ne]
                              refine not_congr ?_
                              constructor
                              · intro h
                                have : d.toNat = 48 := by omega
                                exact UInt8.toNat_inj.1 this
                              · rintro rfl; rfl
                            clear hO
                            go_quiet (fail)
                            go_wp2
                            refine bodyPost_ret (results_five rfl _ _ _) rfl ?_
                            exact ⟨rfl, GR.out.drewN _⟩
                    · cases s with
                      | nil => exact absurd HT.out (by decide)
                      | cons b t =>
                        have hlt : j < n := by rw [List.length_cons] at p1; omega
                        clear p1
                        go_wp2_with fail
                        refine ⟨⟨j + 1, pr ++ [b], t, by rw [HP.out]; simp, ?_, HS.out.next, by rw [HJ.out]; simp; omega, rfl, trivial⟩, by simp only [intOf]; omega⟩
                        intro x hx
                        rcases List.mem_append.1 hx with h | h
                        · exact HA.out x h
                        · rw [List.mem_singleton.1 h]; exact HT.out
          · cases s with
            | nil => exact absurd HT.out (by decide)
            | cons b t =>
              have hlt : i < n := by rw [List.length_cons] at p1; omega
              have hb := HS.out.byte
              have hpl : ((pre.map upB).length : Int) ≤ n := by
                have := congrArg List.length HP.out
                have := (hS.out.place hn).2
                rw [List.length_map]
                simp only [List.length_append, List.length_cons] at *
                omega
              have hadd : ∀ (x : Int) w, (Op.stringOp .add ⟨(pre.map upB).toArray⟩ ⟨[UInt8.ofNat x.toNat].toArray⟩).run Tryd.prog w = .ok (.string ⟨(pre.map upB ++ [UInt8.ofNat x.toNat]).toArray⟩) w := fun x => add_long _ _ n hpl hl (by simp)
              have hB : Hid ((b.toNat : Int) = (b.toNat : Int)) := rfl
              have hB0 : 0 ≤ (b.toNat : Int) := by omega
              have hB1 : (b.toNat : Int) < 256 := by have := b.toNat_lt; omega
              clear p1 hpl
              generalize hBe : (b.toNat : Int) = B at hB hb hB0 hB1
              have hB' : Hid ((b.toNat : Int) = B) := hBe
              clear hBe hB
              go_wp2_with fail
              all_goals
                rename_i hc
                refine ⟨⟨i + 1, pre ++ [b], t, by rw [HP.out]; simp, ?_, HS.out.next, rfl, vStr ?_, GR.out.alloc _ _⟩, by simp only [intOf]; omega⟩
                · intro x hx
                  rcases List.mem_append.1 hx with h | h
                  · exact HA.out x h
                  · rw [List.mem_singleton.1 h]; exact HT.out
                · rw [List.map_append]
                  show _ = _ ++ [upB b]
                  first | rw [upB_high (by rw [hB'.out]; omega), hB'.out] | rw [upB_low (by rw [hB'.out]; omega), hB'.out]
end Go.Proofs.YthehdloofamadaaDoor
