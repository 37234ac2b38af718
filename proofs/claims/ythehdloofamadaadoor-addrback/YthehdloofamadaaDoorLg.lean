/- AddrBack, at any input. -/
import Derived.Test.YthehdloofamadaaDoorLf
namespace Go.Proofs.YthehdloofamadaaDoor
open Go.RowKit

theorem areaV_inj {a b c d a' b' c' d' : Int} (h : areaV a b c d = areaV a' b' c' d') : a = a' ∧ b = b' ∧ c = c' ∧ d = d' := by
  unfold areaV at h
  simpa using h
theorem refV_inj {a b a' b' : Int} {c d c' d' : Bool} (h : refV a b c d = refV a' b' c' d') : a = a' ∧ b = b' ∧ c = c' ∧ d = d' := by
  unfold refV at h
  simpa using h
theorem txtL_len (c r : Int) (cf rf : Bool) : (txtL c r cf rf).length ≤ 24 := by
  unfold txtL; split
  · exact txt_len _ _ _ _
  · simp
theorem atx_len (c r d s : Int) : (atx c r d s).length ≤ 49 := by
  have h1 := txt_len c r false false
  have h2 := txt_len d s false false
  unfold atx
  split
  · split
    · omega
    · simp only [List.length_append, List.length_cons]; omega
  · simp

theorem back_any (h : AddrSays) (l : List UInt8) (n : Int) (hn : (l.length : Int) = n) (hl : n < 140737488355328) (c r a1 a2 a3 a4 x y : Int) (cf rf : Bool)
    (hx0 : -9223372036854775808 ≤ x) (hx1 : x ≤ 9223372036854775807) (hy0 : -9223372036854775808 ≤ y) (hy1 : y ≤ 9223372036854775807) (w : World) (hT : Tw w) :
    Calls Tryd.prog 6 #[.string ⟨l.toArray⟩, .agg #[.int .i64 c, .int .i64 r, .bool cf, .bool rf], .agg #[.int .i64 a1, .int .i64 a2, .int .i64 a3, .int .i64 a4], .int .i64 x, .int .i64 y] w fun e w' => e = .returned (.bool true) ∧ Below w.heap.size w w' := by
  have k1 := txtL_len (pc l) (pr l) (pcf l) (prf l)
  have k2 := txtL_len c r cf rf
  have k3 := atx_len a1 a2 a3 a4
  refine back_core l n hn w c r a1 a2 a3 a4 x y _ _ _ _ _ _ _ _ _ _ _ _ _ _ _ _ _ _ _ _ _ _ cf rf _ _ _ _ _ _ _ _ _ _ _ _ _ _ _ _ _ rfl
    (awake_any h) (h.parse l n hn hl) (fun w' hb => h.text _ _ _ _ w' (hT.bel hb)) (h.parse _ _ rfl (by omega)) (h.prefix' l n hn hl) (fun w' hb => h.text c r cf rf w' (hT.bel hb)) (h.valid c r) (h.parse _ _ rfl (by omega)) (fun w' hb => h.areaText a1 a2 a3 a4 w' (hT.bel hb)) (h.parseArea _ _ rfl (by omega)) (h.shift c r cf rf x y hx0 hx1 hy0 hy1) (fun k1 k2 => h.shift _ _ _ _ (-x) (-y) (by omega) (by omega) (by omega) (by omega)) hx0 hx1 hy0 hy1 ?_ ?_ ?_ ?_ ?_
  · intro hE
    obtain ⟨hv, hlen⟩ := text_parse_len l hE
    obtain ⟨p1, p2, p3, p4, p5⟩ := parse_text (pc l) (pr l) (pcf l) (prf l) hv
    have e1 : txtL (pc l) (pr l) (pcf l) (prf l) = txt (pc l) (pr l) (pcf l) (prf l) := by unfold txtL; rw [if_pos hv]
    rw [e1]
    exact ⟨by unfold txtE; rw [if_pos hv], p1, p2.symm, p3.symm, p4.symm, p5.symm, by rw [hlen, hn], by rw [prefix_parse l hE, hn]⟩
  · show _ = _
    unfold txtE
    cases vC c r <;> rfl
  · intro hF
    have hv : vC c r = true := by
      unfold txtE at hF
      cases hv : vC c r
      · rw [hv] at hF; simp at hF
      · rfl
    obtain ⟨p1, p2, p3, p4, p5⟩ := parse_text c r cf rf hv
    have e1 : txtL c r cf rf = txt c r cf rf := by unfold txtL; rw [if_pos hv]
    rw [e1]
    exact ⟨p1, p2.symm, p3.symm, p4.symm, p5.symm⟩
  · intro hF
    have hv : vA a1 a2 a3 a4 = true := by
      unfold atxE at hF
      cases hv : vA a1 a2 a3 a4
      · rw [hv] at hF; simp at hF
      · rfl
    obtain ⟨p1, p2⟩ := parse_areaText a1 a2 a3 a4 hv
    rw [paV_eq] at p2
    obtain ⟨q1, q2, q3, q4⟩ := areaV_inj p2
    exact ⟨p1, q1.symm, q2.symm, q3.symm, q4.symm⟩
  · intro hS
    obtain ⟨p1, p2⟩ := shift_back c r x y cf rf hS
    have e1 : sh1 c r cf rf x y = (shN c x 256 cf).1 := by unfold sh1; rw [if_pos hS]
    have e2 : sh2 c r cf rf x y = (shN r y 4096 rf).1 := by unfold sh2; rw [if_pos hS]
    have e3 : sh3 c r cf rf x y = cf := by unfold sh3; rw [if_pos hS]
    have e4 : sh4 c r cf rf x y = rf := by unfold sh4; rw [if_pos hS]
    rw [e1, e2, e3, e4]
    rw [shV_eq] at p2
    obtain ⟨q1, q2, q3, q4⟩ := refV_inj p2
    exact ⟨p1, q1.symm, q2.symm, q3.symm, q4.symm⟩
end Go.Proofs.YthehdloofamadaaDoor
