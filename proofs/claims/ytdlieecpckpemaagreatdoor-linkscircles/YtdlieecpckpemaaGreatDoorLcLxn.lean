/- Circle. list: the cells of marks. hasSome, whole. Above's closure: what hangs on a cell, met in depth. place: where a cell stands. Above's beginning: the cells that may be, the board of them, whose areas have some. What Above tells, plain. The cells of a circle. Drop: what cells had they have. Circle and Order agree. The document's Valid, In, Before. What the law of LinksHang wants. Set: any blocks; the areas in order. The document's Before and ValidArea. -/
import Derived.Test.YtdlieecpckpemaaGreatDoorLcLxm
import Derived.Test.YtdlieecpckpemaaGreatDoorLcLxj
import Derived.Test.YtdlieecpckpemaaGreatDoorLcZq
import Derived.Test.YtdlieecpckpemaaGreatDoorLcTj
import Derived.Test.YtdlieecpckpemaaGreatDoorLcLxi
import Derived.Test.YtdlieecpckpemaaGreatDoorLcZs
import Derived.Test.YtdlieecpckpemaaGreatDoorLcOd
namespace Go.Proofs.YtdlieecpckpemaaGreatDoor
open Go.RowKit Go.Shelf Go.Sort
attribute [local go_sem] Oper.semAt_some
theorem results_cell2' {fn : Func} {p q : Tmp} {ty tz : TypeId} (h : fn.results = #[.cell p ty, .cell q tz]) (tmps : Array Value) (P : Program) (w : World) :
    (results fn tmps).run P w = ((asAddr (tmps.getD p undef)).run P w).andThen fun a w1 => ((loadVar ty a).run P w1).andThen fun v w2 => ((asAddr (tmps.getD q undef)).run P w2).andThen fun b w3 => ((loadVar tz b).run P w3).andThen fun u w4 => .ok (.tuple #[v, u]) w4 := by
  simp only [results, h]
  simp [Sem.run_bind, Result.andThen]
/-- The web's arrows, by the links' own table. -/
abbrev usE (L : List (Int × Int)) (us : Int × Int → Option (List Ar)) : Nat → Nat → Prop := webE L.length (fun p q => useP L us q p)
abbrev usW (L : List (Int × Int)) (us : Int × Int → Option (List Ar)) : Nat → Nat → Prop := useW L.length (fun p q => useP L us q p)
/-- What Circle hands back. -/
structure CirIs (w w' : World) (us : Int × Int → Option (List Ar)) (L : List (Int × Int)) (f : Nat) (l : List Nat) (left : Nat) (R : List (Int × Int)) (v : Value) : Prop where
  lt : f < L.length
  cy : Tj.Cy (usE L us) f
  first : ∀ x, x < f → ¬ Tj.Cy (usE L us) x
  far : Tj.Far (usW L us) f f (left + 1)
  chn : Tj.Chn (usW L us) f f left l
  len : R.length = left + 1
  at' : ∀ (i p : Nat), (f :: l)[i]? = some p → R[i]? = L[p]?
  out : CellsFrom w.heap.size w' v R
  cap : ∃ a c, v = .slice a R.length c ∧ R.length ≤ c
def CirOut (w : World) (us : Int × Int → Option (List Ar)) (n : Nat) (e : Ending) (w' : World) : Prop :=
  ∃ L : List (Int × Int), Strict L ∧ (∀ x, x ∈ L ↔ (us x).isSome = true) ∧ L.length ≤ n ∧ Kp w w' Nul ∧
    ((e = .returned (.tuple #[.slice none 0 0, .bool false]) ∧ ∀ x, x < L.length → ¬ Tj.Cy (usE L us) x) ∨
     ∃ (f : Nat) (l : List Nat) (left : Nat) (R : List (Int × Int)) (v : Value), e = .returned (.tuple #[v, .bool true]) ∧ CirIs w w' us L f l left R v)
theorem pl_head {M : Nat → Bool} {n u : Nat} (h : (pl M n)[0]? = some u) (x : Nat) (hx : x < u) : M x = false := by
  cases hm : M x with
  | false => rfl
  | true =>
    exfalso
    have hp : (pl M n).Pairwise (· < ·) := List.pairwise_lt_range.filter _
    have hun := (mem_pl.1 (List.mem_of_getElem? h)).1
    have hxm : x ∈ pl M n := mem_pl.2 ⟨by omega, hm⟩
    obtain ⟨i, hi⟩ := List.getElem?_of_mem hxm
    cases i with
    | zero => rw [h] at hi; cases hi; omega
    | succ i =>
      obtain ⟨h1, e1⟩ := List.getElem?_eq_some_iff.1 h
      obtain ⟨h2, e2⟩ := List.getElem?_eq_some_iff.1 hi
      have := List.pairwise_iff_getElem.1 hp 0 (i + 1) h1 h2 (by omega)
      rw [e1, e2] at this
      omega
theorem cells_kp {B : Nat} {w w' : World} {v : Value} {L : List (Int × Int)} {S : Nat → Prop} (h : CellsFrom B w v L) (g : Kp w w' S) (hS : ∀ j, B ≤ j → ¬ S j) : CellsFrom B w' v L := by
  obtain ⟨a, c, e, h1⟩ := h
  refine ⟨a, c, e, ?_⟩
  rcases h1 with h1 | ⟨b, e1, e2, e3⟩
  · exact .inl h1
  · exact .inr ⟨b, e1, e2, e3.kp g (hS b e2)⟩
theorem cells_low {B B' : Nat} {w : World} {v : Value} {L : List (Int × Int)} (h : CellsFrom B w v L) (hb : B' ≤ B) : CellsFrom B' w v L := by
  obtain ⟨a, c, e, h1⟩ := h
  refine ⟨a, c, e, ?_⟩
  rcases h1 with h1 | ⟨b, e1, e2, e3⟩
  · exact .inl h1
  · exact .inr ⟨b, e1, Nat.le_trans hb e2, e3⟩
theorem cells_one {B : Nat} {w : World} {v : Value} {L : List (Int × Int)} (h : CellsFrom B w v L) : v.oneCell' = true := by
  obtain ⟨a, c, rfl, _⟩ := h; rfl
theorem infoB1 : (Tryz.prog.info? 4).map (·.size) = some 1 := by kernel_rfl
/-- Where the range has come to its end. -/
structure CirF (w6 : World) (b0 : Nat) (L : List (Int × Int)) (N : Nat) (U : Nat → Nat → Bool) (f : Nat) (l : List Nat) (left : Nat) (R : List (Int × Int)) (v : Value) (X : World) : Prop where
  lt : f < N
  cy : Tj.Cy (webE N U) f
  first : ∀ x, x < f → ¬ Tj.Cy (webE N U) x
  far : Tj.Far (useW N U) f f (left + 1)
  chn : Tj.Chn (useW N U) f f left l
  len : R.length = left + 1
  at' : ∀ (i p : Nat), (f :: l)[i]? = some p → R[i]? = L[p]?
  out : CellsFrom (w6.heap.size + 2) X v R
  bv : Blk X b0 [v] 30
  bt : Blk X (b0 + 1) [.bool true] 4
  kp : Kp w6 X (fun j => j = b0 ∨ j = b0 + 1)
  cap : ∃ a c, v = .slice a R.length c ∧ R.length ≤ c
theorem CirF.kp' {w6 : World} {b0 : Nat} {L : List (Int × Int)} {N : Nat} {U : Nat → Nat → Bool} {f : Nat} {l : List Nat} {left : Nat} {R : List (Int × Int)} {v : Value} {X X' : World} {S : Nat → Prop} (h : CirF w6 b0 L N U f l left R v X) (g : Kp X X' S) (hS : ∀ j, S j → w6.heap.size ≤ j ∧ j < w6.heap.size + 2) (hb : b0 + 2 ≤ w6.heap.size) : CirF w6 b0 L N U f l left R v X' :=
  ⟨h.lt, h.cy, h.first, h.far, h.chn, h.len, h.at', cells_kp h.out g (fun j hj e => by have := hS j e; omega), h.bv.kp g (fun e => by have := hS _ e; omega), h.bt.kp g (fun e => by have := hS _ e; omega), h.kp.trans' g (fun j hj e => by have := hS j e; omega), h.cap⟩
set_option maxRecDepth 100000 in
set_option maxHeartbeats 8000000 in
theorem circ_at (F : Nat → Prop) (l n : Nat) (us : Int × Int → Option (List Ar)) (w : World) (h : LinksIn w F l us n) (hn : n ≤ 4096) (hF : ∀ b, F b → b < w.heap.size) (hT : Tab w) :
    Calls Tryz.prog 22 #[.pointer (some ⟨l, 0, none⟩)] w (CirOut w us n) := by
  obtain ⟨w1, hw1⟩ : ∃ w1, (w.alloc (.cells #[.slice none 0 0] 30)).alloc (.cells #[.bool false] 4) = w1 := ⟨_, rfl⟩
  have HW1 : Hid ((w.alloc (.cells #[.slice none 0 0] 30)).alloc (.cells #[.bool false] 4) = w1) := hw1
  obtain ⟨b0, hb0⟩ : ∃ b0, w.heap.size = b0 := ⟨_, rfl⟩
  have HB0 : Hid (w.heap.size = b0) := hb0
  have k1 : Kp w w1 Nul := by rw [← hw1]; exact ((Kp.refl w Nul).alloc _).alloc _
  have s1 : w1.heap.size = b0 + 2 := by rw [← hw1]; simp only [World.size_alloc]; omega
  have X0 : Hid (Blk w1 b0 [.slice none 0 0] 30) := by show Blk _ _ _ _; rw [← hw1]; exact (Blk.at_ hb0 _ _).alloc _
  have X1 : Hid (Blk w1 (b0 + 1) [.bool false] 4) := by show Blk _ _ _ _; rw [← hw1]; exact Blk.at_ (by rw [World.size_alloc, hb0]) _ _
  have HT1 : Hid (Tab w1) := hT.kp k1 (fun x => x)
  have HWEB : Hid (Calls Tryz.prog 53 #[.pointer (some ⟨l, 0, none⟩)] w1 (WebOut w1 us n)) := web_at F l n us w1 (h.kp k1 (fun _ _ x => x)) hn (fun b hb => by have := hF b hb; have := k1.size; omega) HT1.out
  have HK1 : Hid (Kp w w1 Nul) := k1
  have HS1 : Hid (w1.heap.size = b0 + 2) := s1
  have HTB : Hid (0 < b0) := by show _ < _; have := cell_lt (hT 0 (by omega)); omega
  clear h hF hT hw1 k1 s1 hn hb0
  refine (callsIn_wide (n := 12)).1 ?_
  refine callsIn_of_wp_marks Tryz.func22 rfl trivial ?_ rfl
  simp only [Tryz.ntmps22, List.size_toArray, List.length_cons, List.length_nil, Nat.reduceAdd, Nat.reduceSub, Array.replicate_succ, Array.replicate_zero, List.push_toArray, List.append_toArray, List.nil_append, List.cons_append]
  refine wpIn_wide.2 ?_
  go_upto_region 3 with fail
  rw [HW1.out, HB0.out]
  go_upto_region 4 with (first
    | (go_at_call 53; refine HWEB.out.mono ?_; rintro e w2 ⟨L, wp, ub, mb, ca, cc, rfl, hwb⟩)
    | fail)
  obtain ⟨N, hN⟩ : ∃ N, L.length = N := ⟨_, rfl⟩
  have HN : Hid (L.length = N) := hN
  obtain ⟨U, hU⟩ : ∃ U : Nat → Nat → Bool, (fun p q => useP L us q p) = U := ⟨_, rfl⟩
  have HU : Hid ((fun p q => useP L us q p) = U) := hU
  have HWS : Hid (Strict L ∧ (∀ x, x ∈ L ↔ (us x).isSome = true) ∧ L.length ≤ n) := ⟨hwb.st, hwb.mem, hwb.len⟩
  have hweb := hwb.web
  have hcl := hwb.cl
  rw [hN, hU] at hweb
  rw [hN] at hcl
  obtain ⟨W, hW⟩ : ∃ W, (N + 63) / 64 = W := ⟨_, rfl⟩
  have HW : Hid ((N + 63) / 64 = W) := hW
  obtain ⟨b4, hb4⟩ : ∃ b4, w2.heap.size = b4 := ⟨_, rfl⟩
  obtain ⟨w4, hw4⟩ : ∃ w4, w2.alloc (.cells #[.pointer (some ⟨wp, 0, none⟩)] 81) = w4 := ⟨_, rfl⟩
  have k4 : Kp w2 w4 Nul := by rw [← hw4]; exact (Kp.refl w2 Nul).alloc _
  have X4 : Hid (Blk w4 b4 [.pointer (some ⟨wp, 0, none⟩)] 81) := by show Blk _ _ _ _; rw [← hw4]; exact Blk.at_ hb4 _ _
  rw [hw4, hb4]
  have K14 : Hid (Kp w1 w4 Nul) := hwb.kp.trans k4
  have HM4 : Hid (WebM w4 wp ub mb (.slice ca N cc) N U) := hweb.kpn k4
  have HCL4 : Hid (0 < N → ∃ b, ca = some ⟨b, 0, none⟩ ∧ b0 + 2 ≤ b ∧ CellsAt w4 b 0 L) := fun h0 => by
    obtain ⟨b, e1, e2, e3⟩ := hcl h0
    exact ⟨b, e1, by have := HS1.out; omega, e3.kp k4 (fun x => x)⟩
  have HNW : Hid (b0 + 2 ≤ mb ∧ b0 + 2 ≤ ub ∧ b0 + 2 ≤ wp ∧ b0 + 2 ≤ b4) := by
    have := HS1.out
    have h1 := hwb.new
    have h2 := hwb.kp.size
    refine ⟨?_, ?_, ?_, ?_⟩ <;> omega
  have HCD : Hid (Calls Tryz.prog 61 #[.pointer (some ⟨wp, 0, none⟩)] w4 fun e w' => ∃ (Cb : Nat) (O : Nat → Bool), e = .returned (.slice (some ⟨Cb, 0, none⟩) W W) ∧ w4.heap.size ≤ Cb ∧ Blk w' Cb (wds O W) 122 ∧ (∀ x, O x = true ↔ x < N ∧ Tj.Cy (webE N U) x) ∧ Kp w4 w' Nul) := by
    have := circled_at wp ub mb N (.slice ca N cc) U w4 HM4.out (HT1.out.kp K14.out (fun x => x))
    rw [hW] at this
    exact this
  have c4 : w4.cell? ⟨b4, 0, none⟩ = some (.pointer (some ⟨wp, 0, none⟩)) := X4.out.cell rfl
  clear hN hU hwb hweb hcl hW hb4 hw4 k4 HWEB HW1
  go_wp2_with (first
    | (go_at_call 61; refine HCD.out.mono ?_; rintro e w5 ⟨Cb, O, rfl, hcb, hB, hO, hk5⟩)
    | (go_at_call 58; refine (all_at _ _ _ _).mono ?_; rintro e wz ⟨rfl, hz⟩; subst hz)
    | fail)
  obtain ⟨mx, hmx⟩ : ∃ mx, w5.heap.size = mx := ⟨_, rfl⟩
  obtain ⟨MV, hMV⟩ : ∃ MV, Value.slice (some ⟨Cb, 0, none⟩) W W = MV := ⟨_, rfl⟩
  have HMV : Hid (Value.slice (some ⟨Cb, 0, none⟩) W W = MV) := hMV
  obtain ⟨w6, hw6⟩ : ∃ w6, w5.alloc (.cells #[.slice (some ⟨Cb, 0, none⟩) W W] 84) = w6 := ⟨_, rfl⟩
  have k6 : Kp w5 w6 Nul := by rw [← hw6]; exact (Kp.refl w5 Nul).alloc _
  have s6 : w6.heap.size = mx + 1 := by rw [← hw6, World.size_alloc, hmx]
  have HMX : Hid (Blk w6 mx [MV] 84) := by show Blk _ _ _ _; rw [← hw6, ← hMV]; exact Blk.at_ hmx _ _
  rw [hw6, hmx]
  have K46 : Kp w4 w6 Nul := hk5.trans k6
  have K16 : Hid (Kp w1 w6 Nul) := K14.out.trans K46
  have HM6 : Hid (WebM w6 wp ub mb (.slice ca N cc) N U) := HM4.out.kpn K46
  have HCL6 : Hid (0 < N → ∃ b, ca = some ⟨b, 0, none⟩ ∧ b0 + 2 ≤ b ∧ CellsAt w6 b 0 L) := fun h0 => by
    obtain ⟨b, e1, e2, e3⟩ := HCL4.out h0
    exact ⟨b, e1, e2, e3.kp K46 (fun x => x)⟩
  have HB6 : Hid (Blk w6 Cb (wds O W) 122) := hB.kp k6 (fun x => x)
  have HX46 : Hid (Blk w6 b4 [.pointer (some ⟨wp, 0, none⟩)] 81) := X4.out.kp K46 (fun x => x)
  have HX06 : Hid (Blk w6 b0 [.slice none 0 0] 30) := X0.out.kp K16.out (fun x => x)
  have HX16 : Hid (Blk w6 (b0 + 1) [.bool false] 4) := X1.out.kp K16.out (fun x => x)
  have HOO : Hid (∀ x, O x = true ↔ x < N ∧ Tj.Cy (webE N U) x) := hO
  have HSZ : Hid (w6.heap.size = mx + 1 ∧ b0 + 2 ≤ Cb ∧ Cb < mx ∧ b4 < mx ∧ b0 + 2 ≤ mx) := by
    have h1 := hB.lt
    have h2 := X4.out.lt
    have h3 := K46.size
    have h4 := HNW.out
    have h5 := HX46.out.lt
    have h6 := hk5.size
    refine ⟨s6, ?_, ?_, ?_, ?_⟩ <;> omega
  have HTt : Hid (∀ V S, Kp w6 V S → ¬ S 0 → Tab V) := fun V S k hS => (HT1.out.kp K16.out (fun x => x)).kp k hS
  clear hmx hMV hw6 k6 s6 K46 hO hB hcb hk5 X0 X1 X4 HM4 HCL4 HCD c4
  generalize hact : Act.mk _ _ = a0
  refine wp_range_all (gf := 95) (lb := #[.pointer (some ⟨mx, 0, none⟩)]) (by rw [← hact]; rfl) (enters_of Tryz.func95 (by kernel_rfl) rfl) (encs := encP O W) (fun _ => rfl) (AllM mx (some ⟨Cb, 0, none⟩) Cb 0 W W O) (all1_seq O mx (some ⟨Cb, 0, none⟩) Cb 0 W W (by have := HW.out; have := HM6.out.le; omega) w6)
    (fun k V => k = 0 ∧ Kp w6 V Nul)
    (fun cq X => cq = .ret ∧ ∃ f l left R v, CirF w6 b0 L N U f l left R v X) ?hM ?hI ?hIx ?h0 ?hround ?hdone ?hstop
  case hM =>
    rintro k V ⟨_, hk⟩
    refine ⟨by rw [HMV.out]; exact (HMX.out.kp hk (fun x => x)).cell rfl, fun _ => ⟨rfl, fun i hi => ?_⟩, HTt.out V Nul hk (fun x => x)⟩
    rw [Nat.zero_add]
    exact (HB6.out.kp hk (fun x => x)).cell (wds_get hi)
  case hI =>
    rintro k V V' ⟨h0, hk⟩ q
    exact ⟨h0, hk.trans' q (fun j hj e => by rcases e with e | e <;> omega)⟩
  case hIx =>
    rintro cq V V' ⟨e, f, l, left, R, v, hF⟩ q
    exact ⟨e, f, l, left, R, v, hF.kp' q (fun j e => by rcases e with e | e <;> omega) (by have := HSZ.out; omega)⟩
  case h0 => exact ⟨rfl, Kp.refl _ _⟩
  case hround =>
    subst hact
    rintro j V KK hj hsV ⟨rfl, hk⟩ hcont
    obtain ⟨u, hu⟩ : ∃ u, (pl O (64 * W))[0]? = some u := ⟨_, List.getElem?_eq_getElem hj⟩
    have hOu : O u = true := (mem_pl.1 (List.mem_of_getElem? hu)).2
    have huc := (HOO.out u).1 hOu
    have HUC : Hid (u < N ∧ Tj.Cy (webE N U) u) := huc
    have HUF : Hid (∀ x, x < u → ¬ Tj.Cy (webE N U) x) := fun x hx hc => by
      have := pl_head hu x hx
      rw [(HOO.out x).2 ⟨by omega, hc⟩] at this
      cases this
    have henc : encP O W 0 = #[.int .i64 (u : Int)] := by unfold encP; rw [List.getD_eq_getElem?_getD, hu]; rfl
    rw [henc]
    have HK : Hid (Kp w6 V Nul) := hk
    have HSV : Hid (w6.heap.size + 2 ≤ V.heap.size) := hsV
    clear hk hu hOu huc henc hj hsV
    simp only [List.zip_toArray, List.zip_cons_cons, List.zip_nil_right, List.foldl_toArray', List.foldl_cons, List.foldl_nil]
    gi_wp2_with (fail)
    refine hcont _ _ (Kp.refl _ _) (fun X hX hloop hdef => ?_)
    have HKX : Hid (Kp w6 X Nul) := HK.out.trans' hX (fun i hi e => by have e' : i = w6.heap.size + 1 := e; omega)
    have HSX : Hid (w6.heap.size + 2 ≤ X.heap.size) := by show _ ≤ _; have := hX.size; have := HSV.out; omega
    have c4 : X.cell? ⟨b4, 0, none⟩ = some (.pointer (some ⟨wp, 0, none⟩)) := (HX46.out.kp HKX.out (fun x => x)).cell rfl
    have HCi : Hid (Calls Tryz.prog 62 #[.pointer (some ⟨wp, 0, none⟩), .int .i64 (u : Int)] X (CircO X L N U u)) :=
      circle_at L wp ub mb N u ca cc U X (HM6.out.kpn HKX.out) HN.out (fun h0 => by obtain ⟨b, e1, _, e3⟩ := HCL6.out h0; exact ⟨b, e1, e3.kp HKX.out (fun x => x)⟩) (HTt.out X Nul HKX.out (fun x => x)) HUC.out.1 HUC.out.2
    have HY0 : Hid (Blk X b0 [.slice none 0 0] 30) := HX06.out.kp HKX.out (fun x => x)
    have HY1 : Hid (Blk X (b0 + 1) [.bool false] 4) := HX16.out.kp HKX.out (fun x => x)
    clear hcont hX hloop hdef HK
    gi_wp2_with (fail)
    refine ⟨trivial, CallsIn.inRound _ ((callsIn_wide.2 HCi.out).mono ?_)⟩
    rintro e w7 ⟨l', left, R, v, rfl, hci⟩
    have hy0 : Blk w7 b0 [.slice none 0 0] 30 := HY0.out.kp hci.kp (fun x => x)
    have hone : v.oneCell' = true := cells_one hci.out
    gi_wp2_with (first
      | (refine storeIn_cell rfl 30 (.tmp 2) (.tmp 16) rfl b0 0 rfl v rfl hone _ _ hy0 (by simp) infoSl1 ?_; intro X7 hb7 hk7; have hy1 : Blk X7 (b0 + 1) [.bool false] 4 := (HY1.out.kp hci.kp (fun x => x)).kp hk7 (fun e => by have e' : b0 + 1 = b0 := e; omega))
      | (refine storeIn_cell rfl 4 (.tmp 3) (.const (.bool true)) rfl (b0 + 1) 0 rfl (.bool true) rfl rfl _ _ hy1 (by simp) infoB1 ?_; intro X8 hb8 hk8)
      | fail)
    have hz := HSZ.out
    have hsx := HSX.out
    have k78 : Kp w7 X8 (fun j => j = b0 ∨ j = b0 + 1) := (hk7.mono (fun _ _ e => .inl e)).trans' hk8 (fun _ _ e => .inr e)
    have kX8 : Kp X X8 (fun j => j = b0 ∨ j = b0 + 1) := (hci.kp.of_nul).trans k78
    refine ⟨Own2.of_kp kX8 (by omega) (fun e => by rcases e with e | e <;> omega) (fun e => by rcases e with e | e <;> omega), .inr ⟨_, rfl, rfl, u, l', left, R, v, ⟨HUC.out.1, HUC.out.2, HUF.out, hci.far, hci.chn, hci.len, hci.at', ?_, ?_, hb8, HKX.out.of_nul.trans kX8, hci.cap⟩⟩⟩
    · exact cells_kp (cells_low hci.out hsx) k78 (fun j hj e => by rcases e with e | e <;> omega)
    · exact hb7.kp hk8 (fun e => by have e' : b0 = b0 + 1 := e; omega)
  case hdone =>
    subst hact
    rintro D X hD ⟨h0, hk⟩ hdef
    have HNO : Hid (∀ x, x < N → ¬ Tj.Cy (webE N U) x) := fun x hx hc => by
      have h1 := (HOO.out x).2 ⟨hx, hc⟩
      have h2 : x ∈ pl O (64 * W) := mem_pl.2 ⟨by have := HW.out; omega, h1⟩
      rw [List.length_eq_zero_iff.1 h0] at h2
      cases h2
    have hx0 : Blk X b0 [.slice none 0 0] 30 := HX06.out.kp hk (fun x => x)
    have hx1 : Blk X (b0 + 1) [.bool false] 4 := HX16.out.kp hk (fun x => x)
    have HKX : Hid (Kp w6 X Nul) := hk
    have HDD : Hid (D = w6.heap.size ∧ X.heap[D]? = some (.deferred (some []))) := ⟨hD, hdef⟩
    clear h0 hk hdef hD
    go_wp2_with (first
      | (refine wpList_store_cell rfl 30 (.tmp 2) (.const (.slice none 0 0)) rfl b0 0 rfl (.slice none 0 0) rfl rfl _ _ hx0 (by simp) infoSl1 ?_; intro X7 hb7 hk7; have hy1 : Blk X7 (b0 + 1) [.bool false] 4 := hx1.kp hk7 (fun e => by have e' : b0 + 1 = b0 := e; omega))
      | (refine wpList_store_cell rfl 4 (.tmp 3) (.const (.bool false)) rfl (b0 + 1) 0 rfl (.bool false) rfl rfl _ _ hy1 (by simp) infoB1 ?_; intro X8 hb8 hk8)
      | fail)
    have k78 : Kp X X8 (fun j => j = b0 ∨ j = b0 + 1) := (hk7.mono (fun _ _ e => .inl e)).trans' hk8 (fun _ _ e => .inr e)
    have hz := HSZ.out
    have hdd := HDD.out
    refine leaves_dfs (Ds := [D]) (B := w6.heap.size) ⟨by simp, fun E hE => ?_⟩ (fun W' hW' => ?_)
    · rw [List.mem_singleton] at hE; subst hE
      exact ⟨by omega, (k78.block E (Array.getElem?_eq_some_iff.1 hdd.2).1 (fun e => by rcases e with e | e <;> omega)).trans hdd.2⟩
    · have cA : W'.cell? ⟨b0, 0, none⟩ = some (.slice none 0 0) := ((hb7.kp hk8 (fun e => by have e' : b0 = b0 + 1 := e; omega)).kp hW' (fun e => by rw [List.mem_singleton] at e; omega)).cell rfl
      have cB : W'.cell? ⟨b0 + 1, 0, none⟩ = some (.bool false) := (hb8.kp hW' (fun e => by rw [List.mem_singleton] at e; omega)).cell rfl
      have hkk : Kp w W' Nul := by
        have h1 := HB0.out
        have h2 := HS1.out
        refine ((((HK1.out.trans K16.out).trans HKX.out).trans' k78 (fun j hj e => by rcases e with e | e <;> omega)).trans' hW' (fun j hj e => by rw [List.mem_singleton] at e; have := HK1.out.size; have := K16.out.size; omega))
      refine ⟨.tuple #[.slice none 0 0, .bool false], ?_, L, HWS.out.1, HWS.out.2.1, HWS.out.2.2, hkk, .inl ⟨rfl, ?_⟩⟩
      · rw [results_cell2' rfl]
        go_simp
      · unfold usE
        rw [HN.out, HU.out]
        exact HNO.out
  case hstop =>
    subst hact
    rintro D cq X hD ⟨rfl, f, l, left, R, v, hF⟩ hdef
    have HFF : Hid (CirF w6 b0 L N U f l left R v X) := hF
    have HDD : Hid (D = w6.heap.size ∧ X.heap[D]? = some (.deferred (some []))) := ⟨hD, hdef⟩
    clear hF hD hdef
    go_wp2_with fail
    have hz := HSZ.out
    have hdd := HDD.out
    refine leaves_dfs (Ds := [D]) (B := w6.heap.size) ⟨by simp, fun E hE => ?_⟩ (fun W' hW' => ?_)
    · rw [List.mem_singleton] at hE; subst hE
      exact ⟨by omega, hdd.2⟩
    · have hfi := HFF.out
      have cA : W'.cell? ⟨b0, 0, none⟩ = some v := (hfi.bv.kp hW' (fun e => by rw [List.mem_singleton] at e; omega)).cell rfl
      have cB : W'.cell? ⟨b0 + 1, 0, none⟩ = some (.bool true) := (hfi.bt.kp hW' (fun e => by rw [List.mem_singleton] at e; omega)).cell rfl
      have h1 := HB0.out
      have h2 := HS1.out
      have h3 := K16.out.size
      have hkk : Kp w W' Nul := by
        refine (((HK1.out.trans K16.out).trans' hfi.kp (fun j hj e => by rcases e with e | e <;> omega)).trans' hW' (fun j hj e => by rw [List.mem_singleton] at e; have := HK1.out.size; omega))
      refine ⟨.tuple #[v, .bool true], ?_, L, HWS.out.1, HWS.out.2.1, HWS.out.2.2, hkk, .inr ⟨f, l, left, R, v, rfl, ?_⟩⟩
      · rw [results_cell2' rfl]
        go_simp
      · have ho : CellsFrom w.heap.size W' v R := cells_low (cells_kp hfi.out hW' (fun j hj e => by rw [List.mem_singleton] at e; omega)) (by omega)
        refine ⟨by rw [HN.out]; exact hfi.lt, ?_, ?_, ?_, ?_, hfi.len, hfi.at', ho, hfi.cap⟩
        · unfold usE; rw [HN.out, HU.out]; exact hfi.cy
        · unfold usE; rw [HN.out, HU.out]; exact hfi.first
        · unfold usW; rw [HN.out, HU.out]; exact hfi.far
        · unfold usW; rw [HN.out, HU.out]; exact hfi.chn
end Go.Proofs.YtdlieecpckpemaaGreatDoor
namespace Go.Proofs.YtdlieecpckpemaaGreatDoor
open Go.RowKit Go.Shelf Go.Sort
attribute [local go_sem] Oper.semAt_some
section
variable {P : Program} {w : World} {o : Oper} {a : Act} {K : Act → World → Prop} {Q : Exit → Act → World → Prop}
end
end Go.Proofs.YtdlieecpckpemaaGreatDoor
namespace Go.Proofs.YtdlieecpckpemaaGreatDoor
open Go.RowKit Go.Sort Go.Lib Go.Maps Go.Shelf
abbrev ArOk := {a : Ar // a.ok}
instance : Inhabited ArOk := ⟨⟨⟨1, 1, 1, 1⟩, by unfold Ar.ok; decide⟩⟩
end Go.Proofs.YtdlieecpckpemaaGreatDoor
namespace Go.Proofs.YtdlieecpckpemaaGreatDoor
open Go.RowKit Tj
attribute [local go_sem] Oper.semAt_some
end Go.Proofs.YtdlieecpckpemaaGreatDoor
namespace Go.Proofs.YtdlieecpckpemaaGreatDoor
open Go.RowKit Go.Sort
theorem strict_lt {L : List (Int × Int)} (h : Strict L) {p q : Nat} {x y : Int × Int} (hx : L[p]? = some x) (hy : L[q]? = some y) (hpq : p < q) : ltOf cfA x y = true := by
  obtain ⟨h1, e1⟩ := List.getElem?_eq_some_iff.1 hx
  obtain ⟨h2, e2⟩ := List.getElem?_eq_some_iff.1 hy
  have := List.pairwise_iff_getElem.1 h p q h1 h2 hpq
  rwa [e1, e2] at this
end Go.Proofs.YtdlieecpckpemaaGreatDoor
namespace Go.Proofs.YtdlieecpckpemaaGreatDoor
open Go.RowKit Go.Sort Go.Lib Tj
/-- Which cells use which. -/
def usR (us : Int × Int → Option (List Ar)) (x y : Int × Int) : Prop := (us x).any (fun al => al.any (fun a => a.has y)) = true
end Go.Proofs.YtdlieecpckpemaaGreatDoor
namespace Go.Proofs.YtdlieecpckpemaaGreatDoor
open Go.RowKit Go.Sort Go.Lib Tj
theorem useP_iff {L : List (Int × Int)} {us : Int × Int → Option (List Ar)} {a b : Nat} {x y : Int × Int} (ha : L[a]? = some x) (hb : L[b]? = some y) : webE L.length (fun p q => useP L us q p) a b ↔ usR us y x := by
  unfold webE useP usR inPl
  dsimp only
  rw [hb, ha]
  have := (List.getElem?_eq_some_iff.1 ha).1
  cases hq : us y with
  | none => simp [hq]
  | some al => simp [hq, this]
end Go.Proofs.YtdlieecpckpemaaGreatDoor
namespace Go.Proofs.YtdlieecpckpemaaGreatDoor
open Go.RowKit Go.Sort Go.Lib
/-- Each once, each uses the next, the last one the first. -/
structure Ring (us : Int × Int → Option (List Ar)) (R : List (Int × Int)) : Prop where
  pos : 0 < R.length
  nod : R.Nodup
  on : ∀ (i : Nat) (x : Int × Int), R[i]? = some x → ∃ y, R[(i + 1) % R.length]? = some y ∧ usR us x y
theorem CirIs.ring {w w' : World} {us : Int × Int → Option (List Ar)} {L : List (Int × Int)} {f : Nat} {l : List Nat} {left : Nat} {R : List (Int × Int)} {v : Value} (h : CirIs w w' us L f l left R v) (hs : Strict L) : Ring us R := by
  have hll : l.length = left := Tj.Chn.len h.chn
  have hR := h.len
  have hidx : ∀ i, i < R.length → ∃ p, (f :: l)[i]? = some p ∧ R[i]? = L[p]? := fun i hi => by
    have : i < (f :: l).length := by rw [List.length_cons]; omega
    exact ⟨_, List.getElem?_eq_getElem this, h.at' i _ (List.getElem?_eq_getElem this)⟩
  have hnL : L.Nodup := List.Pairwise.imp (fun {a b} h e => by
    subst e
    rw [swoA.irrefl] at h; cases h) hs
  have hnF : (f :: l).Nodup := Tj.Chn.nodup h.chn h.far
  refine ⟨by omega, ?_, ?_⟩
  · rw [List.Nodup, List.pairwise_iff_getElem]
    intro i j hi hj hij e
    obtain ⟨p, hp, ep⟩ := hidx i hi
    obtain ⟨q, hq, eq⟩ := hidx j hj
    rw [List.getElem?_eq_getElem hi] at ep
    rw [List.getElem?_eq_getElem hj] at eq
    rw [e] at ep
    have : p = q := nodup_inj hnL ep.symm eq.symm
    subst this
    have := nodup_inj hnF hp hq
    omega
  · intro i x hx
    have hi := (List.getElem?_eq_some_iff.1 hx).1
    obtain ⟨p, hp, ep⟩ := hidx i hi
    have hu := Tj.Chn.uses h.chn h.far i p hp
    have hlt : (i + 1) % R.length < R.length := Nat.mod_lt _ (by omega)
    obtain ⟨q, hq, eq⟩ := hidx _ hlt
    have e2 : ((l ++ [f])[i]?).getD 0 = q := by
      by_cases hl : i < left
      · rw [Nat.mod_eq_of_lt (by omega), List.getElem?_cons_succ] at hq
        rw [List.getElem?_append_left (by omega), hq]; rfl
      · have hi2 : i = left := by omega
        rw [hi2, ← hR, Nat.mod_self] at hq
        rw [hi2, ← hll, List.getElem?_concat_length]
        rw [List.getElem?_cons_zero] at hq
        exact Option.some.inj hq
    rw [e2] at hu
    obtain ⟨y, hy⟩ : ∃ y, L[q]? = some y := ⟨_, List.getElem?_eq_getElem hu.1⟩
    refine ⟨y, eq.trans hy, (useP_iff hy (ep.symm.trans hx)).1 ⟨hu.1, hu.2⟩⟩
end Go.Proofs.YtdlieecpckpemaaGreatDoor
namespace Go.Proofs.YtdlieecpckpemaaGreatDoor
open Go.RowKit Go.Sort Go.Lib Go.Maps
/-- Each cell that could be read has what it had. -/
def KC (w w' : World) : Prop := ∀ j o v, w.cell? ⟨j, o, none⟩ = some v → w'.cell? ⟨j, o, none⟩ = some v
theorem kc_nul {w w' : World} (k : Kp w w' Nul) : KC w w' := fun j o v h => by
  have e := k.block j (cell_lt h) (fun x => x)
  simp only [World.cell?] at h ⊢
  rw [e]; exact h
theorem KC.trans {w w' w'' : World} (h : KC w w') (g : KC w' w'') : KC w w'' := fun j o v hi => g j o v (h j o v hi)
/-- Links out of which a cell is deleted. -/
theorem links_del2 {w : World} {F : Nat → Prop} {l n : Nat} {us : Int × Int → Option (List Ar)} {x : Int × Int} (h : LinksIn w F l us n) (hi : I64 x.1 ∧ I64 x.2) : ∃ mv w', w.cell? ⟨l, 0, none⟩ = some (.map mv) ∧ (∀ ty, (Builtin.delete_ #[64, 29] ty #[.map mv, .agg #[.int .i64 x.1, .int .i64 x.2]]).run Tryz.prog w = .ok (.tuple #[]) w') ∧ LinksIn w' F l (delU us x) (cntD us x n) ∧ Kp w w' F ∧ KC w w' := by
  obtain ⟨hl, h⟩ := h
  have hkey := kl_key hi.1 hi.2
  rcases h with ⟨hb, rfl, rfl⟩ | ⟨m, D, hb, hm, hne, hown, hmh⟩
  · refine ⟨none, w, hb.cell rfl, fun ty => Maps.drop_nil lawAddr Tryz.underlying64 hkey ty, ⟨hl, .inl ⟨hb, ?_, rfl⟩⟩, Kp.refl _ _, fun _ _ _ h => h⟩
    funext y; unfold delU; split <;> rfl
  · obtain ⟨w', h1, h2, h3⟩ := hown.drop lawAddr Tryz.underlying64 hkey 0
    have k := Kp.of_turned h3
    have hd := map_del hown hmh h2 k hi
    refine ⟨some m, w', hb.cell rfl, fun ty => h1, ⟨hl, .inr ⟨m, _, hb.kp k (fun e => hne e.symm), hm, hne, hd.1, hd.2⟩⟩, k.mono (fun i _ e => by subst e; exact hm), fun j o v hi => ?_⟩
    have hj : j ≠ m := fun e => by
      obtain ⟨es, clock, hmm, _⟩ := hown
      simp only [World.cell?] at hi
      rw [e, hmm] at hi
      cases hi
    have e := k.block j (cell_lt hi) hj
    simp only [World.cell?] at hi ⊢
    rw [e]; exact hi
set_option maxRecDepth 20000 in
set_option maxHeartbeats 4000000 in
theorem drop2_at (F : Nat → Prop) (l n : Nat) (us : Int × Int → Option (List Ar)) (c r : Int) (w : World) (h : LinksIn w F l us n) (hc : I64 c) (hr : I64 r) :
    Calls Tryz.prog 24 #[.pointer (some ⟨l, 0, none⟩), .agg #[.int .i64 c, .int .i64 r]] w fun e w' => e = .returned (.bool (us (c, r)).isSome) ∧ LinksIn w' F l (delU us (c, r)) (cntD us (c, r) n) ∧ Kp w w' F ∧ KC w w' := by
  obtain ⟨W, hW⟩ : ∃ W, w.alloc (.cells #[.int .i64 c, .int .i64 r] 29) = W := ⟨_, rfl⟩
  have kW : Kp w W Nul := by rw [← hW]; exact (Kp.refl w Nul).alloc _
  have hbx : Blk W w.heap.size [.int .i64 c, .int .i64 r] 29 := by rw [← hW]; exact Blk.new w [.int .i64 c, .int .i64 r] _
  have HW : Hid (w.alloc (.cells #[.int .i64 c, .int .i64 r] 29) = W) := hW
  have HKW : Hid (Kp w W Nul) := kW
  have HBX : Hid (Blk W w.heap.size [.int .i64 c, .int .i64 r] 29) := hbx
  have q0 : W.cell? ⟨w.heap.size, 0, none⟩ = some (.int .i64 c) := hbx.cell rfl
  have q1 : W.cell? ⟨w.heap.size, 1, none⟩ = some (.int .i64 r) := hbx.cell rfl
  have HLk : Hid (∀ wq, Kp W wq Nul → LinksIn wq F l us n) := fun wq k => h.kp (kW.trans k) (fun _ _ x => x)
  have HS : Hid (Calls Tryz.prog 63 #[.pointer (some ⟨l, 0, none⟩), .agg #[.int .i64 c, .int .i64 r]] W fun e w' => e = .returned (.bool (us (c, r)).isSome) ∧ Kp W w' Nul) := isSet_at F l n us c r W (HLk.out W (Kp.refl _ _)) hc hr
  have HI : Hid (I64 c ∧ I64 r) := ⟨hc, hr⟩
  have HNo : Hid ((us (c, r)).isSome = false → delU us (c, r) = us ∧ cntD us (c, r) n = n) := fun hn => by
    have hu : us (c, r) = none := by
      cases e : us (c, r) with
      | none => rfl
      | some a => rw [e] at hn; cases hn
    refine ⟨funext fun y => ?_, by unfold cntD; rw [hn]; rfl⟩
    unfold delU
    by_cases e : y = (c, r)
    · rw [if_pos e, e, hu]
    · rw [if_neg e]
  obtain ⟨V, hV⟩ : ∃ V, (us (c, r)).isSome = V := ⟨_, rfl⟩
  rw [hV] at HS HNo ⊢
  clear hW kW hbx h hc hr hV
  go_enter Tryz.func24, Tryz.ntmps24
  go_wp2_with fail
  rw [HW.out]
  refine HS.out.mono ?_
  rintro e w2 ⟨rfl, hk2⟩
  have HK2 : Hid (Kp W w2 Nul) := hk2
  cases V with
  | false =>
    clear hk2
    go_wp2_with fail
    go_ret
    obtain ⟨e1, e2⟩ := HNo.out trivial
    rw [e1, e2]
    exact ⟨rfl, HLk.out w2 HK2.out, (HKW.out.trans HK2.out).of_nul, kc_nul (HKW.out.trans HK2.out)⟩
  | true =>
    have hb2 := HBX.out.kp hk2 (fun x => x)
    have d0 : w2.cell? ⟨w.heap.size, 0, none⟩ = some (.int .i64 c) := hb2.cell rfl
    have d1 : w2.cell? ⟨w.heap.size, 1, none⟩ = some (.int .i64 r) := hb2.cell rfl
    obtain ⟨mv, W4, hmc, hdel, hl4, hk4, hb4⟩ := links_del2 (x := (c, r)) (HLk.out w2.drew (hk2.drew)) HI.out
    have HEND : Hid (LinksIn W4 F l (delU us (c, r)) (cntD us (c, r) n) ∧ Kp w W4 F ∧ KC w W4) := ⟨hl4, ((HKW.out.trans hk2.drew).of_nul).trans hk4, (kc_nul (HKW.out.trans hk2.drew)).trans hb4⟩
    have d2 : w2.cell? ⟨l, 0, none⟩ = some (.map mv) := hmc
    simp only at hdel
    clear hl4 hk4 hb4 hmc hb2 hk2
    go_wp2_with fail
    go_region
    all_goals
      go_wp2_with fail
      go_ret
      exact ⟨rfl, HEND.out⟩
end Go.Proofs.YtdlieecpckpemaaGreatDoor
namespace Go.Proofs.YtdlieecpckpemaaGreatDoor
open Go.RowKit Go.Sort Go.Lib Tj
theorem useP_lt2 {L : List (Int × Int)} {us : Int × Int → Option (List Ar)} : ∀ p q, useP L us p q = true → p < L.length ∧ q < L.length := fun p q h => by
  unfold useP inPl at h
  cases hp : L[p]? with
  | none => rw [hp] at h; cases h
  | some x =>
    refine ⟨(List.getElem?_eq_some_iff.1 hp).1, ?_⟩
    rw [hp] at h
    dsimp only at h
    cases hq : L[q]? with
    | none => rw [hq] at h; simp at h
    | some y => exact (List.getElem?_eq_some_iff.1 hq).1
theorem CirIs.sub {w w' : World} {us : Int × Int → Option (List Ar)} {L : List (Int × Int)} {f : Nat} {l : List Nat} {left : Nat} {R : List (Int × Int)} {v : Value} (h : CirIs w w' us L f l left R v) : ∀ x ∈ R, x ∈ L := fun x hx => by
  obtain ⟨i, hi⟩ := List.mem_iff_getElem?.1 hx
  have hlt := (List.getElem?_eq_some_iff.1 hi).1
  have hll : l.length = left := Tj.Chn.len h.chn
  have hR := h.len
  have : i < (f :: l).length := by rw [List.length_cons]; omega
  have := h.at' i _ (List.getElem?_eq_getElem this)
  rw [hi] at this
  exact List.mem_of_getElem? this.symm
end Go.Proofs.YtdlieecpckpemaaGreatDoor
namespace Go.Proofs.YtdlieecpckpemaaGreatDoor
open Go.RowKit Go.Sort Go.Lib Go.Maps
set_option maxHeartbeats 2000000 in
theorem valid18_at (c r : Int) (w : World) : Calls Tryz.prog 17 #[.agg #[.int .i64 c, .int .i64 r]] w fun e w' => e = .returned (.bool (vC c r)) ∧ Kp w w' Nul := by
  go_enter Tryz.func17, Tryz.ntmps17
  have h : vC c r = (decide (1 ≤ c) && decide (c ≤ 256) && decide (1 ≤ r) && decide (r ≤ 4096)) := rfl
  by_cases h1 : 1 ≤ c
  · by_cases h2 : c ≤ 256
    · by_cases h3 : 1 ≤ r
      · by_cases h4 : r ≤ 4096
        all_goals
          go_wp2_with fail
          go_ret
          exact ⟨by simp [*] <;> omega, (Kp.refl w Nul).alloc _⟩
      · go_wp2_with fail
        go_ret
        exact ⟨by simp [*] <;> omega, (Kp.refl w Nul).alloc _⟩
    · go_wp2_with fail
      go_ret
      exact ⟨by simp [*] <;> omega, (Kp.refl w Nul).alloc _⟩
  · go_wp2_with fail
    go_ret
    exact ⟨by simp [*] <;> omega, (Kp.refl w Nul).alloc _⟩
set_option maxHeartbeats 2000000 in
theorem in18_at (a : Ar) (x y : Int) (w : World) : Calls Tryz.prog 20 #[.agg #[.int .i64 a.c1, .int .i64 a.r1, .int .i64 a.c2, .int .i64 a.r2], .agg #[.int .i64 x, .int .i64 y]] w fun e w' => e = .returned (.bool (a.has (x, y))) ∧ Kp w w' Nul := by
  go_enter Tryz.func20, Tryz.ntmps20
  have h : a.has (x, y) = (decide (a.c1 ≤ x) && decide (x ≤ a.c2) && decide (a.r1 ≤ y) && decide (y ≤ a.r2)) := rfl
  generalize a.c1 = c1 at *
  generalize a.r1 = r1 at *
  generalize a.c2 = c2 at *
  generalize a.r2 = r2 at *
  by_cases h1 : c1 ≤ x
  · by_cases h2 : x ≤ c2
    · by_cases h3 : r1 ≤ y
      · by_cases h4 : y ≤ r2
        all_goals
          go_wp2_with fail
          go_ret
          exact ⟨by simp [*] <;> omega, ((Kp.refl w Nul).alloc _).alloc _⟩
      · go_wp2_with fail
        go_ret
        exact ⟨by simp [*] <;> omega, ((Kp.refl w Nul).alloc _).alloc _⟩
    · go_wp2_with fail
      go_ret
      exact ⟨by simp [*] <;> omega, ((Kp.refl w Nul).alloc _).alloc _⟩
  · go_wp2_with fail
    go_ret
    exact ⟨by simp [*] <;> omega, ((Kp.refl w Nul).alloc _).alloc _⟩
end Go.Proofs.YtdlieecpckpemaaGreatDoor
namespace Go.Proofs.YtdlieecpckpemaaGreatDoor
open Go.RowKit Go.Sort Go.Lib Go.Maps
open Tj (Hg)
/-- A list of cells lies there. -/
structure Lst (w : World) (L : List (Int × Int)) (a : Option Addr) (m : Nat) : Prop where
  len : L.length = m
  le : m ≤ 1048576
  cells : 0 < m → ∃ b, a = some ⟨b, 0, none⟩ ∧ CellsAt w b 0 L
theorem Lst.kp {w w' : World} {L : List (Int × Int)} {a : Option Addr} {m : Nat} (h : Lst w L a m) (k : Kp w w' Nul) : Lst w' L a m :=
  ⟨h.len, h.le, fun h0 => by obtain ⟨b, e, hc⟩ := h.cells h0; exact ⟨b, e, hc.kp k (fun x => x)⟩⟩
theorem Lst.get {w : World} {L : List (Int × Int)} {a : Option Addr} {m : Nat} (h : Lst w L a m) {i : Nat} (hi : i < m) : ∃ b x1 x2, a = some ⟨b, 0, none⟩ ∧ L[i]? = some (x1, x2) ∧ w.cell? ⟨b, i * 2, none⟩ = some (.int .i64 x1) ∧ w.cell? ⟨b, i * 2 + 1, none⟩ = some (.int .i64 x2) := by
  obtain ⟨b, e, hc⟩ := h.cells (by omega)
  obtain ⟨⟨x1, x2⟩, hx⟩ : ∃ x, L[i]? = some x := ⟨_, List.getElem?_eq_getElem (by have := h.len; omega)⟩
  have := hc i _ hx
  rw [Nat.zero_add] at this
  exact ⟨b, x1, x2, e, hx, this⟩
/-- A row's slice. -/
theorem row_slice {w : World} {base size n : Nat} {e : TypeId} {v : Value} {xs : List Value} (h : w.ownsRow base e size v n xs) : ∃ a c, v = .slice a n c := by
  rcases h.2 with ⟨rfl, e2⟩ | ⟨g, cap, cur, rfl, _⟩
  · exact ⟨none, 0, by rw [e2]⟩
  · exact ⟨_, _, rfl⟩
end Go.Proofs.YtdlieecpckpemaaGreatDoor
namespace Go.Proofs.YtdlieecpckpemaaGreatDoor
open Go.RowKit Go.Sort Go.Lib Go.Maps
/-- The areas of a list in order, each once. -/
def SrtR (L A : List Ar) : Prop := (L.map tupA).Pairwise (fun x y => ltOf cfR x y = true) ∧ ∀ x, x ∈ L ↔ x ∈ A
def SetIs2 (us : Int × Int → Option (List Ar)) (n : Nat) (x : Int × Int) (al : List Ar) (er : Int) (us' : Int × Int → Option (List Ar)) (n' : Nat) : Prop :=
  (us' = us ∧ n' = n ∧ ((vC x.1 x.2 = false ∧ er = 20) ∨ (vC x.1 x.2 = true ∧ 256 < al.length ∧ er = 34) ∨ (vC x.1 x.2 = true ∧ al.length ≤ 256 ∧ al.any (fun a => !vR a) = true ∧ er = 1) ∨ (vC x.1 x.2 = true ∧ al.length ≤ 256 ∧ al.any (fun a => !vR a) = false ∧ 4096 ≤ n ∧ us x = none ∧ er = 41))) ∨
  (vC x.1 x.2 = true ∧ al.length ≤ 256 ∧ al.any (fun a => !vR a) = false ∧ (n < 4096 ∨ (us x).isSome = true) ∧ er = 0 ∧ ∃ al', SrtR al' al ∧ us' = updU us x al' ∧ n' = cntU us x n)
/-- Links lie in those blocks alone that there are. -/
theorem LinksIn.below {w : World} {F : Nat → Prop} {l n : Nat} {us : Int × Int → Option (List Ar)} (h : LinksIn w F l us n) : LinksIn w (fun b => F b ∧ b < w.heap.size) l us n := by
  obtain ⟨hl, h⟩ := h
  rcases h with ⟨hb, e1, e2⟩ | ⟨m, D, hb, hm, hne, hown, hmh⟩
  · exact ⟨⟨hl, hb.lt⟩, .inl ⟨hb, e1, e2⟩⟩
  · refine ⟨⟨hl, hb.lt⟩, .inr ⟨m, D, hb, ⟨hm, hown.lt⟩, hne, hown, hmh.size, hmh.keys, fun c r al hu => ?_, hmh.rng, hmh.oks⟩⟩
    obtain ⟨v, h1, a, c', e1, e2, e3, h4⟩ := hmh.vals c r al hu
    refine ⟨v, h1, a, c', e1, e2, e3, fun hl => ?_⟩
    obtain ⟨b, o, f1, f2, f3⟩ := h4 hl
    obtain ⟨y, hy⟩ : ∃ y, al[0]? = some y := ⟨_, List.getElem?_eq_getElem hl⟩
    exact ⟨b, o, f1, ⟨f2, cell_lt (f3 0 y hy).1⟩, f3⟩
theorem compact_areas2 (A : List ((Int × Int) × (Int × Int))) (v : Value) (B : Nat) (w : World) (hA : A.length ≤ 1048576) (hv : Own1 encR 4 B w v (A.mergeSort fun x y => !(ltOf cfR) y x)) :
    Calls Tryz.prog 101 #[v] w fun e w' => ∃ (L : List ((Int × Int) × (Int × Int))) (v' : Value), e = .returned v' ∧ AreasFrom B w' v' (L.map arT) ∧ L.length ≤ A.length ∧ (L.Pairwise (fun x y => ltOf cfR x y = true) ∧ ∀ x, x ∈ L ↔ x ∈ A) ∧ Kp w w' (fun i => B ≤ i) := by
  have hmem : ∀ x, x ∈ (A.mergeSort fun x y => !(ltOf cfR) y x) ↔ x ∈ A := fun x => List.mem_mergeSort
  rcases hv with ⟨h0, rfl⟩ | ⟨g, cap, rfl, h2, h3, h4, h5, h6⟩
  · refine (compactR_nil w).mono ?_
    rintro e w' ⟨rfl, rfl⟩
    refine ⟨[], _, rfl, ⟨none, 0, rfl, Nat.le_refl _, by decide, .inl ⟨rfl, rfl⟩⟩, Nat.zero_le _, ⟨List.Pairwise.nil, fun x => ?_⟩, Kp.refl _ _⟩
    rw [← hmem, h0]
  · have hl := List.length_mergeSort (le := fun x y => !(ltOf cfR) y x) A
    refine (compactR_at g 0 cap (A.mergeSort fun x y => !(ltOf cfR) y x).toArray w (RowR.of h4) (by simp; omega) (by simp; omega)).mono ?_
    rintro e w' ⟨rfl, hc, hk⟩
    have hs := compact_sorted swoR cfR_same (A.mergeSort fun x y => !(ltOf cfR) y x).toArray (merge_sorted swoR A)
    have hlen : (compactUpTo (A.mergeSort fun x y => !(ltOf cfR) y x).toArray (A.mergeSort fun x y => !(ltOf cfR) y x).toArray.size).length ≤ A.length := by
      have := List.length_filter_le (keeps (A.mergeSort fun x y => !(ltOf cfR) y x).toArray) (List.range (A.mergeSort fun x y => !(ltOf cfR) y x).toArray.size)
      simp only [compactUpTo, List.length_map]
      simp only [List.length_range, List.size_toArray, hl] at this ⊢
      exact this
    refine ⟨_, _, rfl, ⟨_, _, by rw [List.length_map], ?_, h6, .inr ⟨g, rfl, h2, hc⟩⟩, hlen, ⟨hs.1, fun x => ?_⟩, hk.mono (fun i _ e => by subst e; exact h2)⟩
    · rw [List.length_map]; omega
    · rw [hs.2, ← hmem]
set_option maxHeartbeats 1000000 in
theorem orderedR2_at (A : List Ar) (a : Option Addr) (c : Nat) (w : World) (hA : A.length ≤ 1048576) (ha : 0 < A.length → ∃ b o, a = some ⟨b, o, none⟩ ∧ AreasAt w b o A) :
    Calls Tryz.prog 66 #[.slice a A.length c, .func (.func 67) #[] #[]] w fun e w' => ∃ (L : List Ar) (v' : Value), e = .returned v' ∧ AreasFrom w.heap.size w' v' L ∧ L.length ≤ A.length ∧ SrtR L A ∧ Kp w w' Nul := by
  have el : (A.map tupA).length = A.length := List.length_map ..
  have H1 : Hid (Calls Tryz.prog 41 #[.slice a A.length c] w fun e w' => ∃ v', e = .returned v' ∧ Own1 encR 4 w.heap.size w' v' (A.map tupA) ∧ Kp w w' Nul) := by
    have := clone_areas (A.map tupA) a c w (by rw [el]; exact hA) (fun h0 => by
      obtain ⟨b, o, e, h⟩ := ha (by rw [el] at h0; exact h0)
      exact ⟨b, o, e, h.enc⟩)
    rw [el] at this
    exact this
  have H2 : Hid (∀ v wq, Own1 encR 4 w.heap.size wq v (A.map tupA) → Kp w wq Nul → Calls Tryz.prog 100 #[v, .func (.func 67) #[] #[]] wq fun e w' => e = .returned (.tuple #[]) ∧ Own1 encR 4 w.heap.size w' v ((A.map tupA).mergeSort fun x y => !(ltOf cfR) y x) ∧ Kp w w' Nul) := fun v wq ho hk =>
    (sort_areas (A.map tupA) v w.heap.size wq (by rw [el]; exact hA) ho).mono fun e w' ⟨h1, h2, h3⟩ => ⟨h1, h2, hk.trans' h3 (fun i hi e => absurd e (by omega))⟩
  have H3 : Hid (∀ v wq, Own1 encR 4 w.heap.size wq v ((A.map tupA).mergeSort fun x y => !(ltOf cfR) y x) → Kp w wq Nul → Calls Tryz.prog 101 #[v] wq fun e w' => ∃ (L : List Ar) (v' : Value), e = .returned v' ∧ AreasFrom w.heap.size w' v' L ∧ L.length ≤ A.length ∧ SrtR L A ∧ Kp w w' Nul) := fun v wq ho hk =>
    (compact_areas2 (A.map tupA) v w.heap.size wq (by rw [el]; exact hA) ho).mono fun e w' ⟨L, v', h1, h2, h3, h4, h5⟩ => ⟨L.map arT, v', h1, h2, by rw [List.length_map, ← el]; exact h3, ⟨by rw [List.map_map, show (tupA ∘ arT) = id from rfl, List.map_id]; exact h4.1, fun x => by
      rw [List.mem_map]
      constructor
      · rintro ⟨y, hy, rfl⟩
        obtain ⟨z, hz, rfl⟩ := List.mem_map.1 ((h4.2 y).1 hy)
        exact hz
      · intro hx
        exact ⟨tupA x, (h4.2 _).2 (List.mem_map.2 ⟨x, hx, rfl⟩), rfl⟩⟩, hk.trans' h5 (fun i hi e => absurd e (by omega))⟩
  generalize A.length = n at *
  clear hA ha el
  go_enter Tryz.func66, Tryz.ntmps66
  go_wp2_with fail
  refine H1.out.mono ?_
  rintro e w1 ⟨v1, rfl, ho1, hk1⟩
  go_wp2_with fail
  refine (H2.out v1 w1 ho1 hk1).mono ?_
  rintro e w2 ⟨rfl, ho2, hk2⟩
  go_wp2_with fail
  refine (H3.out v1 w2 ho2 hk2).mono ?_
  rintro e w3 ⟨L, v3, rfl, hc, hs, hm, hk3⟩
  go_wp2_with fail
  go_ret
  exact ⟨L, v3, rfl, hc, hs, hm, hk3⟩
set_option maxRecDepth 20000 in
set_option maxHeartbeats 4000000 in
theorem keep_any (F : Nat → Prop) (l n : Nat) (us : Int × Int → Option (List Ar)) (c r : Int) (al : List Ar) (av : Option Addr) (nl cv : Nat) (w : World) (h : LinksIn w F l us n) (hx : VC (c, r)) (hv : ArSl w F (.slice av nl cv) al) (hok : (∀ a ∈ al, a.ok) ∧ al.length ≤ 256) (hn : n < maxLen) (hB : ∀ b, w.heap.size ≤ b → F b) :
    Calls Tryz.prog 40 #[.pointer (some ⟨l, 0, none⟩), .agg #[.int .i64 c, .int .i64 r], .slice av nl cv] w fun e w' => e = .returned (.tuple #[]) ∧ LinksIn w' F l (updU us (c, r) al) (cntU us (c, r) n) ∧ Kp w w' F ∧ (∀ i cs, Blk w i cs 29 → Blk w' i cs 29) := by
  obtain ⟨hl, h⟩ := h
  have hkey := key_addr hx
  simp only at hkey
  obtain ⟨W1, hW1⟩ : ∃ W1, w.alloc (.cells #[.int .i64 c, .int .i64 r] 29) = W1 := ⟨_, rfl⟩
  have k1 : Kp w W1 Nul := by rw [← hW1]; exact (Kp.refl w Nul).alloc _
  have hA : Blk W1 w.heap.size [.int .i64 c, .int .i64 r] 29 := by rw [← hW1]; exact Blk.new w [.int .i64 c, .int .i64 r] _
  have hs1 : W1.heap.size = w.heap.size + 1 := by rw [← hW1]; exact World.size_alloc _ _
  rcases h with ⟨hb, rfl, rfl⟩ | ⟨m, D, hb, hm, hne, hown, hmh⟩
  · obtain ⟨W2, hW2⟩ : ∃ W2, W1.alloc (.map #[] 0) = W2 := ⟨_, rfl⟩
    obtain ⟨W3, hW3⟩ : ∃ W3, W2.setCell ⟨l, 0, none⟩ (.map (some W1.heap.size)) = W3 := ⟨_, rfl⟩
    have k2 : Kp W1 W2 Nul := by rw [← hW2]; exact (Kp.refl W1 Nul).alloc _
    have hb2 := (hb.kp k1 (fun x => x)).kp k2 (fun x => x)
    have hllt : l < w.heap.size := hb.lt
    have hlne : W1.heap.size ≠ l := by omega
    have hown2 : W2.ownsMap Tryz.prog 29 rawE W1.heap.size 0 (.map []) := by rw [← hW2]; exact World.ownsMap_made W1 _ _ _
    have hown3 : W3.ownsMap Tryz.prog 29 rawE W1.heap.size 0 (.map []) := by rw [← hW3]; exact hown2.setCell hlne _
    have k3 : Kp W2 W3 (fun i => i = l) := by rw [← hW3]; exact (Kp.refl W2 _).setCell ⟨l, 0, none⟩ _ (.inr rfl)
    have hb3 : Blk W3 l [.map (some W1.heap.size)] 66 := by rw [← hW3]; exact hb2.set 0 _
    have hA3 : Blk W3 w.heap.size [.int .i64 c, .int .i64 r] 29 := (hA.kp k2 (fun x => x)).kp k3 (by show ¬ w.heap.size = l; omega)
    obtain ⟨W4, hrun, hown4, hturn⟩ := hown3.drew.store lawAddr Tryz.underlying64 (by decide) hkey (val := .slice av nl cv) (d := .held (.slice av nl cv)) (ps := []) rfl
    have k4 : Kp W3 W4 (fun i => i = W1.heap.size) := ((Kp.refl W3 _).drew).trans (Kp.of_turned hturn)
    have kF : Kp w W4 F := ((k1.trans k2).of_nul.trans' k3 (fun i _ e => by subst e; exact hl)).trans' k4 (fun i hi e => absurd e (by omega))
    have hHas0 : MapHas W3 F (.map []) (fun _ => none) 0 := ⟨rfl, fun c r _ _ => rfl, fun c r al e => (by cases e), fun x al e => (by cases e), fun x al e => (by cases e)⟩
    have k03 : Kp w W3 (fun i => i = l) := (k1.trans k2).of_nul.trans' k3 (fun i _ e => e)
    have hvl : ∀ b o (y : Ar), AreasAt w b o al → al[0]? = some y → b ≠ l := fun b o y ha hy e => by
      have h1 := (ha 0 y hy)
      subst e
      have := h1.2.1
      rw [hb.at'] at this
      simp at this
    have hv4 : ArSl W4 F (.slice av nl cv) al := by
      obtain ⟨a, c', e1, e2, e3, e4⟩ := hv
      refine ⟨a, c', e1, e2, e3, fun hlen => ?_⟩
      obtain ⟨b, o, f1, f2, f3⟩ := e4 hlen
      obtain ⟨y, hy⟩ : ∃ y, al[0]? = some y := ⟨_, List.getElem?_eq_getElem hlen⟩
      have hbl := cell_lt (f3 0 y hy).1
      exact ⟨b, o, f1, f2, (f3.kp k03 (hvl b o y f3 hy)).kp k4 (by show ¬ b = W1.heap.size; omega)⟩
    have hput := map_put (x := (c, r)) hown3 hHas0 hown4 k4 hx hv4 hok
    have HEND : Hid (LinksIn W4 F l (updU (fun _ => none) (c, r) al) (cntU (fun _ => none) (c, r) 0) ∧ Kp w W4 F ∧ (∀ i cs, Blk w i cs 29 → Blk W4 i cs 29)) := ⟨⟨hl, .inr ⟨W1.heap.size, _, hb3.kp k4 (by show ¬ l = W1.heap.size; omega), (hB _ (by omega)), hlne, hput.1, hput.2⟩⟩, kF, fun i cs hi => (hi.kp k03 (hi.ne hb (by decide))).kp k4 (by have := hi.lt; show ¬ i = W1.heap.size; omega)⟩
    have HW1 : Hid (w.alloc (.cells #[.int .i64 c, .int .i64 r] 29) = W1) := hW1
    have HW2 : Hid (W1.alloc (.map #[] 0) = W2) := hW2
    have HW3 : Hid (W2.setCell ⟨l, 0, none⟩ (.map (some W1.heap.size)) = W3) := hW3
    have c1 : W1.cell? ⟨l, 0, none⟩ = some (.map none) := (hb.kp k1 (fun x => x)).cell rfl
    have c2 : W2.cell? ⟨l, 0, none⟩ = some (.map none) := hb2.cell rfl
    have f2 : W2.frozen? ⟨l, 0, none⟩ = false := hb2.froz _
    have c3 : W3.cell? ⟨l, 0, none⟩ = some (.map (some W1.heap.size)) := hb3.cell rfl
    have c4 : W3.cell? ⟨w.heap.size, 0, none⟩ = some (.int .i64 c) := hA3.cell rfl
    have c5 : W3.cell? ⟨w.heap.size, 1, none⟩ = some (.int .i64 r) := hA3.cell rfl
    have hmm : (Instr.makeMap 64 none).run Tryz.prog W1 = .ok (.map (some W1.heap.size)) W2 := by rw [← hW2]; rfl
    rw [hs1] at HW3 c3 hmm hrun
    have hnil := eq_nilmap none
    clear hb hv hok hn hB hW2 hW3 k1 k2 k3 k4 kF hA hA3 hb2 hb3 hown2 hown3 hown4 hturn hHas0 k03 hvl hv4 hput hkey hs1 hx hl HW1 HW2 hlne
    subst hW1
    go_enter Tryz.func40, Tryz.ntmps40
    go_wp2_with fail
    rw [HW3.out]
    go_region
    all_goals
      go_wp2_with fail
      go_end0
      exact ⟨rfl, HEND.out⟩
  · obtain ⟨W4, hrun, hown4, hturn⟩ := (ownsMap_block hown (k1.block m hown.lt (fun x => x))).drew.store lawAddr Tryz.underlying64 hn hkey (val := .slice av nl cv) (d := .held (.slice av nl cv)) (ps := []) rfl
    have k4 : Kp W1 W4 (fun i => i = m) := ((Kp.refl W1 _).drew).trans (Kp.of_turned hturn)
    have k0 : Kp w W4 (fun i => i = m) := k1.of_nul.trans k4
    have hv4 : ArSl W4 F (.slice av nl cv) al := by
      obtain ⟨a, c', e1, e2, e3, e4⟩ := hv
      refine ⟨a, c', e1, e2, e3, fun hlen => ?_⟩
      obtain ⟨b, o, f1, f2, f3⟩ := e4 hlen
      obtain ⟨y, hy⟩ : ∃ y, al[0]? = some y := ⟨_, List.getElem?_eq_getElem hlen⟩
      refine ⟨b, o, f1, f2, f3.kp k0 (fun eb => ?_)⟩
      have hcell := (f3 0 y hy).1
      obtain ⟨es, clock, hmm, _⟩ := hown
      simp only [World.cell?] at hcell
      rw [eb, hmm] at hcell
      cases hcell
    have hput := map_put (x := (c, r)) hown hmh hown4 k0 hx hv4 hok
    have HEND : Hid (LinksIn W4 F l (updU us (c, r) al) (cntU us (c, r) n) ∧ Kp w W4 F ∧ (∀ i cs, Blk w i cs 29 → Blk W4 i cs 29)) := ⟨⟨hl, .inr ⟨m, _, hb.kp k0 (fun e => hne e.symm), hm, hne, hput.1, hput.2⟩⟩, k0.mono (fun i _ e => by subst e; exact hm), fun i cs hi => hi.kp k0 (fun e => by
      obtain ⟨es, clock, hmm, _⟩ := hown
      unfold Blk at hi
      rw [e, hmm] at hi
      cases hi)⟩
    have c1 : W1.cell? ⟨l, 0, none⟩ = some (.map (some m)) := (hb.kp k1 (fun x => x)).cell rfl
    have c4 : W1.cell? ⟨w.heap.size, 0, none⟩ = some (.int .i64 c) := hA.cell rfl
    have c5 : W1.cell? ⟨w.heap.size, 1, none⟩ = some (.int .i64 r) := hA.cell rfl
    have hnil := eq_nilmap (some m)
    clear hb hv hok hn hB k1 k4 k0 hA hown hown4 hmh hturn hv4 hput hkey hs1 hx hl hm hne
    subst hW1
    go_enter Tryz.func40, Tryz.ntmps40
    go_wp2_with fail
    go_region
    all_goals
      go_wp2_with fail
      go_end0
      exact ⟨rfl, HEND.out⟩
set_option maxRecDepth 20000 in
set_option maxHeartbeats 8000000 in
theorem set_any (F : Nat → Prop) (l n : Nat) (us : Int × Int → Option (List Ar)) (c r : Int) (al : List Ar) (av : Option Addr) (cv : Nat) (w : World) (h : LinksIn w F l us n) (hc : I64 c) (hr : I64 r) (hal : al.length ≤ 9223372036854775807) (ha0 : 0 < al.length → ∃ b o, av = some ⟨b, o, none⟩ ∧ AreasAt w b o al) (hn : n < maxLen) (hB : ∀ b, w.heap.size ≤ b → F b) :
    Calls Tryz.prog 26 #[.pointer (some ⟨l, 0, none⟩), .agg #[.int .i64 c, .int .i64 r], .slice av al.length cv] w fun e w' => ∃ er us' n', e = .returned (.int .i64 er) ∧ SetIs2 us n (c, r) al er us' n' ∧ LinksIn w' F l us' n' ∧ Kp w w' F ∧ (∀ i cs, Blk w i cs 29 → Blk w' i cs 29) := by
  have HV : Hid (∀ w, Calls Tryz.prog 64 #[.agg #[.int .i64 c, .int .i64 r]] w fun e w' => e = .returned (.bool (vC c r)) ∧ w' = w.alloc (.cells #[.int .i64 c, .int .i64 r] 29)) := pValid_at c r
  have HC : Hid (∀ wq, Kp w wq Nul → Calls Tryz.prog 46 #[.slice av al.length cv, .func (.func 65) #[] #[]] wq fun e w' => e = .returned (.bool (al.any (fun x => !vR x))) ∧ Kp wq w' Nul) := fun wq k =>
    noArea_any al av cv wq hal (fun h => by obtain ⟨b, o, e, hh⟩ := ha0 h; exact ⟨b, o, e, hh.kp k (fun x => x)⟩)
  have HL : Hid (∀ wq, Kp w wq Nul → LinksIn wq F l us n) := fun wq k => h.kp k (fun _ _ x => x)
  have HS : Hid (∀ wq, Kp w wq Nul → Calls Tryz.prog 63 #[.pointer (some ⟨l, 0, none⟩), .agg #[.int .i64 c, .int .i64 r]] wq fun e w' => e = .returned (.bool (us (c, r)).isSome) ∧ Kp wq w' Nul) := fun wq k => isSet_at F l n us c r wq (h.kp k (fun _ _ x => x)) hc hr
  have HO : Hid (al.length ≤ 256 → ∀ wq, Kp w wq Nul → Calls Tryz.prog 66 #[.slice av al.length cv, .func (.func 67) #[] #[]] wq fun e w' => ∃ (L : List Ar) (v' : Value), e = .returned v' ∧ AreasFrom wq.heap.size w' v' L ∧ L.length ≤ al.length ∧ SrtR L al ∧ Kp wq w' Nul) := fun h256 wq k =>
    orderedR2_at al av cv wq (by omega) (fun h0 => by obtain ⟨b, o, e, h⟩ := ha0 h0; exact ⟨b, o, e, h.kp k (fun x => x)⟩)
  have hA : Blk (w.alloc (.cells #[.int .i64 c, .int .i64 r] 29)) w.heap.size [.int .i64 c, .int .i64 r] 29 := Blk.new w [.int .i64 c, .int .i64 r] _
  have HAt : Hid (∀ wq, Kp (w.alloc (.cells #[.int .i64 c, .int .i64 r] 29)) wq Nul → Blk wq w.heap.size [.int .i64 c, .int .i64 r] 29) := fun wq k => hA.kp k (fun x => x)
  have HKw : Hid (∀ wq, Kp (w.alloc (.cells #[.int .i64 c, .int .i64 r] 29)) wq Nul → Kp w wq Nul) := fun wq k => ((Kp.refl w Nul).alloc _).trans k
  have HKeep : Hid (VC (c, r) → al.length ≤ 256 → al.any (fun x => !vR x) = false → ∀ wq v L, Kp w wq Nul → AreasFrom w.heap.size wq v L → L.length ≤ al.length → SrtR L al → Calls Tryz.prog 40 #[.pointer (some ⟨l, 0, none⟩), .agg #[.int .i64 c, .int .i64 r], v] wq fun e w' => e = .returned (.tuple #[]) ∧ LinksIn w' F l (updU us (c, r) L) (cntU us (c, r) n) ∧ Kp w w' F ∧ (∀ i cs, Blk wq i cs 29 → Blk w' i cs 29)) := fun hx h256 hall wq v L k hf hlen hmem => by
    obtain ⟨a, c', rfl, f1, f2, f3⟩ := hf
    refine (keep_any F l n us c r L a L.length c' wq (h.kp k (fun _ _ x => x)) hx ⟨a, c', rfl, f1, f2, fun hl => ?_⟩ ⟨fun x hxL => ?_, by omega⟩ hn (fun b hb => hB b (Nat.le_trans k.size hb))).mono ?_
    · rcases f3 with ⟨_, e⟩ | ⟨b, e1, e2, e3⟩
      · rw [e] at hl; exact absurd hl (Nat.lt_irrefl _)
      · exact ⟨b, 0, e1, hB b e2, e3⟩
    · rw [List.any_eq_false] at hall
      have := hall x ((hmem.2 x).1 hxL)
      exact vR_ok (by simpa using this)
    · rintro e w' ⟨rfl, h1, h2, h3⟩
      exact ⟨rfl, h1, k.of_nul.trans h2, h3⟩
  have HVC : Hid (vC c r = true → VC (c, r)) := fun hv => (vc_iff' (c, r)).1 hv
  clear hA ha0 h hal hc hr hn
  obtain ⟨N, hN⟩ : ∃ N, al.length = N := ⟨_, rfl⟩
  have HN : Hid (al.length = N) := hN
  rw [hN] at HC HO HKeep ⊢
  obtain ⟨A, hA⟩ : ∃ A, al.any (fun x => !vR x) = A := ⟨_, rfl⟩
  have HA : Hid (al.any (fun x => !vR x) = A) := hA
  rw [hA] at HC HKeep
  obtain ⟨I, hI⟩ : ∃ I, (us (c, r)).isSome = I := ⟨_, rfl⟩
  have HI : Hid ((us (c, r)).isSome = I) := hI
  rw [hI] at HS
  obtain ⟨V, hV⟩ : ∃ V, vC c r = V := ⟨_, rfl⟩
  have HVV : Hid (vC c r = V) := hV
  rw [hV] at HV HVC
  clear hN hA hI hV
  go_enter Tryz.func26, Tryz.ntmps26
  go_wp2_with fail
  refine (HV.out _).mono ?_
  rintro e w1 ⟨rfl, hw1⟩
  have HK1 : Hid (Kp (w.alloc (.cells #[.int .i64 c, .int .i64 r] 29)) w1 Nul) := by rw [hw1]; exact (Kp.refl _ _).alloc _
  clear hw1 HV
  cases V with
  | false =>
    go_wp2_with fail
    go_ret
    exact ⟨_, us, n, rfl, .inl ⟨rfl, rfl, .inl ⟨HVV.out, rfl⟩⟩, HL.out _ (HKw.out _ HK1.out), (HKw.out _ HK1.out).of_nul, fun i cs hi => hi.kp (HKw.out _ HK1.out) (fun x => x)⟩
  | true =>
    by_cases hbig : 256 < N
    · have hb1 : (256 : Int) < (N : Int) := by omega
      go_wp2_with fail
      go_ret
      exact ⟨_, us, n, rfl, .inl ⟨rfl, rfl, .inr (.inl ⟨HVV.out, by rw [HN.out]; exact hbig, rfl⟩)⟩, HL.out _ (HKw.out _ HK1.out), (HKw.out _ HK1.out).of_nul, fun i cs hi => hi.kp (HKw.out _ HK1.out) (fun x => x)⟩
    · have hb1 : ¬ (256 : Int) < (N : Int) := by omega
      have hb2 : N ≤ 256 := by omega
      go_wp2_with fail
      refine (HC.out w1 (HKw.out _ HK1.out)).mono ?_
      rintro e w2 ⟨rfl, hk2⟩
      have HK2 : Hid (Kp (w.alloc (.cells #[.int .i64 c, .int .i64 r] 29)) w2 Nul) := HK1.out.trans hk2
      clear hk2 HC
      cases A with
      | true =>
        go_wp2_with fail
        go_ret
        exact ⟨_, us, n, rfl, .inl ⟨rfl, rfl, .inr (.inr (.inl ⟨HVV.out, by rw [HN.out]; exact hb2, HA.out, rfl⟩))⟩, HL.out _ (HKw.out _ HK2.out), (HKw.out _ HK2.out).of_nul, fun i cs hi => hi.kp (HKw.out _ HK2.out) (fun x => x)⟩
      | false =>
        obtain ⟨mv, q1, q2⟩ := len_of (HL.out w2 (HKw.out _ HK2.out))
        have q3 : w2.cell? ⟨w.heap.size, 0, none⟩ = some (.int .i64 c) := (HAt.out w2 HK2.out).cell rfl
        have q4 : w2.cell? ⟨w.heap.size, 1, none⟩ = some (.int .i64 r) := (HAt.out w2 HK2.out).cell rfl
        by_cases hfull : 4096 ≤ n
        · have hf1 : (4096 : Int) ≤ (n : Int) := by omega
          go_wp2_with fail
          refine (HS.out w2 (HKw.out _ HK2.out)).mono ?_
          rintro e w3 ⟨rfl, hk3⟩
          have HK3 : Hid (Kp (w.alloc (.cells #[.int .i64 c, .int .i64 r] 29)) w3 Nul) := HK2.out.trans hk3
          clear hk3 q1 q2 q3 q4
          cases I with
          | false =>
            go_wp2_with fail
            go_ret
            exact ⟨_, us, n, rfl, .inl ⟨rfl, rfl, .inr (.inr (.inr ⟨HVV.out, by rw [HN.out]; exact hb2, HA.out, hfull, by have := HI.out; cases hu : us (c, r) with | none => rfl | some x => (rw [hu] at this; cases this), rfl⟩))⟩, HL.out _ (HKw.out _ HK3.out), (HKw.out _ HK3.out).of_nul, fun i cs hi => hi.kp (HKw.out _ HK3.out) (fun x => x)⟩
          | true =>
            go_wp2_with fail
            have KS : Hid (∀ w', Kp w3 w' Nul → (w'.cell? ⟨w.heap.size, 0, none⟩ = some (.int .i64 c) ∧ w'.cell? ⟨w.heap.size, 1, none⟩ = some (.int .i64 r))) := fun w' k => by
              have := (HAt.out w3 HK3.out).kp k (fun x => x)
              exact ⟨this.cell rfl, this.cell rfl⟩
            have HO2 : Hid (Calls Tryz.prog 66 #[.slice av N cv, .func (.func 67) #[] #[]] w3.drew fun e w' => ∃ (L : List Ar) (v' : Value), e = .returned v' ∧ AreasFrom w.heap.size w' v' L ∧ L.length ≤ N ∧ SrtR L al ∧ Kp w3 w' Nul) := (HO.out hb2 w3.drew (HKw.out _ HK3.out.drew)).mono fun e w' ⟨L, v', h1, h2, h3, h4, h5⟩ => ⟨L, v', h1, by
              obtain ⟨a, c', f0, f1, f2, f3⟩ := h2
              refine ⟨a, c', f0, f1, f2, ?_⟩
              rcases f3 with f3 | ⟨b, e1, e2, e3⟩
              · exact .inl f3
              · exact .inr ⟨b, e1, Nat.le_trans (HKw.out _ HK3.out.drew).size e2, e3⟩, h3, h4, ((Kp.refl w3 Nul).drew).trans h5⟩
            have HK5 : Hid (∀ w4 v L, Kp w3 w4 Nul → AreasFrom w.heap.size w4 v L → L.length ≤ N → SrtR L al → Calls Tryz.prog 40 #[.pointer (some ⟨l, 0, none⟩), .agg #[.int .i64 c, .int .i64 r], v] w4 fun e w' => e = .returned (.tuple #[]) ∧ (LinksIn w' F l (updU us (c, r) L) (cntU us (c, r) n) ∧ Kp w w' F ∧ (∀ i cs, Blk w i cs 29 → Blk w' i cs 29)) ∧ (w'.cell? ⟨w.heap.size, 0, none⟩ = some (.int .i64 c) ∧ w'.cell? ⟨w.heap.size, 1, none⟩ = some (.int .i64 r))) := fun w4 v L k hf hlen hmem =>
              (HKeep.out (HVC.out (by simp)) hb2 (by simp) w4 v L ((HKw.out _ HK3.out).trans k) hf hlen hmem).mono fun e w' ⟨h1, h2, h3, h4⟩ => ⟨h1, ⟨h2, h3, fun i cs hi => h4 i cs (hi.kp ((HKw.out _ HK3.out).trans k) (fun x => x))⟩, by
                have := h4 _ _ ((HAt.out w3 HK3.out).kp k (fun x => x))
                exact ⟨this.cell rfl, this.cell rfl⟩⟩
            clear HKeep HO HS HAt HL
            go_region_held3 (fun w' => w'.cell? ⟨w.heap.size, 0, none⟩ = some (.int .i64 c) ∧ w'.cell? ⟨w.heap.size, 1, none⟩ = some (.int .i64 r))
              (first | (exact KS.out _ hk4) | (exact hs5) | (exact KS.out _ ((Kp.refl _ _).drew)) | (exact KS.out _ (Kp.refl _ _)))
              (first
              | (go_at_call 66; refine HO2.out.mono ?_; rintro e w4 ⟨L, v4, rfl, hf, hlen, hmem, hk4⟩)
              | (go_at_call 40; refine (HK5.out _ _ _ hk4 hf hlen hmem).mono ?_; rintro e w5 ⟨rfl, hl5, hs5⟩))
            all_goals
              have HMEM : Hid (SrtR L al) := hmem
              have HL5 : Hid (LinksIn w5 F l (updU us (c, r) L) (cntU us (c, r) n) ∧ Kp w w5 F ∧ (∀ i cs, Blk w i cs 29 → Blk w5 i cs 29)) := hl5
              clear hmem hl5 hs5 hk4 hf hlen
              go_wp2_with fail
              go_ret
              exact ⟨_, _, _, rfl, .inr ⟨HVV.out, by rw [HN.out]; exact hb2, HA.out, .inr HI.out, rfl, L, HMEM.out, rfl, rfl⟩, HL5.out⟩
        · have hf1 : ¬ (4096 : Int) ≤ (n : Int) := by omega
          go_wp2_with fail
          clear q1 q2 q3 q4
          have KS : Hid (∀ w', Kp w2 w' Nul → (w'.cell? ⟨w.heap.size, 0, none⟩ = some (.int .i64 c) ∧ w'.cell? ⟨w.heap.size, 1, none⟩ = some (.int .i64 r))) := fun w' k => by
            have := (HAt.out w2 HK2.out).kp k (fun x => x)
            exact ⟨this.cell rfl, this.cell rfl⟩
          have HO2 : Hid (Calls Tryz.prog 66 #[.slice av N cv, .func (.func 67) #[] #[]] w2.drew fun e w' => ∃ (L : List Ar) (v' : Value), e = .returned v' ∧ AreasFrom w.heap.size w' v' L ∧ L.length ≤ N ∧ SrtR L al ∧ Kp w2 w' Nul) := (HO.out hb2 w2.drew (HKw.out _ HK2.out.drew)).mono fun e w' ⟨L, v', h1, h2, h3, h4, h5⟩ => ⟨L, v', h1, by
            obtain ⟨a, c', f0, f1, f2, f3⟩ := h2
            refine ⟨a, c', f0, f1, f2, ?_⟩
            rcases f3 with f3 | ⟨b, e1, e2, e3⟩
            · exact .inl f3
            · exact .inr ⟨b, e1, Nat.le_trans (HKw.out _ HK2.out.drew).size e2, e3⟩, h3, h4, ((Kp.refl w2 Nul).drew).trans h5⟩
          have HK5 : Hid (∀ w4 v L, Kp w2 w4 Nul → AreasFrom w.heap.size w4 v L → L.length ≤ N → SrtR L al → Calls Tryz.prog 40 #[.pointer (some ⟨l, 0, none⟩), .agg #[.int .i64 c, .int .i64 r], v] w4 fun e w' => e = .returned (.tuple #[]) ∧ (LinksIn w' F l (updU us (c, r) L) (cntU us (c, r) n) ∧ Kp w w' F ∧ (∀ i cs, Blk w i cs 29 → Blk w' i cs 29)) ∧ (w'.cell? ⟨w.heap.size, 0, none⟩ = some (.int .i64 c) ∧ w'.cell? ⟨w.heap.size, 1, none⟩ = some (.int .i64 r))) := fun w4 v L k hf hlen hmem =>
            (HKeep.out (HVC.out (by simp)) hb2 (by simp) w4 v L ((HKw.out _ HK2.out).trans k) hf hlen hmem).mono fun e w' ⟨h1, h2, h3, h4⟩ => ⟨h1, ⟨h2, h3, fun i cs hi => h4 i cs (hi.kp ((HKw.out _ HK2.out).trans k) (fun x => x))⟩, by
              have := h4 _ _ ((HAt.out w2 HK2.out).kp k (fun x => x))
              exact ⟨this.cell rfl, this.cell rfl⟩⟩
          clear HKeep HO HS HAt HL
          go_region_held3 (fun w' => w'.cell? ⟨w.heap.size, 0, none⟩ = some (.int .i64 c) ∧ w'.cell? ⟨w.heap.size, 1, none⟩ = some (.int .i64 r))
            (first | (exact KS.out _ hk4) | (exact hs5) | (exact KS.out _ ((Kp.refl _ _).drew)) | (exact KS.out _ (Kp.refl _ _)))
            (first
            | (go_at_call 66; refine HO2.out.mono ?_; rintro e w4 ⟨L, v4, rfl, hf, hlen, hmem, hk4⟩)
            | (go_at_call 40; refine (HK5.out _ _ _ hk4 hf hlen hmem).mono ?_; rintro e w5 ⟨rfl, hl5, hs5⟩))
          all_goals
            have HMEM : Hid (SrtR L al) := hmem
            have HL5 : Hid (LinksIn w5 F l (updU us (c, r) L) (cntU us (c, r) n) ∧ Kp w w5 F ∧ (∀ i cs, Blk w i cs 29 → Blk w5 i cs 29)) := hl5
            clear hmem hl5 hs5 hk4 hf hlen
            go_wp2_with fail
            go_ret
            exact ⟨_, _, _, rfl, .inr ⟨HVV.out, by rw [HN.out]; exact hb2, HA.out, .inl (by omega), rfl, L, HMEM.out, rfl, rfl⟩, HL5.out⟩
end Go.Proofs.YtdlieecpckpemaaGreatDoor
namespace Go.Proofs.YtdlieecpckpemaaGreatDoor
open Go.RowKit Go.Sort Go.Lib Go.Maps
set_option maxHeartbeats 2000000 in
theorem before18_at (a b : Int × Int) (w : World) : Calls Tryz.prog 78 #[.agg #[.int .i64 a.1, .int .i64 a.2], .agg #[.int .i64 b.1, .int .i64 b.2]] w fun e w' => e = .returned (.bool (ltOf cfA a b)) ∧ Kp w w' Nul := by
  have h := cfA_lt a b
  generalize ltOf cfA a b = B at *
  obtain ⟨a1, a2⟩ := a
  obtain ⟨b1, b2⟩ := b
  dsimp only at *
  go_enter Tryz.func78, Tryz.ntmps78
  by_cases h1 : a2 < b2
  · have hB : B = true := h.2 (.inl h1)
    subst hB
    go_wp2_with fail
    go_ret
    exact ⟨rfl, ((Kp.refl w Nul).alloc _).alloc _⟩
  · by_cases h2 : a2 = b2
    · by_cases h3 : a1 < b1
      · have hB : B = true := h.2 (.inr ⟨h2, h3⟩)
        subst hB
        clear h
        go_wp2_with fail
        go_ret
        exact ⟨rfl, ((Kp.refl w Nul).alloc _).alloc _⟩
      · have hB : B = false := by
          cases B with
          | false => rfl
          | true => rcases h.1 rfl with q | ⟨_, q⟩ <;> omega
        subst hB
        clear h
        go_wp2_with fail
        go_ret
        exact ⟨rfl, ((Kp.refl w Nul).alloc _).alloc _⟩
    · have hB : B = false := by
        cases B with
        | false => rfl
        | true => rcases h.1 rfl with q | ⟨q, _⟩ <;> omega
      subst hB
      clear h
      go_wp2_with fail
      go_ret
      exact ⟨rfl, ((Kp.refl w Nul).alloc _).alloc _⟩
set_option maxHeartbeats 4000000 in
theorem validArea18_at (a : Ar) (w : World) : Calls Tryz.prog 68 #[.agg #[.int .i64 a.c1, .int .i64 a.r1, .int .i64 a.c2, .int .i64 a.r2]] w fun e w' => e = .returned (.bool (vR a)) ∧ Kp w w' Nul := by
  obtain ⟨c1, r1, c2, r2⟩ := a
  dsimp only
  have h : vR ⟨c1, r1, c2, r2⟩ = (vC c1 r1 && vC c2 r2 && decide (c1 ≤ c2) && decide (r1 ≤ r2)) := rfl
  rw [h]
  clear h
  obtain ⟨w1, hw1⟩ : ∃ w1, w.alloc (.cells #[.int .i64 c1, .int .i64 r1, .int .i64 c2, .int .i64 r2] 52) = w1 := ⟨_, rfl⟩
  have HW1 : Hid (w.alloc (.cells #[.int .i64 c1, .int .i64 r1, .int .i64 c2, .int .i64 r2] 52) = w1) := hw1
  have k1 : Kp w w1 Nul := by rw [← hw1]; exact (Kp.refl w Nul).alloc _
  have HK1 : Hid (Kp w w1 Nul) := k1
  have b1 : Blk w1 w.heap.size [.int .i64 c1, .int .i64 r1, .int .i64 c2, .int .i64 r2] 52 := by rw [← hw1]; exact Blk.new w _ _
  have KS : Hid (∀ wq, Kp w1 wq Nul → wq.cell? ⟨w.heap.size, 0, none⟩ = some (.int .i64 c1) ∧ wq.cell? ⟨w.heap.size, 1, none⟩ = some (.int .i64 r1) ∧ wq.cell? ⟨w.heap.size, 2, none⟩ = some (.int .i64 c2) ∧ wq.cell? ⟨w.heap.size, 3, none⟩ = some (.int .i64 r2)) := fun wq k => by
    have := b1.kp k (fun x => x)
    exact ⟨this.cell rfl, this.cell rfl, this.cell rfl, this.cell rfl⟩
  have HV1 : Hid (∀ wq, Calls Tryz.prog 17 #[.agg #[.int .i64 c1, .int .i64 r1]] wq fun e w' => e = .returned (.bool (vC c1 r1)) ∧ Kp wq w' Nul) := fun wq => valid18_at c1 r1 wq
  have HV2 : Hid (∀ wq, Calls Tryz.prog 17 #[.agg #[.int .i64 c2, .int .i64 r2]] wq fun e w' => e = .returned (.bool (vC c2 r2)) ∧ Kp wq w' Nul) := fun wq => valid18_at c2 r2 wq
  generalize vC c1 r1 = V1 at *
  generalize vC c2 r2 = V2 at *
  obtain ⟨q1, q2, q3, q4⟩ := KS.out w1 (Kp.refl _ _)
  clear hw1 k1 b1
  go_enter Tryz.func68, Tryz.ntmps68
  go_upto_region 1 with fail
  rw [HW1.out]
  go_wp2_with fail
  refine (HV1.out _).mono ?_
  rintro e w2 ⟨rfl, hk2⟩
  obtain ⟨d1, d2, d3, d4⟩ := KS.out w2 hk2
  have HK2 : Hid (Kp w1 w2 Nul) := hk2
  clear hk2 q1 q2 q3 q4 HV1
  go_wp2_with fail
  refine (HV2.out _).mono ?_
  rintro e w3 ⟨rfl, hk3⟩
  obtain ⟨q1, q2, q3, q4⟩ := KS.out w3 (HK2.out.trans hk3)
  have HK3 : Hid (Kp w w3 Nul) := HK1.out.trans (HK2.out.trans hk3)
  clear hk3 d1 d2 d3 d4 HV2
  cases V1 with
  | false =>
    go_wp2_with fail
    go_ret
    exact ⟨by simp, HK3.out⟩
  | true =>
    cases V2 with
    | false =>
      go_wp2_with fail
      go_ret
      exact ⟨by simp, HK3.out⟩
    | true =>
      by_cases h3 : c1 ≤ c2
      · by_cases h4 : r1 ≤ r2
        all_goals
          go_wp2_with fail
          go_ret
          exact ⟨by simp [*] <;> omega, HK3.out⟩
      · go_wp2_with fail
        go_ret
        exact ⟨by simp [*] <;> omega, HK3.out⟩
end Go.Proofs.YtdlieecpckpemaaGreatDoor
