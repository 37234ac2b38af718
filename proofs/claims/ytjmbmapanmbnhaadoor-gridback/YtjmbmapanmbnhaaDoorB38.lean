/- unlike: the walk. Rows of puts. No function of the program here. Get: what it tells lies in memory of its own. -/
import Derived.Test.YtjmbmapanmbnhaaDoorB37
import Derived.Test.YtjmbmapanmbnhaaDoorB33
import Derived.Test.YtjmbmapanmbnhaaDoorB24
import Derived.Test.YtjmbmapanmbnhaaDoorB35
namespace Go.Proofs.YtjmbmapanmbnhaaDoor
open Go.RowKit Go.Maps Go.Sort Go.Lib

/-- What a look into a grid tells, as a content. -/
theorem look_ct {w : World} {g : Nat} {L : List Cc} (h : GI 0 w g L) (gL : ∀ x ∈ L, Gd x.2) {c s : Int} (hc : I64 c) (hs : I64 s) {mv : Option Nat} (hb : Blk w g [.map mv] 77) :
    ∃ a sa b, Lk w g c s mv (a.val sa) b ∧ NdIn w (fun b => 0 ≤ b) sa a.t ∧ a.v.x < 18446744073709551616 ∧ a.t.ok ∧ a.t.size ≤ 1048576 ∧ cpC a = a ∧ ((b = true ∧ ((c, s), a) ∈ L) ∨ (b = false ∧ a = ct0 ∧ sa = .slice none 0 0 ∧ ∀ a', ((c, s), a') ∉ L)) := by
  obtain ⟨mv', v, b, q1, q2⟩ := lk_of h hc hs
  have e : mv' = mv := by
    have q := q1.cell.symm.trans hb
    simpa using q
  subst e
  rcases q2 with ⟨rfl, ct, sl, h1, rfl, h3⟩ | ⟨rfl, rfl, h2⟩
  · have hgd := gL _ h1
    exact ⟨ct, sl, true, q1, h3, hgd.x, hgd.ok, hgd.size, hgd.cp, .inl ⟨rfl, h1⟩⟩
  · refine ⟨ct0, .slice none 0 0, false, q1, zNd_in w _, by decide, zNd_ok, by show zNd.size ≤ _; rw [zsize]; decide, ?_, .inr ⟨rfl, rfl, rfl, h2⟩⟩
    unfold cpC ct0
    simp only [cpy_zNd]
    rfl
theorem csame_zero {b : Ct} (hb : b.k ≠ 0) : csame ct0 b = false := by
  have : (ct0.k == b.k) = false := by
    have : (0 : Int) ≠ b.k := fun e => hb e.symm
    simpa [ct0] using this
  unfold csame
  rw [this]; rfl
set_option maxRecDepth 20000 in
set_option maxHeartbeats 16000000 in
theorem unlike_at (g o : Nat) (L M : List Cc) (w : World) (hg : GI 0 w g L) (ho : GI 0 w o M) (gL : ∀ x ∈ L, Gd x.2) (gM : ∀ x ∈ M, Gd x.2) (lL : L.length ≤ 4096) (lM : M.length ≤ 4096) :
    Calls Tryd.prog 55 #[.pointer (some ⟨g, 0, none⟩), .pointer (some ⟨o, 0, none⟩)] w fun e w' => ∃ U v', e = .returned v' ∧ CellsFrom w.heap.size w' v' U ∧ Strict U ∧ (∀ x, x ∈ U ↔ Un L M x) ∧ Kp w w' Nul := by
  obtain ⟨mvg, bg⟩ := hg.blk
  obtain ⟨mvo, bo⟩ := ho.blk
  have co : w.cell? ⟨o, 0, none⟩ = some (.map mvo) := bo.cell rfl
  obtain ⟨i0, hi, hz0, hz1, hz2⟩ := infoAddr
  have HG : Hid (GI 0 w g L) := hg
  have HO : Hid (GI 0 w o M) := ho
  have HBg : Hid (Blk w g [.map mvg] 77) := bg
  have HBo : Hid (Blk w o [.map mvo] 77) := bo
  have HGL : Hid (∀ x ∈ L, Gd x.2) := gL
  have HGM : Hid (∀ x ∈ M, Gd x.2) := gM
  have HLL : Hid (L.length ≤ 4096) := lL
  have HLM : Hid (M.length ≤ 4096) := lM
  have HRM : Hid (∀ x ∈ M, I64 x.1.1 ∧ I64 x.1.2) := by
    obtain ⟨_, ⟨_, rfl⟩ | ⟨m, D, _, _, _, _, hm⟩⟩ := ho
    · intro x hx; simp at hx
    · exact hm.rng
  have HRL : Hid (∀ x ∈ L, I64 x.1.1 ∧ I64 x.1.2) := by
    obtain ⟨_, ⟨_, rfl⟩ | ⟨m, D, _, _, _, _, hm⟩⟩ := hg
    · intro x hx; simp at hx
    · exact hm.rng
  clear hg ho bg bo gL gM lL lM
  go_enter Tryd.func55, Tryd.ntmps55
  go_wp2_with (first
    | (at_range; refine wpList_range_grid _ rfl _ rfl o M mvo w.heap.size rfl HO.out.low HBo.out ?_; intro w0 hrg0 hg0 hs0)
    | fail)
  have HStart : Hid (UnR w w.heap.size mvo w.heap.size M.length (fun y => UnP L y.1 y.2) (fun _ => False) M (.slice none 0 0) w0 M []) := by
    refine ⟨hrg0, ⟨by simp [flatK], .inl ⟨rfl, rfl⟩⟩, by simp, List.nodup_nil, fun x => ⟨fun h => by simp at h, fun h => ?_⟩, fun x h => h, Kp.of_grown hg0 (fun i e => by cases e)⟩
    rcases h with h | ⟨b, h1, h2, _⟩
    · exact h.elim
    · exact absurd h1 h2
  clear hrg0 hg0 hs0 co
  go_frame
  go_loopw [5] (fun v wr => ∃ rem acc, UnR w w.heap.size mvo w.heap.size M.length (fun y => UnP L y.1 y.2) (fun _ => False) M v wr rem acc) (fun _ wr => glen wr mvo w.heap.size)
  case atStart => exact ⟨M, [], HStart.out⟩
  case round =>
    clear HStart
    obtain ⟨rem, acc, hun⟩ := hrel
    have HUN : Hid (UnR w w.heap.size mvo w.heap.size M.length (fun y => UnP L y.1 y.2) (fun _ => False) M u5 wr rem acc) := hun
    have HRG : Hid (GRg wr w.heap.size mvo w.heap.size rem) := hun.rg
    clear hun
    go_wp2_with (first
      | (at_next; refine wpList_next_grid _ rfl _ rfl w.heap.size mvo w.heap.size rem rfl HRG.out (Nat.le_refl _) ?_ ?_)
      | fail)
    · intro hr0
      have hkp := HUN.out.kp
      have cg : wr.cell? ⟨g, 0, none⟩ = some (.map mvg) := (HBg.out.kp hkp (fun x => x)).cell rfl
      have HLow : Hid (GridIn wr (fun b => b < w.heap.size) g L) := HG.out.low.kp hkp
      have HBg2 : Hid (Blk wr g [.map mvg] 77) := HBg.out.kp hkp (fun x => x)
      have HKW : Hid (Kp w wr Nul) := hkp
      have HROW : Hid (wr.ownsRow w.heap.size 26 2 u5 acc.length (flatK encA 2 acc.toArray).toList) := HUN.out.row
      have HM1 : Hid (∀ x, x ∈ acc ↔ ∃ b, (x, b) ∈ M ∧ UnP L x b) := fun x => by
        rw [HUN.out.mem, hr0]
        simp
      have HND : Hid acc.Nodup := HUN.out.nodup
      have HLE : Hid (acc.length ≤ M.length) := by show _ ≤ _; have := HUN.out.len; omega
      clear hr0 hkp HUN HRG
      go_wp2_with (first
        | (at_range; refine wpList_range_grid _ rfl _ rfl g L mvg w.heap.size rfl HLow.out HBg2.out ?_; intro w0 hrg0 hg0 hs0)
        | fail)
      have HStart : Hid (UnR w w.heap.size mvg wr.heap.size (M.length + L.length) (fun y => ∀ b, (y.1, b) ∉ M) (fun x => ∃ b, (x, b) ∈ M ∧ UnP L x b) L u5 w0 L acc) := by
        have k0 : Kp wr w0 Nul := Kp.of_grown hg0 (fun i e => by cases e)
        refine ⟨hrg0, row_kp HROW.out k0 (fun i _ e => e), by have := HLE.out; omega, HND.out, fun x => ?_, fun x h => h, HKW.out.trans k0⟩
        rw [HM1.out]
        constructor
        · exact fun h => .inl h
        · rintro (h | ⟨b, h1, h2, _⟩)
          · exact h
          · exact absurd h1 h2
      have HAr : Hid (w.heap.size ≤ wr.heap.size) := HKW.out.size
      clear hrg0 hg0 hs0 cg HROW HM1 HND HLE HLow HBg2 HKW
      go_frame
      obtain ⟨r2, hr2⟩ : ∃ r2, wr.heap.size = r2 := ⟨_, rfl⟩
      rw [hr2] at HStart HAr
      rw [hr2]
      clear hr2
      go_loopw [5] (fun v wr => ∃ rem acc, UnR w w.heap.size mvg r2 (M.length + L.length) (fun y => ∀ b, (y.1, b) ∉ M) (fun x => ∃ b, (x, b) ∈ M ∧ UnP L x b) L v wr rem acc) (fun _ wr => glen wr mvg r2)
      case atStart => exact ⟨L, acc, HStart.out⟩
      case round =>
        clear HStart
        obtain ⟨rem2, acc2, hun⟩ := hrel
        have HUN : Hid (UnR w w.heap.size mvg r2 (M.length + L.length) (fun y => ∀ b, (y.1, b) ∉ M) (fun x => ∃ b, (x, b) ∈ M ∧ UnP L x b) L u5 wr rem2 acc2) := hun
        have HRG : Hid (GRg wr w.heap.size mvg r2 rem2) := hun.rg
        have HROW : Hid (wr.ownsRow w.heap.size 26 2 u5 acc2.length (flatK encA 2 acc2.toArray).toList) := hun.row
        clear hun
        go_wp2_with (first
          | (at_next; refine wpList_next_grid _ rfl _ rfl w.heap.size mvg r2 rem2 rfl HRG.out HAr.out ?_ ?_)
          | fail)
        · intro hr0
          have HSort : Hid (Calls Tryd.prog 78 #[u5, .func (.func 79) #[] #[]] wr fun e w' => e = .returned (.tuple #[]) ∧ CellsFrom w.heap.size w' u5 (acc2.mergeSort fun x y => !(ltOf cfA) y x) ∧ Kp w w' Nul) := by
            have hacc : acc2.length ≤ 1048576 := by have := HUN.out.len; have := HLL.out; have := HLM.out; omega
            refine (sort_cells acc2 u5 w.heap.size wr hacc (own1_row rfl HROW.out)).mono ?_
            rintro e w' ⟨rfl, h1, h2⟩
            exact ⟨rfl, own1_from h1, HUN.out.kp.trans' h2 (fun i hi e => absurd e (by omega))⟩
          have HM2 : Hid (∀ x, x ∈ (acc2.mergeSort fun x y => !(ltOf cfA) y x) ↔ Un L M x) := fun x => by
            rw [List.mem_mergeSort, HUN.out.mem, hr0]
            unfold Un
            constructor
            · rintro (h | ⟨a, h1, _, h2⟩)
              · exact .inl h
              · exact .inr ⟨⟨a, h1⟩, h2⟩
            · rintro (h | ⟨⟨a, h1⟩, h2⟩)
              · exact .inl h
              · exact .inr ⟨a, h1, by simp, h2⟩
          have HST : Hid (Strict (acc2.mergeSort fun x y => !(ltOf cfA) y x)) := merge_strict HUN.out.nodup
          clear hr0 HUN HRG HROW
          go_wp2_with fail
          refine HSort.out.mono ?_
          rintro e w' ⟨rfl, hcf, hk⟩
          go_wp2_with fail
          go_ret
          exact ⟨_, _, rfl, hcf, HST.out, HM2.out, hk⟩
        · intro c s ct sl w1 hmem hin hrg1 hlt1 hgr1 hsz1 hen
          have hne := row_ne HRG.out HROW.out
          have k1 : Kp wr w1 (fun i => i = r2) := Kp.of_grown hgr1 (fun i e => by cases e; rfl)
          have HK1 : Hid (Kp w w1 Nul) := HUN.out.kp.trans' k1 (fun i hi e => by have : i = r2 := e; have := HAr.out; omega)
          have HRow1 : Hid (w1.ownsRow w.heap.size 26 2 u5 acc2.length (flatK encA 2 acc2.toArray).toList) := HROW.out.kept hgr1 (.inr hne)
          have hi2 := HRL.out _ (HUN.out.sub _ hmem)
          obtain ⟨bb, hB, hhas⟩ := has_gi HO.out hi2.1 hi2.2
          have HH : Hid (∀ wq, Kp w wq Nul → Calls Tryd.prog 52 #[.pointer (some ⟨o, 0, none⟩), .agg #[.int .i64 c, .int .i64 s]] wq fun e w' => e = .returned (.bool bb) ∧ Kp wq w' Nul) := hhas
          have HBB : Hid ((bb = true ∧ ∃ ct, ((c, s), ct) ∈ M) ∨ (bb = false ∧ ∀ ct, ((c, s), ct) ∉ M)) := hB
          have HG1 : Hid (GRg w1 w.heap.size mvg r2 (rem2.filter (fun x => decide (x.1 ≠ (c, s))))) := by show GRg _ _ _ _ _; simpa using hrg1
          have HLT : Hid (glen w1 mvg r2 < glen wr mvg r2) := hlt1
          have HMEM : Hid (((c, s), ct) ∈ rem2) := hmem
          have HA3 : Hid (∀ wq, Kp (w1.alloc (.cells #[.int .i64 c, .int .i64 s] 26)) wq Nul → wq.cell? ⟨w1.heap.size, 0, none⟩ = some (.int .i64 c) ∧ wq.cell? ⟨w1.heap.size, 1, none⟩ = some (.int .i64 s)) := fun wq k => ⟨((Blk.new w1 [.int .i64 c, .int .i64 s] 26).kp k (fun x => x)).cell rfl, ((Blk.new w1 [.int .i64 c, .int .i64 s] 26).kp k (fun x => x)).cell rfl⟩
          clear hne k1 hi2 hB hhas hrg1 hlt1 hgr1 hsz1 hmem hin
          go_wp2_with fail
          refine (HH.out _ (HK1.out.alloc _)).mono ?_
          rintro e w3 ⟨rfl, hk3⟩
          obtain ⟨q0, q1⟩ := HA3.out w3 hk3
          have hk13 : Kp w1 w3 Nul := ((Kp.refl w1 Nul).alloc _).trans hk3
          have HK3 : Hid (Kp w w3 Nul) := HK1.out.trans hk13
          have hr1 := HG1.out.lt
          have hAle : w.heap.size ≤ w1.heap.size := HK1.out.size
          have HG3 : Hid (GRg w3 w.heap.size mvg r2 (rem2.filter (fun x => decide (x.1 ≠ (c, s)))) ∧ glen w3 mvg r2 < glen wr mvg r2) := by
            have b3 : Below w.heap.size w1 w3 := hk13.below.mono hAle
            have r3 : w3.heap[r2]? = w1.heap[r2]? := hk13.block _ hr1 (fun x => x)
            exact ⟨HG1.out.keep b3 r3, by rw [HG1.out.glen b3 r3]; exact HLT.out⟩
          have HRow3 : Hid (w3.ownsRow w.heap.size 26 2 u5 acc2.length (flatK encA 2 acc2.toArray).toList) := row_kp HRow1.out hk13 (fun i _ e => e)
          clear hk3 hk13 hr1 hAle HA3 HH HG1 HLT HRow1
          cases bb with
          | true =>
            have HU3 : Hid (UnR w w.heap.size mvg r2 (M.length + L.length) (fun y => ∀ b, (y.1, b) ∉ M) (fun x => ∃ b, (x, b) ∈ M ∧ UnP L x b) L u5 w3 (rem2.filter (fun x => decide (x.1 ≠ (c, s)))) acc2) := by
              refine HUN.out.skip HMEM.out ?_ HG.out.once HG3.out.1 HRow3.out HK3.out
              rcases HBB.out with ⟨_, b, hb⟩ | ⟨e, _⟩
              · exact fun h => h b hb
              · cases e
            go_wp2_with fail
            go_roundw
            case rel => exact ⟨_, acc2, HU3.out⟩
            case measure => exact HG3.out.2
          | false =>
            have HB4 : Hid (Blk (w3.alloc (.cells #[.int .i64 c, .int .i64 s] 26)) w3.heap.size [.int .i64 c, .int .i64 s] 26) := Blk.new w3 [.int .i64 c, .int .i64 s] _
            have HRow4 : Hid ((w3.alloc (.cells #[.int .i64 c, .int .i64 s] 26)).ownsRow w.heap.size 26 2 u5 acc2.length (flatK encA 2 acc2.toArray).toList) := HRow3.out.alloc _
            have HLEN : Hid (acc2.length ≤ 8192) := by show _ ≤ _; have := HUN.out.len; have := HLL.out; have := HLM.out; omega
            go_wp2_with (at_builtin; refine wpList_append_own _ rfl _ _ 81 rfl w.heap.size 26 i0 _ 2 16 Tryd.underlying81 hi hz0 hz1 hz2 rfl (by decide) _ _ _ rfl HRow4.out ⟨w3.heap.size, 0, none⟩ 1 1 (encA (c, s)) rfl ?qc1 ?qc2 ?qc3 ?qc4 ?qc5 ?qc6 ?_)
            case qc1 => rfl
            case qc2 =>
              intro j u hj
              rw [Addr.add_lit, Nat.zero_add]
              exact HB4.out.at'.trans hj
            case qc3 => exact encA_one _
            case qc4 => have := HLEN.out; unfold maxLen; omega
            case qc5 => have := HLEN.out; omega
            case qc6 => rw [World.size_alloc]; have := HK3.out.size; omega
            intro v5 w5 hrow5 hg5 hnil5
            have hob := own_block HRow4.out
            have hr3 := HG3.out.1.lt
            have hne3 : u5.ownBlock ≠ some r2 := row_ne HG3.out.1 HRow3.out
            have k45 := Kp.of_grown (S := fun i => u5.ownBlock = some i) hg5 (fun i e => e)
            have HK5 : Hid (Kp w w5 Nul) := (HK3.out.alloc _).trans' k45 (fun i hi e => by have := hob i e; omega)
            have b5 : Below w.heap.size w3 w5 := ⟨k45.os, k45.tape, k45.output, Nat.le_trans (by rw [World.size_alloc]; omega) k45.size, fun i hi => by
              have h3s := HK3.out.size
              rw [k45.block i (by rw [World.size_alloc]; omega) (fun e => by have := hob i e; omega), Below.heap_alloc _ _ _ (by omega)]⟩
            have r5 : w5.heap[r2]? = w3.heap[r2]? := by rw [k45.block r2 (by rw [World.size_alloc]; omega) hne3, Below.heap_alloc _ _ _ hr3]
            have HU5 : Hid (UnR w w.heap.size mvg r2 (M.length + L.length) (fun y => ∀ b, (y.1, b) ∉ M) (fun x => ∃ b, (x, b) ∈ M ∧ UnP L x b) L v5 w5 (rem2.filter (fun x => decide (x.1 ≠ (c, s)))) (acc2 ++ [(c, s)])) := by
              have hno : ∀ b, ((c, s), b) ∉ M := by
                rcases HBB.out with ⟨e, _⟩ | ⟨_, h⟩
                · cases e
                · exact h
              exact HUN.out.take HMEM.out hno HG.out.once (fun ⟨b, hb, _⟩ => hno b hb) (HG3.out.1.keep b5 r5) hrow5 HK5.out
            have HME : Hid (glen w5 mvg r2 < glen wr mvg r2) := by show _ < _; rw [HG3.out.1.glen b5 r5]; exact HG3.out.2
            clear hrow5 hg5 hnil5 k45 hob hr3 hne3 b5 r5
            go_wp2_with fail
            go_roundw
            case rel => exact ⟨_, _, HU5.out⟩
            case measure => exact HME.out
    · intro c s ct sl w1 hmem hin hrg1 hlt1 hgr1 hsz1 hen
      have HROW : Hid (wr.ownsRow w.heap.size 26 2 u5 acc.length (flatK encA 2 acc.toArray).toList) := HUN.out.row
      have hne := row_ne HRG.out HROW.out
      have k1 : Kp wr w1 (fun i => i = w.heap.size) := Kp.of_grown hgr1 (fun i e => by cases e; rfl)
      have HK1 : Hid (Kp w w1 Nul) := HUN.out.kp.trans' k1 (fun i hi e => by have : i = w.heap.size := e; omega)
      have HRow1 : Hid (w1.ownsRow w.heap.size 26 2 u5 acc.length (flatK encA 2 acc.toArray).toList) := HROW.out.kept hgr1 (.inr hne)
      have hmM := HUN.out.sub _ hmem
      have hi2 := HRM.out _ hmM
      obtain ⟨a, sa, bb, hlk, hinA, hax, hao, _, _, hcase⟩ := look_ct HG.out HGL.out hi2.1 hi2.2 HBg.out
      have hgd := HGM.out _ hmM
      obtain ⟨z, hz⟩ : ∃ z, csame a ct = z := ⟨_, rfl⟩
      have HUP : Hid (UnP L (c, s) ct ↔ z = false) := by
        unfold UnP
        rcases hcase with ⟨_, hL⟩ | ⟨_, rfl, _, hno⟩
        · constructor
          · intro h
            cases z with
            | false => rfl
            | true => exact absurd ⟨a, hL, hz⟩ h
          · rintro e ⟨a', h1, h2⟩
            rw [once_eq HG.out.once h1 hL, hz, e] at h2
            cases h2
        · constructor
          · intro _
            rw [← hz]; exact csame_zero hgd.k
          · rintro _ ⟨a', h1, _⟩
            exact hno a' h1
      obtain ⟨X3, X4, hX3, hX4, ht2, ht3, hv⟩ := vars2 w1 c s ct sl
      have HX3 : Hid (((w1.alloc (.cells #[.int .i64 0, .int .i64 0] 26)).alloc (.cells zC21.toArray 33)).setCells w1.heap.size 0 [.int .i64 c, .int .i64 s] = X3) := hX3
      have HX4 : Hid (X3.setCells (w1.heap.size + 1) 0 (ct.cells sl) = X4) := hX4
      have T2 : Hid (((w1.alloc (.cells #[.int .i64 0, .int .i64 0] 26)).alloc (.cells zC21.toArray 33)).there w1.heap.size 0 2) := ht2
      have T3 : Hid (X3.there (w1.heap.size + 1) 0 21) := ht3
      have OS : Hid (sl.oneCell' = true) := hin.one
      have k4 : Kp w X4 Nul := HK1.out.trans hv.kp
      have HQ4 : Hid (Kp w1 X4 Nul) := hv.kp
      have HS : Hid (∀ wq, Kp X4 wq Nul → wq.cell? ⟨g, 0, none⟩ = some (.map mvg) ∧ wq.cell? ⟨w1.heap.size, 0, none⟩ = some (.int .i64 c) ∧ wq.cell? ⟨w1.heap.size, 1, none⟩ = some (.int .i64 s) ∧ (Instr.lookup 75 (.map mvg) (.agg #[.int .i64 c, .int .i64 s]) false).run Tryd.prog wq = .ok (a.val sa) wq ∧ wq.heap[w1.heap.size + 1]? = some (.cells (ct.cells sl).toArray 33 (0, 0))) := fun wq k => ⟨(HBg.out.kp (k4.trans k) (fun x => x)).cell rfl, (hv.b0.kp k (fun x => x)).cell rfl, (hv.b0.kp k (fun x => x)).cell rfl, (lk_kp hlk (k4.trans k)).one wq (fun _ _ => rfl), hv.b1.kp k (fun x => x)⟩
      have HSame : Hid (∀ wq, Kp X4 wq Nul → Calls Tryd.prog 11 #[a.val sa, ct.val sl] wq fun e w' => e = .returned (.bool z) ∧ Kp X4 w' Nul) := fun wq k => (gSame_at a ct sa sl (fun b => 0 ≤ b) (fun b => b < w.heap.size) wq hax hgd.x hao hgd.ok (hinA.kp (k4.trans k) (fun _ _ x => x)) (hin.kp (hv.kp.trans k) (fun _ _ x => x))).mono fun e w' ⟨q1, q2⟩ => ⟨by rw [q1, hz], k.trans q2⟩
      have HG1 : Hid (GRg w1 w.heap.size mvo w.heap.size (rem.filter (fun x => decide (x.1 ≠ (c, s))))) := by show GRg _ _ _ _ _; simpa using hrg1
      have HLT : Hid (glen w1 mvo w.heap.size < glen wr mvo w.heap.size) := hlt1
      have HMEM : Hid (((c, s), ct) ∈ rem) := hmem
      clear hne k1 hi2 hmM hrg1 hlt1 hgr1 hsz1 hmem hin hlk hinA hax hao hcase hgd hz hX3 hX4 ht2 ht3 hv k4
      go_wp2_with (first
        | (refine wpList_store_to rfl 26 (.tmp 6) (.tmp 17) rfl w1.heap.size 0 _ rfl rfl T2.out infoAddr2 (by simp [Value.oneCell']) X3 HX3.out ?_)
        | (refine wpList_store_to rfl 33 (.tmp 7) (.tmp 18) rfl (w1.heap.size + 1) 0 _ rfl rfl T3.out infoContent (ct.one OS.out) X4 HX4.out ?_))
      refine wp_region_noPanic ?_
      refine wp_region_nul (W := X4) (Kp.refl _ _) (by kernel_rfl) (by kernel_rfl) ?_
      refine quiet_run (some 19) rfl ?_ (by rfl) ?_ ?_
      rotate_left
      · intro w' hk; obtain ⟨s0, s1, s2, s3, _⟩ := HS.out _ hk; clear hk; go_simp; try with_reducible rfl
      simp only [Act.put, List.setIfInBounds_toArray, List.set_cons_zero, List.set_cons_succ]
      refine quiet_run (some 20) rfl ?_ (by rfl) ?_ ?_
      rotate_left
      · intro w' hk; obtain ⟨s0, s1, s2, s3, _⟩ := HS.out _ hk; clear hk; go_simp; try with_reducible rfl
      simp only [Act.put, List.setIfInBounds_toArray, List.set_cons_zero, List.set_cons_succ]
      refine quiet_run (some 21) rfl ?_ (by rfl) ?_ ?_
      rotate_left
      · intro w' hk; obtain ⟨s0, s1, s2, s3, _⟩ := HS.out _ hk; clear hk; go_simp; try with_reducible rfl
      simp only [Act.put, List.setIfInBounds_toArray, List.set_cons_zero, List.set_cons_succ]
      refine quiet_run (some 22) rfl ?_ (by rfl) ?_ ?_
      rotate_left
      · intro w' hk; obtain ⟨s0, s1, s2, s3, _⟩ := HS.out _ hk; clear hk; go_simp; try with_reducible rfl
      simp only [Act.put, List.setIfInBounds_toArray, List.set_cons_zero, List.set_cons_succ]
      refine quiet_run (some 23) rfl ?_ (by rfl) ?_ ?_
      rotate_left
      · intro w' hk; obtain ⟨s0, s1, s2, s3, _⟩ := HS.out _ hk; clear hk; go_simp; try with_reducible rfl
      simp only [Act.put, List.setIfInBounds_toArray, List.set_cons_zero, List.set_cons_succ]
      refine quiet_run (some 24) rfl ?_ (by rfl) ?_ ?_
      rotate_left
      · intro w' hk; obtain ⟨s0, s1, s2, s3, _⟩ := HS.out _ hk; clear hk; go_simp; try with_reducible rfl
      simp only [Act.put, List.setIfInBounds_toArray, List.set_cons_zero, List.set_cons_succ]
      refine quiet_run (some 25) rfl (.agg (ct.cells sl).toArray) (by rfl) (fun w' hk => exec_load_content _ rfl rfl (HS.out w' hk).2.2.2.2 rfl) ?_
      simp only [Act.put, List.setIfInBounds_toArray, List.set_cons_zero, List.set_cons_succ]
      refine quiet_call (some 26) rfl 11 #[a.val sa, .agg (ct.cells sl).toArray] (.bool z) (by rfl) (fun w' => by go_simp) (fun w' hk => HSame.out w' hk) ?_
      simp only [Act.put, List.setIfInBounds_toArray, List.set_cons_zero, List.set_cons_succ]
      refine quiet_run (some 27) rfl (.bool !z) (by rfl) (fun w' hk => by go_simp) ?_
      simp only [Act.put, List.setIfInBounds_toArray, List.set_cons_zero, List.set_cons_succ]
      refine wpQuiet_nil ?_
      intro w3 hk3
      obtain ⟨_, q0, q1, _, _⟩ := HS.out w3 hk3
      have hk13 : Kp w1 w3 Nul := HQ4.out.trans hk3
      have HK3 : Hid (Kp w w3 Nul) := HK1.out.trans hk13
      have hr1 := HG1.out.lt
      have hAle : w.heap.size ≤ w1.heap.size := HK1.out.size
      have HG3 : Hid (GRg w3 w.heap.size mvo w.heap.size (rem.filter (fun x => decide (x.1 ≠ (c, s)))) ∧ glen w3 mvo w.heap.size < glen wr mvo w.heap.size) := by
        have b3 : Below w.heap.size w1 w3 := hk13.below.mono hAle
        have r3 : w3.heap[w.heap.size]? = w1.heap[w.heap.size]? := hk13.block _ hr1 (fun x => x)
        exact ⟨HG1.out.keep b3 r3, by rw [HG1.out.glen b3 r3]; exact HLT.out⟩
      have HRow3 : Hid (w3.ownsRow w.heap.size 26 2 u5 acc.length (flatK encA 2 acc.toArray).toList) := row_kp HRow1.out hk13 (fun i _ e => e)
      refine NoPanic.normal ?_
      clear hk3 hk13 hr1 hAle HS HSame HG1 HLT HRow1 HX3 HX4 T2 T3 OS HQ4
      cases z with
      | true =>
        have HU3 : Hid (UnR w w.heap.size mvo w.heap.size M.length (fun y => UnP L y.1 y.2) (fun _ => False) M u5 w3 (rem.filter (fun x => decide (x.1 ≠ (c, s)))) acc) :=
          HUN.out.skip HMEM.out (fun h => by have := HUP.out.1 h; cases this) HO.out.once HG3.out.1 HRow3.out HK3.out
        go_wp2_with fail
        go_roundw
        case rel => exact ⟨_, acc, HU3.out⟩
        case measure => exact HG3.out.2
      | false =>
        have HB4 : Hid (Blk (w3.alloc (.cells #[.int .i64 c, .int .i64 s] 26)) w3.heap.size [.int .i64 c, .int .i64 s] 26) := Blk.new w3 [.int .i64 c, .int .i64 s] _
        have HRow4 : Hid ((w3.alloc (.cells #[.int .i64 c, .int .i64 s] 26)).ownsRow w.heap.size 26 2 u5 acc.length (flatK encA 2 acc.toArray).toList) := HRow3.out.alloc _
        have HLEN : Hid (acc.length ≤ 8192) := by show _ ≤ _; have := HUN.out.len; have := HLM.out; omega
        go_wp2_with (at_builtin; refine wpList_append_own _ rfl _ _ 81 rfl w.heap.size 26 i0 _ 2 16 Tryd.underlying81 hi hz0 hz1 hz2 rfl (by decide) _ _ _ rfl HRow4.out ⟨w3.heap.size, 0, none⟩ 1 1 (encA (c, s)) rfl ?qc1 ?qc2 ?qc3 ?qc4 ?qc5 ?qc6 ?_)
        case qc1 => rfl
        case qc2 =>
          intro j u hj
          exact hj
        case qc3 => exact encA_one _
        case qc4 => have := HLEN.out; unfold maxLen; omega
        case qc5 => have := HLEN.out; omega
        case qc6 => have := HK3.out.size; omega
        intro v5 w5 hrow5 hg5 hnil5
        have hob := own_block HRow4.out
        have hr3 := HG3.out.1.lt
        have hne3 : u5.ownBlock ≠ some w.heap.size := row_ne HG3.out.1 HRow3.out
        have k45 := Kp.of_grown (S := fun i => u5.ownBlock = some i) hg5 (fun i e => e)
        have HK5 : Hid (Kp w w5 Nul) := (HK3.out.alloc _).trans' k45 (fun i hi e => by have := hob i e; omega)
        have b5 : Below w.heap.size w3 w5 := ⟨k45.os, k45.tape, k45.output, Nat.le_trans (by rw [World.size_alloc]; omega) k45.size, fun i hi => by
          have h3s := HK3.out.size
          rw [k45.block i (by rw [World.size_alloc]; omega) (fun e => by have := hob i e; omega), Below.heap_alloc _ _ _ (by omega)]⟩
        have r5 : w5.heap[w.heap.size]? = w3.heap[w.heap.size]? := by rw [k45.block w.heap.size (by rw [World.size_alloc]; omega) hne3, Below.heap_alloc _ _ _ hr3]
        have HU5 : Hid (UnR w w.heap.size mvo w.heap.size M.length (fun y => UnP L y.1 y.2) (fun _ => False) M v5 w5 (rem.filter (fun x => decide (x.1 ≠ (c, s)))) (acc ++ [(c, s)])) :=
          HUN.out.take HMEM.out (HUP.out.2 (by first | rfl | trivial)) HO.out.once (fun h => h) (HG3.out.1.keep b5 r5) hrow5 HK5.out
        have HME : Hid (glen w5 mvo w.heap.size < glen wr mvo w.heap.size) := by show _ < _; rw [HG3.out.1.glen b5 r5]; exact HG3.out.2
        clear hrow5 hg5 hnil5 k45 hob hr3 hne3 b5 r5
        go_wp2_with fail
        go_roundw
        case rel => exact ⟨_, _, HU5.out⟩
        case measure => exact HME.out
end Go.Proofs.YtjmbmapanmbnhaaDoor
namespace Go.Proofs.YtjmbmapanmbnhaaDoor
open Go.RowKit

/-- A put's twenty-three cells. -/
abbrev ptCells (x : Cc) (sl : Value) : List Value := .int .i64 x.1.1 :: .int .i64 x.1.2 :: x.2.cells sl
abbrev ptVal (x : Cc) (sl : Value) : Value := .agg (ptCells x sl).toArray
/-- Puts one behind the other. -/
def rowP : List (Cc × Value) → List Value
  | [] => []
  | y :: ys => ptCells y.1 y.2 ++ rowP ys
theorem pt_len (x : Cc) (sl : Value) : (ptCells x sl).length = 23 := rfl
theorem rowP_len : ∀ ys : List (Cc × Value), (rowP ys).length = ys.length * 23
  | [] => rfl
  | y :: ys => by rw [rowP, List.length_append, rowP_len ys, pt_len, List.length_cons]; omega
theorem rowP_append : ∀ (ys zs : List (Cc × Value)), rowP (ys ++ zs) = rowP ys ++ rowP zs
  | [], zs => rfl
  | y :: ys, zs => by rw [List.cons_append, rowP, rowP, rowP_append ys zs, List.append_assoc]
theorem rowP_snoc (ys : List (Cc × Value)) (y : Cc × Value) : rowP (ys ++ [y]) = rowP ys ++ ptCells y.1 y.2 := by
  rw [rowP_append, rowP, rowP, List.append_nil]
theorem rowP_get : ∀ (ys : List (Cc × Value)) (i : Nat) (y : Cc × Value), ys[i]? = some y → ∀ j v, (ptCells y.1 y.2)[j]? = some v → (rowP ys)[i * 23 + j]? = some v
  | [], i, y, h, _, _, _ => by simp at h
  | z :: ys, 0, y, h, j, v, hj => by
    have e : z = y := by simpa using h
    subst e
    have hl : j < 23 := by have := (List.getElem?_eq_some_iff.1 hj).1; rw [pt_len] at this; exact this
    rw [rowP, List.getElem?_append_left (by rw [pt_len]; omega), Nat.zero_mul, Nat.zero_add]
    exact hj
  | z :: ys, i + 1, y, h, j, v, hj => by
    rw [rowP, List.getElem?_append_right (by rw [pt_len]; omega), pt_len, show (i + 1) * 23 + j - 23 = i * 23 + j by omega]
    exact rowP_get ys i y (by simpa using h) j v hj
/-- The list v of puts, in a block of its own from B on; the trees lie in blocks of F. -/
structure Pts (w : World) (B : Nat) (F : Nat → Prop) (v : Value) (ys : List (Cc × Value)) : Prop where
  row : w.ownsRow B 50 23 v ys.length (rowP ys)
  tree : ∀ y ∈ ys, NdIn w F y.2 y.1.2.t
theorem Pts.nil (w : World) (B : Nat) (F : Nat → Prop) : Pts w B F (.slice none 0 0) [] := ⟨World.ownsRow_nil _ _ _ _, fun y h => by simp at h⟩
theorem Pts.slice {w : World} {B : Nat} {F : Nat → Prop} {v : Value} {ys : List (Cc × Value)} (h : Pts w B F v ys) : ∃ p c, v = .slice p ys.length c ∧ (0 < ys.length → ∃ b, p = some ⟨b, 0, none⟩ ∧ B ≤ b ∧ ∀ i y, ys[i]? = some y → w.rangeAt b (i * 23) (ptCells y.1 y.2)) := by
  rcases h.row.2 with ⟨rfl, e⟩ | ⟨g, c, cur, rfl, hB, _⟩
  · exact ⟨none, 0, by rw [e], fun h => by omega⟩
  · refine ⟨_, _, rfl, fun _ => ⟨g, rfl, hB, fun i y hy j u hj => ?_⟩⟩
    have := h.row.cells (g := g) rfl (i * 23 + j) u (rowP_get ys i y hy j u hj)
    rw [addr_at, Nat.zero_add] at this
    exact this
theorem Pts.kp {w w' : World} {B : Nat} {F : Nat → Prop} {v : Value} {ys : List (Cc × Value)} (h : Pts w B F v ys) (k : Kp w w' Nul) : Pts w' B F v ys :=
  ⟨ownsRow_below h.row k.below, fun y hy => (h.tree y hy).kp k (fun _ _ x => x)⟩
/-- A step on a grid leaves them. -/
theorem Pts.km {w w' : World} {B g : Nat} {F : Nat → Prop} {v : Value} {ys : List (Cc × Value)} (h : Pts w B F v ys) (k : Km g w w') {mv : Option Nat} (hg : Blk w g [.map mv] 77) : Pts w' B F v ys := by
  refine ⟨⟨h.row.1, ?_⟩, fun y hy => (h.tree y hy).km k hg⟩
  rcases h.row.2 with e | ⟨b, c, cur, e1, e2, e3, e4⟩
  · exact .inl e
  · have hne : b ≠ g := fun e => by
      subst e
      unfold Blk at hg
      rw [hg] at e3
      simp at e3
    have e3' : Blk w b cur.toList 50 := e3
    exact .inr ⟨b, c, cur, e1, e2, k.blk e3' hne, e4⟩
theorem Pts.mono {w : World} {B : Nat} {F F' : Nat → Prop} {v : Value} {ys : List (Cc × Value)} (h : Pts w B F v ys) (hF : ∀ b, F b → b < w.heap.size → F' b) : Pts w B F' v ys :=
  ⟨h.row, fun y hy => (h.tree y hy).mono (fun b hb hl => ⟨rfl, hF b hb hl⟩)⟩
theorem infoPut : (Tryd.prog.info? 50).map (·.size) = some 23 := by kernel_rfl
theorem infoPutI : ∃ i, Tryd.prog.info? 50 = some i ∧ i.zero = some (.agg (.int .i64 0 :: .int .i64 0 :: zC21).toArray) ∧ i.size = 23 ∧ i.bytes = 200 := by
  have h : (Tryd.prog.info? 50).map (fun i => (i.zero, i.size, i.bytes)) = some (some (.agg (.int .i64 0 :: .int .i64 0 :: zC21).toArray), 23, 200) := by kernel_rfl
  cases e : Tryd.prog.info? 50 with
  | none => rw [e] at h; cases h
  | some i =>
    rw [e] at h
    simp only [Option.map_some, Option.some.injEq, Prod.mk.injEq] at h
    exact ⟨i, rfl, h⟩
theorem pt_one (x : Cc) {sl : Value} (hs : sl.oneCell' = true) : ∀ u ∈ ptCells x sl, u.oneCell' = true := by
  intro u hu
  have := x.2.one hs
  rw [Array.all_eq_true'] at this
  rcases List.mem_cons.1 hu with rfl | hu
  · rfl
  · rcases List.mem_cons.1 hu with rfl | hu
    · rfl
    · exact this u (by simpa using hu)
end Go.Proofs.YtjmbmapanmbnhaaDoor
namespace Go.Proofs.YtjmbmapanmbnhaaDoor
open Go.RowKit Go.Maps

set_option maxRecDepth 20000 in
set_option maxHeartbeats 8000000 in
theorem get_own (g : Nat) (c r : Int) (mv : Option Nat) (V : Value) (bb : Bool) (u : Ct) (w : World) (hlk : Lk w g c r mv V bb)
    (hcp : ∀ wq, Kp w wq Nul → Calls Tryd.prog 14 #[V] wq fun e w' => ∃ sl' fp, e = .returned (u.val sl') ∧ Own w' wq.heap.size sl' u.t fp ∧ Kp wq w' Nul) :
    Calls Tryd.prog 28 #[.pointer (some ⟨g, 0, none⟩), .agg #[.int .i64 c, .int .i64 r]] w fun e w' => ∃ sl' fp, e = .returned (u.val sl') ∧ Own w' w.heap.size sl' u.t fp ∧ Kp w w' Nul := by
  obtain ⟨W1, hW1⟩ : ∃ W1, (w.alloc (.cells #[.int .i64 c, .int .i64 r] 26)).alloc (.cells #[.int .i64 0, .int .i64 0, .float .f64 0, .string ⟨#[]⟩, .bool false, .int .i64 0, .int .i64 0, .int .i64 0, .float .f64 0, .string ⟨#[]⟩, .bool false, .int .i64 0, .int .i64 0, .int .i64 0, .bool false, .bool false, .int .i64 0, .int .i64 0, .bool false, .bool false, .slice none 0 0] 33) = W1 := ⟨_, rfl⟩
  have k1 : Kp w W1 Nul := by rw [← hW1]; exact ((Kp.refl w Nul).alloc _).alloc _
  have hA1 : Blk W1 w.heap.size [.int .i64 c, .int .i64 r] 26 := by rw [← hW1]; exact (Blk.new w [.int .i64 c, .int .i64 r] _).alloc _
  have hZ1 : Blk W1 (w.heap.size + 1) [.int .i64 0, .int .i64 0, .float .f64 0, .string ⟨#[]⟩, .bool false, .int .i64 0, .int .i64 0, .int .i64 0, .float .f64 0, .string ⟨#[]⟩, .bool false, .int .i64 0, .int .i64 0, .int .i64 0, .bool false, .bool false, .int .i64 0, .int .i64 0, .bool false, .bool false, .slice none 0 0] 33 := by
    have := Blk.new (w.alloc (.cells #[.int .i64 c, .int .i64 r] 26)) [.int .i64 0, .int .i64 0, .float .f64 0, .string ⟨#[]⟩, .bool false, .int .i64 0, .int .i64 0, .int .i64 0, .float .f64 0, .string ⟨#[]⟩, .bool false, .int .i64 0, .int .i64 0, .int .i64 0, .bool false, .bool false, .int .i64 0, .int .i64 0, .bool false, .bool false, .slice none 0 0] 33
    rw [World.size_alloc] at this
    rw [← hW1]; exact this
  have hglt : g < w.heap.size := (Array.getElem?_eq_some_iff.1 hlk.cell).1
  have hg1 : Blk W1 g [.map mv] 77 := (k1.block g hglt (fun x => x)).trans hlk.cell
  have HS : Hid (∀ wq, Kp W1 wq (fun i => i = w.heap.size + 1) → (wq.cell? ⟨w.heap.size, 0, none⟩ = some (.int .i64 c) ∧ wq.cell? ⟨w.heap.size, 1, none⟩ = some (.int .i64 r) ∧ wq.cell? ⟨g, 0, none⟩ = some (.map mv) ∧ (Instr.lookup 75 (.map mv) (.agg #[.int .i64 c, .int .i64 r]) false).run Tryd.prog wq = .ok V wq)) := fun wq k => ⟨(hA1.kp k (by show ¬ w.heap.size = w.heap.size + 1; omega)).cell rfl, (hA1.kp k (by show ¬ w.heap.size = w.heap.size + 1; omega)).cell rfl, (hg1.kp k (by show ¬ g = w.heap.size + 1; omega)).cell rfl, hlk.one wq (fun m hm => by
    have h2 := (hlk.ne m hm).2
    have h3 := k1.size
    exact (k.block m (by omega) (by show ¬ m = w.heap.size + 1; omega)).trans (k1.block m h2 (fun x => x)))⟩
  have HCp : Hid (∀ wq, Kp W1 wq Nul → Calls Tryd.prog 14 #[V] wq fun e w' => ∃ sl' fp, e = .returned (u.val sl') ∧ Own w' wq.heap.size sl' u.t fp ∧ Kp wq w' Nul) := fun wq k => hcp wq (k1.trans k)
  have HZ : Hid (Blk W1 (w.heap.size + 1) [.int .i64 0, .int .i64 0, .float .f64 0, .string ⟨#[]⟩, .bool false, .int .i64 0, .int .i64 0, .int .i64 0, .float .f64 0, .string ⟨#[]⟩, .bool false, .int .i64 0, .int .i64 0, .int .i64 0, .bool false, .bool false, .int .i64 0, .int .i64 0, .bool false, .bool false, .slice none 0 0] 33) := hZ1
  have HW1 : Hid ((w.alloc (.cells #[.int .i64 c, .int .i64 r] 26)).alloc (.cells #[.int .i64 0, .int .i64 0, .float .f64 0, .string ⟨#[]⟩, .bool false, .int .i64 0, .int .i64 0, .int .i64 0, .float .f64 0, .string ⟨#[]⟩, .bool false, .int .i64 0, .int .i64 0, .int .i64 0, .bool false, .bool false, .int .i64 0, .int .i64 0, .bool false, .bool false, .slice none 0 0] 33) = W1) := hW1
  have HK1 : Hid (Kp w W1 Nul) := k1
  clear hW1 k1 hA1 hZ1 hg1 hlk hcp hglt
  go_enter Tryd.func28, Tryd.ntmps28
  go_wp2_with fail
  rw [HW1.out]
  clear HW1
  refine wp_region_noPanic ?_
  refine wp_region_hel (fun w' : World => Kp W1 w' (fun i => i = w.heap.size + 1)) (by kernel_rfl) ((Kp.refl W1 _).drew) (fun hHeld => ?_)
  have tok0 : True := trivial
  have tok1 : True := trivial
  have tok2 : True := trivial
  have tok3 : True := trivial
  have tok4 : True := trivial
  have tok5 : True := trivial
  iterate 6 ((first | (clear tok0; refine wpH_takes (i := 0) (v := ?_) (some 8) rfl rfl (by kernel_rfl) (by kernel_rfl) (by kernel_rfl) (fun _ _ _ h => h) (Or.inl ⟨by rfl, ?_⟩) hHeld ?_) | (clear tok1; refine wpH_takes (i := 1) (v := ?_) (some 9) rfl rfl (by kernel_rfl) (by kernel_rfl) (by kernel_rfl) (fun _ _ _ h => h) (Or.inl ⟨by rfl, ?_⟩) hHeld ?_) | (clear tok2; refine wpH_takes (i := 2) (v := ?_) (some 10) rfl rfl (by kernel_rfl) (by kernel_rfl) (by kernel_rfl) (fun _ _ _ h => h) (Or.inl ⟨by rfl, ?_⟩) hHeld ?_) | (clear tok3; refine wpH_takes (i := 3) (v := ?_) (some 11) rfl rfl (by kernel_rfl) (by kernel_rfl) (by kernel_rfl) (fun _ _ _ h => h) (Or.inl ⟨by rfl, ?_⟩) hHeld ?_) | (clear tok4; refine wpH_takes (i := 4) (v := ?_) (some 12) rfl rfl (by kernel_rfl) (by kernel_rfl) (by kernel_rfl) (fun _ _ _ h => h) (Or.inl ⟨by rfl, ?_⟩) hHeld ?_) | (clear tok5; refine wpH_takes (i := 5) (v := ?_) (some 13) rfl rfl (by kernel_rfl) (by kernel_rfl) (by kernel_rfl) (fun _ _ _ h => h) (Or.inl ⟨by rfl, ?_⟩) hHeld ?_)); rotate_left; (· intro w hSw; obtain ⟨s0, s1, s2, s3⟩ := HS.out _ hSw; clear hSw; go_simp; try with_reducible rfl); simp only [Act.put, List.setIfInBounds_toArray, List.set_cons_zero, List.set_cons_succ])
  refine wpH_step (i := 6) (by kernel_rfl) rfl rfl (fun K hK => ?_)
  go_simp
  refine (HCp.out _ (Kp.refl W1 Nul).drew).mono ?_
  rintro e w4 ⟨sl', fp, rfl, hown, hk4⟩
  have hk14 : Kp W1 w4 Nul := (Kp.refl W1 Nul).drew.trans hk4
  have hone := hown.own.one
  refine hK.out _ _ hk14.of_nul (fun hHeld2 => ?_)
  clear hK K hk4
  have hZ4 := HZ.out.kp hk14 (fun x => x)
  refine wpH_step (i := 7) (by kernel_rfl) rfl rfl (fun K hK => ?_)
  refine wp_store_mid 33 (.tmp 4) (.tmp 14) rfl (w.heap.size + 1) 0 (u.cells sl').toArray rfl rfl (there_of_block hZ4 _ _ (by simp)) infoContent (u.one hone) ?_
  obtain ⟨W5, hW5⟩ : ∃ W5, w4.setCells (w.heap.size + 1) 0 (u.cells sl') = W5 := ⟨_, rfl⟩
  have k45 : Kp w4 W5 (fun i => i = w.heap.size + 1) := by rw [← hW5]; exact setCells_kp (fun i => i = w.heap.size + 1) rfl _ _ _
  have hB5 : W5.heap[w.heap.size + 1]? = some (.cells (u.cells sl').toArray 33 (0, 0)) := by
    rw [← hW5]
    exact heap_setCells_whole (cs := (u.cells sl').toArray) hZ4 rfl
  show K _ (w4.setCells (w.heap.size + 1) 0 (u.cells sl'))
  rw [hW5]
  refine hK.out _ _ (hk14.of_nul.trans k45) (fun _ => ?_)
  have HOW : Hid (Own W5 w.heap.size sl' u.t fp) := by
    have hz : w.heap.size + 1 < W1.heap.size := HZ.out.lt
    have hnew : ∀ b ∈ fp, w.heap.size + 1 < b ∧ b < w4.heap.size := fun b hb => by
      have h1 := (hown.new b hb).1
      have h2 : W1.drew.heap.size = W1.heap.size := rfl
      exact ⟨by omega, (hown.new b hb).2⟩
    refine ⟨hown.own.mono (fun b hb => ?_), hown.nodup, fun b hb => ?_⟩
    · rw [← hW5, heap_setCells_ne (by have := (hnew b hb).1; omega)]
    · rw [← hW5, size_setCells]
      exact ⟨by have := (hnew b hb).1; omega, (hnew b hb).2⟩
  have HEND : Hid (Kp w W5 Nul) := (HK1.out.trans hk14).trans' k45 (fun i hi e => by have : i = w.heap.size + 1 := e; omega)
  clear hK K hHeld hHeld2 hk14 k45 hone hZ4 hW5 hown
  refine wpAnyH_done (by kernel_rfl) ?_ _
  refine NoPanic.normal ?_
  go_wp2_with fail
  refine bodyPost_ret (results_cell_row rfl _ _ (w.heap.size + 1) 33 _ (0, 0) _ rfl hB5 Tryd.underlying33 rfl infoContent) rfl ?_
  exact ⟨_, _, rfl, HOW.out, HEND.out⟩
end Go.Proofs.YtjmbmapanmbnhaaDoor
