/- The document's links: how they lie; find. The document's Set. The document's Drop. The document's uses; New. -/
import Derived.Test.YtdlieecpckpemaaGreatDoorLcLxP
namespace Go.Proofs.YtdlieecpckpemaaGreatDoor
open Go.RowKit Go.Sort Go.Lib Go.Maps
/-- append onto a row of one's own: behind it the row lies where it lay, or in a new block. -/
theorem run_append_tell {P : Program} (w : World) (base : Nat) (t ty e : TypeId) (i : TypeInfo) (z : Value) (size bytes : Nat) (h1 : P.underlying t = some (.slice e)) (h2 : P.info? e = some i) (h3 : i.zero = some z) (h4 : i.size = size) (h5 : i.bytes = bytes) (h6 : z.cells.size = size) (h7 : 0 < size)
    (v : Value) (n : Nat) (xs : List Value) (hown : w.ownsRow base e size v n xs)
    (ad : Addr) (m c : Nat) (news : List Value) (hn : news.length = m * size) (hc : ∀ j u, news[j]? = some u → w.cell? (ad.add j) = some u) (h1c : ∀ u ∈ news, u.oneCell' = true)
    (hm : 0 < m) (b1 : n + m ≤ maxLen) (b2 : (n + m) * bytes ≤ 140737488355328) (hbase : base ≤ w.heap.size) :
    ∃ g c' w', (Builtin.append_ #[t, t] ty #[v, .slice (some ad) m c]).run P w = .ok (.slice (some ⟨g, 0, none⟩) (n + m) c') w' ∧ w'.ownsRow base e size (.slice (some ⟨g, 0, none⟩) (n + m) c') (n + m) (xs ++ news) ∧ w.grownBy w' v.ownBlock ∧ (v.ownBlock = some g ∨ w.heap.size ≤ g) := by
  have fin : ∀ v' w', (Builtin.append_ #[t, t] ty #[v, .slice (some ad) m c]).run P w = .ok v' w' → w'.ownsRow w.heap.size e size v' (n + m) (xs ++ news) → w.grownBy w' none →
      ∃ g c' w', (Builtin.append_ #[t, t] ty #[v, .slice (some ad) m c]).run P w = .ok (.slice (some ⟨g, 0, none⟩) (n + m) c') w' ∧ w'.ownsRow base e size (.slice (some ⟨g, 0, none⟩) (n + m) c') (n + m) (xs ++ news) ∧ w.grownBy w' v.ownBlock ∧ (v.ownBlock = some g ∨ w.heap.size ≤ g) := by
    intro v' w' hrun ho hgr
    rcases ho.2 with ⟨_, h0⟩ | ⟨g, c', cur, rfl, hbg, r⟩
    · omega
    · exact ⟨g, c', w', hrun, ⟨ho.1, .inr ⟨g, c', cur, rfl, Nat.le_trans hbase hbg, r⟩⟩, ⟨hgr.os, hgr.tape, hgr.output, hgr.size, fun k hk _ => hgr.block k hk (by simp)⟩, .inr hbg⟩
  have hown' := hown
  rcases hown with ⟨hxl, ⟨rfl, rfl⟩ | ⟨g, cap, cur, rfl, hb, hgg, hnc, hcm, hcs, htk⟩⟩
  · have hxs : xs = [] := List.length_eq_zero_iff.1 (by rw [hxl]; simp)
    subst hxs
    obtain ⟨v', w', hrun, r1, r2, _⟩ := run_append_own (P := P) w w.heap.size t ty e i z size bytes h1 h2 h3 h4 h5 h6 h7 (.slice none 0 0) 0 [] (World.ownsRow_nil w _ e size) ad m c news hn hc h1c b1 b2 (Nat.le_refl _)
    exact fin v' w' hrun r1 r2
  · by_cases hfit : n + m ≤ cap
    · obtain ⟨w', hrun, r1, r2⟩ := run_append_fits (P := P) w base t ty e i size h1 h2 h4 g n cap xs hown' ad m c news hn hc h1c hfit
      exact ⟨g, cap, w', hrun, r1, r2, .inl rfl⟩
    · obtain ⟨v', w', hrun, r1, r2⟩ := run_append_arg_grows (P := P) w t ty e i z size bytes h1 h2 h3 h4 h5 h6 h7 ⟨g, 0, none⟩ n cap xs hxl (hown'.cells rfl) ad m c news hn hc (by omega) b1 b2
      exact fin v' w' hrun r1 r2
theorem wp_append_tell {P : Program} (w : World) {o : Oper} {a : Act} {K : Act → World → Prop} {Q : Exit → Act → World → Prop} (s x : Operand) (t : TypeId) (ho : o.op = Op.call { callee := Callee.builtin Builtin.append, args := #[s, x], argTypes := #[t, t] })
    (base : Nat) (e : TypeId) (i : TypeInfo) (z : Value) (size bytes : Nat) (h1 : P.underlying t = some (.slice e)) (h2 : P.info? e = some i) (h3 : i.zero = some z) (h4 : i.size = size) (h5 : i.bytes = bytes) (h6 : z.cells.size = size) (h7 : 0 < size)
    (v : Value) (n : Nat) (xs : List Value) (hs : a.eval s = v) (hown : w.ownsRow base e size v n xs)
    (ad : Addr) (m c : Nat) (news : List Value) (hx : a.eval x = .slice (some ad) m c) (hn : news.length = m * size) (hc : ∀ j u, news[j]? = some u → w.cell? (ad.add j) = some u) (h1c : ∀ u ∈ news, u.oneCell' = true)
    (hm : 0 < m) (b1 : n + m ≤ maxLen) (b2 : (n + m) * bytes ≤ 140737488355328) (hbase : base ≤ w.heap.size)
    (h : ∀ g c' w', w'.ownsRow base e size (.slice (some ⟨g, 0, none⟩) (n + m) c') (n + m) (xs ++ news) → w.grownBy w' v.ownBlock → (v.ownBlock = some g ∨ w.heap.size ≤ g) → K (a.put o.dst (.slice (some ⟨g, 0, none⟩) (n + m) c')) w') : o.wp P a w K Q := by
  obtain ⟨g, c', w', hr, h2', h3', h4'⟩ := run_append_tell (P := P) w base t o.type e i z size bytes h1 h2 h3 h4 h5 h6 h7 v n xs hown ad m c news hn hc h1c hm b1 b2 hbase
  unfold Oper.wp execOp
  simp only [ho, resolve, invoke, builtin, Sem.run_bind, Sem.run_pure, Result.andThen_ok, List.map_toArray, List.map_cons, List.map_nil, hs, hx, hr]
  exact h g c' w' h2' h3' h4'
theorem wpList_append_tell {P : Program} (w : World) {ops : Array Oper} {rest : List Oper} {o : Oper} {a : Act} {Q : Exit → Act → World → Prop}
    (hgd : o.guard = none) (s x : Operand) (t : TypeId) (ho : o.op = Op.call { callee := Callee.builtin Builtin.append, args := #[s, x], argTypes := #[t, t] })
    (base : Nat) (e : TypeId) (i : TypeInfo) (z : Value) (size bytes : Nat) (h1 : P.underlying t = some (.slice e)) (h2 : P.info? e = some i) (h3 : i.zero = some z) (h4 : i.size = size) (h5 : i.bytes = bytes) (h6 : z.cells.size = size) (h7 : 0 < size)
    (v : Value) (n : Nat) (xs : List Value) (hs : a.eval s = v) (hown : w.ownsRow base e size v n xs)
    (ad : Addr) (m c : Nat) (news : List Value) (hx : a.eval x = .slice (some ad) m c) (hn : news.length = m * size) (hc : ∀ j u, news[j]? = some u → w.cell? (ad.add j) = some u) (h1c : ∀ u ∈ news, u.oneCell' = true)
    (hm : 0 < m) (b1 : n + m ≤ maxLen) (b2 : (n + m) * bytes ≤ 140737488355328) (hbase : base ≤ w.heap.size)
    (h : ∀ g c' w', w'.ownsRow base e size (.slice (some ⟨g, 0, none⟩) (n + m) c') (n + m) (xs ++ news) → w.grownBy w' v.ownBlock → (v.ownBlock = some g ∨ w.heap.size ≤ g) → wpList P ops Q rest (a.put o.dst (.slice (some ⟨g, 0, none⟩) (n + m) c')) w') :
    wpList P ops Q (o :: rest) a w :=
  wpList_plain hgd fun _ hK => wp_append_tell w s x t ho base e i z size bytes h1 h2 h3 h4 h5 h6 h7 v n xs hs hown ad m c news hx hn hc h1c hm b1 b2 hbase fun g c' w' r1 r2 r3 => hK _ _ (h g c' w' r1 r2 r3)

/-- The cells of a rule. -/
def encL (ρ : Rl) : List Value := [.int .i64 ρ.x.1, .int .i64 ρ.x.2, .slice ρ.av ρ.al.length ρ.cv]
theorem encL_len (ρ : Rl) : (encL ρ).length = 3 := rfl
theorem encL_one (ρ : Rl) : ∀ v ∈ encL ρ, v.oneCell' = true := by
  intro v hv
  unfold encL at hv
  simp only [List.mem_cons, List.not_mem_nil, or_false] at hv
  rcases hv with rfl | rfl | rfl <;> rfl
/-- The document's links: its list v at x, its rules X; all in blocks of G. -/
structure DX (w : World) (G : Nat → Prop) (x : Nat) (v : Value) (X : List Rl) : Prop where
  gx : G x
  box : Blk w x [v] 39
  row : w.ownsRow 0 43 3 v X.length (fl encL X)
  gr : ∀ j, v.ownBlock = some j → G j
  ars : ∀ ρ ∈ X, ρ.al.length ≤ 256 ∧ (0 < ρ.al.length → ∃ b, ρ.av = some ⟨b, 0, none⟩ ∧ G b ∧ AreasAt w b 0 ρ.al)
theorem row_kpG {w w' : World} {S : Nat → Prop} {base size n : Nat} {e : TypeId} {v : Value} {xs : List Value} (h : w.ownsRow base e size v n xs) (g : Kp w w' S) (hS : ∀ i, v.ownBlock = some i → ¬ S i) : w'.ownsRow base e size v n xs := by
  obtain ⟨h0, h⟩ := h
  refine ⟨h0, ?_⟩
  rcases h with h | ⟨b, cap, cur, rfl, h2, h3, h4⟩
  · exact .inl h
  · exact .inr ⟨b, cap, cur, rfl, h2, (g.block b (Array.getElem?_eq_some_iff.1 h3).1 (hS b rfl)).trans h3, h4⟩
theorem DX.kp {w w' : World} {G S : Nat → Prop} {x : Nat} {v : Value} {X : List Rl} (h : DX w G x v X) (g : Kp w w' S) (hS : ∀ j, G j → ¬ S j) : DX w' G x v X :=
  ⟨h.gx, h.box.kp g (hS x h.gx), row_kpG h.row g (fun i hi => hS i (h.gr i hi)), h.gr, fun ρ hρ => by
    obtain ⟨h1, h2⟩ := h.ars ρ hρ
    exact ⟨h1, fun h0 => by obtain ⟨b, e, hb, hc⟩ := h2 h0; exact ⟨b, e, hb, hc.kp g (hS b hb)⟩⟩⟩
theorem DX.kpn {w w' : World} {G : Nat → Prop} {x : Nat} {v : Value} {X : List Rl} (h : DX w G x v X) (g : Kp w w' Nul) : DX w' G x v X := h.kp g (fun _ _ e => e)
theorem DX.mono {w : World} {G G' : Nat → Prop} {x : Nat} {v : Value} {X : List Rl} (h : DX w G x v X) (hG : ∀ j, j < w.heap.size → G j → G' j) : DX w G' x v X :=
  ⟨hG x h.box.lt h.gx, h.box, h.row, fun j hj => hG j (row_base h.row j hj).2 (h.gr j hj), fun ρ hρ => by
    obtain ⟨h1, h2⟩ := h.ars ρ hρ
    refine ⟨h1, fun h0 => ?_⟩
    obtain ⟨b, e, hb, hc⟩ := h2 h0
    obtain ⟨y, hy⟩ : ∃ y, ρ.al[0]? = some y := ⟨_, List.getElem?_eq_getElem h0⟩
    exact ⟨b, e, hG b (cell_lt (hc 0 y hy).1) hb, hc⟩⟩
theorem DX.slice {w : World} {G : Nat → Prop} {x : Nat} {v : Value} {X : List Rl} (h : DX w G x v X) : ∃ a c, v = .slice a X.length c := row_slice h.row
/-- The cells of one rule. -/
theorem DX.get {w : World} {G : Nat → Prop} {x : Nat} {a : Option Addr} {n c : Nat} {X : List Rl} (h : DX w G x (.slice a n c) X) {k : Nat} {ρ : Rl} (hk : X[k]? = some ρ) : ∃ g, a = some ⟨g, 0, none⟩ ∧ n ≤ c ∧ w.cell? ⟨g, k * 3, none⟩ = some (.int .i64 ρ.x.1) ∧ w.cell? ⟨g, k * 3 + 1, none⟩ = some (.int .i64 ρ.x.2) ∧ w.cell? ⟨g, k * 3 + 2, none⟩ = some (.slice ρ.av ρ.al.length ρ.cv) := by
  have hkl := (List.getElem?_eq_some_iff.1 hk).1
  have hr := h.row
  rcases hr.2 with ⟨_, e⟩ | ⟨g, cap, cur, e, _, _, hc, _⟩
  · omega
  · injection e with e1 e2 e3
    subst e1 e2 e3
    have hcc : ∀ t u, (encL ρ)[t]? = some u → t < 3 → w.cell? ⟨g, k * 3 + t, none⟩ = some u := fun t u hu ht => by
      rw [hr.cellAt _ (by omega)]; exact fl_get encL_len hk hu
    exact ⟨g, rfl, hc, hcc 0 _ rfl (by omega), hcc 1 _ rfl (by omega), hcc 2 _ rfl (by omega)⟩
/-- What find tells. -/
def FndIs (K : List (Int × Int)) (q : Int × Int) (lo : Nat) (b : Bool) : Prop :=
  lo ≤ K.length ∧ (∀ j y, j < lo → K[j]? = some y → ltOf cfA q y = false ∧ y ≠ q) ∧ ((b = true ∧ K[lo]? = some q) ∨ (b = false ∧ ∀ y, K[lo]? = some y → ltOf cfA q y = true))
def FnR (W : World) (K : List (Int × Int)) (q : Int × Int) (s : Value) (wr : World) : Prop := ∃ k : Nat, k ≤ K.length ∧ s = .int .i64 (k : Int) ∧ (∀ j y, j < k → K[j]? = some y → ltOf cfA q y = false ∧ y ≠ q) ∧ Kp W wr Nul
set_option maxRecDepth 20000 in
set_option maxHeartbeats 4000000 in
theorem find18_at (G : Nat → Prop) (x : Nat) (v : Value) (X : List Rl) (q1 q2 : Int) (w : World) (h : DX w G x v X) (hX : X.length ≤ 1048576) :
    Calls Tryz.prog 69 #[.pointer (some ⟨x, 0, none⟩), .agg #[.int .i64 q1, .int .i64 q2]] w fun e w' => ∃ (lo : Nat) (b : Bool), e = .returned (.tuple #[.int .i64 (lo : Int), .bool b]) ∧ FndIs (X.map (·.x)) (q1, q2) lo b ∧ Kp w w' Nul := by
  obtain ⟨n, hn⟩ : ∃ n, X.length = n := ⟨_, rfl⟩
  obtain ⟨a, cp, hv⟩ := h.slice
  rw [hn] at hv
  subst hv
  obtain ⟨K, hK⟩ : ∃ K, X.map (·.x) = K := ⟨_, rfl⟩
  have hKn : K.length = n := by rw [← hK, List.length_map, hn]
  obtain ⟨nb, hnb⟩ : ∃ nb, w.heap.size = nb := ⟨_, rfl⟩
  obtain ⟨W, hW⟩ : ∃ W, w.alloc (.cells #[.int .i64 q1, .int .i64 q2] 29) = W := ⟨_, rfl⟩
  have HW : Hid (w.alloc (.cells #[.int .i64 q1, .int .i64 q2] 29) = W) := hW
  have HNB : Hid (w.heap.size = nb) := hnb
  have kW : Kp w W Nul := by rw [← hW]; exact (Kp.refl w Nul).alloc _
  have HKW : Hid (Kp w W Nul) := kW
  have hq : Blk W nb [.int .i64 q1, .int .i64 q2] 29 := by rw [← hW, ← hnb]; exact Blk.new w _ _
  have HQ : Hid (∀ wq, Kp W wq Nul → wq.cell? ⟨x, 0, none⟩ = some (.slice a n cp) ∧ wq.cell? ⟨nb, 0, none⟩ = some (.int .i64 q1) ∧ wq.cell? ⟨nb, 1, none⟩ = some (.int .i64 q2)) := fun wq k => by
    have h1 := hq.kp k (fun x => x)
    exact ⟨((h.kpn kW).kpn k).box.cell rfl, h1.cell rfl, h1.cell rfl⟩
  have HG : Hid (∀ wq, Kp W wq Nul → ∀ k, k < n → ∃ g y1 y2, a = some ⟨g, 0, none⟩ ∧ K[k]? = some (y1, y2) ∧ (wq.cell? ⟨g, k * 3, none⟩ = some (.int .i64 y1) ∧ wq.cell? ⟨g, k * 3 + 1, none⟩ = some (.int .i64 y2))) := fun wq kq k hk => by
    obtain ⟨ρ, hρ⟩ : ∃ ρ, X[k]? = some ρ := ⟨_, List.getElem?_eq_getElem (by omega)⟩
    obtain ⟨g, e, _, c1, c2, _⟩ := ((h.kpn kW).kpn kq).get hρ
    exact ⟨g, ρ.x.1, ρ.x.2, e, by rw [← hK, List.getElem?_map, hρ]; rfl, c1, c2⟩
  have HKn : Hid (K.length = n) := hKn
  obtain ⟨s1, s2, s3⟩ := HQ.out W (Kp.refl _ _)
  rw [hK]
  rw [hn] at hX
  clear h hn hK hKn hnb hW kW hq
  go_enter Tryz.func69, Tryz.ntmps69
  go_upto_region 1 with fail
  rw [HW.out, HNB.out]
  go_wp2_with fail
  go_loopw [6] (fun s wr => FnR W K (q1, q2) s wr) (fun s _ => n - (intOf s).toNat)
  case atStart => exact ⟨0, Nat.zero_le _, rfl, fun j y hj => absurd hj (Nat.not_lt_zero _), Kp.refl _ _⟩
  case round =>
    clear s1 s2 s3
    rename World => wk
    obtain ⟨k, hk, rfl, hlow, hkp⟩ := hrel
    rw [HKn.out] at hk
    have HLow : Hid (∀ j y, j < k → K[j]? = some y → ltOf cfA (q1, q2) y = false ∧ y ≠ (q1, q2)) := hlow
    have HKk : Hid (Kp W wk Nul) := hkp
    clear hlow hkp
    obtain ⟨s1, s2, s3⟩ := HQ.out wk HKk.out
    by_cases hlt : k < n
    · have j1 : (k : Int) < (n : Int) := by omega
      obtain ⟨g, y1, y2, rfl, hy, c1, c2⟩ := HG.out wk HKk.out k hlt
      have HY : Hid (K[k]? = some (y1, y2)) := hy
      have KS : Hid (∀ wq, Kp wk wq Nul → (wq.cell? ⟨x, 0, none⟩ = some (.slice (some ⟨g, 0, none⟩) n cp) ∧ wq.cell? ⟨nb, 0, none⟩ = some (.int .i64 q1) ∧ wq.cell? ⟨nb, 1, none⟩ = some (.int .i64 q2) ∧ wq.cell? ⟨g, k * 3, none⟩ = some (.int .i64 y1) ∧ wq.cell? ⟨g, k * 3 + 1, none⟩ = some (.int .i64 y2))) := fun wq kq => by
        obtain ⟨t1, t2, t3⟩ := HQ.out wq (HKk.out.trans kq)
        have e := kq.block g (cell_lt c1) (fun x => x)
        refine ⟨t1, t2, t3, ?_, ?_⟩
        · simp only [World.cell?] at c1 ⊢; rw [e]; exact c1
        · simp only [World.cell?] at c2 ⊢; rw [e]; exact c2
      have hcase : (y1 = q1 ∧ y2 = q2) ∨ ¬ (y1 = q1 ∧ y2 = q2) := Classical.em _
      clear hy
      rcases hcase with ⟨rfl, rfl⟩ | hne
      · have hq := eql_addr y1 y2 y1 y2 true (by simp)
        go_upto_region 4 with fail
        clear c1 c2 s1 s2 s3
        refine wp_region_noPanic ?_
        refine wp_region_hel (fun w' : World => Kp wk w' Nul) (by kernel_rfl) ((Kp.refl wk Nul).drew) (fun hHeld => ?_)
        refine wpH_takes (i := 0) (v := ?_) (some 17) rfl rfl (by kernel_rfl) (by kernel_rfl) (by kernel_rfl) (fun _ _ _ h => h) (Or.inl ⟨by rfl, ?_⟩) hHeld ?_
        rotate_left
        · intro w' hSw; clear hSw; go_simp; try with_reducible rfl
        simp only [Act.put, List.setIfInBounds_toArray, List.set_cons_zero, List.set_cons_succ]
        refine wpH_takes (i := 1) (v := ?_) (some 18) rfl rfl (by kernel_rfl) (by kernel_rfl) (by kernel_rfl) (fun _ _ _ h => h) (Or.inl ⟨by rfl, ?_⟩) hHeld ?_
        rotate_left
        · intro w' hSw; clear hSw; go_simp; try with_reducible rfl
        simp only [Act.put, List.setIfInBounds_toArray, List.set_cons_zero, List.set_cons_succ]
        refine wpH_takes (i := 2) (v := ?_) (some 19) rfl rfl (by kernel_rfl) (by kernel_rfl) (by kernel_rfl) (fun _ _ _ h => h) (Or.inl ⟨by rfl, ?_⟩) hHeld ?_
        rotate_left
        · intro w' hSw; clear hSw; go_simp; try with_reducible rfl
        simp only [Act.put, List.setIfInBounds_toArray, List.set_cons_zero, List.set_cons_succ]
        refine wpH_takes (i := 3) (v := ?_) (some 20) rfl rfl (by kernel_rfl) (by kernel_rfl) (by kernel_rfl) (fun _ _ _ h => h) (Or.inl ⟨by rfl, ?_⟩) hHeld ?_
        rotate_left
        · intro w' hSw; obtain ⟨p1, p2, p3, p4, p5⟩ := KS.out _ hSw; clear hSw; go_simp; try with_reducible rfl
        simp only [Act.put, List.setIfInBounds_toArray, List.set_cons_zero, List.set_cons_succ]
        refine wpH_takes (i := 4) (v := ?_) (some 21) rfl rfl (by kernel_rfl) (by kernel_rfl) (by kernel_rfl) (fun _ _ _ h => h) (Or.inl ⟨by rfl, ?_⟩) hHeld ?_
        rotate_left
        · intro w' hSw; clear hSw; go_simp; try with_reducible rfl
        simp only [Act.put, List.setIfInBounds_toArray, List.set_cons_zero, List.set_cons_succ]
        refine wpH_takes (i := 5) (v := ?_) (some 22) rfl rfl (by kernel_rfl) (by kernel_rfl) (by kernel_rfl) (fun _ _ _ h => h) (Or.inl ⟨by rfl, ?_⟩) hHeld ?_
        rotate_left
        · intro w' hSw; clear hSw; go_simp; try with_reducible rfl
        simp only [Act.put, List.setIfInBounds_toArray, List.set_cons_zero, List.set_cons_succ]
        refine wpH_takes (i := 6) (v := ?_) (some 23) rfl rfl (by kernel_rfl) (by kernel_rfl) (by kernel_rfl) (fun _ _ _ h => h) (Or.inl ⟨by rfl, ?_⟩) hHeld ?_
        rotate_left
        · intro w' hSw; clear hSw; go_simp; try with_reducible rfl
        simp only [Act.put, List.setIfInBounds_toArray, List.set_cons_zero, List.set_cons_succ]
        refine wpH_takes (i := 7) (v := ?_) (some 24) rfl rfl (by kernel_rfl) (by kernel_rfl) (by kernel_rfl) (fun _ _ _ h => h) (Or.inl ⟨by rfl, ?_⟩) hHeld ?_
        rotate_left
        · intro w' hSw; obtain ⟨p1, p2, p3, p4, p5⟩ := KS.out _ hSw; clear hSw; go_simp; try with_reducible rfl
        simp only [Act.put, List.setIfInBounds_toArray, List.set_cons_zero, List.set_cons_succ]
        refine wpH_takes (i := 8) (v := ?_) (some 25) rfl rfl (by kernel_rfl) (by kernel_rfl) (by kernel_rfl) (fun _ _ _ h => h) (Or.inl ⟨by rfl, ?_⟩) hHeld ?_
        rotate_left
        · intro w' hSw; obtain ⟨p1, p2, p3, p4, p5⟩ := KS.out _ hSw; clear hSw; go_simp; try with_reducible rfl
        simp only [Act.put, List.setIfInBounds_toArray, List.set_cons_zero, List.set_cons_succ]
        refine wpH_takes (i := 9) (v := ?_) (some 26) rfl rfl (by kernel_rfl) (by kernel_rfl) (by kernel_rfl) (fun _ _ _ h => h) (Or.inl ⟨by rfl, ?_⟩) hHeld ?_
        rotate_left
        · intro w' hSw; clear hSw; go_simp; try with_reducible rfl
        simp only [Act.put, List.setIfInBounds_toArray, List.set_cons_zero, List.set_cons_succ]
        refine wpAnyH_done (by kernel_rfl) ?_ _
        refine NoPanic.normal ?_
        go_wp2_with fail
        refine bodyPost_ret (results_tmp2 rfl _ _ _) rfl ?_
        exact ⟨k, true, rfl, ⟨by rw [HKn.out]; omega, HLow.out, .inl ⟨rfl, HY.out⟩⟩, HKW.out.trans (HKk.out.drew)⟩
      · have hq := eql_addr y1 y2 q1 q2 false (by simpa using hne)
        obtain ⟨B, hB⟩ : ∃ B, ltOf cfA (q1, q2) (y1, y2) = B := ⟨_, rfl⟩
        have HB : Hid (ltOf cfA (q1, q2) (y1, y2) = B) := hB
        have HNE : Hid ((y1, y2) ≠ (q1, q2)) := fun e => hne (by injection e with e1 e2; exact ⟨e1, e2⟩)
        have HBf : Hid (∀ wq, Calls Tryz.prog 78 #[.agg #[.int .i64 q1, .int .i64 q2], .agg #[.int .i64 y1, .int .i64 y2]] wq fun e w' => e = .returned (.bool B) ∧ Kp wq w' Nul) := fun wq => by rw [← hB]; exact before18_at (q1, q2) (y1, y2) wq
        clear hB hne
        go_upto_region 4 with fail
        clear c1 c2 s1 s2 s3
        refine wp_region_noPanic ?_
        refine wp_region_hel (fun w' : World => Kp wk w' Nul) (by kernel_rfl) ((Kp.refl wk Nul).drew) (fun hHeld => ?_)
        refine wpH_takes (i := 0) (v := ?_) (some 17) rfl rfl (by kernel_rfl) (by kernel_rfl) (by kernel_rfl) (fun _ _ _ h => h) (Or.inl ⟨by rfl, ?_⟩) hHeld ?_
        rotate_left
        · intro w' hSw; clear hSw; go_simp; try with_reducible rfl
        simp only [Act.put, List.setIfInBounds_toArray, List.set_cons_zero, List.set_cons_succ]
        refine wpH_takes (i := 1) (v := ?_) (some 18) rfl rfl (by kernel_rfl) (by kernel_rfl) (by kernel_rfl) (fun _ _ _ h => h) (Or.inl ⟨by rfl, ?_⟩) hHeld ?_
        rotate_left
        · intro w' hSw; clear hSw; go_simp; try with_reducible rfl
        simp only [Act.put, List.setIfInBounds_toArray, List.set_cons_zero, List.set_cons_succ]
        refine wpH_takes (i := 2) (v := ?_) (some 19) rfl rfl (by kernel_rfl) (by kernel_rfl) (by kernel_rfl) (fun _ _ _ h => h) (Or.inl ⟨by rfl, ?_⟩) hHeld ?_
        rotate_left
        · intro w' hSw; clear hSw; go_simp; try with_reducible rfl
        simp only [Act.put, List.setIfInBounds_toArray, List.set_cons_zero, List.set_cons_succ]
        refine wpH_takes (i := 3) (v := ?_) (some 20) rfl rfl (by kernel_rfl) (by kernel_rfl) (by kernel_rfl) (fun _ _ _ h => h) (Or.inl ⟨by rfl, ?_⟩) hHeld ?_
        rotate_left
        · intro w' hSw; obtain ⟨p1, p2, p3, p4, p5⟩ := KS.out _ hSw; clear hSw; go_simp; try with_reducible rfl
        simp only [Act.put, List.setIfInBounds_toArray, List.set_cons_zero, List.set_cons_succ]
        refine wpH_takes (i := 4) (v := ?_) (some 21) rfl rfl (by kernel_rfl) (by kernel_rfl) (by kernel_rfl) (fun _ _ _ h => h) (Or.inl ⟨by rfl, ?_⟩) hHeld ?_
        rotate_left
        · intro w' hSw; clear hSw; go_simp; try with_reducible rfl
        simp only [Act.put, List.setIfInBounds_toArray, List.set_cons_zero, List.set_cons_succ]
        refine wpH_takes (i := 5) (v := ?_) (some 22) rfl rfl (by kernel_rfl) (by kernel_rfl) (by kernel_rfl) (fun _ _ _ h => h) (Or.inl ⟨by rfl, ?_⟩) hHeld ?_
        rotate_left
        · intro w' hSw; clear hSw; go_simp; try with_reducible rfl
        simp only [Act.put, List.setIfInBounds_toArray, List.set_cons_zero, List.set_cons_succ]
        refine wpH_takes (i := 6) (v := ?_) (some 23) rfl rfl (by kernel_rfl) (by kernel_rfl) (by kernel_rfl) (fun _ _ _ h => h) (Or.inl ⟨by rfl, ?_⟩) hHeld ?_
        rotate_left
        · intro w' hSw; clear hSw; go_simp; try with_reducible rfl
        simp only [Act.put, List.setIfInBounds_toArray, List.set_cons_zero, List.set_cons_succ]
        refine wpH_takes (i := 7) (v := ?_) (some 24) rfl rfl (by kernel_rfl) (by kernel_rfl) (by kernel_rfl) (fun _ _ _ h => h) (Or.inl ⟨by rfl, ?_⟩) hHeld ?_
        rotate_left
        · intro w' hSw; obtain ⟨p1, p2, p3, p4, p5⟩ := KS.out _ hSw; clear hSw; go_simp; try with_reducible rfl
        simp only [Act.put, List.setIfInBounds_toArray, List.set_cons_zero, List.set_cons_succ]
        refine wpH_takes (i := 8) (v := ?_) (some 25) rfl rfl (by kernel_rfl) (by kernel_rfl) (by kernel_rfl) (fun _ _ _ h => h) (Or.inl ⟨by rfl, ?_⟩) hHeld ?_
        rotate_left
        · intro w' hSw; obtain ⟨p1, p2, p3, p4, p5⟩ := KS.out _ hSw; clear hSw; go_simp; try with_reducible rfl
        simp only [Act.put, List.setIfInBounds_toArray, List.set_cons_zero, List.set_cons_succ]
        refine wpH_takes (i := 9) (v := ?_) (some 26) rfl rfl (by kernel_rfl) (by kernel_rfl) (by kernel_rfl) (fun _ _ _ h => h) (Or.inl ⟨by rfl, ?_⟩) hHeld ?_
        rotate_left
        · intro w' hSw; clear hSw; go_simp; try with_reducible rfl
        simp only [Act.put, List.setIfInBounds_toArray, List.set_cons_zero, List.set_cons_succ]
        refine wpAnyH_done (by kernel_rfl) ?_ _
        refine NoPanic.normal ?_
        go_upto_region 6 with fail
        clear hq
        refine wp_region_noPanic ?_
        refine wp_region_hel (fun w' : World => Kp wk w' Nul) (by kernel_rfl) (((Kp.refl wk Nul).drew).drew) (fun hHeld => ?_)
        refine wpH_takes (i := 0) (v := ?_) (some 28) rfl rfl (by kernel_rfl) (by kernel_rfl) (by kernel_rfl) (fun _ _ _ h => h) (Or.inl ⟨by rfl, ?_⟩) hHeld ?_
        rotate_left
        · intro w' hSw; obtain ⟨p1, p2, p3, p4, p5⟩ := KS.out _ hSw; clear hSw; go_simp; try with_reducible rfl
        simp only [Act.put, List.setIfInBounds_toArray, List.set_cons_zero, List.set_cons_succ]
        refine wpH_takes (i := 1) (v := ?_) (some 29) rfl rfl (by kernel_rfl) (by kernel_rfl) (by kernel_rfl) (fun _ _ _ h => h) (Or.inl ⟨by rfl, ?_⟩) hHeld ?_
        rotate_left
        · intro w' hSw; clear hSw; go_simp; try with_reducible rfl
        simp only [Act.put, List.setIfInBounds_toArray, List.set_cons_zero, List.set_cons_succ]
        refine wpH_takes (i := 2) (v := ?_) (some 30) rfl rfl (by kernel_rfl) (by kernel_rfl) (by kernel_rfl) (fun _ _ _ h => h) (Or.inl ⟨by rfl, ?_⟩) hHeld ?_
        rotate_left
        · intro w' hSw; clear hSw; go_simp; try with_reducible rfl
        simp only [Act.put, List.setIfInBounds_toArray, List.set_cons_zero, List.set_cons_succ]
        refine wpH_takes (i := 3) (v := ?_) (some 31) rfl rfl (by kernel_rfl) (by kernel_rfl) (by kernel_rfl) (fun _ _ _ h => h) (Or.inl ⟨by rfl, ?_⟩) hHeld ?_
        rotate_left
        · intro w' hSw; clear hSw; go_simp; try with_reducible rfl
        simp only [Act.put, List.setIfInBounds_toArray, List.set_cons_zero, List.set_cons_succ]
        refine wpH_takes (i := 4) (v := ?_) (some 32) rfl rfl (by kernel_rfl) (by kernel_rfl) (by kernel_rfl) (fun _ _ _ h => h) (Or.inl ⟨by rfl, ?_⟩) hHeld ?_
        rotate_left
        · intro w' hSw; obtain ⟨p1, p2, p3, p4, p5⟩ := KS.out _ hSw; clear hSw; go_simp; try with_reducible rfl
        simp only [Act.put, List.setIfInBounds_toArray, List.set_cons_zero, List.set_cons_succ]
        refine wpH_takes (i := 5) (v := ?_) (some 33) rfl rfl (by kernel_rfl) (by kernel_rfl) (by kernel_rfl) (fun _ _ _ h => h) (Or.inl ⟨by rfl, ?_⟩) hHeld ?_
        rotate_left
        · intro w' hSw; clear hSw; go_simp; try with_reducible rfl
        simp only [Act.put, List.setIfInBounds_toArray, List.set_cons_zero, List.set_cons_succ]
        refine wpH_takes (i := 6) (v := ?_) (some 34) rfl rfl (by kernel_rfl) (by kernel_rfl) (by kernel_rfl) (fun _ _ _ h => h) (Or.inl ⟨by rfl, ?_⟩) hHeld ?_
        rotate_left
        · intro w' hSw; clear hSw; go_simp; try with_reducible rfl
        simp only [Act.put, List.setIfInBounds_toArray, List.set_cons_zero, List.set_cons_succ]
        refine wpH_takes (i := 7) (v := ?_) (some 35) rfl rfl (by kernel_rfl) (by kernel_rfl) (by kernel_rfl) (fun _ _ _ h => h) (Or.inl ⟨by rfl, ?_⟩) hHeld ?_
        rotate_left
        · intro w' hSw; clear hSw; go_simp; try with_reducible rfl
        simp only [Act.put, List.setIfInBounds_toArray, List.set_cons_zero, List.set_cons_succ]
        refine wpH_takes (i := 8) (v := ?_) (some 36) rfl rfl (by kernel_rfl) (by kernel_rfl) (by kernel_rfl) (fun _ _ _ h => h) (Or.inl ⟨by rfl, ?_⟩) hHeld ?_
        rotate_left
        · intro w' hSw; obtain ⟨p1, p2, p3, p4, p5⟩ := KS.out _ hSw; clear hSw; go_simp; try with_reducible rfl
        simp only [Act.put, List.setIfInBounds_toArray, List.set_cons_zero, List.set_cons_succ]
        refine wpH_step (i := 9) (by kernel_rfl) rfl rfl (fun K hK => ?_)
        go_simp
        refine (HBf.out _).mono ?_
        rintro e w5 ⟨rfl, hk5'⟩
        have hk5 : Kp wk w5 Nul := (((Kp.refl wk Nul).drew).drew).trans hk5'
        clear hk5'
        refine hK.out _ _ hk5 (fun hHeld => ?_)
        clear hK K
        (try simp only [Act.put, List.setIfInBounds_toArray, List.set_cons_zero, List.set_cons_succ])
        refine wpH_takes (i := 10) (v := ?_) (some 7) rfl rfl (by kernel_rfl) (by kernel_rfl) (by kernel_rfl) (fun _ _ _ h => h) (Or.inl ⟨by rfl, ?_⟩) hHeld ?_
        rotate_left
        · intro w' hSw; clear hSw; go_simp; try with_reducible rfl
        simp only [Act.put, List.setIfInBounds_toArray, List.set_cons_zero, List.set_cons_succ]
        refine wpAnyH_done (by kernel_rfl) ?_ _
        refine NoPanic.normal ?_
        go_upto_region 7 with fail
        have HK5 : Hid (Kp W w5 Nul) := HKk.out.trans hk5
        clear hk5
        cases B with
        | true =>
          go_wp2_with fail
          refine bodyPost_ret (results_tmp2 rfl _ _ _) rfl ?_
          refine ⟨k, false, rfl, ⟨by rw [HKn.out]; omega, HLow.out, .inr ⟨rfl, fun y hy => ?_⟩⟩, HKW.out.trans HK5.out⟩
          rw [HY.out] at hy
          rw [← Option.some.inj hy]; exact HB.out
        | false =>
          go_wp2_with fail
          go_roundw
          case rel =>
            refine ⟨k + 1, by rw [HKn.out]; omega, by go_num, fun j y hj hz => ?_, HK5.out⟩
            rcases Nat.lt_or_ge j k with c | c
            · exact HLow.out j y c hz
            · have e : j = k := by omega
              rw [e, HY.out] at hz
              rw [← Option.some.inj hz]; exact ⟨HB.out, HNE.out⟩
          case measure => simp only [intOf]; omega
    · have j1 : ¬ (k : Int) < (n : Int) := by omega
      go_wp2_with fail
      refine bodyPost_ret (results_tmp2 rfl _ _ _) rfl ?_
      have hkn : k = n := by omega
      subst hkn
      exact ⟨k, .inl ⟨rfl, ⟨by rw [HKn.out]; exact Nat.le_refl _, HLow.out, .inr ⟨rfl, fun y hy => by have := (List.getElem?_eq_some_iff.1 hy).1; rw [HKn.out] at this; omega⟩⟩, HKW.out.trans HKk.out⟩⟩
end Go.Proofs.YtdlieecpckpemaaGreatDoor
namespace Go.Proofs.YtdlieecpckpemaaGreatDoor
open Go.RowKit Go.Sort Go.Lib Go.Maps
/-- One rule laid over the one at lo, or in front of it. -/
def setX (X : List Rl) (lo : Nat) (b : Bool) (ρ : Rl) : List Rl := X.take lo ++ ρ :: X.drop (if b then lo + 1 else lo)
theorem setX_mem {X : List Rl} {lo : Nat} {b : Bool} {ρ z : Rl} (h : z ∈ setX X lo b ρ) : z ∈ X ∨ z = ρ := by
  unfold setX at h
  rcases List.mem_append.1 h with h | h
  · exact .inl (List.mem_of_mem_take h)
  · rcases List.mem_cons.1 h with h | h
    · exact .inr h
    · exact .inl (List.mem_of_mem_drop h)
theorem setX_len {X : List Rl} {lo : Nat} {b : Bool} {ρ : Rl} (hlo : lo ≤ X.length) (hb : b = true → lo < X.length) : (setX X lo b ρ).length = if b then X.length else X.length + 1 := by
  unfold setX
  rw [List.length_append, List.length_take, List.length_cons, List.length_drop]
  cases b with
  | true => have := hb rfl; simp only [if_true]; omega
  | false => simp only [Bool.false_eq_true, if_false]; omega
theorem FndIs.not_mem {K : List (Int × Int)} {q : Int × Int} {lo : Nat} (h : FndIs K q lo false) (hs : Strict K) : q ∉ K := fun hm => by
  obtain ⟨j, hj⟩ := List.mem_iff_getElem?.1 hm
  obtain ⟨_, h2, h3⟩ := h
  rcases h3 with ⟨e, _⟩ | ⟨_, h3⟩
  · cases e
  · rcases Nat.lt_or_ge j lo with c | c
    · exact (h2 j q c hj).2 rfl
    · have hl : lo < K.length := Nat.lt_of_le_of_lt c (List.getElem?_eq_some_iff.1 hj).1
      obtain ⟨z, hz⟩ : ∃ z, K[lo]? = some z := ⟨_, List.getElem?_eq_getElem hl⟩
      have h4 := h3 z hz
      rcases Nat.lt_or_ge lo j with d | d
      · have := swoA.trans _ _ _ h4 (strict_lt hs hz hj d)
        rw [swoA.irrefl] at this; cases this
      · have e : lo = j := by omega
        subst e
        rw [hz] at hj
        rw [Option.some.inj hj, swoA.irrefl] at h4; cases h4
theorem FndIs.mem {K : List (Int × Int)} {q : Int × Int} {lo : Nat} (h : FndIs K q lo true) : K[lo]? = some q := by
  rcases h.2.2 with ⟨_, h⟩ | ⟨e, _⟩
  · exact h
  · cases e
/-- What the document's Set comes to. -/
def RSet (X : List Rl) (q : Int × Int) (A : List Ar) (er : Int) (X' : List Rl) : Prop :=
  (X' = X ∧ ((vC q.1 q.2 = false ∧ er = 20) ∨ (vC q.1 q.2 = true ∧ 256 < A.length ∧ er = 34) ∨ (vC q.1 q.2 = true ∧ A.length ≤ 256 ∧ A.any (fun a => !vR a) = true ∧ er = 1) ∨ (vC q.1 q.2 = true ∧ A.length ≤ 256 ∧ A.any (fun a => !vR a) = false ∧ 4096 ≤ X.length ∧ q ∉ X.map (·.x) ∧ er = 41))) ∨
  (vC q.1 q.2 = true ∧ A.length ≤ 256 ∧ A.any (fun a => !vR a) = false ∧ (X.length < 4096 ∨ q ∈ X.map (·.x)) ∧ er = 0 ∧ ∃ lo b al' av' cv', FndIs (X.map (·.x)) q lo b ∧ SrtR al' A ∧ X' = setX X lo b ⟨q, al', av', cv'⟩)
/-- The blocks that Set turns. -/
abbrev SX (x : Nat) (v : Value) (j : Nat) : Prop := j = x ∨ v.ownBlock = some j
theorem DX.area_ne {w : World} {G : Nat → Prop} {x : Nat} {v : Value} {X : List Rl} (h : DX w G x v X) {ρ : Rl} (hρ : ρ ∈ X) {b : Nat} (h0 : 0 < ρ.al.length) (hc : AreasAt w b 0 ρ.al) : ¬ SX x v b := by
  obtain ⟨y, hy⟩ : ∃ y, ρ.al[0]? = some y := ⟨_, List.getElem?_eq_getElem h0⟩
  obtain ⟨c0, c1, c2, c3⟩ := hc 0 y hy
  obtain ⟨k, hk⟩ := List.mem_iff_getElem?.1 hρ
  obtain ⟨a, c, rfl⟩ := h.slice
  rintro (e | e)
  · subst e
    have := h.box.cell (i := 0) rfl
    rw [show 0 + 0 * 4 = 0 from rfl] at c0
    rw [this] at c0; cases c0
  · have hX0 : 0 < X.length := Nat.lt_of_le_of_lt (Nat.zero_le k) (List.getElem?_eq_some_iff.1 hk).1
    obtain ⟨ρ0, hρ0⟩ : ∃ ρ0, X[0]? = some ρ0 := ⟨_, List.getElem?_eq_getElem hX0⟩
    obtain ⟨g, e1, _, _, _, d2⟩ := h.get hρ0
    subst e1
    have eb : g = b := by simpa [Value.ownBlock] using e
    subst eb
    rw [show 0 * 3 + 2 = 0 + 0 * 4 + 2 from rfl, c2] at d2
    cases d2
theorem DX.ars_kp {w w' : World} {G : Nat → Prop} {x : Nat} {v : Value} {X : List Rl} (h : DX w G x v X) (k : Kp w w' (SX x v)) : ∀ ρ ∈ X, ρ.al.length ≤ 256 ∧ (0 < ρ.al.length → ∃ b, ρ.av = some ⟨b, 0, none⟩ ∧ G b ∧ AreasAt w' b 0 ρ.al) := fun ρ hρ => by
  obtain ⟨h1, h2⟩ := h.ars ρ hρ
  refine ⟨h1, fun h0 => ?_⟩
  obtain ⟨b, e, hb, hc⟩ := h2 h0
  exact ⟨b, e, hb, hc.kp k (h.area_ne hρ h0 hc)⟩
theorem row_box_ne {w : World} {x N n : Nat} {v v' : Value} {xs : List Value} (hb : Blk w x [v'] 39) (hr : w.ownsRow N 43 3 v n xs) : v.ownBlock ≠ some x := fun e => by
  have h1 : w.heap[x]? = some (.cells #[v'] 39 (0, 0)) := hb
  rcases hr.2 with ⟨q, _⟩ | ⟨g', c', cur', q, _, hh, _⟩
  · rw [q] at e; cases e
  · rw [q] at e
    have e' : g' = x := by simpa [Value.ownBlock] using e
    rw [e', h1] at hh
    injection hh with hh
    injection hh with _ hh _
    cases hh
theorem infoRule : ∃ i0, Tryz.prog.info? 43 = some i0 ∧ i0.zero = some (.agg #[.int .i64 0, .int .i64 0, .slice none 0 0]) ∧ i0.size = 3 ∧ i0.bytes = 40 := by
  have h : (Tryz.prog.info? 43).map (fun i => (i.zero, i.size, i.bytes)) = some (some (.agg #[.int .i64 0, .int .i64 0, .slice none 0 0]), 3, 40) := by kernel_rfl
  cases e : Tryz.prog.info? 43 with
  | none => rw [e] at h; cases h
  | some i =>
    rw [e] at h
    injection h with h
    injection h with h1 h2
    injection h2 with h2 h3
    exact ⟨i, rfl, h1, h2, h3⟩
theorem infoRule3 : (Tryz.prog.info? 43).map (·.size) = some 3 := by kernel_rfl
theorem elemRl : Tryz.prog.underlying 37 = some (.slice (Tryz.prog.elem 37)) := by kernel_rfl
theorem elemRlz (w : World) : (Go.sizeOf (Tryz.prog.elem 37)).run Tryz.prog w = .ok 3 w := by
  have : Tryz.prog.elem 37 = 43 := by kernel_rfl
  rw [this]; exact Tryz.sizeOf43 w
theorem areas_of_row {w : World} {B : Nat} {v : Value} {L : List Ar} (h : w.ownsRow B 52 4 v L.length (fl encV L)) : ∃ a c, v = .slice a L.length c ∧ (0 < L.length → ∃ b, a = some ⟨b, 0, none⟩ ∧ B ≤ b ∧ AreasAt w b 0 L) := by
  have hr := h
  rcases h.2 with ⟨e, e2⟩ | ⟨g, cap, cur, e, hb, _⟩
  · exact ⟨none, 0, by rw [e, e2], fun h0 => by omega⟩
  · subst e
    refine ⟨_, cap, rfl, fun _ => ⟨g, rfl, hb, fun i y hy => ?_⟩⟩
    have hil := (List.getElem?_eq_some_iff.1 hy).1
    have hc : ∀ t u, (encV y)[t]? = some u → t < 4 → w.cell? ⟨g, i * 4 + t, none⟩ = some u := fun t u hu ht => by
      rw [hr.cellAt _ (by omega)]; exact fl_get encV_len hy hu
    rw [Nat.zero_add]
    exact ⟨hc 0 _ rfl (by omega), hc 1 _ rfl (by omega), hc 2 _ rfl (by omega), hc 3 _ rfl (by omega)⟩
theorem SrtR.len {L A : List Ar} (h : SrtR L A) : L.length ≤ A.length := by
  have hn : L.Nodup := by
    have h1 := h.1
    rw [List.pairwise_map] at h1
    exact h1.imp (fun {a b} h e => by subst e; rw [swoR.irrefl] at h; cases h)
  exact hn.length_le_of_subset (fun x hx => (h.2 x).1 hx)
def VaR (W : World) (A : List Ar) (s : Value) (wr : World) : Prop := ∃ k : Nat, k ≤ A.length ∧ s = .int .i64 (k : Int) ∧ (∀ a ∈ A.take k, vR a = true) ∧ Kp W wr Nul
set_option maxRecDepth 20000 in
set_option maxHeartbeats 8000000 in
theorem rset_at (G : Nat → Prop) (x : Nat) (v : Value) (X : List Rl) (q1 q2 : Int) (A : List Ar) (a : Option Addr) (ac : Nat) (w : World) (h : DX w G x v X) (hX : X.length ≤ 4096) (hs : Strict (X.map (·.x))) (hA : A.length ≤ 9223372036854775807) (ha : 0 < A.length → ∃ b o, a = some ⟨b, o, none⟩ ∧ ¬ G b ∧ AreasAt w b o A) :
    Calls Tryz.prog 27 #[.pointer (some ⟨x, 0, none⟩), .agg #[.int .i64 q1, .int .i64 q2], .slice a A.length ac] w fun e w' => ∃ (er : Int) (v' : Value) (X' : List Rl), e = .returned (.int .i64 er) ∧ RSet X (q1, q2) A er X' ∧ DX w' (fun j => G j ∨ w.heap.size ≤ j) x v' X' ∧ Kp w w' (SX x v) := by
  obtain ⟨n, hn⟩ : ∃ n, A.length = n := ⟨_, rfl⟩
  have HN : Hid (A.length = n) := hn
  obtain ⟨nb, hnb⟩ : ∃ nb, w.heap.size = nb := ⟨_, rfl⟩
  obtain ⟨W, hW⟩ : ∃ W, w.alloc (.cells #[.int .i64 q1, .int .i64 q2] 29) = W := ⟨_, rfl⟩
  have HW : Hid (w.alloc (.cells #[.int .i64 q1, .int .i64 q2] 29) = W) := hW
  have HNB : Hid (w.heap.size = nb) := hnb
  have kW : Kp w W Nul := by rw [← hW]; exact (Kp.refl w Nul).alloc _
  have sW : W.heap.size = nb + 1 := by rw [← hW, World.size_alloc, hnb]
  have HSW : Hid (W.heap.size = nb + 1) := sW
  have HKW : Hid (Kp w W Nul) := kW
  have hq : Blk W nb [.int .i64 q1, .int .i64 q2] 29 := by rw [← hW, ← hnb]; exact Blk.new w _ _
  have HQ : Hid (∀ wq, Kp W wq (fun j => j < nb) → wq.cell? ⟨nb, 0, none⟩ = some (.int .i64 q1) ∧ wq.cell? ⟨nb, 1, none⟩ = some (.int .i64 q2)) := fun wq k => by
    have h1 := hq.kp k (fun e => by have e' : nb < nb := e; omega)
    exact ⟨h1.cell rfl, h1.cell rfl⟩
  have HD : Hid (DX w G x v X) := h
  have HXn : Hid (X.length ≤ 4096 ∧ Strict (X.map (·.x))) := ⟨hX, hs⟩
  have HAA : Hid (∀ wq, Kp w wq Nul → ∀ k, k < n → ∃ b o y, a = some ⟨b, o, none⟩ ∧ A[k]? = some y ∧ (wq.cell? ⟨b, o + k * 4, none⟩ = some (.int .i64 y.c1) ∧ wq.cell? ⟨b, o + k * 4 + 1, none⟩ = some (.int .i64 y.r1) ∧ wq.cell? ⟨b, o + k * 4 + 2, none⟩ = some (.int .i64 y.c2) ∧ wq.cell? ⟨b, o + k * 4 + 3, none⟩ = some (.int .i64 y.r2))) := fun wq kq k hk => by
    obtain ⟨b, o, e, _, hc⟩ := ha (by omega)
    obtain ⟨y, hy⟩ : ∃ y, A[k]? = some y := ⟨_, List.getElem?_eq_getElem (by omega)⟩
    exact ⟨b, o, y, e, hy, hc.kp kq (fun x => x) k y hy⟩
  have HSo : Hid (n ≤ 256 → ∀ wq, (0 < n → ∃ b o, a = some ⟨b, o, none⟩ ∧ AreasAt wq b o A) → Calls Tryz.prog 70 #[.slice a n ac] wq fun e w' => ∃ (L : List Ar) (v : Value), e = .returned v ∧ SrtR L A ∧ w'.ownsRow wq.heap.size 52 4 v L.length (fl encV L) ∧ Kp wq w' Nul) := fun h256 wq h => by
    have := sorted18_at A a ac wq (by omega) (fun h0 => h (by omega))
    rw [hn] at this
    exact this
  have HA0 : Hid (0 < n → ∃ b o, a = some ⟨b, o, none⟩ ∧ ¬ G b ∧ AreasAt w b o A) := fun h0 => ha (by omega)
  obtain ⟨V, hV⟩ : ∃ V, vC q1 q2 = V := ⟨_, rfl⟩
  have HV : Hid (vC q1 q2 = V) := hV
  have HVa : Hid (∀ wq, Calls Tryz.prog 17 #[.agg #[.int .i64 q1, .int .i64 q2]] wq fun e w' => e = .returned (.bool V) ∧ Kp wq w' Nul) := fun wq => by rw [← hV]; exact valid18_at q1 q2 wq
  have HEND : Hid (∀ er wq, Kp w wq Nul → ((vC q1 q2 = false ∧ er = 20) ∨ (vC q1 q2 = true ∧ 256 < A.length ∧ er = 34) ∨ (vC q1 q2 = true ∧ A.length ≤ 256 ∧ A.any (fun a => !vR a) = true ∧ er = 1) ∨ (vC q1 q2 = true ∧ A.length ≤ 256 ∧ A.any (fun a => !vR a) = false ∧ 4096 ≤ X.length ∧ (q1, q2) ∉ X.map (·.x) ∧ er = 41)) → ∃ (v' : Value) (X' : List Rl), RSet X (q1, q2) A er X' ∧ DX wq (fun j => G j ∨ w.heap.size ≤ j) x v' X' ∧ Kp w wq (SX x v)) := fun er wq k he => ⟨v, X, .inl ⟨rfl, he⟩, (HD.out.kpn k).mono (fun j _ hj => .inl hj), k.of_nul⟩
  rw [hn] at hA ⊢
  clear h hn hnb hW kW hq hX hs ha hV sW
  go_enter Tryz.func27, Tryz.ntmps27
  go_upto_region 1 with fail
  rw [HW.out, HNB.out]
  obtain ⟨s1, s2⟩ := HQ.out W (Kp.refl _ _)
  go_wp2_with fail
  refine (HVa.out _).mono ?_
  rintro e w2 ⟨rfl, hk2⟩
  have HK2 : Hid (Kp W w2 Nul) := hk2
  clear hk2 s1 s2 HVa
  cases V with
  | false =>
    go_wp2_with fail
    go_ret
    obtain ⟨v', X', h1, h2, h3⟩ := HEND.out 20 w2 (HKW.out.trans HK2.out) (.inl ⟨HV.out, rfl⟩)
    exact ⟨20, v', X', rfl, h1, h2, h3⟩
  | true =>
  by_cases hbig : 256 < n
  · have j1 : (256 : Int) < (n : Int) := by omega
    go_wp2_with fail
    go_ret
    obtain ⟨v', X', h1, h2, h3⟩ := HEND.out 34 w2 (HKW.out.trans HK2.out) (.inr (.inl ⟨HV.out, by rw [HN.out]; exact hbig, rfl⟩))
    exact ⟨34, v', X', rfl, h1, h2, h3⟩
  · have j1 : ¬ (256 : Int) < (n : Int) := by omega
    have hn256 : n ≤ 256 := by omega
    go_wp2_with fail
    go_loopw [8] (fun s wr => VaR w2 A s wr) (fun s _ => n - (intOf s).toNat)
    case atStart => exact ⟨0, Nat.zero_le _, rfl, fun a ha => by simp at ha, Kp.refl _ _⟩
    case round =>
      rename World => wk
      obtain ⟨k, hk, rfl, hva, hkp⟩ := hrel
      rw [HN.out] at hk
      have HVk : Hid (∀ a ∈ A.take k, vR a = true) := hva
      have HKk : Hid (Kp w wk Nul) := HKW.out.trans (HK2.out.trans hkp)
      have HK2k : Hid (Kp w2 wk Nul) := hkp
      clear hva hkp
      by_cases hlt : k < n
      · have j2 : (k : Int) < (n : Int) := by omega
        obtain ⟨b, o, y, rfl, hy, c1, c2, c3, c4⟩ := HAA.out wk HKk.out k hlt
        have HY : Hid (A[k]? = some y) := hy
        obtain ⟨B, hB⟩ : ∃ B, vR y = B := ⟨_, rfl⟩
        have HB : Hid (vR y = B) := hB
        have HVr : Hid (∀ wq, Calls Tryz.prog 68 #[.agg #[.int .i64 y.c1, .int .i64 y.r1, .int .i64 y.c2, .int .i64 y.r2]] wq fun e w' => e = .returned (.bool B) ∧ Kp wq w' Nul) := fun wq => by rw [← hB]; exact validArea18_at y wq
        generalize y.c1 = y1 at *
        generalize y.r1 = y2 at *
        generalize y.c2 = y3 at *
        generalize y.r2 = y4 at *
        clear hy hB
        go_wp2_with fail
        refine (HVr.out _).mono ?_
        rintro e w3 ⟨rfl, hk3⟩
        have HK3 : Hid (Kp wk w3 Nul) := hk3
        clear hk3 c1 c2 c3 c4 HVr
        cases B with
        | false =>
          go_wp2_with fail
          go_ret
          obtain ⟨v', X', h1, h2, h3⟩ := HEND.out 1 w3 (HKk.out.trans HK3.out) (.inr (.inr (.inl ⟨HV.out, by rw [HN.out]; exact hn256, List.any_eq_true.2 ⟨y, List.mem_of_getElem? HY.out, by rw [HB.out]; rfl⟩, rfl⟩)))
          exact ⟨1, v', X', rfl, h1, h2, h3⟩
        | true =>
          go_wp2_with fail
          go_roundw
          case rel =>
            refine ⟨k + 1, by rw [HN.out]; omega, by go_num, fun z hz => ?_, HK2k.out.trans HK3.out⟩
            rw [List.take_add_one, HY.out] at hz
            rcases List.mem_append.1 hz with hz | hz
            · exact HVk.out z hz
            · rw [List.mem_singleton.1 hz]; exact HB.out
          case measure => simp only [intOf]; omega
      · have j2 : ¬ (k : Int) < (n : Int) := by omega
        have HAll : Hid (A.any (fun a => !vR a) = false) := by
          show _ = _
          rw [List.any_eq_false]
          intro z hz
          have := HVk.out z (by rw [List.take_of_length_le (by rw [HN.out]; omega)]; exact hz)
          rw [this]; decide
        obtain ⟨s1, s2⟩ := HQ.out wk ((HK2.out.trans HK2k.out).of_nul)
        have HWk : Hid (Kp W wk Nul) := HK2.out.trans HK2k.out
        clear HVk HK2k hk hlt
        go_wp2_with fail
        refine (find18_at G x v X q1 q2 wk (HD.out.kpn HKk.out) (by have := HXn.out.1; omega)).mono ?_
        rintro e w4 ⟨lo, b, rfl, hfi, hk4⟩
        have HFI : Hid (FndIs (X.map (·.x)) (q1, q2) lo b) := hfi
        have HK4 : Hid (Kp w w4 Nul) := HKk.out.trans hk4
        have HW4 : Hid (Kp W w4 Nul) := HWk.out.trans hk4
        have hlo : lo ≤ X.length := by have := hfi.1; rwa [List.length_map] at this
        have HLO : Hid (lo ≤ X.length) := hlo
        clear hfi hk4 s1 s2 HWk hlo
        have HD4 : Hid (DX w4 G x v X) := HD.out.kpn HK4.out
        obtain ⟨va, vc, hv⟩ := HD.out.slice
        subst hv
        obtain ⟨N, hN⟩ : ∃ N, X.length = N := ⟨_, rfl⟩
        have HNX : Hid (X.length = N) := hN
        have hN4 : N ≤ 4096 := by rw [← hN]; exact HXn.out.1
        have r4 : w4.cell? ⟨x, 0, none⟩ = some (.slice va N vc) := by have := HD4.out.box.cell (i := 0) rfl; rw [hN] at this; exact this
        clear hN
        cases b with
        | true =>
          have hlN : lo < N := by
            have := (List.getElem?_eq_some_iff.1 HFI.out.mem).1
            rw [List.length_map, HNX.out] at this; exact this
          obtain ⟨ρ0, hρ0⟩ : ∃ ρ0, X[lo]? = some ρ0 := ⟨_, List.getElem?_eq_getElem (by rw [HNX.out]; exact hlN)⟩
          have HDn : Hid (DX w4 G x (.slice va N vc) X) := by have := HD4.out; rw [HNX.out] at this; exact this
          obtain ⟨g, hva, hNc, _⟩ := HDn.out.get hρ0
          subst hva
          have HROWB : Hid (w4.ownsRow 0 43 3 (.slice (some ⟨g, 0, none⟩) N vc) N (fl encL X)) := by have := HD4.out.row; rw [HNX.out] at this; exact this
          have HCEL : Hid (∀ ρ, (fl encL X).take (lo * 3) ++ encL ρ ++ (fl encL X).drop ((lo + 1) * 3) = fl encL (setX X lo true ρ)) := fun ρ => by
            rw [fl_take encL_len _ _ (by rw [HNX.out]; omega), fl_drop encL_len _ _ (by rw [HNX.out]; omega)]
            unfold setX
            rw [fl_append, fl_cons, List.append_assoc]; rfl
          have HLEN : Hid (∀ ρ, (setX X lo true ρ).length = N) := fun ρ => by rw [setX_len HLO.out (fun _ => by rw [HNX.out]; exact hlN)]; exact HNX.out
          have HBX : Hid (Blk w4 x [.slice (some ⟨g, 0, none⟩) N vc] 39) := HDn.out.box
          have HVO : Hid ((Value.slice (some ⟨g, 0, none⟩) X.length vc).ownBlock = some g) := rfl
          have hgl : g < w.heap.size := (HD.out.row.lt g rfl).2
          have HKB : Hid (Kp w w4 (SX x (.slice (some ⟨g, 0, none⟩) X.length vc))) := HK4.out.of_nul
          have HWB : Hid (Kp W w4 (fun j => j < nb)) := HW4.out.of_nul
          have HGG : Hid (x ≠ g ∧ nb ≠ g ∧ (∀ j, j < w.heap.size → j = g → SX x (.slice (some ⟨g, 0, none⟩) X.length vc) j) ∧ (G g ∨ w.heap.size ≤ g)) := by
            refine ⟨fun e => ?_, by have := HNB.out; omega, fun j _ e => .inr (by rw [e]; rfl), .inl (HD.out.gr g rfl)⟩
            have h1 : w4.heap[x]? = some (.cells #[.slice (some ⟨g, 0, none⟩) N vc] 39 (0, 0)) := HBX.out
            rcases HROWB.out.2 with ⟨q, _⟩ | ⟨g', c', cur', q, _, hh, _⟩
            · cases q
            · injection q with q1 q2 q3
              injection q1 with q1
              injection q1 with q1
              rw [← q1, ← e, h1] at hh
              injection hh with hh
              injection hh with _ hh _
              cases hh
          have hgB : g < w4.heap.size := (HROWB.out.lt g rfl).2
          have hER : Hid (X.length < 4096 ∨ (q1, q2) ∈ X.map (·.x)) := .inr (List.mem_of_getElem? HFI.out.mem)
          clear hρ0 HDn HD4 r4
          go_upto_region 18 with fail
          have HAB : Hid (0 < n → ∃ b o, a = some ⟨b, o, none⟩ ∧ ¬ G b ∧ AreasAt w4.drew b o A) := fun h0 => by
            obtain ⟨b, o, e, hg, hc⟩ := HA0.out h0
            exact ⟨b, o, e, hg, hc.kp (HKB.out.drew) (fun e => by
              rcases e with e | e
              · exact hg (e ▸ HD.out.gx)
              · exact hg (HD.out.gr b e))⟩
          have KS : Hid (∀ wq, Kp w4 wq (fun j => j = g) → (wq.cell? ⟨x, 0, none⟩ = some (.slice (some ⟨g, 0, none⟩) (N) vc) ∧ wq.cell? ⟨nb, 0, none⟩ = some (.int .i64 q1) ∧ wq.cell? ⟨nb, 1, none⟩ = some (.int .i64 q2))) := fun wq k => by
            have h1 := HQ.out w4 HWB.out
            have hnb : nb < w4.heap.size := by have := HWB.out.size; have := HSW.out; omega
            have e := k.block nb hnb HGG.out.2.1
            refine ⟨(HBX.out.kp k HGG.out.1).cell rfl, ?_, ?_⟩
            · have := h1.1; simp only [World.cell?] at this ⊢; rw [e]; exact this
            · have := h1.2; simp only [World.cell?] at this ⊢; rw [e]; exact this
          refine wp_region_noPanic ?_
          refine wp_region_hel (fun w' : World => Kp w4 w' (fun j => j = g)) (by kernel_rfl) ((Kp.refl w4 (fun j => j = g)).drew) (fun hHeld => ?_)
          refine wpH_takes (i := 0) (v := ?_) (some 69) rfl rfl (by kernel_rfl) (by kernel_rfl) (by kernel_rfl) (fun _ _ _ h => h) (Or.inl ⟨by rfl, ?_⟩) hHeld ?_
          rotate_left
          · intro w' hSw; clear hSw; go_simp; try with_reducible rfl
          simp only [Act.put, List.setIfInBounds_toArray, List.set_cons_zero, List.set_cons_succ]
          refine wpH_takes (i := 1) (v := ?_) (some 70) rfl rfl (by kernel_rfl) (by kernel_rfl) (by kernel_rfl) (fun _ _ _ h => h) (Or.inl ⟨by rfl, ?_⟩) hHeld ?_
          rotate_left
          · intro w' hSw; clear hSw; go_simp; try with_reducible rfl
          simp only [Act.put, List.setIfInBounds_toArray, List.set_cons_zero, List.set_cons_succ]
          refine wpH_takes (i := 2) (v := ?_) (some 71) rfl rfl (by kernel_rfl) (by kernel_rfl) (by kernel_rfl) (fun _ _ _ h => h) (Or.inl ⟨by rfl, ?_⟩) hHeld ?_
          rotate_left
          · intro w' hSw; clear hSw; go_simp; try with_reducible rfl
          simp only [Act.put, List.setIfInBounds_toArray, List.set_cons_zero, List.set_cons_succ]
          refine wpH_takes (i := 3) (v := ?_) (some 72) rfl rfl (by kernel_rfl) (by kernel_rfl) (by kernel_rfl) (fun _ _ _ h => h) (Or.inl ⟨by rfl, ?_⟩) hHeld ?_
          rotate_left
          · intro w' hSw; obtain ⟨p1, p2, p3⟩ := KS.out _ hSw; clear hSw; go_simp; try with_reducible rfl
          simp only [Act.put, List.setIfInBounds_toArray, List.set_cons_zero, List.set_cons_succ]
          refine wpH_takes (i := 4) (v := ?_) (some 73) rfl rfl (by kernel_rfl) (by kernel_rfl) (by kernel_rfl) (fun _ _ _ h => h) (Or.inl ⟨by rfl, ?_⟩) hHeld ?_
          rotate_left
          · intro w' hSw; clear hSw; go_simp; try with_reducible rfl
          simp only [Act.put, List.setIfInBounds_toArray, List.set_cons_zero, List.set_cons_succ]
          refine wpH_takes (i := 5) (v := ?_) (some 74) rfl rfl (by kernel_rfl) (by kernel_rfl) (by kernel_rfl) (fun _ _ _ h => h) (Or.inl ⟨by rfl, ?_⟩) hHeld ?_
          rotate_left
          · intro w' hSw; obtain ⟨p1, p2, p3⟩ := KS.out _ hSw; clear hSw; go_simp; try with_reducible rfl
          simp only [Act.put, List.setIfInBounds_toArray, List.set_cons_zero, List.set_cons_succ]
          refine wpH_takes (i := 6) (v := ?_) (some 75) rfl rfl (by kernel_rfl) (by kernel_rfl) (by kernel_rfl) (fun _ _ _ h => h) (Or.inl ⟨by rfl, ?_⟩) hHeld ?_
          rotate_left
          · intro w' hSw; clear hSw; go_simp; try with_reducible rfl
          simp only [Act.put, List.setIfInBounds_toArray, List.set_cons_zero, List.set_cons_succ]
          refine wpH_step (i := 7) (by kernel_rfl) rfl rfl (fun K hK => ?_)
          go_simp
          refine (HSo.out hn256 _ (fun h0 => by obtain ⟨b, o, e, _, hc⟩ := HAB.out h0; exact ⟨b, o, e, hc⟩)).mono ?_
          rintro e w5 ⟨al, v5, rfl, hsr, hro, hk5⟩
          obtain ⟨av, cv, hv5, har⟩ := areas_of_row hro
          subst hv5
          have HSR : Hid (SrtR al A) := hsr
          have k5 : Kp w4 w5 Nul := ((Kp.refl w4 Nul).drew).trans hk5
          have K5 : Hid (Kp w4 w5 Nul) := k5
          have HAR : Hid (0 < al.length → ∃ b, av = some ⟨b, 0, none⟩ ∧ w4.heap.size ≤ b ∧ AreasAt w5 b 0 al) := har
          have hst := own_stored w5 43 3 0 g (N) vc lo _ (encL ⟨(q1, q2), al, av, cv⟩) (row_kp HROWB.out k5 (fun _ _ e => e)) (hlN) rfl
          rw [HCEL.out] at hst
          have HST : Hid (w5.there g (lo * 3) (encL ⟨(q1, q2), al, av, cv⟩).toArray.size) := hst.1
          have HRW6 : Hid (World.ownsRow (w5.setCells g (lo * 3) (encL ⟨(q1, q2), al, av, cv⟩)) 0 43 3 (.slice (some ⟨g, 0, none⟩) (N) vc) (N) (fl encL (setX X lo true ⟨(q1, q2), al, av, cv⟩))) := hst.2.1
          have K6 : Hid (Kp w5 (w5.setCells g (lo * 3) (encL ⟨(q1, q2), al, av, cv⟩)) (fun j => j = g)) := hst.2.2
          clear hst hsr hro hk5 har k5
          refine hK.out _ _ (K5.out.of_nul) (fun hHeld => ?_)
          clear hK K
          (try simp only [Act.put, List.setIfInBounds_toArray, List.set_cons_zero, List.set_cons_succ])
          refine wpH_takes (i := 8) (v := ?_) (some 77) rfl rfl (by kernel_rfl) (by kernel_rfl) (by kernel_rfl) (fun _ _ _ h => h) (Or.inl ⟨by rfl, ?_⟩) hHeld ?_
          rotate_left
          · intro w' hSw; clear hSw; go_simp; try with_reducible rfl
          simp only [Act.put, List.setIfInBounds_toArray, List.set_cons_zero, List.set_cons_succ]
          refine wpH_takes (i := 9) (v := ?_) (some 78) rfl rfl (by kernel_rfl) (by kernel_rfl) (by kernel_rfl) (fun _ _ _ h => h) (Or.inl ⟨by rfl, ?_⟩) hHeld ?_
          rotate_left
          · intro w' hSw; clear hSw; go_simp; try with_reducible rfl
          simp only [Act.put, List.setIfInBounds_toArray, List.set_cons_zero, List.set_cons_succ]
          refine wpH_step (i := 10) (by kernel_rfl) rfl rfl (fun K hK => ?_)
          refine wp_store_mid 43 (.tmp 78) (.tmp 77) rfl g (lo * 3) (encL ⟨(q1, q2), al, av, cv⟩).toArray rfl rfl HST.out infoRule3 (all_oneCell_toArray (encL_one _)) ?_
          refine hK.out _ _ (K5.out.of_nul.trans K6.out) (fun hHeld => ?_)
          clear hK K
          (try simp only [Act.put])
          refine wpAnyH_done (by kernel_rfl) ?_ _
          refine NoPanic.normal ?_
          go_wp2_with fail
          go_ret
          have hwB : w.heap.size ≤ w4.heap.size := HKB.out.size
          have kF : Kp w (w5.setCells g (lo * 3) (encL ⟨(q1, q2), al, av, cv⟩)) (SX x _) := (HKB.out.trans K5.out.of_nul).trans' K6.out HGG.out.2.2.1
          refine ⟨0, rfl, .slice (some ⟨g, 0, none⟩) (N) vc, setX X lo true ⟨(q1, q2), al, av, cv⟩, .inr ⟨HV.out, by rw [HN.out]; exact hn256, HAll.out, hER.out, rfl, lo, true, al, av, cv, HFI.out, HSR.out, rfl⟩, ⟨.inl HD.out.gx, (HBX.out.kp K5.out (fun e => e)).kp K6.out HGG.out.1, by rw [HLEN.out]; exact HRW6.out, fun j hj => ?_, fun ρ hρ => ?_⟩, kF⟩
          · have e : g = j := by simpa [Value.ownBlock] using hj
            subst e
            exact HGG.out.2.2.2
          · rcases setX_mem hρ with hρ | rfl
            · obtain ⟨h1, h2⟩ := HD.out.ars_kp kF ρ hρ
              exact ⟨h1, fun h0 => by obtain ⟨b, e, hb, hc⟩ := h2 h0; exact ⟨b, e, .inl hb, hc⟩⟩
            · refine ⟨by have := HSR.out.len; rw [HN.out] at this; show al.length ≤ 256; omega, fun h0 => ?_⟩
              obtain ⟨b, e, hb, hc⟩ := HAR.out h0
              exact ⟨b, e, .inr (by omega), hc.kp K6.out (fun e => by have e' : b = g := e; omega)⟩
        | false =>
          have HNM : Hid ((q1, q2) ∉ X.map (·.x)) := HFI.out.not_mem HXn.out.2
          by_cases hfull : 4096 ≤ N
          · have j3 : (4096 : Int) ≤ (N : Int) := by omega
            go_wp2_with fail
            go_ret
            obtain ⟨v', X', h1, h2, h3⟩ := HEND.out 41 w4 HK4.out (.inr (.inr (.inr ⟨HV.out, by rw [HN.out]; exact hn256, HAll.out, by rw [HNX.out]; exact hfull, HNM.out, rfl⟩)))
            exact ⟨41, v', X', rfl, h1, h2, h3⟩
          · have j3 : ¬ (4096 : Int) ≤ (N : Int) := by omega
            obtain ⟨i0, hi, hz0, hz1, hz2⟩ := infoRule
            obtain ⟨w5, hw5⟩ : ∃ w5, w4.alloc (.cells #[.int .i64 0, .int .i64 0, .slice none 0 0] 43) = w5 := ⟨_, rfl⟩
            have HW5 : Hid (w4.alloc (.cells #[.int .i64 0, .int .i64 0, .slice none 0 0] 43) = w5) := hw5
            have k45 : Kp w4 w5 Nul := by rw [← hw5]; exact (Kp.refl w4 Nul).alloc _
            have HB5 : Hid (Blk w5 w4.heap.size (encL ⟨(0, 0), [], none, 0⟩) 43) := by show Blk _ _ _ _; rw [← hw5]; exact Blk.new w4 _ _
            have HK5 : Hid (Kp w w5 Nul) := HK4.out.trans k45
            have HKW5 : Hid (Kp W w5 Nul) := HW4.out.trans k45
            have HD5 : Hid (DX w5 G x (.slice va N vc) X) := by have := HD4.out.kpn k45; rw [HNX.out] at this; exact this
            have HRO5 : Hid (w5.ownsRow 0 43 3 (.slice va N vc) N (fl encL X)) := by have := HD5.out.row; rw [HNX.out] at this; exact this
            clear hw5 k45 HD4
            go_upto_region 16 with fail
            go_wp2_with (first
              | (at_builtin; rw [HW5.out]; refine wpList_append_tell _ rfl (.tmp 49) (.tmp 51) 37 rfl 0 43 i0 _ 3 40 Tryz.underlying37 hi hz0 hz1 hz2 rfl (by decide) _ _ _ rfl HRO5.out ⟨w4.heap.size, 0, none⟩ 1 1 (encL ⟨(0, 0), [], none, 0⟩) rfl rfl ?d1 ?d2 (by decide) ?d3 ?d4 (Nat.zero_le _) ?_)
              | fail)
            case d1 => exact fun j u hj => by rw [Addr.add_lit, Nat.zero_add]; exact HB5.out.at'.trans hj
            case d2 => exact encL_one _
            case d3 => unfold maxLen; omega
            case d4 => omega
            intro g c6 w6 hrow6 hg6 ht6
            have k56 : Kp w5 w6 (fun j => (Value.slice va N vc).ownBlock = some j) := ⟨hg6.os, hg6.tape, hg6.output, hg6.size, fun k hk hn => hg6.block k hk (fun e => hn e.symm)⟩
            have hbx6 : Blk w6 x [.slice va N vc] 39 := HD5.out.box.kp k56 (row_box_ne HD5.out.box HRO5.out)
            have hgx : x ≠ g := fun e => row_box_ne hbx6 hrow6 (by rw [e]; rfl)
            have hcap : N + 1 ≤ c6 := by
              rcases hrow6.2 with ⟨q, _⟩ | ⟨g', c', cur', q, _, _, hc', _⟩
              · cases q
              · injection q with q1 q2 q3
                omega
            have r6 : w6.cell? ⟨x, 0, none⟩ = some (.slice va N vc) := hbx6.cell rfl
            have f6 : w6.frozen? ⟨x, 0, none⟩ = false := hbx6.froz 0
            obtain ⟨w7, hw7⟩ : ∃ w7, w6.setCell ⟨x, 0, none⟩ (.slice (some ⟨g, 0, none⟩) (N + 1) c6) = w7 := ⟨_, rfl⟩
            have HW7 : Hid (w6.setCell ⟨x, 0, none⟩ (.slice (some ⟨g, 0, none⟩) (N + 1) c6) = w7) := hw7
            have k67 : Kp w6 w7 (fun j => j = x) := by rw [← hw7]; exact (Kp.refl w6 (fun j => j = x)).setCell ⟨x, 0, none⟩ _ (.inr rfl)
            have HB7 : Hid (Blk w7 x [.slice (some ⟨g, 0, none⟩) (N + 1) c6] 39) := by show Blk _ _ _ _; rw [← hw7]; exact hbx6.set 0 _
            have hrow7 := row_kpG hrow6 k67 (fun i hi e => by
              have e1 : g = i := by simpa [Value.ownBlock] using hi
              have e2 : i = x := e
              exact hgx (by rw [e1, e2]))
            have hlN : lo ≤ N := by have := HLO.out; rwa [HNX.out] at this
            obtain ⟨w8, hcp, hrow8, hk8⟩ := own_shift Tryz.prog w7.drew 37 43 3 0 g N c6 lo _ Tryz.underlying37 infoRule3 hrow7.drew hlN (fun v hv => by
              rcases List.mem_append.1 hv with q | q
              · exact fl_one encL_one _ v q
              · exact encL_one _ v q)
            obtain ⟨sA, hsA, hslA⟩ := slice_fromK 37 3 elemRl elemRlz g (N + 1) c6 (lo + 1) (by omega)
            obtain ⟨sB, hsB, hslB⟩ := slice_fromK 37 3 elemRl elemRlz g (N + 1) c6 lo (by omega)
            have hsB' := hsB (by omega)
            subst hsB'
            have hc1 : ((lo + 1 : Nat) : Int) = (lo : Int) + 1 := by omega
            rw [hc1, show N + 1 - (lo + 1) = N - lo by omega] at hslA
            have hcp' : ∀ ty, (Builtin.copy_ #[37, 37] ty #[.slice sA (N - lo) (c6 - (lo + 1)), .slice (some ⟨g, lo * 3, none⟩) (N + 1 - lo) (c6 - lo)]).run Tryz.prog w7.drew = .ok (goInt (N - lo : Nat)) w8 := fun ty => hcp ty sA _ _ (fun h => hsA (by omega))
            have k78 : Kp w7 w8 (fun j => j = g) := ((Kp.refl w7 (fun j => j = g)).drew).trans hk8
            have K78 : Hid (Kp w7 w8 (fun j => j = g)) := k78
            have HROWB : Hid (w8.ownsRow 0 43 3 (.slice (some ⟨g, 0, none⟩) (N + 1) c6) (N + 1) ((fl encL X ++ encL ⟨(0, 0), [], none, 0⟩).take ((lo + 1) * 3) ++ ((fl encL X ++ encL ⟨(0, 0), [], none, 0⟩).drop (lo * 3)).take ((N - lo) * 3))) := hrow8
            have HCEL : Hid (∀ ρ, ((fl encL X ++ encL ⟨(0, 0), [], none, 0⟩).take ((lo + 1) * 3) ++ ((fl encL X ++ encL ⟨(0, 0), [], none, 0⟩).drop (lo * 3)).take ((N - lo) * 3)).take (lo * 3) ++ encL ρ ++ ((fl encL X ++ encL ⟨(0, 0), [], none, 0⟩).take ((lo + 1) * 3) ++ ((fl encL X ++ encL ⟨(0, 0), [], none, 0⟩).drop (lo * 3)).take ((N - lo) * 3)).drop ((lo + 1) * 3) = fl encL (setX X lo false ρ)) := fun ρ => ins_cells encL_len X (encL ⟨(0, 0), [], none, 0⟩) rfl ρ lo N HNX.out hlN _ rfl
            have HLEN : Hid (∀ ρ, (setX X lo false ρ).length = N + 1) := fun ρ => by rw [setX_len HLO.out (fun e => by cases e), HNX.out]; rfl
            have HBX : Hid (Blk w8 x [.slice (some ⟨g, 0, none⟩) (N + 1) c6] 39) := HB7.out.kp k78 hgx
            have hob : (Value.slice va X.length vc).ownBlock = (Value.slice va N vc).ownBlock := by rw [HNX.out]
            have hvg : (Value.slice va X.length vc).ownBlock = some g ∨ w5.heap.size ≤ g := by rw [hob]; exact ht6
            have hvo : ∀ j, (Value.slice va X.length vc).ownBlock = some j → j < w.heap.size := fun j hj => (HD.out.row.lt j hj).2
            have hxw : x < w.heap.size := HD.out.box.lt
            have hw5s : w.heap.size ≤ w5.heap.size := HK5.out.size
            have hW5s : W.heap.size ≤ w5.heap.size := HKW5.out.size
            have HKB : Hid (Kp w w8 (SX x (.slice va X.length vc))) := ((HK5.out.of_nul.trans' k56 (fun j _ e => .inr (by rw [hob]; exact e))).trans' k67 (fun j _ e => .inl e)).trans' k78 (fun j hj e => by
              have e' : j = g := e
              rcases hvg with q | q
              · exact .inr (by rw [e']; exact q)
              · omega)
            have HWB : Hid (Kp W w8 (fun j => j < nb)) := ((HKW5.out.of_nul.trans' k56 (fun j _ e => by have := hvo j (by rw [hob]; exact e); have := HNB.out; show j < nb; omega)).trans' k67 (fun j _ e => by have e' : j = x := e; have := HNB.out; show j < nb; omega)).trans' k78 (fun j hj e => by
              have e' : j = g := e
              have h2 := HNB.out
              rcases hvg with q | q
              · have := hvo g q; show j < nb; omega
              · omega)
            have HGG : Hid (x ≠ g ∧ nb ≠ g ∧ (∀ j, j < w.heap.size → j = g → SX x (.slice va X.length vc) j) ∧ (G g ∨ w.heap.size ≤ g)) := by
              refine ⟨hgx, ?_, fun j hj e => ?_, ?_⟩
              · have h2 := HNB.out
                have h3 := HSW.out
                rcases hvg with q | q
                · have := hvo g q; omega
                · omega
              · rcases hvg with q | q
                · exact .inr (by rw [e]; exact q)
                · omega
              · rcases hvg with q | q
                · exact .inl (HD.out.gr g q)
                · exact .inr (by omega)
            have hgB : g < w8.heap.size := (hrow8.lt g rfl).2
            have hER : Hid (X.length < 4096 ∨ (q1, q2) ∈ X.map (·.x)) := .inl (by rw [HNX.out]; omega)
            have HX7 : Hid (∀ wq, Kp w7 wq (fun j => j = g) → wq.cell? ⟨x, 0, none⟩ = some (.slice (some ⟨g, 0, none⟩) (N + 1) c6)) := fun wq k => (HB7.out.kp k hgx).cell rfl
            have g2 : IntKind.i64.wrap ((lo : Int) + 1) = (lo : Int) + 1 := by rw [IntKind.wrap_i64]; omega
            have j5 : (lo : Int) < (N : Int) + 1 := by omega
            have hKd : Kp w7 w7.drew (fun j => j = g) := (Kp.refl w7 (fun j => j = g)).drew
            have HKd : Hid (Kp w7 w7.drew (fun j => j = g)) := hKd
            clear hg6 ht6 k56 hbx6 hw7 k67 hrow6 hrow7 hrow8 hk8 hcp hsA hsB hc1 k78 hob hvg hvo hxw hw5s hW5s hKd
            go_upto_region 17 with fail
            rw [HW7.out]
            refine wp_region_noPanic ?_
            refine wp_region_hel (fun w' : World => Kp w7 w' (fun j => j = g)) (by kernel_rfl) (HKd.out) (fun hHeld => ?_)
            refine wpH_takes (i := 0) (v := ?_) (some 55) rfl rfl (by kernel_rfl) (by kernel_rfl) (by kernel_rfl) (fun _ _ _ h => h) (Or.inl ⟨by rfl, ?_⟩) hHeld ?_
            rotate_left
            · intro w' hSw; clear hSw; go_simp; try with_reducible rfl
            simp only [Act.put, List.setIfInBounds_toArray, List.set_cons_zero, List.set_cons_succ]
            refine wpH_takes (i := 1) (v := ?_) (some 56) rfl rfl (by kernel_rfl) (by kernel_rfl) (by kernel_rfl) (fun _ _ _ h => h) (Or.inl ⟨by rfl, ?_⟩) hHeld ?_
            rotate_left
            · intro w' hSw; clear hSw; go_simp; try with_reducible rfl
            simp only [Act.put, List.setIfInBounds_toArray, List.set_cons_zero, List.set_cons_succ]
            refine wpH_takes (i := 2) (v := ?_) (some 57) rfl rfl (by kernel_rfl) (by kernel_rfl) (by kernel_rfl) (fun _ _ _ h => h) (Or.inl ⟨by rfl, ?_⟩) hHeld ?_
            rotate_left
            · intro w' hSw; clear hSw; go_simp; try with_reducible rfl
            simp only [Act.put, List.setIfInBounds_toArray, List.set_cons_zero, List.set_cons_succ]
            refine wpH_takes (i := 3) (v := ?_) (some 58) rfl rfl (by kernel_rfl) (by kernel_rfl) (by kernel_rfl) (fun _ _ _ h => h) (Or.inl ⟨by rfl, ?_⟩) hHeld ?_
            rotate_left
            · intro w' hSw; have p1 := HX7.out _ hSw; clear hSw; go_simp; try with_reducible rfl
            simp only [Act.put, List.setIfInBounds_toArray, List.set_cons_zero, List.set_cons_succ]
            refine wpH_takes (i := 4) (v := ?_) (some 59) rfl rfl (by kernel_rfl) (by kernel_rfl) (by kernel_rfl) (fun _ _ _ h => h) (Or.inl ⟨by rfl, ?_⟩) hHeld ?_
            rotate_left
            · intro w' hSw; clear hSw; go_simp; try with_reducible rfl
            simp only [Act.put, List.setIfInBounds_toArray, List.set_cons_zero, List.set_cons_succ]
            refine wpH_takes (i := 5) (v := ?_) (some 60) rfl rfl (by kernel_rfl) (by kernel_rfl) (by kernel_rfl) (fun _ _ _ h => h) (Or.inl ⟨by rfl, ?_⟩) hHeld ?_
            rotate_left
            · intro w' hSw; clear hSw; go_simp; try with_reducible rfl
            simp only [Act.put, List.setIfInBounds_toArray, List.set_cons_zero, List.set_cons_succ]
            refine wpH_takes (i := 6) (v := ?_) (some 61) rfl rfl (by kernel_rfl) (by kernel_rfl) (by kernel_rfl) (fun _ _ _ h => h) (Or.inl ⟨by rfl, ?_⟩) hHeld ?_
            rotate_left
            · intro w' hSw; have p1 := HX7.out _ hSw; clear hSw; go_simp; try with_reducible rfl
            simp only [Act.put, List.setIfInBounds_toArray, List.set_cons_zero, List.set_cons_succ]
            refine wpH_takes (i := 7) (v := ?_) (some 62) rfl rfl (by kernel_rfl) (by kernel_rfl) (by kernel_rfl) (fun _ _ _ h => h) (Or.inl ⟨by rfl, ?_⟩) hHeld ?_
            rotate_left
            · intro w' hSw; clear hSw; go_simp; try with_reducible rfl
            simp only [Act.put, List.setIfInBounds_toArray, List.set_cons_zero, List.set_cons_succ]
            refine wpH_takes (i := 8) (v := ?_) (some 63) rfl rfl (by kernel_rfl) (by kernel_rfl) (by kernel_rfl) (fun _ _ _ h => h) (Or.inl ⟨by rfl, ?_⟩) hHeld ?_
            rotate_left
            · intro w' hSw; clear hSw; go_simp; try with_reducible rfl
            simp only [Act.put, List.setIfInBounds_toArray, List.set_cons_zero, List.set_cons_succ]
            refine wpH_takes (i := 9) (v := ?_) (some 64) rfl rfl (by kernel_rfl) (by kernel_rfl) (by kernel_rfl) (fun _ _ _ h => h) (Or.inl ⟨by rfl, ?_⟩) hHeld ?_
            rotate_left
            · intro w' hSw; clear hSw; go_simp; try with_reducible rfl
            simp only [Act.put, List.setIfInBounds_toArray, List.set_cons_zero, List.set_cons_succ]
            refine wpH_takes (i := 10) (v := ?_) (some 65) rfl rfl (by kernel_rfl) (by kernel_rfl) (by kernel_rfl) (fun _ _ _ h => h) (Or.inl ⟨by rfl, ?_⟩) hHeld ?_
            rotate_left
            · intro w' hSw; have p1 := HX7.out _ hSw; clear hSw; go_simp; try with_reducible rfl
            simp only [Act.put, List.setIfInBounds_toArray, List.set_cons_zero, List.set_cons_succ]
            refine wpH_takes (i := 11) (v := ?_) (some 66) rfl rfl (by kernel_rfl) (by kernel_rfl) (by kernel_rfl) (fun _ _ _ h => h) (Or.inl ⟨by rfl, ?_⟩) hHeld ?_
            rotate_left
            · intro w' hSw; clear hSw; go_simp; try with_reducible rfl
            simp only [Act.put, List.setIfInBounds_toArray, List.set_cons_zero, List.set_cons_succ]
            refine wpH_takes (i := 12) (v := ?_) (some 67) rfl rfl (by kernel_rfl) (by kernel_rfl) (by kernel_rfl) (fun _ _ _ h => h) (Or.inl ⟨by rfl, ?_⟩) hHeld ?_
            rotate_left
            · intro w' hSw; have p1 := HX7.out _ hSw; clear hSw; go_simp; try with_reducible rfl
            simp only [Act.put, List.setIfInBounds_toArray, List.set_cons_zero, List.set_cons_succ]
            refine wpH_step (i := 13) (by kernel_rfl) rfl rfl (fun K hK => ?_)
            go_simp
            refine hK.out _ _ K78.out (fun hHeld => ?_)
            clear hK K
            (try simp only [Act.put, List.setIfInBounds_toArray, List.set_cons_zero, List.set_cons_succ])
            refine wpAnyH_done (by kernel_rfl) ?_ _
            refine NoPanic.normal ?_
            go_upto_region 18 with fail
            clear hslA hslB hcp' g2
            have HAB : Hid (0 < n → ∃ b o, a = some ⟨b, o, none⟩ ∧ ¬ G b ∧ AreasAt w8.drew b o A) := fun h0 => by
              obtain ⟨b, o, e, hg, hc⟩ := HA0.out h0
              exact ⟨b, o, e, hg, hc.kp (HKB.out.drew) (fun e => by
                rcases e with e | e
                · exact hg (e ▸ HD.out.gx)
                · exact hg (HD.out.gr b e))⟩
            have KS : Hid (∀ wq, Kp w8 wq (fun j => j = g) → (wq.cell? ⟨x, 0, none⟩ = some (.slice (some ⟨g, 0, none⟩) (N + 1) c6) ∧ wq.cell? ⟨nb, 0, none⟩ = some (.int .i64 q1) ∧ wq.cell? ⟨nb, 1, none⟩ = some (.int .i64 q2))) := fun wq k => by
              have h1 := HQ.out w8 HWB.out
              have hnb : nb < w8.heap.size := by have := HWB.out.size; have := HSW.out; omega
              have e := k.block nb hnb HGG.out.2.1
              refine ⟨(HBX.out.kp k HGG.out.1).cell rfl, ?_, ?_⟩
              · have := h1.1; simp only [World.cell?] at this ⊢; rw [e]; exact this
              · have := h1.2; simp only [World.cell?] at this ⊢; rw [e]; exact this
            refine wp_region_noPanic ?_
            refine wp_region_hel (fun w' : World => Kp w8 w' (fun j => j = g)) (by kernel_rfl) ((Kp.refl w8 (fun j => j = g)).drew) (fun hHeld => ?_)
            refine wpH_takes (i := 0) (v := ?_) (some 69) rfl rfl (by kernel_rfl) (by kernel_rfl) (by kernel_rfl) (fun _ _ _ h => h) (Or.inl ⟨by rfl, ?_⟩) hHeld ?_
            rotate_left
            · intro w' hSw; clear hSw; go_simp; try with_reducible rfl
            simp only [Act.put, List.setIfInBounds_toArray, List.set_cons_zero, List.set_cons_succ]
            refine wpH_takes (i := 1) (v := ?_) (some 70) rfl rfl (by kernel_rfl) (by kernel_rfl) (by kernel_rfl) (fun _ _ _ h => h) (Or.inl ⟨by rfl, ?_⟩) hHeld ?_
            rotate_left
            · intro w' hSw; clear hSw; go_simp; try with_reducible rfl
            simp only [Act.put, List.setIfInBounds_toArray, List.set_cons_zero, List.set_cons_succ]
            refine wpH_takes (i := 2) (v := ?_) (some 71) rfl rfl (by kernel_rfl) (by kernel_rfl) (by kernel_rfl) (fun _ _ _ h => h) (Or.inl ⟨by rfl, ?_⟩) hHeld ?_
            rotate_left
            · intro w' hSw; clear hSw; go_simp; try with_reducible rfl
            simp only [Act.put, List.setIfInBounds_toArray, List.set_cons_zero, List.set_cons_succ]
            refine wpH_takes (i := 3) (v := ?_) (some 72) rfl rfl (by kernel_rfl) (by kernel_rfl) (by kernel_rfl) (fun _ _ _ h => h) (Or.inl ⟨by rfl, ?_⟩) hHeld ?_
            rotate_left
            · intro w' hSw; obtain ⟨p1, p2, p3⟩ := KS.out _ hSw; clear hSw; go_simp; try with_reducible rfl
            simp only [Act.put, List.setIfInBounds_toArray, List.set_cons_zero, List.set_cons_succ]
            refine wpH_takes (i := 4) (v := ?_) (some 73) rfl rfl (by kernel_rfl) (by kernel_rfl) (by kernel_rfl) (fun _ _ _ h => h) (Or.inl ⟨by rfl, ?_⟩) hHeld ?_
            rotate_left
            · intro w' hSw; clear hSw; go_simp; try with_reducible rfl
            simp only [Act.put, List.setIfInBounds_toArray, List.set_cons_zero, List.set_cons_succ]
            refine wpH_takes (i := 5) (v := ?_) (some 74) rfl rfl (by kernel_rfl) (by kernel_rfl) (by kernel_rfl) (fun _ _ _ h => h) (Or.inl ⟨by rfl, ?_⟩) hHeld ?_
            rotate_left
            · intro w' hSw; obtain ⟨p1, p2, p3⟩ := KS.out _ hSw; clear hSw; go_simp; try with_reducible rfl
            simp only [Act.put, List.setIfInBounds_toArray, List.set_cons_zero, List.set_cons_succ]
            refine wpH_takes (i := 6) (v := ?_) (some 75) rfl rfl (by kernel_rfl) (by kernel_rfl) (by kernel_rfl) (fun _ _ _ h => h) (Or.inl ⟨by rfl, ?_⟩) hHeld ?_
            rotate_left
            · intro w' hSw; clear hSw; go_simp; try with_reducible rfl
            simp only [Act.put, List.setIfInBounds_toArray, List.set_cons_zero, List.set_cons_succ]
            refine wpH_step (i := 7) (by kernel_rfl) rfl rfl (fun K hK => ?_)
            go_simp
            refine (HSo.out hn256 _ (fun h0 => by obtain ⟨b, o, e, _, hc⟩ := HAB.out h0; exact ⟨b, o, e, hc⟩)).mono ?_
            rintro e w5 ⟨al, v5, rfl, hsr, hro, hk5⟩
            obtain ⟨av, cv, hv5, har⟩ := areas_of_row hro
            subst hv5
            have HSR : Hid (SrtR al A) := hsr
            have k5 : Kp w8 w5 Nul := ((Kp.refl w8 Nul).drew).trans hk5
            have K5 : Hid (Kp w8 w5 Nul) := k5
            have HAR : Hid (0 < al.length → ∃ b, av = some ⟨b, 0, none⟩ ∧ w8.heap.size ≤ b ∧ AreasAt w5 b 0 al) := har
            have hst := own_stored w5 43 3 0 g (N + 1) c6 lo _ (encL ⟨(q1, q2), al, av, cv⟩) (row_kp HROWB.out k5 (fun _ _ e => e)) (by omega) rfl
            rw [HCEL.out] at hst
            have HST : Hid (w5.there g (lo * 3) (encL ⟨(q1, q2), al, av, cv⟩).toArray.size) := hst.1
            have HRW6 : Hid (World.ownsRow (w5.setCells g (lo * 3) (encL ⟨(q1, q2), al, av, cv⟩)) 0 43 3 (.slice (some ⟨g, 0, none⟩) (N + 1) c6) (N + 1) (fl encL (setX X lo false ⟨(q1, q2), al, av, cv⟩))) := hst.2.1
            have K6 : Hid (Kp w5 (w5.setCells g (lo * 3) (encL ⟨(q1, q2), al, av, cv⟩)) (fun j => j = g)) := hst.2.2
            clear hst hsr hro hk5 har k5
            refine hK.out _ _ (K5.out.of_nul) (fun hHeld => ?_)
            clear hK K
            (try simp only [Act.put, List.setIfInBounds_toArray, List.set_cons_zero, List.set_cons_succ])
            refine wpH_takes (i := 8) (v := ?_) (some 77) rfl rfl (by kernel_rfl) (by kernel_rfl) (by kernel_rfl) (fun _ _ _ h => h) (Or.inl ⟨by rfl, ?_⟩) hHeld ?_
            rotate_left
            · intro w' hSw; clear hSw; go_simp; try with_reducible rfl
            simp only [Act.put, List.setIfInBounds_toArray, List.set_cons_zero, List.set_cons_succ]
            refine wpH_takes (i := 9) (v := ?_) (some 78) rfl rfl (by kernel_rfl) (by kernel_rfl) (by kernel_rfl) (fun _ _ _ h => h) (Or.inl ⟨by rfl, ?_⟩) hHeld ?_
            rotate_left
            · intro w' hSw; clear hSw; go_simp; try with_reducible rfl
            simp only [Act.put, List.setIfInBounds_toArray, List.set_cons_zero, List.set_cons_succ]
            refine wpH_step (i := 10) (by kernel_rfl) rfl rfl (fun K hK => ?_)
            refine wp_store_mid 43 (.tmp 78) (.tmp 77) rfl g (lo * 3) (encL ⟨(q1, q2), al, av, cv⟩).toArray rfl rfl HST.out infoRule3 (all_oneCell_toArray (encL_one _)) ?_
            refine hK.out _ _ (K5.out.of_nul.trans K6.out) (fun hHeld => ?_)
            clear hK K
            (try simp only [Act.put])
            refine wpAnyH_done (by kernel_rfl) ?_ _
            refine NoPanic.normal ?_
            go_wp2_with fail
            go_ret
            have hwB : w.heap.size ≤ w8.heap.size := HKB.out.size
            have kF : Kp w (w5.setCells g (lo * 3) (encL ⟨(q1, q2), al, av, cv⟩)) (SX x _) := (HKB.out.trans K5.out.of_nul).trans' K6.out HGG.out.2.2.1
            refine ⟨0, rfl, .slice (some ⟨g, 0, none⟩) (N + 1) c6, setX X lo false ⟨(q1, q2), al, av, cv⟩, .inr ⟨HV.out, by rw [HN.out]; exact hn256, HAll.out, hER.out, rfl, lo, false, al, av, cv, HFI.out, HSR.out, rfl⟩, ⟨.inl HD.out.gx, (HBX.out.kp K5.out (fun e => e)).kp K6.out HGG.out.1, by rw [HLEN.out]; exact HRW6.out, fun j hj => ?_, fun ρ hρ => ?_⟩, kF⟩
            · have e : g = j := by simpa [Value.ownBlock] using hj
              subst e
              exact HGG.out.2.2.2
            · rcases setX_mem hρ with hρ | rfl
              · obtain ⟨h1, h2⟩ := HD.out.ars_kp kF ρ hρ
                exact ⟨h1, fun h0 => by obtain ⟨b, e, hb, hc⟩ := h2 h0; exact ⟨b, e, .inl hb, hc⟩⟩
              · refine ⟨by have := HSR.out.len; rw [HN.out] at this; show al.length ≤ 256; omega, fun h0 => ?_⟩
                obtain ⟨b, e, hb, hc⟩ := HAR.out h0
                exact ⟨b, e, .inr (by omega), hc.kp K6.out (fun e => by have e' : b = g := e; omega)⟩
end Go.Proofs.YtdlieecpckpemaaGreatDoor
namespace Go.Proofs.YtdlieecpckpemaaGreatDoor
open Go.RowKit Go.Sort Go.Lib Go.Maps
theorem slice_fromA (T : TypeId) (k : Nat) (ht : Tryz.prog.underlying T = some (.slice (Tryz.prog.elem T))) (hz : ∀ w, (Go.sizeOf (Tryz.prog.elem T)).run Tryz.prog w = .ok k w) (b RN cc i : Nat) (hi : i ≤ RN) : ∃ ad : Addr, (i < cc → ad = ⟨b, i * k, none⟩) ∧ ∀ w, (Instr.sliceAt T (.slice (some ⟨b, 0, none⟩) RN cc) (some (.int .i64 (i : Int))) none none).run Tryz.prog w = .ok (.slice (some ad) (RN - i) (cc - i)) w := by
  refine ⟨if cc = i then ⟨b, 0, none⟩ else ⟨b, i * k, none⟩, fun h => if_neg (by omega), fun w => ?_⟩
  rw [run_sliceAt_slice w _ _ _ _ _ ht, run_slice_l w _ _ _ _ ht .i64 (i : Int) (by omega) (by omega), hz]
  have e : Int.toNat (i : Int) = i := Int.toNat_natCast i
  simp only [Result.andThen, sliced, e, Option.map_some, Addr.add]
  by_cases h : cc = i
  · simp only [if_pos h]
  · simp only [if_neg h]
    by_cases h0 : i * k = 0
    · rw [if_pos h0, h0]
    · rw [if_neg h0, Nat.zero_add]
/-- Behind a Drop. -/
def dropX (X : List Rl) (lo : Nat) (b : Bool) : List Rl := if b then X.take lo ++ X.drop (lo + 1) else X
theorem dropX_mem {X : List Rl} {lo : Nat} {b : Bool} {z : Rl} (h : z ∈ dropX X lo b) : z ∈ X := by
  unfold dropX at h
  cases b with
  | false => exact h
  | true =>
    rcases List.mem_append.1 h with h | h
    · exact List.mem_of_mem_take h
    · exact List.mem_of_mem_drop h
set_option maxRecDepth 20000 in
set_option maxHeartbeats 8000000 in
theorem rdrop_at (G : Nat → Prop) (x : Nat) (v : Value) (X : List Rl) (q1 q2 : Int) (w : World) (h : DX w G x v X) (hX : X.length ≤ 4096) :
    Calls Tryz.prog 30 #[.pointer (some ⟨x, 0, none⟩), .agg #[.int .i64 q1, .int .i64 q2]] w fun e w' => ∃ (lo : Nat) (b : Bool) (v' : Value), e = .returned (.bool b) ∧ FndIs (X.map (·.x)) (q1, q2) lo b ∧ DX w' (fun j => G j ∨ w.heap.size ≤ j) x v' (dropX X lo b) ∧ Kp w w' (SX x v) := by
  obtain ⟨nb, hnb⟩ : ∃ nb, w.heap.size = nb := ⟨_, rfl⟩
  obtain ⟨W, hW⟩ : ∃ W, w.alloc (.cells #[.int .i64 q1, .int .i64 q2] 29) = W := ⟨_, rfl⟩
  have HW : Hid (w.alloc (.cells #[.int .i64 q1, .int .i64 q2] 29) = W) := hW
  have HNB : Hid (w.heap.size = nb) := hnb
  have kW : Kp w W Nul := by rw [← hW]; exact (Kp.refl w Nul).alloc _
  have HKW : Hid (Kp w W Nul) := kW
  have hq : Blk W nb [.int .i64 q1, .int .i64 q2] 29 := by rw [← hW, ← hnb]; exact Blk.new w _ _
  have s1 : W.cell? ⟨nb, 0, none⟩ = some (.int .i64 q1) := hq.cell rfl
  have s2 : W.cell? ⟨nb, 1, none⟩ = some (.int .i64 q2) := hq.cell rfl
  have HD : Hid (DX w G x v X) := h
  have HF : Hid (Calls Tryz.prog 69 #[.pointer (some ⟨x, 0, none⟩), .agg #[.int .i64 q1, .int .i64 q2]] W fun e w' => ∃ (lo : Nat) (b : Bool), e = .returned (.tuple #[.int .i64 (lo : Int), .bool b]) ∧ FndIs (X.map (·.x)) (q1, q2) lo b ∧ Kp W w' Nul) := find18_at G x v X q1 q2 W (h.kpn kW) (by omega)
  clear h hnb hW kW hq
  obtain ⟨i0, hi, hz0, hz1, hz2⟩ := infoRule
  go_enter Tryz.func30, Tryz.ntmps30
  go_upto_region 1 with fail
  rw [HW.out, HNB.out]
  go_wp2_with fail
  refine HF.out.mono ?_
  rintro e w4 ⟨lo, b, rfl, hfi, hk4⟩
  have HFI : Hid (FndIs (X.map (·.x)) (q1, q2) lo b) := hfi
  have HK4 : Hid (Kp w w4 Nul) := HKW.out.trans hk4
  clear hfi hk4 s1 s2 HF
  cases b with
  | false =>
    go_wp2_with fail
    go_ret
    first
    | exact ⟨lo, false, v, rfl, HFI.out, (HD.out.kpn HK4.out).mono (fun j _ hj => .inl hj), HK4.out.of_nul⟩
    | exact ⟨lo, .inl ⟨v, rfl, HFI.out, (HD.out.kpn HK4.out).mono (fun j _ hj => .inl hj), HK4.out.of_nul⟩⟩
  | true =>
    obtain ⟨N, hN⟩ : ∃ N, X.length = N := ⟨_, rfl⟩
    have HNX : Hid (X.length = N) := hN
    have hN4 : N ≤ 4096 := by omega
    have hlN : lo < N := by
      have := (List.getElem?_eq_some_iff.1 HFI.out.mem).1
      rw [List.length_map, hN] at this; exact this
    obtain ⟨va, vc, hv⟩ := HD.out.slice
    subst hv
    obtain ⟨ρ0, hρ0⟩ : ∃ ρ0, X[lo]? = some ρ0 := ⟨_, List.getElem?_eq_getElem (by omega)⟩
    obtain ⟨g, hva, hNc, _⟩ := HD.out.get hρ0
    subst hva
    rw [hN] at hNc
    have HD4 : Hid (DX w4 G x (.slice (some ⟨g, 0, none⟩) X.length vc) X) := HD.out.kpn HK4.out
    have r4 : w4.cell? ⟨x, 0, none⟩ = some (.slice (some ⟨g, 0, none⟩) N vc) := by have := HD4.out.box.cell (i := 0) rfl; rw [hN] at this; exact this
    have HROW : Hid (w4.ownsRow 0 43 3 (.slice (some ⟨g, 0, none⟩) N vc) N (fl encL X)) := by have := HD4.out.row; rw [hN] at this; exact this
    have HCC : Hid (∀ wq, Kp w4 wq Nul → ∀ j u, (fl encL X)[j]? = some u → wq.cell? ⟨g, j, none⟩ = some u) := fun wq k j u hj => by
      have := (row_kp HROW.out k (fun _ _ e => e)).cells (g := g) rfl j u hj
      rw [Addr.add_lit, Nat.zero_add] at this; exact this
    have HT1 : Hid ((fl encL X).take (lo * 3) = fl encL (X.take lo)) := fl_take encL_len _ _ (by omega)
    have HT2 : Hid ((fl encL X).drop ((lo + 1) * 3) = fl encL (X.drop (lo + 1))) := fl_drop encL_len _ _ (by omega)
    have HL1 : Hid ((X.take lo).length = lo) := by show _ = _; rw [List.length_take]; omega
    have HL2 : Hid ((X.drop (lo + 1)).length = N - (lo + 1)) := by show _ = _; rw [List.length_drop, hN]
    have h1 : (lo : Int) ≤ (vc : Int) := by omega
    have h2 : lo ≤ vc := by omega
    have h3 : (0 : Int) ≤ (lo : Int) := by omega
    clear hρ0 hN hX
    go_upto_region 4 with fail
    go_wp2_with (first
      | (at_builtin; refine wpList_append_own _ rfl (.tmp 15) (.tmp 21) 37 rfl w.heap.size 43 i0 _ 3 40 Tryz.underlying37 hi hz0 hz1 hz2 rfl (by decide) _ _ _ rfl (World.ownsRow_nil _ _ _ _) ⟨g, 0, none⟩ lo _ (fl encL (X.take lo)) rfl ?c0 ?c1 ?c2 ?c3 ?c4 ?c5 ?_)
      | fail)
    case c0 => rw [fl_len encL_len, HL1.out]
    case c1 =>
      intro j u hj
      rw [Addr.add_lit, Nat.zero_add]
      rw [← HT1.out, List.getElem?_take] at hj
      split at hj
      · exact HCC.out w4 (Kp.refl _ _) j u hj
      · cases hj
    case c2 => exact fl_one encL_one _
    case c3 => unfold maxLen; omega
    case c4 => omega
    case c5 => exact HK4.out.size
    intro v6 w6 hrow6 hg6 hnil6
    have k46 : Kp w4 w6 Nul := Kp.of_grown hg6 (fun i e => by cases e)
    have HK6 : Hid (Kp w w6 Nul) := HK4.out.trans k46
    have HK46 : Hid (Kp w4 w6 Nul) := k46
    have HR6 : Hid (w6.ownsRow w.heap.size 43 3 v6 lo (fl encL (X.take lo))) := hrow6
    have hbx6 : Blk w6 x [.slice (some ⟨g, 0, none⟩) X.length vc] 39 := HD4.out.box.kp k46 (fun e => e)
    have HBX6 : Hid (Blk w6 x [.slice (some ⟨g, 0, none⟩) X.length vc] 39) := hbx6
    have r6 : w6.cell? ⟨x, 0, none⟩ = some (.slice (some ⟨g, 0, none⟩) N vc) := by have := hbx6.cell (i := 0) rfl; rw [HNX.out] at this; exact this
    obtain ⟨ad, had, hslA⟩ := slice_fromA 37 3 elemRl elemRlz g N vc (lo + 1) (by omega)
    have HAD : Hid (lo + 1 < vc → ad = ⟨g, (lo + 1) * 3, none⟩) := had
    have hc1 : ((lo + 1 : Nat) : Int) = (lo : Int) + 1 := by omega
    rw [hc1] at hslA
    have g2 : IntKind.i64.wrap ((lo : Int) + 1) = (lo : Int) + 1 := by rw [IntKind.wrap_i64]; omega
    clear hrow6 hg6 hnil6 k46 hbx6 had hc1 r4
    go_upto_region 5 with fail
    go_wp2_with (first
      | (at_builtin; refine wpList_append_own _ rfl (.tmp 24) (.tmp 31) 37 rfl w.heap.size 43 i0 _ 3 40 Tryz.underlying37 hi hz0 hz1 hz2 rfl (by decide) _ _ _ rfl HR6.out ad (N - (lo + 1)) _ (fl encL (X.drop (lo + 1))) rfl ?e0 ?e1 ?e2 ?e3 ?e4 ?e5 ?_)
      | fail)
    case e0 => rw [fl_len encL_len, HL2.out]
    case e1 =>
      intro j u hj
      have hjl := (List.getElem?_eq_some_iff.1 hj).1
      rw [fl_len encL_len, HL2.out] at hjl
      have hpos : 0 < N - (lo + 1) := by
        rcases Nat.eq_zero_or_pos (N - (lo + 1)) with q | q
        · rw [q] at hjl; omega
        · exact q
      rw [HAD.out (by omega), Addr.add_lit]
      refine HCC.out w6 HK46.out _ u ?_
      rw [← HT2.out, List.getElem?_drop] at hj
      exact hj
    case e2 => exact fl_one encL_one _
    case e3 => unfold maxLen; omega
    case e4 => omega
    case e5 => exact HK6.out.size
    intro v7 w7 hrow7 hg7 hnil7
    have k67 : Kp w6 w7 (fun i => v6.ownBlock = some i) := Kp.of_grown hg7 (fun i e => e)
    have hb6 : ∀ i, v6.ownBlock = some i → w.heap.size ≤ i := fun i hi => own_block HR6.out i hi
    have hxw : x < w.heap.size := HD.out.box.lt
    have hbx7 : Blk w7 x [.slice (some ⟨g, 0, none⟩) X.length vc] 39 := HBX6.out.kp k67 (fun e => by have := hb6 x e; omega)
    have r7 : w7.cell? ⟨x, 0, none⟩ = some (.slice (some ⟨g, 0, none⟩) X.length vc) := hbx7.cell rfl
    have f7 : w7.frozen? ⟨x, 0, none⟩ = false := hbx7.froz 0
    have HK7 : Hid (Kp w w7 Nul) := HK6.out.trans' k67 (fun i hi e => by have := hb6 i e; omega)
    have hlen : (dropX X lo true).length = lo + (N - (lo + 1)) := by
      unfold dropX
      rw [if_pos rfl, List.length_append, HL1.out, HL2.out]
    have hcel : fl encL (X.take lo) ++ fl encL (X.drop (lo + 1)) = fl encL (dropX X lo true) := by
      unfold dropX
      rw [if_pos rfl, fl_append]
    rw [← hlen, hcel] at hrow7
    obtain ⟨a7, c7, hv7⟩ := row_slice hrow7
    subst hv7
    obtain ⟨w8, hw8⟩ : ∃ w8, w7.setCell ⟨x, 0, none⟩ (.slice a7 (dropX X lo true).length c7) = w8 := ⟨_, rfl⟩
    have k78 : Kp w7 w8 (fun i => i = x) := by rw [← hw8]; exact (Kp.refl w7 (fun i => i = x)).setCell ⟨x, 0, none⟩ _ (.inr rfl)
    have HB8 : Hid (Blk w8 x [.slice a7 (dropX X lo true).length c7] 39) := by show Blk _ _ _ _; rw [← hw8]; exact hbx7.set 0 _
    have HR8 : Hid (w8.ownsRow w.heap.size 43 3 (.slice a7 (dropX X lo true).length c7) (dropX X lo true).length (fl encL (dropX X lo true))) := row_kpG hrow7 k78 (fun i hi e => by have e' : i = x := e; have := own_block hrow7 i hi; omega)
    have HK8 : Hid (Kp w w8 (fun i => i = x)) := HK7.out.of_nul.trans k78
    have HW8 : Hid (w7.setCell ⟨x, 0, none⟩ (.slice a7 (dropX X lo true).length c7) = w8) := hw8
    clear hrow7 hg7 hnil7 k67 hb6 hxw hbx7 hlen hcel k78 hw8 hslA g2
    go_wp2_with fail
    rw [HW8.out]
    go_ret
    have hend : FndIs (X.map (·.x)) (q1, q2) lo true ∧ DX w8 (fun j => G j ∨ w.heap.size ≤ j) x (.slice a7 (dropX X lo true).length c7) (dropX X lo true) ∧ Kp w w8 (SX x (.slice (some ⟨g, 0, none⟩) X.length vc)) := by
      refine ⟨HFI.out, ⟨.inl HD.out.gx, HB8.out, row_low HR8.out (Nat.zero_le _), fun j hj => .inr (own_block HR8.out j hj), fun ρ hρ => ?_⟩, HK8.out.mono (fun j _ e => .inl e)⟩
      obtain ⟨h1, h2⟩ := HD.out.ars_kp (HK8.out.mono (fun j _ e => .inl e)) ρ (dropX_mem hρ)
      exact ⟨h1, fun h0 => by obtain ⟨b, e, hb, hc⟩ := h2 h0; exact ⟨b, e, .inl hb, hc⟩⟩
    first
    | exact ⟨lo, true, _, rfl, hend⟩
    | exact ⟨lo, .inr ⟨_, rfl, hend⟩⟩
end Go.Proofs.YtdlieecpckpemaaGreatDoor
namespace Go.Proofs.YtdlieecpckpemaaGreatDoor
open Go.RowKit Go.Sort Go.Lib Go.Maps
def UsRd (W : World) (al : List Ar) (q : Int × Int) (s : Value) (wr : World) : Prop := ∃ k : Nat, k ≤ al.length ∧ s = .int .i64 (k : Int) ∧ (al.take k).any (fun a => a.has q) = false ∧ Kp W wr Nul
set_option maxRecDepth 20000 in
set_option maxHeartbeats 4000000 in
theorem uses18_at (x1 x2 : Int) (al : List Ar) (av : Option Addr) (cv : Nat) (q1 q2 : Int) (w : World) (hal : al.length ≤ 256) (ha : 0 < al.length → ∃ b o, av = some ⟨b, o, none⟩ ∧ AreasAt w b o al) :
    Calls Tryz.prog 72 #[.agg #[.int .i64 x1, .int .i64 x2, .slice av al.length cv], .agg #[.int .i64 q1, .int .i64 q2]] w fun e w' => e = .returned (.bool (al.any (fun a => a.has (q1, q2)))) ∧ Kp w w' Nul := by
  obtain ⟨n, hn⟩ : ∃ n, al.length = n := ⟨_, rfl⟩
  have HN : Hid (al.length = n) := hn
  rw [hn] at hal ⊢
  obtain ⟨nb, hnb⟩ : ∃ nb, w.heap.size = nb := ⟨_, rfl⟩
  obtain ⟨W, hW⟩ : ∃ W, (w.alloc (.cells #[.int .i64 x1, .int .i64 x2, .slice av n cv] 43)).alloc (.cells #[.int .i64 q1, .int .i64 q2] 29) = W := ⟨_, rfl⟩
  have HW : Hid ((w.alloc (.cells #[.int .i64 x1, .int .i64 x2, .slice av n cv] 43)).alloc (.cells #[.int .i64 q1, .int .i64 q2] 29) = W) := hW
  have HNB : Hid (w.heap.size = nb) := hnb
  have kW : Kp w W Nul := by rw [← hW]; exact ((Kp.refl w Nul).alloc _).alloc _
  have HKW : Hid (Kp w W Nul) := kW
  have hb1 : Blk W nb [.int .i64 x1, .int .i64 x2, .slice av n cv] 43 := by rw [← hW, ← hnb]; exact (Blk.new w _ _).alloc _
  have hb2 : Blk W (nb + 1) [.int .i64 q1, .int .i64 q2] 29 := by rw [← hW]; exact Blk.at_ (by rw [World.size_alloc, hnb]) _ _
  have HQ : Hid (∀ wq, Kp W wq Nul → wq.cell? ⟨nb, 2, none⟩ = some (.slice av n cv) ∧ wq.cell? ⟨nb + 1, 0, none⟩ = some (.int .i64 q1) ∧ wq.cell? ⟨nb + 1, 1, none⟩ = some (.int .i64 q2)) := fun wq k => by
    have h1 := hb1.kp k (fun x => x)
    have h2 := hb2.kp k (fun x => x)
    exact ⟨h1.cell rfl, h2.cell rfl, h2.cell rfl⟩
  have HA : Hid (∀ wq, Kp W wq Nul → ∀ k, k < n → ∃ b o y, av = some ⟨b, o, none⟩ ∧ al[k]? = some y ∧ (wq.cell? ⟨b, o + k * 4, none⟩ = some (.int .i64 y.c1) ∧ wq.cell? ⟨b, o + k * 4 + 1, none⟩ = some (.int .i64 y.r1) ∧ wq.cell? ⟨b, o + k * 4 + 2, none⟩ = some (.int .i64 y.c2) ∧ wq.cell? ⟨b, o + k * 4 + 3, none⟩ = some (.int .i64 y.r2))) := fun wq kq k hk => by
    obtain ⟨b, o, e, hc⟩ := ha (by omega)
    obtain ⟨y, hy⟩ : ∃ y, al[k]? = some y := ⟨_, List.getElem?_eq_getElem (by omega)⟩
    exact ⟨b, o, y, e, hy, hc.kp (kW.trans kq) (fun x => x) k y hy⟩
  obtain ⟨R, hR⟩ : ∃ R, al.any (fun a => a.has (q1, q2)) = R := ⟨_, rfl⟩
  have HR : Hid (al.any (fun a => a.has (q1, q2)) = R) := hR
  rw [hR]
  clear ha hn hnb hW kW hb1 hb2 hR
  go_enter Tryz.func72, Tryz.ntmps72
  go_upto_region 1 with fail
  rw [HW.out, HNB.out]
  obtain ⟨s1, s2, s3⟩ := HQ.out W (Kp.refl _ _)
  go_wp2_with fail
  go_loopw [5] (fun s wr => UsRd W al (q1, q2) s wr) (fun s _ => n - (intOf s).toNat)
  case atStart => exact ⟨0, Nat.zero_le _, rfl, by simp, Kp.refl _ _⟩
  case round =>
    clear s1 s2 s3
    rename World => wk
    obtain ⟨k, hk, rfl, hno, hkp⟩ := hrel
    rw [HN.out] at hk
    have HNo : Hid ((al.take k).any (fun a => a.has (q1, q2)) = false) := hno
    have HKk : Hid (Kp W wk Nul) := hkp
    clear hno hkp
    obtain ⟨s1, s2, s3⟩ := HQ.out wk HKk.out
    by_cases hlt : k < n
    · have j1 : (k : Int) < (n : Int) := by omega
      obtain ⟨b, o, ⟨y1, y2, y3, y4⟩, rfl, hy, c1, c2, c3, c4⟩ := HA.out wk HKk.out k hlt
      have KS : Hid (∀ wq, Kp wk wq Nul → (wq.cell? ⟨nb, 2, none⟩ = some (.slice (some ⟨b, o, none⟩) n cv) ∧ wq.cell? ⟨nb + 1, 0, none⟩ = some (.int .i64 q1) ∧ wq.cell? ⟨nb + 1, 1, none⟩ = some (.int .i64 q2) ∧ wq.cell? ⟨b, o + k * 4, none⟩ = some (.int .i64 y1) ∧ wq.cell? ⟨b, o + k * 4 + 1, none⟩ = some (.int .i64 y2) ∧ wq.cell? ⟨b, o + k * 4 + 2, none⟩ = some (.int .i64 y3) ∧ wq.cell? ⟨b, o + k * 4 + 3, none⟩ = some (.int .i64 y4))) := fun wq kq => by
        obtain ⟨t1, t2, t3⟩ := HQ.out wq (HKk.out.trans kq)
        have e := kq.block b (cell_lt c1) (fun x => x)
        simp only [World.cell?] at c1 c2 c3 c4
        refine ⟨t1, t2, t3, ?_, ?_, ?_, ?_⟩ <;> simp only [World.cell?] <;> rw [e] <;> assumption
      obtain ⟨B, hB⟩ : ∃ B, Ar.has ⟨y1, y2, y3, y4⟩ (q1, q2) = B := ⟨_, rfl⟩
      have HB : Hid (Ar.has ⟨y1, y2, y3, y4⟩ (q1, q2) = B) := hB
      have HY : Hid (al[k]? = some ⟨y1, y2, y3, y4⟩) := hy
      have HIN : Hid (∀ wz, Calls Tryz.prog 20 #[.agg #[.int .i64 y1, .int .i64 y2, .int .i64 y3, .int .i64 y4], .agg #[.int .i64 q1, .int .i64 q2]] wz fun e w' => e = .returned (.bool B) ∧ Kp wz w' Nul) := fun wz => by rw [← hB]; exact in18_at ⟨y1, y2, y3, y4⟩ q1 q2 wz
      clear hB hy
      go_upto_region 4 with fail
      clear c1 c2 c3 c4 s1 s2 s3
      refine wp_region_noPanic ?_
      refine wp_region_hel (fun w' : World => Kp wk w' Nul) (by kernel_rfl) ((Kp.refl wk Nul).drew) (fun hHeld => ?_)
      refine wpH_takes (i := 0) (v := ?_) (some 14) rfl rfl (by kernel_rfl) (by kernel_rfl) (by kernel_rfl) (fun _ _ _ h => h) (Or.inl ⟨by rfl, ?_⟩) hHeld ?_
      rotate_left
      · intro w' hSw; clear hSw; go_simp; try with_reducible rfl
      simp only [Act.put, List.setIfInBounds_toArray, List.set_cons_zero, List.set_cons_succ]
      refine wpH_takes (i := 1) (v := ?_) (some 15) rfl rfl (by kernel_rfl) (by kernel_rfl) (by kernel_rfl) (fun _ _ _ h => h) (Or.inl ⟨by rfl, ?_⟩) hHeld ?_
      rotate_left
      · intro w' hSw; obtain ⟨p1, p2, p3, p4, p5, p6, p7⟩ := KS.out _ hSw; clear hSw; go_simp; try with_reducible rfl
      simp only [Act.put, List.setIfInBounds_toArray, List.set_cons_zero, List.set_cons_succ]
      refine wpH_takes (i := 2) (v := ?_) (some 16) rfl rfl (by kernel_rfl) (by kernel_rfl) (by kernel_rfl) (fun _ _ _ h => h) (Or.inl ⟨by rfl, ?_⟩) hHeld ?_
      rotate_left
      · intro w' hSw; clear hSw; go_simp; try with_reducible rfl
      simp only [Act.put, List.setIfInBounds_toArray, List.set_cons_zero, List.set_cons_succ]
      refine wpH_takes (i := 3) (v := ?_) (some 17) rfl rfl (by kernel_rfl) (by kernel_rfl) (by kernel_rfl) (fun _ _ _ h => h) (Or.inl ⟨by rfl, ?_⟩) hHeld ?_
      rotate_left
      · intro w' hSw; clear hSw; go_simp; try with_reducible rfl
      simp only [Act.put, List.setIfInBounds_toArray, List.set_cons_zero, List.set_cons_succ]
      refine wpH_takes (i := 4) (v := ?_) (some 18) rfl rfl (by kernel_rfl) (by kernel_rfl) (by kernel_rfl) (fun _ _ _ h => h) (Or.inl ⟨by rfl, ?_⟩) hHeld ?_
      rotate_left
      · intro w' hSw; obtain ⟨p1, p2, p3, p4, p5, p6, p7⟩ := KS.out _ hSw; clear hSw; go_simp; try with_reducible rfl
      simp only [Act.put, List.setIfInBounds_toArray, List.set_cons_zero, List.set_cons_succ]
      refine wpH_takes (i := 5) (v := ?_) (some 19) rfl rfl (by kernel_rfl) (by kernel_rfl) (by kernel_rfl) (fun _ _ _ h => h) (Or.inl ⟨by rfl, ?_⟩) hHeld ?_
      rotate_left
      · intro w' hSw; obtain ⟨p1, p2, p3, p4, p5, p6, p7⟩ := KS.out _ hSw; clear hSw; go_simp; try with_reducible rfl
      simp only [Act.put, List.setIfInBounds_toArray, List.set_cons_zero, List.set_cons_succ]
      refine wpH_step (i := 6) (by kernel_rfl) rfl rfl (fun K hK => ?_)
      go_simp
      refine (HIN.out _).mono ?_
      rintro e w5 ⟨rfl, hk5'⟩
      have hk5 : Kp wk w5 Nul := ((Kp.refl wk Nul).drew).trans hk5'
      clear hk5'
      refine hK.out _ _ hk5 (fun hHeld => ?_)
      clear hK K
      (try simp only [Act.put, List.setIfInBounds_toArray, List.set_cons_zero, List.set_cons_succ])
      refine wpH_takes (i := 7) (v := ?_) (some 6) rfl rfl (by kernel_rfl) (by kernel_rfl) (by kernel_rfl) (fun _ _ _ h => h) (Or.inl ⟨by rfl, ?_⟩) hHeld ?_
      rotate_left
      · intro w' hSw; clear hSw; go_simp; try with_reducible rfl
      simp only [Act.put, List.setIfInBounds_toArray, List.set_cons_zero, List.set_cons_succ]
      refine wpAnyH_done (by kernel_rfl) ?_ _
      refine NoPanic.normal ?_
      go_upto_region 5 with fail
      have HK5 : Hid (Kp W w5 Nul) := HKk.out.trans hk5
      clear hk5
      cases B with
      | true =>
        have hRt : R = true := by rw [← HR.out]; exact List.any_eq_true.2 ⟨_, List.mem_of_getElem? HY.out, HB.out⟩
        subst hRt
        go_wp2_with fail
        go_ret
        exact ⟨rfl, HKW.out.trans HK5.out⟩
      | false =>
        go_wp2_with fail
        go_roundw
        case rel => exact ⟨k + 1, by rw [HN.out]; omega, by go_num, by rw [List.take_add_one, HY.out, List.any_append, HNo.out]; simp [HB.out], HK5.out⟩
        case measure => simp only [intOf]; omega
    · have j1 : ¬ (k : Int) < (n : Int) := by omega
      have hRf : R = false := by
        rw [← HR.out]
        have h := HNo.out
        rw [List.take_of_length_le (by rw [HN.out]; omega)] at h
        exact h
      subst hRf
      go_wp2_with fail
      go_ret
      exact ⟨rfl, HKW.out.trans HKk.out⟩
set_option maxHeartbeats 1000000 in
theorem new18_at (w : World) : Calls Tryz.prog 8 #[] w fun e w' => ∃ x, e = .returned (.pointer (some ⟨x, 0, none⟩)) ∧ DX w' (fun j => w.heap.size ≤ j) x (.slice none 0 0) [] ∧ Kp w w' Nul := by
  have hd : DX (w.alloc (.cells #[.slice none 0 0] 39)) (fun j => w.heap.size ≤ j) w.heap.size (.slice none 0 0) [] :=
    ⟨Nat.le_refl _, Blk.new w _ _, World.ownsRow_nil _ _ _ _, fun j hj => (by cases hj), fun ρ hρ => (by cases hρ)⟩
  have HD : Hid (DX (w.alloc (.cells #[.slice none 0 0] 39)) (fun j => w.heap.size ≤ j) w.heap.size (.slice none 0 0) []) := hd
  clear hd
  go_enter Tryz.func8, Tryz.ntmps8
  go_wp2_with fail
  go_ret
  exact ⟨_, rfl, HD.out, (Kp.refl w Nul).alloc _⟩
end Go.Proofs.YtdlieecpckpemaaGreatDoor
