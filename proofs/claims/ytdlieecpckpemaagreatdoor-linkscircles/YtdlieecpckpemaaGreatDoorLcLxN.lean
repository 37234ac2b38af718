/- Rows of structs of one's own: copy within the row, a struct stored into it. No function of the program here. The document's Sorted. -/
import Derived.Test.YtdlieecpckpemaaGreatDoorLcLxn
import Derived.Laws.CopyRow
import Derived.Laws.IdiomCopy
import Derived.Laws.OwnMore
import Derived.Deep.MidRow
namespace Go.Proofs.YtdlieecpckpemaaGreatDoor
open Go.RowKit Go.Sort Go.Lib Go.Maps
/-- A drawn region: one operation with a guard. -/
theorem wpH_stepG {P : Program} {ops : Array Oper} {Q : Exit → Act → World → Prop} {md : Region.Mode} {S : World → Prop} {i : Nat} {o : Oper} {n : Nat} {on : Array Bool} {a : Act} {w : World} (hr : Region.ready md ops on = [i]) (ho : ops[i]? = some o) (hg : Region.wanted o (yielded ops a.tmps) = true)
    (h : ∀ K' : Act → World → Prop, Hid (∀ a w, S w → (S w → wpAnyH P md ops Q S n (on.setIfInBounds i true) a w) → K' a w) → o.wp P a w K' Q) : wpAnyH P md ops Q S (n + 1) on a w := by
  refine wpAnyH_all hr (by simp) (fun j hj => ?_)
  obtain rfl := List.mem_singleton.1 hj
  unfold wpOp
  rw [ho]
  simp only [hg, if_true]
  exact .inl (h _ (fun a w hS hW => ⟨hS, hW hS⟩))
/-- The cells of a list of structs. -/
def fl {α : Type} (enc : α → List Value) (L : List α) : List Value := L.flatMap enc
section
variable {α : Type} {enc : α → List Value} {k : Nat}
theorem fl_nil : fl enc ([] : List α) = [] := rfl
theorem fl_cons (x : α) (L : List α) : fl enc (x :: L) = enc x ++ fl enc L := rfl
theorem fl_append (A B : List α) : fl enc (A ++ B) = fl enc A ++ fl enc B := by unfold fl; rw [List.flatMap_append]
theorem fl_len (hk : ∀ x, (enc x).length = k) : ∀ L : List α, (fl enc L).length = L.length * k
  | [] => by rw [fl_nil]; simp
  | x :: L => by rw [fl_cons, List.length_append, hk, fl_len hk L, List.length_cons, Nat.succ_mul]; omega
theorem fl_take (hk : ∀ x, (enc x).length = k) (L : List α) (i : Nat) (hi : i ≤ L.length) : (fl enc L).take (i * k) = fl enc (L.take i) := by
  have h := fl_append (enc := enc) (L.take i) (L.drop i)
  rw [List.take_append_drop] at h
  rw [h, List.take_append_of_le_length (by rw [fl_len hk, List.length_take, Nat.min_eq_left hi]; exact Nat.le_refl _), List.take_of_length_le (by rw [fl_len hk, List.length_take, Nat.min_eq_left hi]; exact Nat.le_refl _)]
theorem fl_drop (hk : ∀ x, (enc x).length = k) (L : List α) (i : Nat) (hi : i ≤ L.length) : (fl enc L).drop (i * k) = fl enc (L.drop i) := by
  have h := fl_append (enc := enc) (L.take i) (L.drop i)
  have e : (fl enc (L.take i)).length = i * k := by rw [fl_len hk, List.length_take, Nat.min_eq_left hi]
  rw [List.take_append_drop] at h
  rw [h, ← e, List.drop_left]
theorem fl_get (hk : ∀ x, (enc x).length = k) {L : List α} {i : Nat} {x : α} (hx : L[i]? = some x) {t : Nat} {v : Value} (hv : (enc x)[t]? = some v) : (fl enc L)[i * k + t]? = some v := by
  obtain ⟨hi, _⟩ := List.getElem?_eq_some_iff.1 hx
  obtain ⟨ht, _⟩ := List.getElem?_eq_some_iff.1 hv
  have h := fl_append (enc := enc) (L.take i) (L.drop i)
  have e : (fl enc (L.take i)).length = i * k := by rw [fl_len hk, List.length_take, Nat.min_eq_left (Nat.le_of_lt hi)]
  have hd : L.drop i = x :: L.drop (i + 1) := by
    rw [List.drop_eq_getElem_cons hi]
    rw [(List.getElem?_eq_some_iff.1 hx).2]
  rw [List.take_append_drop] at h
  rw [h, List.getElem?_append_right (by omega), e, show i * k + t - i * k = t by omega, hd, fl_cons, List.getElem?_append_left ht]
  exact hv
theorem fl_one (h1 : ∀ x, ∀ v ∈ enc x, v.oneCell' = true) (L : List α) : ∀ v ∈ fl enc L, v.oneCell' = true := fun v hv => by
  obtain ⟨x, _, hx⟩ := List.mem_flatMap.1 hv
  exact h1 x v hx
end
theorem run_copyK (P : Program) (w : World) (dT sT ty elem : TypeId) (k m g o dLen dCap : Nat) (a : Addr) (sLen sCap : Nat) (cur : Array Value) (t : TypeId) (cs : List Value)
    (hu : P.underlying dT = some (.slice elem)) (hs : (P.info? elem).map (·.size) = some k)
    (hg : w.heap[g]? = some (.cells cur t (0, 0))) (hm : Nat.min sLen dLen = m) (hn : cs.length = m * k)
    (hsrc : ∀ j v, cs[j]? = some v → w.cell? (a.add j) = some v) (hfit : o + cs.length ≤ cur.size) (h1 : ∀ v ∈ cs, v.oneCell' = true) :
    (Builtin.copy_ #[dT, sT] ty #[.slice (some ⟨g, o, none⟩) dLen dCap, .slice (some a) sLen sCap]).run P w =
      .ok (goInt m) (w.setRow g (cur.toList.take o ++ cs ++ cur.toList.drop (o + cs.length)).toArray) := by
  have hl := run_loadCells_list (P := P) w a cs hsrc
  have hst := run_storeCells_at P g o t cs 0 cur w hg (by simpa using hfit) h1
  cases hq : P.info? elem with
  | none => simp [hq] at hs
  | some i =>
    have hi : i.size = k := by simpa [hq] using hs
    rw [hn] at hl
    simp [Builtin.copy_, run_underlying hu, Builtin.lenOf, Builtin.firstCells, sizeOf, typeInfo, hq, hi, hm, hl, hst]
theorem run_copyK_none (P : Program) (w : World) (dT sT ty elem : TypeId) (k : Nat) (d a : Option Addr) (dLen dCap sLen sCap : Nat) (hu : P.underlying dT = some (.slice elem)) (hs : (P.info? elem).map (·.size) = some k) (hn : Nat.min sLen dLen = 0) :
    (Builtin.copy_ #[dT, sT] ty #[.slice d dLen dCap, .slice a sLen sCap]).run P w = .ok (goInt 0) w := by
  cases hq : P.info? elem with
  | none => simp [hq] at hs
  | some i => cases a <;> cases d <;> simp [Builtin.copy_, run_underlying hu, Builtin.lenOf, Builtin.firstCells, sizeOf, typeInfo, hq, hn, loadCells, loadCellsFrom, storeCells]
/-- 'copy(out[i+1:], out[i:])': the elements from place i on go one place on. -/
theorem own_shift (P : Program) (w : World) (T e : TypeId) (k B g n cap i : Nat) (xs : List Value) (hu : P.underlying T = some (.slice e)) (hs : (P.info? e).map (·.size) = some k)
    (h : w.ownsRow B e k (.slice (some ⟨g, 0, none⟩) (n + 1) cap) (n + 1) xs) (hi : i ≤ n) (h1 : ∀ v ∈ xs, v.oneCell' = true) :
    ∃ w', (∀ ty ad c1 c2, (i < n → ad = some ⟨g, (i + 1) * k, none⟩) → (Builtin.copy_ #[T, T] ty #[.slice ad (n - i) c1, .slice (some ⟨g, i * k, none⟩) (n + 1 - i) c2]).run P w = .ok (goInt (n - i : Nat)) w') ∧
      w'.ownsRow B e k (.slice (some ⟨g, 0, none⟩) (n + 1) cap) (n + 1) (xs.take ((i + 1) * k) ++ (xs.drop (i * k)).take ((n - i) * k)) ∧ Kp w w' (fun j => j = g) := by
  have hlen := h.1
  rcases h.2 with ⟨h', _⟩ | ⟨g', cap', cur, h', hb, hg, hnc, hcm, hcs, htake⟩
  · simp at h'
  · simp only [Value.slice.injEq, Option.some.injEq, Addr.mk.injEq, and_true, true_and] at h'
    obtain ⟨rfl, rfl⟩ := h'
    rcases Nat.lt_or_ge i n with hin | hin
    · obtain ⟨cs, hcsd⟩ : ∃ cs, (xs.drop (i * k)).take ((n - i) * k) = cs := ⟨_, rfl⟩
      have e1 : (i + 1) * k + (n - i) * k = (n + 1) * k := by rw [← Nat.add_mul]; congr 1; omega
      have e2 : i * k + (n - i) * k = n * k := by rw [← Nat.add_mul]; congr 1; omega
      have e3 : n * k ≤ (n + 1) * k := Nat.mul_le_mul_right _ (by omega)
      have e4 : (n + 1) * k ≤ cap * k := Nat.mul_le_mul_right _ hnc
      have hcl : cs.length = (n - i) * k := by rw [← hcsd, List.length_take, List.length_drop, hlen]; omega
      have hcur : cur.toList.length = cap * k := by rw [Array.length_toList]; exact hcs
      have hmem : ∀ v ∈ cs, v ∈ xs := fun v hv => by
        rw [← hcsd] at hv
        exact List.mem_of_mem_drop (List.mem_of_mem_take hv)
      refine ⟨w.setRow g (cur.toList.take ((i + 1) * k) ++ cs ++ cur.toList.drop ((i + 1) * k + cs.length)).toArray, fun ty ad c1 c2 had => ?_, ?_, ?_⟩
      · rw [had hin]
        refine run_copyK P w T T ty e k (n - i) g ((i + 1) * k) (n - i) c1 ⟨g, i * k, none⟩ (n + 1 - i) c2 cur e cs hu hs hg (Nat.min_eq_right (by omega)) hcl (fun j v hj => ?_) (by rw [hcl, e1, hcs]; exact e4) (fun v hv => h1 v (hmem v hv))
        rw [Addr.add_lit, cell_of_row w g _ cur e (0, 0) hg]
        have hjl := (List.getElem?_eq_some_iff.1 hj).1
        rw [← hcsd, List.getElem?_take, if_pos (by omega), List.getElem?_drop, ← htake, List.getElem?_take, if_pos (by omega)] at hj
        simpa using hj
      · rw [hcsd]
        refine ⟨by rw [List.length_append, List.length_take, hcl, hlen]; omega, .inr ⟨g, cap, _, rfl, hb, setRow_heap w g cur _ e _ hg, hnc, hcm, ?_, ?_⟩⟩
        · simp only [List.size_toArray, List.length_append, List.length_take, List.length_drop, hcl, hcur]
          omega
        · rw [List.append_assoc, List.take_append, List.take_of_length_le (by rw [List.length_take]; omega), ← htake, List.take_take, Nat.min_eq_left (by omega)]
          congr 1
          rw [List.length_take, hcur, Nat.min_eq_left (by omega), List.take_append_of_le_length (by omega), List.take_of_length_le (by omega)]
      · exact ⟨rfl, rfl, rfl, by simp [World.setRow], fun j hj hne => setRow_other w g j _ hne⟩
    · have hin' : i = n := by omega
      subst hin'
      refine ⟨w, fun ty ad c1 c2 _ => ?_, ?_, Kp.refl _ _⟩
      · rw [Nat.sub_self]
        exact run_copyK_none P w T T ty e k ad _ 0 c1 _ c2 hu hs (by simp)
      · rw [Nat.sub_self, Nat.zero_mul, List.take_zero, List.append_nil, List.take_of_length_le (by omega)]
        exact h
theorem heap_setCellsA {b : Nat} {t : TypeId} : ∀ (vs : List Value) (o : Nat) (w : World) (pre mid post : List Value), w.heap[b]? = some (.cells (pre ++ mid ++ post).toArray t (0, 0)) → pre.length = o → mid.length = vs.length → (w.setCells b o vs).heap[b]? = some (.cells (pre ++ vs ++ post).toArray t (0, 0))
  | [], o, w, pre, mid, post, h, _, hm => by
    have : mid = [] := List.length_eq_zero_iff.1 hm
    subst this
    exact h
  | v :: vs, o, w, pre, mid, post, h, hp, hm => by
    obtain ⟨u, mid', rfl⟩ : ∃ u m, mid = u :: m := by
      cases mid with
      | nil => cases hm
      | cons u m => exact ⟨u, m, rfl⟩
    rw [World.setCells]
    have h' := heap_setCell_same w b o _ t v h
    have e : ((pre ++ (u :: mid') ++ post).toArray.setIfInBounds o v) = ((pre ++ [v]) ++ mid' ++ post).toArray := by
      subst hp
      simp
    rw [e] at h'
    have := heap_setCellsA vs (o + 1) _ (pre ++ [v]) mid' post h' (by simp; omega) (by simpa using hm)
    rw [this]
    simp
/-- A struct stored into a row of one's own. -/
theorem own_stored (w : World) (e : TypeId) (k B g n cap i : Nat) (xs cs : List Value) (h : w.ownsRow B e k (.slice (some ⟨g, 0, none⟩) n cap) n xs) (hi : i < n) (hl : cs.length = k) :
    w.there g (i * k) cs.toArray.size ∧ (w.setCells g (i * k) cs).ownsRow B e k (.slice (some ⟨g, 0, none⟩) n cap) n (xs.take (i * k) ++ cs ++ xs.drop ((i + 1) * k)) ∧ Kp w (w.setCells g (i * k) cs) (fun j => j = g) := by
  have hlen := h.1
  rcases h.2 with ⟨h', _⟩ | ⟨g', cap', cur, h', hb, hg, hnc, hcm, hcs, htake⟩
  · simp at h'
  · simp only [Value.slice.injEq, Option.some.injEq, Addr.mk.injEq, and_true, true_and] at h'
    obtain ⟨rfl, rfl⟩ := h'
    have e1 : (i + 1) * k = i * k + k := by rw [Nat.succ_mul]
    have e3 : (i + 1) * k ≤ n * k := Nat.mul_le_mul_right _ (by omega)
    have e4 : n * k ≤ cap * k := Nat.mul_le_mul_right _ hnc
    have hcur : cur.toList.length = cap * k := by rw [Array.length_toList]; exact hcs
    obtain ⟨pre, hpre⟩ : ∃ pre, cur.toList.take (i * k) = pre := ⟨_, rfl⟩
    obtain ⟨mid, hmid⟩ : ∃ mid, (cur.toList.drop (i * k)).take k = mid := ⟨_, rfl⟩
    obtain ⟨post, hpost⟩ : ∃ post, cur.toList.drop ((i + 1) * k) = post := ⟨_, rfl⟩
    have hpl : pre.length = i * k := by rw [← hpre, List.length_take]; omega
    have hml : mid.length = k := by rw [← hmid, List.length_take, List.length_drop]; omega
    have hsplit : cur = (pre ++ mid ++ post).toArray := by
      apply Array.toList_inj.1
      rw [List.toList_toArray, ← hpre, ← hmid, ← hpost, e1, List.append_assoc, ← List.drop_drop, List.take_append_drop, List.take_append_drop]
    have hx1 : xs.take (i * k) = pre := by rw [← htake, List.take_take, Nat.min_eq_left (by omega), hpre]
    have hg' : w.heap[g]? = some (.cells (pre ++ mid ++ post).toArray e (0, 0)) := by rw [hg, hsplit]
    have hnew := heap_setCellsA cs (i * k) w pre mid post hg' hpl (by omega)
    refine ⟨there_of_block hg _ _ (by simp; omega), ⟨?_, .inr ⟨g, cap, _, rfl, hb, hnew, hnc, hcm, ?_, ?_⟩⟩, setCells_kp g cs _ w⟩
    · simp only [List.length_append, List.length_take, List.length_drop, hlen, hl]
      omega
    · have : post.length = cap * k - (i + 1) * k := by rw [← hpost, List.length_drop, hcur]
      simp only [List.size_toArray, List.length_append, hpl, hl, this]
      omega
    · rw [List.toList_toArray, hx1, List.take_append, List.take_of_length_le (by simp only [List.length_append, hpl, hl]; omega)]
      congr 1
      rw [← htake, List.drop_take, ← hpost]
      simp only [List.length_append, hpl, hl]
      rw [e1]
end Go.Proofs.YtdlieecpckpemaaGreatDoor
namespace Go.Proofs.YtdlieecpckpemaaGreatDoor
open Go.RowKit Go.Sort Go.Lib Go.Maps
def encV (a : Ar) : List Value := [.int .i64 a.c1, .int .i64 a.r1, .int .i64 a.c2, .int .i64 a.r2]
theorem encV_len (a : Ar) : (encV a).length = 4 := rfl
theorem encV_one (a : Ar) : ∀ v ∈ encV a, v.oneCell' = true := by
  intro v hv
  unfold encV at hv
  simp only [List.mem_cons, List.not_mem_nil, or_false] at hv
  rcases hv with rfl | rfl | rfl | rfl <;> rfl
abbrev ltR (a b : Ar) : Bool := ltOf cfR (tupA a) (tupA b)
theorem ltR_iff (y x : Ar) : ltR y x = (ltOf cfA (y.c1, y.r1) (x.c1, x.r1) || (decide (y.c1 = x.c1 ∧ y.r1 = x.r1) && ltOf cfA (y.c2, y.r2) (x.c2, x.r2))) := by
  rw [Bool.eq_iff_iff, Bool.or_eq_true, Bool.and_eq_true, decide_eq_true_eq, cfR_lt, cfA_lt, cfA_lt]
  unfold tupA
  dsimp only
  omega
theorem ar_ext {x y : Ar} (h : tupA x = tupA y) : x = y := by
  obtain ⟨a, b, c, d⟩ := x
  obtain ⟨a', b', c', d'⟩ := y
  unfold tupA at h
  injection h with h1 h2
  injection h1 with h1 h3
  injection h2 with h2 h4
  subst h1 h2 h3 h4
  rfl
theorem SrtR.uniq {L L' A : List Ar} (h : SrtR L A) (h' : SrtR L' A) : L = L' := by
  have e : L.map tupA = L'.map tupA := sorted_same swoR.irrefl swoR.trans h.1 h'.1 (fun x => by
    rw [List.mem_map, List.mem_map]
    constructor
    · rintro ⟨y, hy, e⟩; exact ⟨y, (h'.2 y).2 ((h.2 y).1 hy), e⟩
    · rintro ⟨y, hy, e⟩; exact ⟨y, (h.2 y).2 ((h'.2 y).1 hy), e⟩)
  have := congrArg (List.map arT) e
  rwa [List.map_map, List.map_map, show (arT ∘ tupA) = id from rfl, List.map_id, List.map_id] at this
theorem SrtR.lt {L A : List Ar} (h : SrtR L A) {i j : Nat} {x y : Ar} (hx : L[i]? = some x) (hy : L[j]? = some y) (hij : i < j) : ltR x y = true := by
  have h1 : (L.map tupA)[i]? = some (tupA x) := by simp [hx]
  have h2 : (L.map tupA)[j]? = some (tupA y) := by simp [hy]
  obtain ⟨g1, e1⟩ := List.getElem?_eq_some_iff.1 h1
  obtain ⟨g2, e2⟩ := List.getElem?_eq_some_iff.1 h2
  have := List.pairwise_iff_getElem.1 h.1 i j g1 g2 hij
  rwa [e1, e2] at this
/-- One more area: it is there, or it goes to its place. -/
theorem SrtR.there {L A : List Ar} (h : SrtR L A) {x : Ar} {k : Nat} (hk : L[k]? = some x) : SrtR L (A ++ [x]) := ⟨h.1, fun y => by
  rw [h.2, List.mem_append, List.mem_singleton]
  constructor
  · exact .inl
  · rintro (q | rfl)
    · exact q
    · exact (h.2 y).1 (List.mem_of_getElem? hk)⟩
theorem SrtR.ins {L A : List Ar} (h : SrtR L A) {x : Ar} {k : Nat} (hlow : ∀ j y, j < k → L[j]? = some y → ltR y x = true) (hup : ∀ y, L[k]? = some y → ltR y x = false ∧ y ≠ x) : SrtR (L.take k ++ x :: L.drop k) (A ++ [x]) := by
  have hab : ∀ j y, k ≤ j → L[j]? = some y → ltR x y = true := fun j y hj hy => by
    have hkl : k < L.length := Nat.lt_of_le_of_lt hj (List.getElem?_eq_some_iff.1 hy).1
    obtain ⟨z, hz⟩ : ∃ z, L[k]? = some z := ⟨_, List.getElem?_eq_getElem hkl⟩
    obtain ⟨h1, h2⟩ := hup z hz
    have h3 : ltR x z = true := by
      cases q : ltR x z with
      | true => rfl
      | false => exact absurd (ar_ext (cfR_same _ _ h1 q)) h2
    rcases Nat.lt_or_ge k j with c | c
    · exact swoR.trans _ _ _ h3 (h.lt hz hy c)
    · have e : k = j := by omega
      subst e
      rw [hz] at hy; cases hy; exact h3
  refine ⟨?_, fun y => ?_⟩
  · rw [List.map_append, List.map_cons, List.pairwise_append]
    refine ⟨?_, ?_, ?_⟩
    · rw [List.map_take]; exact h.1.take
    · rw [List.pairwise_cons]
      refine ⟨fun b hb => ?_, by rw [List.map_drop]; exact h.1.drop⟩
      obtain ⟨y, hy, rfl⟩ := List.mem_map.1 hb
      obtain ⟨j, hj⟩ := List.mem_iff_getElem?.1 hy
      rw [List.getElem?_drop] at hj
      exact hab (k + j) y (by omega) hj
    · intro a ha b hb
      obtain ⟨y, hy, rfl⟩ := List.mem_map.1 ha
      obtain ⟨j, hj⟩ := List.mem_iff_getElem?.1 hy
      rw [List.getElem?_take] at hj
      split at hj
      · rename_i hjk
        have h1 := hlow j y hjk hj
        rcases List.mem_cons.1 hb with e | hb
        · rw [e]; exact h1
        · obtain ⟨z, hz, rfl⟩ := List.mem_map.1 hb
          obtain ⟨i, hi⟩ := List.mem_iff_getElem?.1 hz
          rw [List.getElem?_drop] at hi
          exact swoR.trans _ _ _ h1 (hab (k + i) z (by omega) hi)
      · cases hj
  · rw [List.mem_append, List.mem_cons, List.mem_append, List.mem_singleton]
    have e : y ∈ L ↔ y ∈ L.take k ∨ y ∈ L.drop k := by rw [← List.mem_append, List.take_append_drop]
    rw [← h.2, e]
    constructor
    · rintro (q | q | q)
      · exact .inl (.inl q)
      · exact .inr q
      · exact .inl (.inr q)
    · rintro ((q | q) | q)
      · exact .inl q
      · exact .inr (.inr q)
      · exact .inr (.inl q)
theorem SrtR.nil : SrtR [] [] := ⟨List.Pairwise.nil, fun _ => Iff.rfl⟩
/-- What 'out[i:]' comes to, elements of any size. -/
theorem slice_fromK (T : TypeId) (k : Nat) (ht : Tryz.prog.underlying T = some (.slice (Tryz.prog.elem T))) (hz : ∀ w, (Go.sizeOf (Tryz.prog.elem T)).run Tryz.prog w = .ok k w) (b RN cc i : Nat) (hi : i ≤ RN) : ∃ a', (i < cc → a' = some ⟨b, i * k, none⟩) ∧ ∀ w, (Instr.sliceAt T (.slice (some ⟨b, 0, none⟩) RN cc) (some (.int .i64 (i : Int))) none none).run Tryz.prog w = .ok (.slice a' (RN - i) (cc - i)) w := by
  refine ⟨if cc = i then some ⟨b, 0, none⟩ else some ⟨b, i * k, none⟩, fun h => if_neg (by omega), fun w => ?_⟩
  rw [run_sliceAt_slice w _ _ _ _ _ ht, run_slice_l w _ _ _ _ ht .i64 (i : Int) (by omega) (by omega), hz]
  have e : Int.toNat (i : Int) = i := Int.toNat_natCast i
  simp only [Result.andThen, sliced, e, Option.map_some, Addr.add]
  by_cases h : cc = i
  · simp only [if_pos h]
  · simp only [if_neg h]
    by_cases h0 : i * k = 0
    · rw [if_pos h0, h0]
    · rw [if_neg h0, Nat.zero_add]
/-- The cells of a list into which one more went. -/
theorem ins_cells {α : Type} {enc : α → List Value} {s : Nat} (hk : ∀ x, (enc x).length = s) (L : List α) (Z : List Value) (hZ : Z.length = s) (x : α) (k m : Nat) (hm : L.length = m) (hkm : k ≤ m) (ys : List Value) (hy : ys = (fl enc L ++ Z).take ((k + 1) * s) ++ ((fl enc L ++ Z).drop (k * s)).take ((m - k) * s)) :
    ys.take (k * s) ++ enc x ++ ys.drop ((k + 1) * s) = fl enc (L.take k ++ x :: L.drop k) := by
  have hfl : (fl enc L).length = m * s := by rw [fl_len hk, hm]
  have e1 : (k + 1) * s = k * s + s := Nat.succ_mul k s
  have e2 : k * s ≤ m * s := Nat.mul_le_mul_right _ hkm
  have e3 : (m - k) * s = m * s - k * s := by rw [Nat.sub_mul]
  have hl1 : ((fl enc L ++ Z).take ((k + 1) * s)).length = (k + 1) * s := by rw [List.length_take, List.length_append, hfl, hZ]; omega
  have h1 : ys.take (k * s) = fl enc (L.take k) := by
    rw [hy, List.take_append_of_le_length (by omega), List.take_take, Nat.min_eq_left (by omega), List.take_append_of_le_length (by omega), fl_take hk _ _ (by omega)]
  have h2 : ys.drop ((k + 1) * s) = fl enc (L.drop k) := by
    rw [hy, List.drop_left' hl1, List.drop_append_of_le_length (by omega), fl_drop hk _ _ (by omega), List.take_append_of_le_length (by rw [fl_len hk, List.length_drop, hm]; exact Nat.le_refl _), List.take_of_length_le (by rw [fl_len hk, List.length_drop, hm]; exact Nat.le_refl _)]
  rw [h1, h2, fl_append, fl_cons, List.append_assoc]
theorem infoArea4 : (Tryz.prog.info? 52).map (·.size) = some 4 := by kernel_rfl
theorem elemA : Tryz.prog.underlying 31 = some (.slice (Tryz.prog.elem 31)) := by kernel_rfl
theorem elemAz (w : World) : (Go.sizeOf (Tryz.prog.elem 31)).run Tryz.prog w = .ok 4 w := by
  have : Tryz.prog.elem 31 = 52 := by kernel_rfl
  rw [this]; exact Tryz.sizeOf52 w
end Go.Proofs.YtdlieecpckpemaaGreatDoor
