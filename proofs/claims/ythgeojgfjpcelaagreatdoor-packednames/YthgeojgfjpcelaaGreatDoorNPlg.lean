/- Packed, plain: what sheet reads, and the file that a grid's cells are. No function of the program here. Packed, plain: what Unpack tells; files of grids; one byte turned. No function of the program here. Packed, plain: contents that a grid may have and that are the same are equal; two grids have one file just if they are equal. No function of the program here. Packed: sheet. Packed: Unpack. Packed: append to the bytes of a string; sealed (quadrillelaw24). -/
import Derived.Test.YthgeojgfjpcelaaGreatDoorNPkv
import Derived.Test.YthgeojgfjpcelaaGreatDoorNPkl
import Derived.Test.YthgeojgfjpcelaaGreatDoorNIr
import Derived.Test.YthgeojgfjpcelaaGreatDoorNId
import Derived.Test.YthgeojgfjpcelaaGreatDoorNPkn
import Derived.Test.YthgeojgfjpcelaaGreatDoorNGa
import Derived.Test.YthgeojgfjpcelaaGreatDoorNPki
import Derived.Deep.RegionHeld3
import Derived.Lib.FrozenHead
namespace Go.Proofs.YthgeojgfjpcelaaGreatDoor
open Go.RowKit Go.Shelf

/-- All cells of K stand ahead of la or at it, in order. -/
structure Upto (K : List Cc) (la : Int × Int) : Prop where
  st : Strict (K.map (·.1))
  le : ∀ x ∈ K, x.1 = la ∨ ltOf cfA x.1 la = true
theorem Upto.nil (la : Int × Int) : Upto [] la := ⟨List.Pairwise.nil, fun x hx => by simp at hx⟩
theorem cfA_trans {x y z : Int × Int} (h : ltOf cfA x y = true) (k : ltOf cfA y z = true) : ltOf cfA x z = true := by
  rw [cfA_lt] at *
  omega
theorem cfA_irr {x : Int × Int} : ltOf cfA x x = false := by
  rw [cfA_nlt]
  omega
theorem Upto.add {K : List Cc} {la at' : Int × Int} (h : Upto K la) (hl : ltOf cfA la at' = true) (a : Ct) : Upto (K ++ [(at', a)]) at' := by
  have hlt : ∀ x ∈ K, ltOf cfA x.1 at' = true := fun x hx => by
    rcases h.le x hx with e | e
    · rw [e]; exact hl
    · exact cfA_trans e hl
  refine ⟨?_, fun x hx => ?_⟩
  · rw [List.map_append]
    refine List.pairwise_append.2 ⟨h.st, by simp, fun x hx y hy => ?_⟩
    obtain ⟨z, hz, rfl⟩ := List.mem_map.1 hx
    simp only [List.map_cons, List.map_nil, List.mem_singleton] at hy
    subst hy
    exact hlt z hz
  · rcases List.mem_append.1 hx with q | q
    · exact .inr (hlt x q)
    · rw [List.mem_singleton] at q
      exact .inl (by rw [q])
theorem Upto.not {K : List Cc} {la at' : Int × Int} (h : Upto K la) (hl : ltOf cfA la at' = true) (a : Ct) : (at', a) ∉ K := fun q => by
  have := h.le _ q
  rcases this with e | e
  · have e' : at' = la := e
    rw [e', cfA_irr] at hl
    cases hl
  · have := cfA_trans e hl
    rw [cfA_irr] at this
    cases this
theorem gd_rd {a : Ct} (h : Rd a) (hv : gv a = true) : Gd a := ⟨hv, h.k, h.ok, h.x, by have := h.size; omega, h.cp⟩
theorem cB_cell (c r : Nat) (a : Ct) : cB (((c : Int), (r : Int)), a) = cellB c r a := rfl
theorem rCt_some {d : List UInt8} {q : Ct × List UInt8} (h : rCt d = some q) : d = ctB q.1 ++ q.2 ∧ Rd q.1 := ⟨rCt_to (a := q.1) (l' := q.2) h, rCt_rd (a := q.1) (l' := q.2) h⟩
theorem rSh_to : ∀ (n : Nat) (la : Int × Int) (K : List Cc) (l : List UInt8) (K' : List Cc) (l' : List UInt8), Upto K la → Ok17 K → rSh n la K l = some (K', l') → Strict (K'.map (·.1)) ∧ Ok17 K' ∧ ∃ M, K' = K ++ M ∧ M.length = n ∧ l = csB M ++ l'
  | 0, la, K, l, K', l', hu, ho, h => by
    rw [rSh] at h
    injection h with h
    obtain ⟨rfl, rfl⟩ := Prod.mk.inj h
    exact ⟨hu.st, ho, [], by simp, rfl, rfl⟩
  | n + 1, la, K, l, K', l', hu, ho, h => by
    rw [rSh] at h
    obtain ⟨⟨⟨c, r⟩, d⟩, h1, h2⟩ := Option.bind_eq_some_iff.1 h
    simp only at h2
    split at h2
    · rename_i hlt
      obtain ⟨⟨a, d2⟩, h3, h4⟩ := Option.bind_eq_some_iff.1 h2
      simp only at h4
      split at h4
      · rename_i hr
        obtain ⟨h5, h6⟩ := rPl_iff.1 h1
        obtain ⟨h7, h8⟩ := rCt_some h3
        simp only at h7 h8
        unfold rOk at hr
        simp only [Bool.and_eq_true, decide_eq_true_eq] at hr
        have ho' : Ok17 (K ++ [(((c : Int), (r : Int)), a)]) := by
          refine ⟨fun x hx => ?_, fun x hx => ?_, by rw [List.length_append]; simp only [List.length_cons, List.length_nil]; omega⟩
          · rcases List.mem_append.1 hx with q | q
            · exact ho.gd x q
            · rw [List.mem_singleton] at q
              subst q
              exact gd_rd h8 hr.1.2
          · rcases List.mem_append.1 hx with q | q
            · exact ho.at' x q
            · rw [List.mem_singleton] at q
              subst q
              exact hr.1.1
        obtain ⟨g1, g2, M, g3, g4, g5⟩ := rSh_to n _ _ _ K' l' (hu.add hlt a) ho' h4
        refine ⟨g1, g2, (((c : Int), (r : Int)), a) :: M, by rw [g3, List.append_assoc]; rfl, by rw [List.length_cons, g4], ?_⟩
        unfold csB
        rw [List.flatMap_cons, cB_cell, h6, h7, g5]
        unfold cellB csB
        simp only [List.append_assoc]
      · cases h4
    · cases h2
theorem Ok17.rng {K : List Cc} (h : Ok17 K) (x : Cc) (hx : x ∈ K) : 1 ≤ x.1.1 ∧ x.1.1 ≤ 256 ∧ 1 ≤ x.1.2 ∧ x.1.2 ≤ 4096 := (vC_iff _ _).1 (h.at' x hx)
theorem rSh_of : ∀ (M K : List Cc) (la : Int × Int) (l' : List UInt8), Upto K la → Strict ((K ++ M).map (·.1)) → (∀ x ∈ M, ltOf cfA la x.1 = true) → Ok17 (K ++ M) → rSh M.length la K (csB M ++ l') = some (K ++ M, l')
  | [], K, la, l', _, _, _, _ => by
    rw [List.length_nil, rSh, List.append_nil]
    rfl
  | x :: M, K, la, l', hu, hs, hl, ho => by
    obtain ⟨⟨ci, ri⟩, a⟩ := x
    have hx : (((ci, ri), a) : Cc) ∈ K ++ (((ci, ri), a) : Cc) :: M := List.mem_append.2 (.inr List.mem_cons_self)
    have hb := ho.rng _ hx
    have hg := ho.gd _ hx
    obtain ⟨c, rfl⟩ : ∃ c : Nat, ci = (c : Int) := ⟨ci.toNat, by have := hb.1; simp only at this; omega⟩
    obtain ⟨r, rfl⟩ : ∃ r : Nat, ri = (r : Int) := ⟨ri.toNat, by have := hb.2.2.1; simp only at this; omega⟩
    simp only at hb hg
    have hlx := hl _ List.mem_cons_self
    simp only at hlx
    have e1 : csB ((((c : Int), (r : Int)), a) :: M) ++ l' = le 2 c ++ (le 2 r ++ (ctB a ++ (csB M ++ l'))) := by
      unfold csB
      rw [List.flatMap_cons, cB_cell]
      unfold cellB
      simp only [List.append_assoc]
    rw [List.length_cons, rSh, e1, rPl_iff.2 ⟨⟨by omega, by omega⟩, rfl⟩, Option.bind_some]
    simp only
    rw [if_pos hlx, gd_read hg, Option.bind_some]
    simp only
    have hlen : K.length < 4096 := by
      have := ho.len
      rw [List.length_append, List.length_cons] at this
      omega
    have hok : rOk K (c : Int) (r : Int) a = true := by
      unfold rOk
      rw [ho.at' _ hx, hg.val, decide_eq_true hlen]
      rfl
    rw [if_pos hok]
    have ea : K ++ (((c : Int), (r : Int)), a) :: M = (K ++ [(((c : Int), (r : Int)), a)]) ++ M := by rw [List.append_assoc]; rfl
    rw [ea] at hs ho ⊢
    refine rSh_of M _ _ l' (hu.add hlx a) hs (fun y hy => ?_) ho
    rw [List.map_append] at hs
    have := (List.pairwise_append.1 hs).2.2 ((c : Int), (r : Int)) (by simp) y.1 (List.mem_map_of_mem hy)
    exact this
/-- What sheet reads, just if the bytes are those of cells that a grid may have, in order. -/
theorem rSheet_iff {l : List UInt8} {K : List Cc} : rSheet l = some K ↔ Strict (K.map (·.1)) ∧ Ok17 K ∧ l = le 2 K.length ++ csB K := by
  constructor
  · intro h
    obtain ⟨⟨n, d⟩, h1, h2⟩ := Option.bind_eq_some_iff.1 h
    simp only at h2
    obtain ⟨⟨K', l'⟩, h3, h4⟩ := Option.bind_eq_some_iff.1 h2
    simp only at h4
    split at h4
    · rename_i he
      injection h4 with h4
      subst h4
      obtain ⟨g1, g2, M, g3, g4, g5⟩ := rSh_to n _ _ _ K' l' (Upto.nil _) Ok17.nil h3
      obtain ⟨h5, h6⟩ := rNum_iff.1 h1
      rw [List.nil_append] at g3
      subst g3
      refine ⟨g1, g2, ?_⟩
      rw [h6, g5, he, g4, List.append_nil]
    · cases h4
  · rintro ⟨h1, h2, rfl⟩
    unfold rSheet
    have hl := h2.len
    rw [rNum_iff.2 ⟨by omega, rfl⟩, Option.bind_some]
    simp only
    have h3 := rSh_of K [] (0, 0) [] (Upto.nil _) h1 (fun x hx => by have := h2.rng x hx; rw [cfA_lt]; omega) h2
    rw [List.append_nil, List.nil_append] at h3
    rw [h3, Option.bind_some]
    simp
end Go.Proofs.YthgeojgfjpcelaaGreatDoor
namespace Go.Proofs.YthgeojgfjpcelaaGreatDoor
open Go.RowKit Go.Shelf

/-- The bytes ahead of the sum, and the sum's. -/
def ahB (l : List UInt8) : List UInt8 := l.take (l.length - 4)
def laB (l : List UInt8) : List UInt8 := l.drop (l.length - 4)
/-- The error that comes ahead of the reading. -/
def upE (l : List UInt8) : Nat := if 4194304 < l.length then 2 else if l.take 4 = markB then if l.length < 10 then 3 else if unle (laB l) = crcS (ahB l) then 0 else 51 else 50
/-- What Unpack tells. -/
def upO (l : List UInt8) : Option (List Cc) := if upE l = 0 then rSheet ((ahB l).drop 4) else none
def upR (l : List UInt8) : Nat := if upE l = 0 then (if (upO l).isSome = true then 0 else 3) else upE l
theorem ah_la (l : List UInt8) : ahB l ++ laB l = l := List.take_append_drop _ _
theorem la_len {l : List UInt8} (h : 4 ≤ l.length) : (laB l).length = 4 := by
  unfold laB
  rw [List.length_drop]
  omega
theorem ah_of (m n : List UInt8) (h : n.length = 4) : ahB (m ++ n) = m ∧ laB (m ++ n) = n := by
  unfold ahB laB
  have e : (m ++ n).length - 4 = m.length := by rw [List.length_append]; omega
  rw [e]
  exact ⟨List.take_left, List.drop_left⟩
theorem bodyB_len (K : List Cc) : 6 ≤ (bodyB K).length := by
  unfold bodyB
  rw [List.length_append, List.length_append, le_len]
  have : markB.length = 4 := rfl
  omega
theorem fileB_ah (K : List Cc) : ahB (fileB K) = bodyB K ∧ laB (fileB K) = le 4 (crcS (bodyB K)) := by
  unfold fileB
  exact ah_of _ _ (le_len _ _)
theorem fileB_mark (K : List Cc) : (fileB K).take 4 = markB := by
  unfold fileB bodyB
  rw [List.append_assoc, List.append_assoc]
  exact List.take_left (l₁ := markB)
theorem unle_crc (l : List UInt8) : unle (le 4 (crcS l)) = crcS l := by
  rw [unle_le]
  exact Nat.mod_eq_of_lt (crcS_lt l)
theorem body_drop (K : List Cc) : (bodyB K).drop 4 = le 2 K.length ++ csB K := by
  unfold bodyB
  rw [List.append_assoc]
  exact List.drop_left (l₁ := markB)
theorem upE_file {K : List Cc} (hl : (fileB K).length ≤ 4194304) : upE (fileB K) = 0 := by
  have h1 := bodyB_len K
  have h2 := fileB_len K
  obtain ⟨e1, e2⟩ := fileB_ah K
  unfold upE
  rw [if_neg (by omega), if_pos (fileB_mark K), if_neg (by omega), e1, e2, unle_crc, if_pos rfl]
theorem up_file {K : List Cc} (hs : Strict (K.map (·.1))) (ho : Ok17 K) (hl : (fileB K).length ≤ 4194304) : upO (fileB K) = some K ∧ upR (fileB K) = 0 := by
  have e0 := upE_file hl
  obtain ⟨e1, _⟩ := fileB_ah K
  have e3 : upO (fileB K) = some K := by
    unfold upO
    rw [if_pos e0, e1, body_drop]
    exact rSheet_iff.2 ⟨hs, ho, rfl⟩
  refine ⟨e3, ?_⟩
  unfold upR
  rw [if_pos e0, e3]
  rfl
theorem up_only {l : List UInt8} {K : List Cc} (h : upO l = some K) : l = fileB K ∧ Strict (K.map (·.1)) ∧ Ok17 K ∧ l.length ≤ 4194304 := by
  unfold upO at h
  by_cases he : upE l = 0
  · rw [if_pos he] at h
    obtain ⟨h1, h2, h3⟩ := rSheet_iff.1 h
    unfold upE at he
    by_cases q1 : 4194304 < l.length
    · rw [if_pos q1] at he; cases he
    rw [if_neg q1] at he
    by_cases q2 : l.take 4 = markB
    · rw [if_pos q2] at he
      by_cases q3 : l.length < 10
      · rw [if_pos q3] at he; cases he
      rw [if_neg q3] at he
      by_cases q4 : unle (laB l) = crcS (ahB l)
      · have hb : ahB l = bodyB K := by
          have e1 : (ahB l).take 4 = markB := by
            rw [← q2]
            unfold ahB
            rw [List.take_take]
            congr 1
            omega
          rw [← List.take_append_drop 4 (ahB l), e1, h3]
          unfold bodyB
          rw [List.append_assoc]
        refine ⟨?_, h1, h2, by omega⟩
        have e2 : laB l = le 4 (crcS (bodyB K)) := by
          rw [← hb, ← q4]
          have := le_unle (laB l)
          rw [la_len (by omega)] at this
          exact this.symm
        have e3 := ah_la l
        rw [hb, e2] at e3
        exact e3.symm
      · rw [if_neg q4] at he; cases he
    · rw [if_neg q2] at he; cases he
  · rw [if_neg he] at h; cases h
theorem upR_none {l : List UInt8} (h : upO l = none) : upR l ≠ 0 := by
  unfold upR
  by_cases he : upE l = 0
  · rw [if_pos he, h]; decide
  · rw [if_neg he]; exact he
theorem upR_some {l : List UInt8} {K : List Cc} (h : upO l = some K) : upR l = 0 := by
  obtain ⟨rfl, h1, h2, h3⟩ := up_only h
  exact (up_file h1 h2 h3).2
end Go.Proofs.YthgeojgfjpcelaaGreatDoor
namespace Go.Proofs.YthgeojgfjpcelaaGreatDoor
open Go.RowKit Go.Maps Go.Sort Go.Lib Go.Shelf

mutual
theorem tsame_eq : ∀ (t u : Nd), tsame t u = true → cpy t = t → cpy u = u → t = u
  | .mk h ts, .mk g us, e, ht, hu => by
    rw [tsame, Bool.and_eq_true] at e
    obtain ⟨h1, h2⟩ := cpy_x ht
    obtain ⟨g1, g2⟩ := cpy_x hu
    rw [hsame_eq e.1 h1 g1, lsame_eq ts us e.2 h2 g2]
theorem lsame_eq : ∀ (ts us : List Nd), lsame ts us = true → cpyL ts = ts → cpyL us = us → ts = us
  | [], [], _, _, _ => rfl
  | t :: ts, u :: us, e, ht, hu => by
    rw [lsame, Bool.and_eq_true] at e
    rw [cpyL] at ht hu
    injection ht with h1 h2
    injection hu with g1 g2
    rw [tsame_eq t u e.1 h1 g1, lsame_eq ts us e.2 h2 g2]
  | [], _ :: _, e, _, _ => by rw [lsame] at e; cases e
  | _ :: _, [], e, _, _ => by rw [lsame] at e; cases e
end
theorem gd_parts {a : Ct} (h : Gd a) : (a.k = 1 ∧ bareR a.v ∧ a.t = zNd) ∨ (a.k = 2 ∧ a.v = zVl) := by
  have hv := h.val
  have hk := h.k
  have ht1 : cpy a.t = a.t := congrArg Ct.t h.cp
  unfold gv validC at hv
  simp only [Bool.or_eq_true, Bool.and_eq_true, beq_iff_eq, bne_iff_ne] at hv
  rcases hv with (q | q) | q
  · exact absurd q.1 hk
  · obtain ⟨q1, ⟨_, q3⟩, q4⟩ := q
    unfold validV at q3
    rw [Bool.and_eq_true] at q3
    exact .inl ⟨q1, bareV_R q3.1, zeroN_eq q4 ht1⟩
  · exact .inr ⟨q.1, zeroV_eq q.2.1⟩
theorem vsame_eq {v u : Vl} (hv : bareR v) (hu : bareR u) (xv : one v.x = v.x) (xu : one u.x = u.x) (e : vsame v u = true) : v = u := by
  obtain ⟨k, x, s, b, f⟩ := v
  obtain ⟨k', x', s', b', f'⟩ := u
  unfold bareR at hv hu
  unfold vsame at e
  simp only [Bool.and_eq_true, beq_iff_eq] at hv hu e xv xu
  obtain ⟨rfl, e⟩ := e
  obtain ⟨v1, v2, v3, v4⟩ := hv
  obtain ⟨u1, u2, u3, u4⟩ := hu
  have ex : x = x' := by
    by_cases q : k = 1
    · rw [if_pos q] at e
      unfold fsame at e
      rw [decide_eq_true_eq, xv, xu] at e
      exact e
    · rw [v1.resolve_left q, u1.resolve_left q]
  have es : s = s' := by
    by_cases q : k = 2
    · rw [if_neg (by omega), if_pos q] at e
      exact ba_eq (of_decide_eq_true e)
    · rw [v2.resolve_left q, u2.resolve_left q]
  have eb : b = b' := by
    by_cases q : k = 3
    · rw [if_neg (by omega), if_neg (by omega), if_pos q] at e
      simpa using e
    · rw [v3.resolve_left q, u3.resolve_left q]
  have ef : f = f' := by
    by_cases q : k = 4
    · rw [if_neg (by omega), if_neg (by omega), if_neg (by omega), if_pos q] at e
      simpa using e
    · rw [v4.resolve_left q, u4.resolve_left q]
  subst ex es eb ef
  rfl
theorem csame_gd {a b : Ct} (ha : Gd a) (hb : Gd b) (e : csame a b = true) : a = b := by
  have xa : one a.v.x = a.v.x := congrArg (fun c : Ct => c.v.x) ha.cp
  have xb : one b.v.x = b.v.x := congrArg (fun c : Ct => c.v.x) hb.cp
  have ta : cpy a.t = a.t := congrArg Ct.t ha.cp
  have tb : cpy b.t = b.t := congrArg Ct.t hb.cp
  have pa := gd_parts ha
  have pb := gd_parts hb
  unfold csame at e
  simp only [Bool.and_eq_true, beq_iff_eq] at e
  obtain ⟨ek, e⟩ := e
  obtain ⟨ak, av, at'⟩ := a
  obtain ⟨bk, bv, bt⟩ := b
  simp only at xa xb ta tb pa pb ek e
  subst ek
  rcases pa with ⟨q, p1, p2⟩ | ⟨q, p1⟩
  · rcases pb with ⟨_, r1, r2⟩ | ⟨r, _⟩
    · rw [if_pos q] at e
      rw [vsame_eq p1 r1 xa xb e, p2, r2]
    · omega
  · rcases pb with ⟨r, _⟩ | ⟨_, r1⟩
    · omega
    · rw [if_neg (by omega), if_pos q] at e
      rw [tsame_eq _ _ e ta tb, p1, r1]
/-- A grid's cells in order. -/
theorem sorted_of {L : List Cc} (h : L.Pairwise (fun x y => x.1 ≠ y.1)) : ∃ K : List Cc, Strict (K.map (·.1)) ∧ (∀ x, x ∈ K ↔ x ∈ L) ∧ K.length = L.length := by
  obtain ⟨K, h1, h2⟩ := in_order h
  refine ⟨K, h1, h2, ?_⟩
  have n1 : K.Nodup := (List.pairwise_map.1 (strict_nodup h1)).imp (fun {x y} q e => q (by rw [e]))
  have n2 : L.Nodup := h.imp (fun {x y} q e => q (by rw [e]))
  exact (List.Perm.length_eq ((List.perm_ext_iff_of_nodup n1 n2).2 h2))
theorem ok_of_mem {K L : List Cc} (hL : Ok17 L) (h : ∀ x, x ∈ K ↔ x ∈ L) (hl : K.length = L.length) : Ok17 K := ⟨fun x hx => hL.gd x ((h x).1 hx), fun x hx => hL.at' x ((h x).1 hx), by rw [hl]; exact hL.len⟩
theorem mem_of_sub : ∀ (L M : List Cc), L.Nodup → M.length ≤ L.length → (∀ x ∈ L, x ∈ M) → ∀ x ∈ M, x ∈ L
  | [], M, _, hl, _, x, hx => by
    have : M = [] := List.length_eq_zero_iff.1 (by simpa using hl)
    rw [this] at hx
    cases hx
  | a :: L, M, hn, hl, h, x, hx => by
    obtain ⟨p, q, rfl⟩ := List.append_of_mem (h a List.mem_cons_self)
    obtain ⟨n1, n2⟩ := List.nodup_cons.1 hn
    have sub : ∀ y ∈ L, y ∈ p ++ q := fun y hy => by
      rcases List.mem_append.1 (h y (List.mem_cons_of_mem _ hy)) with q1 | q1
      · exact List.mem_append.2 (.inl q1)
      · rcases List.mem_cons.1 q1 with rfl | q2
        · exact absurd hy n1
        · exact List.mem_append.2 (.inr q2)
    have ih := mem_of_sub L (p ++ q) n2 (by simp at hl ⊢; omega) sub
    rcases List.mem_append.1 hx with q1 | q1
    · exact List.mem_cons_of_mem _ (ih x (List.mem_append.2 (.inl q1)))
    · rcases List.mem_cons.1 q1 with rfl | q2
      · exact List.mem_cons_self
      · exact List.mem_cons_of_mem _ (ih x (List.mem_append.2 (.inr q2)))
/-- Two grids have one file just if they are equal. -/
theorem file_eq {K K2 L M : List Cc} (hL : Ok17 L) (hM : Ok17 M) (oL : L.Pairwise (fun x y => x.1 ≠ y.1)) (oM : M.Pairwise (fun x y => x.1 ≠ y.1)) (h1 : Strict (K.map (·.1))) (h2 : ∀ x, x ∈ K ↔ x ∈ L) (h3 : K.length = L.length) (g1 : Strict (K2.map (·.1))) (g2 : ∀ x, x ∈ K2 ↔ x ∈ M) (g3 : K2.length = M.length)
    (l1 : (fileB K).length ≤ 4194304) (l2 : (fileB K2).length ≤ 4194304) : fileB K = fileB K2 ↔ eqC L M = true := by
  constructor
  · intro e
    have a1 := (up_file h1 (ok_of_mem hL h2 h3) l1).1
    have a2 := (up_file g1 (ok_of_mem hM g2 g3) l2).1
    rw [e, a2] at a1
    injection a1 with a1
    subst a1
    exact eqC_true (same_eqC oL oM (fun x => (h2 x).symm.trans (g2 x)))
  · intro e
    have hE : EqC L M := by
      by_cases q : EqC L M
      · exact q
      · rw [eqC_false q] at e; cases e
    have sub : ∀ x ∈ L, x ∈ M := fun x hx => by
      obtain ⟨k, a⟩ := x
      obtain ⟨b, hb, hc⟩ := hE.2 k a hx
      have e2 : a = b := csame_gd (hL.gd _ hx) (hM.gd _ hb) hc
      rw [e2]
      exact hb
    have n2 : L.Nodup := oL.imp (fun {x y} q e => q (by rw [e]))
    have sup := mem_of_sub L M n2 (by rw [hE.1]; exact Nat.le_refl _) sub
    rw [same_in_order h1 g1 (fun x => (h2 x).trans (⟨sub x, sup x⟩ : x ∈ L ↔ x ∈ M) |>.trans (g2 x).symm)]
end Go.Proofs.YthgeojgfjpcelaaGreatDoor
namespace Go.Proofs.YthgeojgfjpcelaaGreatDoor
open Go.RowKit Go.Maps Go.Sort Go.Lib Go.Shelf

theorem leaves_tmps {P : Program} {fn : Func} {t t' : Array Value} {R : Ending → World → Prop} (h : results fn t = results fn t') : ∀ (ds : List Deferred) (u : FrameMode) (w : World), Leaves P fn t R ds u w → Leaves P fn t' R ds u w
  | [], .returning, w, hl => by unfold Leaves at *; rw [← h]; exact hl
  | [], .panicking _, w, hl => by unfold Leaves at *; exact hl
  | [], .run, w, hl => by unfold Leaves at *; exact hl
  | d :: ds, u, w, hl => by
    unfold Leaves at *
    obtain ⟨h1, fv, cap, f, args, h2, h3, h4⟩ := hl
    refine ⟨h1, fv, cap, f, args, h2, h3, h4.mono ?_⟩
    intro e u' w' hh
    cases e with
    | returned _ => exact leaves_tmps h ds _ _ hh
    | panicked _ => exact leaves_tmps h ds _ _ hh
    | outgrown => exact hh
/-- Behind sheet. -/
inductive ShP (w : World) : Option (List Cc) → Ending → World → Prop
  | ok {K : List Cc} {g : Nat} {w' : World} (gi : GI w.heap.size w' g K.reverse) (kp : Kp w w' Nul) : ShP w (some K) (.returned (.tuple #[.pointer (some ⟨g, 0, none⟩), .int .i64 0])) w'
  | no {w' : World} (kp : Kp w w' Nul) : ShP w none (.returned (.tuple #[.pointer none, .int .i64 3])) w'
theorem res64 (a : Act) (i : Nat) (v : Value) (hi : 3 < i) : results Tryz.f64 (a.put (some i) v).tmps = results Tryz.f64 a.tmps := by
  have e2 : (a.put (some i) v).tmps[2]? = a.tmps[2]? := by simp [Act.put, Array.getElem?_setIfInBounds]; omega
  have e3 : (a.put (some i) v).tmps[3]? = a.tmps[3]? := by simp [Act.put, Array.getElem?_setIfInBounds]; omega
  unfold results
  rw [Tryz.results64]
  simp [e2, e3]
/-- How it stands between two rounds: n cells are left to be read, o is the answer of all. -/
structure ShI (w : World) (O : Option (List Cc × List UInt8)) (n : Nat) (K : List Cc) (la : Int × Int) (d : List UInt8) (k : Int) (W : World) : Prop where
  ans : rSh n la K d = O
  rd : Rr W (w.heap.size + 2) d k
  gr : GridIn W (fun i => i = w.heap.size + 3 ∨ w.heap.size + 5 ≤ i) (w.heap.size + 3) K.reverse
  up : Upto K la
  ln : K.length ≤ 4096
  b0 : Blk W w.heap.size [.pointer (some ⟨w.heap.size + 3, 0, none⟩)] 24
  b1 : Blk W (w.heap.size + 1) [.int .i64 0] 28
  b4 : Blk W (w.heap.size + 4) [.int .i64 la.1, .int .i64 la.2] 58
  kp : Kp w W Nul
  sz : w.heap.size + 5 ≤ W.heap.size
theorem sheet_out {w W : World} {o : Option (List Cc)} {vp vq : Value} {T1 T2 : TypeId} (ho : o = none) (hk : Kp w W Nul) (hp : Blk W w.heap.size [vp] T1) (hq : Blk W (w.heap.size + 1) [vq] T2) (t0 t1 : Value) (ts : List Value) :
    bodyPostD Tryz.prog Tryz.f64 (fun e w' => ShP w o e w') (Exit.panic ef) { tmps := (t0 :: t1 :: .pointer (some ⟨w.heap.size, 0, none⟩) :: .pointer (some ⟨w.heap.size + 1, 0, none⟩) :: ts).toArray, defers := [{ target := .fn (.func 116) #[.pointer (some ⟨w.heap.size, 0, none⟩), .pointer (some ⟨w.heap.size + 1, 0, none⟩)], args := #[] }] } W := by
  refine sheet_no _ _ _ vp vq t0 t1 ts W hp hq (by omega) (fun V hV => ?_)
  rw [ho]
  exact .no (hk.trans' hV (fun i hi e => by rcases e with e | e <;> omega))
theorem sheet_in {w W : World} {o : Option (List Cc)} {K : List Cc} {g : Nat} {T1 T2 : TypeId} (ho : o = some K) (hk : Kp w W Nul) (hg : GI w.heap.size W g K.reverse) (hp : Blk W w.heap.size [.pointer (some ⟨g, 0, none⟩)] T1) (hq : Blk W (w.heap.size + 1) [.int .i64 0] T2) (t0 t1 : Value) (ts : List Value) :
    bodyPostD Tryz.prog Tryz.f64 (fun e w' => ShP w o e w') Exit.ret { tmps := (t0 :: t1 :: .pointer (some ⟨w.heap.size, 0, none⟩) :: .pointer (some ⟨w.heap.size + 1, 0, none⟩) :: ts).toArray, defers := [{ target := .fn (.func 116) #[.pointer (some ⟨w.heap.size, 0, none⟩), .pointer (some ⟨w.heap.size + 1, 0, none⟩)], args := #[] }] } W := by
  refine sheet_yes _ _ _ _ _ t0 t1 ts W hp hq ?_
  rw [ho]
  exact .ok hg hk
set_option maxRecDepth 40000 in
set_option maxHeartbeats 16000000 in
theorem sheet_at (l : List UInt8) (w : World) (hs : Sh w) (U : VS w) :
    Calls Tryz.prog 64 #[.string ⟨l.toArray⟩] w fun e w' => ShP w (rSheet l) e w' := by
  obtain ⟨o, ho⟩ : ∃ o, rSheet l = o := ⟨_, rfl⟩
  rw [ho]
  have HO : Hid (o = rSheet l) := ho.symm
  have hmf : ∀ (fn : Fn) (first cap : Array Value) (w : World), (Instr.makeFunc fn first cap).run Tryz.prog w = .ok (.func fn first cap) w := fun _ _ _ _ => rfl
  obtain ⟨W1, hW1⟩ : ∃ W1, ((w.alloc (.cells #[.pointer none] 24)).alloc (.cells #[.int .i64 0] 28)).alloc (.cells #[.string ⟨l.toArray⟩, .int .i64 0] 116) = W1 := ⟨_, rfl⟩
  have HW1 : Hid (((w.alloc (.cells #[.pointer none] 24)).alloc (.cells #[.int .i64 0] 28)).alloc (.cells #[.string ⟨l.toArray⟩, .int .i64 0] 116) = W1) := hW1
  have s1 : W1.heap.size = w.heap.size + 3 := by rw [← hW1, World.size_alloc, World.size_alloc, World.size_alloc]
  have k1 : Kp w W1 Nul := by rw [← hW1]; exact (((Kp.refl w Nul).alloc _).alloc _).alloc _
  have b0 : Blk W1 w.heap.size [.pointer none] 24 := by rw [← hW1]; exact ((Blk.new w [.pointer none] _).alloc _).alloc _
  have b1 : Blk W1 (w.heap.size + 1) [.int .i64 0] 28 := by
    have := Blk.new (w.alloc (.cells #[.pointer none] 24)) [.int .i64 0] 28
    rw [World.size_alloc] at this
    rw [← hW1]; exact this.alloc _
  have b2 : Rr W1 (w.heap.size + 2) l 0 := by
    have := Blk.new ((w.alloc (.cells #[.pointer none] 24)).alloc (.cells #[.int .i64 0] 28)) [.string ⟨l.toArray⟩, .int .i64 0] 116
    rw [World.size_alloc, World.size_alloc] at this
    rw [← hW1]; exact this
  obtain ⟨W2, hW2⟩ : ∃ W2, W1.alloc (.cells #[.map none] 127) = W2 := ⟨_, rfl⟩
  have HNew : Hid (Calls Tryz.prog 31 #[] W1 fun e w' => e = .returned (.pointer (some ⟨w.heap.size + 3, 0, none⟩)) ∧ w' = W2) := (new_at W1).mono (by
    rintro e w' ⟨rfl, rfl⟩
    rw [s1]
    exact ⟨rfl, hW2⟩)
  have k12 : Kp W1 W2 Nul := by rw [← hW2]; exact (Kp.refl W1 Nul).alloc _
  have g2 : GridIn W2 (fun i => i = w.heap.size + 3 ∨ w.heap.size + 5 ≤ i) (w.heap.size + 3) [] := by
    have := grid_new W1 (fun i => i = w.heap.size + 3 ∨ w.heap.size + 5 ≤ i) (.inl s1)
    rw [s1] at this
    rw [← hW2]; exact this
  have c0 : W2.cell? ⟨w.heap.size, 0, none⟩ = some (.pointer none) := (b0.kp k12 (fun x => x)).cell rfl
  have f0 : W2.frozen? ⟨w.heap.size, 0, none⟩ = false := (b0.kp k12 (fun x => x)).froz 0
  obtain ⟨W3, hW3⟩ : ∃ W3, W2.setCell ⟨w.heap.size, 0, none⟩ (.pointer (some ⟨w.heap.size + 3, 0, none⟩)) = W3 := ⟨_, rfl⟩
  have HW3 : Hid (W2.setCell ⟨w.heap.size, 0, none⟩ (.pointer (some ⟨w.heap.size + 3, 0, none⟩)) = W3) := hW3
  obtain ⟨W4, hW4⟩ : ∃ W4, W3.alloc (.cells #[.int .i64 0, .int .i64 0] 58) = W4 := ⟨_, rfl⟩
  have HW4 : Hid (W3.alloc (.cells #[.int .i64 0, .int .i64 0] 58) = W4) := hW4
  have s2 : W2.heap.size = w.heap.size + 4 := by rw [← hW2, World.size_alloc, s1]
  have k23 : Kp W2 W3 (fun i => i = w.heap.size) := by rw [← hW3]; exact (Kp.refl _ _).setCell _ _ (.inr rfl)
  have s3 : W3.heap.size = w.heap.size + 4 := by rw [← hW3, World.size_setCell, s2]
  have k34 : Kp W3 W4 Nul := by rw [← hW4]; exact (Kp.refl _ _).alloc _
  have k4 : Kp w W4 Nul := ((k1.trans k12).trans' k23 (fun i hi e => by have e' : i = w.heap.size := e; omega)).trans k34
  have HR4 : Hid (Rr W4 (w.heap.size + 2) l 0) := ((b2.kp k12 (fun x => x)).kp k23 (fun e => by omega)).kp k34 (fun x => x)
  have HG4 : Hid (GridIn W4 (fun i => i = w.heap.size + 3 ∨ w.heap.size + 5 ≤ i) (w.heap.size + 3) []) := (g2.far k23 (fun i hi e => by have e' : i = w.heap.size := e; omega)).kp k34
  have HB0 : Hid (Blk W4 w.heap.size [.pointer (some ⟨w.heap.size + 3, 0, none⟩)] 24) := by
    have : Blk W3 w.heap.size [.pointer (some ⟨w.heap.size + 3, 0, none⟩)] 24 := by rw [← hW3]; exact (b0.kp k12 (fun x => x)).set 0 _
    exact this.kp k34 (fun x => x)
  have HB1 : Hid (Blk W4 (w.heap.size + 1) [.int .i64 0] 28) := ((b1.kp k12 (fun x => x)).kp k23 (fun e => by omega)).kp k34 (fun x => x)
  have HB4 : Hid (Blk W4 (w.heap.size + 4) [.int .i64 0, .int .i64 0] 58) := by
    have := Blk.new W3 [.int .i64 0, .int .i64 0] 58
    rw [s3] at this
    show Blk _ _ _ _
    rw [← hW4]; exact this
  have HK4 : Hid (Kp w W4 Nul) := k4
  have HZ4 : Hid (W4.heap.size = w.heap.size + 5) := by show _ = _; rw [← hW4, World.size_alloc, s3]
  have HS3 : Hid (W3.heap.size = w.heap.size + 4) := s3
  have HNum : Hid (Calls Tryz.prog 56 #[.pointer (some ⟨w.heap.size + 2, 0, none⟩), .int .i64 2] W4 fun e w' => RdP (w.heap.size + 2) W4 0 ((rNum 2 l).map fun p => (.int .u64 p.1, p.2)) e w') := rnum_at _ l 0 2 W4 HR4.out (by decide)
  have HPl : Hid (∀ d k W, Rr W (w.heap.size + 2) d k → Calls Tryz.prog 117 #[.pointer (some ⟨w.heap.size + 2, 0, none⟩)] W fun e w' => RdP (w.heap.size + 2) W k ((rPl d).map fun p => (.agg #[.int .i64 p.1.1, .int .i64 p.1.2], p.2)) e w') := fun d k W h => rplace_at _ d k W h
  have HOrd : Hid (∀ a b c r w, Calls Tryz.prog 119 #[.agg #[.int .i64 a, .int .i64 b], .agg #[.int .i64 c, .int .i64 r]] w fun e w' => e = .returned (.int .i64 (ordC a b c r)) ∧ Kp w w' Nul) := fun a b c r w => (pOrder_x a b c r w).mono fun e w' h => ⟨h.1, h.2.kp⟩
  have hsg : w.heap.size + 2 ≠ 1 := by have := hs.lt; omega
  have HCt : Hid (∀ d k W, Rr W (w.heap.size + 2) d k → Kp w W Nul → Calls Tryz.prog 120 #[.pointer (some ⟨w.heap.size + 2, 0, none⟩)] W fun e w' => RcP (w.heap.size + 2) W (rCt d) e w') := fun d k W h kq => rcontent_at _ hsg d k W h (hs.kp kq (fun x => x))
  have HPut : Hid (∀ (c r : Int) (ct : Ct) (sl : Value) (F : Nat → Prop) (K : List Cc) (W : World), GridIn W (fun i => i = w.heap.size + 3 ∨ w.heap.size + 5 ≤ i) (w.heap.size + 3) K.reverse → w.heap.size + 5 ≤ W.heap.size → K.length ≤ 4096 → Rd ct → (∀ c', ((c, r), c') ∉ K) → NdIn W F sl ct.t → Kp w W Nul →
    Calls Tryz.prog 30 #[.pointer (some ⟨w.heap.size + 3, 0, none⟩), .agg #[.int .i64 c, .int .i64 r], ct.val sl] W fun e w' => ∃ er : Int, e = .returned (.int .i64 er) ∧ (er == 0) = rOk K c r ct ∧ (rOk K c r ct = true → GridIn w' (fun i => i = w.heap.size + 3 ∨ w.heap.size + 5 ≤ i) (w.heap.size + 3) (K ++ [((c, r), ct)]).reverse) ∧ Km (w.heap.size + 3) W w') := fun c r ct sl F K W hg hz hl hr hn hi kq => put_tell _ _ c r ct sl F K W hg (fun i hi => .inr (by omega)) hl hr hn hi (U.kp kq)
  have HM1 : Hid (∀ v w, Calls Tryz.prog 118 #[v, .bool true] w fun e w' => e = .returned (.tuple #[]) ∧ w' = w) := must_yes
  have HM0 : Hid (∀ v w, Calls Tryz.prog 118 #[v, .bool false] w fun e w' => e = .panicked ef ∧ w' = w) := must_no
  clear hs U ho hW1 hW2 hW3 hW4 s1 s2 s3 k1 k12 k23 k34 k4 b0 b1 b2 g2 hsg
  go_enter_defers Tryz.func64, Tryz.ntmps64
  go_wp2_with (first | (rw [HW1.out]) | fail)
  refine HNew.out.mono ?_
  rintro e w2 ⟨rfl, hz⟩
  replace hz := hz.symm
  subst hz
  clear HNew HW1
  go_wp2_with (first | (rw [HW3.out]) | fail)
  rw [HW4.out, HS3.out]
  refine HNum.out.mono ?_
  intro e w5 hr
  cases hq : rNum 2 l with
  | none =>
    rw [hq] at hr
    cases hr with
    | no kp5 =>
      have HFN : Hid (o = none ∧ Kp w w5 Nul ∧ Blk w5 w.heap.size [.pointer (some ⟨w.heap.size + 3, 0, none⟩)] 24 ∧ Blk w5 (w.heap.size + 1) [.int .i64 0] 28) :=
        ⟨by rw [HO.out, rSheet, hq]; rfl, HK4.out.trans' kp5 (fun i hi e => by omega), HB0.out.kp kp5 (fun e => by omega), HB1.out.kp kp5 (fun e => by omega)⟩
      clear kp5 hq
      go_wp2_with fail
      exact sheet_out HFN.out.1 HFN.out.2.1 HFN.out.2.2.1 HFN.out.2.2.2 _ _ _
  | some p =>
  obtain ⟨n, d0⟩ := p
  rw [hq] at hr
  cases hr with
  | ok h5 kp5 =>
  have hn : n < 65536 := rNum_lt hq
  obtain ⟨O, hO⟩ : ∃ O, rSh n (0, 0) [] d0 = O := ⟨_, rfl⟩
  have HO2 : Hid (o = O.bind fun q => if q.2 = [] then some q.1 else none) := by show _ = _; rw [HO.out, rSheet, hq, ← hO]; rfl
  have HI0 : Hid (ShI w O n [] (0, 0) d0 0 w5) := by
    have := HZ4.out
    have := kp5.size
    exact ⟨hO, h5, HG4.out.far kp5 (fun i hi e => by have e' : i = w.heap.size + 2 := e; omega), Upto.nil _, by simp, HB0.out.kp kp5 (fun e => by omega), HB1.out.kp kp5 (fun e => by omega), HB4.out.kp kp5 (fun e => by omega), HK4.out.trans' kp5 (fun i hi e => by omega), by omega⟩
  have HN : Hid (n < 65536) := hn
  clear h5 kp5 hq hO hn HO HNum HR4 HG4 HB0 HB1 HB4 HK4 HZ4 HS3 HW3 HW4 c0 f0
  go_wp2_with fail
  go_loopw [13] (fun si wr => ∃ (i : Nat) (K : List Cc) (la : Int × Int) (d : List UInt8) (k : Int), i ≤ n ∧ si = .int .u64 i ∧ ShI w O (n - i) K la d k wr) (fun si _ => ((n : Int) - intOf si).toNat)
  case atStart => exact ⟨0, [], (0, 0), d0, 0, Nat.zero_le _, by simp, HI0.out⟩
  case round =>
    obtain ⟨i, K, la, d, k, hi, rfl, hI⟩ := hrel
    by_cases hlt : i < n
    · have hlt' : (i : Int) < (n : Int) := by omega
      have HLT : Hid (i < n) := hlt
      obtain ⟨m, hm⟩ : ∃ m, n - i = m + 1 := ⟨n - i - 1, by omega⟩
      rw [hm] at hI
      have HMm : Hid (n - (i + 1) = m) := by show _ = _; omega
      have HI : Hid (ShI w O (m + 1) K la d k wr) := hI
      have HOUT : Hid (∀ W, O = none → Kp wr W (fun j => j = w.heap.size + 2 ∨ w.heap.size + 3 = j ∨ w.heap.size + 5 ≤ j) → o = none ∧ Kp w W Nul ∧ Blk W w.heap.size [.pointer (some ⟨w.heap.size + 3, 0, none⟩)] 24 ∧ Blk W (w.heap.size + 1) [.int .i64 0] 28) := fun W e kq =>
        ⟨by rw [HO2.out, e]; rfl, hI.kp.trans' kq (fun j hj e => by omega), hI.b0.kp kq (fun e => by omega), hI.b1.kp kq (fun e => by omega)⟩
      clear hI hi hm hlt
      go_wp2_with fail
      refine (HPl.out d k wr HI.out.rd).mono ?_
      intro e w1 hr
      cases hq : rPl d with
      | none =>
        rw [hq] at hr
        cases hr with
        | no kp1 =>
          have HFN := HOUT.out w1 (by rw [← HI.out.ans, rSh, hq]; rfl) (kp1.mono fun j hj e => .inl e)
          have HFN' : Hid (o = none ∧ Kp w w1 Nul ∧ Blk w1 w.heap.size [.pointer (some ⟨w.heap.size + 3, 0, none⟩)] 24 ∧ Blk w1 (w.heap.size + 1) [.int .i64 0] 28) := HFN
          clear kp1 hq HFN
          go_wp2_with fail
          exact sheet_out HFN'.out.1 HFN'.out.2.1 HFN'.out.2.2.1 HFN'.out.2.2.2 _ _ _
      | some p =>
      obtain ⟨⟨c, r⟩, d1⟩ := p
      rw [hq] at hr
      cases hr with
      | ok h1 kp1 =>
      obtain ⟨ci, hci⟩ : ∃ ci : Int, (c : Int) = ci := ⟨_, rfl⟩
      obtain ⟨ri, hri⟩ : ∃ ri : Int, (r : Int) = ri := ⟨_, rfl⟩
      simp only [hci, hri]
      obtain ⟨wA, hwA⟩ : ∃ wA, w1.alloc (.cells #[.int .i64 ci, .int .i64 ri] 58) = wA := ⟨_, rfl⟩
      have HWA : Hid (w1.alloc (.cells #[.int .i64 ci, .int .i64 ri] 58) = wA) := hwA
      have kA : Kp w1 wA Nul := by rw [← hwA]; exact (Kp.refl _ _).alloc _
      have HbA : Hid (Blk wA w1.heap.size [.int .i64 ci, .int .i64 ri] 58) := by show Blk _ _ _ _; rw [← hwA]; exact Blk.new w1 _ _
      have HkA : Hid (Kp wr wA (fun j => j = w.heap.size + 2)) := kp1.trans kA.of_nul
      have HrA : Hid (Rr wA (w.heap.size + 2) d1 k) := h1.kp kA (fun x => x)
      have HbL : Hid (Blk wA (w.heap.size + 4) [.int .i64 la.1, .int .i64 la.2] 58) := HI.out.b4.kp HkA.out (fun e => by omega)
      have HsA : Hid (wr.heap.size ≤ w1.heap.size ∧ wA.heap.size = w1.heap.size + 1) := ⟨kp1.size, by rw [← hwA, World.size_alloc]⟩
      have HQ1 : Hid (O = if ltOf cfA la (ci, ri) = true then (rCt d1).bind fun q => if rOk K ci ri q.1 = true then rSh m (ci, ri) (K ++ [((ci, ri), q.1)]) q.2 else none else none) := by
        show _ = _
        rw [← HI.out.ans, rSh, hq, Option.bind_some]
        simp only [hci, hri]
      clear h1 kp1 hq hwA kA hci hri
      obtain ⟨x, y⟩ := la
      have hL0 : (w1.alloc (.cells #[.int .i64 ci, .int .i64 ri] 58)).cell? ⟨w.heap.size + 4, 0, none⟩ = some (.int .i64 x) := by rw [HWA.out]; exact HbL.out.cell rfl
      have hL1 : (w1.alloc (.cells #[.int .i64 ci, .int .i64 ri] 58)).cell? ⟨w.heap.size + 4, 1, none⟩ = some (.int .i64 y) := by rw [HWA.out]; exact HbL.out.cell rfl
      go_wp2_with fail
      clear hL0 hL1
      rw [HWA.out]
      refine (HOrd.out _ _ _ _ _).mono ?_
      rintro e w2 ⟨rfl, k2⟩
      have HQ1' : Hid (O = if decide (ordC x y ci ri < 0) = true then (rCt d1).bind fun q => if rOk K ci ri q.1 = true then rSh m (ci, ri) (K ++ [((ci, ri), q.1)]) q.2 else none else none) := HQ1.out
      have HltB : Hid (decide (ordC x y ci ri < 0) = true → ltOf cfA (x, y) (ci, ri) = true) := fun h => h
      obtain ⟨ob, hob⟩ : ∃ ob, ordC x y ci ri = ob := ⟨_, rfl⟩
      rw [hob] at HQ1' HltB ⊢
      obtain ⟨B, hB⟩ : ∃ B, decide (ob < 0) = B := ⟨_, rfl⟩
      rw [hB] at HQ1' HltB
      have Hk2 : Hid (Kp wr w2 (fun j => j = w.heap.size + 2)) := HkA.out.trans k2.of_nul
      have Hb2 : Hid (Blk w2 w1.heap.size [.int .i64 ci, .int .i64 ri] 58) := HbA.out.kp k2 (fun x => x)
      have Hr2 : Hid (Rr w2 (w.heap.size + 2) d1 k) := HrA.out.kp k2 (fun x => x)
      have Hs2 : Hid (w1.heap.size < w2.heap.size) := by show _ < _; have := k2.size; have := HsA.out; omega
      clear k2 hob HkA HbA HrA HQ1 HbL HWA
      cases B with
      | false =>
        have HFN : Hid (o = none ∧ Kp w w2 Nul ∧ Blk w2 w.heap.size [.pointer (some ⟨w.heap.size + 3, 0, none⟩)] 24 ∧ Blk w2 (w.heap.size + 1) [.int .i64 0] 28) := HOUT.out w2 (by rw [HQ1'.out, if_neg (by decide)]) (Hk2.out.mono fun j hj e => .inl e)
        go_wp2_with fail
        refine (HM0.out _ _).mono ?_
        rintro e w3 ⟨rfl, hz⟩
        replace hz := hz.symm
        subst hz
        go_wp2_with fail
        exact sheet_out HFN.out.1 HFN.out.2.1 HFN.out.2.2.1 HFN.out.2.2.2 _ _ _
      | true =>
      have HQ2 : Hid (O = (rCt d1).bind fun q => if rOk K ci ri q.1 = true then rSh m (ci, ri) (K ++ [((ci, ri), q.1)]) q.2 else none) := by show _ = _; rw [HQ1'.out, if_pos rfl]
      have HLA : Hid (ltOf cfA (x, y) (ci, ri) = true) := HltB.out rfl
      clear HQ1' HltB
      go_wp2_with fail
      refine (HM1.out _ _).mono ?_
      rintro e w3 ⟨rfl, hz⟩
      replace hz := hz.symm
      subst hz
      clear hB
      go_wp2_with fail
      refine wp_region_hel (fun w' : World => Blk w' w.heap.size [.pointer (some ⟨w.heap.size + 3, 0, none⟩)] 24 ∧ Blk w' w1.heap.size [.int .i64 ci, .int .i64 ri] 58) (by kernel_rfl) ⟨HI.out.b0.kp Hk2.out.drew (fun e => by omega), Hb2.out⟩ (fun hHeld => ?_)
      refine wpH_takes (i := 0) (v := .pointer (some ⟨w.heap.size + 3, 0, none⟩)) (some 21) rfl rfl (by kernel_rfl) (by kernel_rfl) (by kernel_rfl) (fun c a w h => leaves_tmps (res64 a 21 _ (by decide)) _ _ _ h) (Or.inl ⟨by rfl, ?_⟩) hHeld ?_
      · intro w' hSw; have s0 := hSw.1.cell (i := 0) rfl; clear hSw; go_simp
      simp only [Act.put, List.setIfInBounds_toArray, List.set_cons_zero, List.set_cons_succ]
      refine wpH_takes (i := 1) (v := .agg #[.int .i64 ci, .int .i64 ri]) (some 22) rfl rfl (by kernel_rfl) (by kernel_rfl) (by kernel_rfl) (fun c a w h => leaves_tmps (res64 a 22 _ (by decide)) _ _ _ h) (Or.inl ⟨by rfl, ?_⟩) hHeld ?_
      · intro w' hSw; have s0 := hSw.2.cell (i := 0) rfl; have s1 := hSw.2.cell (i := 1) rfl; clear hSw; go_simp
      simp only [Act.put, List.setIfInBounds_toArray, List.set_cons_zero, List.set_cons_succ]
      refine wpH_step (i := 2) (by kernel_rfl) rfl rfl (fun KK hKK => ?_)
      go_simp
      have HkD : Hid (Kp wr w2.drew (fun j => j = w.heap.size + 2)) := Hk2.out.drew
      have HkDw : Hid (Kp w w2.drew Nul) := HI.out.kp.trans' HkD.out (fun j hj e => by have e' : j = w.heap.size + 2 := e; omega)
      have HrD : Hid (Rr w2.drew (w.heap.size + 2) d1 k) := Hr2.out
      have HsD : Hid (w1.heap.size < w2.drew.heap.size ∧ wr.heap.size ≤ w1.heap.size) := ⟨Hs2.out, HsA.out.1⟩
      generalize w2.drew = wD at *
      refine (HCt.out d1 k wD HrD.out HkDw.out).mono ?_
      intro e w4 hr
      cases hq : rCt d1 with
      | none =>
        rw [hq] at hr
        cases hr with
        | no kp4 =>
          have HFN := HOUT.out w4 (by rw [HQ2.out, hq]; rfl) ((HkD.out.trans kp4).mono fun j hj e => .inl e)
          exact sheet_out HFN.1 HFN.2.1 HFN.2.2.1 HFN.2.2.2 _ _ _
      | some p =>
      obtain ⟨ct, d2⟩ := p
      rw [hq] at hr
      cases hr with
      | @ok _ _ k4 sl fp _ h4 own4 kp4 =>
      have hrd : Rd ct := rCt_rd hq
      have k4w : Kp wr w4 (fun j => j = w.heap.size + 2) := HkD.out.trans kp4
      have k4W : Kp w w4 Nul := HkDw.out.trans' kp4 (fun j hj e => by have e' : j = w.heap.size + 2 := e; omega)
      have hgr4 : GridIn w4 (fun i => i = w.heap.size + 3 ∨ w.heap.size + 5 ≤ i) (w.heap.size + 3) K.reverse := HI.out.gr.far k4w (fun i hi e => by have e' : i = w.heap.size + 2 := e; omega)
      have hS4 := hHeld
      refine hKK.out _ _ ⟨HI.out.b0.kp k4w (fun e => by omega), hHeld.2.kp kp4 (fun e => by have := HsD.out; have := HI.out.sz; omega)⟩ (fun hHeld => ?_)
      clear hKK KK
      (try simp only [Act.put, List.setIfInBounds_toArray, List.set_cons_zero, List.set_cons_succ])
      refine wpH_step (i := 3) (by kernel_rfl) rfl rfl (fun KK hKK => ?_)
      go_simp
      have hz4 : w.heap.size + 5 ≤ w4.heap.size := by have := k4w.size; have := HI.out.sz; omega
      refine (HPut.out ci ri ct sl _ K w4 hgr4 hz4 HI.out.ln hrd (fun c' => HI.out.up.not HLA.out c') own4.isIn k4W).mono ?_
      rintro e w5 ⟨er, rfl, her, hG5, km5⟩
      have hne1 : w1.heap.size ≠ w.heap.size + 3 := by have := HsD.out; have := HI.out.sz; omega
      refine hKK.out _ _ ⟨km5.blk hHeld.1 (by omega), km5.blk hHeld.2 hne1⟩ (fun hHeld => ?_)
      clear hKK KK
      (try simp only [Act.put, List.setIfInBounds_toArray, List.set_cons_zero, List.set_cons_succ])
      refine wpH_takes (i := 4) (v := .bool (er == 0)) (some 25) rfl rfl (by kernel_rfl) (by kernel_rfl) (by kernel_rfl) (fun c a w h => leaves_tmps (res64 a 25 _ (by decide)) _ _ _ h) (Or.inl ⟨by rfl, ?_⟩) hHeld ?_
      · intro w' hSw; clear hSw; go_simp
      (try simp only [Act.put, List.setIfInBounds_toArray, List.set_cons_zero, List.set_cons_succ])
      rw [her]
      have k5 : Kp wr w5 (fun j => j = w.heap.size + 2 ∨ w.heap.size + 3 = j ∨ w.heap.size + 5 ≤ j) := (k4w.mono (fun j hj e => .inl e)).trans' km5.kp (fun j hj e => by have := grid_sm hgr4 e; omega)
      refine wpH_step (i := 5) (by kernel_rfl) rfl rfl (fun KK hKK => ?_)
      cases hB : rOk K ci ri ct with
      | false =>
        go_simp
        refine (HM0.out _ _).mono ?_
        rintro e w6 ⟨rfl, hz⟩
        replace hz := hz.symm
        subst hz
        have HFN := HOUT.out w5 (by rw [HQ2.out, hq, Option.bind_some]; simp only; rw [hB, if_neg (by decide)]) k5
        exact sheet_out HFN.1 HFN.2.1 HFN.2.2.1 HFN.2.2.2 _ _ _
      | true =>
      go_simp
      refine (HM1.out _ _).mono ?_
      rintro e w6 ⟨rfl, hz⟩
      replace hz := hz.symm
      subst hz
      refine hKK.out _ _ hHeld (fun hHeld => ?_)
      clear hKK KK
      (try simp only [Act.put, List.setIfInBounds_toArray, List.set_cons_zero, List.set_cons_succ])
      refine wpAnyH_done (by kernel_rfl) ?_ _
      (try simp only [Act.put, List.setIfInBounds_toArray, List.set_cons_zero, List.set_cons_succ])
      have hk45 : Kp w4 w5 (fun j => w.heap.size + 3 = j ∨ w.heap.size + 5 ≤ j) := km5.kp.mono (fun j hj e => by have := grid_sm hgr4 e; omega)
      have hb45 : Blk w5 (w.heap.size + 4) [.int .i64 x, .int .i64 y] 58 := HI.out.b4.kp k5 (fun e => by omega)
      have e0 : w5.cell? ⟨w.heap.size + 4, 0, none⟩ = some (.int .i64 x) := hb45.cell rfl
      have e1 : w5.cell? ⟨w.heap.size + 4, 1, none⟩ = some (.int .i64 y) := hb45.cell rfl
      have f0 : w5.frozen? ⟨w.heap.size + 4, 0, none⟩ = false := hb45.froz 0
      have f1 : w5.frozen? ⟨w.heap.size + 4, 1, none⟩ = false := hb45.froz 1
      have a0 : w5.cell? ⟨w1.heap.size, 0, none⟩ = some (.int .i64 ci) := hHeld.2.cell rfl
      have a1 : w5.cell? ⟨w1.heap.size, 1, none⟩ = some (.int .i64 ri) := hHeld.2.cell rfl
      have HNX : Hid (ShI w O (n - (i + 1)) (K ++ [((ci, ri), ct)]) (ci, ri) d2 k4 ((w5.setCell ⟨w.heap.size + 4, 0, none⟩ (.int .i64 ci)).setCell ⟨w.heap.size + 4, 1, none⟩ (.int .i64 ri))) := by
        have hk6 : Kp w5 ((w5.setCell ⟨w.heap.size + 4, 0, none⟩ (.int .i64 ci)).setCell ⟨w.heap.size + 4, 1, none⟩ (.int .i64 ri)) (fun j => j = w.heap.size + 4) := ((Kp.refl w5 (fun j => j = w.heap.size + 4)).setCell ⟨w.heap.size + 4, 0, none⟩ _ (.inr rfl)).setCell ⟨w.heap.size + 4, 1, none⟩ _ (.inr rfl)
        have hrl : K.length < 4096 := by unfold rOk at hB; simp only [Bool.and_eq_true, decide_eq_true_eq] at hB; exact hB.2
        have hwk : Kp w w5 Nul := k4W.trans' hk45 (fun j hj e => by omega)
        refine ⟨?_, (h4.kp hk45 (fun e => by omega)).kp hk6 (fun e => by omega), (hG5 hB).far hk6 (fun j hj e => by have e' : j = w.heap.size + 4 := e; omega), HI.out.up.add HLA.out ct, by rw [List.length_append]; simp only [List.length_cons, List.length_nil]; omega, (HI.out.b0.kp k5 (fun e => by omega)).kp hk6 (fun e => by omega), (HI.out.b1.kp k5 (fun e => by omega)).kp hk6 (fun e => by omega), (hb45.set 0 _).set 1 _, hwk.trans' hk6 (fun j hj e => by have e' : j = w.heap.size + 4 := e; omega), by have := k5.size; have := hk6.size; have := HI.out.sz; omega⟩
        rw [HMm.out, HQ2.out, hq, Option.bind_some]
        simp only
        rw [hB, if_pos rfl]
      have HHI : Hid (i < n ∧ n < 65536) := ⟨HLT.out, HN.out⟩
      have hwr : IntKind.u64.wrap ((i : Int) + 1) = (i : Int) + 1 := by have := HHI.out; rw [IntKind.wrap_u64]; omega
      clear hHeld hS4 hB k5 her hne1 hk45 hb45 hG5 km5 hz4 hgr4 k4W k4w hrd hq h4 own4 kp4 HPut HCt HPl HOrd HOUT HI HQ2 HLA HkD HkDw HrD HsD Hk2 Hb2 Hr2 Hs2 HsA HM0 HM1 hmf
      go_wp2_with fail
      go_roundw
      case rel => exact ⟨i + 1, _, _, _, _, by have := HHI.out; omega, by go_num, HNX.out⟩
      case measure => simp only [intOf]; have := HHI.out; omega
    · have hie : i = n := by omega
      subst hie
      rw [Nat.sub_self] at hI
      have hO : O = some (K, d) := hI.ans.symm
      have HO3 : Hid (o = if d = [] then some K else none) := by show _ = _; rw [HO2.out, hO]; rfl
      have HI : Hid (ShI w O 0 K la d k wr) := hI
      have cR : wr.cell? ⟨w.heap.size + 1 + 1, 0, none⟩ = some (.string ⟨d.toArray⟩) := hI.rd.cell rfl
      have c0 : wr.cell? ⟨w.heap.size, 0, none⟩ = some (.pointer (some ⟨w.heap.size + 3, 0, none⟩)) := hI.b0.cell rfl
      have f0 : wr.frozen? ⟨w.heap.size, 0, none⟩ = false := hI.b0.froz 0
      have c1 : wr.cell? ⟨w.heap.size + 1, 0, none⟩ = some (.int .i64 0) := hI.b1.cell rfl
      have f1 : wr.frozen? ⟨w.heap.size + 1, 0, none⟩ = false := hI.b1.froz 0
      clear hI hO hi hlt HO2
      go_wp2_with fail
      clear cR
      cases hd : d.isEmpty with
      | false =>
        have HFN : Hid (o = none) := by show _ = _; rw [HO3.out, if_neg (fun e => by rw [e] at hd; cases hd)]
        refine (HM0.out _ _).mono ?_
        rintro e w6 ⟨rfl, hz⟩
        replace hz := hz.symm
        subst hz
        go_wp2_with fail
        exact sheet_out HFN.out HI.out.kp HI.out.b0 HI.out.b1 _ _ _
      | true =>
        have HFN : Hid (o = some K) := by show _ = _; rw [HO3.out, if_pos (List.isEmpty_iff.1 hd)]
        refine (HM1.out _ _).mono ?_
        rintro e w6 ⟨rfl, hz⟩
        replace hz := hz.symm
        subst hz
        have hkX : Kp wr ((wr.setCell ⟨w.heap.size, 0, none⟩ (.pointer (some ⟨w.heap.size + 3, 0, none⟩))).setCell ⟨w.heap.size + 1, 0, none⟩ (.int .i64 0)) (fun j => j = w.heap.size ∨ j = w.heap.size + 1) := ((Kp.refl wr (fun j => j = w.heap.size ∨ j = w.heap.size + 1)).setCell ⟨w.heap.size, 0, none⟩ _ (.inr (.inl rfl))).setCell ⟨w.heap.size + 1, 0, none⟩ _ (.inr (.inr rfl))
        have HX : Hid (Kp w ((wr.setCell ⟨w.heap.size, 0, none⟩ (.pointer (some ⟨w.heap.size + 3, 0, none⟩))).setCell ⟨w.heap.size + 1, 0, none⟩ (.int .i64 0)) Nul ∧ GI w.heap.size ((wr.setCell ⟨w.heap.size, 0, none⟩ (.pointer (some ⟨w.heap.size + 3, 0, none⟩))).setCell ⟨w.heap.size + 1, 0, none⟩ (.int .i64 0)) (w.heap.size + 3) K.reverse ∧ Blk ((wr.setCell ⟨w.heap.size, 0, none⟩ (.pointer (some ⟨w.heap.size + 3, 0, none⟩))).setCell ⟨w.heap.size + 1, 0, none⟩ (.int .i64 0)) w.heap.size [.pointer (some ⟨w.heap.size + 3, 0, none⟩)] 24 ∧ Blk ((wr.setCell ⟨w.heap.size, 0, none⟩ (.pointer (some ⟨w.heap.size + 3, 0, none⟩))).setCell ⟨w.heap.size + 1, 0, none⟩ (.int .i64 0)) (w.heap.size + 1) [.int .i64 0] 28) := by
          refine ⟨HI.out.kp.trans' hkX (fun j hj e => by omega), (GridIn.far HI.out.gr hkX (fun j hj e => by omega)).mono (fun j hj => by omega), ?_, ?_⟩
          · exact (HI.out.b0.set 0 _).other _ _ (by simp)
          · exact (HI.out.b1.other _ _ (by simp)).set 0 _
        clear hkX
        go_wp2_with fail
        exact sheet_in HFN.out HX.out.1 HX.out.2.1 HX.out.2.2.1 HX.out.2.2.2 _ _ _
end Go.Proofs.YthgeojgfjpcelaaGreatDoor
namespace Go.Proofs.YthgeojgfjpcelaaGreatDoor
open Go.RowKit Go.Maps Go.Sort Go.Lib Go.Shelf

/-- Behind Unpack. -/
inductive UpP (w : World) (er : Nat) : Option (List Cc) → Ending → World → Prop
  | ok {K : List Cc} {g : Nat} {w' : World} (gi : GI w.heap.size w' g K.reverse) (kp : Kp w w' Nul) : UpP w er (some K) (.returned (.tuple #[.pointer (some ⟨g, 0, none⟩), .int .i64 er])) w'
  | no {w' : World} (kp : Kp w w' Nul) : UpP w er none (.returned (.tuple #[.pointer none, .int .i64 er])) w'
theorem UpP.fin {w w' : World} {er : Nat} {o : Option (List Cc)} (h : o = none) (kp : Kp w w' Nul) : UpP w er o (.returned (.tuple #[.pointer none, .int .i64 er])) w' := by rw [h]; exact .no kp
set_option maxRecDepth 40000 in
set_option maxHeartbeats 8000000 in
theorem unpack_at (l : List UInt8) (w : World) (hs : Sh w) (U : VS w) :
    Calls Tryz.prog 29 #[.string ⟨l.toArray⟩] w fun e w' => UpP w (upR l) (upO l) e w' := by
  have hsz : ((ByteArray.mk l.toArray).size : Int) = (l.length : Int) := by show ((l.toArray.size : Nat) : Int) = _; rw [List.size_toArray]
  obtain ⟨o, ho⟩ : ∃ o, upO l = o := ⟨_, rfl⟩
  obtain ⟨er, her⟩ : ∃ er, upR l = er := ⟨_, rfl⟩
  rw [ho, her]
  have HE : Hid (upE l = if 4194304 < l.length then 2 else if l.take 4 = markB then if l.length < 10 then 3 else if unle (laB l) = crcS (ahB l) then 0 else 51 else 50) := by show _ = _; rfl
  have HNO : Hid (∀ x : Nat, upE l = x → x ≠ 0 → o = none ∧ er = x) := fun x e hx => by
    refine ⟨?_, ?_⟩
    · rw [← ho]; unfold upO; rw [if_neg (by rw [e]; exact hx)]
    · rw [← her]; unfold upR; rw [if_neg (by rw [e]; exact hx)]; exact e
  have HYES : Hid (upE l = 0 → o = rSheet ((ahB l).drop 4) ∧ er = if o.isSome = true then 0 else 3) := fun e => by
    have e1 : o = rSheet ((ahB l).drop 4) := by rw [← ho]; unfold upO; rw [if_pos e]
    refine ⟨e1, ?_⟩
    rw [← her]; unfold upR; rw [if_pos e, ho]
  obtain ⟨B, hB⟩ : ∃ B, decide (l.take 4 = markB) = B := ⟨_, rfl⟩
  have HB : Hid (decide (l.take 4 = markB) = B) := hB
  have HP : Hid (∀ w, Calls Tryz.prog 63 #[.string ⟨l.toArray⟩, .string ⟨#[81, 68, 82, 49]⟩] w fun e w' => e = .returned (.bool B) ∧ w' = w) := fun w => by
    have := prefix_at l w
    rw [hB] at this
    exact this
  clear ho her hB
  by_cases h1 : 4194304 < l.length
  · have h1' : (4194304 : Int) < (l.length : Int) := by omega
    obtain ⟨e1, e2⟩ := HNO.out 2 (by rw [HE.out, if_pos h1]) (by decide)
    subst e2
    have HF : Hid (UpP w 2 o (.returned (.tuple #[.pointer none, .int .i64 2])) w) := UpP.fin e1 (Kp.refl _ _)
    clear e1 h1 HYES HNO HE
    go_enter Tryz.func29, Tryz.ntmps29
    go_wp2_with fail
    refine bodyPost_ret (results_tmp2 rfl _ _ _) rfl ?_
    exact HF.out
  have h1' : ¬ (4194304 : Int) < (l.length : Int) := by omega
  cases hb : B with
  | false =>
    subst hb
    obtain ⟨e1, e2⟩ := HNO.out 50 (by rw [HE.out, if_neg h1, if_neg (of_decide_eq_false HB.out)]) (by decide)
    subst e2
    have HF : Hid (UpP w 50 o (.returned (.tuple #[.pointer none, .int .i64 50])) w) := UpP.fin e1 (Kp.refl _ _)
    clear e1 h1 HYES HNO HE
    go_enter Tryz.func29, Tryz.ntmps29
    go_wp2_with fail
    refine (HP.out _).mono ?_
    rintro e w1 ⟨rfl, hz⟩
    replace hz := hz.symm
    subst hz
    go_wp2_with fail
    refine bodyPost_ret (results_tmp2 rfl _ _ _) rfl ?_
    exact HF.out
  | true =>
  subst hb
  by_cases h2 : l.length < 10
  · have h2' : (l.length : Int) < 10 := by omega
    obtain ⟨e1, e2⟩ := HNO.out 3 (by rw [HE.out, if_neg h1, if_pos (of_decide_eq_true HB.out), if_pos h2]) (by decide)
    subst e2
    have HF : Hid (UpP w 3 o (.returned (.tuple #[.pointer none, .int .i64 3])) w) := UpP.fin e1 (Kp.refl _ _)
    clear e1 h1 h2 HYES HNO HE
    go_enter Tryz.func29, Tryz.ntmps29
    go_wp2_with fail
    refine (HP.out _).mono ?_
    rintro e w1 ⟨rfl, hz⟩
    replace hz := hz.symm
    subst hz
    go_wp2_with fail
    refine bodyPost_ret (results_tmp2 rfl _ _ _) rfl ?_
    exact HF.out
  have h2' : ¬ (l.length : Int) < 10 := by omega
  obtain ⟨n, hn⟩ : ∃ n, l.length = n + 4 := ⟨l.length - 4, by omega⟩
  have hE1 : (ByteArray.mk l.toArray).extract 0 n = ⟨(ahB l).toArray⟩ := by rw [ba_take]; unfold ahB; rw [hn, Nat.add_sub_cancel]
  have hE2 : (ByteArray.mk l.toArray).extract n l.length = ⟨(laB l).toArray⟩ := by rw [ba_drop]; unfold laB; rw [hn, Nat.add_sub_cancel]
  have hla : (laB l).length = 4 := la_len (by omega)
  have hah : (ahB l).length = n := by unfold ahB; rw [List.length_take]; omega
  have hE3 : (ByteArray.mk (ahB l).toArray).extract 4 n = ⟨((ahB l).drop 4).toArray⟩ := by have := ba_drop (ahB l) 4; rw [hah] at this; exact this
  obtain ⟨W1, hW1⟩ : ∃ W1, (w.alloc (.cells #[.string ⟨(laB l).toArray⟩, .int .i64 0] 116)).drew = W1 := ⟨_, rfl⟩
  have k1 : Kp w W1 Nul := by rw [← hW1]; exact ((Kp.refl w Nul).alloc _).drew
  have b1 : Rr W1 w.heap.size (laB l) 0 := by rw [← hW1]; exact Blk.new w _ _
  have hrn : rNum 4 (laB l) = some (unle (laB l), []) := by unfold rNum; rw [if_pos (by omega), List.take_of_length_le (by omega), List.drop_eq_nil_of_le (by omega)]
  have HN : Hid (Calls Tryz.prog 56 #[.pointer (some ⟨w.heap.size, 0, none⟩), .int .i64 4] W1 fun e w' => e = .returned (.int .u64 (unle (laB l) : Nat)) ∧ Kp w w' Nul) := (rnum_at w.heap.size (laB l) 0 4 W1 b1 (by decide)).mono fun e w' h => by
    rw [hrn] at h
    cases h with
    | ok _ kp => exact ⟨rfl, k1.trans' kp (fun i hi e => by have e' : i = w.heap.size := e; omega)⟩
  have HSum : Hid (∀ wq, Calls Tryz.prog 39 #[.string ⟨(ahB l).toArray⟩] wq fun e w' => e = .returned (.int .u32 (crcS (ahB l) : Nat)) ∧ Kp wq w' Nul) := fun wq => by
    have := sum_at ⟨(ahB l).toArray⟩ wq (by show (ahB l).toArray.size ≤ _; rw [List.size_toArray]; omega)
    exact this
  have HSh : Hid (∀ wq, Kp w wq Nul → Calls Tryz.prog 64 #[.string ⟨((ahB l).drop 4).toArray⟩] wq fun e w' => ShP wq (rSheet ((ahB l).drop 4)) e w') := fun wq k => sheet_at _ wq (hs.kp k (fun x => x)) (U.kp k)
  have HW1 : Hid ((w.alloc (.cells #[.string ⟨(laB l).toArray⟩, .int .i64 0] 116)).drew = W1) := hW1
  have hcr := crcS_lt (ahB l)
  have hcv := run_u32u64 (crcS (ahB l)) hcr
  have HE2 : Hid (upE l = if unle (laB l) = crcS (ahB l) then 0 else 51) := by show _ = _; rw [HE.out, if_neg h1, if_pos (of_decide_eq_true HB.out), if_neg h2]
  have hw1 : wrap64 ((l.length : Int) - 4) = (n : Int) := by unfold wrap64; omega
  have hw2 : IntKind.i64.wrap ((l.length : Int) - 4) = (n : Int) := by rw [IntKind.wrap_i64]; omega
  have hn1 : ¬ (n : Int) < 0 := by omega
  have hn2 : (n : Int) ≤ (l.length : Int) := by omega
  have hn3 : (4 : Int) ≤ (n : Int) := by omega
  have HAL : Hid (((ByteArray.mk (ahB l).toArray).size : Int) = (n : Int)) := by show ((ahB l).toArray.size : Int) = _; rw [List.size_toArray, hah]
  clear hn hcr hrn hla hah hW1 k1 b1 hs U h1 h2 HE HB
  go_enter Tryz.func29, Tryz.ntmps29
  go_wp2_with fail
  refine (HP.out _).mono ?_
  rintro e w1 ⟨rfl, hz⟩
  replace hz := hz.symm
  subst hz
  go_wp2_with fail
  go_region_held3 (fun _ : World => True) (trivial) (fail)
  rw [HW1.out]
  clear hE1 hE2 hw1 hw2 hsz HW1 HP
  generalize unle (laB l) = u at *
  generalize crcS (ahB l) = v at *
  have hszA : ((ByteArray.mk (ahB l).toArray).size : Int) = (n : Int) := HAL.out
  clear hE3
  go_wp2_with fail
  refine HN.out.mono ?_
  rintro e w2 ⟨rfl, k2⟩
  have HK2 : Hid (Kp w w2 Nul) := k2
  clear k2 HN
  go_wp2_with fail
  refine (HSum.out _).mono ?_
  rintro e w3 ⟨rfl, k3⟩
  have HK3 : Hid (Kp w w3 Nul) := HK2.out.trans k3
  clear k3 HSum HK2
  by_cases he : u = v
  · subst he
    have hbe : ((u : Int) != (u : Int)) = false := by simp
    obtain ⟨g1, g2⟩ := HYES.out (by rw [HE2.out, if_pos rfl])
    have HFIN : Hid (∀ e' w', ShP w3 (rSheet ((ahB l).drop 4)) e' w' → UpP w er o e' w') := fun e' w' h => by
      rw [← g1] at h
      cases h with
      | ok gi kp =>
        have : er = 0 := by rw [g2]; rfl
        subst this
        exact .ok (GridIn.mono gi (fun i hi => Nat.le_trans HK3.out.size hi)) (HK3.out.trans kp)
      | no kp =>
        have : er = 3 := by rw [g2]; rfl
        subst this
        exact .no (HK3.out.trans kp)
    clear g1 g2 HYES HNO HE2
    go_wp2_with fail
    rw [ba_drop]
    refine (HSh.out w3 HK3.out).mono ?_
    intro e w4 h
    have HF : Hid (UpP w er o e w4) := HFIN.out e w4 h
    cases hq : rSheet ((ahB l).drop 4) with
    | none =>
      rw [hq] at h
      cases h with
      | no kp =>
        clear kp hq HFIN HSh
        go_wp2_with fail
        refine bodyPost_ret (results_tmp2 rfl _ _ _) rfl ?_
        exact HF.out
    | some K =>
      rw [hq] at h
      cases h with
      | ok gi kp =>
        clear kp gi hq HFIN HSh
        go_wp2_with fail
        refine bodyPost_ret (results_tmp2 rfl _ _ _) rfl ?_
        exact HF.out
  · have hbe : ((u : Int) != (v : Int)) = true := by simp; omega
    obtain ⟨g1, g2⟩ := HNO.out 51 (by rw [HE2.out, if_neg he]) (by decide)
    subst g2
    have HF : Hid (UpP w 51 o (.returned (.tuple #[.pointer none, .int .i64 51])) w3) := UpP.fin g1 HK3.out
    clear g1 he HYES HNO HE2
    go_wp2_with fail
    refine bodyPost_ret (results_tmp2 rfl _ _ _) rfl ?_
    exact HF.out
end Go.Proofs.YthgeojgfjpcelaaGreatDoor
namespace Go.Proofs.YthgeojgfjpcelaaGreatDoor
open Go.RowKit Go.Shelf

/-- Stores into a row whose frozen range begins at its end or beyond. -/
theorem run_storeCells_far (P : Program) (g o : Nat) (t : TypeId) (fz : Nat × Nat) : ∀ (vs : List Value) (i : Nat) (cur : Array Value) (w : World), w.heap[g]? = some (.cells cur t fz) → cur.size ≤ fz.1 → o + i + vs.length ≤ cur.size → (∀ v ∈ vs, v.oneCell' = true) →
    (storeCells ⟨g, o, none⟩ vs i).run P w = .ok () (w.setRow g (cur.toList.take (o + i) ++ vs ++ cur.toList.drop (o + i + vs.length)).toArray)
  | [], i, cur, w, hg, _, _, _ => by
    simp only [storeCells, List.append_nil, List.length_nil, Nat.add_zero, List.take_append_drop, Array.toArray_toList]
    rw [setRow_self w g cur t fz hg]
    rfl
  | v :: rest, i, cur, w, hg, hfz, hl, h1 => by
    have hi : o + i < cur.size := by simp at hl; omega
    have hadd : (⟨g, o, none⟩ : Addr).add i = ⟨g, o + i, none⟩ := by unfold Addr.add; split <;> simp_all
    have hcell : w.cell? ⟨g, o + i, none⟩ = some cur[o + i] := by simp [World.cell?, hg, hi]
    have hfro : w.frozen? ⟨g, o + i, none⟩ = false := by
      obtain ⟨lo, hi'⟩ := fz
      simp only [World.frozen?, hg, Bool.and_eq_false_iff, decide_eq_false_iff_not]
      left
      simp only at hfz
      omega
    have hst : (store ((⟨g, o, none⟩ : Addr).add i) v).run P w = .ok () (w.setRow g (cur.setIfInBounds (o + i) v)) := by
      rw [hadd, run_store P w _ v _ (h1 v (by simp)), hcell]
      simp [hfro, setCell_eq_setRow w g (o + i) cur t fz v hg]
    have ih := run_storeCells_far P g o t fz rest (i + 1) (cur.setIfInBounds (o + i) v) (w.setRow g (cur.setIfInBounds (o + i) v)) (setRow_heap w g cur _ t _ hg) (by simpa using hfz) (by simp at hl ⊢; omega) (fun x hx => h1 x (by simp [hx]))
    simp only [storeCells, Sem.run_bind, hst, Result.andThen_ok, ih, setRow_setRow]
    congr 3
    have e := list_seg_step cur.toList (o + i) v rest (by simp at hl ⊢; omega)
    simpa [Array.toList_setIfInBounds, Nat.add_assoc] using e
/-- append to such a row of bytes. -/
theorem run_append_far (P : Program) (w : World) (t ty e : TypeId) (i : TypeInfo) (ht : P.underlying t = some (.slice e)) (hi : P.info? e = some i) (hz : i.zero = some (.int .u8 0)) (hs1 : i.size = 1) (hby : i.bytes = 1)
    (g n cap : Nat) (cur : Array Value) (fz : Nat × Nat) (hg : w.heap[g]? = some (.cells cur e fz)) (hfz : cur.size ≤ fz.1) (hcs : cur.size = cap) (l : List UInt8) (hl : l.length = n) (htake : cur.toList.take n = Lib.byteCells l)
    (a : Addr) (m c : Nat) (k : List UInt8) (hk : k.length = m) (hnews : ∀ j u, (Lib.byteCells k)[j]? = some u → w.cell? (a.add j) = some u) (h63 : n + m ≤ 140737488355328) :
    ∃ g' c' w', (Builtin.append_ #[t, t] ty #[.slice (some ⟨g, 0, none⟩) n cap, .slice (some a) m c]).run P w = .ok (.slice (some ⟨g', 0, none⟩) (n + m) c') w' ∧ (∀ j x, (l ++ k)[j]? = some x → w'.cell? ⟨g', j, none⟩ = some (.int .u8 (UInt8.toNat x))) ∧ Kp w w' (fun b => b = g) := by
  have hkl : (Lib.byteCells k).length = m * i.size := by rw [hs1, Lib.byteCells_length, hk, Nat.mul_one]
  have h1 : ∀ u ∈ Lib.byteCells k, u.oneCell' = true := fun u hu => by
    unfold Lib.byteCells at hu
    obtain ⟨x, _, rfl⟩ := List.mem_map.1 hu
    rfl
  have hcell : ∀ j x, (l ++ k)[j]? = some x → (Lib.byteCells l ++ Lib.byteCells k)[j]? = some (Value.int .u8 (UInt8.toNat x)) := fun j x hx => by
    have e : Lib.byteCells l ++ Lib.byteCells k = Lib.byteCells (l ++ k) := by unfold Lib.byteCells; rw [List.map_append]
    rw [e]
    unfold Lib.byteCells
    rw [List.getElem?_map, hx]
    rfl
  by_cases hroom : n + m ≤ cap
  · have hf := run_firstCells_some (P := P) w i.size m a m c (Lib.byteCells k) hkl hnews
    have hst := run_storeCells_far P g (n * i.size) e fz (Lib.byteCells k) 0 cur w hg hfz (by rw [hs1, Lib.byteCells_length, hk]; omega) h1
    simp only [Nat.add_zero] at hst
    refine ⟨g, cap, w.setRow g (cur.toList.take (n * i.size) ++ Lib.byteCells k ++ cur.toList.drop (n * i.size + (Lib.byteCells k).length)).toArray, ?_, fun j x hx => ?_, ?_⟩
    · simp [Builtin.append_, run_underlying ht, sizeOf, typeInfo, hi, Builtin.lenOf, hroom, hf, Addr.add_lit, hst]
    · rw [cell_of_row _ g j _ e fz (setRow_heap w g cur _ e _ hg)]
      rw [hs1, Nat.mul_one, htake]
      have hj := (List.getElem?_eq_some_iff.1 (hcell j x hx)).1
      simp only [List.getElem?_toArray]
      rw [List.getElem?_append_left hj]
      exact hcell j x hx
    · refine ⟨rfl, rfl, rfl, by simp, fun b hb hs => setRow_other w g b _ (fun e => hs e)⟩
  · have holds : ∀ j u, (Lib.byteCells l)[j]? = some u → w.cell? ((⟨g, 0, none⟩ : Addr).add j) = some u := fun j u hu => by
      have hadd : (⟨g, 0, none⟩ : Addr).add j = ⟨g, j, none⟩ := by unfold Addr.add; split <;> simp_all
      rw [hadd, cell_of_row w g j cur e fz hg]
      rw [← htake, List.getElem?_take] at hu
      split at hu
      · simpa using hu
      · cases hu
    have hr := run_append_grow (P := P) w t ty e i (.int .u8 0) ht hi hz ⟨g, 0, none⟩ n cap (Lib.byteCells l) (by rw [Lib.byteCells_length, hl, hs1, Nat.mul_one]) holds a m c (Lib.byteCells k) hkl hnews (by omega) (by omega) (growslice_fits (by omega) (by rw [hby]; omega))
    refine ⟨_, _, _, hr, fun j x hx => ?_, ((Kp.refl w _).drew).alloc _⟩
    have h2 : ∀ X : World, ∀ C : Array Value, X.heap[w.heap.size]? = some (.cells C e) → X.cell? ⟨w.heap.size, j, none⟩ = C[j]? := fun X C hX => Lib.cell_of_heap hX j
    rw [h2 _ _ (World.alloc_heap_new w.drew _)]
    have hj := (List.getElem?_eq_some_iff.1 (hcell j x hx)).1
    rw [Array.getElem?_append_left (by simpa using hj)]
    have := hcell j x hx
    simpa using this
/-- append, by its run. -/
theorem wpList_append_eq {P : Program} {w : World} {ops : Array Oper} {rest : List Oper} {o : Oper} {a : Act} {Q : Exit → Act → World → Prop} (hgd : o.guard = none) (s x : Operand) (t : TypeId) (ho : o.op = Op.call { callee := Callee.builtin Builtin.append, args := #[s, x], argTypes := #[t, t] })
    (v1 v2 v' : Value) (w' : World) (hs : a.eval s = v1) (hx : a.eval x = v2) (hr : (Builtin.append_ #[t, t] o.type #[v1, v2]).run P w = .ok v' w') (h : wpList P ops Q rest (a.put o.dst v') w') : wpList P ops Q (o :: rest) a w := by
  refine wpList_plain hgd fun K hK => ?_
  unfold Oper.wp execOp
  simp only [ho, resolve, invoke, builtin, Sem.run_bind, Sem.run_pure, Result.andThen_ok, List.map_toArray, List.map_cons, List.map_nil, hs, hx, hr]
  exact hK _ _ h
/-- The bytes l with the mark ahead and their sum behind. -/
def sealB (l : List UInt8) : List UInt8 := (markB ++ l) ++ le 4 (crcS (markB ++ l))
theorem cat_mark (l : List UInt8) : (ByteArray.mk #[81, 68, 82, 49]) ++ (ByteArray.mk l.toArray) = ⟨(markB ++ l).toArray⟩ := by
  apply ByteArray.ext
  rw [ByteArray.data_append]
  simp [markB]
theorem run_u32b (n : Nat) (w : World) : (convert 91 5 (.int .u32 n)).run Tryz.prog w = .ok (.int .u8 (UInt8.ofNat n).toNat) w := by
  have e : ((UInt8.ofNat n).toNat : Int) = (n : Int) % 256 := by rw [UInt8.toNat_ofNat']; omega
  rw [e]
  simp [go_sem, convert, run_underlying Tryz.underlying91, run_underlying Tryz.underlying5, IntKind.wrap, IntKind.signed]
set_option maxRecDepth 20000 in
set_option maxHeartbeats 4000000 in
theorem sealed_at (l : List UInt8) (w : World) (hl : l.length + 8 ≤ 140737488355328) :
    Calls Tryz.prog 15 #[.string ⟨l.toArray⟩] w fun e w' => e = .returned (.string ⟨(sealB l).toArray⟩) ∧ Kp w w' Nul := by
  obtain ⟨L, hL⟩ : ∃ L, markB ++ l = L := ⟨_, rfl⟩
  have hLl : L.length = l.length + 4 := by rw [← hL, List.length_append]; have : markB.length = 4 := rfl; omega
  have hcat : (ByteArray.mk #[81, 68, 82, 49]) ++ (ByteArray.mk l.toArray) = ⟨L.toArray⟩ := by rw [← hL]; exact cat_mark l
  have hq4 : 4 + l.length ≤ 9223372036854775807 := by omega
  obtain ⟨n, hn⟩ : ∃ n, L.length = n := ⟨_, rfl⟩
  have hs : (ByteArray.mk L.toArray).size = n := by show L.toArray.size = _; rw [List.size_toArray, hn]
  have hcv := run_bytes_of_string (P := Tryz.prog) w 9 75 5 ⟨L.toArray⟩ Tryz.underlying9 Tryz.underlying75 Tryz.underlying5
  rw [hs] at hcv
  obtain ⟨cap, hcap⟩ : ∃ cap, grownCap w n 0 5 = cap := ⟨_, rfl⟩
  have hge := grownCap_ge w n 0 5
  rw [hcap] at hcv hge
  obtain ⟨row, hrow⟩ : ∃ row, bytesRow ⟨L.toArray⟩ cap = row := ⟨_, rfl⟩
  rw [hrow] at hcv
  have hrs : row.size = cap := by
    rw [← hrow]
    unfold bytesRow
    rw [Array.size_append, Array.size_map, Array.size_replicate, hs]
    show L.toArray.size + _ = _
    rw [List.size_toArray, hn]
    omega
  have hrt : row.toList.take n = Lib.byteCells L := by
    rw [← hrow]
    unfold bytesRow Lib.byteCells
    rw [Array.toList_append, List.take_append_of_le_length (by simp; omega)]
    simp only [Array.toList_map, ← hn]
    exact List.take_of_length_le (by simp)
  obtain ⟨W1, hW1⟩ : ∃ W1, w.drew.alloc (.cells row 5 (row.size, row.size + 1)) = W1 := ⟨_, rfl⟩
  rw [hW1] at hcv
  have k1 : Kp w W1 Nul := by rw [← hW1]; exact ((Kp.refl w Nul).drew).alloc _
  have hb1 : W1.heap[w.heap.size]? = some (.cells row 5 (row.size, row.size + 1)) := by rw [← hW1]; exact World.alloc_heap_new w.drew _
  have HSum : Hid (Calls Tryz.prog 44 #[.slice (some ⟨w.heap.size, 0, none⟩) n cap] W1 fun e w' => e = .returned (.int .u32 (crcS L : Nat)) ∧ w' = W1) := rsum_at w.heap.size 0 n cap L hn (by omega) W1 (fun j x hx => by
    rw [Nat.zero_add]
    have h2 : W1.cell? ⟨w.heap.size, j, none⟩ = row[j]? := cell_of_row W1 w.heap.size j row 5 (row.size, row.size + 1) hb1
    rw [h2]
    have h3 : (Lib.byteCells L)[j]? = some (Value.int .u8 (UInt8.toNat x)) := by unfold Lib.byteCells; rw [List.getElem?_map, hx]; rfl
    rw [← hrt, List.getElem?_take] at h3
    split at h3
    · simpa using h3
    · cases h3)
  obtain ⟨s, hsv⟩ : ∃ s, crcS L = s := ⟨_, rfl⟩
  have hslt : s < 4294967296 := by rw [← hsv]; exact crcS_lt L
  rw [hsv] at HSum
  obtain ⟨s1, hs1⟩ : ∃ s1, s / 256 = s1 := ⟨_, rfl⟩
  obtain ⟨s2, hs2⟩ : ∃ s2, s / 65536 = s2 := ⟨_, rfl⟩
  obtain ⟨s3, hs3⟩ : ∃ s3, s / 16777216 = s3 := ⟨_, rfl⟩
  have g1 : (s : Int) / 256 = (s1 : Int) := by omega
  have g2 : (s : Int) / 65536 = (s2 : Int) := by omega
  have g3 : (s : Int) / 16777216 = (s3 : Int) := by omega
  have hle : le 4 s = [UInt8.ofNat s, UInt8.ofNat s1, UInt8.ofNat s2, UInt8.ofNat s3] := by
    rw [le, le, le, le, le, Nat.div_div_eq_div_mul, Nat.div_div_eq_div_mul, hs1, hs2, hs3]
  have v0 := run_u32b s
  have v1 := run_u32b s1
  have v2 := run_u32b s2
  have v3 := run_u32b s3
  obtain ⟨i8, hi8, hz8, hsz8, hby8⟩ := infoU8
  obtain ⟨W2, hW2⟩ : ∃ W2, W1.alloc (.cells #[.int .u8 (UInt8.ofNat s).toNat, .int .u8 (UInt8.ofNat s1).toNat, .int .u8 (UInt8.ofNat s2).toNat, .int .u8 (UInt8.ofNat s3).toNat] 5) = W2 := ⟨_, rfl⟩
  have k2 : Kp W1 W2 Nul := by rw [← hW2]; exact (Kp.refl _ _).alloc _
  have b2 : Blk W2 W1.heap.size [.int .u8 (UInt8.ofNat s).toNat, .int .u8 (UInt8.ofNat s1).toNat, .int .u8 (UInt8.ofNat s2).toNat, .int .u8 (UInt8.ofNat s3).toNat] 5 := by rw [← hW2]; exact Blk.new W1 _ _
  have hb2 : W2.heap[w.heap.size]? = some (.cells row 5 (row.size, row.size + 1)) := (k2.block _ (Array.getElem?_eq_some_iff.1 hb1).1 (fun x => x)).trans hb1
  obtain ⟨g', c', W3, hap, hcl, k3⟩ := run_append_far Tryz.prog W2 75 75 5 i8 Tryz.underlying75 hi8 hz8 hsz8 hby8 w.heap.size n cap row (row.size, row.size + 1) hb2 (Nat.le_refl _) hrs L hn hrt ⟨W1.heap.size, 0, none⟩ 4 4 [UInt8.ofNat s, UInt8.ofNat s1, UInt8.ofNat s2, UInt8.ofNat s3] rfl (fun j u hu => by
    have hadd : (⟨W1.heap.size, 0, none⟩ : Addr).add j = ⟨W1.heap.size, j, none⟩ := by unfold Addr.add; split <;> simp_all
    rw [hadd]
    exact b2.cell hu) (by omega)
  have hSB : sealB l = L ++ [UInt8.ofNat s, UInt8.ofNat s1, UInt8.ofNat s2, UInt8.ofNat s3] := by unfold sealB; rw [hL, hsv, hle]
  have hbk := run_convert_bytes_back (P := Tryz.prog) W3 75 9 5 ⟨g', 0, none⟩ c' (L ++ [UInt8.ofNat s, UInt8.ofNat s1, UInt8.ofNat s2, UInt8.ofNat s3]) Tryz.underlying75 Tryz.underlying5 Tryz.underlying9 (fun j hj => by
    have hadd : (⟨g', 0, none⟩ : Addr).add j = ⟨g', j, none⟩ := by unfold Addr.add; split <;> simp_all
    rw [hadd]
    exact hcl j _ (List.getElem?_eq_getElem hj))
  rw [show (L ++ [UInt8.ofNat s, UInt8.ofNat s1, UInt8.ofNat s2, UInt8.ofNat s3]).length = n + 4 from by rw [List.length_append, hn]; rfl, ← hSB] at hbk
  have HK3 : Hid (Kp w W3 Nul) := (k1.trans k2).trans' k3 (fun j hj e => by have e' : j = w.heap.size := e; omega)
  have q : ∀ x : Nat, ((UInt8.ofNat x).toNat : Int) = (x : Int) % 256 := fun x => by rw [UInt8.toNat_ofNat']; omega
  rw [q, q, q, q] at hW2
  have HAP : Hid ((Builtin.append_ #[75, 75] 75 #[.slice (some ⟨w.heap.size, 0, none⟩) n cap, .slice (some ⟨W1.heap.size, 0, none⟩) 4 4]).run Tryz.prog (W1.alloc (.cells #[.int .u8 ((s : Int) % 256), .int .u8 ((s1 : Int) % 256), .int .u8 ((s2 : Int) % 256), .int .u8 ((s3 : Int) % 256)] 5)) = .ok (.slice (some ⟨g', 0, none⟩) (n + 4) c') W3) := by show _ = _; rw [hW2]; exact hap
  clear hap q
  clear hcl hSB hle k3 b2 hb2 hb1 k1 k2 hW1 hW2 hrt hrs hrow hge hcap hs hn hLl hL hsv hslt hs1 hs2 hs3 hl
  go_enter Tryz.func15, Tryz.ntmps15
  go_wp2_with fail
  clear hcv hcat hq4
  refine HSum.out.mono ?_
  rintro e w2 ⟨rfl, hz⟩
  replace hz := hz.symm
  subst hz
  go_wp2_with (first | (refine wpList_append_eq rfl (.tmp 10) (.tmp 22) 75 rfl (.slice (some ⟨w.heap.size, 0, none⟩) n cap) (.slice (some ⟨W1.heap.size, 0, none⟩) 4 4) (.slice (some ⟨g', 0, none⟩) (n + 4) c') W3 rfl rfl (by with_reducible exact HAP.out) ?_) | fail)
  go_ret
  exact ⟨rfl, HK3.out⟩
end Go.Proofs.YthgeojgfjpcelaaGreatDoor
