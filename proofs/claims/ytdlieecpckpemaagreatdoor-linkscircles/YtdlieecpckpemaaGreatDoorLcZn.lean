/- New, isSet, keep, Set. -/
import Derived.Test.YtdlieecpckpemaaGreatDoorLcZe
import Derived.Test.YtdlieecpckpemaaGreatDoorLcZa
import Derived.Carry
namespace Go.Proofs.YtdlieecpckpemaaGreatDoor
open Go.RowKit Go.Sort Go.Lib Go.Maps

set_option maxHeartbeats 1000000 in
theorem isNoArea_at (c r d s : Int) (w : World) : Calls Tryz.prog 65 #[.agg #[.int .i64 c, .int .i64 r, .int .i64 d, .int .i64 s]] w fun e w' => e = .returned (.bool (!vA c r d s)) ∧ Gr w w' := by
  have H1 : Hid (∀ wq, Gr w wq → Calls Tryz.prog 79 #[.agg #[.int .i64 c, .int .i64 r, .int .i64 d, .int .i64 s]] wq fun e w' => e = .returned (.bool (vA c r d s)) ∧ Gr w w') := fun wq k => (pValidArea_any c r d s wq).mono fun e w' ⟨h1, h2⟩ => ⟨h1, k.trans h2⟩
  generalize vA c r d s = V at *
  go_enter Tryz.func65, Tryz.ntmps65
  go_wp2_with (go_at_call 79; refine (H1.out _ ((Gr.refl _).alloc _ _)).mono ?_; rintro e w' ⟨rfl, hg⟩)
  go_ret
  exact ⟨rfl, hg⟩
set_option maxHeartbeats 1000000 in
theorem indexR_zero (a : Option Addr) (c : Nat) (f : Value) (w : World) : Calls Tryz.prog 81 #[.slice a 0 c, f] w fun e w' => e = .returned (.int .i64 (-1)) ∧ w' = w := by
  go_enter Tryz.func81, Tryz.ntmps81
  go_wp2
  refine wp_loop_rounds 1 ?_
  rw [rounds_succ]
  go_wp2
  go_ret
  exact ⟨rfl, rfl⟩
set_option maxHeartbeats 1000000 in
theorem containsR_zero (a : Option Addr) (c : Nat) (f : Value) (w : World) : Calls Tryz.prog 46 #[.slice a 0 c, f] w fun e w' => e = .returned (.bool false) ∧ w' = w := by
  go_enter Tryz.func46, Tryz.ntmps46
  go_wp2_with (go_at_call 81; refine (indexR_zero _ _ _ _).mono ?_; rintro e w' ⟨rfl, hz⟩; subst hz)
  go_ret
  exact ⟨rfl, rfl⟩
/-- slices.ContainsFunc of areas: whether one of them is such a one. -/
theorem containsR_at (p : Ar → Bool) (g : Nat) (lb : Array Value) (eg : ∀ args w, (callFunc g args).run Tryz.prog w = .ok (.enter g args) w) (A : List Ar) (a : Option Addr) (c : Nat) (w : World) (hA : A.length ≤ 9223372036854775807) (ha : 0 < A.length → ∃ b o, a = some ⟨b, o, none⟩ ∧ AreasAt w b o A)
    (hp : ∀ (W : World) (x : Ar), Kp w W Nul → Calls Tryz.prog g (#[.agg #[.int .i64 x.c1, .int .i64 x.r1, .int .i64 x.c2, .int .i64 x.r2]] ++ lb) W fun e w' => e = .returned (.bool (p x)) ∧ Kp W w' Nul) :
    Calls Tryz.prog 46 #[.slice a A.length c, .func (.func g) #[] lb] w fun e w' => e = .returned (.bool (A.any p)) ∧ Kp w w' Nul := by
  by_cases hl : 0 < A.length
  · obtain ⟨b, o, rfl, hc⟩ := ha hl
    obtain ⟨x0, hx0⟩ : ∃ x, A[0]? = some x := ⟨_, List.getElem?_eq_getElem hl⟩
    have hpb : PredBelow Tryz.prog g lb (fun x => .agg (encR x).toArray) (fun x => p (arT x)) w := fun W x hW => by
      have kW : Kp w W Nul := Kp.of_below hW
      refine (hp W (arT x) kW).mono ?_
      rintro e w' ⟨rfl, hg⟩
      exact ⟨rfl, (kW.trans hg).below⟩
    have el : (A.map tupA).length = A.length := List.length_map ..
    have hs := AnyQ.slices_ContainsFunc Tryz.layContainsFuncArea 4 Tryz.isAgg52 Tryz.sizeOf52 encR encR_len (fun x => p (arT x)) g lb eg b o A.length c (A.map tupA) w hpb (by rw [el]; exact Nat.le_refl _) (by omega) (cell_lt (hc 0 x0 hx0).1) (fun j hj i v hv => by
      rw [getElem!_pos (A.map tupA) j hj] at hv
      exact hc.enc j _ (List.getElem?_eq_getElem hj) i v hv)
    refine hs.mono ?_
    rintro e w' ⟨rfl, hb⟩
    refine ⟨?_, Kp.of_below hb⟩
    rw [← el, List.take_length, List.any_map]
    rfl
  · have h0 : A = [] := List.length_eq_zero_iff.1 (by omega)
    subst h0
    refine (containsR_zero a c _ w).mono ?_
    rintro e w' ⟨rfl, rfl⟩
    exact ⟨rfl, Kp.refl _ _⟩
def vR (a : Ar) : Bool := vA a.c1 a.r1 a.c2 a.r2
theorem noArea_any (A : List Ar) (a : Option Addr) (c : Nat) (w : World) (hA : A.length ≤ 9223372036854775807) (ha : 0 < A.length → ∃ b o, a = some ⟨b, o, none⟩ ∧ AreasAt w b o A) :
    Calls Tryz.prog 46 #[.slice a A.length c, .func (.func 65) #[] #[]] w fun e w' => e = .returned (.bool (A.any (fun x => !vR x))) ∧ Kp w w' Nul :=
  containsR_at (fun x => !vR x) 65 #[] (enters_of Tryz.func65 (by kernel_rfl) rfl) A a c w hA ha (fun W x _ => (isNoArea_at x.c1 x.r1 x.c2 x.r2 W).mono fun e w' ⟨h1, h2⟩ => ⟨h1, Kp.of_gr h2⟩)

set_option maxHeartbeats 1000000 in
theorem newL_at (w : World) : Calls Tryz.prog 7 #[] w fun e w' => e = .returned (.pointer (some ⟨w.heap.size, 0, none⟩)) ∧ w' = w.alloc (.cells #[.map none] 66) := by
  go_enter Tryz.func7, Tryz.ntmps7
  go_wp2
  go_ret
  exact ⟨rfl, rfl⟩
theorem links_new (w : World) (F : Nat → Prop) (hF : F w.heap.size) : LinksIn (w.alloc (.cells #[.map none] 66)) F w.heap.size (fun _ => none) 0 :=
  ⟨hF, .inl ⟨Blk.new w [.map none] _, rfl, rfl⟩⟩
set_option maxRecDepth 20000 in
set_option maxHeartbeats 2000000 in
theorem isSet_at (F : Nat → Prop) (l n : Nat) (us : Int × Int → Option (List Ar)) (c r : Int) (w : World) (h : LinksIn w F l us n) (hc : I64 c) (hr : I64 r) :
    Calls Tryz.prog 63 #[.pointer (some ⟨l, 0, none⟩), .agg #[.int .i64 c, .int .i64 r]] w fun e w' => e = .returned (.bool (us (c, r)).isSome) ∧ Kp w w' Nul := by
  obtain ⟨mv, v, hlk, _⟩ := lk_of h hc hr
  have hb := hlk.cell.alloc (.cells #[.int .i64 c, .int .i64 r] 29)
  have c0 : (w.alloc (.cells #[.int .i64 c, .int .i64 r] 29)).cell? ⟨l, 0, none⟩ = some (.map mv) := hb.cell rfl
  have hkk : ∀ m, Kp w ((w.alloc (.cells #[.int .i64 c, .int .i64 r] 29)).drewN m) Nul := fun m => ((Kp.refl w Nul).alloc _).drewN m
  have hms : ∀ m m', mv = some m' → ((w.alloc (.cells #[.int .i64 c, .int .i64 r] 29)).drewN m).heap[m']? = w.heap[m']? := fun m m' hm => (hkk m).block m' (hlk.ne m' hm).2 (fun x => x)
  have hlook := fun m => hlk.two ((w.alloc (.cells #[.int .i64 c, .int .i64 r] 29)).drewN m) (hms m)
  have HK : Hid (∀ o m, Kp w ((w.alloc o).drewN m) Nul) := fun o m => ((Kp.refl w Nul).alloc o).drewN m
  generalize (us (c, r)).isSome = V at *
  clear h hlk hb hc hr hkk hms
  go_enter Tryz.func63, Tryz.ntmps63
  go_wp2_with fail
  go_quiet (fail)
  go_wp2_with fail
  go_ret
  exact ⟨rfl, HK.out _ _⟩
theorem key_put {k : TypeId} (K : Keyed Tryz.prog k) {v : Value} {l : Lit} (h : keyOf Tryz.prog k v = some l) {D : DataW Value} (hD : IsMap D) (d : DataW Value) : Maps.has (D.put l d) l = true ∧ ∀ z, (D.put l d).atKey l z = d := ⟨has_put_same hD (K.key h) d, fun z => atKey_put_same hD (K.key h) d z⟩
theorem kl_put {c r : Int} (hc : I64 c) (hr : I64 r) {D : DataW Value} (hD : IsMap D) (d : DataW Value) : Maps.has (D.put (kl c r) d) (kl c r) = true ∧ ∀ z, (D.put (kl c r) d).atKey (kl c r) z = d := by
  have h := kl_key hc hr
  generalize kl c r = l at h ⊢
  exact key_put lawAddr h hD d
/-- One more cell is set, or set anew. -/
def updU (us : Int × Int → Option (List Ar)) (x : Int × Int) (al : List Ar) : Int × Int → Option (List Ar) := fun y => if y = x then some al else us y
def cntU (us : Int × Int → Option (List Ar)) (x : Int × Int) (n : Nat) : Nat := if (us x).isSome then n else n + 1
/-- What the map's update makes. -/
theorem map_put {w w' : World} {F : Nat → Prop} {D : DataW Value} {us : Int × Int → Option (List Ar)} {n m : Nat} {x : Int × Int} {al : List Ar} {v : Value} (hown : w.ownsMap Tryz.prog 29 rawE m n D) (hm : MapHas w F D us n) (hown' : w'.ownsMap Tryz.prog 29 rawE m (n + 1) (D.put (kl x.1 x.2) (.held v))) (hk : Kp w w' (fun i => i = m)) (hx : VC x) (hv : ArSl w' F v al) (hok : (∀ a ∈ al, a.ok) ∧ al.length ≤ 256) :
    w'.ownsMap Tryz.prog 29 rawE m (cntU us x n) (D.put (kl x.1 x.2) (.held v)) ∧ MapHas w' F (D.put (kl x.1 x.2) (.held v)) (updU us x al) (cntU us x n) := by
  have hi := hx.i64
  have hput := kl_put hi.1 hi.2 hown.isMap (.held v)
  generalize hK : kl x.1 x.2 = K at *
  have hT := hown.tidy lawAddr
  have hsz : Maps.size (D.put K (.held v)) = cntU us x n := by
    rw [size_put hT, ← hK, hm.keys x.1 x.2 hi.1 hi.2, hm.size]
    rfl
  have hne : ∀ c r, I64 c → I64 r → (c, r) ≠ x → kl c r ≠ K := fun c r hc hr h e => by
    rw [← hK] at e
    have := kl_inj hc hr hi.1 hi.2 e
    exact h (Prod.ext this.1 this.2)
  refine ⟨by rw [← hsz]; exact ownsMap_tight hown', hsz, fun c r hc hr => ?_, fun c r al' hu => ?_, fun y al' hu => ?_, fun y al' hu => ?_⟩
  · by_cases e : (c, r) = x
    · subst e
      unfold updU
      simp only at hK
      rw [hK, hput.1, if_pos rfl]; rfl
    · unfold updU
      rw [has_put_other (hne c r hc hr e), hm.keys c r hc hr, if_neg e]
  · unfold updU at hu
    by_cases e : (c, r) = x
    · subst e
      rw [if_pos rfl] at hu
      cases hu
      simp only at hK
      exact ⟨v, by rw [hK]; exact hput.2 _, hv⟩
    · rw [if_neg e] at hu
      have hcr := (hm.rng _ _ hu).i64
      obtain ⟨v', h1, h2⟩ := hm.vals c r al' hu
      refine ⟨v', by rw [atKey_put_other (hne c r hcr.1 hcr.2 e)]; exact h1, ?_⟩
      obtain ⟨a, c', e1, e2, e3, e4⟩ := h2
      refine ⟨a, c', e1, e2, e3, fun hl => ?_⟩
      obtain ⟨b, o, f1, f2, f3⟩ := e4 hl
      refine ⟨b, o, f1, f2, f3.kp hk (fun eb => ?_)⟩
      obtain ⟨y, hy⟩ : ∃ y, al'[0]? = some y := ⟨_, List.getElem?_eq_getElem hl⟩
      have hcell := (f3 0 y hy).1
      obtain ⟨es, clock, hmm, _⟩ := hown
      simp only [World.cell?] at hcell
      rw [eb, hmm] at hcell
      cases hcell
  · unfold updU at hu
    by_cases e : y = x
    · rw [e]; exact hx
    · rw [if_neg e] at hu; exact hm.rng y al' hu
  · unfold updU at hu
    by_cases e : y = x
    · rw [if_pos e] at hu; cases hu; exact hok
    · rw [if_neg e] at hu; exact hm.oks y al' hu
end Go.Proofs.YtdlieecpckpemaaGreatDoor
