/- Add and Mul of any two singles, the program's and the document's. -/
import Derived.Test.YtckjmcfncfoboaaDoorRz
import Derived.Test.YtckjmcfncfoboaaDoorKn
namespace Go.Proofs.YtckjmcfncfoboaaDoor
open Go.RowKit
open Ieee

def evK : Nat := 1000
def dnK : Nat := 400
def aK : Nat := 20
/-- Bounds under a name, so that nothing works them out. -/
def EB : Nat := 2 ^ evK
def DB : Nat := 2 ^ dnK
theorem db_eb : DB + DB ≤ EB := by
  unfold DB EB
  rw [← Nat.two_mul, Nat.mul_comm, ← Nat.pow_succ]
  exact Nat.pow_le_pow_right (by decide) (by unfold dnK evK; decide)
theorem db_a (n : Nat) (h : n < DB) : n < 2 ^ (32 * aK) := Nat.lt_of_lt_of_le h (Nat.pow_le_pow_right (by decide) (by unfold dnK aK; decide))
theorem eb_log (n : Nat) (h0 : n ≠ 0) (h : n < EB) : n.log2 < 1000 := by
  have := (Nat.log2_lt (k := evK) h0).2 h
  unfold evK at this
  exact this
theorem eb_big (n : Nat) (h : n < EB) : n < 2 ^ bigA := Nat.lt_of_lt_of_le h (Nat.pow_le_pow_right (by decide) (by unfold evK bigA; decide))
theorem even_any (neg : Bool) (x : Value) (A : Nat) (E : Int) (hA0 : A ≠ 0) (hAl : A < EB) (hE0 : -1000 < E) (hE1 : E < 1000) (w : World) (h : NatAt w x A) :
    Calls Tryd.prog 62 #[.bool neg, x, .int .i64 E] w fun e w' => e = .returned (.int .u32 (Rn.word32 1 neg A E : Nat)) ∧ Gr w w' := by
  obtain ⟨i, Mo, Ee, hF⟩ := toF_agg 1 neg A E
  have hb := bits32_any 1 neg A E hA0
  rw [hF] at hb
  have hlog := eb_log A hA0 hAl
  refine even_core neg i x A E Mo Ee _ (nrO 1 neg A E || nrI A E) (nrO 1 neg A E) (!nrO 1 neg A E && nrU A E) w h (fun w => of_any 1 (by decide) w) (fun w => thirty_any w) (fun w num den h1 h2 => ?_) hb
  have := to24_any neg num den A E 1 w hA0 (eb_big A hAl) (by omega) h1 h2 (by omega) (by omega) (by omega) (by omega) (by decide) (by decide)
  rw [hF] at this
  exact this

theorem mant_bd (r : Nat) (h : r < 2139095040) : Fs.mantOf r < 16777216 ∧ -149 ≤ Fs.placeOf r ∧ Fs.placeOf r ≤ 104 := by
  have c := Fs.canon_of r
  have e := Fs.rungOf_of r
  unfold Fs.canon at c
  unfold Fs.rungOf at e
  exact ⟨c.1, c.2.1, by omega⟩
theorem isn32N (b : Nat) (h : b < 4294967296) (w : World) : Calls Tryd.prog 42 #[.int .u32 (b : Int)] w fun e w' => e = .returned (.bool (isN32 b)) ∧ w' = w := by
  have := risnan_any b (by omega) (by omega) w
  rwa [Int.toNat_natCast] at this
theorem sg_ne (b : Nat) : ((if sgb32 b = true then (2147483648 : Int) else 0) != 0) = sgb32 b := by cases sgb32 b <;> rfl
theorem dn_lt (m k : Nat) (h : m < 16777216) (hk : k ≤ 300) : m * 2 ^ k < DB := by
  have h1 : m * 2 ^ k < 2 ^ 24 * 2 ^ k := Nat.mul_lt_mul_of_pos_right h (Nat.two_pow_pos k)
  rw [← Nat.pow_add] at h1
  exact Nat.lt_of_lt_of_le h1 (Nat.pow_le_pow_right (by decide) (by unfold dnK; omega))
theorem lt_kk (m : Nat) (h : m < 16777216) : m < 2 ^ (32 * kk) := by
  have h1 : (2 : Nat) ^ 24 ≤ 2 ^ (32 * kk) := Nat.pow_le_pow_right (by decide) (by unfold kk; decide)
  have h2 : (2 : Nat) ^ 24 = 16777216 := by decide
  omega
theorem radd_any (a b : Nat) (ha : a < 4294967296) (hb : b < 4294967296) (w : World) :
    Calls Tryd.prog 24 #[.int .u32 (a : Int), .int .u32 (b : Int)] w fun e w' => e = .returned (.int .u32 (ad32 a b : Nat)) ∧ Gr w w' := by
  have n1 := isn32N a ha
  have n2 := isn32N b hb
  have za := andNot31 a ha
  have zb := andNot31 b hb
  unfold ad32
  by_cases c1 : isN32 a = true
  · rw [if_pos (Or.inl c1)]
    exact radd_special a b _ _ _ _ _ n1 n2 za zb (Or.inl ⟨c1, rfl⟩) w
  have f1 : isN32 a = false := by simpa using c1
  by_cases c2 : isN32 b = true
  · rw [if_pos (Or.inr (Or.inl c2))]
    exact radd_special a b _ _ _ _ _ n1 n2 za zb (Or.inr (Or.inl ⟨f1, c2, rfl⟩)) w
  have f2 : isN32 b = false := by simpa using c2
  have m1 : mag32 a ≤ 2139095040 := Nat.le_of_not_lt fun d => c1 (decide_eq_true d)
  have m2 : mag32 b ≤ 2139095040 := Nat.le_of_not_lt fun d => c2 (decide_eq_true d)
  by_cases i1 : mag32 a = 2139095040
  · have e1 : ((mag32 a : Int) == 2139095040) = true := by rw [beq_iff_eq]; omega
    by_cases i2 : mag32 b = 2139095040
    · have e2 : ((mag32 b : Int) == 2139095040) = true := by rw [beq_iff_eq]; omega
      by_cases d : a = b
      · rw [if_neg (by rintro (x | x | x); exact c1 x; exact c2 x; exact x.2.2 d), if_pos i1]
        exact radd_special a b _ _ _ _ _ n1 n2 za zb (Or.inr (Or.inr (Or.inr (Or.inl ⟨f1, f2, e1, e2, by rw [d]; simp, rfl⟩)))) w
      · rw [if_pos (Or.inr (Or.inr ⟨i1, i2, d⟩))]
        exact radd_special a b _ _ _ _ _ n1 n2 za zb (Or.inr (Or.inr (Or.inl ⟨f1, f2, e1, e2, by rw [bne_iff_ne]; omega, rfl⟩))) w
    · have e2 : ((mag32 b : Int) == 2139095040) = false := by rw [beq_eq_false_iff_ne]; omega
      rw [if_neg (by rintro (x | x | x); exact c1 x; exact c2 x; exact i2 x.2.1), if_pos i1]
      exact radd_special a b _ _ _ _ _ n1 n2 za zb (Or.inr (Or.inr (Or.inr (Or.inr (Or.inl ⟨f1, f2, e1, e2, rfl⟩))))) w
  have e1 : ((mag32 a : Int) == 2139095040) = false := by rw [beq_eq_false_iff_ne]; omega
  rw [if_neg (by rintro (x | x | x); exact c1 x; exact c2 x; exact i1 x.1), if_neg i1]
  by_cases i2 : mag32 b = 2139095040
  · have e2 : ((mag32 b : Int) == 2139095040) = true := by rw [beq_iff_eq]; omega
    rw [if_pos i2]
    exact radd_special a b _ _ _ _ _ n1 n2 za zb (Or.inr (Or.inr (Or.inr (Or.inr (Or.inr ⟨f1, f2, e1, e2, rfl⟩))))) w
  have e2 : ((mag32 b : Int) == 2139095040) = false := by rw [beq_eq_false_iff_ne]; omega
  rw [if_neg i2]
  obtain ⟨am, ap0, ap1⟩ := mant_bd (mag32 a) (by omega)
  obtain ⟨bm, bp0, bp1⟩ := mant_bd (mag32 b) (by omega)
  have s1 := rsplit32_any a ha m1
  have s2 := rsplit32_any b hb m2
  have y1 := and31 a ha
  have y2 := and31 b hb
  have hX : dn32 a (low32 a b) = Fs.mantOf (mag32 a) * 2 ^ (Fs.placeOf (mag32 a) - low32 a b).toNat := rfl
  have hY : dn32 b (low32 a b) = Fs.mantOf (mag32 b) * 2 ^ (Fs.placeOf (mag32 b) - low32 a b).toNat := rfl
  have hL : low32 a b = min (Fs.placeOf (mag32 a)) (Fs.placeOf (mag32 b)) := rfl
  unfold adF
  generalize dn32 a (low32 a b) = X at *
  generalize dn32 b (low32 a b) = Y at *
  generalize low32 a b = L at *
  have hXl : X < DB := by rw [hX]; exact dn_lt _ _ am (by omega)
  have hYl : Y < DB := by rw [hY]; exact dn_lt _ _ bm (by omega)
  have hXY : X + Y < EB := by have := db_eb; omega
  have hlow : (Fs.placeOf (mag32 a) ≤ Fs.placeOf (mag32 b) ∧ L = Fs.placeOf (mag32 a) ∧ ((Fs.placeOf (mag32 a) - L).toNat : Int) = 0 ∧ ((Fs.placeOf (mag32 b) - L).toNat : Int) = Fs.placeOf (mag32 b) - Fs.placeOf (mag32 a)) ∨ (Fs.placeOf (mag32 b) < Fs.placeOf (mag32 a) ∧ L = Fs.placeOf (mag32 b) ∧ ((Fs.placeOf (mag32 a) - L).toNat : Int) = Fs.placeOf (mag32 a) - Fs.placeOf (mag32 b) ∧ ((Fs.placeOf (mag32 b) - L).toNat : Int) = 0) := by omega
  have l1 : ∀ w x, NatAt w x (Fs.mantOf (mag32 a)) → Calls Tryd.prog 60 #[x, .int .i64 ((Fs.placeOf (mag32 a) - L).toNat : Int)] w fun e w' => (∃ v, e = .returned v ∧ NatAt w' v X) ∧ Gr w w' := fun w x h => by
    rw [hX]; exact left_any x _ _ _ rfl (by omega) (lt_kk _ am) w h
  have l2 : ∀ w x, NatAt w x (Fs.mantOf (mag32 b)) → Calls Tryd.prog 60 #[x, .int .i64 ((Fs.placeOf (mag32 b) - L).toNat : Int)] w fun e w' => (∃ v, e = .returned v ∧ NatAt w' v Y) ∧ Gr w w' := fun w x h => by
    rw [hY]; exact left_any x _ _ _ rfl (by omega) (lt_kk _ bm) w h
  have o1 : ∀ w, Calls Tryd.prog 57 #[.int .u64 (Fs.mantOf (mag32 a) : Nat)] w fun e w' => (∃ v, e = .returned v ∧ NatAt w' v (Fs.mantOf (mag32 a))) ∧ Gr w w' := fun w => of_any _ (by omega) w
  have o2 : ∀ w, Calls Tryd.prog 57 #[.int .u64 (Fs.mantOf (mag32 b) : Nat)] w fun e w' => (∃ v, e = .returned v ∧ NatAt w' v (Fs.mantOf (mag32 b))) ∧ Gr w w' := fun w => of_any _ (by omega) w
  by_cases hs : sgb32 a = sgb32 b
  · rw [if_pos hs]
    refine radd_same a b _ _ _ _ _ _ L _ _ _ _ _ _ _ _ _ _ _ X Y w f1 f2 hs n1 n2 za zb e1 e2 s1 s2 ap0 ap1 bp0 bp1 hlow o1 o2 l1 l2 y1 y2 (sg_ne a) (sg_ne b) (fun w x y h1 h2 => nadd_any x y X Y aK (by unfold aK; decide) (db_a X hXl) (db_a Y hYl) w h1 h2) ?_
    by_cases z : X + Y = 0
    · rw [if_pos z]; exact Or.inl ⟨z, rfl⟩
    · rw [if_neg z]; exact Or.inr ⟨z, fun w x h => even_any _ x _ L z hXY (by omega) (by omega) w h⟩
  · rw [if_neg hs]
    refine radd_other a b _ _ _ _ _ _ L _ _ _ _ _ _ _ _ _ _ _ X Y w f1 f2 (cmpN X Y) hs n1 n2 za zb e1 e2 s1 s2 ap0 ap1 bp0 bp1 hlow o1 o2 l1 l2 y1 y2 (sg_ne a) (sg_ne b) (fun w x y h1 h2 => cmp_any x y X Y w h1 h2) ?_
    by_cases z : X = Y
    · rw [if_pos z, cmp_eq z]; exact Or.inl ⟨rfl, rfl⟩
    · rw [if_neg z]
      by_cases g : Y < X
      · rw [if_pos g, cmp_gt g]
        exact Or.inr (Or.inl ⟨rfl, by decide, fun w x y h1 h2 => sub_any x y X Y (by omega) w h1 h2, fun w x h => even_any _ x _ L (by omega) (by omega) (by omega) (by omega) w h⟩)
      · rw [if_neg g, cmp_lt (by omega)]
        exact Or.inr (Or.inr ⟨rfl, by decide, fun w x y h1 h2 => sub_any x y Y X (by omega) w h1 h2, fun w x h => even_any _ x _ L (by omega) (by omega) (by omega) (by omega) w h⟩)

theorem xor31 (a b : Nat) (ha : a < 4294967296) (hb : b < 4294967296) : bits .and .u32 (bits .xor .u32 (a : Int) (b : Int)) 2147483648 = (single.word (sgb32 a ^^ sgb32 b) 0 : Nat) := by
  have e := u32_xor_nat a b ha hb
  have hx : a ^^^ b < 4294967296 := Nat.xor_lt_two_pow (n := 32) ha hb
  rw [e, and31 (a ^^^ b) hx]
  have hs : ∀ n, n < 4294967296 → sgb32 n = n.testBit 31 := fun n hn => by
    unfold sgb32
    rw [Nat.testBit_eq_decide_div_mod_eq]
    exact decide_eq_decide.2 (by omega)
  rw [hs _ hx, hs a ha, hs b hb, Nat.testBit_xor]
  cases a.testBit 31 <;> cases b.testBit 31 <;> rfl
theorem or_inf (s : Bool) : bits .or .u32 ((single.word s 0 : Nat) : Int) 2139095040 = ((single.word s 2139095040 : Nat) : Int) := or_inf32 s
theorem word0_ne (s : Bool) : (((single.word s 0 : Nat) : Int) != 0) = s := by cases s <;> rfl

theorem rmul_any (a b : Nat) (ha : a < 4294967296) (hb : b < 4294967296) (w : World) :
    Calls Tryd.prog 26 #[.int .u32 (a : Int), .int .u32 (b : Int)] w fun e w' => e = .returned (.int .u32 (mu32 a b : Nat)) ∧ Gr w w' := by
  have n1 := isn32N a ha
  have n2 := isn32N b hb
  have za := andNot31 a ha
  have zb := andNot31 b hb
  have hs := xor31 a b ha hb
  have ht := or_inf (sgb32 a ^^ sgb32 b)
  unfold mu32
  by_cases c1 : isN32 a = true
  · rw [if_pos (Or.inl c1)]
    exact rmul_special a b _ _ _ _ _ _ _ n1 n2 za zb hs ht (Or.inl ⟨c1, rfl⟩) w
  have f1 : isN32 a = false := by simpa using c1
  by_cases c2 : isN32 b = true
  · rw [if_pos (Or.inr (Or.inl c2))]
    exact rmul_special a b _ _ _ _ _ _ _ n1 n2 za zb hs ht (Or.inr (Or.inl ⟨f1, c2, rfl⟩)) w
  have f2 : isN32 b = false := by simpa using c2
  have m1 : mag32 a ≤ 2139095040 := Nat.le_of_not_lt fun d => c1 (decide_eq_true d)
  have m2 : mag32 b ≤ 2139095040 := Nat.le_of_not_lt fun d => c2 (decide_eq_true d)
  by_cases i1 : mag32 a = 2139095040
  · by_cases z2 : mag32 b = 0
    · rw [if_pos (Or.inr (Or.inr (Or.inl ⟨i1, z2⟩)))]
      exact rmul_special a b _ _ _ _ _ _ _ n1 n2 za zb hs ht (Or.inr (Or.inr (Or.inl ⟨f1, f2, by omega, by omega, rfl⟩))) w
    · rw [if_neg (by rintro (d | d | d | d); exact c1 d; exact c2 d; omega; omega), if_pos (Or.inl i1)]
      exact rmul_special a b _ _ _ _ _ _ _ n1 n2 za zb hs ht (Or.inr (Or.inr (Or.inr (Or.inr (Or.inl ⟨f1, f2, by omega, by rw [beq_eq_false_iff_ne]; omega, rfl⟩))))) w
  by_cases i2 : mag32 b = 2139095040
  · by_cases z1 : mag32 a = 0
    · rw [if_pos (Or.inr (Or.inr (Or.inr ⟨z1, i2⟩)))]
      exact rmul_special a b _ _ _ _ _ _ _ n1 n2 za zb hs ht (Or.inr (Or.inr (Or.inr (Or.inl ⟨f1, f2, by omega, by omega, rfl⟩)))) w
    · rw [if_neg (by rintro (d | d | d | d); exact c1 d; exact c2 d; omega; omega), if_pos (Or.inr i2)]
      exact rmul_special a b _ _ _ _ _ _ _ n1 n2 za zb hs ht (Or.inr (Or.inr (Or.inr (Or.inr (Or.inr (Or.inl ⟨f1, f2, by rw [beq_eq_false_iff_ne]; omega, by rw [beq_eq_false_iff_ne]; omega, by omega, rfl⟩)))))) w
  rw [if_neg (by rintro (d | d | d | d); exact c1 d; exact c2 d; omega; omega), if_neg (by omega)]
  by_cases z1 : mag32 a = 0
  · rw [if_pos (Or.inl z1)]
    exact rmul_special a b _ _ _ _ _ _ _ n1 n2 za zb hs ht (Or.inr (Or.inr (Or.inr (Or.inr (Or.inr (Or.inr (Or.inl ⟨f1, f2, by omega, by rw [beq_eq_false_iff_ne]; omega, rfl⟩))))))) w
  by_cases z2 : mag32 b = 0
  · rw [if_pos (Or.inr z2)]
    exact rmul_special a b _ _ _ _ _ _ _ n1 n2 za zb hs ht (Or.inr (Or.inr (Or.inr (Or.inr (Or.inr (Or.inr (Or.inr ⟨f1, f2, by rw [beq_eq_false_iff_ne]; omega, by rw [beq_eq_false_iff_ne]; omega, by omega, rfl⟩))))))) w
  rw [if_neg (by omega)]
  obtain ⟨am, ap0, ap1⟩ := mant_bd (mag32 a) (by omega)
  obtain ⟨bm, bp0, bp1⟩ := mant_bd (mag32 b) (by omega)
  have a0 : Fs.mantOf (mag32 a) ≠ 0 := fun c => z1 ((Fs.mant_zero _).1 c)
  have b0 : Fs.mantOf (mag32 b) ≠ 0 := fun c => z2 ((Fs.mant_zero _).1 c)
  have hlt : Fs.mantOf (mag32 a) * Fs.mantOf (mag32 b) < EB := by
    have h1 : Fs.mantOf (mag32 a) * Fs.mantOf (mag32 b) ≤ Fs.mantOf (mag32 a) * 2 ^ 24 := Nat.mul_le_mul_left _ (Nat.le_of_lt bm)
    have h2 := dn_lt (Fs.mantOf (mag32 a)) 24 am (by decide)
    have h3 := db_eb
    omega
  refine rmul_core a b _ _ _ _ _ _ _ _ _ _ _ _ _ w f1 f2 n1 n2 za zb hs (word0_ne _) (by rw [beq_eq_false_iff_ne]; omega) (by rw [beq_eq_false_iff_ne]; omega) (by rw [beq_eq_false_iff_ne]; omega) (by rw [beq_eq_false_iff_ne]; omega)
    (rsplit32_any a ha m1) (rsplit32_any b hb m2) ap0 ap1 bp0 bp1 (fun w => of_any _ (by omega) w) (fun w => of_any _ (by omega) w) (fun w x y h1 h2 => nmul_any x y _ _ aK (by unfold aK; decide) (db_a _ ?_) (db_a _ ?_) w h1 h2) (fun w x h => even_any _ x _ _ (Nat.mul_ne_zero a0 b0) hlt (by omega) (by omega) w h)
  · have := dn_lt (Fs.mantOf (mag32 a)) 0 am (by decide); rwa [Nat.pow_zero, Nat.mul_one] at this
  · have := dn_lt (Fs.mantOf (mag32 b)) 0 bm (by decide); rwa [Nat.pow_zero, Nat.mul_one] at this

/-- The program's. -/
theorem run_arith_nan (op : BinOp) (a b : Nat) (h : (op = .add ∧ single.add a b = none) ∨ (op = .mul ∧ single.mul a b = none)) (w : World) :
    ∃ r, isN32 r = true ∧ r < 4294967296 ∧ (binOp op 25 (.float .f32 a) (.float .f32 b)).run Tryd.prog w = .ok (.float .f32 r) w.drew := by
  refine ⟨Question.cut (.nanBits .f32 a b) (w.tape w.drawn (.nanBits .f32 a b)), (cut32 _).1, (cut32 _).2, ?_⟩
  rcases h with ⟨rfl, h⟩ | ⟨rfl, h⟩
  · have h' : FloatKind.f32.format.add a b = none := h
    simp [binOp, Op.floatArith, h', choose, Sem.run, Question.forced]
  · have h' : FloatKind.f32.format.mul a b = none := h
    simp [binOp, Op.floatArith, h', choose, Sem.run, Question.forced]
set_option maxHeartbeats 400000 in
theorem add_nan (a b y : Nat) (w : World) (C : (binOp .add 25 (.float .f32 a) (.float .f32 b)).run Tryd.prog w = .ok (.float .f32 y) w.drew)
    (H : Hid (∀ w, Calls Tryd.prog 14 #[.float .f32 y] w fun e w' => e = .returned (.float .f32 2143289344) ∧ w' = w)) :
    Calls Tryd.prog 23 #[.float .f32 a, .float .f32 b] w fun e w' => e = .returned (.float .f32 2143289344) ∧ ∃ d, w' = w.drewN d := by
  go_enter Tryd.func23, Tryd.ntmps23
  go_wp2_with (go_at_call 14; refine (H.out _).mono ?_; rintro e w' ⟨rfl, rfl⟩)
  go_ret
  exact ⟨rfl, 1, rfl⟩
set_option maxHeartbeats 400000 in
theorem mul_nan (a b y : Nat) (w : World) (C : (binOp .mul 25 (.float .f32 a) (.float .f32 b)).run Tryd.prog w = .ok (.float .f32 y) w.drew)
    (H : Hid (∀ w, Calls Tryd.prog 14 #[.float .f32 y] w fun e w' => e = .returned (.float .f32 2143289344) ∧ w' = w)) :
    Calls Tryd.prog 25 #[.float .f32 a, .float .f32 b] w fun e w' => e = .returned (.float .f32 2143289344) ∧ ∃ d, w' = w.drewN d := by
  go_enter Tryd.func25, Tryd.ntmps25
  go_wp2_with (go_at_call 14; refine (H.out _).mono ?_; rintro e w' ⟨rfl, rfl⟩)
  go_ret
  exact ⟨rfl, 1, rfl⟩
set_option maxHeartbeats 400000 in
theorem mul_core (a b y z : Nat) (C : ∀ w, (binOp .mul 25 (.float .f32 a) (.float .f32 b)).run Tryd.prog w = .ok (.float .f32 y) w)
    (H : Hid (∀ w, Calls Tryd.prog 14 #[.float .f32 y] w fun e w' => e = .returned (.float .f32 z) ∧ w' = w)) (w : World) :
    Calls Tryd.prog 25 #[.float .f32 a, .float .f32 b] w fun e w' => e = .returned (.float .f32 z) ∧ w' = w := by
  go_enter Tryd.func25, Tryd.ntmps25
  go_wp2_with (go_at_call 14; refine (H.out _).mono ?_; rintro e w' ⟨rfl, rfl⟩)
  go_ret
  exact ⟨rfl, rfl⟩
theorem one_nan (r : Nat) (h : isN32 r = true) (hr : r < 4294967296) (w : World) : Calls Tryd.prog 14 #[.float .f32 r] w fun e w' => e = .returned (.float .f32 2143289344) ∧ w' = w := by
  have := one32_any r hr w
  unfold one32 at this
  rwa [if_pos (of_decide_eq_true h)] at this
theorem word_one (neg : Bool) (m : Nat) (e : Int) : Rn.word32 1 neg m e < 4294967296 ∧ one32 (Rn.word32 1 neg m e) = Rn.word32 1 neg m e := by
  have := word32_lt neg _ (Rn.cap32_le 1 neg (Rn.rung32 1 neg m e))
  exact ⟨this.1, this.2.2.2⟩
theorem adF_one (a b : Nat) (ha : a < 4294967296) (h1 : mag32 a < 2139095040) : adF a b < 4294967296 ∧ one32 (adF a b) = adF a b := by
  unfold adF
  split
  · split
    · exact ⟨ha, by unfold one32; rw [if_neg (by omega)]⟩
    · exact word_one _ _ _
  · split
    · exact ⟨by decide, by decide⟩
    · split <;> exact word_one _ _ _
theorem ad32_one (a b : Nat) (ha : a < 4294967296) (hb : b < 4294967296) : ad32 a b < 4294967296 ∧ one32 (ad32 a b) = ad32 a b := by
  unfold ad32
  by_cases c : isN32 a = true ∨ isN32 b = true ∨ (mag32 a = 2139095040 ∧ mag32 b = 2139095040 ∧ a ≠ b)
  · rw [if_pos c]; exact ⟨by decide, by decide⟩
  · rw [if_neg c]
    by_cases d : mag32 a = 2139095040
    · rw [if_pos d]; exact ⟨ha, by unfold one32; rw [if_neg (by omega)]⟩
    · rw [if_neg d]
      by_cases f : mag32 b = 2139095040
      · rw [if_pos f]; exact ⟨hb, by unfold one32; rw [if_neg (by omega)]⟩
      · rw [if_neg f]
        have m1 : mag32 a ≤ 2139095040 := Nat.le_of_not_lt fun x => c (Or.inl (decide_eq_true x))
        exact adF_one a b ha (by omega)
theorem mu32_one (a b : Nat) : mu32 a b < 4294967296 ∧ one32 (mu32 a b) = mu32 a b := by
  unfold mu32
  split
  · exact ⟨by decide, by decide⟩
  · split
    · have := word32_lt (sgb32 a ^^ sgb32 b) 2139095040 (by decide)
      exact ⟨this.1, this.2.2.2⟩
    · split
      · have := word32_lt (sgb32 a ^^ sgb32 b) 0 (by decide)
        exact ⟨this.1, this.2.2.2⟩
      · exact word_one _ _ _
theorem padd_any (a b : Nat) (ha : a < 4294967296) (hb : b < 4294967296) (w : World) :
    Calls Tryd.prog 23 #[.float .f32 a, .float .f32 b] w fun e w' => e = .returned (.float .f32 (ad32 a b)) ∧ ∃ d, w' = w.drewN d := by
  rcases add_all a b ha hb with ⟨h, e⟩ | h
  · rw [e]
    obtain ⟨r, r1, r2, C⟩ := run_arith_nan .add a b (Or.inl ⟨rfl, h⟩) w
    exact add_nan a b r w C (fun w => one_nan r r1 r2 w)
  · obtain ⟨h1, h2⟩ := ad32_one a b ha hb
    have := add_core a b (ad32 a b) _ (fun w => run_float_arith w .add 25 .f32 a b _ h) (fun w => one32_any _ h1 w) w
    rw [h2] at this
    exact this.mono fun e w' ⟨x, y⟩ => ⟨x, 0, y⟩
theorem pmul_any (a b : Nat) (ha : a < 4294967296) (hb : b < 4294967296) (w : World) :
    Calls Tryd.prog 25 #[.float .f32 a, .float .f32 b] w fun e w' => e = .returned (.float .f32 (mu32 a b)) ∧ ∃ d, w' = w.drewN d := by
  rcases mul_all a b ha hb with ⟨h, e⟩ | h
  · rw [e]
    obtain ⟨r, r1, r2, C⟩ := run_arith_nan .mul a b (Or.inr ⟨rfl, h⟩) w
    exact mul_nan a b r w C (fun w => one_nan r r1 r2 w)
  · obtain ⟨h1, h2⟩ := mu32_one a b
    have := mul_core a b (mu32 a b) _ (fun w => run_float_arith w .mul 25 .f32 a b _ h) (fun w => one32_any _ h1 w) w
    rw [h2] at this
    exact this.mono fun e w' ⟨x, y⟩ => ⟨x, 0, y⟩

/-- Either way round. -/
theorem mu32_comm (a b : Nat) : mu32 a b = mu32 b a := by
  unfold mu32 muF
  rw [Bool.xor_comm, Nat.mul_comm, Int.add_comm]
  congr 1
  · exact propext ⟨fun h => by rcases h with h | h | h | h; exact Or.inr (Or.inl h); exact Or.inl h; exact Or.inr (Or.inr (Or.inr ⟨h.2, h.1⟩)); exact Or.inr (Or.inr (Or.inl ⟨h.2, h.1⟩)), fun h => by rcases h with h | h | h | h; exact Or.inr (Or.inl h); exact Or.inl h; exact Or.inr (Or.inr (Or.inr ⟨h.2, h.1⟩)); exact Or.inr (Or.inr (Or.inl ⟨h.2, h.1⟩))⟩
  · congr 1
    · exact propext or_comm
    · congr 1
      exact propext or_comm
theorem low32_comm (a b : Nat) : low32 a b = low32 b a := Int.min_comm _ _
theorem dn_zero (a : Nat) (L : Int) (h : dn32 a L = 0) : mag32 a = 0 := by
  rcases Nat.mul_eq_zero.1 h with c | c
  · exact (Fs.mant_zero _).1 c
  · have := Nat.two_pow_pos (Fs.placeOf (mag32 a) - L).toNat; omega
theorem adF_comm (a b : Nat) (ha : a < 4294967296) (hb : b < 4294967296) : adF a b = adF b a := by
  have hz : dn32 a (low32 a b) + dn32 b (low32 a b) = 0 → sgb32 a = sgb32 b → a = b := fun h s => by
    have h1 := dn_zero a _ (by omega : dn32 a (low32 a b) = 0)
    have h2 := dn_zero b _ (by omega : dn32 b (low32 a b) = 0)
    exact (sgb_eq a b ha hb (by omega)).1 s
  unfold adF
  rw [low32_comm b a]
  generalize dn32 a (low32 a b) = X at *
  generalize dn32 b (low32 a b) = Y at *
  by_cases s : sgb32 a = sgb32 b
  · rw [if_pos s, if_pos s.symm, Nat.add_comm Y X, s]
    by_cases c : X + Y = 0
    · rw [if_pos c, if_pos c]; exact hz c s
    · rw [if_neg c, if_neg c]
  · rw [if_neg s, if_neg (Ne.symm s)]
    by_cases c : X = Y
    · rw [if_pos c, if_pos c.symm]
    · rw [if_neg c, if_neg (Ne.symm c)]
      by_cases d : Y < X
      · rw [if_pos d, if_neg (by omega)]
      · rw [if_neg d, if_pos (by omega)]
theorem ad32_comm (a b : Nat) (ha : a < 4294967296) (hb : b < 4294967296) : ad32 a b = ad32 b a := by
  unfold ad32
  by_cases c : isN32 a = true ∨ isN32 b = true ∨ (mag32 a = 2139095040 ∧ mag32 b = 2139095040 ∧ a ≠ b)
  · rw [if_pos c, if_pos (by rcases c with c | c | c; exact Or.inr (Or.inl c); exact Or.inl c; exact Or.inr (Or.inr ⟨c.2.1, c.1, Ne.symm c.2.2⟩))]
  · have c' : ¬ (isN32 b = true ∨ isN32 a = true ∨ (mag32 b = 2139095040 ∧ mag32 a = 2139095040 ∧ b ≠ a)) := fun d => c (by
      rcases d with d | d | d
      · exact Or.inr (Or.inl d)
      · exact Or.inl d
      · exact Or.inr (Or.inr ⟨d.2.1, d.1, Ne.symm d.2.2⟩))
    rw [if_neg c, if_neg c']
    by_cases i : mag32 a = 2139095040
    · rw [if_pos i]
      by_cases j : mag32 b = 2139095040
      · rw [if_pos j]
        exact Classical.byContradiction fun h => c (Or.inr (Or.inr ⟨i, j, h⟩))
      · rw [if_neg j, if_pos i]
    · rw [if_neg i]
      by_cases j : mag32 b = 2139095040
      · rw [if_pos j, if_pos j]
      · rw [if_neg j, if_neg j, if_neg i]; exact adF_comm a b ha hb
end Go.Proofs.YtckjmcfncfoboaaDoor
