/- manyMarks. -/
import Derived.Test.YtkgolfmnlbmmeaaGreatDoorYe
namespace Go.Proofs.YtkgolfmnlbmmeaaGreatDoor
open Go.RowKit

theorem infoMarks : (Tryz.prog.info? 85).map (fun i => (i.zero, i.size, i.bytes)) = some (some (.slice none 0 0), 1, 24) := by kernel_rfl
/-- The first k of m marks out of one piece of memory; the others are nil. -/
def upL (mb W m k : Nat) : List Value := (List.range m).map fun i => if i < k then .slice (some ⟨mb, i * W, none⟩) W ((m - i) * W) else .slice none 0 0
theorem upL_get {mb W m k i : Nat} (h : i < m) : (upL mb W m k)[i]? = some (if i < k then .slice (some ⟨mb, i * W, none⟩) W ((m - i) * W) else .slice none 0 0) := by
  unfold upL; rw [List.getElem?_map, List.getElem?_range h]; rfl
theorem upL_zero (mb W m : Nat) : List.replicate m (Value.slice none 0 0) = upL mb W m 0 := by
  apply List.ext_getElem?
  intro i
  by_cases h : i < m
  · rw [upL_get h, List.getElem?_replicate, if_pos h, if_neg (by omega)]
  · rw [List.getElem?_replicate, if_neg h, List.getElem?_eq_none (by simp [upL]; omega)]
theorem upL_set (mb W m k : Nat) : (upL mb W m k).set k (.slice (some ⟨mb, k * W, none⟩) W ((m - k) * W)) = upL mb W m (k + 1) := by
  apply List.ext_getElem?
  intro i
  by_cases h : i < m
  · rw [upL_get h]
    by_cases e : k = i
    · subst e; rw [List.getElem?_set_self (by simp [upL]; exact h), if_pos (by omega)]
    · rw [List.getElem?_set_ne e, upL_get h]
      by_cases hk : i < k
      · rw [if_pos hk, if_pos (by omega)]
      · rw [if_neg hk, if_neg (by omega)]
  · rw [List.getElem?_eq_none (by simp [upL]; omega), List.getElem?_eq_none (by simp [upL]; omega)]
def ManyR (mb W m : Nat) (w : World) (i : Value) (wr : World) : Prop :=
  ∃ k : Nat, i = .int .i64 (k : Int) ∧ k ≤ m ∧ Blk wr mb (wds (fun _ => false) (m * W)) 123 ∧ Blk wr (mb + 1) (upL mb W m k) 85 ∧ Kp w wr Nul
set_option maxHeartbeats 2000000 in
theorem manyMarks_at (m n : Nat) (hm : m ≤ 1000) (hn : n ≤ 4294967296) (w : World) :
    Calls Tryz.prog 83 #[.int .i64 (m : Int), .int .i64 (n : Int)] w fun e w' => e = .returned (.slice (some ⟨w.heap.size + 1, 0, none⟩) m m) ∧
      Blk w' w.heap.size (wds (fun _ => false) (m * ((n + 63) / 64))) 123 ∧ Blk w' (w.heap.size + 1) (upL w.heap.size ((n + 63) / 64) m m) 85 ∧ Kp w w' Nul := by
  obtain ⟨W, hW⟩ : ∃ W, (n + 63) / 64 = W := ⟨_, rfl⟩
  have HWn : Hid ((n + 63) / 64 = W) := hW
  have hWi : ((n : Int) + 63) / 64 = (W : Int) := by omega
  have hWb : W ≤ 67108865 := by omega
  rw [hW]
  clear hW
  have hmw : m * W ≤ 1000 * 67108865 := Nat.mul_le_mul hm hWb
  obtain ⟨X, hX⟩ : ∃ X, m * W = X := ⟨_, rfl⟩
  have hXi : (m : Int) * (W : Int) = (X : Int) := by rw [← hX]; push_cast; rfl
  have HX : Hid (m * W = X) := hX
  rw [hX] at hmw
  have HKW : Hid (∀ k, k < m → ∃ x y : Nat, k * W = x ∧ (k + 1) * W = y ∧ (k : Int) * (W : Int) = (x : Int) ∧ ((k : Int) + 1) * (W : Int) = (y : Int) ∧ y = x + W ∧ y ≤ X ∧ (m - k) * W = X - x) := fun k hk => by
    refine ⟨_, _, rfl, rfl, by push_cast; rfl, by push_cast; rfl, by rw [Nat.add_mul, Nat.one_mul], ?_, ?_⟩
    · rw [← hX]; exact Nat.mul_le_mul_right W (by omega)
    · rw [← hX, Nat.sub_mul]
  rw [hX]
  clear hX
  obtain ⟨cs, hcs, hmk⟩ := make_is 85 123 (.int .u64 0) 8 Tryz.underlying85 infoU64 rfl X (by omega) (by omega)
  obtain ⟨ds, hds, hmk2⟩ := make_is 87 85 (.slice none 0 0) 24 Tryz.underlying87 infoMarks rfl m (by omega) (by omega)
  have HB0 : Hid (∀ o, Blk ((w.alloc (.cells cs 123)).alloc o) w.heap.size (wds (fun _ => false) X) 123) := fun o => by
    have := Blk.new' w cs 123
    rw [hcs, zeros_wds] at this
    exact this.alloc o
  have HB1 : Hid (Blk ((w.alloc (.cells cs 123)).alloc (.cells ds 85)) (w.heap.size + 1) (upL w.heap.size W m 0) 85) := by
    have := Blk.new' (w.alloc (.cells cs 123)) ds 85
    rw [hds, World.size_alloc, upL_zero w.heap.size W m] at this
    exact this
  clear hcs hds
  go_enter Tryz.func83, Tryz.ntmps83
  go_wp2_with (go_at_call 95; refine (wordsOf_at _ (by omega) (by omega) _).mono ?_; rintro e wz ⟨rfl, hz⟩; replace hz := hz.symm; subst hz)
  go_loopw [19] (fun i wr => ManyR w.heap.size W m w i wr) (fun i _ => m - (intOf i).toNat)
  case atStart => exact ⟨0, rfl, by omega, by rw [HX.out]; exact HB0.out _, HB1.out, ((Kp.refl w Nul).alloc _).alloc _⟩
  case round =>
    obtain ⟨k, rfl, hk, b0, b1, kp⟩ := hrel
    have HK0 : Hid (Blk wr w.heap.size (wds (fun _ => false) (m * W)) 123) := b0
    have HK1 : Hid (Blk wr (w.heap.size + 1) (upL w.heap.size W m k) 85) := b1
    have HK2 : Hid (Kp w wr Nul) := kp
    clear b0 b1 kp HB0 HB1 hmk hmk2
    by_cases hlt : k < m
    · obtain ⟨x, y, hx, hy, hxi, hyi, hxy, hyX, hmx⟩ := HKW.out k hlt
      have r1 : wr.cell? ⟨w.heap.size + 1, k, none⟩ = some (.slice none 0 0) := HK1.out.cell (by rw [upL_get hlt, if_neg (by omega)])
      have r2 : wr.frozen? ⟨w.heap.size + 1, k, none⟩ = false := HK1.out.froz k
      have HN0 : Hid (∀ v, Blk (wr.setCell ⟨w.heap.size + 1, k, none⟩ v) w.heap.size (wds (fun _ => false) (m * W)) 123) := fun v => HK0.out.other _ _ (by simp)
      have HN1 : Hid (Blk (wr.setCell ⟨w.heap.size + 1, k, none⟩ (.slice (some ⟨w.heap.size, x, none⟩) W (X - x))) (w.heap.size + 1) (upL w.heap.size W m (k + 1)) 85) := by
        have := HK1.out.set k (.slice (some ⟨w.heap.size, k * W, none⟩) W ((m - k) * W))
        rw [upL_set, hx, hmx] at this
        exact this
      have HN2 : Hid (∀ v, Kp w (wr.setCell ⟨w.heap.size + 1, k, none⟩ v) Nul) := fun v => HK2.out.setCell _ _ (.inl (by simp))
      have HXY : Hid (y = x + W) := hxy
      have hWy : (y : Int) - (x : Int) = (W : Int) := by omega
      have HV : Hid (Value.slice (if X = x then some ⟨w.heap.size, 0, none⟩ else some ⟨w.heap.size, x, none⟩) (y - x) (X - x) = .slice (some ⟨w.heap.size, x, none⟩) W (X - x)) := by
        show _ = _
        rw [show y - x = W by omega]
        by_cases e : X = x
        · have hW0 : W = 0 := by omega
          rw [hW0, Nat.mul_zero] at hx
          subst hx
          rw [if_pos e]
        · rw [if_neg e]
      clear hx hy hmx HK0 HK1 HK2
      have hxX : x ≤ X := by omega
      have hxyl : x ≤ y := by omega
      clear hxy
      go_wp2
      rw [HV.out]
      exact ⟨⟨k + 1, by go_num, by omega, HN0.out _, HN1.out, HN2.out _⟩, by simp [intOf]; omega⟩
    · have : k = m := by omega
      subst this
      go_wp2
      go_ret
      refine ⟨rfl, ?_, HK1.out, HK2.out⟩
      rw [← HX.out]; exact HK0.out
end Go.Proofs.YtkgolfmnlbmmeaaGreatDoor
