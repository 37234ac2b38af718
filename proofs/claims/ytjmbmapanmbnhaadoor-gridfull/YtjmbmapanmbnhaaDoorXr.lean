/- A grid's Len and has. -/
import Derived.Test.YtjmbmapanmbnhaaDoorXq
namespace Go.Proofs.YtjmbmapanmbnhaaDoor
open Go.RowKit Go.Maps

set_option maxHeartbeats 1000000 in
theorem len_nil (w : World) : Calls Tryd.prog 22 #[.pointer none] w fun e w' => e = .returned (.int .i64 0) ∧ w' = w := by
  go_enter Tryd.func22, Tryd.ntmps22
  go_wp2
  go_ret
  exact ⟨rfl, rfl⟩
set_option maxHeartbeats 2000000 in
theorem len_at (w : World) (F : Nat → Prop) (g : Nat) (L : List Cc) (h : GridIn w F g L) : Calls Tryd.prog 22 #[.pointer (some ⟨g, 0, none⟩)] w fun e w' => e = .returned (.int .i64 L.length) ∧ w' = w := by
  obtain ⟨_, h⟩ := h
  rcases h with ⟨hb, rfl⟩ | ⟨m, D, hb, _, hne, hown, hm⟩
  · have c0 : w.cell? ⟨g, 0, none⟩ = some (.map none) := cell_of_row w g 0 _ _ _ hb
    clear hb
    go_enter Tryd.func22, Tryd.ntmps22
    go_wp2
    go_ret
    exact ⟨rfl, rfl⟩
  · have c0 : w.cell? ⟨g, 0, none⟩ = some (.map (some m)) := cell_of_row w g 0 _ _ _ hb
    have HS : Hid (Maps.size D = L.length) := hm.size
    have HO : Hid (w.ownsMap Tryd.prog 26 rawE m 4096 D) := hown
    clear hb hown hm
    go_enter Tryd.func22, Tryd.ntmps22
    go_wp2_with (at_len; refine wpList_len_own _ rfl _ 75 rfl 26 33 Tryd.underlying75 rawE m 4096 D rfl HO.out ?_)
    go_ret
    exact ⟨rInt (by rw [HS.out]), rfl⟩
end Go.Proofs.YtjmbmapanmbnhaaDoor
