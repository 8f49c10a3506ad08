/-
  A piece of the walk.
-/
import Derived.Test.YtoaaeamogpdcgaaDoorWalkPlaysMain
namespace Go.Proofs.YtoaaeamogpdcgaaDoor
open Go.RowKit
set_option linter.all false in
set_option maxHeartbeats 8000000 in
set_option maxRecDepth 100000 in
theorem part_WalkPlays_G : part_WalkPlays.G := by
  set_option tactic.hygienic false in intro
  set_option tactic.hygienic false in intros
  have hev := HEV.out
  cases hdd : d1.done
  · rw [hdd] at v5 hev
    by_cases hye : y % 2 = 0
    · have HT := Lib.hid (show ev = true by rw [hev, hye]; rfl)
      clear hev
      go_wp2_with fail
      go_meet
      case rel => exact ⟨by rw [HT.out], rfl⟩
    · have HT := Lib.hid (show ev = false by rw [hev, decide_eq_false hye]; rfl)
      clear hev
      go_wp2_with fail
      go_meet
      case rel => exact ⟨by rw [HT.out], rfl⟩
  · rw [hdd] at v5 hev
    by_cases hye : y % 2 = 0
    · have HT := Lib.hid (show ev = false by rw [hev]; simp)
      clear hev
      go_wp2_with fail
      go_meet
      case rel => exact ⟨by rw [HT.out], rfl⟩
    · have HT := Lib.hid (show ev = false by rw [hev]; simp)
      clear hev
      go_wp2_with fail
      go_meet
      case rel => exact ⟨by rw [HT.out], rfl⟩
end Go.Proofs.YtoaaeamogpdcgaaDoor
