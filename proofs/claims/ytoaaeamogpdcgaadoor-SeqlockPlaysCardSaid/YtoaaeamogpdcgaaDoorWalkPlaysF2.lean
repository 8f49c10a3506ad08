/-
  A piece of the walk.
-/
import Derived.Test.YtoaaeamogpdcgaaDoorWalkPlaysMain
namespace Go.Proofs.YtoaaeamogpdcgaaDoor
open Go.RowKit
set_option linter.all false in
set_option maxHeartbeats 8000000 in
set_option maxRecDepth 100000 in
theorem part_WalkPlays_F2 : part_WalkPlays.F2 := by
  set_option tactic.hygienic false in intro
  set_option tactic.hygienic false in intros
  by_cases hlow : 0 ≤ a
  · by_cases hhi : a < 40
    · go_wp2_with fail
      go_meet
      case rel => exact ⟨congrArg Value.bool (decide_eq_true (show 0 ≤ a ∧ a < 40 from ⟨hlow, hhi⟩)).symm, rfl⟩
    · have hhi2 : 40 ≤ a := by omega
      go_wp2_with fail
      go_meet
      case rel => exact ⟨congrArg Value.bool (decide_eq_false (show ¬ (0 ≤ a ∧ a < 40) by omega)).symm, rfl⟩
  · have hlow2 : a < 0 := by omega
    go_wp2_with fail
    go_meet
    case rel => exact ⟨congrArg Value.bool (decide_eq_false (show ¬ (0 ≤ a ∧ a < 40) by omega)).symm, rfl⟩
end Go.Proofs.YtoaaeamogpdcgaaDoor
