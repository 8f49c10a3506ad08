/-
  A piece of the walk.
-/
import Derived.Test.YtoaaeamogpdcgaaDoorWalkPlaysMain
namespace Go.Proofs.YtoaaeamogpdcgaaDoor
open Go.RowKit
set_option linter.all false in
set_option maxHeartbeats 8000000 in
set_option maxRecDepth 100000 in
theorem part_WalkPlays_F0 : part_WalkPlays.F0 := by
  set_option tactic.hygienic false in intro
  set_option tactic.hygienic false in intros
  by_cases hlow : pa < -100
  · go_wp2_with fail
    go_meet
    case rel => exact ⟨congrArg Value.bool (decide_eq_true (show pa < -100 ∨ 100 < pa from .inl hlow)).symm, rfl⟩
  · have hlow2 : -100 ≤ pa := by omega
    by_cases hhi : 100 < pa
    · go_wp2_with fail
      go_meet
      case rel => exact ⟨congrArg Value.bool (decide_eq_true (show pa < -100 ∨ 100 < pa from .inr hhi)).symm, rfl⟩
    · have hhi2 : pa ≤ 100 := by omega
      go_wp2_with fail
      go_meet
      case rel => exact ⟨congrArg Value.bool (decide_eq_false (show ¬ (pa < -100 ∨ 100 < pa) by omega)).symm, rfl⟩
end Go.Proofs.YtoaaeamogpdcgaaDoor
