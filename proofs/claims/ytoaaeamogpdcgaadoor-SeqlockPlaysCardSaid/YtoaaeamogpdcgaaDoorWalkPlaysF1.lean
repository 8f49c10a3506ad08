/-
  A piece of the walk.
-/
import Derived.Test.YtoaaeamogpdcgaaDoorWalkPlaysMain
namespace Go.Proofs.YtoaaeamogpdcgaaDoor
open Go.RowKit
set_option linter.all false in
set_option maxHeartbeats 8000000 in
set_option maxRecDepth 100000 in
theorem part_WalkPlays_F1 : part_WalkPlays.F1 := by
  set_option tactic.hygienic false in intro
  set_option tactic.hygienic false in intros
  cases z with
  | true =>
    go_wp2_with fail
    go_meet
    case rel => exact ⟨0, by omega, by omega, World.cell?_setCell_same _ _ _ HQ.out.1, by rw [World.cell?_setCell_other _ _ _ _ (by simp)]; exact HQ.out.2.1, by rw [World.cell?_setCell_other _ _ _ _ (by simp)]; exact HQ.out.2.2, HM2.out.setOut (by show w.heap.size ≠ g; omega) (by show w.heap.size ≠ b; omega) _, HBW.out.setCell (Nat.le_refl _) _⟩
  | false =>
    have := of_decide_eq_false HZ.out.symm
    go_wp2_with fail
    go_meet
    case rel => exact ⟨pa, by omega, by omega, HQ.out.1, HQ.out.2.1, HQ.out.2.2, HM2.out, HBW.out⟩
end Go.Proofs.YtoaaeamogpdcgaaDoor
