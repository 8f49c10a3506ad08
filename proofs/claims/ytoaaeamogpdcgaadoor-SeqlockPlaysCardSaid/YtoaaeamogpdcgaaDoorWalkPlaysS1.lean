/-
  A piece of the walk.
-/
import Derived.Test.YtoaaeamogpdcgaaDoorWalkPlaysMain
namespace Go.Proofs.YtoaaeamogpdcgaaDoor
open Go.RowKit
set_option linter.all false in
set_option maxHeartbeats 8000000 in
set_option maxRecDepth 100000 in
theorem part_WalkPlays_S1 : part_WalkPlays.S1 := by
  set_option tactic.hygienic false in intro
  set_option tactic.hygienic false in intros
  obtain ⟨W4, hW4⟩ : ∃ W4, W4 = w4.alloc (.cells #[.slice pA M cA, .slice pV M cV, .slice pD M cD, .slice pE M cE, .int .i64 0, .bool false] 40) := ⟨_, rfl⟩
  have hB45 : Below w4.heap.size w4 W4 := by rw [hW4]; exact (Below.refl _ _).alloc (Nat.le_refl _) _
  have k0 := kept p0' hB45
  have k1 := kept p1' hB45
  have k2 := kept p2' hB45
  have HB6 := Lib.hid (HB5.out.trans (hB45.mono HB5.out.size))
  have HW4 := Lib.hid hW4
  have HNN := Lib.hid hN
  clear hW4 hB45 hN
  go_wp2_with fail
  rw [← HW4.out]
  refine (newr_no a pn W4 HNN.out).mono ?_
  rintro e w5 ⟨rfl, hw5⟩
  subst hw5
  go_wp2_with fail
  refine (dwords_any pn _).mono ?_
  rintro e x1 ⟨rfl, rfl⟩
  rw [fitB_no HNN.out]
  go_wp2_with fail
  go_ret
  exact ⟨rfl, HB6.out⟩
end Go.Proofs.YtoaaeamogpdcgaaDoor
