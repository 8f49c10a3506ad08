/-
  A piece of the walk.
-/
import Derived.Test.YtndipldcpnglgaaWalkOnceMain
namespace Go.Proofs.Ytndipldcpnglgaa
open Go.RowKit
set_option linter.all false in
set_option maxHeartbeats 4000000 in
set_option maxRecDepth 100000 in
theorem part_WalkOnce_C : part_WalkOnce.C := by
  set_option tactic.hygienic false in intro
  set_option tactic.hygienic false in intros
  have HC := Lib.hid (reset_any wa HO.out.eb.sm)
  go_wp2_with fail
  with_reducible refine HC.out.mono ?_
  rintro e w3 ⟨rfl, hP⟩
  obtain ⟨v', hS⟩ := HO.out.step hP
  have HF : Hid (SwK w.heap.size w w3 s (.slice wA n wc0) (.slice (some ⟨q, 0, none⟩) 0 0) (k + 1)) := sw_none hS HU.out.reset HP.out
  clear hP hS HC d0 d1 d2 d3
  go_wp2_with fail
  all_goals go_meet
  all_goals exact HF
end Go.Proofs.Ytndipldcpnglgaa
