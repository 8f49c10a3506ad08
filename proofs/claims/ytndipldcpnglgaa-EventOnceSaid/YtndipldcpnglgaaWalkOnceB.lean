/-
  A piece of the walk.
-/
import Derived.Test.YtndipldcpnglgaaWalkOnceMain
namespace Go.Proofs.Ytndipldcpnglgaa
open Go.RowKit
set_option linter.all false in
set_option maxHeartbeats 4000000 in
set_option maxRecDepth 100000 in
theorem part_WalkOnce_B : part_WalkOnce.B := by
  set_option tactic.hygienic false in intro
  set_option tactic.hygienic false in intros
  have HC := Lib.hid (set_few HO.out.eb HFW.out)
  go_wp2_with fail
  with_reducible refine HC.out.mono ?_
  rintro e w3 ⟨d, v3, rfl, hN3, h1, h2, h3, hf⟩
  have hS := HO.out.made h1 h2 h3 hN3 hf
  obtain ⟨dA, dc, rfl, _⟩ := hN3.len
  have HF : Hid (SwK w.heap.size w w3 s (.slice wA n wc0) (.slice dA X.S.nums.length dc) (k + 1)) := ⟨g, b, v3, X.set, l, _, hS, HU.out.set, GoneR.all (nums_nodup HO.out.eb.sm.ln.ok) HP.out, by have := HNL.out.2; omega⟩
  clear hN3 h1 h2 h3 hf hS HC d0 d1 d2 d3
  go_wp2_with fail
  all_goals go_meet
  all_goals exact HF
end Go.Proofs.Ytndipldcpnglgaa
