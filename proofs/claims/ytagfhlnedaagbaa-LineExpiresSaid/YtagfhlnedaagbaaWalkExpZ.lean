/-
  A piece of the walk.
-/
import Derived.Test.YtagfhlnedaagbaaWalkExpMain
namespace Go.Proofs.Ytagfhlnedaagbaa
open Go.RowKit
set_option linter.all false in
set_option maxHeartbeats 40000000 in
set_option maxRecDepth 100000 in
theorem part_WalkExp_Z : part_WalkExp.Z := by
  set_option tactic.hygienic false in intro
  set_option tactic.hygienic false in intros
  clear hpre i0 i1
  have i1 : (0 : Int) < (n1 : Int) := by omega
  have b1 : decide ((p : Int) < 0) = false := by simp
  have b2 : decide ((65535 : Int) < (p : Int)) = false := by simpa using p2
  have b3 : decide (z < 1) = false := by simpa using z1
  have b4 : decide (t < z) = false := by simpa using z2
  go_wp2_with fail
  go_quiet (fail)
  go_wp2_with fail
  go_roundw
  case rel => exact ⟨1, by go_num, by omega, HBW.out.trans ((below_dn _ _).mono HBW.out.size)⟩
  case measure => first | (simp [intOf]; done) | (simp [intOf]; omega)
end Go.Proofs.Ytagfhlnedaagbaa
