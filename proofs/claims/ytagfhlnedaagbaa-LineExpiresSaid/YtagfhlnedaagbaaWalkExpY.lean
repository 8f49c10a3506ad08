/-
  A piece of the walk.
-/
import Derived.Test.YtagfhlnedaagbaaWalkExpMain
namespace Go.Proofs.Ytagfhlnedaagbaa
open Go.RowKit
set_option linter.all false in
set_option maxHeartbeats 40000000 in
set_option maxRecDepth 100000 in
theorem part_WalkExp_Y : part_WalkExp.Y := by
  set_option tactic.hygienic false in intro
  set_option tactic.hygienic false in intros
  have hz2 := hpre j rfl
  have hj : j < n1 := by omega
  obtain ⟨gb', e', k2⟩ := HG.out wr HBW.out j hj
  obtain rfl : gb = gb' := by
    injection e' with e'
    injection e'
  clear e'
  obtain ⟨hm, _, _⟩ := gone_mem (at_mem (show j < (S.gone t).length by rw [← HN.out.1]; exact hj))
  have k3 := HT.out wr HBW.out _ hm
  obtain ⟨a', ha'⟩ : ∃ a, a = (S.gone t).getD j dW := ⟨_, rfl⟩
  rw [← ha'] at k2 k3 hz2
  obtain ⟨q, hq⟩ : ∃ q : Nat, q = a'.id.val := ⟨_, rfl⟩
  have hq6 : q < 65536 := by rw [hq]; exact a'.id.isLt
  obtain ⟨y, hy⟩ : ∃ y, y = a'.til := ⟨_, rfl⟩
  rw [← hq] at k2 k3
  rw [← hy] at k3 hz2
  have z3 : ¬ z < y := by omega
  have j0 : (0 : Int) ≤ (j : Int) := Int.natCast_nonneg _
  have j1 : (j : Int) + 1 < 60 := by omega
  have j2 : (j : Int) + 1 - 1 = (j : Int) := by omega
  have q0 : (0 : Int) ≤ (q : Int) := Int.natCast_nonneg _
  have q1 : (q : Int) < 65536 := by omega
  have j3 : (j : Int) < (n1 : Int) := by omega
  have b1 : decide ((p : Int) < 0) = false := by simp
  have b2 : decide ((65535 : Int) < (p : Int)) = false := by simpa using p2
  have b3 : decide (z < 1) = false := by simpa using z1
  have b4 : decide (t < z) = false := by simpa using z2
  have b5 : decide ((0 : Int) < (j : Int) + 1) = true := by first | (simp; done) | (simp; omega)
  have b6 : decide (z < y) = false := by simpa using z3
  have j4 : IntKind.i64.wrap ((j : Int) + 1 - 1) = (j : Int) := by rw [IntKind.wrap_i64]; omega
  clear j2 i0 i1 j0 j1 j3
  have j0 : (0 : Int) ≤ (j : Int) := Int.natCast_nonneg _
  have j3 : (j : Int) < (n1 : Int) := by omega
  have i0 : (0 : Int) ≤ (j : Int) + 1 := by omega
  have i1 : (j : Int) + 1 < (n1 : Int) := by omega
  clear hpre hm ha' hq hy hq6 hz2
  go_wp2_with fail
  go_quiet (fail)
  go_wp2_with fail
  go_roundw
  case rel => exact ⟨j + 2, by go_num, by omega, HBW.out.trans ((below_dn _ _).mono HBW.out.size)⟩
  case measure => first | (simp [intOf]; done) | (simp [intOf]; omega)
end Go.Proofs.Ytagfhlnedaagbaa
