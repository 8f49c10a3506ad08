/-
  A piece of the walk.
-/
import Derived.Test.YtagfhlnedaagbaaWalkExpMain
namespace Go.Proofs.Ytagfhlnedaagbaa
open Go.RowKit
set_option linter.all false in
set_option maxHeartbeats 40000000 in
set_option maxRecDepth 100000 in
theorem part_WalkExp_X : part_WalkExp.X := by
  set_option tactic.hygienic false in intro
  set_option tactic.hygienic false in intros
  clear HG
  go_wp2_with fail
  go_loopw [13] (fun iv wx => ∃ q : Nat, iv = .int .i64 q ∧ q ≤ n2 ∧ Hid (Below w4.heap.size w4 wx)) (fun iv _ => n2 - (intOf iv).toNat)
  case atStart => exact ⟨0, rfl, Nat.zero_le _, HBW⟩
  case round =>
    obtain ⟨q, rfl, hq, HBX⟩ := hrel
    rename_i wy
    by_cases hqn : q < n2
    · obtain ⟨gb, rfl, k0⟩ := HR.out _ HBX.out q hqn
      obtain ⟨hm, hm1⟩ := stay_mem HEE.out (at_mem (show q < (S.expire t).q.length by rw [← HN.out.2.1]; exact hqn))
      have k1 := HT.out _ HBX.out _ hm
      obtain ⟨a, ha⟩ : ∃ a, a = (S.expire t).q.getD q dW := ⟨_, rfl⟩
      rw [← ha] at k0 k1 hm1
      obtain ⟨p, hp⟩ : ∃ p : Nat, p = a.id.val := ⟨_, rfl⟩
      have hp6 : p < 65536 := by rw [hp]; exact a.id.isLt
      obtain ⟨z, hz⟩ : ∃ z, z = a.til := ⟨_, rfl⟩
      rw [← hp] at k0 k1
      rw [← hz] at k1 hm1
      have i0 : (0 : Int) ≤ (q : Int) := Int.natCast_nonneg _
      have i1 : (q : Int) < (n2 : Int) := by omega
      have p0 : (0 : Int) ≤ (p : Int) := Int.natCast_nonneg _
      have p1 : (p : Int) < 65536 := by omega
      have p2 : ¬ (65535 : Int) < (p : Int) := by omega
      have p3 : ¬ (p : Int) < 0 := by omega
      have q9 : IntKind.i64.wrap ((q : Int) + 1) = (q : Int) + 1 := by rw [IntKind.wrap_i64]; omega
      by_cases hz1 : z = -1
      · clear hm hm1 ha hp hz hp6
        subst hz1
        go_wp2_with fail
        go_roundw
        case rel => exact ⟨q + 1, by go_num, by omega, HBX⟩
        case measure => first | (simp [intOf]; done) | (simp [intOf]; omega)
      · have z2 : ¬ z ≤ t := fun h => hm1 ⟨hz1, h⟩
        clear hm hm1 ha hp hz hp6
        go_wp2_with fail
        go_roundw
        case rel => exact ⟨q + 1, by go_num, by omega, HBX⟩
        case measure => first | (simp [intOf]; done) | (simp [intOf]; omega)
    · obtain rfl : q = n2 := by omega
      have HF := Lib.hid (HB.out.trans (HBX.out.mono HSZ.out))
      clear HBX HB HSZ HR HT
      go_wp2_with fail
      go_ret
      exact ⟨rfl, HF.out⟩
end Go.Proofs.Ytagfhlnedaagbaa
