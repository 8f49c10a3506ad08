/-
  few answers some Boolean, whatever the plan.
-/
import Derived.Test.YtmfelkdcoihkpaaDoorRules
import Derived.LoopTactic
namespace Go.Proofs.YtmfelkdcoihkpaaDoor
open Go.RowKit

def FewP (w : World) (e : Ending) (w' : World) : Prop := (∃ b : Bool, e = .returned (.bool b)) ∧ Below w.heap.size w w'

set_option maxHeartbeats 8000000 in
set_option maxRecDepth 100000 in
theorem few_any (P : PlanA) (L : PlanL) (w : World) (hP : PlanAt w P L) (hO : POk P L) : Calls Tryd.prog 9 #[planV P L] w fun e w' => FewP w e w' := by
  have l1 := hO.l1
  have l2 := hO.l2
  have l3 := hO.l3
  have l4 := hO.l4
  have li := hO.li
  obtain ⟨fr, cs, ps, hs, rs⟩ := P
  obtain ⟨A1, c1, A2, c2, A3, c3, A4, c4⟩ := L
  obtain ⟨g1, -, -, -⟩ := hP
  simp only [planV] at *
  have HB0 : Hid (Below w.heap.size w (w.alloc (.cells #[.int .u16 fr, .slice A1 cs.length c1, .slice A2 ps.length c2, .slice A3 hs.length c3, .slice A4 rs.length c4] 28))) := (Below.refl _ _).alloc (Nat.le_refl _) _
  have G1 := Lib.hid g1
  have HLI := Lib.hid li
  obtain ⟨n1, hn1⟩ : ∃ n, n = cs.length := ⟨_, rfl⟩
  obtain ⟨n2, hn2⟩ : ∃ n, n = ps.length := ⟨_, rfl⟩
  obtain ⟨n3, hn3⟩ : ∃ n, n = hs.length := ⟨_, rfl⟩
  obtain ⟨n4, hn4⟩ : ∃ n, n = rs.length := ⟨_, rfl⟩
  rw [← hn1, ← hn2, ← hn3, ← hn4] at HB0 ⊢
  rw [← hn1] at l1
  rw [← hn2] at l2
  rw [← hn3] at l3
  rw [← hn4] at l4
  have HN1 := Lib.hid hn1
  clear g1 li hO hn1 hn2 hn3 hn4
  go_enter Tryd.func9, Tryd.ntmps9
  go_wp2_with fail
  go_loop [3, 4] (fun s i => ∃ (k : Nat) (N : Int), k ≤ n1 ∧ k ≤ 100 ∧ i = .int .i64 k ∧ s = .int .i64 N ∧ 0 ≤ N ∧ N ≤ 300 * k) (fun _ i => n1 - (intOf i).toNat)
  case atStart => exact ⟨0, 0, Nat.zero_le _, by omega, rfl, rfl, by omega, by omega⟩
  case round =>
    obtain ⟨k, N, hk, hk1, rfl, rfl, hN0, hN1⟩ := hrel
    by_cases hlt : k < n1 ∧ k < 100
    · obtain ⟨hlt1, hlt2⟩ := hlt
      have hlw : k < cs.length := by rw [← HN1.out]; exact hlt1
      obtain ⟨Pf, q1, -⟩ := G1.out
      obtain ⟨b, o, rfl⟩ := Arr.head q1 hlw
      have cc := kept (Arr.at (j := 0) q1 hlw rfl) HB0.out
      obtain ⟨m, hm⟩ : ∃ m, m = (cs.getD k []).length := ⟨_, rfl⟩
      have hli := HLI.out _ (getD_mem [] hlw)
      rw [← hm] at hli
      simp only [slV, ← hm, Nat.mul_one, Nat.add_zero] at cc
      clear q1 hm hlw
      by_cases hm3 : m ≤ 300
      · go_wp2_with fail
        go_round
        case rel => exact ⟨k + 1, _, by omega, by omega, by go_num, rfl, by omega, by omega⟩
        case measure => simp [intOf]; omega
      · go_wp2_with fail
        go_ret
        exact ⟨⟨_, rfl⟩, HB0.out⟩
    · clear G1 HLI
      have hge : n1 ≤ k ∨ 100 ≤ k := by omega
      clear hlt
      rcases hge with hge | hge
      · go_wp2_with fail
        all_goals
          go_ret
          exact ⟨⟨_, rfl⟩, HB0.out⟩
      · by_cases hk5 : k < n1
        · go_wp2_with fail
          all_goals
            go_ret
            exact ⟨⟨_, rfl⟩, HB0.out⟩
        · go_wp2_with fail
          all_goals
            go_ret
            exact ⟨⟨_, rfl⟩, HB0.out⟩
end Go.Proofs.YtmfelkdcoihkpaaDoor
