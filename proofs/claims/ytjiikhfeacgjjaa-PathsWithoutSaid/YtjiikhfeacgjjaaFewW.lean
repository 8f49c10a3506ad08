/-
  few answers true of plans of few elements alone.
-/
import Derived.Test.YtjiikhfeacgjjaaWoutW
namespace Go.Proofs.Ytjiikhfeacgjjaa
open Go.RowKit

def FewP (P : PlanA) (w : World) (e : Ending) (w' : World) : Prop := (∃ b : Bool, e = .returned (.bool b) ∧ (b = true → Few P)) ∧ Below w.heap.size w w'
theorem few_of {P : PlanA} {N : Int} (h1 : P.2.1.length ≤ 10) (h2 : P.2.2.1.length ≤ 70) (h3 : P.2.2.2.1.length ≤ 200) (h4 : P.2.2.2.2.length ≤ 200) (hN : N ≤ 1000) (hc : ∀ j, j < P.2.1.length → ((P.2.1.getD j []).length : Int) ≤ N) (hp : ∀ j, j < P.2.2.1.length → ((P.2.2.1.getD j dQ).1.length : Int) ≤ N ∧ ((P.2.2.1.getD j dQ).2.2.1.length : Int) ≤ N) : Few P := by
  refine ⟨by omega, by omega, by omega, by omega, fun ws hw => ?_, fun q hq => ?_⟩
  · obtain ⟨j, hj, rfl⟩ := mem_at [] hw
    have := hc j hj
    omega
  · obtain ⟨j, hj, rfl⟩ := mem_at dQ hq
    have := hp j hj
    omega

set_option maxHeartbeats 8000000 in
set_option maxRecDepth 100000 in
theorem few_any (P : PlanA) (L : PlanL) (w : World) (hP : PlanAt w P L) (hO : POk P L) : Calls Try.prog 10 #[planV P L] w fun e w' => FewP P w e w' := by
  have l1 := hO.l1
  have l2 := hO.l2
  have l3 := hO.l3
  have l4 := hO.l4
  have li := hO.li
  have lp := hO.lp
  have hfo := Lib.hid (fun N => few_of (P := P) (N := N))
  have HNO : Hid (∀ e w', Below w.heap.size w w' → e = .returned (.bool false) → FewP P w e w') := fun e w' hB he => ⟨⟨false, he, fun h => by cases h⟩, hB⟩
  obtain ⟨fr, cs, ps, hs, rs⟩ := P
  obtain ⟨A1, c1, A2, c2, A3, c3, A4, c4⟩ := L
  obtain ⟨g1, g2, -, -⟩ := hP
  have HPX : Hid (∀ b, (b = true → Few (fr, cs, ps, hs, rs)) → ∀ w', Below w.heap.size w w' → FewP (fr, cs, ps, hs, rs) w (.returned (.bool b)) w') := fun b hb w' hB => ⟨⟨b, rfl, hb⟩, hB⟩
  simp only [planV] at *
  have HB0 : Hid (Below w.heap.size w (w.alloc (.cells #[.int .u16 fr, .slice A1 cs.length c1, .slice A2 ps.length c2, .slice A3 hs.length c3, .slice A4 rs.length c4] 28))) := (Below.refl _ _).alloc (Nat.le_refl _) _
  have HPB := Lib.hid (PBn.new w fr A1 cs.length c1 A2 ps.length c2 A3 hs.length c3 A4 rs.length c4)
  have G1 := Lib.hid g1
  have G2 := Lib.hid g2
  have HLI := Lib.hid li
  have HLP := Lib.hid lp
  obtain ⟨n1, hn1⟩ : ∃ n, n = cs.length := ⟨_, rfl⟩
  obtain ⟨n2, hn2⟩ : ∃ n, n = ps.length := ⟨_, rfl⟩
  obtain ⟨n3, hn3⟩ : ∃ n, n = hs.length := ⟨_, rfl⟩
  obtain ⟨n4, hn4⟩ : ∃ n, n = rs.length := ⟨_, rfl⟩
  rw [← hn1, ← hn2, ← hn3, ← hn4] at HB0 HPB hfo ⊢
  rw [← hn1] at l1
  rw [← hn2] at l2
  rw [← hn3] at l3
  rw [← hn4] at l4
  have HN1 := Lib.hid hn1
  have HN2 := Lib.hid hn2
  clear g1 g2 li lp hO hn1 hn2 hn3 hn4
  by_cases t2 : n2 ≤ 70
  case neg =>
    have hx : ((n2 : Int) > 70) := by omega
    go_enter Try.func10, Try.ntmps10
    go_wp2_with fail
    go_ret
    exact HNO.out _ _ HB0.out rfl
  by_cases t3 : n3 ≤ 200
  case neg =>
    have hx : ((n3 : Int) > 200) := by omega
    go_enter Try.func10, Try.ntmps10
    go_wp2_with fail
    go_ret
    exact HNO.out _ _ HB0.out rfl
  by_cases t4 : n4 ≤ 200
  case neg =>
    have hx : ((n4 : Int) > 200) := by omega
    go_enter Try.func10, Try.ntmps10
    go_wp2_with fail
    go_ret
    exact HNO.out _ _ HB0.out rfl
  by_cases t1 : n1 ≤ 10
  case neg =>
    have hx : ((n1 : Int) > 10) := by omega
    go_enter Try.func10, Try.ntmps10
    go_wp2_with fail
    go_ret
    exact HNO.out _ _ HB0.out rfl
  obtain ⟨k0, k1, k2, k3, k4⟩ := HPB.out
  go_enter Try.func10, Try.ntmps10
  go_wp2_with fail
  go_loop [3, 4] (fun s i => ∃ (k : Nat) (N : Int), k ≤ n1 ∧ i = .int .i64 k ∧ s = .int .i64 N ∧ 0 ≤ N ∧ N ≤ 140737488355328 * k ∧ ∀ j, j < k → ((cs.getD j []).length : Int) ≤ N) (fun _ i => n1 - (intOf i).toNat)
  case atStart => exact ⟨0, 0, Nat.zero_le _, rfl, rfl, by omega, by omega, fun j hj => by omega⟩
  case round =>
    obtain ⟨k, N, hk, rfl, rfl, hN0, hN1, hj⟩ := hrel
    have HJ := Lib.hid hj
    by_cases hlt1 : k < n1
    · have hlw : k < cs.length := by rw [← HN1.out]; exact hlt1
      obtain ⟨Pf, q1, -⟩ := G1.out
      obtain ⟨b, o, rfl⟩ := Arr.head q1 hlw
      have cc := kept (Arr.at (j := 0) q1 hlw rfl) HB0.out
      obtain ⟨m, hm⟩ : ∃ m, m = (cs.getD k []).length := ⟨_, rfl⟩
      have hli := HLI.out _ (getD_mem [] hlw)
      rw [← hm] at hli
      simp only [slV, ← hm, Nat.mul_one, Nat.add_zero] at cc
      have HMM := Lib.hid hm
      clear q1 hm hlw hj
      go_wp2_with fail
      go_round
      case rel => exact ⟨k + 1, _, by omega, by go_num, rfl, by omega, by omega, fun j hj => (by
        rcases Nat.lt_or_ge j k with h | h
        · have := HJ.out j h; omega
        · obtain rfl : j = k := by omega
          rw [← HMM.out]; omega)⟩
      case measure => simp [intOf]; omega
    · obtain rfl : n1 = k := by omega
      have hN2 : N ≤ 1407374883553280 := by omega
      clear hj hN1 hk hlt1
      go_wp2_with fail
      go_loopw [3, 5] (fun s i wr => ∃ (k : Nat) (M : Int), k ≤ n2 ∧ i = .int .i64 k ∧ s = .int .i64 M ∧ N ≤ M ∧ M ≤ 2000000000000000 ∧ (∀ j, j < k → ((ps.getD j dQ).1.length : Int) ≤ M ∧ ((ps.getD j dQ).2.2.1.length : Int) ≤ M) ∧ Below (w.alloc (.cells #[.int .u16 fr, .slice A1 n1 c1, .slice A2 n2 c2, .slice A3 n3 c3, .slice A4 n4 c4] 28)).heap.size (w.alloc (.cells #[.int .u16 fr, .slice A1 n1 c1, .slice A2 n2 c2, .slice A3 n3 c3, .slice A4 n4 c4] 28)) wr) (fun _ i _ => n2 - (intOf i).toNat)
      case atStart => exact ⟨0, N, Nat.zero_le _, rfl, rfl, by omega, by omega, fun j hj => by omega, Below.refl _ _⟩
      case round =>
        obtain ⟨k, M, hk, rfl, rfl, hM0, hM1, hj, hB⟩ := hrel
        have HJ2 := Lib.hid hj
        have HBR := Lib.hid hB
        clear k0 k1 k2 k3 k4
        obtain ⟨k0, k1, k2, k3, k4⟩ := HPB.out.keep hB
        by_cases hlt2 : k < n2
        · by_cases hM : M ≤ 1000
          · have hlw : k < ps.length := by rw [← HN2.out]; exact hlt2
            obtain ⟨Sf, Pf, q1, -⟩ := G2.out
            obtain ⟨b, o, rfl⟩ := Arr.head q1 hlw
            have d0 := kept (kept (Arr.at (j := 0) q1 hlw rfl) HB0.out) hB
            have d2 := kept (kept (Arr.at (j := 2) q1 hlw rfl) HB0.out) hB
            obtain ⟨m1, hm1⟩ : ∃ m, m = (ps.getD k dQ).1.length := ⟨_, rfl⟩
            obtain ⟨m2, hm2⟩ : ∃ m, m = (ps.getD k dQ).2.2.1.length := ⟨_, rfl⟩
            have hlp := HLP.out _ (getD_mem dQ hlw)
            rw [← hm1, ← hm2] at hlp
            obtain ⟨hlp1, hlp2⟩ := hlp
            simp only [slV, ← hm1, ← hm2, Nat.add_zero] at d0 d2
            have HM1 := Lib.hid hm1
            have HM2 := Lib.hid hm2
            have s1 : IntKind.i64.wrap ((m1 : Int) + (m2 : Int)) = (m1 : Int) + (m2 : Int) := IntWalk.i64_in _ (by omega)
            have s2 : IntKind.i64.wrap (M + ((m1 : Int) + (m2 : Int))) = M + ((m1 : Int) + (m2 : Int)) := IntWalk.i64_in _ (by omega)
            have i0 : (0 : Int) ≤ (k : Int) := Int.natCast_nonneg _
            have i1 : (k : Int) < (n2 : Int) := by omega
            clear q1 hm1 hm2 hlw hj hB
            go_wp2_with fail
            go_quiet (fail)
            go_wp2_with fail
            go_roundw
            case rel => exact ⟨k + 1, _, by omega, by go_num, rfl, by omega, by omega, fun j hj => (by
              rcases Nat.lt_or_ge j k with h | h
              · have := HJ2.out j h; omega
              · obtain rfl : j = k := by omega
                rw [← HM1.out, ← HM2.out]; omega), below_drewN HBR.out _⟩
            case measure => simp [intOf]; omega
          · have hx : (1000 : Int) < M := by omega
            have hx2 : decide (M ≤ 1000) = false := decide_eq_false hM
            clear hj hB hM
            go_wp2_with fail
            go_ret
            exact HNO.out _ _ (below_two HB0.out HBR.out) rfl
        · obtain rfl : n2 = k := by omega
          have hfin := hfo.out M (by omega) t2 t3 t4
          have HF : Hid (decide (M ≤ 1000) = true → Few (fr, cs, ps, hs, rs)) := fun h => hfin (of_decide_eq_true h) (fun j hj => by have := HJ.out j hj; omega) (fun j hj => HJ2.out j hj)
          clear hj hB hfin
          go_wp2_with fail
          go_ret
          exact HPX.out _ HF.out _ (below_two HB0.out HBR.out)
end Go.Proofs.Ytjiikhfeacgjjaa
