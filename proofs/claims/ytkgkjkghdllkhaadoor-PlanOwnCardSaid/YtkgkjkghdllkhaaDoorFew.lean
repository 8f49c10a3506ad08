/-
  few: a plan whose lists aren't too long.
-/
import Derived.Test.YtkgkjkghdllkhaaDoorMem
import Derived.Deep.QuietTactic
import Derived.BigQuiet
import Derived.IntWalk
namespace Go.Proofs.YtkgkjkghdllkhaaDoor
open Go.RowKit

def sumN (f : Nat → Nat) : Nat → Nat
  | 0 => 0
  | k + 1 => sumN f k + f k

/-- All lengths of a plan. -/
def allN (P : PlanA) : Nat :=
  P.2.1.length + P.2.2.1.length + P.2.2.2.1.length + P.2.2.2.2.length + sumN (fun j => (P.2.1.getD j []).length) P.2.1.length + sumN (fun j => (P.2.2.1.getD j dQ).1.length + (P.2.2.1.getD j dQ).2.2.1.length) P.2.2.1.length

/-- What few answers. -/
def FewPost (P : PlanA) (w : World) (e : Ending) (w' : World) : Prop :=
  Below w.heap.size w w' ∧ ∃ b : Bool, e = .returned (.bool b) ∧ (b = true → allN P ≤ 2000)

set_option maxHeartbeats 4000000 in
set_option maxRecDepth 100000 in
theorem few_any (P : PlanA) (L : PlanL) (w : World) (hP : PlanAt w P L) (h1 : P.2.1.length ≤ 140737488355328) (h2 : P.2.2.1.length ≤ 140737488355328) (h3 : P.2.2.2.1.length ≤ 140737488355328) (h4 : P.2.2.2.2.length ≤ 140737488355328)
    (h5 : ∀ ws ∈ P.2.1, ws.length ≤ 140737488355328) (h6 : ∀ q ∈ P.2.2.1, q.1.length ≤ 140737488355328 ∧ q.2.2.1.length ≤ 140737488355328) :
    Calls Tryd.prog 10 #[planV P L] w fun e w' => FewPost P w e w' := by
  obtain ⟨fr, cs, ps, hs, rs⟩ := P
  obtain ⟨A1, c1, A2, c2, A3, c3, A4, c4⟩ := L
  obtain ⟨g1, g2, g3, g4⟩ := hP
  simp only [planV] at *
  have G1 := Lib.hid g1
  have G2 := Lib.hid g2
  have H5 := Lib.hid h5
  have H6 := Lib.hid h6
  have HB1 : Hid (Below w.heap.size w (w.alloc (.cells #[.int .u16 fr, .slice A1 cs.length c1, .slice A2 ps.length c2, .slice A3 hs.length c3, .slice A4 rs.length c4] 28))) := (Below.refl _ _).alloc (Nat.le_refl _) _
  clear g1 g2 g3 g4 h5 h6
  go_enter Tryd.func10, Tryd.ntmps10
  go_wp2_with fail
  go_loop [3, 4] (fun t i => ∃ (k : Nat) (N : Int), k ≤ cs.length ∧ i = .int .i64 k ∧ t = .int .i64 N ∧ 0 ≤ N ∧ N ≤ 562949953423312 ∧ N = ((cs.length : Int) + ps.length + hs.length + rs.length) + (sumN (fun j => (cs.getD j []).length) k : Nat)) (fun _ i => cs.length - (intOf i).toNat)
  case atStart => exact ⟨0, _, Nat.zero_le _, rfl, rfl, by omega, by omega, by simp [sumN]⟩
  case round =>
    obtain ⟨k, N, hk, rfl, rfl, hN0, hN1, hN⟩ := hrel
    have HN := Lib.hid hN
    clear hN
    by_cases hle : N ≤ 2000
    · by_cases hlt : k < cs.length
      · obtain ⟨Pf, g1, g1'⟩ := G1.out
        obtain ⟨b, o, rfl⟩ := Arr.head g1 hlt
        have cc := Arr.at (j := 0) (g1.keep HB1.out) hlt rfl
        obtain ⟨wsl, hwsl⟩ : ∃ n, n = (cs.getD k []).length := ⟨_, rfl⟩
        have hbig := H5.out _ (getD_mem [] hlt)
        rw [← hwsl] at hbig
        simp only [slV, ← hwsl, Nat.mul_one, Nat.add_zero] at cc
        have HWS := Lib.hid hwsl
        clear g1 g1' hwsl
        go_wp2_with fail
        go_round
        case rel => exact ⟨k + 1, _, by omega, by go_num, by rfl, by omega, by omega, by
          have : sumN (fun j => (cs.getD j []).length) (k + 1) = sumN (fun j => (cs.getD j []).length) k + wsl := by
            show sumN _ k + (cs.getD k []).length = _
            rw [← HWS.out]
          rw [this, HN.out]
          push_cast
          omega⟩
        case measure => simp [intOf]; omega
      · have hk' : k = cs.length := by omega
        subst hk'
        have HM : Hid (2000 < N ∨ N = ((cs.length : Int) + ps.length + hs.length + rs.length) + (sumN (fun j => (cs.getD j []).length) cs.length : Nat)) := .inr HN.out
        clear HN hle
        go_wp2_with fail
        go_loopw [3, 5] (fun t i wr => ∃ (k : Nat) (M : Int), (∃ nd, wr = (w.alloc (.cells #[.int .u16 fr, .slice A1 cs.length c1, .slice A2 ps.length c2, .slice A3 hs.length c3, .slice A4 rs.length c4] 28)).drewN nd) ∧ k ≤ ps.length ∧ i = .int .i64 k ∧ t = .int .i64 M ∧ 0 ≤ M ∧ M ≤ 562949953423312 ∧ (2000 < M ∨ M = ((cs.length : Int) + ps.length + hs.length + rs.length) + (sumN (fun j => (cs.getD j []).length) cs.length : Nat) + (sumN (fun j => (ps.getD j dQ).1.length + (ps.getD j dQ).2.2.1.length) k : Nat))) (fun _ i _ => ps.length - (intOf i).toNat)
        case atStart => exact ⟨0, _, ⟨0, rfl⟩, Nat.zero_le _, rfl, rfl, hN0, hN1, (by rcases HM.out with h | h; exact .inl h; exact .inr (by rw [h]; simp [sumN]))⟩
        case round =>
          obtain ⟨k, M, ⟨nd, rfl⟩, hk, rfl, rfl, hM0, hM1, hM⟩ := hrel
          have HB := Lib.hid (below_drewN HB1.out nd)
          have HS := Lib.hid hM
          clear hM
          by_cases hlt : k < ps.length
          · by_cases hle : M ≤ 2000
            · obtain ⟨Sf, Pf, g2, g2'⟩ := G2.out
              obtain ⟨b, o, rfl⟩ := Arr.head g2 hlt
              obtain ⟨⟨ss, ev, pp, x, y, z⟩, hq⟩ : ∃ q, q = ps.getD k dQ := ⟨_, rfl⟩
              have hmem := H6.out _ (getD_mem dQ hlt)
              have hg := g2.keep HB1.out
              have c0 := hg.at (j := 0) hlt rfl
              have c2 := hg.at (j := 2) hlt rfl
              simp only [slV, ← hq, Nat.add_zero] at c0 c2 hmem
              have HQ := Lib.hid hq
              obtain ⟨m1, m2⟩ := hmem
              obtain ⟨s1, hs1⟩ : ∃ n : Nat, n = ss.length := ⟨_, rfl⟩
              obtain ⟨s2, hs2⟩ : ∃ n : Nat, n = pp.length := ⟨_, rfl⟩
              rw [← hs1] at c0 m1
              rw [← hs2] at c2 m2
              have hki : (k : Int) < ps.length := by omega
              have hk0 : (0 : Int) ≤ k := by omega
              have hkn : ((k : Int)).toNat = k := by omega
              have e1 : IntKind.i64.wrap ((s1 : Int) + s2) = (s1 : Int) + s2 := IntWalk.i64_in _ (by omega)
              have e2 : IntKind.i64.wrap (M + ((s1 : Int) + s2)) = M + ((s1 : Int) + s2) := IntWalk.i64_in _ (by omega)
              have HW1 := Lib.hid hs1
              have HW2 := Lib.hid hs2
              clear g2 g2' hg hq hs1 hs2
              have HE1 := Lib.hid e1
              have HE2 := Lib.hid e2
              clear e1 e2
              go_wp2_with fail
              have e1 := HE1.out
              have e2 := HE2.out
              go_quiet (fail)
              clear e1 e2
              go_wp2_with fail
              go_roundw
              case rel => exact ⟨k + 1, _, ⟨_, rfl⟩, by omega, by go_num, by rfl, by omega, by omega, by
                rcases HS.out with h | h
                · exact .inl (by omega)
                · refine .inr ?_
                  have : sumN (fun j => (ps.getD j dQ).1.length + (ps.getD j dQ).2.2.1.length) (k + 1) = sumN (fun j => (ps.getD j dQ).1.length + (ps.getD j dQ).2.2.1.length) k + (s1 + s2) := by
                    show sumN _ k + ((ps.getD k dQ).1.length + (ps.getD k dQ).2.2.1.length) = _
                    rw [← HQ.out, HW1.out, HW2.out]
                  rw [this, h]
                  push_cast
                  omega⟩
              case measure => simp [intOf]; omega
            · go_wp2_with fail
              go_ret
              exact ⟨HB.out, _, rfl, fun h => by simp at h <;> omega⟩
          · have hk' : k = ps.length := by omega
            subst hk'
            by_cases hle : M ≤ 2000
            · go_wp2_with fail
              go_ret
              refine ⟨HB.out, _, rfl, fun _ => ?_⟩
              rcases HS.out with h | h
              · omega
              · unfold allN
                dsimp only
                omega
            · go_wp2_with fail
              go_ret
              exact ⟨HB.out, _, rfl, fun h => by simp at h <;> omega⟩
    · have HM : Hid (2000 < N ∨ N = ((cs.length : Int) + ps.length + hs.length + rs.length) + (sumN (fun j => (cs.getD j []).length) cs.length : Nat)) := .inl (by omega)
      clear HN
      by_cases hlt : k < cs.length
      · skip
        go_wp2_with fail
        go_loopw [3, 5] (fun t i wr => ∃ (k : Nat) (M : Int), (∃ nd, wr = (w.alloc (.cells #[.int .u16 fr, .slice A1 cs.length c1, .slice A2 ps.length c2, .slice A3 hs.length c3, .slice A4 rs.length c4] 28)).drewN nd) ∧ k ≤ ps.length ∧ i = .int .i64 k ∧ t = .int .i64 M ∧ 0 ≤ M ∧ M ≤ 562949953423312 ∧ (2000 < M ∨ M = ((cs.length : Int) + ps.length + hs.length + rs.length) + (sumN (fun j => (cs.getD j []).length) cs.length : Nat) + (sumN (fun j => (ps.getD j dQ).1.length + (ps.getD j dQ).2.2.1.length) k : Nat))) (fun _ i _ => ps.length - (intOf i).toNat)
        case atStart => exact ⟨0, _, ⟨0, rfl⟩, Nat.zero_le _, rfl, rfl, hN0, hN1, (by rcases HM.out with h | h; exact .inl h; exact .inr (by rw [h]; simp [sumN]))⟩
        case round =>
          obtain ⟨k, M, ⟨nd, rfl⟩, hk, rfl, rfl, hM0, hM1, hM⟩ := hrel
          have HB := Lib.hid (below_drewN HB1.out nd)
          have HS := Lib.hid hM
          clear hM
          by_cases hlt : k < ps.length
          · by_cases hle : M ≤ 2000
            · obtain ⟨Sf, Pf, g2, g2'⟩ := G2.out
              obtain ⟨b, o, rfl⟩ := Arr.head g2 hlt
              obtain ⟨⟨ss, ev, pp, x, y, z⟩, hq⟩ : ∃ q, q = ps.getD k dQ := ⟨_, rfl⟩
              have hmem := H6.out _ (getD_mem dQ hlt)
              have hg := g2.keep HB1.out
              have c0 := hg.at (j := 0) hlt rfl
              have c2 := hg.at (j := 2) hlt rfl
              simp only [slV, ← hq, Nat.add_zero] at c0 c2 hmem
              have HQ := Lib.hid hq
              obtain ⟨m1, m2⟩ := hmem
              obtain ⟨s1, hs1⟩ : ∃ n : Nat, n = ss.length := ⟨_, rfl⟩
              obtain ⟨s2, hs2⟩ : ∃ n : Nat, n = pp.length := ⟨_, rfl⟩
              rw [← hs1] at c0 m1
              rw [← hs2] at c2 m2
              have hki : (k : Int) < ps.length := by omega
              have hk0 : (0 : Int) ≤ k := by omega
              have hkn : ((k : Int)).toNat = k := by omega
              have e1 : IntKind.i64.wrap ((s1 : Int) + s2) = (s1 : Int) + s2 := IntWalk.i64_in _ (by omega)
              have e2 : IntKind.i64.wrap (M + ((s1 : Int) + s2)) = M + ((s1 : Int) + s2) := IntWalk.i64_in _ (by omega)
              have HW1 := Lib.hid hs1
              have HW2 := Lib.hid hs2
              clear g2 g2' hg hq hs1 hs2
              have HE1 := Lib.hid e1
              have HE2 := Lib.hid e2
              clear e1 e2
              go_wp2_with fail
              have e1 := HE1.out
              have e2 := HE2.out
              go_quiet (fail)
              clear e1 e2
              go_wp2_with fail
              go_roundw
              case rel => exact ⟨k + 1, _, ⟨_, rfl⟩, by omega, by go_num, by rfl, by omega, by omega, by
                rcases HS.out with h | h
                · exact .inl (by omega)
                · refine .inr ?_
                  have : sumN (fun j => (ps.getD j dQ).1.length + (ps.getD j dQ).2.2.1.length) (k + 1) = sumN (fun j => (ps.getD j dQ).1.length + (ps.getD j dQ).2.2.1.length) k + (s1 + s2) := by
                    show sumN _ k + ((ps.getD k dQ).1.length + (ps.getD k dQ).2.2.1.length) = _
                    rw [← HQ.out, HW1.out, HW2.out]
                  rw [this, h]
                  push_cast
                  omega⟩
              case measure => simp [intOf]; omega
            · go_wp2_with fail
              go_ret
              exact ⟨HB.out, _, rfl, fun h => by simp at h <;> omega⟩
          · have hk' : k = ps.length := by omega
            subst hk'
            by_cases hle : M ≤ 2000
            · go_wp2_with fail
              go_ret
              refine ⟨HB.out, _, rfl, fun _ => ?_⟩
              rcases HS.out with h | h
              · omega
              · unfold allN
                dsimp only
                omega
            · go_wp2_with fail
              go_ret
              exact ⟨HB.out, _, rfl, fun h => by simp at h <;> omega⟩
      · skip
        go_wp2_with fail
        go_loopw [3, 5] (fun t i wr => ∃ (k : Nat) (M : Int), (∃ nd, wr = (w.alloc (.cells #[.int .u16 fr, .slice A1 cs.length c1, .slice A2 ps.length c2, .slice A3 hs.length c3, .slice A4 rs.length c4] 28)).drewN nd) ∧ k ≤ ps.length ∧ i = .int .i64 k ∧ t = .int .i64 M ∧ 0 ≤ M ∧ M ≤ 562949953423312 ∧ (2000 < M ∨ M = ((cs.length : Int) + ps.length + hs.length + rs.length) + (sumN (fun j => (cs.getD j []).length) cs.length : Nat) + (sumN (fun j => (ps.getD j dQ).1.length + (ps.getD j dQ).2.2.1.length) k : Nat))) (fun _ i _ => ps.length - (intOf i).toNat)
        case atStart => exact ⟨0, _, ⟨0, rfl⟩, Nat.zero_le _, rfl, rfl, hN0, hN1, (by rcases HM.out with h | h; exact .inl h; exact .inr (by rw [h]; simp [sumN]))⟩
        case round =>
          obtain ⟨k, M, ⟨nd, rfl⟩, hk, rfl, rfl, hM0, hM1, hM⟩ := hrel
          have HB := Lib.hid (below_drewN HB1.out nd)
          have HS := Lib.hid hM
          clear hM
          by_cases hlt : k < ps.length
          · by_cases hle : M ≤ 2000
            · obtain ⟨Sf, Pf, g2, g2'⟩ := G2.out
              obtain ⟨b, o, rfl⟩ := Arr.head g2 hlt
              obtain ⟨⟨ss, ev, pp, x, y, z⟩, hq⟩ : ∃ q, q = ps.getD k dQ := ⟨_, rfl⟩
              have hmem := H6.out _ (getD_mem dQ hlt)
              have hg := g2.keep HB1.out
              have c0 := hg.at (j := 0) hlt rfl
              have c2 := hg.at (j := 2) hlt rfl
              simp only [slV, ← hq, Nat.add_zero] at c0 c2 hmem
              have HQ := Lib.hid hq
              obtain ⟨m1, m2⟩ := hmem
              obtain ⟨s1, hs1⟩ : ∃ n : Nat, n = ss.length := ⟨_, rfl⟩
              obtain ⟨s2, hs2⟩ : ∃ n : Nat, n = pp.length := ⟨_, rfl⟩
              rw [← hs1] at c0 m1
              rw [← hs2] at c2 m2
              have hki : (k : Int) < ps.length := by omega
              have hk0 : (0 : Int) ≤ k := by omega
              have hkn : ((k : Int)).toNat = k := by omega
              have e1 : IntKind.i64.wrap ((s1 : Int) + s2) = (s1 : Int) + s2 := IntWalk.i64_in _ (by omega)
              have e2 : IntKind.i64.wrap (M + ((s1 : Int) + s2)) = M + ((s1 : Int) + s2) := IntWalk.i64_in _ (by omega)
              have HW1 := Lib.hid hs1
              have HW2 := Lib.hid hs2
              clear g2 g2' hg hq hs1 hs2
              have HE1 := Lib.hid e1
              have HE2 := Lib.hid e2
              clear e1 e2
              go_wp2_with fail
              have e1 := HE1.out
              have e2 := HE2.out
              go_quiet (fail)
              clear e1 e2
              go_wp2_with fail
              go_roundw
              case rel => exact ⟨k + 1, _, ⟨_, rfl⟩, by omega, by go_num, by rfl, by omega, by omega, by
                rcases HS.out with h | h
                · exact .inl (by omega)
                · refine .inr ?_
                  have : sumN (fun j => (ps.getD j dQ).1.length + (ps.getD j dQ).2.2.1.length) (k + 1) = sumN (fun j => (ps.getD j dQ).1.length + (ps.getD j dQ).2.2.1.length) k + (s1 + s2) := by
                    show sumN _ k + ((ps.getD k dQ).1.length + (ps.getD k dQ).2.2.1.length) = _
                    rw [← HQ.out, HW1.out, HW2.out]
                  rw [this, h]
                  push_cast
                  omega⟩
              case measure => simp [intOf]; omega
            · go_wp2_with fail
              go_ret
              exact ⟨HB.out, _, rfl, fun h => by simp at h <;> omega⟩
          · have hk' : k = ps.length := by omega
            subst hk'
            by_cases hle : M ≤ 2000
            · go_wp2_with fail
              go_ret
              refine ⟨HB.out, _, rfl, fun _ => ?_⟩
              rcases HS.out with h | h
              · omega
              · unfold allN
                dsimp only
                omega
            · go_wp2_with fail
              go_ret
              exact ⟨HB.out, _, rfl, fun h => by simp at h <;> omega⟩
end Go.Proofs.YtkgkjkghdllkhaaDoor
