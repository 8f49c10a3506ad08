/-
  paths.Apart.
-/
import Derived.Test.YtjiikhfeacgjjaaIntoW
namespace Go.Proofs.Ytjiikhfeacgjjaa
open Go.RowKit

theorem ret_bi {a b : Bool} {c : Int} (h : a = b) : Ending.returned (.tuple #[.bool a, .int .i64 c]) = .returned (.tuple #[.bool b, .int .i64 c]) := by rw [h]

set_option maxHeartbeats 8000000 in
set_option maxRecDepth 100000 in
theorem apart_yes (P : PlanA) (L : PlanL) (a b : Nat) (w : World) (hP : PlanAt w P L) (hw : WfPlan P) (hl : P.2.2.1.length ≤ 140737488355328) (hl3 : P.2.2.2.1.length ≤ 140737488355328) (ha : a < P.2.2.1.length) (hb : b < P.2.2.1.length) :
    Calls Try.prog 16 #[planV P L, .int .i64 a, .int .i64 b] w fun e w' => e = .returned (.tuple #[.bool (!pathB P.2.2.1.length P.2.2.2.1 a b && !pathB P.2.2.1.length P.2.2.2.1 b a), .int .i64 0]) ∧ Below w.heap.size w w' := by
  have H1 := Lib.hid (fun W hP => out_yes P L a W hP hw hl hl3 ha)
  have H2 := Lib.hid (fun W hP => out_yes P L b W hP hw hl hl3 hb)
  have HP := Lib.hid hP
  obtain ⟨fr, cs, ps, hs, rs⟩ := P
  obtain ⟨A1, c1, A2, c2, A3, c3, A4, c4⟩ := L
  have HPB := Lib.hid (PBn.new w fr A1 cs.length c1 A2 ps.length c2 A3 hs.length c3 A4 rs.length c4)
  have HB0 : Hid (Below w.heap.size w (w.alloc (.cells #[.int .u16 fr, .slice A1 cs.length c1, .slice A2 ps.length c2, .slice A3 hs.length c3, .slice A4 rs.length c4] 28))) := (Below.refl _ _).alloc (Nat.le_refl _) _
  simp only [planV] at *
  obtain ⟨N, hN⟩ : ∃ N, N = ps.length := ⟨_, rfl⟩
  rw [← hN] at H1 H2 HPB HB0 hl ha hb ⊢
  have i0 : (0 : Int) ≤ (a : Int) := Int.natCast_nonneg _
  have i1 : (a : Int) < (N : Int) := by omega
  have i2 : (0 : Int) ≤ (b : Int) := Int.natCast_nonneg _
  have i3 : (b : Int) < (N : Int) := by omega
  obtain ⟨q1, hq1⟩ : ∃ q, q = pathB N hs a b := ⟨_, rfl⟩
  obtain ⟨q2, hq2⟩ : ∃ q, q = pathB N hs b a := ⟨_, rfl⟩
  rw [← hq1, ← hq2]
  have HQ1 := Lib.hid hq1
  have HQ2 := Lib.hid hq2
  clear hP hw hl3 hN hq1 hq2
  go_enter Try.func16, Try.ntmps16
  go_wp2_with fail
  refine (H1.out _ (HP.out.keep HB0.out)).mono ?_
  rintro e w1 ⟨B1, d1, rfl, hx, hB⟩
  obtain ⟨k0, k1, k2, k3, k4⟩ := HPB.out.keep hB
  have HB1 := Lib.hid (below_two HB0.out hB)
  have HX := Lib.hid hx
  clear hx hB
  go_wp2_with fail
  refine (H2.out _ (HP.out.keep HB1.out)).mono ?_
  rintro e w2 ⟨B2, d2, rfl, hy, hB⟩
  have HB2 := Lib.hid (below_two HB1.out hB)
  have hx := Arr.keep HX.out hB
  obtain ⟨b1, o1, rfl⟩ := Arr.head hx hb
  obtain ⟨b2, o2, rfl⟩ := Arr.head hy ha
  have r1 := Bools.cell hx hb
  have r2 := Bools.cell hy ha
  rw [← HQ1.out] at r1
  rw [← HQ2.out] at r2
  clear hx hy hB k0 k1 k2 k3 k4
  cases q1 <;> cases q2
  all_goals
    go_wp2_with fail
    go_ret2
    exact ⟨rfl, HB2.out⟩

set_option maxHeartbeats 8000000 in
set_option maxRecDepth 100000 in
theorem apart_no (P : PlanA) (L : PlanL) (a b : Int) (w : World) (hP : PlanAt w P L) (hw : WfPlan P) (hl : P.2.2.1.length ≤ 140737488355328) (hl3 : P.2.2.2.1.length ≤ 140737488355328) (hab : ¬ ((0 ≤ a ∧ a < P.2.2.1.length) ∧ (0 ≤ b ∧ b < P.2.2.1.length))) :
    Calls Try.prog 16 #[planV P L, .int .i64 a, .int .i64 b] w fun e w' => e = .returned (.tuple #[.bool false, .int .i64 70]) ∧ Below w.heap.size w w' := by
  have H0 := Lib.hid (fun z W hz => out_no P L z W hl hz)
  have H1 := Lib.hid (fun t W hP ht => out_yes P L t W hP hw hl hl3 ht)
  have HP := Lib.hid hP
  obtain ⟨fr, cs, ps, hs, rs⟩ := P
  obtain ⟨A1, c1, A2, c2, A3, c3, A4, c4⟩ := L
  have HPB := Lib.hid (PBn.new w fr A1 cs.length c1 A2 ps.length c2 A3 hs.length c3 A4 rs.length c4)
  have HB0 : Hid (Below w.heap.size w (w.alloc (.cells #[.int .u16 fr, .slice A1 cs.length c1, .slice A2 ps.length c2, .slice A3 hs.length c3, .slice A4 rs.length c4] 28))) := (Below.refl _ _).alloc (Nat.le_refl _) _
  simp only [planV] at *
  obtain ⟨N, hN⟩ : ∃ N, N = ps.length := ⟨_, rfl⟩
  rw [← hN] at H0 H1 HPB HB0 hl hab
  rw [← hN]
  clear hP hw hl3 hN
  by_cases ha : 0 ≤ a ∧ a < N
  · have hb : ¬ (0 ≤ b ∧ b < N) := fun h => hab ⟨ha, h⟩
    obtain ⟨t, rfl⟩ : ∃ t : Nat, a = t := ⟨a.toNat, by omega⟩
    have H1a := Lib.hid (fun W hP => H1.out t W hP (by omega))
    have H0b := Lib.hid (fun W => H0.out b W hb)
    clear ha hb hab H0 H1
    go_enter Try.func16, Try.ntmps16
    go_wp2_with fail
    refine (H1a.out _ (HP.out.keep HB0.out)).mono ?_
    rintro e w1 ⟨B1, d1, rfl, -, hB⟩
    obtain ⟨k0, k1, k2, k3, k4⟩ := HPB.out.keep hB
    have HB1 := Lib.hid (below_two HB0.out hB)
    clear hB
    go_wp2_with fail
    refine (H0b.out _).mono ?_
    rintro e w2 ⟨rfl, hB⟩
    have HB2 := Lib.hid (below_two HB1.out hB)
    clear hB
    go_wp2_with fail
    go_ret2
    exact ⟨rfl, HB2.out⟩
  · have H0a := Lib.hid (fun W => H0.out a W ha)
    clear ha hab
    by_cases hb : 0 ≤ b ∧ b < N
    · obtain ⟨t, rfl⟩ : ∃ t : Nat, b = t := ⟨b.toNat, by omega⟩
      have H1b := Lib.hid (fun W hP => H1.out t W hP (by omega))
      clear hb H0 H1
      go_enter Try.func16, Try.ntmps16
      go_wp2_with fail
      refine (H0a.out _).mono ?_
      rintro e w1 ⟨rfl, hB⟩
      obtain ⟨k0, k1, k2, k3, k4⟩ := HPB.out.keep hB
      have HB1 := Lib.hid (below_two HB0.out hB)
      clear hB
      go_wp2_with fail
      refine (H1b.out _ (HP.out.keep HB1.out)).mono ?_
      rintro e w2 ⟨B1, d1, rfl, -, hB⟩
      have HB2 := Lib.hid (below_two HB1.out hB)
      clear hB
      go_wp2_with fail
      go_ret2
      exact ⟨rfl, HB2.out⟩
    · have H0b := Lib.hid (fun W => H0.out b W hb)
      clear hb H0 H1
      go_enter Try.func16, Try.ntmps16
      go_wp2_with fail
      refine (H0a.out _).mono ?_
      rintro e w1 ⟨rfl, hB⟩
      obtain ⟨k0, k1, k2, k3, k4⟩ := HPB.out.keep hB
      have HB1 := Lib.hid (below_two HB0.out hB)
      clear hB
      go_wp2_with fail
      refine (H0b.out _).mono ?_
      rintro e w2 ⟨rfl, hB⟩
      have HB2 := Lib.hid (below_two HB1.out hB)
      clear hB
      go_wp2_with fail
      go_ret2
      exact ⟨rfl, HB2.out⟩
end Go.Proofs.Ytjiikhfeacgjjaa
