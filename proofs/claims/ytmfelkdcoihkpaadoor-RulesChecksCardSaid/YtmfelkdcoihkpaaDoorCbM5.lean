/-
  Pieces of the walk of the given Check.
-/
import Derived.Test.YtmfelkdcoihkpaaDoorCbL5Main
namespace Go.Proofs.YtmfelkdcoihkpaaDoor
open Go.RowKit
set_option linter.all false in
set_option maxHeartbeats 64000000 in
set_option maxRecDepth 100000 in
theorem part_CbL5_L5A : part_CbL5.L5A := by
  set_option tactic.hygienic false in intro
  set_option tactic.hygienic false in intros
  by_cases a0 : h0 = 0
  · subst a0
    by_cases a5 : h5 = 0
    · subst a5
      by_cases b1 : h4 = 1
      · subst b1
        go_wp2_with fail
        go_meet
        exact ⟨by rw [HQ.out]; rfl, rfl⟩
      by_cases b2 : h4 = 2
      · subst b2
        go_wp2_with fail
        go_meet
        exact ⟨by rw [HQ.out]; rfl, rfl⟩
      by_cases b3 : h4 = 4
      · subst b3
        go_wp2_with fail
        go_meet
        exact ⟨by rw [HQ.out]; rfl, rfl⟩
      by_cases b4 : h4 = 8
      · subst b4
        go_wp2_with fail
        go_meet
        exact ⟨by rw [HQ.out]; rfl, rfl⟩
      by_cases b5 : h4 = 16
      · subst b5
        go_wp2_with fail
        go_meet
        exact ⟨by rw [HQ.out]; rfl, rfl⟩
      have c1 : (h4 == 1) = false := by simpa using b1
      have c2 : (h4 == 2) = false := by simpa using b2
      have c3 : (h4 == 4) = false := by simpa using b3
      have c4 : (h4 == 8) = false := by simpa using b4
      have c5 : (h4 == 16) = false := by simpa using b5
      clear b1 b2 b3 b4 b5
      have hqf : q = false := by rw [HQ.out]; simp [quB, c1, c2, c3, c4, c5]
      have HQF := Lib.hid hqf
      clear hqf
      go_wp2_with fail
      go_meet
      exact ⟨by rw [HQF.out], rfl⟩
    · have c5 : (h5 == 0) = false := by simpa using a5
      have hqf : q = false := by rw [HQ.out]; simp [quB, c5]
      have HQF := Lib.hid hqf
      clear hqf a5
      go_wp2_with fail
      go_meet
      exact ⟨by rw [HQF.out], rfl⟩
  · have c5 : (h0 == 0) = false := by simpa using a0
    have hqf : q = false := by rw [HQ.out]; simp [quB, c5]
    have HQF := Lib.hid hqf
    clear hqf a0
    go_wp2_with fail
    go_meet
    exact ⟨by rw [HQF.out], rfl⟩
end Go.Proofs.YtmfelkdcoihkpaaDoor
namespace Go.Proofs.YtmfelkdcoihkpaaDoor
open Go.RowKit
set_option linter.all false in
set_option maxHeartbeats 64000000 in
set_option maxRecDepth 100000 in
theorem part_CbL5_L5B : part_CbL5.L5B := by
  set_option tactic.hygienic false in intro
  set_option tactic.hygienic false in intros
  by_cases a0 : h0 = 1
  · subst a0
    by_cases a4 : h4 = 0
    · subst a4
      by_cases a5 : 0 < h5
      · have hsf : s = true := by rw [HS.out]; simp [saB]; omega
        have HSF := Lib.hid hsf
        clear hsf
        go_wp2_with fail
        go_meet
        exact ⟨by rw [HSF.out], rfl⟩
      · have hsf : s = false := by rw [HS.out]; simp [saB]; omega
        have HSF := Lib.hid hsf
        clear hsf
        go_wp2_with fail
        go_meet
        exact ⟨by rw [HSF.out], rfl⟩
    · have c5 : (h4 == 0) = false := by simpa using a4
      have hsf : s = false := by rw [HS.out]; simp [saB, c5]
      have HSF := Lib.hid hsf
      clear hsf a4
      go_wp2_with fail
      go_meet
      exact ⟨by rw [HSF.out], rfl⟩
  · have c5 : (h0 == 1) = false := by simpa using a0
    have hsf : s = false := by rw [HS.out]; simp [saB, c5]
    have HSF := Lib.hid hsf
    clear hsf a0
    go_wp2_with fail
    go_meet
    exact ⟨by rw [HSF.out], rfl⟩
end Go.Proofs.YtmfelkdcoihkpaaDoor
namespace Go.Proofs.YtmfelkdcoihkpaaDoor
open Go.RowKit
set_option linter.all false in
set_option maxHeartbeats 64000000 in
set_option maxRecDepth 100000 in
theorem part_CbL5_L5C : part_CbL5.L5C := by
  set_option tactic.hygienic false in intro
  set_option tactic.hygienic false in intros
  go_wp2_with fail
  go_meet
  exact ⟨by rw [HBAD.out, decide_eq_false (show ¬ k < 64 by omega)]; rfl, rfl⟩
end Go.Proofs.YtmfelkdcoihkpaaDoor
namespace Go.Proofs.YtmfelkdcoihkpaaDoor
open Go.RowKit
set_option linter.all false in
set_option maxHeartbeats 64000000 in
set_option maxRecDepth 100000 in
theorem part_CbL5_L5D : part_CbL5.L5D := by
  set_option tactic.hygienic false in intro
  set_option tactic.hygienic false in intros
  go_wp2_with fail
  go_meet
  exact ⟨by rw [HBAD.out]; simp, rfl⟩
end Go.Proofs.YtmfelkdcoihkpaaDoor
namespace Go.Proofs.YtmfelkdcoihkpaaDoor
open Go.RowKit
set_option linter.all false in
set_option maxHeartbeats 64000000 in
set_option maxRecDepth 100000 in
theorem part_CbL5_L5E1 : part_CbL5.L5E1 := by
  set_option tactic.hygienic false in intro
  set_option tactic.hygienic false in intros
  go_wp2_with fail
  go_meet
  exact ⟨by rw [HBAD.out, decide_eq_false (show ¬ (h1 < n2 ∧ h2 < n2 ∧ h1 ≠ h2 ∧ 1 ≤ h3 ∧ h3 ≤ 32) by omega)]; simp, rfl⟩
end Go.Proofs.YtmfelkdcoihkpaaDoor
namespace Go.Proofs.YtmfelkdcoihkpaaDoor
open Go.RowKit
set_option linter.all false in
set_option maxHeartbeats 64000000 in
set_option maxRecDepth 100000 in
theorem part_CbL5_L5E2 : part_CbL5.L5E2 := by
  set_option tactic.hygienic false in intro
  set_option tactic.hygienic false in intros
  go_wp2_with fail
  go_meet
  exact ⟨by rw [HBAD.out, decide_eq_false (show ¬ (h1 < n2 ∧ h2 < n2 ∧ h1 ≠ h2 ∧ 1 ≤ h3 ∧ h3 ≤ 32) by omega)]; simp, rfl⟩
end Go.Proofs.YtmfelkdcoihkpaaDoor
namespace Go.Proofs.YtmfelkdcoihkpaaDoor
open Go.RowKit
set_option linter.all false in
set_option maxHeartbeats 64000000 in
set_option maxRecDepth 100000 in
theorem part_CbL5_L5E3 : part_CbL5.L5E3 := by
  set_option tactic.hygienic false in intro
  set_option tactic.hygienic false in intros
  have HD := Lib.hid (decide_eq_false (show ¬ (h1 < n2 ∧ h2 < n2 ∧ h1 ≠ h2 ∧ 1 ≤ h3 ∧ h3 ≤ 32) by omega))
  rw [HD.out] at HBAD
  subst t3
  go_wp2_with fail
  go_meet
  exact ⟨by rw [HBAD.out]; simp, rfl⟩
end Go.Proofs.YtmfelkdcoihkpaaDoor
namespace Go.Proofs.YtmfelkdcoihkpaaDoor
open Go.RowKit
set_option linter.all false in
set_option maxHeartbeats 64000000 in
set_option maxRecDepth 100000 in
theorem part_CbL5_L5E4 : part_CbL5.L5E4 := by
  set_option tactic.hygienic false in intro
  set_option tactic.hygienic false in intros
  have HD := Lib.hid (decide_eq_false (show ¬ (h1 < n2 ∧ h2 < n2 ∧ h1 ≠ h2 ∧ 1 ≤ h3 ∧ h3 ≤ 32) by omega))
  rw [HD.out] at HBAD
  clear t3
  go_wp2_with fail
  go_meet
  exact ⟨by rw [HBAD.out]; simp, rfl⟩
end Go.Proofs.YtmfelkdcoihkpaaDoor
namespace Go.Proofs.YtmfelkdcoihkpaaDoor
open Go.RowKit
set_option linter.all false in
set_option maxHeartbeats 64000000 in
set_option maxRecDepth 100000 in
theorem part_CbL5_L5E5 : part_CbL5.L5E5 := by
  set_option tactic.hygienic false in intro
  set_option tactic.hygienic false in intros
  have HD := Lib.hid (decide_eq_false (show ¬ (h1 < n2 ∧ h2 < n2 ∧ h1 ≠ h2 ∧ 1 ≤ h3 ∧ h3 ≤ 32) by omega))
  rw [HD.out] at HBAD
  clear t3
  go_wp2_with fail
  go_meet
  exact ⟨by rw [HBAD.out]; simp, rfl⟩
end Go.Proofs.YtmfelkdcoihkpaaDoor
namespace Go.Proofs.YtmfelkdcoihkpaaDoor
open Go.RowKit
set_option linter.all false in
set_option maxHeartbeats 64000000 in
set_option maxRecDepth 100000 in
theorem part_CbL5_L5E6 : part_CbL5.L5E6 := by
  set_option tactic.hygienic false in intro
  set_option tactic.hygienic false in intros
  have HD := Lib.hid (decide_eq_true (show (h1 < n2 ∧ h2 < n2 ∧ h1 ≠ h2 ∧ 1 ≤ h3 ∧ h3 ≤ 32) by omega))
  rw [HD.out, T0.out] at HBAD
  clear t3
  go_wp2_with fail
  go_meet
  exact ⟨by rw [HBAD.out]; simp, rfl⟩
end Go.Proofs.YtmfelkdcoihkpaaDoor
namespace Go.Proofs.YtmfelkdcoihkpaaDoor
open Go.RowKit
set_option linter.all false in
set_option maxHeartbeats 64000000 in
set_option maxRecDepth 100000 in
theorem part_CbL5_L5F1 : part_CbL5.L5F1 := by
  set_option tactic.hygienic false in intro
  set_option tactic.hygienic false in intros
  go_wp2_with fail
  go_meet
  exact ⟨by rw [HBAD.out, decide_eq_false (show ¬ (h1 < n2 ∧ h2 < n2 ∧ h1 ≠ h2 ∧ 1 ≤ h3 ∧ h3 ≤ 32) by omega)]; simp, rfl⟩
end Go.Proofs.YtmfelkdcoihkpaaDoor
namespace Go.Proofs.YtmfelkdcoihkpaaDoor
open Go.RowKit
set_option linter.all false in
set_option maxHeartbeats 64000000 in
set_option maxRecDepth 100000 in
theorem part_CbL5_L5F2 : part_CbL5.L5F2 := by
  set_option tactic.hygienic false in intro
  set_option tactic.hygienic false in intros
  go_wp2_with fail
  go_meet
  exact ⟨by rw [HBAD.out, decide_eq_false (show ¬ (h1 < n2 ∧ h2 < n2 ∧ h1 ≠ h2 ∧ 1 ≤ h3 ∧ h3 ≤ 32) by omega)]; simp, rfl⟩
end Go.Proofs.YtmfelkdcoihkpaaDoor
namespace Go.Proofs.YtmfelkdcoihkpaaDoor
open Go.RowKit
set_option linter.all false in
set_option maxHeartbeats 64000000 in
set_option maxRecDepth 100000 in
theorem part_CbL5_L5F3 : part_CbL5.L5F3 := by
  set_option tactic.hygienic false in intro
  set_option tactic.hygienic false in intros
  have HD := Lib.hid (decide_eq_false (show ¬ (h1 < n2 ∧ h2 < n2 ∧ h1 ≠ h2 ∧ 1 ≤ h3 ∧ h3 ≤ 32) by omega))
  rw [HD.out] at HBAD
  subst t3
  go_wp2_with fail
  go_meet
  exact ⟨by rw [HBAD.out]; simp, rfl⟩
end Go.Proofs.YtmfelkdcoihkpaaDoor
namespace Go.Proofs.YtmfelkdcoihkpaaDoor
open Go.RowKit
set_option linter.all false in
set_option maxHeartbeats 64000000 in
set_option maxRecDepth 100000 in
theorem part_CbL5_L5F4 : part_CbL5.L5F4 := by
  set_option tactic.hygienic false in intro
  set_option tactic.hygienic false in intros
  have HD := Lib.hid (decide_eq_false (show ¬ (h1 < n2 ∧ h2 < n2 ∧ h1 ≠ h2 ∧ 1 ≤ h3 ∧ h3 ≤ 32) by omega))
  rw [HD.out] at HBAD
  clear t3
  go_wp2_with fail
  go_meet
  exact ⟨by rw [HBAD.out]; simp, rfl⟩
end Go.Proofs.YtmfelkdcoihkpaaDoor
namespace Go.Proofs.YtmfelkdcoihkpaaDoor
open Go.RowKit
set_option linter.all false in
set_option maxHeartbeats 64000000 in
set_option maxRecDepth 100000 in
theorem part_CbL5_L5F5 : part_CbL5.L5F5 := by
  set_option tactic.hygienic false in intro
  set_option tactic.hygienic false in intros
  have HD := Lib.hid (decide_eq_false (show ¬ (h1 < n2 ∧ h2 < n2 ∧ h1 ≠ h2 ∧ 1 ≤ h3 ∧ h3 ≤ 32) by omega))
  rw [HD.out] at HBAD
  clear t3
  go_wp2_with fail
  go_meet
  exact ⟨by rw [HBAD.out]; simp, rfl⟩
end Go.Proofs.YtmfelkdcoihkpaaDoor
namespace Go.Proofs.YtmfelkdcoihkpaaDoor
open Go.RowKit
set_option linter.all false in
set_option maxHeartbeats 64000000 in
set_option maxRecDepth 100000 in
theorem part_CbL5_L5F6 : part_CbL5.L5F6 := by
  set_option tactic.hygienic false in intro
  set_option tactic.hygienic false in intros
  have HD := Lib.hid (decide_eq_true (show (h1 < n2 ∧ h2 < n2 ∧ h1 ≠ h2 ∧ 1 ≤ h3 ∧ h3 ≤ 32) by omega))
  rw [HD.out, T0.out] at HBAD
  clear t3
  go_wp2_with fail
  go_meet
  exact ⟨by rw [HBAD.out]; simp, rfl⟩
end Go.Proofs.YtmfelkdcoihkpaaDoor
namespace Go.Proofs.YtmfelkdcoihkpaaDoor
open Go.RowKit
set_option linter.all false in
theorem part_Cb_L5 : part_Cb.L5 :=
  part_CbL5.imp ⟨part_CbL5_L5A⟩ ⟨part_CbL5_L5B⟩ ⟨part_CbL5_L5C⟩ ⟨part_CbL5_L5D⟩ ⟨part_CbL5_L5E1⟩ ⟨part_CbL5_L5E2⟩ ⟨part_CbL5_L5E3⟩ ⟨part_CbL5_L5E4⟩ ⟨part_CbL5_L5E5⟩ ⟨part_CbL5_L5E6⟩ ⟨part_CbL5_L5F1⟩ ⟨part_CbL5_L5F2⟩ ⟨part_CbL5_L5F3⟩ ⟨part_CbL5_L5F4⟩ ⟨part_CbL5_L5F5⟩ ⟨part_CbL5_L5F6⟩
end Go.Proofs.YtmfelkdcoihkpaaDoor
