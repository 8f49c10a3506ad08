/-
  A piece of the walk.
-/
import Derived.Test.YtndipldcpnglgaaWalkPlaysMain
namespace Go.Proofs.Ytndipldcpnglgaa
open Go.RowKit
set_option linter.all false in
set_option maxHeartbeats 8000000 in
set_option maxRecDepth 100000 in
theorem part_WalkPlays_C : part_WalkPlays.C := by
  set_option tactic.hygienic false in intro
  set_option tactic.hygienic false in intros
  have hst := HPA.out.bx.set2 false
  have hC12 : Chg (fun k => k = pb) wa (wa.setCell ⟨pb, 2, none⟩ (.bool false)) := Chg.set (S := fun k => k = pb) (a := ⟨pb, 2, none⟩) (Chg.refl wa) rfl _
  have hSB := HPA.out.mid (Below.refl _ _) hC12
  have HBDN : Bd (k + 1) X.reset := HBD.out.line false (Nat.le_refl _) rfl
  have HC2 := Lib.hid (reset_any _ hSB.sm)
  have HST := Lib.hid (show ∀ w4, EvP s g b vq X.reset (wa.setCell ⟨pb, 2, none⟩ (.bool false)) w4 → Hid (PlK w.heap.size w w4 s pb (k + 1)) from fun w4 hP => by
    obtain ⟨vq', h⟩ := HPA.out.step (L' := L) (Below.refl _ _) HPA.out.row (fun x hx => .inl hx) hC12 (X' := X.reset) (v' := v) hst hP HPA.out.rel
    exact ⟨g, b, vq', _, X.reset, L, h, HBDN⟩)
  clear hst hC12 hSB
  go_wp2_with fail
  with_reducible refine HC2.out.mono ?_
  rintro e w4 ⟨rfl, hP⟩
  have HX := HST.out w4 hP
  clear hP HST HC2 HPA HBD HCL a0 a1 a2 fz
  go_wp2_with fail
  all_goals go_meet
  all_goals exact HX
end Go.Proofs.Ytndipldcpnglgaa
