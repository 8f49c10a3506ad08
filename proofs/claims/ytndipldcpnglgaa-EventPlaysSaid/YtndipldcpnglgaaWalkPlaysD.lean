/-
  A piece of the walk.
-/
import Derived.Test.YtndipldcpnglgaaWalkPlaysMain
namespace Go.Proofs.Ytndipldcpnglgaa
open Go.RowKit
set_option linter.all false in
set_option maxHeartbeats 8000000 in
set_option maxRecDepth 100000 in
theorem part_WalkPlays_D : part_WalkPlays.D := by
  set_option tactic.hygienic false in intro
  set_option tactic.hygienic false in intros
  have hrl : (L.map toD).length ≤ 1000 := by rw [HPA.out.rel.len]; have := HBD.out.q; omega
  have hmt := meth_drop g
  have HC1 := Lib.hid (dropd_any v X.S.now y1 (L.map toD) wa HPA.out.row hrl)
  clear hrl
  go_wp2_with fail
  with_reducible refine HC1.out.mono ?_
  rintro e w1 ⟨l', E, hT, v', rfl, hD, hB1, hS⟩
  obtain ⟨hE, L', hl', hrel⟩ := HPA.out.rel.drop HPA.out.sb.sm.ln.ok hT
  rw [hl'] at hD
  have HBDN : Bd (k + 1) ⟨X.S.drop y1, X.up⟩ := HBD.out.line X.up (drop_len X.S y1).1 (drop_len X.S y1).2
  have HOK := Lib.hid hE
  clear a0 a1 a2 fz d1 d2 d3 HC1 hT hE hl'
  obtain ⟨A', c', rfl, _⟩ := hD.len
  rw [List.length_map] at hD hS ⊢
  obtain ⟨w2a, hw2a⟩ : ∃ w2a, w2a = w1.alloc (.cells #[.slice A' L'.length c', nV X.S.now] 27) := ⟨_, rfl⟩
  have hB2 : Below w1.heap.size w1 w2a := by rw [hw2a]; exact (Below.refl _ _).alloc (Nat.le_refl _) _
  have hBa2 := hB1.trans (hB2.mono hB1.size)
  have hbx2 := HPA.out.bx.keep hBa2
  obtain ⟨a0, a1, a2, fz⟩ := hbx2
  have z0 : w2a.cell? ⟨w1.heap.size, 0, none⟩ = some (.slice A' L'.length c') := by rw [hw2a]; exact al_new _ _ _ 0 _ rfl rfl
  have z1 : w2a.cell? ⟨w1.heap.size, 1, none⟩ = some (nV X.S.now) := by rw [hw2a]; exact al_new _ _ _ 1 _ rfl rfl
  obtain ⟨V2, hV2⟩ : ∃ V2 : Value, V2 = .slice A' L'.length c' := ⟨_, rfl⟩
  obtain ⟨w2, hw2⟩ : ∃ w2, w2 = (w2a.setCell ⟨pb, 0, none⟩ V2).setCell ⟨pb, 1, none⟩ (.int .i64 X.S.now) := ⟨_, rfl⟩
  have hbw : Box3 w2 pb V2 (X.S.drop y1).now X.up := by rw [drop_now, hw2]; exact Box3.set01 ⟨a0, a1, a2, fz⟩
  have hcg : Chg (fun k => k = pb) w2a w2 := by rw [hw2]; exact Chg.set (S := fun k => k = pb) (a := ⟨pb, 1, none⟩) (Chg.set (S := fun k => k = pb) (a := ⟨pb, 0, none⟩) (Chg.refl w2a) rfl _) rfl _
  have hC12 : Chg (fun k => k = pb) w1 w2 := (Chg.of_below hB2).trans hcg
  obtain ⟨e1, e2, e3⟩ := HCL.out w2a hBa2 w2 hcg
  have hSB := HPA.out.mid hB1 hC12
  have k0 := hSB.sm.c0
  have HSB := Lib.hid hSB
  have HST := Lib.hid (show ∀ w4, LnP g b vq (X.S.drop y1) w2 w4 → Hid (PlK w.heap.size w w4 s pb (k + 1)) from fun w4 hP => by
    obtain ⟨vq', h⟩ := HPA.out.step (L' := L') hB1 hD hS hC12 (X' := ⟨(X.S.drop y1), X.up⟩) (v' := .slice A' L'.length c') (by rw [← hV2]; exact hbw) (hSB.sm.line hP) hrel
    exact ⟨g, b, vq', _, _, L', h, HBDN⟩)
  have HC2 := Lib.hid (drop_any y1 HW.out.2.1 w2.drew (hSB.sm.ln.keep (below_dn w2 1)) (Nat.le_trans (HBD.out.few hk60).1 (by omega)))
  clear hD hB1 hB2 hBa2 hS hcg hC12 hbw hSB hrel
  go_upto_region 26 with fail
  rw [← hw2a]
  clear hw2a
  go_upto_region 27 with fail
  rw [← hV2, ← hw2]
  clear hw2 hV2 a0 a1 a2 z0 z1 fz
  go_region_law ((go_simp; (with_reducible refine HC2.out.mono ?_); (rintro e w4 ⟨he, hP⟩); (rw [← HOK.out] at he); (obtain rfl := he)))
  all_goals have HX := HST.out w4 (LnP.trans' hP)
  all_goals clear hP
  all_goals go_wp2_with fail
  all_goals go_meet
  all_goals exact HX
end Go.Proofs.Ytndipldcpnglgaa
