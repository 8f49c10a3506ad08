/-
  A piece of the walk.
-/
import Derived.Test.YtndipldcpnglgaaWalkPlaysMain
namespace Go.Proofs.Ytndipldcpnglgaa
open Go.RowKit
set_option linter.all false in
set_option maxHeartbeats 8000000 in
set_option maxRecDepth 100000 in
theorem part_WalkPlays_A : part_WalkPlays.A := by
  set_option tactic.hygienic false in intro
  set_option tactic.hygienic false in intros
  have hrl : (L.map toD).length ≤ 900 := by rw [HPA.out.rel.len]; have := HBD.out.q; omega
  have HC1 := Lib.hid (waitd_any v X.S.now X.up y1 y2 y3 (L.map toD) wa HPA.out.row hrl)
  have hal := wait_alike HPA.out.rel HPA.out.sb.sm.ln.ok y1 y2 y3
  have HAL := Lib.hid hal
  clear hal hrl
  go_wp2_with fail
  with_reducible refine HC1.out.mono ?_
  rintro e w1 ⟨v', rfl, hD, hB1, hS⟩
  obtain ⟨hE, hup', hnow, L', hl', hrel⟩ := HAL.out
  rw [hE]
  rw [hl'] at hD
  have HBDN : Bd (k + 1) (X.wait y1 y2 y3) := HBD.out.wait y1 y2 y3
  clear a0 a1 a2 fz d1 d2 d3 HC1
  obtain ⟨⟨ok, E⟩, hok⟩ : ∃ z, z = X.waitE y1 y2 y3 := ⟨_, rfl⟩
  rw [← hok]
  have HOK := Lib.hid hok
  clear hok hE hl'
  obtain ⟨A', c', rfl, _⟩ := hD.len
  rw [List.length_map] at hD hS ⊢
  obtain ⟨w2a, hw2a⟩ : ∃ w2a, w2a = w1.alloc (.cells #[.slice A' L'.length c', nV X.S.now, .bool X.up] 29) := ⟨_, rfl⟩
  have hB2 : Below w1.heap.size w1 w2a := by rw [hw2a]; exact (Below.refl _ _).alloc (Nat.le_refl _) _
  have hBa2 := hB1.trans (hB2.mono hB1.size)
  obtain ⟨a0, a1, a2, fz⟩ := HPA.out.bx.keep hBa2
  have z0 : w2a.cell? ⟨w1.heap.size, 0, none⟩ = some (.slice A' L'.length c') := by rw [hw2a]; exact al_new _ _ _ 0 _ rfl rfl
  have z1 : w2a.cell? ⟨w1.heap.size, 1, none⟩ = some (nV X.S.now) := by rw [hw2a]; exact al_new _ _ _ 1 _ rfl rfl
  have z2 : w2a.cell? ⟨w1.heap.size, 2, none⟩ = some (.bool X.up) := by rw [hw2a]; exact al_new _ _ _ 2 _ rfl rfl
  obtain ⟨V2, hV2⟩ : ∃ V2 : Value, V2 = .slice A' L'.length c' := ⟨_, rfl⟩
  obtain ⟨w2, hw2⟩ : ∃ w2, w2 = ((w2a.setCell ⟨pb, 0, none⟩ V2).setCell ⟨pb, 1, none⟩ (.int .i64 X.S.now)).setCell ⟨pb, 2, none⟩ (.bool X.up) := ⟨_, rfl⟩
  obtain ⟨t0, t1, t2, hcg⟩ := threeOf a0 a1 a2 hw2
  have hfz2 : ∀ j, w2.frozen? ⟨pb, j, none⟩ = false := fun j => by rw [hw2, World.frozen?_setCell, World.frozen?_setCell, World.frozen?_setCell]; exact fz j
  have hC12 : Chg (fun k => k = pb) w1 w2 := (Chg.of_below hB2).trans hcg
  obtain ⟨e1, e2, e3⟩ := HCL.out w2a hBa2 w2 hcg
  have hSB := HPA.out.mid hB1 hC12
  have HST := Lib.hid (show ∀ w4, EvP s g b vq (X.wait y1 y2 y3) w2 w4 → Hid (PlK w.heap.size w w4 s pb (k + 1)) from fun w4 hP => by
    obtain ⟨vq', h⟩ := HPA.out.step (L' := L') hB1 hD hS hC12 (X' := (X.wait y1 y2 y3)) (v' := .slice A' L'.length c') (by rw [← hV2]; exact ⟨t0, by rw [hnow]; exact t1, by rw [hup']; exact t2, hfz2⟩) hP hrel
    exact ⟨g, b, vq', _, (X.wait y1 y2 y3), L', h, HBDN⟩)
  have HC2 := Lib.hid (wait_few y1 y2 y3 HW.out.2.1 hSB (HBD.out.few hk60))
  clear hD hB1 hB2 hBa2 hS hcg hC12 t0 t1 t2 hfz2 hSB hrel hnow hup'
  go_upto_region 12 with fail
  rw [← hw2a]
  clear hw2a
  go_upto_region 13 with fail
  rw [← hV2, ← hw2]
  clear hw2 hV2 a0 a1 a2 z0 z1 z2 fz
  go_wp2_with fail
  with_reducible refine HC2.out.mono ?_
  rintro e w4 ⟨he, hP⟩
  rw [← HOK.out] at he
  obtain rfl := he
  have HX := HST.out w4 hP
  clear hP HST HC2 HOK HAL HPA HBD HCL e1 e2 e3 HBDN
  cases ok <;> (go_wp2_with fail; all_goals go_meet; all_goals exact HX)
end Go.Proofs.Ytndipldcpnglgaa
