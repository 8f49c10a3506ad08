/-
  A piece of the walk.
-/
import Derived.Test.YtfinleobgmdebaaWalkPlaysMain
namespace Go.Proofs.Ytfinleobgmdebaa
open Go.RowKit
set_option linter.all false in
set_option maxHeartbeats 8000000 in
set_option maxRecDepth 100000 in
theorem part_WalkPlays_B : part_WalkPlays.B := by
  set_option tactic.hygienic false in intro
  set_option tactic.hygienic false in intros
  have hrl : (L.map toD).length ≤ 900 := by rw [HPA.out.rel.len]; have := HBD.out.q; omega
  have HC1 := Lib.hid (sigd_any v X.S.now X.c X.m (L.map toD) wa HPA.out.row hrl (HBD.out.few hk60).2.2 HBD.out.c)
  clear hrl
  go_wp2_with fail
  with_reducible refine HC1.out.mono ?_
  rintro e w1 ⟨l', id, ok, v', cc, E, hT, rfl, hD, hB1, hS, ht, hff⟩
  obtain ⟨hE, hcc, hm', hnow, L', hl', hrel⟩ := sig_alike HPA.out.rel HPA.out.sb.sm.ln.ok HBD.out.c hT ht hff
  subst hcc
  rw [hl'] at hD
  have HBDN : Bd (k + 1) X.sig := HBD.out.sig
  have HOK := Lib.hid hE
  clear a0 a1 a2 a3 fz d1 d2 d3 HC1 hT ht hff hE hl'
  obtain ⟨A', c', rfl, _⟩ := hD.len
  rw [List.length_map] at hD hS ⊢
  obtain ⟨w2a, hw2a⟩ : ∃ w2a, w2a = w1.alloc (.cells #[.slice A' L'.length c', nV X.S.now, nV (X.sig.c : Int), nV X.m] 31) := ⟨_, rfl⟩
  have hB2 : Below w1.heap.size w1 w2a := by rw [hw2a]; exact (Below.refl _ _).alloc (Nat.le_refl _) _
  have hBa2 := hB1.trans (hB2.mono hB1.size)
  obtain ⟨a0, a1, a2, a3, fz⟩ := HPA.out.bx.keep hBa2
  have z0 : w2a.cell? ⟨w1.heap.size, 0, none⟩ = some (.slice A' L'.length c') := by rw [hw2a]; exact al_new _ _ _ 0 _ rfl rfl
  have z1 : w2a.cell? ⟨w1.heap.size, 1, none⟩ = some (nV X.S.now) := by rw [hw2a]; exact al_new _ _ _ 1 _ rfl rfl
  have z2 : w2a.cell? ⟨w1.heap.size, 2, none⟩ = some (nV (X.sig.c : Int)) := by rw [hw2a]; exact al_new _ _ _ 2 _ rfl rfl
  have z3 : w2a.cell? ⟨w1.heap.size, 3, none⟩ = some (nV X.m) := by rw [hw2a]; exact al_new _ _ _ 3 _ rfl rfl
  obtain ⟨V2, hV2⟩ : ∃ V2 : Value, V2 = .slice A' L'.length c' := ⟨_, rfl⟩
  obtain ⟨w2, hw2⟩ : ∃ w2, w2 = (((w2a.setCell ⟨pb, 0, none⟩ V2).setCell ⟨pb, 1, none⟩ (.int .i64 X.S.now)).setCell ⟨pb, 2, none⟩ (.int .i64 (X.sig.c : Int))).setCell ⟨pb, 3, none⟩ (.int .i64 X.m) := ⟨_, rfl⟩
  obtain ⟨t0, t1, t2, t3, hcg⟩ := fourOf a0 a1 a2 a3 hw2
  have hfz2 : ∀ j, w2.frozen? ⟨pb, j, none⟩ = false := fun j => by rw [hw2, World.frozen?_setCell, World.frozen?_setCell, World.frozen?_setCell, World.frozen?_setCell]; exact fz j
  have hC12 : Chg (fun k => k = pb) w1 w2 := (Chg.of_below hB2).trans hcg
  obtain ⟨e1, e2, e3⟩ := HCL.out w2a hBa2 w2 hcg
  have hSB := HPA.out.mid hB1 hC12
  have HST := Lib.hid (show ∀ w4, SmP s g b vq X.sig w2 w4 → Hid (PlK w.heap.size w w4 s pb (k + 1)) from fun w4 hP => by
    obtain ⟨vq', h⟩ := HPA.out.step (L' := L') hB1 hD hS hC12 (X' := X.sig) (v' := .slice A' L'.length c') (by rw [← hV2]; exact ⟨t0, by rw [hnow]; exact t1, t2, by rw [hm']; exact t3, hfz2⟩) hP hrel
    exact ⟨g, b, vq', _, X.sig, L', h, HBDN⟩)
  have HC2 := Lib.hid (signal_few hSB (HBD.out.few hk60))
  clear hD hB1 hB2 hBa2 hS hcg hC12 t0 t1 t2 t3 hfz2 hSB hrel hnow hm'
  go_upto_region 20 with fail
  rw [← hw2a]
  clear hw2a
  go_upto_region 21 with fail
  rw [← hV2, ← hw2]
  clear hw2 hV2 a0 a1 a2 a3 z0 z1 z2 z3 fz
  go_wp2_with fail
  with_reducible refine HC2.out.mono ?_
  rintro e w4 ⟨he, hP⟩
  rw [← HOK.out] at he
  obtain rfl := he
  have HX := HST.out w4 hP
  clear hP HST HC2 HOK HPA HBD HCL e1 e2 e3 HBDN
  cases ok <;> (go_wp2_with fail; all_goals go_meet; all_goals exact HX)
end Go.Proofs.Ytfinleobgmdebaa
