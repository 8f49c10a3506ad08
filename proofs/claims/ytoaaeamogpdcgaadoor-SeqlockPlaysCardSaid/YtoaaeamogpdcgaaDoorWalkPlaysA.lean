/-
  A piece of the walk.
-/
import Derived.Test.YtoaaeamogpdcgaaDoorWalkPlaysMain
namespace Go.Proofs.YtoaaeamogpdcgaaDoor
open Go.RowKit
set_option linter.all false in
set_option maxHeartbeats 8000000 in
set_option maxRecDepth 100000 in
theorem part_WalkPlays_A : part_WalkPlays.A := by
  set_option tactic.hygienic false in intro
  set_option tactic.hygienic false in intros
  have hev := HEV.out
  have hdd : d1.done = false := by
    cases h : d1.done
    · rfl
    · rw [h] at hev; simp at hev
  have hcw := core_w1 HCO.out hdd cu1
  simp only [dwV, hdd] at hcw
  have HCW := Lib.hid hcw
  clear hev hcw
  go_wp2_with fail
  with_reducible refine HCW.out.mono ?_
  rintro x w8 ⟨d2, U2, cu2, he, hC8, hdn, hB8⟩
  have hb68 := HB6.out.same (hB8.block _ HCO.out.vlt)
  have he88 := HB8.out.same (hB8.block _ HCO.out.qlt)
  have HC8 := Lib.hid hC8
  have HB68 := Lib.hid hb68
  have HE88 := Lib.hid he88
  have HBB8 := Lib.hid (HBR.out.trans (hB8.mono HBR.out.size))
  obtain ⟨pA2, cA2, pV2, cV2, pD2, cD2, pE2, cE2, M2, did2, dn2⟩ := d2
  simp only at he hdn
  have HDN := Lib.hid hdn
  subst he
  clear v0 v1 v2 v3 v4 v5 x0 x1 x2 x3 x4 x5 x6 x7 hC8 hdn hB8 hdd he88
  obtain ⟨v0, v1, v2, v3, v4, v5⟩ := hb68
  have z0 := HC8.out.vfz 0
  have z1 := HC8.out.vfz 1
  have z2 := HC8.out.vfz 2
  have z3 := HC8.out.vfz 3
  have z4 := HC8.out.vfz 4
  have z5 := HC8.out.vfz 5
  go_upto_region 24 with fail
  show Code.wp Tryd.prog _ _ _ (sixW w8 w4.heap.size ⟨pA2, cA2, pV2, cV2, pD2, cD2, pE2, cE2, M2, did2, dn2⟩)
  have hC9 := six_core HC8.out ⟨pA2, cA2, pV2, cV2, pD2, cD2, pE2, cE2, M2, did2, dn2⟩
  have hb9 := six_box (d' := ⟨pA2, cA2, pV2, cV2, pD2, cD2, pE2, cE2, M2, did2, dn2⟩) HB68.out
  have he9 := HE88.out.same (six_heap (w := w8) (d := ⟨pA2, cA2, pV2, cV2, pD2, cD2, pE2, cE2, M2, did2, dn2⟩) (fun e => HC8.out.ne.2.2 e.symm))
  have hB9 := six_below (d := ⟨pA2, cA2, pV2, cV2, pD2, cD2, pE2, cE2, M2, did2, dn2⟩) HBB8.out (show w.heap.size ≤ w4.heap.size by have := HC8.out.lo.1; omega)
  clear v0 v1 v2 v3 v4 v5 z0 z1 z2 z3 z4 z5
  generalize hW9 : sixW w8 w4.heap.size ⟨pA2, cA2, pV2, cV2, pD2, cD2, pE2, cE2, M2, did2, dn2⟩ = w9 at *
  have hc5 : w9.cell? ⟨w4.heap.size, 5, none⟩ = some (.bool dn2) := hb9.2.2.2.2.2
  have HX9 := Lib.hid (And.intro hb9 (And.intro he9 hB9))
  have HW2 : Hid (∀ W, Below w9.heap.size w9 W → Calls Tryd.prog 17 #[.pointer (some ⟨B, 0, none⟩), .pointer (some ⟨g, 0, none⟩)] W fun y w' => y = .returned (.bool dn2) ∧ Core (w.heap.size + 1) w' ⟨g, b, 40, B, W4.heap.size, A', ca'⟩ w4.heap.size wq.heap.size a (F 0).n F (k + 1 + 1) (s1.step 40) (s1.word 40 f1) r1 ⟨pA2, cA2, pV2, cV2, pD2, cD2, pE2, cE2, M2, did2, dn2⟩ (s1.step 40) (s1.word 40 f1) e1 r1 U2 ∧ w'.heap[w4.heap.size]? = W.heap[w4.heap.size]? ∧ w'.heap[wq.heap.size]? = W.heap[wq.heap.size]? ∧ Below (w.heap.size + 1) W w') := Lib.hid (fun W (hB : Below w9.heap.size w9 W) => core_w2 (hC9.keep hB) (by omega) dn2 (by rw [HDN.out]))
  have hxx : (dn2 != dn2) = false := by simp
  clear hb9 he9 hB9 hC9 hW9
  go_region_held3 (fun w' => w'.cell? ⟨w4.heap.size, 5, none⟩ = some (.bool dn2)) (first | exact hc10 | exact hc5)
    (first
     | (go_at_call 17
        with_reducible refine (HW2.out _ ((Below.refl _ _).drew)).mono ?_
        rintro y2 w10 ⟨rfl, hC10, hv10, hq10, hB10⟩
        have hc10 : w10.cell? ⟨w4.heap.size, 5, none⟩ = some (.bool dn2) := by rw [World.cell?_of_block (w := w9.drew) hv10]; exact hc5
        have HX10 := Lib.hid (And.intro hC10 (And.intro hv10 (And.intro hq10 hB10)))
        clear hC10 hv10 hq10 hB10))
  all_goals
    go_wp2_with fail
    go_meet
    case rel => exact ⟨_, _, r1, ⟨pA2, cA2, pV2, cV2, pD2, cD2, pE2, cE2, M2, did2, dn2⟩, e1, U2, cu2, rfl, HX10.out.1, HX9.out.1.same HX10.out.2.1, HX9.out.2.1.same HX10.out.2.2.1, by have := HTR.out; omega, HX9.out.2.2.drew.trans (HX10.out.2.2.2.mono (Nat.le_succ _))⟩
end Go.Proofs.YtoaaeamogpdcgaaDoor
