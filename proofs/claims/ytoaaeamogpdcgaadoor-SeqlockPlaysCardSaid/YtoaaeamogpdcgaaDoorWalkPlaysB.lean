/-
  A piece of the walk.
-/
import Derived.Test.YtoaaeamogpdcgaaDoorWalkPlaysMain
namespace Go.Proofs.YtoaaeamogpdcgaaDoor
open Go.RowKit
set_option linter.all false in
set_option maxHeartbeats 8000000 in
set_option maxRecDepth 100000 in
theorem part_WalkPlays_B : part_WalkPlays.B := by
  set_option tactic.hygienic false in intro
  set_option tactic.hygienic false in intros
  obtain ⟨od, hod⟩ : ∃ od : Bool, od = (decide (y % 2 = 1) && !e1.done) := ⟨_, rfl⟩
  have HOD := Lib.hid hod
  clear hod
  go_upto_region 26 with fail
  go_cut [180] (fun bv wx => bv = .bool od ∧ wr = wx)
  case first =>
      have hod := HOD.out
      cases hdd : e1.done
      · rw [hdd] at x6 hod
        by_cases hye : y % 2 = 1
        · have HT := Lib.hid (show od = true by rw [hod, hye]; rfl)
          clear hod
          go_wp2_with fail
          go_meet
          case rel => exact ⟨by rw [HT.out], rfl⟩
        · have HT := Lib.hid (show od = false by rw [hod, decide_eq_false hye]; rfl)
          clear hod
          go_wp2_with fail
          go_meet
          case rel => exact ⟨by rw [HT.out], rfl⟩
      · rw [hdd] at x6 hod
        by_cases hye : y % 2 = 1
        · have HT := Lib.hid (show od = false by rw [hod]; simp)
          clear hod
          go_wp2_with fail
          go_meet
          case rel => exact ⟨by rw [HT.out], rfl⟩
        · have HT := Lib.hid (show od = false by rw [hod]; simp)
          clear hod
          go_wp2_with fail
          go_meet
          case rel => exact ⟨by rw [HT.out], rfl⟩
  case rest =>
      obtain ⟨rfl, rfl⟩ := hcut
      cases od with
      | true =>
        have hod := HOD.out
        have hdd : e1.done = false := by
          cases h : e1.done
          · rfl
          · rw [h] at hod; simp at hod
        have hcw := core_r1 HCO.out hdd (by have := HTR.out; omega) cu1
        simp only [drV, hdd] at hcw
        have HCW := Lib.hid hcw
        clear hod hcw
        go_wp2_with fail
        with_reducible refine HCW.out.mono ?_
        rintro x w8 ⟨e2, he, hC8, hB8⟩
        have hb68 := HB6.out.same (hB8.block _ HCO.out.vlt)
        have he88 := HB8.out.same (hB8.block _ HCO.out.qlt)
        have hdn := hC8.rs.dn
        have HC8 := Lib.hid hC8
        have HB68 := Lib.hid hb68
        have HE88 := Lib.hid he88
        have HBB8 := Lib.hid (HBR.out.trans (hB8.mono HBR.out.size))
        obtain ⟨qa, qn, qx, qc, qL, qnL, qcL, qg, qd, qt⟩ := e2
        simp only at he hdn
        have HDN := Lib.hid hdn
        subst he
        clear v0 v1 v2 v3 v4 v5 x0 x1 x2 x3 x4 x5 x6 x7 hC8 hdn hB8 hdd hb68
        obtain ⟨x0, x1, x2, x3, x4, x5, x6, x7⟩ := he88
        have z0 := HC8.out.qfz 0
        have z1 := HC8.out.qfz 1
        have z2 := HC8.out.qfz 2
        have z3 := HC8.out.qfz 3
        have z4 := HC8.out.qfz 4
        have z5 := HC8.out.qfz 5
        have z6 := HC8.out.qfz 6
        have z7 := HC8.out.qfz 7
        go_upto_region 28 with fail
        show Code.wp Tryd.prog _ _ _ (eightW w8 wq.heap.size ⟨qa, qn, qx, qc, qL, qnL, qcL, qg, qd, qt⟩)
        have hC9 := eight_core HC8.out ⟨qa, qn, qx, qc, qL, qnL, qcL, qg, qd, qt⟩
        have he9 := eight_box (d' := ⟨qa, qn, qx, qc, qL, qnL, qcL, qg, qd, qt⟩) HE88.out
        have hb9 := HB68.out.same (eight_heap (w := w8) (d := ⟨qa, qn, qx, qc, qL, qnL, qcL, qg, qd, qt⟩) HC8.out.ne.2.2)
        have hB9 := eight_below (d := ⟨qa, qn, qx, qc, qL, qnL, qcL, qg, qd, qt⟩) HBB8.out (show w.heap.size ≤ wq.heap.size by have := HC8.out.lo.2; omega)
        clear x0 x1 x2 x3 x4 x5 x6 x7 z0 z1 z2 z3 z4 z5 z6 z7
        generalize hW9 : eightW w8 wq.heap.size ⟨qa, qn, qx, qc, qL, qnL, qcL, qg, qd, qt⟩ = w9 at *
        have hc5 : w9.cell? ⟨wq.heap.size, 6, none⟩ = some (.bool qd) := he9.2.2.2.2.2.2.1
        have HX9 := Lib.hid (And.intro hb9 (And.intro he9 hB9))
        have HW2 := Lib.hid (fun W (hB : Below w9.heap.size w9 W) => core_r2 (hC9.keep hB) (by omega) (by have := HTR.out; omega) qd (by rw [HDN.out]))
        have hxx : (qd != qd) = false := by simp
        clear hb9 he9 hB9 hC9 hW9
        go_region_held3 (fun w' => w'.cell? ⟨wq.heap.size, 6, none⟩ = some (.bool qd)) (first | exact hc10 | exact hc5)
          (first
           | (go_at_call 19
              with_reducible refine (HW2.out _ ((Below.refl _ _).drew)).mono ?_
              rintro y2 w10 ⟨rfl, hC10, hv10, hq10, hB10⟩
              have hc10 : w10.cell? ⟨wq.heap.size, 6, none⟩ = some (.bool qd) := by rw [World.cell?_of_block (w := w9.drew) hq10]; exact hc5
              have HX10 := Lib.hid (And.intro hC10 (And.intro hv10 (And.intro hq10 hB10)))
              clear hC10 hv10 hq10 hB10))
        all_goals
          go_wp2_with fail
          go_meet
          case rel => exact ⟨s1, f1, _, d1, ⟨qa, qn, qx, qc, qL, qnL, qcL, qg, qd, qt⟩, U1, cu1, rfl, HX10.out.1, HX9.out.1.same HX10.out.2.1, HX9.out.2.1.same HX10.out.2.2.1, Nat.le_trans (Rd.step_tr 40 f1 r1) (by have := HTR.out; omega), HX9.out.2.2.drew.trans (HX10.out.2.2.2.mono (Nat.le_succ _))⟩
      | false =>
        go_wp2_with fail
        go_meet
        case rel => exact ⟨s1, f1, r1, d1, e1, U1, cu1, rfl, HCO.out.more (by omega), HB6.out, HB8.out, by have := HTR.out; omega, HBR.out⟩
end Go.Proofs.YtoaaeamogpdcgaaDoor
