/-
  The walk of PathsInto.
-/
import Derived.Test.YtjiikhfeacgjjaaAwakeW
import Derived.Test.YtjiikhfeacgjjaaFewW
namespace Go.Proofs.Ytjiikhfeacgjjaa
open Go.RowKit

theorem eqU_refl {n : Nat} {f : Nat → Bool} : eqU n f f = true := eqU_yes fun _ _ => rfl
theorem l47 {n : Nat} (h : n ≤ 1000) : n ≤ 140737488355328 := by omega
set_option maxHeartbeats 8000000 in
set_option maxRecDepth 100000 in
theorem walk_into (P : PlanA) (L : PlanL) (z : Int) (w : World) (hP : PlanAt w P L) (hO : POk P L) : Calls Try.prog 3 #[planV P L, .int .i64 z] w fun e w' => e = .returned (.bool true) ∧ Below w.heap.size w w' := by
  have HFEW := Lib.hid (fun W hP => few_any P L W hP hO)
  have HIN := Lib.hid (fun t W hP hF ht => into_yes P L t W hP hO.wf (l47 (Few.l2 hF)) (l47 (Few.l3 hF)) ht)
  have HRI := Lib.hid (fun t W hP hF ht => refInto_yes P L t W hP hO.wf (l47 (Few.l2 hF)) (l47 (Few.l3 hF)) ht)
  have HIN0 := Lib.hid (fun W hz => into_no P L z W hO.l2 hz)
  have HRI0 := Lib.hid (fun W hz => refInto_no' P L z W hO.l2 hz)
  have HP := Lib.hid hP
  have hl2 := hO.l2
  obtain ⟨fr, cs, ps, hs, rs⟩ := P
  obtain ⟨A1, c1, A2, c2, A3, c3, A4, c4⟩ := L
  have HB0 : Hid (Below w.heap.size w (w.alloc (.cells #[.int .u16 fr, .slice A1 cs.length c1, .slice A2 ps.length c2, .slice A3 hs.length c3, .slice A4 rs.length c4] 28))) := (Below.refl _ _).alloc (Nat.le_refl _) _
  have HPB := Lib.hid (PBn.new w fr A1 cs.length c1 A2 ps.length c2 A3 hs.length c3 A4 rs.length c4)
  simp only [planV] at *
  clear hP hO
  go_enter Try.func3, Try.ntmps3
  go_wp2_with fail
  refine (HFEW.out _ (HP.out.keep HB0.out)).mono ?_
  rintro e w1 ⟨⟨b, rfl, hb⟩, hB⟩
  obtain ⟨k0, k1, k2, k3, k4⟩ := HPB.out.keep hB
  have HB1 := Lib.hid (below_two HB0.out hB)
  have HPB1 := Lib.hid (HPB.out.keep hB)
  have HFB := Lib.hid hb
  clear hB hb
  cases b
  · go_wp2_with fail
    refine (awake_any _).mono ?_
    rintro e w2 ⟨rfl, hB⟩
    have HB2 := Lib.hid (below_two HB1.out hB)
    clear hB
    go_wp2_with fail
    go_ret
    exact ⟨rfl, HB2.out⟩
  · have hF := HFB.out rfl
    by_cases hz : 0 ≤ z ∧ z < ps.length
    · obtain ⟨t, rfl⟩ : ∃ t : Nat, z = t := ⟨z.toNat, by omega⟩
      have HIN1 := Lib.hid (fun W hP => HIN.out t W hP hF (by omega))
      have HRI1 := Lib.hid (fun W hP => HRI.out t W hP hF (by omega))
      clear hz hF
      go_wp2_with fail
      refine (HIN1.out _ (HP.out.keep HB1.out)).mono ?_
      rintro e w2 ⟨B1, d1, rfl, h1, hB⟩
      have HX1 := Lib.hid h1
      have HB2 := Lib.hid (below_two HB1.out hB)
      have HPB2 := Lib.hid (HPB1.out.keep hB)
      clear k0 k1 k2 k3 k4 h1 hB
      obtain ⟨k0, k1, k2, k3, k4⟩ := HPB2.out
      go_wp2_with fail
      refine (HRI1.out _ (HP.out.keep HB2.out)).mono ?_
      rintro e w3 ⟨B2, d2, rfl, h1, hB⟩
      have HX2 := Lib.hid h1
      have HX1 := Lib.hid (Arr.keep HX1.out hB)
      have HB3 := Lib.hid (below_two HB2.out hB)
      clear h1 hB k0 k1 k2 k3 k4
      go_wp2_with fail
      refine (awake_any _).mono ?_
      rintro e w4 ⟨rfl, hB⟩
      have hs := same_any B1 B2 d1 d2 ps.length ps.length _ _ w4 (Arr.keep HX1.out hB) (Arr.keep HX2.out hB) (by omega) (by omega)
      rw [decide_eq_true rfl, Bool.true_and, eqU_refl] at hs
      have HS := Lib.hid hs
      have HB4 := Lib.hid (below_two HB3.out hB)
      clear hB hs
      go_wp2_with fail
      refine HS.out.mono ?_
      rintro e w5 ⟨rfl, hB⟩
      have HB5 := Lib.hid (below_two HB4.out hB)
      clear hB
      go_wp2_with fail
      go_ret
      exact ⟨rfl, HB5.out⟩
    · have HIN1 := Lib.hid (fun W => HIN0.out W hz)
      have HRI1 := Lib.hid (fun W => HRI0.out W hz)
      clear hz hF
      go_wp2_with fail
      refine (HIN1.out _).mono ?_
      rintro e w2 ⟨rfl, hB⟩
      have HB2 := Lib.hid (below_two HB1.out hB)
      have HPB2 := Lib.hid (HPB1.out.keep hB)
      clear k0 k1 k2 k3 k4 hB
      obtain ⟨k0, k1, k2, k3, k4⟩ := HPB2.out
      go_wp2_with fail
      refine (HRI1.out _).mono ?_
      rintro e w3 ⟨rfl, hB⟩
      have HB3 := Lib.hid (below_two HB2.out hB)
      clear hB k0 k1 k2 k3 k4
      go_wp2_with fail
      refine (awake_any _).mono ?_
      rintro e w4 ⟨rfl, hB⟩
      have hs := same_any none none 0 0 0 0 (fun _ => true) (fun _ => true) w4 Bools.nil Bools.nil (by omega) (by omega)
      rw [decide_eq_true rfl, Bool.true_and, eqU_refl] at hs
      have HS := Lib.hid hs
      have HB4 := Lib.hid (below_two HB3.out hB)
      clear hB hs
      go_wp2_with fail
      refine HS.out.mono ?_
      rintro e w5 ⟨rfl, hB⟩
      have HB5 := Lib.hid (below_two HB4.out hB)
      clear hB
      go_wp2_with fail
      go_ret
      exact ⟨rfl, HB5.out⟩
end Go.Proofs.Ytjiikhfeacgjjaa
