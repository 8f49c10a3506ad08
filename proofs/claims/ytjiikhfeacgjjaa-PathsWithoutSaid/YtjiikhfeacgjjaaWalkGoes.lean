/-
  The walk of PathsGoes.
-/
import Derived.Test.YtjiikhfeacgjjaaWalkInto
import Derived.Deep.QuietTactic
namespace Go.Proofs.Ytjiikhfeacgjjaa
open Go.RowKit

def TupP (w : World) (e : Ending) (w' : World) : Prop := ∃ A n c err, e = .returned (.tuple #[.slice A n c, .int .i64 err]) ∧ Below w.heap.size w w'
theorem out_tup (P : PlanA) (L : PlanL) (z : Int) (w : World) (hP : PlanAt w P L) (hw : WfPlan P) (hl : P.2.2.1.length ≤ 140737488355328) (hl3 : P.2.2.2.1.length ≤ 140737488355328) : Calls Try.prog 15 #[planV P L, .int .i64 z] w fun e w' => TupP w e w' := by
  by_cases hz : 0 ≤ z ∧ z < P.2.2.1.length
  · obtain ⟨t, rfl⟩ : ∃ t : Nat, z = t := ⟨z.toNat, by omega⟩
    exact (out_yes P L t w hP hw hl hl3 (by omega)).mono fun e w' ⟨A, c, he, _, hB⟩ => ⟨A, _, c, _, he, hB⟩
  · exact (out_no P L z w hl hz).mono fun e w' ⟨he, hB⟩ => ⟨_, _, _, _, he, hB⟩
theorem into_tup (P : PlanA) (L : PlanL) (z : Int) (w : World) (hP : PlanAt w P L) (hw : WfPlan P) (hl : P.2.2.1.length ≤ 140737488355328) (hl3 : P.2.2.2.1.length ≤ 140737488355328) : Calls Try.prog 12 #[planV P L, .int .i64 z] w fun e w' => TupP w e w' := by
  by_cases hz : 0 ≤ z ∧ z < P.2.2.1.length
  · obtain ⟨t, rfl⟩ : ∃ t : Nat, z = t := ⟨z.toNat, by omega⟩
    exact (into_yes P L t w hP hw hl hl3 (by omega)).mono fun e w' ⟨A, c, he, _, hB⟩ => ⟨A, _, c, _, he, hB⟩
  · exact (into_no P L z w hl hz).mono fun e w' ⟨he, hB⟩ => ⟨_, _, _, _, he, hB⟩
set_option maxHeartbeats 8000000 in
set_option maxRecDepth 100000 in
theorem walk_goes (P : PlanA) (L : PlanL) (a b c : Int) (w : World) (hP : PlanAt w P L) (hO : POk P L) : Calls Try.prog 6 #[planV P L, .agg #[.int .i64 a, .int .i64 b, .int .i64 c]] w fun e w' => e = .returned (.bool true) ∧ Below w.heap.size w w' := by
  have HFEW := Lib.hid (fun W hP => few_any P L W hP hO)
  have HOUT := Lib.hid (fun t W hP hF ht => out_yes P L t W hP hO.wf (l47 (Few.l2 hF)) (l47 (Few.l3 hF)) ht)
  have HINT := Lib.hid (fun t W hP hF ht => into_yes P L t W hP hO.wf (l47 (Few.l2 hF)) (l47 (Few.l3 hF)) ht)
  have HOUT0 := Lib.hid (fun z W hz => out_no P L z W hO.l2 hz)
  have HINT0 := Lib.hid (fun z W hz => into_no P L z W hO.l2 hz)
  have HOUTT := Lib.hid (fun z W hP => out_tup P L z W hP hO.wf hO.l2 hO.l3)
  have HINTT := Lib.hid (fun z W hP => into_tup P L z W hP hO.wf hO.l2 hO.l3)
  have HP := Lib.hid hP
  have hl2 := hO.l2
  obtain ⟨fr, cs, ps, hs, rs⟩ := P
  obtain ⟨A1, c1, A2, c2, A3, c3, A4, c4⟩ := L
  obtain ⟨w0, hw0⟩ : ∃ w0, w0 = (w.alloc (.cells #[.int .u16 fr, .slice A1 cs.length c1, .slice A2 ps.length c2, .slice A3 hs.length c3, .slice A4 rs.length c4] 28)).alloc (.cells #[.int .i64 a, .int .i64 b, .int .i64 c] 47) := ⟨_, rfl⟩
  have hb0 : Below w.heap.size w w0 := by rw [hw0]; exact ((Below.refl _ _).alloc (Nat.le_refl _) _).alloc (by simp) _
  have hpb : PBn w0 w.heap.size fr A1 cs.length c1 A2 ps.length c2 A3 hs.length c3 A4 rs.length c4 := by rw [hw0]; exact (PBn.new w fr A1 cs.length c1 A2 ps.length c2 A3 hs.length c3 A4 rs.length c4).alloc _
  have hq : w0.heap[w.heap.size + 1]? = some (.cells #[.int .i64 a, .int .i64 b, .int .i64 c] 47 (0, 0)) := by
    have := heap_alloc_new (w.alloc (.cells #[.int .u16 fr, .slice A1 cs.length c1, .slice A2 ps.length c2, .slice A3 hs.length c3, .slice A4 rs.length c4] 28)) (.cells #[.int .i64 a, .int .i64 b, .int .i64 c] 47)
    rw [hw0]
    simpa using this
  have h0 : w0.cell? ⟨w.heap.size + 1, 0, none⟩ = some (.int .i64 a) := by rw [cell_of_row _ _ _ _ _ _ hq]; rfl
  have h1 : w0.cell? ⟨w.heap.size + 1, 1, none⟩ = some (.int .i64 b) := by rw [cell_of_row _ _ _ _ _ _ hq]; rfl
  have h2 : w0.cell? ⟨w.heap.size + 1, 2, none⟩ = some (.int .i64 c) := by rw [cell_of_row _ _ _ _ _ _ hq]; rfl
  have HB0 := Lib.hid hb0
  have HPB := Lib.hid hpb
  have H0 := Lib.hid h0
  have H1 := Lib.hid h1
  have H2 := Lib.hid h2
  have HW0 := Lib.hid hw0
  simp only [planV] at HFEW HOUT HINT HOUT0 HINT0 HOUTT HINTT ⊢
  clear hP hO hb0 hpb hq h0 h1 h2 hw0
  go_enter Try.func6, Try.ntmps6
  go_wp2_with fail
  rw [← HW0.out]
  refine (HFEW.out _ (HP.out.keep HB0.out)).mono ?_
  rintro e w1 ⟨⟨q, rfl, hb⟩, hB⟩
  obtain ⟨k0, k1, k2, k3, k4⟩ := HPB.out.keep hB
  have HB1 := Lib.hid (below_two HB0.out hB)
  have HPB1 := Lib.hid (HPB.out.keep hB)
  have h0 := kept H0.out hB
  have h1 := kept H1.out hB
  have h2 := kept H2.out hB
  have HFB := Lib.hid hb
  clear hB hb
  cases q
  · go_wp2_with fail
    refine (awake_any _).mono ?_
    rintro e w2 ⟨rfl, hB⟩
    have HB2 := Lib.hid (below_two HB1.out hB)
    clear hB
    go_wp2_with fail
    go_ret
    exact ⟨rfl, HB2.out⟩
  · have hF := HFB.out rfl
    obtain ⟨N, hN⟩ : ∃ N, N = ps.length := ⟨_, rfl⟩
    go_wp2_with fail
    go_quiet (fail)
    obtain ⟨w2, hw2⟩ : ∃ w2, w2 = w1.drewN nq := ⟨_, rfl⟩
    rw [← hw2]
    have hd : Below w1.heap.size w1 w2 := by rw [hw2]; exact below_drewN (Below.refl _ _) _
    have HB2 := Lib.hid (below_two HB1.out hd)
    have HPB2 := Lib.hid (HPB1.out.keep hd)
    clear k0 k1 k2 k3 k4 h0 h1 h2 hw2 hd
    obtain ⟨k0, k1, k2, k3, k4⟩ := HPB2.out
    by_cases ha : 0 ≤ a ∧ a < ps.length
    case neg =>
      have HA := Lib.hid (fun W => HOUT0.out a W ha)
      clear ha hF
      go_wp2_with fail
      refine (HA.out _).mono ?_
      rintro e w3 ⟨rfl, hB⟩
      have HB3 := Lib.hid (below_two HB2.out hB)
      have HPB3 := Lib.hid (HPB2.out.keep hB)
      clear hB k0 k1 k2 k3 k4
      obtain ⟨k0, k1, k2, k3, k4⟩ := HPB3.out
      go_wp2_with fail
      refine (HOUTT.out b _ (HP.out.keep HB3.out)).mono ?_
      rintro e w4 ⟨B4, n4, d4, x4, rfl, hB⟩
      have HB4 := Lib.hid (below_two HB3.out hB)
      have HPB4 := Lib.hid (HPB3.out.keep hB)
      clear hB k0 k1 k2 k3 k4
      obtain ⟨k0, k1, k2, k3, k4⟩ := HPB4.out
      go_wp2_with fail
      refine (HINTT.out c _ (HP.out.keep HB4.out)).mono ?_
      rintro e w5 ⟨B5, n5, d5, x5, rfl, hB⟩
      have HB5 := Lib.hid (below_two HB4.out hB)
      have HPB5 := Lib.hid (HPB4.out.keep hB)
      clear hB k0 k1 k2 k3 k4
      obtain ⟨k0, k1, k2, k3, k4⟩ := HPB5.out
      go_wp2_with fail
      refine (awake_any _).mono ?_
      rintro e w6 ⟨rfl, hB⟩
      have HB6 := Lib.hid (below_two HB5.out hB)
      clear hB
      go_wp2_with fail
      refine (awake_any _).mono ?_
      rintro e w7 ⟨rfl, hB⟩
      have HB7 := Lib.hid (below_two HB6.out hB)
      clear hB
      go_wp2_with fail
      go_ret
      exact ⟨rfl, HB7.out⟩
    obtain ⟨a, rfl⟩ : ∃ t : Nat, a = t := ⟨a.toNat, by omega⟩
    have HA := Lib.hid (fun W hP => HOUT.out a W hP hF (by omega))
    by_cases hb : 0 ≤ b ∧ b < ps.length
    case neg =>
      have HBB := Lib.hid (fun W => HOUT0.out b W hb)
      clear ha hb hF
      go_wp2_with fail
      refine (HA.out _ (HP.out.keep HB2.out)).mono ?_
      rintro e w3 ⟨B3, d3, rfl, hx, hB⟩
      have HB3 := Lib.hid (below_two HB2.out hB)
      have HPB3 := Lib.hid (HPB2.out.keep hB)
      have HXA := Lib.hid hx
      clear hx
      clear hB k0 k1 k2 k3 k4
      obtain ⟨k0, k1, k2, k3, k4⟩ := HPB3.out
      go_wp2_with fail
      refine (HBB.out _).mono ?_
      rintro e w4 ⟨rfl, hB⟩
      have HB4 := Lib.hid (below_two HB3.out hB)
      have HPB4 := Lib.hid (HPB3.out.keep hB)
      clear hB k0 k1 k2 k3 k4
      obtain ⟨k0, k1, k2, k3, k4⟩ := HPB4.out
      go_wp2_with fail
      refine (HINTT.out c _ (HP.out.keep HB4.out)).mono ?_
      rintro e w5 ⟨B5, n5, d5, x5, rfl, hB⟩
      have HB5 := Lib.hid (below_two HB4.out hB)
      have HPB5 := Lib.hid (HPB4.out.keep hB)
      clear hB k0 k1 k2 k3 k4
      obtain ⟨k0, k1, k2, k3, k4⟩ := HPB5.out
      go_wp2_with fail
      refine (awake_any _).mono ?_
      rintro e w6 ⟨rfl, hB⟩
      have HB6 := Lib.hid (below_two HB5.out hB)
      clear hB
      go_wp2_with fail
      refine (awake_any _).mono ?_
      rintro e w7 ⟨rfl, hB⟩
      have HB7 := Lib.hid (below_two HB6.out hB)
      clear hB
      go_wp2_with fail
      go_ret
      exact ⟨rfl, HB7.out⟩
    obtain ⟨b, rfl⟩ : ∃ t : Nat, b = t := ⟨b.toNat, by omega⟩
    have HBB := Lib.hid (fun W hP => HOUT.out b W hP hF (by omega))
    by_cases hc : 0 ≤ c ∧ c < ps.length
    case neg =>
      have HC := Lib.hid (fun W => HINT0.out c W hc)
      clear ha hb hc hF
      go_wp2_with fail
      refine (HA.out _ (HP.out.keep HB2.out)).mono ?_
      rintro e w3 ⟨B3, d3, rfl, hx, hB⟩
      have HB3 := Lib.hid (below_two HB2.out hB)
      have HPB3 := Lib.hid (HPB2.out.keep hB)
      have HXA := Lib.hid hx
      clear hx
      clear hB k0 k1 k2 k3 k4
      obtain ⟨k0, k1, k2, k3, k4⟩ := HPB3.out
      go_wp2_with fail
      refine (HBB.out _ (HP.out.keep HB3.out)).mono ?_
      rintro e w4 ⟨B4, d4, rfl, hx, hB⟩
      have HB4 := Lib.hid (below_two HB3.out hB)
      have HPB4 := Lib.hid (HPB3.out.keep hB)
      have HXB := Lib.hid hx
      clear hx
      clear hB k0 k1 k2 k3 k4
      obtain ⟨k0, k1, k2, k3, k4⟩ := HPB4.out
      go_wp2_with fail
      refine (HC.out _).mono ?_
      rintro e w5 ⟨rfl, hB⟩
      have HB5 := Lib.hid (below_two HB4.out hB)
      have HPB5 := Lib.hid (HPB4.out.keep hB)
      clear hB k0 k1 k2 k3 k4
      obtain ⟨k0, k1, k2, k3, k4⟩ := HPB5.out
      go_wp2_with fail
      refine (awake_any _).mono ?_
      rintro e w6 ⟨rfl, hB⟩
      have HB6 := Lib.hid (below_two HB5.out hB)
      clear hB
      go_wp2_with fail
      refine (awake_any _).mono ?_
      rintro e w7 ⟨rfl, hB⟩
      have HB7 := Lib.hid (below_two HB6.out hB)
      clear hB
      go_wp2_with fail
      go_ret
      exact ⟨rfl, HB7.out⟩
    obtain ⟨c, rfl⟩ : ∃ t : Nat, c = t := ⟨c.toNat, by omega⟩
    have HC := Lib.hid (fun W hP => HINT.out c W hP hF (by omega))
    have HAP : Hid (a < ps.length ∧ b < ps.length ∧ c < ps.length) := ⟨by omega, by omega, by omega⟩
    have i0 : (0 : Int) ≤ (a : Int) := Int.natCast_nonneg _
    have i1 : (a : Int) < (ps.length : Int) := by omega
    have i2 : (0 : Int) ≤ (b : Int) := Int.natCast_nonneg _
    have i3 : (b : Int) < (ps.length : Int) := by omega
    have i4 : (0 : Int) ≤ (c : Int) := Int.natCast_nonneg _
    have i5 : (c : Int) < (ps.length : Int) := by omega
    clear ha hb hc hF
    go_wp2_with fail
    refine (HA.out _ (HP.out.keep HB2.out)).mono ?_
    rintro e w3 ⟨B3, d3, rfl, hx, hB⟩
    have HB3 := Lib.hid (below_two HB2.out hB)
    have HPB3 := Lib.hid (HPB2.out.keep hB)
    have HXA := Lib.hid hx
    clear hx
    clear hB k0 k1 k2 k3 k4
    obtain ⟨k0, k1, k2, k3, k4⟩ := HPB3.out
    go_wp2_with fail
    refine (HBB.out _ (HP.out.keep HB3.out)).mono ?_
    rintro e w4 ⟨B4, d4, rfl, hx, hB⟩
    have HB4 := Lib.hid (below_two HB3.out hB)
    have HPB4 := Lib.hid (HPB3.out.keep hB)
    have HXB := Lib.hid hx
    have HB34 := Lib.hid hB
    clear hx
    clear hB k0 k1 k2 k3 k4
    obtain ⟨k0, k1, k2, k3, k4⟩ := HPB4.out
    go_wp2_with fail
    refine (HC.out _ (HP.out.keep HB4.out)).mono ?_
    rintro e w5 ⟨B5, d5, rfl, hx, hB⟩
    have HB5 := Lib.hid (below_two HB4.out hB)
    have HPB5 := Lib.hid (HPB4.out.keep hB)
    have HXC := Lib.hid hx
    have HB45 := Lib.hid hB
    clear hx
    clear hB k0 k1 k2 k3 k4
    obtain ⟨k0, k1, k2, k3, k4⟩ := HPB5.out
    go_wp2_with fail
    refine (awake_any _).mono ?_
    rintro e w6 ⟨rfl, hB⟩
    have HB6 := Lib.hid (below_two HB5.out hB)
    have HPB6 := Lib.hid (HPB5.out.keep hB)
    obtain ⟨ha, hb, hc⟩ := HAP.out
    have xC := Arr.keep HXC.out hB
    have b45 : Below w4.heap.size w4 w6 := below_two (show Below w4.heap.size w4 w5 from HB45.out) hB
    have xB := Arr.keep HXB.out b45
    have xA := Arr.keep HXA.out (below_two HB34.out b45)
    obtain ⟨g1, o1, rfl⟩ := Arr.head xA ha
    obtain ⟨g2, o2, rfl⟩ := Arr.head xB ha
    obtain ⟨g3, o3, rfl⟩ := Arr.head xC ha
    have r1 := Bools.cell xA ha
    have r2 := Bools.cell xB hb
    have r3 := Bools.cell xC hc
    have r4 := Bools.cell xB hc
    have r5 := Bools.cell xC hb
    have r6 := Bools.cell xA hb
    have r7 := Bools.cell xA hc
    have r8 := Bools.cell xC ha
    rw [show pathB ps.length hs a a = true from pathB_iff.2 (.refl _)] at r1
    rw [show pathB ps.length hs b b = true from pathB_iff.2 (.refl _)] at r2
    rw [show pathB ps.length hs c c = true from pathB_iff.2 (.refl _)] at r3
    obtain ⟨p1, hp1⟩ : ∃ q, q = pathB ps.length hs b c := ⟨_, rfl⟩
    obtain ⟨p2, hp2⟩ : ∃ q, q = pathB ps.length hs a b := ⟨_, rfl⟩
    obtain ⟨p3, hp3⟩ : ∃ q, q = pathB ps.length hs a c := ⟨_, rfl⟩
    have htr : p2 = true → p1 = true → p3 = true := fun h1 h2 => by
      rw [hp3]
      exact pathB_iff.2 ((pathB_iff.1 (hp2 ▸ h1)).trans (pathB_iff.1 (hp1 ▸ h2)))
    rw [← hp1] at r4 r5
    rw [← hp2] at r6
    rw [← hp3] at r7 r8
    have HTR := Lib.hid htr
    clear hp1 hp2 hp3 htr xA xB xC b45 ha hb hc hB k0 k1 k2 k3 k4
    obtain ⟨k0, k1, k2, k3, k4⟩ := HPB6.out
    cases p2
    · cases p1
      · go_wp2_with fail
        go_quiet (fail)
        go_wp2_with fail
        go_ret
        exact ⟨rfl, below_drewN HB6.out _⟩
      · go_wp2_with fail
        go_quiet (fail)
        go_wp2_with fail
        go_ret
        exact ⟨rfl, below_drewN HB6.out _⟩
    · cases p1
      · go_wp2_with fail
        go_quiet (fail)
        go_wp2_with fail
        go_ret
        exact ⟨rfl, below_drewN HB6.out _⟩
      · obtain rfl : p3 = true := HTR.out rfl rfl
        go_wp2_with fail
        go_quiet (fail)
        go_wp2_with fail
        go_ret
        exact ⟨rfl, below_drewN HB6.out _⟩
end Go.Proofs.Ytjiikhfeacgjjaa
