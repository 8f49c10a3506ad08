/-
  The walk of PathsQueue.
-/
import Derived.Test.YtjiikhfeacgjjaaMoreA
namespace Go.Proofs.Ytjiikhfeacgjjaa
open Go.RowKit

theorem queue_links {N : Nat} {hs : List ChanA} {f t : Nat} (hf : f < N) (ht : t < N) : lnkB N (hs ++ [(0, (f : Int), (t : Int), 0, 0, 0)]) f t = true ∧ lnkB N (hs ++ [(0, (f : Int), (t : Int), 0, 0, 0)]) t f = true := by
  unfold lnkB
  rw [List.any_append, List.any_append]
  have h : btwB N (0, (f : Int), (t : Int), 0, 0, 0) = true := by
    unfold btwB isB
    simp only [Bool.and_eq_true, decide_eq_true_eq]
    omega
  constructor <;> (simp [lnk1, h])
theorem queue_into {N : Nat} {hs : List ChanA} {f t : Nat} (hf : f < N) (ht : t < N) (i : Nat) : pathB N (hs ++ [(0, (f : Int), (t : Int), 0, 0, 0)]) i f = pathB N (hs ++ [(0, (f : Int), (t : Int), 0, 0, 0)]) i t := by
  obtain ⟨h1, h2⟩ := queue_links (hs := hs) hf ht
  rw [Bool.eq_iff_iff, pathB_iff, pathB_iff]
  exact ⟨fun h => h.trans (.one h1), fun h => h.trans (.one h2)⟩
theorem queue_out {N : Nat} {hs : List ChanA} {f t : Nat} (hf : f < N) (ht : t < N) (i : Nat) : pathB N (hs ++ [(0, (f : Int), (t : Int), 0, 0, 0)]) f i = pathB N (hs ++ [(0, (f : Int), (t : Int), 0, 0, 0)]) t i := by
  obtain ⟨h1, h2⟩ := queue_links (hs := hs) hf ht
  rw [Bool.eq_iff_iff, pathB_iff, pathB_iff]
  exact ⟨fun h => .step h2 h, fun h => .step h1 h⟩

set_option maxHeartbeats 8000000 in
set_option maxRecDepth 100000 in
theorem walk_queue (P : PlanA) (L : PlanL) (x y : Int) (w : World) (hP : PlanAt w P L) (hO : POk P L) (hnil : L.a3 = none → L.c3 = 0) (hx : 0 ≤ x ∧ x ≤ 255) (hy : 0 ≤ y ∧ y ≤ 255) : Calls Try.prog 9 #[planV P L, .int .u8 x, .int .u8 y] w fun e w' => e = .returned (.bool true) ∧ Below w.heap.size w w' := by
  obtain ⟨i0, hi, hz0, hz1, hz2⟩ := info_parts info44
  have HI0 := Lib.hid hi
  have HZ0 := Lib.hid hz0
  have HZ1 := Lib.hid hz1
  have HZ2 := Lib.hid hz2
  clear hi hz0 hz1 hz2
  obtain ⟨f, rfl⟩ : ∃ f : Nat, x = f := ⟨x.toNat, by omega⟩
  obtain ⟨t, rfl⟩ : ∃ f : Nat, y = f := ⟨y.toNat, by omega⟩
  obtain ⟨hx0, hx1⟩ := hx
  obtain ⟨hy0, hy1⟩ := hy
  have hwc : WfChan (0, (f : Int), (t : Int), 0, 0, 0) := wfC (by unfold byte; omega) ⟨hx0, hx1⟩ ⟨hy0, hy1⟩
  have HFEW := Lib.hid (fun W hP => few_any P L W hP hO)
  have HINY := Lib.hid (fun A d z W hP l3 hz => into_yes (P.1, P.2.1, P.2.2.1, P.2.2.2.1 ++ [(0, (f : Int), (t : Int), 0, 0, 0)], P.2.2.2.2) ⟨L.a1, L.c1, L.a2, L.c2, A, d, L.a4, L.c4⟩ z W hP (more_wf hO.wf hwc) hO.l2 l3 hz)
  have HOUY := Lib.hid (fun A d z W hP l3 hz => out_yes (P.1, P.2.1, P.2.2.1, P.2.2.2.1 ++ [(0, (f : Int), (t : Int), 0, 0, 0)], P.2.2.2.2) ⟨L.a1, L.c1, L.a2, L.c2, A, d, L.a4, L.c4⟩ z W hP (more_wf hO.wf hwc) hO.l2 l3 hz)
  have HINN := Lib.hid (fun A d z W hz => into_no (P.1, P.2.1, P.2.2.1, P.2.2.2.1 ++ [(0, (f : Int), (t : Int), 0, 0, 0)], P.2.2.2.2) ⟨L.a1, L.c1, L.a2, L.c2, A, d, L.a4, L.c4⟩ z W hO.l2 hz)
  have HOUN := Lib.hid (fun A d z W hz => out_no (P.1, P.2.1, P.2.2.1, P.2.2.2.1 ++ [(0, (f : Int), (t : Int), 0, 0, 0)], P.2.2.2.2) ⟨L.a1, L.c1, L.a2, L.c2, A, d, L.a4, L.c4⟩ z W hO.l2 hz)
  have HMO := Lib.hid (fun bq A6 d6 base w1 w9 w10 row hP => more_of (P := P) (L := L) (c := (0, (f : Int), (t : Int), 0, 0, 0)) (bq := bq) (d6 := d6) (base := base) (A6 := A6) (w1 := w1) (w9 := w9) (w10 := w10) (row := row) hP)
  have HP := Lib.hid hP
  have hl2 := hO.l2
  have HNIL := Lib.hid hnil
  obtain ⟨fr, cs, ps, hs, rs⟩ := P
  obtain ⟨A1, c1, A2, c2, A3, c3, A4, c4⟩ := L
  have HB0 : Hid (Below w.heap.size w (w.alloc (.cells #[.int .u16 fr, .slice A1 cs.length c1, .slice A2 ps.length c2, .slice A3 hs.length c3, .slice A4 rs.length c4] 28))) := (Below.refl _ _).alloc (Nat.le_refl _) _
  have HPB := Lib.hid (PBn.new w fr A1 cs.length c1 A2 ps.length c2 A3 hs.length c3 A4 rs.length c4)
  simp only [planV, List.length_append, List.length_cons, List.length_nil, Nat.zero_add] at HFEW HINY HOUY HINN HOUN ⊢
  dsimp only at HMO HNIL
  clear hP hO hwc hnil
  go_enter Try.func9, Try.ntmps9
  go_wp2_with fail
  with_reducible refine (HFEW.out _ (HP.out.keep HB0.out)).mono ?_
  rintro e w1 ⟨⟨q, rfl, hb⟩, hB⟩
  obtain ⟨k0, k1, k2, k3, k4⟩ := HPB.out.keep hB
  have HB1 := Lib.hid (below_two HB0.out hB)
  have HPB1 := Lib.hid (HPB.out.keep hB)
  have HFB := Lib.hid hb
  clear hB hb
  cases q
  · go_wp2_with fail
    with_reducible refine (awake_any _).mono ?_
    rintro e w2 ⟨rfl, hB⟩
    have HB2 := Lib.hid (below_two HB1.out hB)
    clear hB
    go_wp2_with fail
    go_ret
    exact ⟨rfl, HB2.out⟩
  have hF := HFB.out rfl
  have h3 := hF.l3
  have h2 := hF.l2
  dsimp only at h3 h2
  clear hF
  have hP1 := HP.out.keep HB1.out
  obtain ⟨W3, hW3⟩ : ∃ W3, W3 = (w1.alloc (.cells #[.int .u16 fr, .slice A1 cs.length c1, .slice A2 ps.length c2, .slice A3 hs.length c3, .slice A4 rs.length c4] 28)).alloc (.cells #[] 44) := ⟨_, rfl⟩
  have hsa : (w1.alloc (.cells #[.int .u16 fr, .slice A1 cs.length c1, .slice A2 ps.length c2, .slice A3 hs.length c3, .slice A4 rs.length c4] 28)).heap.size = w1.heap.size + 1 := by simp
  have hb3 : Below w1.heap.size w1 W3 := by rw [hW3]; exact ((Below.refl _ _).alloc (Nat.le_refl _) _).alloc (by simp) _
  have hs3 : W3.heap.size = w1.heap.size + 1 + 1 := by rw [hW3]; simp
  have hq3 : QBox W3 w1.heap.size fr (.slice A1 cs.length c1) (.slice A2 ps.length c2) (.slice A3 hs.length c3) (.slice A4 rs.length c4) := by rw [hW3]; exact (QBox.new w1 _ _ _ _ _).keep ((Below.refl _ _).alloc (Nat.le_refl _) _)
  have ho3 : W3.ownsRow (w1.heap.size + 1) 44 6 (.slice (some ⟨w1.heap.size + 1, 0, none⟩) 0 0) 0 [] := by
    rw [hW3, ← hsa]
    exact World.ownsRow_lit _ #[] 0 (Nat.le_refl _) (by decide) rfl
  have hz : W3.cell? ⟨w.heap.size, 3, none⟩ = some (.slice A3 hs.length c3) := kept k3 hb3
  obtain ⟨z0, z1, z2, z3, z4⟩ := HPB1.out.keep ((Below.refl _ _).alloc (Nat.le_refl _) (.cells #[.int .u16 fr, .slice A1 cs.length c1, .slice A2 ps.length c2, .slice A3 hs.length c3, .slice A4 rs.length c4] 28))
  have HCH3 := Lib.hid (hP1.keep hb3).chans
  have HW3 := Lib.hid hW3
  have HB3 := Lib.hid hb3
  have HS3 := Lib.hid hs3
  have HQ3 := Lib.hid hq3
  have HO3 := Lib.hid ho3
  have HP1 := Lib.hid hP1
  rw [hW3] at hz
  clear hW3 hb3 hs3 hq3 ho3 hsa hP1
  go_wp2_with (at_builtin; (refine wpList_append_chans rfl _ _ rfl (w1.heap.size + 1) _ rfl (by rw [← HW3.out]; exact HO3.out) A3 c3 hs.length hs rfl rfl (by rw [← HW3.out]; exact HCH3.out) HNIL.out h3 (by rw [← HW3.out, HS3.out]; omega) ?_))
  intro v1 w9 hown1 hgrow1
  rw [← HW3.out] at hgrow1
  have hs3 := HS3.out
  have hq9 := HQ3.out.grown hgrow1 (fun e => by simp [Value.ownBlock] at e <;> omega)
  have hb9 : Below w1.heap.size w1 w9 := HB3.out.grown hgrow1 HB3.out.size (fun k hk => by have : k = w1.heap.size + 1 := by simpa [Value.ownBlock] using hk.symm
                                                                                           omega)
  obtain ⟨A5, d5, rfl⟩ := own_form hown1
  have hs9 := hgrow1.size
  have hs9' : w1.heap.size + 1 + 1 ≤ w9.heap.size := by omega
  have hvb := World.ownsRow.lt hown1
  have HO9 := Lib.hid hown1
  have HQ9 := Lib.hid hq9
  have HB9 := Lib.hid hb9
  have HVB := Lib.hid hvb
  obtain ⟨q0, q1, q2, q3, q4⟩ := hq9.cells
  have qf := hq9.frozen (j := 3)
  clear hown1 hgrow1 hs3 hq9 hb9 hs9 hvb hz z0 z1 z2 z3 z4 k0 k1 k2 k3 k4
  go_wp2_with (at_builtin; (refine wpList_append_own _ rfl _ _ 25 rfl (w1.heap.size + 1) 44 i0 (.agg #[.int .u8 0, .int .u8 0, .int .u8 0, .int .u8 0, .int .u8 0, .int .u16 0]) 6 8 Try.underlying25 HI0.out HZ0.out HZ1.out HZ2.out rfl (by decide) _ hs.length (hs.flatMap chanV) rfl (HO9.out.alloc _) ⟨w9.heap.size, 0, none⟩ 1 1 (chanV (0, (f : Int), (t : Int), 0, 0, 0)) rfl rfl ?c1 ?c2 ?c3 ?c4 ?c5 ?_))
  case c1 => exact World.news_of_block (heap_alloc_new w9 (.cells #[.int .u8 0, .int .u8 f, .int .u8 t, .int .u8 0, .int .u8 0, .int .u16 0] 44))
  case c2 => intro u hu; simp [chanV] at hu; rcases hu with rfl | rfl | rfl | rfl | rfl | rfl <;> rfl
  case c3 => unfold maxLen; omega
  case c4 => omega
  case c5 => simp; omega
  intro v2 w10 hown2 hgrow2 _
  obtain ⟨A6, d6, rfl⟩ := own_form hown2
  have hal : Below w9.heap.size w9 (w9.alloc (.cells #[.int .u8 0, .int .u8 f, .int .u8 t, .int .u8 0, .int .u8 0, .int .u16 0] 44)) := (Below.refl _ _).alloc (Nat.le_refl _) _
  have hq10 := (HQ9.out.keep hal).grown hgrow2 (fun e => by have := (HVB.out _ e).1; omega)
  have hmo := HMO.out w1.heap.size A6 d6 (w1.heap.size + 1) w1 _ w10 _ HP1.out (Nat.le_refl _) (Nat.lt_succ_self _) (below_two HB9.out hal) (HQ9.out.keep hal) hgrow2 (fun k hk => (HVB.out k hk).1) (by simpa using hown2)
  obtain ⟨W11, hW11⟩ : ∃ W11, W11 = w10.setCell ⟨w1.heap.size, 3, none⟩ (.slice A6 (hs.length + 1) d6) := ⟨_, rfl⟩
  obtain ⟨j0, j1, j2, j3, j4⟩ := hq10.cells
  have jf := hq10.frozen (j := 3)
  obtain ⟨t0, t1, t2, t3, t4⟩ := hmo.box.cells
  rw [← hW11] at hmo
  have HB11 := Lib.hid (below_two HB1.out hmo.bel)
  have HPB11 := Lib.hid (HPB1.out.keep hmo.bel)
  have HQ11 := Lib.hid hmo.box
  have HAT11 := Lib.hid hmo.at'
  have HW11 := Lib.hid hW11
  have h3' : hs.length + 1 ≤ 140737488355328 := by omega
  dsimp only at HQ11 HAT11 t0 t1 t2 t3 t4
  clear hown2 hgrow2 hal hq10 hmo hW11 q0 q1 q2 q3 q4 qf
  by_cases hf : f < ps.length
  · by_cases ht : t < ps.length
    · have HIF := Lib.hid (fun W hP => HINY.out A6 d6 f W hP h3' hf)
      have HIT := Lib.hid (fun W hP => HINY.out A6 d6 t W hP h3' ht)
      have HOF := Lib.hid (fun W hP => HOUY.out A6 d6 f W hP h3' hf)
      have HOT := Lib.hid (fun W hP => HOUY.out A6 d6 t W hP h3' ht)
      have r1 : (f : Int) < (ps.length : Int) := by omega
      have r2 : (t : Int) < (ps.length : Int) := by omega
      have HQI := Lib.hid (fun i => queue_into (hs := hs) hf ht i)
      have HQO := Lib.hid (fun i => queue_out (hs := hs) hf ht i)
      clear hf ht
      go_wp2_with fail
      rw [← HW11.out]
      with_reducible refine (HIF.out _ HAT11.out).mono ?_
      rintro e w12 ⟨B0, e0, rfl, hx, hB⟩
      have X0 := Lib.hid hx
      have HB := Lib.hid (below_two HB11.out hB)
      have HPBx := Lib.hid (HPB11.out.keep hB)
      have HQ := Lib.hid (HQ11.out.keep hB)
      have HAT := Lib.hid (HAT11.out.keep hB)
      clear hB hx t0 t1 t2 t3 t4 j0 j1 j2 j3 j4 jf
      obtain ⟨t0, t1, t2, t3, t4⟩ := HQ.out.cells
      go_wp2_with fail
      with_reducible refine (HIT.out _ HAT.out).mono ?_
      rintro e w13 ⟨B1, e1, rfl, hx, hB⟩
      have X0 := Lib.hid (Arr.keep X0.out hB)
      have X1 := Lib.hid hx
      have HB := Lib.hid (below_two HB.out hB)
      have HPBx := Lib.hid (HPBx.out.keep hB)
      have HQ := Lib.hid (HQ.out.keep hB)
      have HAT := Lib.hid (HAT.out.keep hB)
      clear hB hx t0 t1 t2 t3 t4
      obtain ⟨t0, t1, t2, t3, t4⟩ := HQ.out.cells
      go_wp2_with fail
      with_reducible refine (HOF.out _ HAT.out).mono ?_
      rintro e w14 ⟨B2, e2, rfl, hx, hB⟩
      have X0 := Lib.hid (Arr.keep X0.out hB)
      have X1 := Lib.hid (Arr.keep X1.out hB)
      have X2 := Lib.hid hx
      have HB := Lib.hid (below_two HB.out hB)
      have HPBx := Lib.hid (HPBx.out.keep hB)
      have HQ := Lib.hid (HQ.out.keep hB)
      have HAT := Lib.hid (HAT.out.keep hB)
      clear hB hx t0 t1 t2 t3 t4
      obtain ⟨t0, t1, t2, t3, t4⟩ := HQ.out.cells
      go_wp2_with fail
      with_reducible refine (HOT.out _ HAT.out).mono ?_
      rintro e w15 ⟨B3, e3, rfl, hx, hB⟩
      have X0 := Lib.hid (Arr.keep X0.out hB)
      have X1 := Lib.hid (Arr.keep X1.out hB)
      have X2 := Lib.hid (Arr.keep X2.out hB)
      have X3 := Lib.hid hx
      have HB := Lib.hid (below_two HB.out hB)
      have HPBx := Lib.hid (HPBx.out.keep hB)
      have HQ := Lib.hid (HQ.out.keep hB)
      have HAT := Lib.hid (HAT.out.keep hB)
      clear hB hx t0 t1 t2 t3 t4
      obtain ⟨t0, t1, t2, t3, t4⟩ := HQ.out.cells
      clear t0 t1 t2 t3 t4
      go_wp2_with fail
      with_reducible refine (awake_any _).mono ?_
      rintro e w16 ⟨rfl, hB⟩
      have HB := Lib.hid (below_two HB.out hB)
      obtain ⟨k0, k1, k2, k3, k4⟩ := HPBx.out.keep hB
      have X0 := Lib.hid (Arr.keep X0.out hB)
      have X1 := Lib.hid (Arr.keep X1.out hB)
      have X2 := Lib.hid (Arr.keep X2.out hB)
      have X3 := Lib.hid (Arr.keep X3.out hB)
      clear hB
      go_wp2_with fail
      have HS := Lib.hid (same_yes B0 B1 e0 e1 ps.length _ _ w16 X0.out X1.out h2 (fun i _ => HQI.out i))
      with_reducible refine HS.out.mono ?_
      rintro e w17 ⟨rfl, hB⟩
      have HB := Lib.hid (below_two HB.out hB)
      have X2 := Lib.hid (Arr.keep X2.out hB)
      have X3 := Lib.hid (Arr.keep X3.out hB)
      clear hB
      go_wp2_with fail
      replace HS := Lib.hid (same_yes B2 B3 e2 e3 ps.length _ _ w17 X2.out X3.out h2 (fun i _ => HQO.out i))
      with_reducible refine HS.out.mono ?_
      rintro e w18 ⟨rfl, hB⟩
      have HB := Lib.hid (below_two HB.out hB)
      clear hB
      go_wp2_with fail
      go_ret
      exact ⟨rfl, HB.out⟩
    · replace ht : ¬ (0 ≤ (t : Int) ∧ (t : Int) < (ps.length : Int)) := by omega
      have HIF := Lib.hid (fun W hP => HINY.out A6 d6 f W hP h3' hf)
      have HIT := Lib.hid (fun W => HINN.out A6 d6 t W ht)
      have HOF := Lib.hid (fun W hP => HOUY.out A6 d6 f W hP h3' hf)
      have HOT := Lib.hid (fun W => HOUN.out A6 d6 t W ht)
      have r1 : (f : Int) < (ps.length : Int) := by omega
      have r2 : (ps.length : Int) ≤ (t : Int) := by omega
      clear hf ht
      go_wp2_with fail
      rw [← HW11.out]
      with_reducible refine (HIF.out _ HAT11.out).mono ?_
      rintro e w12 ⟨B0, e0, rfl, hx, hB⟩
      have X0 := Lib.hid hx
      have HB := Lib.hid (below_two HB11.out hB)
      have HPBx := Lib.hid (HPB11.out.keep hB)
      have HQ := Lib.hid (HQ11.out.keep hB)
      have HAT := Lib.hid (HAT11.out.keep hB)
      clear hB hx t0 t1 t2 t3 t4 j0 j1 j2 j3 j4 jf
      obtain ⟨t0, t1, t2, t3, t4⟩ := HQ.out.cells
      go_wp2_with fail
      with_reducible refine (HIT.out _).mono ?_
      rintro e w13 ⟨rfl, hB⟩
      have X0 := Lib.hid (Arr.keep X0.out hB)
      have HB := Lib.hid (below_two HB.out hB)
      have HPBx := Lib.hid (HPBx.out.keep hB)
      have HQ := Lib.hid (HQ.out.keep hB)
      have HAT := Lib.hid (HAT.out.keep hB)
      clear hB t0 t1 t2 t3 t4
      obtain ⟨t0, t1, t2, t3, t4⟩ := HQ.out.cells
      go_wp2_with fail
      with_reducible refine (HOF.out _ HAT.out).mono ?_
      rintro e w14 ⟨B2, e2, rfl, hx, hB⟩
      have X0 := Lib.hid (Arr.keep X0.out hB)
      have X2 := Lib.hid hx
      have HB := Lib.hid (below_two HB.out hB)
      have HPBx := Lib.hid (HPBx.out.keep hB)
      have HQ := Lib.hid (HQ.out.keep hB)
      have HAT := Lib.hid (HAT.out.keep hB)
      clear hB hx t0 t1 t2 t3 t4
      obtain ⟨t0, t1, t2, t3, t4⟩ := HQ.out.cells
      go_wp2_with fail
      with_reducible refine (HOT.out _).mono ?_
      rintro e w15 ⟨rfl, hB⟩
      have X0 := Lib.hid (Arr.keep X0.out hB)
      have X2 := Lib.hid (Arr.keep X2.out hB)
      have HB := Lib.hid (below_two HB.out hB)
      have HPBx := Lib.hid (HPBx.out.keep hB)
      have HQ := Lib.hid (HQ.out.keep hB)
      have HAT := Lib.hid (HAT.out.keep hB)
      clear hB t0 t1 t2 t3 t4
      obtain ⟨t0, t1, t2, t3, t4⟩ := HQ.out.cells
      clear t0 t1 t2 t3 t4
      go_wp2_with fail
      with_reducible refine (awake_any _).mono ?_
      rintro e w16 ⟨rfl, hB⟩
      have HB := Lib.hid (below_two HB.out hB)
      obtain ⟨k0, k1, k2, k3, k4⟩ := HPBx.out.keep hB
      have X0 := Lib.hid (Arr.keep X0.out hB)
      have X2 := Lib.hid (Arr.keep X2.out hB)
      clear hB
      go_wp2_with fail
      go_ret
      exact ⟨rfl, HB.out⟩
  · by_cases ht : t < ps.length
    · replace hf : ¬ (0 ≤ (f : Int) ∧ (f : Int) < (ps.length : Int)) := by omega
      have HIF := Lib.hid (fun W => HINN.out A6 d6 f W hf)
      have HIT := Lib.hid (fun W hP => HINY.out A6 d6 t W hP h3' ht)
      have HOF := Lib.hid (fun W => HOUN.out A6 d6 f W hf)
      have HOT := Lib.hid (fun W hP => HOUY.out A6 d6 t W hP h3' ht)
      have r1 : (ps.length : Int) ≤ (f : Int) := by omega
      have r2 : (t : Int) < (ps.length : Int) := by omega
      clear hf ht
      go_wp2_with fail
      rw [← HW11.out]
      with_reducible refine (HIF.out _).mono ?_
      rintro e w12 ⟨rfl, hB⟩
      have HB := Lib.hid (below_two HB11.out hB)
      have HPBx := Lib.hid (HPB11.out.keep hB)
      have HQ := Lib.hid (HQ11.out.keep hB)
      have HAT := Lib.hid (HAT11.out.keep hB)
      clear hB t0 t1 t2 t3 t4 j0 j1 j2 j3 j4 jf
      obtain ⟨t0, t1, t2, t3, t4⟩ := HQ.out.cells
      go_wp2_with fail
      with_reducible refine (HIT.out _ HAT.out).mono ?_
      rintro e w13 ⟨B1, e1, rfl, hx, hB⟩
      have X1 := Lib.hid hx
      have HB := Lib.hid (below_two HB.out hB)
      have HPBx := Lib.hid (HPBx.out.keep hB)
      have HQ := Lib.hid (HQ.out.keep hB)
      have HAT := Lib.hid (HAT.out.keep hB)
      clear hB hx t0 t1 t2 t3 t4
      obtain ⟨t0, t1, t2, t3, t4⟩ := HQ.out.cells
      go_wp2_with fail
      with_reducible refine (HOF.out _).mono ?_
      rintro e w14 ⟨rfl, hB⟩
      have X1 := Lib.hid (Arr.keep X1.out hB)
      have HB := Lib.hid (below_two HB.out hB)
      have HPBx := Lib.hid (HPBx.out.keep hB)
      have HQ := Lib.hid (HQ.out.keep hB)
      have HAT := Lib.hid (HAT.out.keep hB)
      clear hB t0 t1 t2 t3 t4
      obtain ⟨t0, t1, t2, t3, t4⟩ := HQ.out.cells
      go_wp2_with fail
      with_reducible refine (HOT.out _ HAT.out).mono ?_
      rintro e w15 ⟨B3, e3, rfl, hx, hB⟩
      have X1 := Lib.hid (Arr.keep X1.out hB)
      have X3 := Lib.hid hx
      have HB := Lib.hid (below_two HB.out hB)
      have HPBx := Lib.hid (HPBx.out.keep hB)
      have HQ := Lib.hid (HQ.out.keep hB)
      have HAT := Lib.hid (HAT.out.keep hB)
      clear hB hx t0 t1 t2 t3 t4
      obtain ⟨t0, t1, t2, t3, t4⟩ := HQ.out.cells
      clear t0 t1 t2 t3 t4
      go_wp2_with fail
      with_reducible refine (awake_any _).mono ?_
      rintro e w16 ⟨rfl, hB⟩
      have HB := Lib.hid (below_two HB.out hB)
      obtain ⟨k0, k1, k2, k3, k4⟩ := HPBx.out.keep hB
      have X1 := Lib.hid (Arr.keep X1.out hB)
      have X3 := Lib.hid (Arr.keep X3.out hB)
      clear hB
      go_wp2_with fail
      go_ret
      exact ⟨rfl, HB.out⟩
    · replace hf : ¬ (0 ≤ (f : Int) ∧ (f : Int) < (ps.length : Int)) := by omega
      replace ht : ¬ (0 ≤ (t : Int) ∧ (t : Int) < (ps.length : Int)) := by omega
      have HIF := Lib.hid (fun W => HINN.out A6 d6 f W hf)
      have HIT := Lib.hid (fun W => HINN.out A6 d6 t W ht)
      have HOF := Lib.hid (fun W => HOUN.out A6 d6 f W hf)
      have HOT := Lib.hid (fun W => HOUN.out A6 d6 t W ht)
      have r1 : (ps.length : Int) ≤ (f : Int) := by omega
      have r2 : (ps.length : Int) ≤ (t : Int) := by omega
      clear hf ht
      go_wp2_with fail
      rw [← HW11.out]
      with_reducible refine (HIF.out _).mono ?_
      rintro e w12 ⟨rfl, hB⟩
      have HB := Lib.hid (below_two HB11.out hB)
      have HPBx := Lib.hid (HPB11.out.keep hB)
      have HQ := Lib.hid (HQ11.out.keep hB)
      have HAT := Lib.hid (HAT11.out.keep hB)
      clear hB t0 t1 t2 t3 t4 j0 j1 j2 j3 j4 jf
      obtain ⟨t0, t1, t2, t3, t4⟩ := HQ.out.cells
      go_wp2_with fail
      with_reducible refine (HIT.out _).mono ?_
      rintro e w13 ⟨rfl, hB⟩
      have HB := Lib.hid (below_two HB.out hB)
      have HPBx := Lib.hid (HPBx.out.keep hB)
      have HQ := Lib.hid (HQ.out.keep hB)
      have HAT := Lib.hid (HAT.out.keep hB)
      clear hB t0 t1 t2 t3 t4
      obtain ⟨t0, t1, t2, t3, t4⟩ := HQ.out.cells
      go_wp2_with fail
      with_reducible refine (HOF.out _).mono ?_
      rintro e w14 ⟨rfl, hB⟩
      have HB := Lib.hid (below_two HB.out hB)
      have HPBx := Lib.hid (HPBx.out.keep hB)
      have HQ := Lib.hid (HQ.out.keep hB)
      have HAT := Lib.hid (HAT.out.keep hB)
      clear hB t0 t1 t2 t3 t4
      obtain ⟨t0, t1, t2, t3, t4⟩ := HQ.out.cells
      go_wp2_with fail
      with_reducible refine (HOT.out _).mono ?_
      rintro e w15 ⟨rfl, hB⟩
      have HB := Lib.hid (below_two HB.out hB)
      have HPBx := Lib.hid (HPBx.out.keep hB)
      have HQ := Lib.hid (HQ.out.keep hB)
      have HAT := Lib.hid (HAT.out.keep hB)
      clear hB t0 t1 t2 t3 t4
      obtain ⟨t0, t1, t2, t3, t4⟩ := HQ.out.cells
      clear t0 t1 t2 t3 t4
      go_wp2_with fail
      with_reducible refine (awake_any _).mono ?_
      rintro e w16 ⟨rfl, hB⟩
      have HB := Lib.hid (below_two HB.out hB)
      obtain ⟨k0, k1, k2, k3, k4⟩ := HPBx.out.keep hB
      clear hB
      go_wp2_with fail
      go_ret
      exact ⟨rfl, HB.out⟩
end Go.Proofs.Ytjiikhfeacgjjaa
