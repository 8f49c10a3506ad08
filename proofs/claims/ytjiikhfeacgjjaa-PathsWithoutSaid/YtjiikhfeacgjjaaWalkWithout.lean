/-
  The walk of PathsWithout.
-/
import Derived.Test.YtjiikhfeacgjjaaEqE
import Derived.Test.YtjiikhfeacgjjaaMoreB
namespace Go.Proofs.Ytjiikhfeacgjjaa
open Go.RowKit

/-- The channels near a partition, of the first k. -/
noncomputable def nrL (N : Nat) (hs : List ChanA) (t k : Nat) : List ChanA := (hs.take k).filter (nearB N hs t)
theorem nrL_zero (N : Nat) (hs : List ChanA) (t : Nat) : nrL N hs t 0 = [] := rfl
theorem nrL_succ {N : Nat} {hs : List ChanA} {t k : Nat} (h : k < hs.length) : nrL N hs t (k + 1) = nrL N hs t k ++ (if nearB N hs t (hs.getD k dC) then [hs.getD k dC] else []) := by
  unfold nrL
  rw [List.take_succ_eq_append_getElem h, List.filter_append, List.getD_eq_getElem?_getD, List.getElem?_eq_getElem h]
  simp only [Option.getD_some]
  congr 1
  by_cases e : nearB N hs t hs[k] = true
  · rw [if_pos e, List.filter_cons_of_pos e]; rfl
  · rw [if_neg e, List.filter_cons_of_neg e]; rfl
theorem nrL_yes {N : Nat} {hs : List ChanA} {t k : Nat} (h : k < hs.length) {c : ChanA} (hc : c = hs.getD k dC) (e : nearB N hs t c = true) : nrL N hs t (k + 1) = nrL N hs t k ++ [c] := by
  subst hc
  rw [nrL_succ h, if_pos e]
theorem nrL_no {N : Nat} {hs : List ChanA} {t k : Nat} (h : k < hs.length) {c : ChanA} (hc : c = hs.getD k dC) (e : nearB N hs t c = false) : nrL N hs t (k + 1) = nrL N hs t k := by
  subst hc
  rw [nrL_succ h, if_neg (by rw [e]; simp), List.append_nil]
theorem nrL_all (N : Nat) (hs : List ChanA) (t : Nat) : nrL N hs t hs.length = near N hs t := by
  unfold nrL; rw [List.take_length, near_eq]
theorem nrL_le (N : Nat) (hs : List ChanA) (t k : Nat) : (nrL N hs t k).length ≤ hs.length := by
  unfold nrL
  exact Nat.le_trans (List.length_filter_le _ _) (by rw [List.length_take]; exact Nat.min_le_right _ _)
theorem near_wf {P : PlanA} (h : WfPlan P) (t : Nat) : WfPlan (P.1, P.2.1, P.2.2.1, near P.2.2.1.length P.2.2.2.1 t, P.2.2.2.2) :=
  ⟨h.1, h.2.1, h.2.2.1, fun c hc => h.2.2.2.1 c (List.mem_filter.1 hc).1, h.2.2.2.2⟩
theorem near_le (N : Nat) (hs : List ChanA) (t : Nat) : (near N hs t).length ≤ hs.length := List.length_filter_le _ _
theorem below_alloc1' (w : World) (o : Obj) : Below w.heap.size w (w.alloc o) := (Below.refl _ _).alloc (Nat.le_refl _) _
theorem zero_at (w : World) : PlanAt w zeroP zeroL := by
  refine ⟨⟨fun _ => (none, 0), fun i hi => by simp [zeroP] at hi, fun i hi => by simp [zeroP] at hi⟩, ⟨fun _ => (none, 0), fun _ => (none, 0), fun i hi => by simp [zeroP] at hi, fun i hi => by simp [zeroP] at hi⟩, fun i hi => by simp [zeroP] at hi, fun i hi => by simp [zeroP] at hi⟩
theorem zero_same (w : World) : Calls Try.prog 25 #[planV zeroP zeroL, planV zeroP zeroL] w fun e w' => e = .returned (.bool true) ∧ Below w.heap.size w w' :=
  same_eq zeroP zeroL zeroL w (zero_at w) (zero_at w) (by simp [zeroP]) (by simp [zeroP]) (by simp [zeroP]) (by simp [zeroP]) (fun ws h => by simp [zeroP] at h) (fun q h => by simp [zeroP] at h)

set_option maxHeartbeats 8000000 in
set_option maxRecDepth 100000 in
theorem without_out (P : PlanA) (L : PlanL) (x : Int) (w : World) (hP : PlanAt w P L) (hO : POk P L) (hx : ¬ (0 ≤ x ∧ x < P.2.2.1.length)) :
    Calls Try.prog 8 #[planV P L, .int .i64 x] w fun e w' => e = .returned (.bool true) ∧ Below w.heap.size w w' := by
  have HFEW := Lib.hid (fun W hP => few_any P L W hP hO)
  have HWO := Lib.hid (fun W => without_no P L x W hO.l2 hx)
  have HRI := Lib.hid (fun W => refInto_no' P L x W hO.l2 hx)
  have HZS := Lib.hid zero_same
  have HP := Lib.hid hP
  obtain ⟨fr, cs, ps, hs, rs⟩ := P
  obtain ⟨A1, c1, A2, c2, A3, c3, A4, c4⟩ := L
  have HB0 := Lib.hid (below_alloc1' w (.cells #[.int .u16 fr, .slice A1 cs.length c1, .slice A2 ps.length c2, .slice A3 hs.length c3, .slice A4 rs.length c4] 28))
  have HPB := Lib.hid (PBn.new w fr A1 cs.length c1 A2 ps.length c2 A3 hs.length c3 A4 rs.length c4)
  simp only [planV, zeroP, zeroL, List.length_nil] at HFEW HWO HRI HZS ⊢
  clear hP hO hx
  go_enter Try.func8, Try.ntmps8
  go_wp2_with fail
  with_reducible refine (HFEW.out _ (HP.out.keep HB0.out)).mono ?_
  rintro e w1 ⟨⟨q, rfl, hb⟩, hB⟩
  have HB1 := Lib.hid (below_two HB0.out hB)
  have HPB1 := Lib.hid (HPB.out.keep hB)
  obtain ⟨k0, k1, k2, k3, k4⟩ := HPB1.out
  clear hB hb
  cases q
  · go_wp2_with fail
    with_reducible refine (awake_any _).mono ?_
    rintro e w2 ⟨rfl, hB⟩
    have HB2 := Lib.hid (below_two HB1.out hB)
    clear hB
    go_wp2_with fail
    go_ret
    exact ⟨rfl, HB2.out⟩
  go_wp2_with fail
  with_reducible refine (HWO.out _).mono ?_
  rintro e w2 ⟨rfl, hB⟩
  have hal := below_alloc1' w2 (.cells #[.int .u16 0, .slice none 0 0, .slice none 0 0, .slice none 0 0, .slice none 0 0] 28)
  have HPB3 := Lib.hid ((HPB1.out.keep hB).keep hal)
  have HB3 := Lib.hid (below_two (below_two HB1.out hB) hal)
  have HQ3 := Lib.hid (PBn.new w2 0 none 0 0 none 0 0 none 0 0 none 0 0)
  clear hB hal k0 k1 k2 k3 k4
  obtain ⟨k0, k1, k2, k3, k4⟩ := HPB3.out
  go_wp2_with fail
  with_reducible refine (HRI.out _).mono ?_
  rintro e w4 ⟨rfl, hB⟩
  have HB4 := Lib.hid (below_two HB3.out hB)
  have HQ4 := Lib.hid (HQ3.out.keep hB)
  clear hB k0 k1 k2 k3 k4
  go_wp2_with fail
  with_reducible refine (awake_any _).mono ?_
  rintro e w5 ⟨rfl, hB⟩
  have HB5 := Lib.hid (below_two HB4.out hB)
  have HQ5 := Lib.hid (HQ4.out.keep hB)
  clear hB
  go_wp2_with fail
  with_reducible refine (awake_any _).mono ?_
  rintro e w6 ⟨rfl, hB⟩
  have HB6 := Lib.hid (below_two HB5.out hB)
  have HQ6 := Lib.hid (HQ5.out.keep hB)
  obtain ⟨m0, m1, m2, m3, m4⟩ := HQ6.out
  clear hB
  go_wp2_with fail
  with_reducible refine (HZS.out _).mono ?_
  rintro e w7 ⟨rfl, hB⟩
  have HB7 := Lib.hid (below_two HB6.out hB)
  clear hB
  go_wp2_with fail
  go_ret
  exact ⟨rfl, HB7.out⟩

/-- Behind k channels: the plan that is wanted, its channels in a row of its own. -/
def WRel (fr : Int) (v1 v2 v4 : Value) (hs : List ChanA) (N t bq : Nat) (w5 : World) (i : Value) (wr : World) : Prop :=
  ∃ (k : Nat) (A6 : Option Addr) (d6 : Nat), k ≤ hs.length ∧ i = .int .i64 k ∧ Below w5.heap.size w5 wr ∧ QBox wr bq fr v1 v2 (.slice A6 (nrL N hs t k).length d6) v4 ∧ wr.ownsRow (bq + 1) 44 6 (.slice A6 (nrL N hs t k).length d6) (nrL N hs t k).length ((nrL N hs t k).flatMap chanV)

set_option maxHeartbeats 16000000 in
set_option maxRecDepth 100000 in
theorem without_in (P : PlanA) (L : PlanL) (t : Nat) (w : World) (hP : PlanAt w P L) (hO : POk P L) (ht : t < P.2.2.1.length) :
    Calls Try.prog 8 #[planV P L, .int .i64 t] w fun e w' => e = .returned (.bool true) ∧ Below w.heap.size w w' := by
  obtain ⟨i0, hi, hz0, hz1, hz2⟩ := info_parts info44
  have HI0 := Lib.hid hi
  have HZ0 := Lib.hid hz0
  have HZ1 := Lib.hid hz1
  have HZ2 := Lib.hid hz2
  clear hi hz0 hz1 hz2
  have HFEW := Lib.hid (fun W hP => few_any P L W hP hO)
  have HWO := Lib.hid (fun W hP hF => without_yes P L t W hP hO.wf hF ht)
  have HRI := Lib.hid (fun W hP => refInto_yes P L t W hP hO.wf hO.l2 hO.l3 ht)
  have HRT := Lib.hid (fun c W hc => right_any P L c W hO.l2 hc)
  have HIN := Lib.hid (fun L5 W hP => into_yes (P.1, P.2.1, P.2.2.1, near P.2.2.1.length P.2.2.2.1 t, P.2.2.2.2) L5 t W hP (near_wf hO.wf t) hO.l2 (Nat.le_trans (near_le _ _ _) hO.l3) ht)
  have HSM := Lib.hid (fun L5 L9 W hP hM => same_eq (P.1, P.2.1, P.2.2.1, near P.2.2.1.length P.2.2.2.1 t, P.2.2.2.2) L5 L9 W hP hM hO.l1 hO.l2 (Nat.le_trans (near_le _ _ _) hO.l3) hO.l4 hO.li hO.lp)
  have HPN := Lib.hid (fun i => (show pathB P.2.2.1.length P.2.2.2.1 i t = pathB P.2.2.1.length (near P.2.2.1.length P.2.2.2.1 t) i t by rw [Bool.eq_iff_iff, pathB_iff, pathB_iff]; exact (path_near hO.wf.2.2.2.1).symm))
  have HWC := Lib.hid hO.wf.2.2.2.1
  have HP := Lib.hid hP
  obtain ⟨fr, cs, ps, hs, rs⟩ := P
  obtain ⟨A1, c1, A2, c2, A3, c3, A4, c4⟩ := L
  have HB0 := Lib.hid (below_alloc1' w (.cells #[.int .u16 fr, .slice A1 cs.length c1, .slice A2 ps.length c2, .slice A3 hs.length c3, .slice A4 rs.length c4] 28))
  have HPB := Lib.hid (PBn.new w fr A1 cs.length c1 A2 ps.length c2 A3 hs.length c3 A4 rs.length c4)
  unfold WoutP BoolsP at *
  simp only [planV] at HFEW HWO HRI HRT HIN HSM HPN ⊢
  dsimp only at HWC
  clear hP hO ht
  go_enter Try.func8, Try.ntmps8
  go_wp2_with fail
  with_reducible refine (HFEW.out _ (HP.out.keep HB0.out)).mono ?_
  rintro e w1 ⟨⟨q, rfl, hb⟩, hB⟩
  have HB1 := Lib.hid (below_two HB0.out hB)
  have HPB1 := Lib.hid (HPB.out.keep hB)
  obtain ⟨k0, k1, k2, k3, k4⟩ := HPB1.out
  have HFB := Lib.hid hb
  clear hB hb
  cases q
  · go_wp2_with fail
    with_reducible refine (awake_any _).mono ?_
    rintro e w2 ⟨rfl, hB⟩
    have HB2 := Lib.hid (below_two HB1.out hB)
    clear hB
    go_wp2_with fail
    go_ret
    exact ⟨rfl, HB2.out⟩
  have hF := HFB.out rfl
  have h3 := hF.l3
  have h2 := hF.l2
  dsimp only at h3 h2
  have HF := Lib.hid hF
  clear hF
  go_wp2_with fail
  with_reducible refine (HWO.out _ (HP.out.keep HB1.out) HF.out).mono ?_
  rintro e w2 ⟨⟨B1, e1, B2, e2, B3, e3, B4, e4⟩, rfl, hat, hB⟩
  obtain ⟨nl, hnl⟩ : ∃ nl, nl = near ps.length hs t := ⟨_, rfl⟩
  rw [← hnl] at HIN HSM HPN hat ⊢
  have HNL := Lib.hid hnl
  have HAT := Lib.hid hat
  dsimp only
  have hal := below_alloc1' w2 (.cells #[.int .u16 fr, .slice B1 cs.length e1, .slice B2 ps.length e2, .slice B3 nl.length e3, .slice B4 rs.length e4] 28)
  have HPB3 := Lib.hid ((HPB1.out.keep hB).keep hal)
  have HB3 := Lib.hid (below_two (below_two HB1.out hB) hal)
  have HQ3 := Lib.hid (PBn.new w2 fr B1 cs.length e1 B2 ps.length e2 B3 nl.length e3 B4 rs.length e4)
  have HAT3 := Lib.hid (hat.keep hal)
  clear hB hal k0 k1 k2 k3 k4 hat hnl
  obtain ⟨k0, k1, k2, k3, k4⟩ := HPB3.out
  go_wp2_with fail
  with_reducible refine (HRI.out _ (HP.out.keep HB3.out)).mono ?_
  rintro e w4 ⟨D, dd, rfl, hD, hB⟩
  have HB4 := Lib.hid (below_two HB3.out hB)
  have HPB4 := Lib.hid (HPB3.out.keep hB)
  have HQ4 := Lib.hid (HQ3.out.keep hB)
  have HAT4 := Lib.hid (HAT3.out.keep hB)
  have HD4 := Lib.hid hD
  clear hB k0 k1 k2 k3 k4 hD
  go_wp2_with fail
  with_reducible refine (awake_any _).mono ?_
  rintro e w5 ⟨rfl, hB⟩
  have HB5 := Lib.hid (below_two HB4.out hB)
  have HPB5 := Lib.hid (HPB4.out.keep hB)
  have HQ5 := Lib.hid (HQ4.out.keep hB)
  have HAT5 := Lib.hid (HAT4.out.keep hB)
  have HD5 := Lib.hid (Arr.keep HD4.out hB)
  clear hB
  obtain ⟨k0, k1, k2, k3, k4⟩ := HPB5.out
  go_wp2_with fail
  have hq6 : QBox (w5.alloc (.cells #[.int .u16 fr, .slice A1 cs.length c1, .slice A2 ps.length c2, .slice none 0 0, .slice A4 rs.length c4] 28)) w5.heap.size fr (.slice A1 cs.length c1) (.slice A2 ps.length c2) (.slice none 0 0) (.slice A4 rs.length c4) := QBox.new _ _ _ _ _ _
  have HR0 : Hid (WRel fr (.slice A1 cs.length c1) (.slice A2 ps.length c2) (.slice A4 rs.length c4) hs ps.length t w5.heap.size w5 (.int .i64 0) (w5.alloc (.cells #[.int .u16 fr, .slice A1 cs.length c1, .slice A2 ps.length c2, .slice none 0 0, .slice A4 rs.length c4] 28))) :=
    ⟨0, none, 0, Nat.zero_le _, rfl, below_alloc1' _ _, hq6, World.ownsRow_nil _ _ _ _⟩
  have HBX0 := Lib.hid HB5.out
  obtain ⟨hl3, hhl⟩ : ∃ n, n = hs.length := ⟨_, rfl⟩
  clear hq6 k0 k1 k2 k3 k4
  go_loopw [10] (fun i wr => WRel fr (.slice A1 cs.length c1) (.slice A2 ps.length c2) (.slice A4 rs.length c4) hs ps.length t w5.heap.size w5 i wr) (fun i _ => hs.length - (intOf i).toNat)
  case atStart => exact HR0.out
  case round =>
    obtain ⟨k, A6, d6, hk, rfl, hB, hq, ho⟩ := hrel
    have HB := Lib.hid hB
    have HQ := Lib.hid hq
    have HO := Lib.hid ho
    have HPBr := Lib.hid (HPB5.out.keep hB)
    obtain ⟨k0, k1, k2, k3, k4⟩ := HPBr.out
    have hsz := hq.lt
    have hsz5 : w5.heap.size ≤ wr.heap.size := hB.size
    by_cases hlt : k < hs.length
    · obtain ⟨b, o, rfl⟩ := Arr.head (HP.out.chans) hlt
      obtain ⟨y, hy⟩ : ∃ y, y = hs.getD k dC := ⟨_, rfl⟩
      have hwy : WfChan y := by rw [hy]; exact HWC.out _ (getD_mem dC hlt)
      obtain ⟨m0, m1, m2, m3, m4, m5⟩ := ChansAt.cell (Arr.keep (HP.out.keep HB5.out).chans hB) hlt hy
      have HRY := Lib.hid (fun W => HRT.out y W hwy)
      have HYES := Lib.hid (fun e => nrL_yes (N := ps.length) (t := t) hlt hy e)
      have HNO := Lib.hid (fun e => nrL_no (N := ps.length) (t := t) hlt hy e)
      obtain ⟨y0, y1, y2, y3, y4, y5⟩ := y
      obtain ⟨_, ⟨b10, b11⟩, ⟨b20, b21⟩, _⟩ := hwy
      dsimp only at b10 b11 b20 b21 m0 m1 m2 m3 m4 m5
      obtain ⟨p, rfl⟩ := Int.eq_ofNat_of_zero_le b20
      have HPA := Lib.hid (HPBr.out.keep (below_alloc1' wr (.cells #[.int .u8 y0, .int .u8 y1, .int .u8 (p : Int), .int .u8 y3, .int .u8 y4, .int .u16 y5] 44)))
      have hcb := CB.new wr y0 y1 (p : Int) y3 y4 y5
      have HCB := Lib.hid hcb
      obtain ⟨n0, n1, n2, n3, n4⟩ := HPA.out
      simp only [cv] at HRY
      clear hB hq ho hy
      go_wp2_with fail
      with_reducible refine (HRY.out _).mono ?_
      rintro e w7 ⟨rfl, hB⟩
      have hBW := HB.out.trans ((below_two (below_alloc1' wr (.cells #[.int .u8 y0, .int .u8 y1, .int .u8 (p : Int), .int .u8 y3, .int .u8 y4, .int .u16 y5] 44)) hB).mono hsz5)
      have HBW := Lib.hid hBW
      have HC7 := Lib.hid (HCB.out.keep hB)
      have HP7 := Lib.hid (HPA.out.keep hB)
      have HQ7 := Lib.hid ((HQ.out.keep (below_alloc1' wr (.cells #[.int .u8 y0, .int .u8 y1, .int .u8 (p : Int), .int .u8 y3, .int .u8 y4, .int .u16 y5] 44))).keep hB)
      have HO7 := Lib.hid (own_below (own_below HO.out (below_alloc1' wr (.cells #[.int .u8 y0, .int .u8 y1, .int .u8 (p : Int), .int .u8 y3, .int .u8 y4, .int .u16 y5] 44))) hB)
      have HD7 := Lib.hid (show Bools w7 D ps.length _ from Arr.keep HD5.out hBW)
      have hs7 : w5.heap.size + 1 ≤ w7.heap.size := by have := HQ7.out.lt; omega
      have hmk := nrL_le ps.length hs t k
      obtain ⟨r, hr⟩ : ∃ r, r = btwB ps.length (y0, y1, (p : Int), y3, y4, y5) := ⟨_, rfl⟩
      rw [← hr]
      have HR := Lib.hid hr
      clear hB hBW hr n0 n1 n2 n3 n4 m0 m1 m2 m3 m4 m5 k0 k1 k2 k3 k4
      obtain ⟨k0, k1, k2, k3, k4⟩ := HP7.out
      obtain ⟨m0, m1, m2, m3, m4, m5⟩ := HC7.out
      obtain ⟨q0, q1, q2, q3, q4⟩ := HQ7.out.cells
      have qf := HQ7.out.frozen (j := 3)
      cases r
      · have hno : nearB ps.length hs t (y0, y1, (p : Int), y3, y4, y5) = false := by unfold nearB; rw [← HR.out]; rfl
        have HE := Lib.hid (HNO.out hno)
        clear hno
        go_wp2_with fail
        go_roundw
        case rel => exact ⟨k + 1, A6, d6, by omega, by go_num, HBW.out, by rw [HE.out]; exact HQ7.out, by rw [HE.out]; exact HO7.out⟩
        case measure => simp [intOf]; omega
      · have hp : p < ps.length := by
          have := HR.out.symm
          unfold btwB isB at this
          simp at this
          omega
        obtain ⟨b8, o8, rfl⟩ := Arr.head HD7.out hp
        have z0 := Bools.cell HD7.out hp
        obtain ⟨u, hu⟩ : ∃ u, u = pathB ps.length hs p t := ⟨_, rfl⟩
        have hn : nearB ps.length hs t (y0, y1, (p : Int), y3, y4, y5) = u := by unfold nearB; rw [← HR.out, hu]; simp
        rw [← hu] at z0
        have HU := Lib.hid hn
        clear hu hn
        cases u
        · have HE := Lib.hid (HNO.out HU.out)
          go_wp2_with fail
          go_roundw
          case rel => exact ⟨k + 1, A6, d6, by omega, by go_num, HBW.out, by rw [HE.out]; exact HQ7.out, by rw [HE.out]; exact HO7.out⟩
          case measure => simp [intOf]; omega
        · have HE := Lib.hid (HYES.out HU.out)
          go_wp2_with (at_builtin; (refine wpList_append_own _ rfl _ _ 25 rfl (w5.heap.size + 1) 44 i0 (.agg #[.int .u8 0, .int .u8 0, .int .u8 0, .int .u8 0, .int .u8 0, .int .u16 0]) 6 8 Try.underlying25 HI0.out HZ0.out HZ1.out HZ2.out rfl (by decide) _ (nrL ps.length hs t k).length ((nrL ps.length hs t k).flatMap chanV) rfl (HO7.out.alloc _) ⟨w7.heap.size, 0, none⟩ 1 1 (chanV (y0, y1, (p : Int), y3, y4, y5)) rfl rfl ?c1 ?c2 ?c3 ?c4 ?c5 ?_))
          case c1 => exact World.news_of_block (heap_alloc_new w7 (.cells #[.int .u8 y0, .int .u8 y1, .int .u8 (p : Int), .int .u8 y3, .int .u8 y4, .int .u16 y5] 44))
          case c2 => intro u hu; simp [chanV] at hu; rcases hu with rfl | rfl | rfl | rfl | rfl | rfl <;> rfl
          case c3 => unfold maxLen; omega
          case c4 => omega
          case c5 => simp; omega
          intro v2 w10 hown2 hgrow2 _
          obtain ⟨A9, d9, rfl⟩ := own_form hown2
          have hal := below_alloc1' w7 (.cells #[.int .u8 y0, .int .u8 y1, .int .u8 (p : Int), .int .u8 y3, .int .u8 y4, .int .u16 y5] 44)
          have hq10 := (HQ7.out.keep hal).grown hgrow2 (fun e => by have := (World.ownsRow.lt HO7.out _ e).1; omega)
          have hb10 : Below w5.heap.size w5 w10 := Below.grown (HBW.out.trans (hal.mono (by omega))) hgrow2 (by simp; omega) (fun j hj => by have := (World.ownsRow.lt HO7.out j hj).1; omega)
          obtain ⟨j0, j1, j2, j3, j4⟩ := hq10.cells
          have jf := hq10.frozen (j := 3)
          have HQ10 := Lib.hid hq10
          have HB10 := Lib.hid hb10
          have HO10 := Lib.hid hown2
          clear hown2 hgrow2 hq10 hb10 hal q0 q1 q2 q3 q4 qf
          go_wp2_with fail
          go_roundw
          case rel =>
            refine ⟨k + 1, A9, d9, by omega, by go_num, HB10.out.setCell (Nat.le_refl _) _, ?_, ?_⟩
            · rw [HE.out, List.length_append]; exact HQ10.out.set3
            · rw [HE.out, List.length_append]
              exact own_keep (by simpa using HO10.out) fun g hg => Below.heap_setCell _ _ _ _ (by have := (World.ownsRow.lt HO10.out g (by simpa using hg)).1; show g ≠ w5.heap.size; omega)
          case measure => simp [intOf]; omega
    · obtain rfl : k = hs.length := by omega
      rw [nrL_all, ← HNL.out] at hq ho
      have hpr := HP.out.keep (below_two HB5.out hB)
      have hm : PlanAt wr (fr, cs, ps, nl, rs) ⟨A1, c1, A2, c2, A6, d6, A4, c4⟩ := ⟨hpr.cores, hpr.parts, more_at' ho rfl, hpr.pairs⟩
      have HMr := Lib.hid hm
      have HATr := Lib.hid (HAT5.out.keep hB)
      have HQr := Lib.hid (HQ5.out.keep hB)
      have HQ9 := Lib.hid hq
      have HDr := Lib.hid (show Bools wr D ps.length _ from Arr.keep HD5.out hB)
      have HBr := Lib.hid (below_two HB5.out hB)
      obtain ⟨m0, m1, m2, m3, m4⟩ := HQr.out
      clear hpr hm hB hq ho
      go_wp2_with fail
      with_reducible refine (HIN.out ⟨B1, e1, B2, e2, B3, e3, B4, e4⟩ _ HATr.out).mono ?_
      rintro e w8 ⟨D2, dd2, rfl, hD, hB⟩
      have HM8 := Lib.hid (HMr.out.keep hB)
      have HAT8 := Lib.hid (HATr.out.keep hB)
      have HQ8 := Lib.hid (HQr.out.keep hB)
      have HQ98 := Lib.hid (HQ9.out.keep hB)
      have HD8 := Lib.hid (Arr.keep HDr.out hB)
      have HE8 := Lib.hid hD
      have HB8 := Lib.hid (below_two HBr.out hB)
      clear hB hD m0 m1 m2 m3 m4 k0 k1 k2 k3 k4
      obtain ⟨m0, m1, m2, m3, m4⟩ := HQ8.out
      obtain ⟨q0, q1, q2, q3, q4⟩ := HQ98.out.cells
      go_wp2_with fail
      with_reducible refine (HSM.out ⟨B1, e1, B2, e2, B3, e3, B4, e4⟩ ⟨A1, c1, A2, c2, A6, d6, A4, c4⟩ _ HAT8.out HM8.out).mono ?_
      rintro e w9 ⟨rfl, hB⟩
      have HD9 := Lib.hid (Arr.keep HD8.out hB)
      have HE9 := Lib.hid (Arr.keep HE8.out hB)
      have HB9 := Lib.hid (below_two HB8.out hB)
      clear hB m0 m1 m2 m3 m4 q0 q1 q2 q3 q4
      go_wp2_with fail
      have HS := Lib.hid (same_yes D D2 dd dd2 ps.length _ _ w9 HD9.out HE9.out h2 (fun i _ => HPN.out i))
      with_reducible refine HS.out.mono ?_
      rintro e w10 ⟨rfl, hB⟩
      have HB10 := Lib.hid (below_two HB9.out hB)
      clear hB
      go_wp2_with fail
      go_ret
      exact ⟨rfl, HB10.out⟩

theorem walk_without (P : PlanA) (L : PlanL) (x : Int) (w : World) (hP : PlanAt w P L) (hO : POk P L) :
    Calls Try.prog 8 #[planV P L, .int .i64 x] w fun e w' => e = .returned (.bool true) ∧ Below w.heap.size w w' := by
  by_cases hx : 0 ≤ x ∧ x < P.2.2.1.length
  · obtain ⟨t, rfl⟩ := Int.eq_ofNat_of_zero_le hx.1
    exact without_in P L t w hP hO (by omega)
  · exact without_out P L x w hP hO hx
end Go.Proofs.Ytjiikhfeacgjjaa
