/-
  The walk of StepsRuns.
-/
import Derived.Test.YtdhanenbcjmfkaaDoorRunsA
namespace Go.Proofs.YtdhanenbcjmfkaaDoor
open Go.RowKit

set_option maxHeartbeats 8000000 in
set_option maxRecDepth 100000 in
theorem walk_runs (A P : Option Addr) (ca L cp : Nat) (l : List KindA) (q : Nat → Int) (most : Int) (w : World) (hG : GOk w) (hA : KindsAt w A l) (hwf : ∀ y ∈ l, WfKind y) (hP : ArgN .i64 w.heap.size w P L q) (hn : l.length ≤ 1000000000000000) (hL : L ≤ 1000000000000000) (hnil : P = none → cp = 0) (hm : 0 ≤ most ∧ most < 256) :
    Calls Tryd.prog 4 #[.slice A l.length ca, .slice P L cp, .int .u8 most] w fun e w' => e = .returned (.bool true) ∧ Below w.heap.size w w' := by
  have HG := Lib.hid hG
  have HA := Lib.hid hA
  have HWF := Lib.hid hwf
  have HP := Lib.hid hP
  obtain ⟨hm0, hm1⟩ := hm
  obtain ⟨n, hnn⟩ : ∃ n, n = l.length := ⟨_, rfl⟩
  rw [← hnn] at hn ⊢
  have HN := Lib.hid hnn
  clear hG hA hwf hP hnn
  by_cases h6 : 6 < n
  · have h6i : (6 : Int) < (n : Int) := by omega
    go_enter Tryd.func4, Tryd.ntmps4
    go_wp2_with fail
    with_reducible refine (awake_any _ HG.out).mono ?_
    rintro e w1 ⟨rfl, hB1⟩
    have HB1 := Lib.hid hB1
    clear hB1
    go_wp2_with fail
    go_ret
    exact ⟨rfl, HB1.out⟩
  by_cases hL2 : 200 < L
  · have h6i : ¬ (6 : Int) < (n : Int) := by omega
    have hLi : (200 : Int) < (L : Int) := by omega
    go_enter Tryd.func4, Tryd.ntmps4
    go_wp2_with fail
    with_reducible refine (awake_any _ HG.out).mono ?_
    rintro e w1 ⟨rfl, hB1⟩
    have HB1 := Lib.hid hB1
    clear hB1
    go_wp2_with fail
    go_ret
    exact ⟨rfl, HB1.out⟩
  have h6i : ¬ (6 : Int) < (n : Int) := by omega
  have hLi : ¬ (200 : Int) < (L : Int) := by omega
  have h6' : n ≤ 6 := by omega
  have hL' : L ≤ 200 := by omega
  clear h6 hL2
  go_enter Tryd.func4, Tryd.ntmps4
  go_wp2_with fail
  with_reducible refine (new_one 2 (by omega) (by omega) 2 rfl _).mono ?_
  rintro e w1 ⟨g1, b1, rfl, hM1, hg1, hb1, hB1⟩
  have HM1 := Lib.hid hM1
  have HI1 := Lib.hid (And.intro hg1 hb1)
  have HB1 := Lib.hid hB1
  clear hM1 hg1 hb1 hB1
  go_wp2_with fail
  with_reducible refine (new_one 2 (by omega) (by omega) 2 rfl _).mono ?_
  rintro e w2 ⟨g2, b2, rfl, hM2, hg2, hb2, hB2⟩
  have HM2 := Lib.hid hM2
  have HI2 := Lib.hid (And.intro hg2 hb2)
  have HB2 := Lib.hid hB2
  clear hM2 hg2 hb2 hB2
  go_wp2_with fail
  with_reducible refine (awake_any _ ((HG.out.keep HB1.out).keep HB2.out)).mono ?_
  rintro e w3 ⟨rfl, hB3⟩
  have HB3 := Lib.hid hB3
  clear hB3
  have HB03 := Lib.hid ((HB1.out.trans (HB2.out.mono HB1.out.size)).trans (HB3.out.mono (by have := HB1.out.size; have := HB2.out.size; omega)))
  go_wp2_with fail
  go_loopw [11, 12, 13] (fun ta tb i wr => RunsRel l n w3 ta tb i wr) (fun _ _ i _ => n - (intOf i).toNat)
  case atStart => exact ⟨0, _, _, _, _, _, _, Nat.zero_le _, rfl, rfl, rfl, tks2_nil w3 _ _⟩
  case round =>
    obtain ⟨k, ga, cpa, gb, cpb, Ba, Bb, hk, rfl, rfl, rfl, hTk⟩ := hrel
    have HTk := Lib.hid hTk
    clear hTk
    by_cases hlt : k < n
    · have hkl : k < l.length := by rw [← HN.out]; exact hlt
      obtain ⟨b, o, rfl⟩ := HA.out.head hkl
      have hAr := Arr.keep HA.out (HB03.out.trans (HTk.out.a.bel.mono HB03.out.size))
      obtain ⟨⟨y0, y1, y2⟩, hy⟩ : ∃ y, y = l.getD k dK := ⟨_, rfl⟩
      have hw := HWF.out _ (getD_mem dK hkl)
      rw [← hy] at hw
      have HYW := Lib.hid hw.1
      have z0 := hAr.at (j := 0) hkl rfl
      have z1 := hAr.at (j := 1) hkl rfl
      have z2 := hAr.at (j := 2) hkl rfl
      simp only [← hy, Nat.add_zero] at z0 z1 z2
      have HTT : Hid (tkL l k = tk0 (kindT y0) y1 (capT y2) ∧ kL l k = kindT y0) := Lib.hid (by unfold tkL kL; rw [← hy]; exact ⟨rfl, rfl⟩)
      have hk0 : (0 : Int) ≤ (k : Int) := by omega
      have hk1 : (k : Int) < (n : Int) := by omega
      clear hw hy hAr hkl
      go_wp2_with fail
      with_reducible refine (task_any y0 y1 y2 _ HYW.out).mono ?_
      rintro e w4 ⟨B1, he, hb1, hT1, hBn1⟩
      simp only [dV, tk0] at he
      subst he
      have HTK1 := Lib.hid (And.intro hb1 hT1)
      have HBT1 := Lib.hid (below_any hBn1 hBn1.size ((Below.refl w4.heap.size w4).alloc (Nat.le_refl _) (.cells #[.int .i64 (kindT y0), .int .i64 y1, .int .i64 (capT y2), .bool false, .int .u32 0, .bool false] 35)))
      clear hb1 hT1 hBn1
      have z0' := kept z0 HBT1.out
      have z1' := kept z1 HBT1.out
      have z2' := kept z2 HBT1.out
      clear z0 z1 z2
      go_wp2_with fail
      with_reducible refine (task_any y0 y1 y2 _ HYW.out).mono ?_
      rintro e w5 ⟨B2, he, hb2, hT2, hBn2⟩
      simp only [dV, tk0] at he
      subst he
      have HTK2 := Lib.hid (And.intro hb2 hT2)
      have HBT2 := Lib.hid (below_any hBn2 hBn2.size ((Below.refl w5.heap.size w5).alloc (Nat.le_refl _) (.cells #[.int .i64 (kindT y0), .int .i64 y1, .int .i64 (capT y2), .bool false, .int .u32 0, .bool false] 35)))
      clear hb2 hT2 hBn2 z0' z1' z2'
      have HB5 := Lib.hid (HBT1.out.trans (HBT2.out.mono HBT1.out.size))
      go_wp2_with (at_builtin; refine wpList_append_one rfl _ _ rfl (tv (kindT y0) B1) rfl (ownsRow_same HTk.out.a.row (HB5.out.block _ HTk.out.a.glt)) (by have := HB5.out.size; have := HTk.out.a.bel.size; omega) (by have := HB5.out.size; have := HTk.out.a.glt; omega) (by omega) (by rfl) (w5.heap.size + 1) (by simp) (by rfl) ?_)
      intro ga' ca' w6 hr6 hC6 hg6 hl6
      have HR6 := Lib.hid hr6
      have HC6 := Lib.hid hC6
      have HG6 := Lib.hid (And.intro hg6 hl6)
      clear hr6 hC6 hg6 hl6
      go_wp2_with (at_builtin; refine wpList_append_one rfl _ _ rfl (tv (kindT y0) B2) rfl (ownsRow_same (ownsRow_same HTk.out.b.row (HB5.out.block _ HTk.out.b.glt)) (HC6.out.block _ (by have := HB5.out.size; have := HTk.out.b.glt; omega) (fun e => HTk.out.ne e.symm))) (by have := HB5.out.size; have := HTk.out.a.bel.size; have := HC6.out.size; omega) (by have := HB5.out.size; have := HTk.out.b.glt; have := HC6.out.size; omega) (by omega) (by rfl) w6.heap.size rfl (by rfl) ?_)
      intro gb' cb' w7 hr7 hC7 hg7 hl7
      have hN2 := tks2_next HTk.out (by rw [HTT.out.1, HTT.out.2]; rfl) HBT1.out HTK1.out.1 (by rw [HTT.out.1]; exact HTK1.out.2.keep ((Below.refl _ _).alloc (Nat.le_refl _) _)) HBT2.out HTK2.out.1 (by rw [HTT.out.1]; exact HTK2.out.2.keep ((Below.refl _ _).alloc (Nat.le_refl _) _)) (by rw [HTT.out.2]; exact HR6.out) HC6.out (by have := HG6.out.1; simpa using this) HG6.out.2 (by rw [HTT.out.2]; exact hr7) hC7 hg7 hl7
      have HN2 := Lib.hid hN2
      clear hr7 hC7 hg7 hl7 hN2
      go_wp2_with fail
      go_roundw
      case rel => exact ⟨k + 1, ga', ca', gb', cb', _, _, by omega, by go_num, rfl, rfl, HN2.out⟩
      case measure => simp [intOf]; omega
    · obtain rfl : k = n := by omega
      have HM := Lib.hid (fun (W : World) (h : Below wr.heap.size wr W) => HTk.out.b.keep h)
      go_wp2_with fail
      with_reducible refine (new_mach g1 _ k cpa _ _ HTk.out.a.vals (fun _ _ => rfl) (by omega)).mono ?_
      rintro e4 w4 hNA
      obtain ⟨X1, _, _, _, _, rfl, _⟩ := id hNA
      have HNA := Lib.hid hNA
      have hBA := newM_below hNA
      have HBA := Lib.hid hBA
      clear hNA hBA
      go_wp2_with fail
      with_reducible refine (new_mach g2 _ k cpb _ _ (HM.out _ HBA.out).vals (fun _ _ => rfl) (by omega)).mono ?_
      rintro e5 w5 hNB
      obtain ⟨m1, m2, he1, he2, rfl, rfl, hnn, hTw⟩ := tks2_two (W := w) HTk.out (by omega) (by omega) ((HG.out.keep HB03.out).keep HTk.out.a.bel) (six_of HG.out) (((HM1.out.keep HB2.out).keep HB3.out).keep HTk.out.a.bel) ((HM2.out.keep HB3.out).keep HTk.out.a.bel) (HB03.out.trans (HTk.out.a.bel.mono HB03.out.size))
        (by have := HI1.out; have := HI2.out; have := HM1.out.ltg; have := HM1.out.row.lt; have := HB1.out.size; omega) (by have := HM1.out.ltg; have := HM1.out.row.lt; have := HM2.out.ltg; have := HM2.out.row.lt; have := HB2.out.size; have := HB3.out.size; omega) HB03.out.size HNA.out hNB
      subst he2
      injection he1 with he1
      injection he1 with he1
      injection he1 with he1
      injection he1 with he1
      subst he1
      have HTW := Lib.hid hTw
      have HNN : Hid (Num2 m1 m2 2 k) := Lib.hid ⟨hnn.1, hnn.2.1, hnn.2.2.1, hnn.2.2.2⟩
      clear hNB hTw hnn HM HNA HBA HM1 HM2 HI1 HI2
      go_wp2_with fail
      go_loopw [20, 21] (fun c i wr => RunsRel2 w m1 m2 l k q L c i wr) (fun _ i _ => L - (intOf i).toNat)
      case atStart => exact ⟨0, 0, Nat.zero_le _, rfl, rfl, HTW.out, by omega⟩
      case round =>
        obtain ⟨k2, c, hk2, rfl, rfl, hTw, hc⟩ := hrel
        have HT2 := Lib.hid hTw
        have HC2 := Lib.hid hc
        clear hTw hc
        by_cases hlt2 : k2 < L
        · have hPw := HP.out.keep HT2.out.bel
          obtain ⟨bq, oq, rfl⟩ := hPw.head hlt2
          have hcell := hPw.cell hlt2
          obtain ⟨y, hy⟩ : ∃ y, y = q k2 := ⟨_, rfl⟩
          rw [← hy] at hcell
          have HY := Lib.hid hy
          clear hy hPw
          have hpk := two_pick2 y HT2.out HNN.out (by have := HC2.out; omega)
          have hle := Sy.cntI_le 2 k (sysL l) q k2
          have hL1 : (sysL l).cntI 2 k q (k2 + 1) = (sysL l).cntI 2 k q k2 + if ((sysL l).runI 2 k q k2).err k (q k2) = 0 then 1 else 0 := rfl
          rw [← HY.out] at hL1
          obtain ⟨x, hx⟩ : ∃ x, x = (sysL l).cntI 2 k q k2 := ⟨_, rfl⟩
          obtain ⟨d, hd⟩ : ∃ d, d = ((sysL l).runI 2 k q k2).err k y := ⟨_, rfl⟩
          rw [← hx] at hL1 hle ⊢
          rw [← hd] at hpk hL1
          have HPk := Lib.hid hpk
          by_cases e0 : d = 0
          · subst e0
            have HL := Lib.hid hL1
            clear hL1 hx hd hpk
            go_wp2_with fail
            with_reducible refine HPk.out.mono ?_
            rintro e w6 ⟨rfl, c', q1, q2, hT⟩
            have HQ := Lib.hid (And.intro q1 q2)
            have HT6 := Lib.hid hT
            clear q1 q2 hT
            go_wp2_with fail
            go_roundw
            case rel => exact runsRel2_next hlt2 (by rw [← HY.out]; exact HT6.out) HQ.out.1 HQ.out.2 HC2.out (Eq.refl w6) (by rw [HL.out]; first | rfl | simp)
            case measure => simp [intOf]; omega
          · have HL := Lib.hid hL1
            clear hL1 hx hd hpk
            go_wp2_with fail
            with_reducible refine HPk.out.mono ?_
            rintro e w6 ⟨rfl, c', q1, q2, hT⟩
            have HQ := Lib.hid (And.intro q1 q2)
            have HT6 := Lib.hid hT
            clear q1 q2 hT
            go_wp2_with fail
            go_roundw
            case rel => exact runsRel2_next hlt2 (by rw [← HY.out]; exact HT6.out) HQ.out.1 HQ.out.2 HC2.out (Eq.refl w6) (by rw [HL.out, if_neg e0]; rfl)
            case measure => simp [intOf]; omega
        · obtain rfl : k2 = L := by omega
          have HAr := Lib.hid (HP.out.keep HT2.out.bel)
          have hcn := Sy.cntI_le 2 k (sysL l) q k2
          obtain ⟨x, hx⟩ : ∃ x, x = (sysL l).cntI 2 k q k2 := ⟨_, rfl⟩
          rw [← hx] at hcn ⊢
          have HX := Lib.hid hx
          clear hx
          go_wp2_with (at_builtin; refine wpList_append_picks (S := m1.own) rfl _ _ rfl HAr.out hnil (by omega) HT2.out.a.own_lt (by rfl) (by rfl) ?_)
          intro A3 cp3 w6 hI6 hB6
          have HI6 := Lib.hid hI6
          have HT6 := Lib.hid (HT2.out.keep hB6)
          clear hI6 hB6
          have hrn := two_run1 A3 k2 cp3 q HT6.out HNN.out HI6.out (by omega) (by omega) (by omega)
          rw [← HX.out] at hrn
          have HRn := Lib.hid hrn
          clear hrn
          go_wp2_with fail
          with_reducible refine HRn.out.mono ?_
          rintro e w7 ⟨rfl, d1, p1, p2, hT⟩
          have HD1 := Lib.hid (And.intro p1 p2)
          have HT7 := Lib.hid hT
          clear p1 p2 hT
          go_wp2_with fail
          with_reducible refine (two_words1 HT7.out HNN.out (by omega)).mono ?_
          rintro e w8 ⟨da, rfl, hO8, hT8⟩
          have HO8 := Lib.hid hO8
          have HT8 := Lib.hid hT8
          clear hO8 hT8
          go_wp2_with fail
          with_reducible refine (two_words2 HT8.out HNN.out (by omega)).mono ?_
          rintro e w9 ⟨db, rfl, hO9, hT9, hB9⟩
          have HU8 := Lib.hid ((Us.of_row HO8.out).keep hB9)
          have HU9 := Lib.hid (Us.of_row hO9)
          have HT9 := Lib.hid hT9
          clear hO9 hT9 hB9
          go_wp2_with fail
          with_reducible refine (same_yes _ _ 2 2 2 _ _ HU8.out HU9.out (by omega)).mono ?_
          rintro e w10 ⟨rfl, hB10⟩
          have HT10 := Lib.hid (HT9.out.keep hB10)
          clear hB10 HU8 HU9 HO8 HT9 HT8 HT7 HT6
          go_wp2_with fail
          generalize hss : (sysL l).runI 2 k q k2 = s at *
          clear hss
          obtain ⟨M, rfl⟩ : ∃ M : Nat, most = M := ⟨most.toNat, by omega⟩
          go_loopw [22] (fun i wr => RunsRel3 w m1 m2 s k M d1 i wr) (fun i _ => M - (intOf i).toNat)
          case atStart => exact ⟨0, c, Nat.zero_le _, rfl, rfl, HT10.out, by have := HC2.out; omega⟩
          case round =>
            obtain ⟨r, c3, hr, rfl, hcr, hT3, hc3⟩ := hrel
            have HCR := Lib.hid hcr
            have HT3 := Lib.hid hT3
            have hrN : (r : Int) * k ≤ 1800 := by
              have : (r : Int) * k ≤ ((300 * 6 : Nat) : Int) := by exact_mod_cast Nat.mul_le_mul (show r ≤ 300 by omega) h6'
              omega
            have HC3 : Hid (0 ≤ c3 ∧ c3 ≤ 2000) := Lib.hid (by omega)
            have HC3' := Lib.hid hc3
            clear hcr hT3 hc3 hrN
            have hlf := two_left2 HT3.out HNN.out
            obtain ⟨y, hy⟩ : ∃ y, y = leftN (s.rounds 2 k r).l k := ⟨_, rfl⟩
            rw [← hy] at hlf
            have HLf := Lib.hid hlf
            have HY := Lib.hid hy
            clear hlf hy
            by_cases hgo : r < M ∧ y ≠ 0
            · obtain ⟨hrM, hy0⟩ := hgo
              have hy1 : 0 < y := by omega
              have hyd : decide (0 < y) = true := decide_eq_true hy1
              have hrM' : (r : Int) < (M : Int) := by omega
              go_wp2_with fail
              with_reducible refine HLf.out.mono ?_
              rintro e w' ⟨rfl, rfl⟩
              go_wp2_with fail
              go_loopw [23] (fun i wr2 => RunsRel4 w m1 m2 s (s.rounds 2 k r) k d1 c3 i wr2) (fun i _ => k - (intOf i).toNat)
              case atStart => exact ⟨0, c3, Nat.zero_le _, rfl, HT3.out, by omega⟩
              case round =>
                obtain ⟨j, c4, hj, rfl, hT4, hc4⟩ := hrel
                have HT4 := Lib.hid hT4
                have HC4 := Lib.hid hc4
                clear hT4 hc4
                by_cases hjk : j < k
                · have hpk := two_pick2 (j : Int) HT4.out HNN.out (by have := HC3.out; have := HC4.out; omega)
                  rw [pickI_nat hjk] at hpk
                  obtain ⟨d, hd⟩ : ∃ d, d = ((s.rounds 2 k r).upTo 2 j).err k (j : Int) := ⟨_, rfl⟩
                  rw [← hd] at hpk
                  have HPk := Lib.hid hpk
                  clear hpk hd
                  go_wp2_with fail
                  with_reducible refine HPk.out.mono ?_
                  rintro e w11 ⟨rfl, c5, p1, p2, hT⟩
                  have HP5 := Lib.hid (And.intro p1 p2)
                  have HT5 := Lib.hid hT
                  clear p1 p2 hT
                  go_wp2_with fail
                  go_roundw
                  case rel => exact ⟨j + 1, c5, by omega, by go_num, HT5.out, by have := HP5.out; have := HC4.out; omega⟩
                  case measure => simp [intOf]; omega
                · obtain rfl : j = k := by omega
                  go_wp2_with fail
                  go_roundw
                  case rel => exact runsRel3_next hrM HCR.out (by rw [← HY.out]; exact hy0) HT4.out HC4.out.1 HC4.out.2 HC3'.out
                  case measure => simp [intOf]; omega
            · have HE := Lib.hid (runs_end hr HCR.out (by rcases Nat.lt_or_ge r M with h | h
                                                          · exact .inr (by rw [← HY.out]; omega)
                                                          · exact .inl (by omega)))
              obtain ⟨e1, e2⟩ := HE.out
              have HE1 := Lib.hid e1
              have HE2 := Lib.hid e2
              clear e1 e2
              have hrd := two_round1 M HT3.out HNN.out (by omega) (by omega) (by have := HD1.out; omega) (by have := HD1.out; omega)
              rw [HE1.out, HE2.out] at hrd
              have HRd := Lib.hid hrd
              clear hrd
              obtain ⟨s3, hs3⟩ : ∃ s3, s3 = s.rounds 2 k r := ⟨_, rfl⟩
              rw [← hs3] at HRd HT3 HY
              clear hs3 HE1 HE2 HE
              have hgo2 : ¬ (r < M) ∨ y = 0 := by omega
              rcases hgo2 with hgo2 | hgo2
              · obtain rfl : r = M := by omega
                clear hgo hgo2
                go_wp2_with fail
                with_reducible refine HRd.out.mono ?_
                rintro e w11 ⟨rfl, c5, p1, hT⟩
                have HT5 := Lib.hid hT
                have HL1 := Lib.hid (two_left1 hT HNN.out)
                have HL2 := Lib.hid (two_left2 hT HNN.out)
                clear p1 hT
                go_wp2_with fail
                with_reducible refine HL1.out.mono ?_
                rintro e w' ⟨rfl, rfl⟩
                go_wp2_with fail
                with_reducible refine HL2.out.mono ?_
                rintro e w' ⟨rfl, rfl⟩
                go_wp2_with fail
                with_reducible refine (two_words1 HT5.out HNN.out (by omega)).mono ?_
                rintro e w12 ⟨dc, rfl, hO8, hT8⟩
                have HO8 := Lib.hid hO8
                have HT8 := Lib.hid hT8
                clear hO8 hT8
                go_wp2_with fail
                with_reducible refine (two_words2 HT8.out HNN.out (by omega)).mono ?_
                rintro e w13 ⟨dd, rfl, hO9, hT9, hB9⟩
                have HU8 := Lib.hid ((Us.of_row HO8.out).keep hB9)
                have HU9 := Lib.hid (Us.of_row hO9)
                have HT9 := Lib.hid hT9
                clear hO9 hT9 hB9
                go_wp2_with fail
                with_reducible refine (same_yes _ _ 2 2 2 _ _ HU8.out HU9.out (by omega)).mono ?_
                rintro e w14 ⟨rfl, hB14⟩
                have HT14 := Lib.hid (HT9.out.keep hB14)
                clear hB14 HU8 HU9 HO8
                go_wp2_with fail
                with_reducible refine (round_neg m1.X _).mono ?_
                rintro e w' ⟨rfl, rfl⟩
                go_wp2_with fail
                go_ret
                exact ⟨rfl, HT14.out.bel⟩
              · have hy1 : ¬ 0 < y := by omega
                have hyd : decide (0 < y) = false := decide_eq_false hy1
                clear hgo hgo2
                by_cases hrM : r < M
                · have hrM' : (r : Int) < (M : Int) := by omega
                  go_wp2_with fail
                  with_reducible refine HLf.out.mono ?_
                  rintro e w' ⟨rfl, rfl⟩
                  go_wp2_with fail
                  with_reducible refine HRd.out.mono ?_
                  rintro e w11 ⟨rfl, c5, p1, hT⟩
                  have HT5 := Lib.hid hT
                  have HL1 := Lib.hid (two_left1 hT HNN.out)
                  have HL2 := Lib.hid (two_left2 hT HNN.out)
                  clear p1 hT
                  go_wp2_with fail
                  with_reducible refine HL1.out.mono ?_
                  rintro e w' ⟨rfl, rfl⟩
                  go_wp2_with fail
                  with_reducible refine HL2.out.mono ?_
                  rintro e w' ⟨rfl, rfl⟩
                  go_wp2_with fail
                  with_reducible refine (two_words1 HT5.out HNN.out (by omega)).mono ?_
                  rintro e w12 ⟨dc, rfl, hO8, hT8⟩
                  have HO8 := Lib.hid hO8
                  have HT8 := Lib.hid hT8
                  clear hO8 hT8
                  go_wp2_with fail
                  with_reducible refine (two_words2 HT8.out HNN.out (by omega)).mono ?_
                  rintro e w13 ⟨dd, rfl, hO9, hT9, hB9⟩
                  have HU8 := Lib.hid ((Us.of_row HO8.out).keep hB9)
                  have HU9 := Lib.hid (Us.of_row hO9)
                  have HT9 := Lib.hid hT9
                  clear hO9 hT9 hB9
                  go_wp2_with fail
                  with_reducible refine (same_yes _ _ 2 2 2 _ _ HU8.out HU9.out (by omega)).mono ?_
                  rintro e w14 ⟨rfl, hB14⟩
                  have HT14 := Lib.hid (HT9.out.keep hB14)
                  clear hB14 HU8 HU9 HO8
                  go_wp2_with fail
                  with_reducible refine (round_neg m1.X _).mono ?_
                  rintro e w' ⟨rfl, rfl⟩
                  go_wp2_with fail
                  go_ret
                  exact ⟨rfl, HT14.out.bel⟩
                · obtain rfl : r = M := by omega
                  go_wp2_with fail
                  with_reducible refine HRd.out.mono ?_
                  rintro e w11 ⟨rfl, c5, p1, hT⟩
                  have HT5 := Lib.hid hT
                  have HL1 := Lib.hid (two_left1 hT HNN.out)
                  have HL2 := Lib.hid (two_left2 hT HNN.out)
                  clear p1 hT
                  go_wp2_with fail
                  with_reducible refine HL1.out.mono ?_
                  rintro e w' ⟨rfl, rfl⟩
                  go_wp2_with fail
                  with_reducible refine HL2.out.mono ?_
                  rintro e w' ⟨rfl, rfl⟩
                  go_wp2_with fail
                  with_reducible refine (two_words1 HT5.out HNN.out (by omega)).mono ?_
                  rintro e w12 ⟨dc, rfl, hO8, hT8⟩
                  have HO8 := Lib.hid hO8
                  have HT8 := Lib.hid hT8
                  clear hO8 hT8
                  go_wp2_with fail
                  with_reducible refine (two_words2 HT8.out HNN.out (by omega)).mono ?_
                  rintro e w13 ⟨dd, rfl, hO9, hT9, hB9⟩
                  have HU8 := Lib.hid ((Us.of_row HO8.out).keep hB9)
                  have HU9 := Lib.hid (Us.of_row hO9)
                  have HT9 := Lib.hid hT9
                  clear hO9 hT9 hB9
                  go_wp2_with fail
                  with_reducible refine (same_yes _ _ 2 2 2 _ _ HU8.out HU9.out (by omega)).mono ?_
                  rintro e w14 ⟨rfl, hB14⟩
                  have HT14 := Lib.hid (HT9.out.keep hB14)
                  clear hB14 HU8 HU9 HO8
                  go_wp2_with fail
                  with_reducible refine (round_neg m1.X _).mono ?_
                  rintro e w' ⟨rfl, rfl⟩
                  go_wp2_with fail
                  go_ret
                  exact ⟨rfl, HT14.out.bel⟩
end Go.Proofs.YtdhanenbcjmfkaaDoor
