/-
  The walk of BarrierEnds.
-/
import Derived.Test.YtcjhbmkpfclmfaaDoorGood
namespace Go.Proofs.YtcjhbmkpfclmfaaDoor
open Go.RowKit

theorem Good.ends {N A m : Nat} {R : Int} {s : Sy} (h : Good N A R s) (hA : A + 1 < m) (K : Nat) (hK : 4 * R + 1 ≤ K) : leftN (s.rounds m N K).l N = 0 ∧ Fin N A R (s.rounds m N K) := by
  obtain ⟨r, h⟩ := h
  exact rounds_all hA h K hK
set_option maxHeartbeats 8000000 in
set_option maxRecDepth 100000 in
theorem walk_ends (P : Option Addr) (L cp : Nat) (p : Nat → Int) (z y : Int) (w : World) (hG : GOk w) (hz : 0 ≤ z ∧ z < 256) (hy : 0 ≤ y ∧ y < 256) (hP : ArgN .i64 w.heap.size w P L p) (_ : L ≤ 1000000000000000) :
    Calls Tryd.prog 5 #[.int .u8 z, .int .u8 y, .slice P L cp] w fun e w' => e = .returned (.bool true) ∧ Below w.heap.size w w' := by
  obtain ⟨n, hn⟩ : ∃ n : Nat, (n : Int) = 1 + z % 8 := ⟨(1 + z % 8).toNat, by omega⟩
  have hn1 : 1 ≤ n ∧ n ≤ 8 := by omega
  obtain ⟨R, hR⟩ : ∃ R, R = y % 20 := ⟨_, rfl⟩
  have hR1 : 0 ≤ R ∧ R ≤ 19 := by omega
  obtain ⟨M, hM⟩ : ∃ M : Nat, (M : Int) = 5 * R + 1 := ⟨(5 * R + 1).toNat, by omega⟩
  have HWT := Lib.hid (fun x (hx : x = (n : Int)) => waiters_at n x R hx w hG hn1.1 hn1.2 (by omega))
  have HP := Lib.hid hP
  have HGd := Lib.hid (fun k => ((good0 (A := 0) hn1 (by omega : 0 ≤ R ∧ R ≤ 1000)).runI (m := 2) (by omega) p k).ends (m := 2) (by omega) M (by omega))
  have hm : z.tmod 8 = z % 8 := Int.tmod_eq_emod_of_nonneg (by omega)
  have hm2 : y.tmod 20 = R := by rw [hR]; exact Int.tmod_eq_emod_of_nonneg (by omega)
  have hw1 : IntKind.i64.wrap (z % 8) = z % 8 := IntWalk.i64_in _ (by omega)
  have hw2 : IntKind.i64.wrap (1 + z % 8) = n := by rw [IntWalk.i64_in _ (by omega)]; omega
  have hw3 : IntKind.i64.wrap R = R := IntWalk.i64_in _ (by omega)
  have hw4 : IntKind.i64.wrap (5 * R) = 5 * R := IntWalk.i64_in _ (by omega)
  have hw5 : IntKind.i64.wrap (5 * R + 1) = M := by rw [IntWalk.i64_in _ (by omega)]; omega
  obtain ⟨hn1a, hn1b⟩ := hn1
  obtain ⟨hR1a, hR1b⟩ := hR1
  have HM := Lib.hid hM
  clear hG hP hn hR
  go_enter Tryd.func5, Tryd.ntmps5
  go_wp2_with fail
  with_reducible refine (HWT.out _ rfl).mono ?_
  rintro e w1 ⟨m, ga, cga, rfl, hMd⟩
  have HMd0 := Lib.hid hMd
  clear hMd
  go_wp2_with fail
  with_reducible refine (awake_any _ HMd0.out.sys.gok).mono ?_
  rintro e w2 ⟨rfl, hB2⟩
  have HMd := Lib.hid (HMd0.out.keep hB2)
  have hm2 := Lib.hid HMd0.out.n2
  have hmN : Hid (m.N = n) := Lib.hid HMd0.out.N1
  clear hB2 HMd0
  go_wp2_with fail
  go_loopw [11] (fun i wr => PickRel m (sy0 n 0 R) 0 1 p L w2 i wr) (fun i _ => 300 - (intOf i).toNat)
  case atStart => exact ⟨0, Nat.zero_le _, by omega, rfl, StepS.refl HMd.out.sys (by omega)⟩
  case round =>
    obtain ⟨k2, hk1, hk2, rfl, hSt⟩ := hrel
    obtain ⟨c1, q1, q2, q3, q4⟩ := hSt
    have HC1 := Lib.hid (And.intro q1 q2)
    have HQ3 := Lib.hid q3
    have HQ4 := Lib.hid q4
    clear q1 q2 q3 q4
    by_cases hgo : k2 < L ∧ k2 < 300
    · obtain ⟨hlt, hlt2⟩ := hgo
      obtain ⟨b, o, rfl⟩ := HP.out.head hlt
      have hcell := (HP.out.keep (HMd.out.bel.trans (HQ4.out.below HMd.out.own HMd.out.bel.size))).cell hlt
      have HPk := pick_any m _ c1 (p k2) wr HQ3.out (by have := HC1.out; omega)
      obtain ⟨d, hd⟩ : ∃ d, d = ((sy0 n 0 R).runI m.n m.N p k2).err m.N (p k2) := ⟨_, rfl⟩
      obtain ⟨y, hy⟩ : ∃ y, y = p k2 := ⟨_, rfl⟩
      rw [← hd, ← hy] at HPk
      rw [← hy] at hcell
      have HY := Lib.hid hy
      have HPk := Lib.hid HPk
      clear hd hy
      go_wp2_with fail
      with_reducible refine HPk.out.mono ?_
      rintro e w4 ⟨rfl, c2, q1, q2, q3, q4⟩
      have HC2 := Lib.hid (And.intro q1 q2)
      have e2 : ((sy0 n 0 R).runI m.n m.N p k2).pickI m.n m.N y = (sy0 n 0 R).runI m.n m.N p (k2 + 1) := by rw [HY.out]; rfl
      rw [e2] at q3
      have HR3 := Lib.hid q3
      have HR4 := Lib.hid q4
      clear q1 q2 q3 q4 hcell e2
      go_wp2_with fail
      go_roundw
      case rel => exact pickRel_next hlt hlt2 HC1.out HQ4.out (c2 := c2) HC2.out HR3.out HR4.out
      case measure => simp [intOf]; omega
    · have hstop : (¬ (k2 : Int) < L) ∨ ((k2 : Int) < L ∧ ¬ (k2 : Int) < 300) := by omega
      have hend := HGd.out k2
      have HR := round_at m _ c1 M (5 * R + 1) (by rw [HM.out]) wr HQ3.out (by have := HM.out; omega) (by rw [hmN.out]; omega) (by have := HC1.out; omega) (by have := HC1.out; omega)
      have he : ((sy0 n 0 R).runI m.n m.N p k2) = ((sy0 n 0 R).runI 2 n p k2) := by rw [hm2.out, hmN.out]
      have hcnt := Sy.count_le m.n m.N ((sy0 n 0 R).runI 2 n p k2) M
      rw [he] at HR
      obtain ⟨cnt, hct⟩ : ∃ x, x = ((sy0 n 0 R).runI 2 n p k2).count m.n m.N M := ⟨_, rfl⟩
      rw [← hct] at HR hcnt
      rw [hm2.out, hmN.out] at HR
      obtain ⟨sE, hsE⟩ : ∃ s, s = ((sy0 n 0 R).runI 2 n p k2).rounds 2 n M := ⟨_, rfl⟩
      rw [← hsE] at HR hend
      have hcnt' : ¬ (cnt : Int) > 5 * R + 1 := by have := HM.out; omega
      have hcnt2 : (cnt : Int) ≤ 5 * R + 1 := by omega
      have HRr := Lib.hid HR
      have HE := Lib.hid hend
      clear HR he hct hsE hend hgo
      rcases hstop with hkx | ⟨hky, hkx⟩
      · go_wp2_with fail
        with_reducible refine HRr.out.mono ?_
        rintro e w4 ⟨rfl, c2, q1, q2, q3, q4⟩
        have HR3 := Lib.hid q3
        have HR4 := Lib.hid q4
        have hlf := left_any m sE c2 w4 q3
        rw [hmN.out, HE.out.1] at hlf
        have HLf := Lib.hid hlf
        clear q1 q2 q3 q4 hlf
        go_wp2_with fail
        with_reducible refine HLf.out.mono ?_
        rintro e w' ⟨rfl, rfl⟩
        go_wp2_with fail
        go_loop [12] (fun j => ∃ j0 : Nat, j0 ≤ n ∧ j = .int .i64 (j0 : Int)) (fun j => n - (intOf j).toNat)
        case atStart => exact ⟨0, Nat.zero_le _, rfl⟩
        case round =>
          obtain ⟨j, hj, rfl⟩ := hrel
          by_cases hlj : j < n
          · have hpt := HMd.out.at (HQ4.out.trans HR4.out) (i := j) (by rw [hmN.out]; exact hlj)
            have hTj := HR3.out.tsk j (by rw [hmN.out]; exact hlj)
            have A1 := passed_any (m.B j) w4 _ hTj
            have A2 := came_any (m.B j) w4 _ hTj
            rw [(HE.out.2.each j hlj).1] at A1
            rw [(HE.out.2.each j hlj).2] at A2
            have A1 := Lib.hid A1
            have A2 := Lib.hid A2
            have hji : (0 : Int) ≤ (j : Int) := by omega
            have hjn : (j : Int) < (n : Int) := by omega
            clear hTj
            go_wp2_with fail
            with_reducible refine A1.out.mono ?_
            rintro e w5 ⟨rfl, rfl⟩
            go_wp2_with fail
            with_reducible refine A2.out.mono ?_
            rintro e w5 ⟨rfl, rfl⟩
            go_wp2_with fail
            go_round
            case rel => exact ⟨j + 1, by omega, by go_num⟩
            case measure => simp [intOf]; omega
          · obtain rfl : j = n := by omega
            go_wp2_with fail
            go_ret
            exact ⟨rfl, HMd.out.bel.trans ((HQ4.out.trans HR4.out).below HMd.out.own HMd.out.bel.size)⟩
      · go_wp2_with fail
        with_reducible refine HRr.out.mono ?_
        rintro e w4 ⟨rfl, c2, q1, q2, q3, q4⟩
        have HR3 := Lib.hid q3
        have HR4 := Lib.hid q4
        have hlf := left_any m sE c2 w4 q3
        rw [hmN.out, HE.out.1] at hlf
        have HLf := Lib.hid hlf
        clear q1 q2 q3 q4 hlf
        go_wp2_with fail
        with_reducible refine HLf.out.mono ?_
        rintro e w' ⟨rfl, rfl⟩
        go_wp2_with fail
        go_loop [12] (fun j => ∃ j0 : Nat, j0 ≤ n ∧ j = .int .i64 (j0 : Int)) (fun j => n - (intOf j).toNat)
        case atStart => exact ⟨0, Nat.zero_le _, rfl⟩
        case round =>
          obtain ⟨j, hj, rfl⟩ := hrel
          by_cases hlj : j < n
          · have hpt := HMd.out.at (HQ4.out.trans HR4.out) (i := j) (by rw [hmN.out]; exact hlj)
            have hTj := HR3.out.tsk j (by rw [hmN.out]; exact hlj)
            have A1 := passed_any (m.B j) w4 _ hTj
            have A2 := came_any (m.B j) w4 _ hTj
            rw [(HE.out.2.each j hlj).1] at A1
            rw [(HE.out.2.each j hlj).2] at A2
            have A1 := Lib.hid A1
            have A2 := Lib.hid A2
            have hji : (0 : Int) ≤ (j : Int) := by omega
            have hjn : (j : Int) < (n : Int) := by omega
            clear hTj
            go_wp2_with fail
            with_reducible refine A1.out.mono ?_
            rintro e w5 ⟨rfl, rfl⟩
            go_wp2_with fail
            with_reducible refine A2.out.mono ?_
            rintro e w5 ⟨rfl, rfl⟩
            go_wp2_with fail
            go_round
            case rel => exact ⟨j + 1, by omega, by go_num⟩
            case measure => simp [intOf]; omega
          · obtain rfl : j = n := by omega
            go_wp2_with fail
            go_ret
            exact ⟨rfl, HMd.out.bel.trans ((HQ4.out.trans HR4.out).below HMd.out.own HMd.out.bel.size)⟩
end Go.Proofs.YtcjhbmkpfclmfaaDoor
