/-
  The walk of BarrierTogether.
-/
import Derived.Test.YtcjhbmkpfclmfaaDoorGood
namespace Go.Proofs.YtcjhbmkpfclmfaaDoor
open Go.RowKit

set_option maxHeartbeats 8000000 in
set_option maxRecDepth 100000 in
theorem walk_together (P : Option Addr) (L cp : Nat) (p : Nat → Int) (z R : Int) (w : World) (hG : GOk w) (hz : 0 ≤ z ∧ z < 256) (hR : 0 ≤ R ∧ R < 256) (hP : ArgN .i64 w.heap.size w P L p) (_ : L ≤ 1000000000000000) :
    Calls Tryd.prog 4 #[.int .u8 z, .int .u8 R, .slice P L cp] w fun e w' => e = .returned (.bool true) ∧ Below w.heap.size w w' := by
  obtain ⟨n, hn⟩ : ∃ n : Nat, (n : Int) = 1 + z % 8 := ⟨(1 + z % 8).toNat, by omega⟩
  have hn1 : 1 ≤ n ∧ n ≤ 8 := by omega
  have HWT := Lib.hid (fun x (hx : x = (n : Int)) => waiters_at n x R hx w hG hn1.1 hn1.2 (by omega))
  have HP := Lib.hid hP
  have HG0 := Lib.hid hG
  have HGd := Lib.hid (fun k => (good0 (A := 0) hn1 (by omega : 0 ≤ R ∧ R ≤ 1000)).runI (m := 2) (by omega) p k)
  have hm : z.tmod 8 = z % 8 := Int.tmod_eq_emod_of_nonneg (by omega)
  have hw1 : IntKind.i64.wrap (z % 8) = z % 8 := IntWalk.i64_in _ (by omega)
  have hw2 : IntKind.i64.wrap (1 + z % 8) = n := by rw [IntWalk.i64_in _ (by omega)]; omega
  obtain ⟨hn1a, hn1b⟩ := hn1
  have HN := Lib.hid hn
  clear hG hP hn
  go_enter Tryd.func4, Tryd.ntmps4
  go_wp2_with fail
  with_reducible refine (HWT.out _ rfl).mono ?_
  rintro e w1 ⟨m, ga, cga, rfl, hMd⟩
  have HMd0 := Lib.hid hMd
  clear hMd
  go_wp2_with fail
  with_reducible refine (awake_any _ HMd0.out.sys.gok).mono ?_
  rintro e w2 ⟨rfl, hB2⟩
  have HMd := Lib.hid (HMd0.out.keep hB2)
  have hm2 := Lib.hid HMd0.out.n2
  have hmN : Hid (m.N = n) := Lib.hid HMd0.out.N1
  clear hB2 HMd0
  go_wp2_with fail
  go_loopw [10] (fun i wr => PickRel m (sy0 n 0 R) 0 1 p L w2 i wr) (fun i _ => 300 - (intOf i).toNat)
  case atStart => exact ⟨0, Nat.zero_le _, by omega, rfl, StepS.refl HMd.out.sys (by omega)⟩
  case round =>
    obtain ⟨k2, hk1, hk2, rfl, hSt⟩ := hrel
    obtain ⟨c1, q1, q2, q3, q4⟩ := hSt
    have HC1 := Lib.hid (And.intro q1 q2)
    have HQ3 := Lib.hid q3
    have HQ4 := Lib.hid q4
    clear q1 q2 q3 q4
    by_cases hlt : k2 < L
    · by_cases hlt2 : k2 < 300
      · obtain ⟨b, o, rfl⟩ := HP.out.head hlt
        have hcell := (HP.out.keep (HMd.out.bel.trans (HQ4.out.below HMd.out.own HMd.out.bel.size))).cell hlt
        have HPk := pick_any m _ c1 (p k2) wr HQ3.out (by have := HC1.out; omega)
        obtain ⟨d, hd⟩ : ∃ d, d = ((sy0 n 0 R).runI m.n m.N p k2).err m.N (p k2) := ⟨_, rfl⟩
        obtain ⟨y, hy⟩ : ∃ y, y = p k2 := ⟨_, rfl⟩
        rw [← hd, ← hy] at HPk
        rw [← hy] at hcell
        have HY := Lib.hid hy
        have HPk := Lib.hid HPk
        clear hd hy
        go_wp2_with fail
        with_reducible refine HPk.out.mono ?_
        rintro e w4 ⟨rfl, c2, q1, q2, q3, q4⟩
        have HC2 := Lib.hid (And.intro q1 q2)
        have e2 : ((sy0 n 0 R).runI m.n m.N p k2).pickI m.n m.N y = (sy0 n 0 R).runI 2 n p (k2 + 1) := by rw [HY.out, hm2.out, hmN.out]; rfl
        rw [e2] at q3
        obtain ⟨r, hI⟩ := HGd.out (k2 + 1)
        obtain ⟨s, hs⟩ : ∃ s, s = (sy0 n 0 R).runI 2 n p (k2 + 1) := ⟨_, rfl⟩
        rw [← hs] at q3 hI
        have HT := Lib.hid hI.told
        have HSs := Lib.hid hs
        have HR3 := Lib.hid q3
        have HR4 := Lib.hid q4
        have HOut := Lib.hid (HQ4.out.trans HR4.out)
        have hr0 : 0 ≤ r ∧ r ≤ 1000 := by have := hI.r0; omega
        obtain ⟨hr1, hr2⟩ := hr0
        have hT0 := HR3.out.tsk 0 (by rw [hmN.out]; omega)
        have hpt0 := HMd.out.at (HQ4.out.trans HR4.out) (i := 0) (by rw [hmN.out]; omega)
        have A1 := fun n => quiet_mine (came_any (m.B 0) _ (s.l 0) (hT0.drewN n))
        have A2 := fun n => quiet_mine (passed_any (m.B 0) _ (s.l 0) (hT0.drewN n))
        have A3 := fun n => passed_any (m.B 0) _ (s.l 0) (hT0.drewN n)
        obtain ⟨t1, t2, t3, t4, t5, t6, t7⟩ := HT.out 0 (by omega)
        obtain ⟨x1, hx1⟩ : ∃ b, b = (s.l 0).came := ⟨_, rfl⟩
        obtain ⟨x2, hx2⟩ : ∃ b, b = (s.l 0).psd := ⟨_, rfl⟩
        rw [← hx1] at A1 t1 t2 t4
        rw [← hx2] at A2 A3 t1 t2 t3 t5 t6 t7
        have A1 := Lib.hid A1
        have A2 := Lib.hid A2
        have A3 := Lib.hid A3
        clear q1 q2 q3 q4 hcell hs e2 hI hT0 hx1 hx2
        go_wp2_with fail
        go_quiet (first | with_reducible exact A1.out _ | with_reducible exact A2.out _)
        go_wp2_with fail
        with_reducible refine (A3.out _).mono ?_
        rintro e w5 ⟨rfl, hw5⟩
        have HW5 := Lib.hid hw5
        clear hw5 A1 A2 A3
        go_wp2_with fail
        go_loopw [11, 12, 13, 14] (fun le mo lo j wr => ∃ (j0 nd : Nat) (a b c : Int), j0 ≤ n ∧ le = .int .i64 a ∧ mo = .int .i64 b ∧ lo = .int .i64 c ∧ j = .int .i64 (j0 : Int) ∧ (r ≤ a ∧ a ≤ 1001) ∧ (0 ≤ b ∧ b ≤ r) ∧ (0 ≤ c ∧ r ≤ c + 1 ∧ c ≤ 1000) ∧ wr = w4.drewN nd) (fun _ _ _ j _ => n - (intOf j).toNat)
        case atStart => exact ⟨0, nq, x1, x2, x2, Nat.zero_le _, rfl, rfl, rfl, rfl, by omega, by omega, by omega, HW5.out.symm⟩
        case round =>
          obtain ⟨j, nd, a, b', c, hj, rfl, rfl, rfl, rfl, ⟨ha1, ha2⟩, ⟨hb1, hb2⟩, ⟨hc1, hc2, hc3⟩, hwr⟩ := hrel
          have HWR := Lib.hid hwr
          clear hwr
          by_cases hlj : j < n
          · have hpt := HMd.out.at (HQ4.out.trans HR4.out) (i := j) (by rw [hmN.out]; exact hlj)
            have hTj := (HR3.out.tsk j (by rw [hmN.out]; exact hlj)).drewN nd
            have hptj : (w4.drewN nd).cell? ⟨ga, j, none⟩ = some (pt (m.B j)) := hpt
            rw [← HWR.out] at hTj hptj
            have A1 := fun n => quiet_mine (came_any (m.B j) _ (s.l j) (hTj.drewN n))
            have A2 := fun n => quiet_mine (passed_any (m.B j) _ (s.l j) (hTj.drewN n))
            obtain ⟨u1, u2, u3, u4, u5, u6, u7⟩ := HT.out j hlj
            obtain ⟨y1, hy1⟩ : ∃ b, b = (s.l j).came := ⟨_, rfl⟩
            obtain ⟨y2, hy2⟩ : ∃ b, b = (s.l j).psd := ⟨_, rfl⟩
            rw [← hy1] at A1 u1 u2 u4
            rw [← hy2] at A2 u1 u2 u3 u5 u6 u7
            have A1 := Lib.hid A1
            have A2 := Lib.hid A2
            have hji : (0 : Int) ≤ (j : Int) := by omega
            have hjn : (j : Int) < (n : Int) := by omega
            clear hTj hy1 hy2 hpt
            go_wp2_with fail
            go_quiet (first | with_reducible exact A1.out _ | with_reducible exact A2.out _)
            go_wp2_with fail
            all_goals
              go_roundw
              case rel => exact ⟨j + 1, nd + nq, _, _, _, by omega, rfl, rfl, rfl, by go_num, by omega, by omega, by omega, by rw [HWR.out, World.drewN_drewN]⟩
              case measure => simp [intOf]; omega
          · obtain rfl : j = n := by omega
            have h1 : ¬ b' > a := by omega
            have h2 : ¬ b' > c + 1 := by omega
            have HK := Lib.hid (HR3.out.keep (below_drewN (Below.refl _ _) nd))
            rw [← HWR.out] at HK
            go_wp2_with fail
            go_roundw
            case rel => exact pickRel_next hlt hlt2 HC1.out HOut.out (c2 := c2) HC2.out (by rw [hm2.out, hmN.out, ← HSs.out]; exact HK.out) (by rw [HWR.out]; exact Chg.of_below (below_drewN (Below.refl _ _) nd))
            case measure => simp [intOf]; omega
      · have hk200 : ¬ (k2 : Int) < 300 := by omega
        go_wp2_with fail
        go_ret
        exact ⟨rfl, HMd.out.bel.trans (HQ4.out.below HMd.out.own HMd.out.bel.size)⟩
    · have hkL : ¬ (k2 : Int) < L := by omega
      go_wp2_with fail
      go_ret
      exact ⟨rfl, HMd.out.bel.trans (HQ4.out.below HMd.out.own HMd.out.bel.size)⟩
end Go.Proofs.YtcjhbmkpfclmfaaDoor
