/-
  The walk of TicketAlone.
-/
import Derived.Test.YtdegfadahlcgnaaDoorGood
namespace Go.Proofs.YtdegfadahlcgnaaDoor
open Go.RowKit

/-- What is known behind any picks, and of the rounds behind them. -/
def AlOk (N : Nat) (S : Int) (s : Sy) : Prop := cntN Tk.holds s.l N ≤ 1 ∧ (s.f 0 - s.f 1) % 4294967296 = ((cntN Tk.holds s.l N + cntN Tk.waits s.l N : Nat) : Int) ∧ leftN (s.rounds 3 N 2000).l N = 0 ∧ (s.rounds 3 N 2000).f 2 = S
theorem alOk {q S : Int} {N : Nat} {s : Sy} (h : Good q S N s) (hS : S ≤ 42) (hN : N ≤ 6) : AlOk N S s := by
  have h3 := h.ends (by omega) (by omega) 2000 (by omega)
  exact ⟨h.one, h.diff (by omega), h3.1, h3.2⟩
set_option maxHeartbeats 8000000 in
set_option maxRecDepth 100000 in
theorem walk_alone (A P : Option Addr) (n ca L cp : Nat) (T p : Nat → Int) (q : Int) (w : World) (hG : GOk w) (hA : ArgN .u8 w.heap.size w A n T) (hT : ∀ i, i < n → 0 ≤ T i ∧ T i < 256) (hP : ArgN .i64 w.heap.size w P L p) (hq : 0 ≤ q ∧ q < 4294967296) (hn : n ≤ 1000000000000000) (_ : L ≤ 1000000000000000) :
    Calls Tryd.prog 4 #[.slice A n ca, .int .u32 q, .slice P L cp] w fun e w' => e = .returned (.bool true) ∧ Below w.heap.size w w' := by
  have HTK := Lib.hid (takers_any A n ca T q w hG hA hT hn)
  have HP := Lib.hid hP
  have HG0 := Lib.hid hG
  have HGd := Lib.hid (fun k => alOk (N := min n 6) ((good0 (min n 6) T q hq).runI (by have := sum_rng T (min n 6); omega) (by omega) p k) (by have := sum_rng T (min n 6); omega) (by omega))
  have hs := sum_rng T (min n 6)
  obtain ⟨N, hN⟩ : ∃ N, N = min n 6 := ⟨_, rfl⟩
  obtain ⟨S, hS⟩ : ∃ S, S = sumN (tm T) (min n 6) := ⟨_, rfl⟩
  unfold TakP at HTK
  rw [← hS] at hs HTK HGd
  rw [← hN] at HTK HGd
  have hs2 : S ≤ 42 := by omega
  have hs1 : 0 ≤ S := hs.1
  have hN6 : N ≤ 6 := by omega
  have HNN := Lib.hid hN
  clear hG hA hT hP hq hs hS hN
  go_enter Tryd.func4, Tryd.ntmps4
  go_wp2_with fail
  with_reducible refine HTK.out.mono ?_
  rintro e w1 ⟨m, ga, cga, rfl, hMd⟩
  have HMd0 := Lib.hid hMd
  clear hMd
  go_wp2_with fail
  with_reducible refine (awake_any _ HMd0.out.sys.gok).mono ?_
  rintro e w2 ⟨rfl, hB2⟩
  have HMd := Lib.hid (HMd0.out.keep hB2)
  have hm3 := Lib.hid HMd0.out.n3
  have hmN : Hid (m.N = N) := Lib.hid (by rw [HMd0.out.N1, HNN.out])
  clear hB2 HMd0
  go_wp2_with fail
  go_loopw [11] (fun i wr => PickRel m (sy0 T q) 2 3 p L w2 i wr) (fun i _ => 200 - (intOf i).toNat)
  case atStart => exact ⟨0, Nat.zero_le _, by omega, rfl, StepS.refl HMd.out.sys (by omega)⟩
  case round =>
    obtain ⟨k2, hk1, hk2, rfl, hSt⟩ := hrel
    obtain ⟨c1, q1, q2, q3, q4⟩ := hSt
    have HC1 := Lib.hid (And.intro q1 q2)
    have HQ3 := Lib.hid q3
    have HQ4 := Lib.hid q4
    clear q1 q2 q3 q4
    by_cases hlt : k2 < L
    · by_cases hlt2 : k2 < 200
      · obtain ⟨b, o, rfl⟩ := HP.out.head hlt
        have hcell := (HP.out.keep (HMd.out.bel.trans (HQ4.out.below HMd.out.own HMd.out.bel.size))).cell hlt
        have HPk := pick_any m _ c1 (p k2) wr HQ3.out (by have := HC1.out; omega)
        obtain ⟨d, hd⟩ : ∃ d, d = ((sy0 T q).runI m.n m.N p k2).err m.N (p k2) := ⟨_, rfl⟩
        obtain ⟨y, hy⟩ : ∃ y, y = p k2 := ⟨_, rfl⟩
        rw [← hd, ← hy] at HPk
        rw [← hy] at hcell
        have HY := Lib.hid hy
        have HPk := Lib.hid HPk
        clear hd hy
        go_wp2_with fail
        with_reducible refine HPk.out.mono ?_
        rintro e w4 ⟨rfl, c2, q1, q2, q3, q4⟩
        have HC2 := Lib.hid (And.intro q1 q2)
        have e2 : ((sy0 T q).runI m.n m.N p k2).pickI m.n m.N y = (sy0 T q).runI 3 N p (k2 + 1) := by rw [HY.out, hm3.out, hmN.out]; rfl
        rw [e2] at q3
        have hal := HGd.out (k2 + 1)
        obtain ⟨s, hs⟩ : ∃ s, s = (sy0 T q).runI 3 N p (k2 + 1) := ⟨_, rfl⟩
        rw [← hs] at q3 hal
        have HSs := Lib.hid hs
        have HR3 := Lib.hid q3
        have HR4 := Lib.hid q4
        clear q1 q2 q3 q4 hcell hs e2
        go_wp2_with fail
        go_loop [12, 13, 14] (fun ho wa j => ∃ j0 : Nat, j0 ≤ N ∧ j = .int .i64 j0 ∧ ho = .int .i64 (cntN Tk.holds s.l j0) ∧ wa = .int .i64 (cntN Tk.waits s.l j0)) (fun _ _ j => N - (intOf j).toNat)
        case atStart => exact ⟨0, Nat.zero_le _, rfl, rfl, rfl⟩
        case round =>
          obtain ⟨j, hj, rfl, rfl, rfl⟩ := hrel
          have hle1 := cntN_le Tk.holds s.l j
          have hle2 := cntN_le Tk.waits s.l j
          by_cases hlj : j < N
          · have hpt := HMd.out.at (HQ4.out.trans HR4.out) (i := j) (by rw [hmN.out]; exact hlj)
            have HTj := Lib.hid (HR3.out.tsk j (by rw [hmN.out]; exact hlj))
            have h1 : Hid (cntN Tk.holds s.l (j + 1) = cntN Tk.holds s.l j + if (s.l j).holds then 1 else 0) := Lib.hid rfl
            have h2 : Hid (cntN Tk.waits s.l (j + 1) = cntN Tk.waits s.l j + if (s.l j).waits then 1 else 0) := Lib.hid rfl
            obtain ⟨x1, hx1⟩ : ∃ x, x = cntN Tk.holds s.l j := ⟨_, rfl⟩
            obtain ⟨x2, hx2⟩ : ∃ x, x = cntN Tk.waits s.l j := ⟨_, rfl⟩
            rw [← hx1] at h1 hle1 ⊢
            rw [← hx2] at h2 hle2 ⊢
            have HH := Lib.hid (fun W (hB : W = w4) => holds_any (m.B j) (s.l j) W (hB ▸ HTj.out))
            have HW := Lib.hid (fun W (hB : W = w4) => waits_any (m.B j) (s.l j) W (hB ▸ HTj.out))
            obtain ⟨b1, hb1⟩ : ∃ b, b = (s.l j).holds := ⟨_, rfl⟩
            obtain ⟨b2, hb2⟩ : ∃ b, b = (s.l j).waits := ⟨_, rfl⟩
            rw [← hb1] at HH h1
            rw [← hb2] at HW h2
            clear hx1 hx2 hb1 hb2
            cases b1
            all_goals cases b2
            all_goals
              go_wp2_with fail
              with_reducible refine (HH.out _ rfl).mono ?_
              rintro e w5 ⟨rfl, rfl⟩
              go_wp2_with fail
              with_reducible refine (HW.out _ rfl).mono ?_
              rintro e w5 ⟨rfl, rfl⟩
              go_wp2_with fail
              go_round
              case rel => exact ⟨j + 1, by omega, by go_num, by rw [h1.out]; first | rfl | simp, by rw [h2.out]; first | rfl | simp⟩
              case measure => simp [intOf]; omega
          · obtain rfl : j = N := by omega
            obtain ⟨a1, a2, _⟩ := hal
            obtain ⟨x1, hx1⟩ : ∃ x, x = cntN Tk.holds s.l j := ⟨_, rfl⟩
            obtain ⟨x2, hx2⟩ : ∃ x, x = cntN Tk.waits s.l j := ⟨_, rfl⟩
            rw [← hx1] at a1 hle1 a2 ⊢
            rw [← hx2] at a2 hle2 ⊢
            have HL := load_at m s c2 0 0 rfl _ HR3.out (by rw [hm3.out]; omega) (by have := HC1.out; have := HC2.out; omega)
            obtain ⟨f0, hf0⟩ : ∃ x, x = s.f 0 := ⟨_, rfl⟩
            obtain ⟨f1, hf1⟩ : ∃ x, x = s.f 1 := ⟨_, rfl⟩
            rw [← hf0] at HL a2
            rw [← hf1] at a2
            have HF1 := Lib.hid hf1
            have HLl := Lib.hid HL
            clear hx1 hx2 hf0 hf1 HL
            go_wp2_with fail
            with_reducible refine HLl.out.mono ?_
            rintro e w5 ⟨rfl, c3, q1, q2, q3, q4⟩
            have HC3 := Lib.hid (And.intro q1 q2)
            have HT3 := Lib.hid q3
            have HT4 := Lib.hid q4
            have HL := load_at m s c3 1 1 rfl _ q3 (by rw [hm3.out]; omega) (by have := HC1.out; have := HC2.out; omega)
            rw [← HF1.out] at HL
            have HLm := Lib.hid HL
            clear q1 q2 q3 q4 HL
            go_wp2_with fail
            with_reducible refine HLm.out.mono ?_
            rintro e w6 ⟨rfl, c4, q1, q2, q3, q4⟩
            have HC4 := Lib.hid (And.intro q1 q2)
            have HU3 : Hid (Sys w6 m ((sy0 T q).runI m.n m.N p (k2 + 1)) c4) := Lib.hid (by rw [hm3.out, hmN.out, ← HSs.out]; exact q3)
            have HU4 := Lib.hid q4
            clear q1 q2 q3 q4
            have hb1 : ¬ (1 : Int) < (x1 : Int) := by omega
            go_wp2_with fail
            go_roundw
            case rel => exact pickRel_next hlt hlt2 HC1.out HQ4.out (c2 := c4) (by have := HC2.out; have := HC3.out; have := HC4.out; omega) HU3.out ((HR4.out.trans HT4.out).trans HU4.out)
            case measure => simp [intOf]; omega
      · have hk200 : ¬ (k2 : Int) < 200 := by omega
        have hend := HGd.out k2
        obtain ⟨_, _, e3, e4⟩ := hend
        have HR := round_at m _ c1 2000 2000 rfl wr HQ3.out (by omega) (by rw [hmN.out]; omega) (by have := HC1.out; omega) (by have := HC1.out; omega)
        have he : ((sy0 T q).runI m.n m.N p k2).rounds m.n m.N 2000 = ((sy0 T q).runI 3 N p k2).rounds 3 N 2000 := by rw [hm3.out, hmN.out]
        rw [he] at HR
        obtain ⟨sE, hsE⟩ : ∃ s, s = ((sy0 T q).runI 3 N p k2).rounds 3 N 2000 := ⟨_, rfl⟩
        rw [← hsE] at HR e3 e4
        have HRr := Lib.hid HR
        clear HR he hsE
        go_wp2_with fail
        with_reducible refine HRr.out.mono ?_
        rintro e w4 ⟨rfl, c2, q1, q2, q3, q4⟩
        have HR4 := Lib.hid q4
        have hc2 : 0 ≤ c2 ∧ c2 ≤ 900000 := by
          have := HC1.out
          rw [hmN.out] at q2
          omega
        have HL := load_at m sE c2 2 2 rfl _ q3 (by rw [hm3.out]; omega) (by omega)
        rw [e4] at HL
        have HLl := Lib.hid HL
        clear q1 q2 q3 q4 HL hc2
        go_wp2_with fail
        with_reducible refine HLl.out.mono ?_
        rintro e w5 ⟨rfl, c3, q1, q2, q3, q4⟩
        have HT4 := Lib.hid q4
        have hlf := left_any m sE c3 _ q3
        rw [hmN.out, e3] at hlf
        have HLf := Lib.hid hlf
        clear q1 q2 q3 q4 hlf e3 e4
        go_wp2_with fail
        with_reducible refine HLf.out.mono ?_
        rintro e w' ⟨rfl, rfl⟩
        go_wp2_with fail
        go_ret
        exact ⟨rfl, HMd.out.bel.trans (((HQ4.out.trans HR4.out).trans HT4.out).below HMd.out.own HMd.out.bel.size)⟩
    · have hkL : ¬ (k2 : Int) < L := by omega
      have hend := HGd.out k2
      obtain ⟨_, _, e3, e4⟩ := hend
      have HR := round_at m _ c1 2000 2000 rfl wr HQ3.out (by omega) (by rw [hmN.out]; omega) (by have := HC1.out; omega) (by have := HC1.out; omega)
      have he : ((sy0 T q).runI m.n m.N p k2).rounds m.n m.N 2000 = ((sy0 T q).runI 3 N p k2).rounds 3 N 2000 := by rw [hm3.out, hmN.out]
      rw [he] at HR
      obtain ⟨sE, hsE⟩ : ∃ s, s = ((sy0 T q).runI 3 N p k2).rounds 3 N 2000 := ⟨_, rfl⟩
      rw [← hsE] at HR e3 e4
      have HRr := Lib.hid HR
      clear HR he hsE
      go_wp2_with fail
      with_reducible refine HRr.out.mono ?_
      rintro e w4 ⟨rfl, c2, q1, q2, q3, q4⟩
      have HR4 := Lib.hid q4
      have hc2 : 0 ≤ c2 ∧ c2 ≤ 900000 := by
        have := HC1.out
        rw [hmN.out] at q2
        omega
      have HL := load_at m sE c2 2 2 rfl _ q3 (by rw [hm3.out]; omega) (by omega)
      rw [e4] at HL
      have HLl := Lib.hid HL
      clear q1 q2 q3 q4 HL hc2
      go_wp2_with fail
      with_reducible refine HLl.out.mono ?_
      rintro e w5 ⟨rfl, c3, q1, q2, q3, q4⟩
      have HT4 := Lib.hid q4
      have hlf := left_any m sE c3 _ q3
      rw [hmN.out, e3] at hlf
      have HLf := Lib.hid hlf
      clear q1 q2 q3 q4 hlf e3 e4
      go_wp2_with fail
      with_reducible refine HLf.out.mono ?_
      rintro e w' ⟨rfl, rfl⟩
      go_wp2_with fail
      go_ret
      exact ⟨rfl, HMd.out.bel.trans (((HQ4.out.trans HR4.out).trans HT4.out).below HMd.out.own HMd.out.bel.size)⟩
end Go.Proofs.YtdegfadahlcgnaaDoor
