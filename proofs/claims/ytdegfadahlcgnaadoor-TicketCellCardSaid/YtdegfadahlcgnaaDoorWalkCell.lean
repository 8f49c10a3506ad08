/-
  The walk of TicketCell.
-/
import Derived.Test.YtdegfadahlcgnaaDoorHeld
namespace Go.Proofs.YtdegfadahlcgnaaDoor
open Go.RowKit

set_option maxHeartbeats 8000000 in
set_option maxRecDepth 100000 in
theorem walk_cell (A P : Option Addr) (n ca L cp : Nat) (T p : Nat → Int) (q : Int) (w : World) (hG : GOk w) (hA : ArgN .u8 w.heap.size w A n T) (hT : ∀ i, i < n → 0 ≤ T i ∧ T i < 256) (hP : ArgN .i64 w.heap.size w P L p) (hq : 0 ≤ q ∧ q < 4294967296) (hn : n ≤ 1000000000000000) (_ : L ≤ 1000000000000000) :
    Calls Tryd.prog 8 #[.slice A n ca, .int .u32 q, .slice P L cp] w fun e w' => e = .returned (.bool true) ∧ Below w.heap.size w w' := by
  have HTK := Lib.hid (takers_any A n ca T q w hG hA hT hn)
  have HP := Lib.hid hP
  have HG0 := Lib.hid hG
  have HGd := Lib.hid (fun k => ((good0 (min n 6) T q hq).runI (S := sumN (tm T) (min n 6)) (by have := sum_rng T (min n 6); omega) (by omega) p k).pickO (by have := sum_rng T (min n 6); omega) (by omega) (p k))
  have hs := sum_rng T (min n 6)
  obtain ⟨N, hN⟩ : ∃ N, N = min n 6 := ⟨_, rfl⟩
  obtain ⟨S, hS⟩ : ∃ S, S = sumN (tm T) (min n 6) := ⟨_, rfl⟩
  unfold TakP at HTK
  rw [← hS] at hs HTK
  rw [← hN] at HTK HGd
  have hs2 : S ≤ 42 := by omega
  have hs1 : 0 ≤ S := hs.1
  have hN6 : N ≤ 6 := by omega
  have HNN := Lib.hid hN
  clear hG hA hT hP hq hs hS hN
  go_enter Tryd.func8, Tryd.ntmps8
  go_wp2_with fail
  with_reducible refine HTK.out.mono ?_
  rintro e w1 ⟨m, ga, cga, rfl, hMd⟩
  have HMd0 := Lib.hid hMd
  clear hMd
  go_wp2_with fail
  with_reducible refine (awake_any _ HMd0.out.sys.gok).mono ?_
  rintro e w2 ⟨rfl, hB2⟩
  have HMd := Lib.hid (HMd0.out.keep hB2)
  have hm3 := Lib.hid HMd0.out.n3
  have hmN : Hid (m.N = N) := Lib.hid (by rw [HMd0.out.N1, HNN.out])
  clear hB2 HMd0
  go_wp2_with fail
  have hl0 := left_first T q
  go_loopw [11, 12] (fun le i wr => CellRel m (sy0 T q) 2 3 p L N q w2 le i wr) (fun _ i _ => 200 - (intOf i).toNat)
  case atStart => exact ⟨0, 2, Nat.zero_le _, by omega, rfl, by rw [show (sy0 T q).runI 3 N p 0 = sy0 T q from rfl, hl0], by omega, by omega, HMd.out.sys, Chg.refl _⟩
  case round =>
    obtain ⟨k2, c1, hk1, hk2, rfl, rfl, hc1, hc2, q3, q4⟩ := hrel
    have HQ3 := Lib.hid q3
    have HQ4 := Lib.hid q4
    have HBw := Lib.hid (HMd.out.bel.trans (q4.below HMd.out.own HMd.out.bel.size))
    have HC1 := Lib.hid (And.intro hc1 hc2)
    clear q3 q4 hc1 hc2
    by_cases hlt : k2 < L
    · by_cases hlt2 : k2 < 200
      · obtain ⟨b, o, rfl⟩ := HP.out.head hlt
        have hO := HGd.out k2
        rw [show ((sy0 T q).runI 3 N p k2).pickI 3 N (p k2) = (sy0 T q).runI 3 N p (k2 + 1) from rfl] at hO
        obtain ⟨s0, hs0⟩ : ∃ s, s = (sy0 T q).runI 3 N p k2 := ⟨_, rfl⟩
        obtain ⟨s, hs⟩ : ∃ s, s = (sy0 T q).runI 3 N p (k2 + 1) := ⟨_, rfl⟩
        have q3 := HQ3.out
        rw [← hs0] at hO q3 ⊢
        rw [← hs] at hO
        have HO := Lib.hid hO
        have HS0 := Lib.hid hs0
        have HSs := Lib.hid hs
        have HL := load_at m s0 c1 2 2 rfl _ q3 (by rw [hm3.out]; omega) (by have := HC1.out; omega)
        obtain ⟨v, hv⟩ : ∃ x, x = s0.f 2 := ⟨_, rfl⟩
        obtain ⟨lf, hlf⟩ : ∃ x, x = leftS q s0 := ⟨_, rfl⟩
        rw [← hv] at HL
        rw [← hlf]
        have HV := Lib.hid hv
        have HLF := Lib.hid hlf
        have HLl := Lib.hid HL
        clear hs0 hs hO q3 HL HQ3 hv hlf
        go_wp2_with fail
        with_reducible refine HLl.out.mono ?_
        rintro e w3 ⟨rfl, c2, q1, q2, q3, q4⟩
        have HC2 := Lib.hid (And.intro q1 q2)
        have HR3 := Lib.hid q3
        have HR4 := Lib.hid q4
        clear q1 q2 q3 q4
        go_wp2_with fail
        go_loopw [16] (fun j wr => WasIn N w3.heap.size s0 (w3.alloc (.cells bools6 59)) j wr) (fun j _ => N - (intOf j).toNat)
        case atStart => exact ⟨0, Nat.zero_le _, rfl, (held_new w3 N hN6 59).none, Chg.refl _⟩
        case round =>
          obtain ⟨j, hj, rfl, hH, hC⟩ := hrel
          have hBa : Below w3.heap.size w3 (w3.alloc (.cells bools6 59)) := (Below.refl w3.heap.size w3).alloc (Nat.le_refl _) _
          have hno : ¬ m.own w3.heap.size := fun hx => Nat.lt_irrefl _ (HR3.out.own_lt _ hx)
          have h6 := six_of HR3.out.gok
          have HRk := Lib.hid ((HR3.out.keep hBa).beside hC hno h6)
          have HCk := Lib.hid (chgN (S := m.own) hBa hC (Nat.le_refl _))
          have HHj := Lib.hid hH
          have HCj := Lib.hid hC
          have HNo := Lib.hid hno
          clear hH hC hBa hno h6
          by_cases hlj : j < N
          · have hpt := HMd.out.at ((HQ4.out.trans HR4.out).trans HCk.out) (i := j) (by rw [hmN.out]; exact hlj)
            have HHo := Lib.hid (holds_any (m.B j) (s0.l j) wr (HRk.out.tsk j (by rw [hmN.out]; exact hlj)))
            have hcj := HHj.out.at hlj
            have hfj := HHj.out.2.1 j
            have hj6 : (j : Int) < 6 := by omega
            have HSt := Lib.hid (HHj.out.step hlj)
            obtain ⟨b1, hb1⟩ : ∃ b, b = (s0.l j).holds := ⟨_, rfl⟩
            rw [← hb1] at HHo HSt
            clear hb1
            go_wp2_with fail
            with_reducible refine HHo.out.mono ?_
            rintro e w5 ⟨rfl, rfl⟩
            go_wp2_with fail
            go_roundw
            case rel => exact ⟨j + 1, by omega, by go_num, HSt.out _ rfl, chgH HCj.out _⟩
            case measure => simp [intOf]; omega
          · obtain rfl : j = N := by omega
            have hcell := (HP.out.keep (HBw.out.trans ((HR4.out.trans HCk.out).below HMd.out.own HBw.out.size))).cell hlt
            have HPk := pick_any m s0 c2 (p k2) wr HRk.out (by have := HC1.out; have := HC2.out; omega)
            have hcellO := HO.out.cell
            obtain ⟨d, hd⟩ : ∃ d, d = s0.err m.N (p k2) := ⟨_, rfl⟩
            obtain ⟨y, hy⟩ : ∃ y, y = p k2 := ⟨_, rfl⟩
            rw [← hd, ← hy] at HPk
            rw [← hy] at hcell hcellO
            have e2 : s0.pickI m.n m.N y = s := by rw [hy, hm3.out, hmN.out, HSs.out, HS0.out]; rfl
            rw [e2] at HPk
            have HPk := Lib.hid HPk
            have HCO := Lib.hid hcellO
            have HY := Lib.hid hy
            clear hd hy e2 hcellO
            go_wp2_with fail
            with_reducible refine HPk.out.mono ?_
            rintro e w5 ⟨rfl, c3, q1, q2, q3, q4⟩
            have HC3 := Lib.hid (And.intro q1 q2)
            have HU4 := Lib.hid q4
            have HL := load_at m s c3 2 2 rfl _ q3 (by rw [hm3.out]; omega) (by have := HC1.out; have := HC2.out; have := HC3.out; omega)
            obtain ⟨v2, hv2⟩ : ∃ x, x = s.f 2 := ⟨_, rfl⟩
            rw [← hv2] at HL
            have HV2 := Lib.hid hv2
            have HLm := Lib.hid HL
            clear q1 q2 q3 q4 HL hv2
            go_wp2_with fail
            with_reducible refine HLm.out.mono ?_
            rintro e w6 ⟨rfl, c4, q1, q2, q3, q4⟩
            have HC4 := Lib.hid (And.intro q1 q2)
            have HV3 := Lib.hid q3
            have HV4 := Lib.hid q4
            have HW := Lib.hid ((HHj.out.all.chg HU4.out HNo.out).chg q4 HNo.out)
            have hcell6 := (HP.out.keep (HBw.out.trans ((((HR4.out.trans HCk.out).trans HU4.out).trans q4).below HMd.out.own HBw.out.size))).cell hlt
            have hlo := HO.out.lo
            rw [← HLF.out, ← HV.out] at hlo
            have hlf1 : 0 ≤ lf ∧ lf ≤ 1001 := by
              have := HO.out.left
              rw [← HLF.out] at this
              omega
            clear q1 q2 q3 q4 hcell
            go_wp2_with fail
            go_loop [11, 19, 20] (fun le ho i => ∃ k : Nat, k ≤ j ∧ i = .int .i64 k ∧ le = .int .u32 (lf + (cnt2 (rels s0 s) k : Nat)) ∧ ho = .int .u32 (holdN s.l k)) (fun _ _ i => j - (intOf i).toNat)
            case atStart => exact ⟨0, Nat.zero_le _, rfl, by simp [cnt2], rfl⟩
            case round =>
              obtain ⟨i, hi, rfl, rfl, rfl⟩ := hrel
              have hle := cnt2_le (rels s0 s) i
              have hz := holdN_rng s.l i
              by_cases hli : i < j
              · have hpt := HMd.out.at ((((HQ4.out.trans HR4.out).trans HCk.out).trans HU4.out).trans HV4.out) (i := i) (by rw [hmN.out]; exact hli)
                have HHo := Lib.hid (fun W (hB : W = w6) => holds_any (m.B i) (s.l i) W (hB ▸ HV3.out.tsk i (by rw [hmN.out]; exact hli)))
                have hci : w6.cell? ⟨w3.heap.size, i, none⟩ = some (.bool (s0.l i).holds) := HW.out.1 i hli
                have hi6 : (i : Int) < 6 := by omega
                have h1 : Hid (cnt2 (rels s0 s) (i + 1) = cnt2 (rels s0 s) i + if ((s0.l i).holds && !(s.l i).holds) = true then 1 else 0) := Lib.hid rfl
                have h2 := Lib.hid (holdN_next s.l i)
                obtain ⟨b0, hb0⟩ : ∃ b, b = (s0.l i).holds := ⟨_, rfl⟩
                obtain ⟨b1, hb1⟩ : ∃ b, b = (s.l i).holds := ⟨_, rfl⟩
                obtain ⟨z, hz2⟩ : ∃ b, b = holdN s.l i := ⟨_, rfl⟩
                obtain ⟨x, hx⟩ : ∃ b, b = lf + (cnt2 (rels s0 s) i : Nat) := ⟨_, rfl⟩
                rw [← hb0] at h1 hci
                rw [← hb1] at h1 h2 HHo
                rw [← hz2] at h2 hz
                have hx2 : 0 ≤ x ∧ x ≤ 2000 := by omega
                have HX : Hid (lf + (cnt2 (rels s0 s) (i + 1) : Nat) = x + ((if (b0 && !b1) = true then 1 else 0 : Nat) : Int)) := Lib.hid (by rw [h1.out, hx]; omega)
                rw [← hx, ← hz2]
                clear hb0 hb1 hz2 hx h1 hle hlf1 hlo
                cases b0
                all_goals cases b1
                all_goals
                  go_wp2_with first | (with_reducible refine (HHo.out _ rfl).mono ?_; rintro e w7 ⟨rfl, rfl⟩)
                  go_round
                  case rel => exact ⟨i + 1, by omega, by go_num, by rw [HX.out]; first | rfl | simp, by rw [h2.out]; first | rfl | simp⟩
                  case measure => simp [intOf]; omega
              · obtain rfl : i = j := by omega
                have hz := holdN_rng s.l i
                have htop := HO.out.top
                have hleft := HO.out.left
                rw [← HV2.out] at htop hlo
                rw [← HLF.out] at hleft
                obtain ⟨z, hz2⟩ : ∃ b, b = holdN s.l i := ⟨_, rfl⟩
                obtain ⟨x, hx⟩ : ∃ b, b = lf + (cnt2 (rels s0 s) i : Nat) := ⟨_, rfl⟩
                rw [← hz2] at hz htop
                rw [← hx] at hleft
                rw [hleft] at htop hlo
                rw [← hx, ← hz2]
                have hx2 : 0 ≤ x ∧ x ≤ 1001 := by omega
                have HXL := Lib.hid hleft
                obtain ⟨t1, t2⟩ := hx2
                obtain ⟨t3, t4⟩ := hz
                obtain ⟨_, t5, _, t6, t7⟩ := hlo
                have t8 : ¬ v2 < x := by omega
                have t9 : ¬ x + z < v2 := by omega
                have HRel : Hid (CellRel m (sy0 T q) 2 3 p L i q w2 (.int .u32 x) (.int .i64 ((k2 : Int) + 1)) w6) := Lib.hid (cellRel_next hlt hlt2 HC1.out (c2 := c4) (by have := HC2.out; have := HC3.out; have := HC4.out; omega) (by rw [← HSs.out]; exact hleft.symm) HQ4.out (((HR4.out.trans HCk.out).trans HU4.out).trans HV4.out) (by rw [← HSs.out]; exact HV3.out))
                clear hx hz2 hleft
                rcases HCO.out with hc | ⟨hc, hy1, hy2, hy3⟩
                · rw [← HV.out, ← HV2.out] at hc
                  subst hc
                  go_wp2_with fail
                  go_roundw
                  case rel => exact HRel.out
                  case measure => simp [intOf]; omega
                · rw [← HV.out, ← HV2.out] at hc
                  subst hc
                  have hy5 := HW.out.1 y.toNat (by omega)
                  rw [show (fun x => (s0.l x).holds) y.toNat = true from hy3] at hy5
                  rw [← HY.out] at hcell6
                  obtain ⟨y0, rfl⟩ : ∃ n : Nat, y = n := ⟨y.toNat, by omega⟩
                  rw [show ((y0 : Nat) : Int).toNat = y0 by omega] at hy5
                  have g1 : ¬ v + 1 = v := by omega
                  have g2 : (y0 : Int) < 6 := by omega
                  have g3 : ¬ (y0 : Int) < 0 := by omega
                  have g4 : ¬ (i : Int) ≤ (y0 : Int) := by omega
                  have g5 : ¬ i ≤ y0 := by omega
                  clear hy3
                  go_wp2_with fail
                  go_roundw
                  case rel => exact HRel.out
                  case measure => simp [intOf]; omega
      · have hk200 : ¬ (k2 : Int) < 200 := by omega
        go_wp2_with fail
        go_ret
        exact ⟨rfl, HBw.out⟩
    · have hkL : ¬ (k2 : Int) < L := by omega
      go_wp2_with fail
      go_ret
      exact ⟨rfl, HBw.out⟩
end Go.Proofs.YtdegfadahlcgnaaDoor
