/-
  The walk of TicketSame.
-/
import Derived.Test.YtdegfadahlcgnaaDoorPair
namespace Go.Proofs.YtdegfadahlcgnaaDoor
open Go.RowKit

set_option maxHeartbeats 16000000 in
set_option maxRecDepth 100000 in
theorem walk_same (A P : Option Addr) (n ca L cp : Nat) (T p : Nat → Int) (q0 q1 : Int) (w : World) (hG : GOk w) (hA : ArgN .u8 w.heap.size w A n T) (hT : ∀ i, i < n → 0 ≤ T i ∧ T i < 256) (hP : ArgN .i64 w.heap.size w P L p) (hq0 : 0 ≤ q0 ∧ q0 < 4294967296) (hq1 : 0 ≤ q1 ∧ q1 < 4294967296) (hn : n ≤ 1000000000000000) (_ : L ≤ 1000000000000000) :
    Calls Tryd.prog 6 #[.slice A n ca, .agg #[.int .u32 q0, .int .u32 q1], .slice P L cp] w fun e w' => e = .returned (.bool true) ∧ Below w.heap.size w w' := by
  have hB00 : Below w.heap.size w (w.alloc (.cells #[.int .u32 q0, .int .u32 q1] 24)) := (Below.refl _ _).alloc (Nat.le_refl _) _
  have hG0 := hG.keep hB00
  have hz0 : (w.alloc (.cells #[.int .u32 q0, .int .u32 q1] 24)).heap.size = w.heap.size + 1 := by simp
  have hA0 := hA.up (H' := (w.alloc (.cells #[.int .u32 q0, .int .u32 q1] 24)).heap.size) hB00 (by omega)
  have hx0 : (w.alloc (.cells #[.int .u32 q0, .int .u32 q1] 24)).cell? ⟨w.heap.size, 0, none⟩ = some (.int .u32 q0) := al_new _ _ _ 0 _ rfl rfl
  have hx1 : (w.alloc (.cells #[.int .u32 q0, .int .u32 q1] 24)).cell? ⟨w.heap.size, 1, none⟩ = some (.int .u32 q1) := al_new _ _ _ 1 _ rfl rfl
  have HT1 := Lib.hid (takers_any A n ca T q0 _ hG0 hA0 hT hn)
  have HT2 := Lib.hid (fun W (hB : Below (w.alloc (.cells #[.int .u32 q0, .int .u32 q1] 24)).heap.size (w.alloc (.cells #[.int .u32 q0, .int .u32 q1] 24)) W) => takers_any A n ca T q1 W (hG0.keep hB) (hA0.up hB hB.size) hT hn)
  have HSame := Lib.hid (fun k => ((both0 (min n 6) T q0 q1 hq0 hq1).runI (by have := sum_rng T (min n 6); omega) (by omega) p k).same)
  have HB0 := Lib.hid hB00
  have HG := Lib.hid hG0
  have HZ := Lib.hid hz0
  have HP := Lib.hid hP
  obtain ⟨N, hN⟩ : ∃ N, N = min n 6 := ⟨_, rfl⟩
  obtain ⟨S, hS⟩ : ∃ S, S = sumN (tm T) (min n 6) := ⟨_, rfl⟩
  unfold TakP at HT1 HT2
  rw [← hS] at HT1 HT2
  rw [← hN] at HT1 HT2 HSame
  have hN6 : N ≤ 6 := by omega
  have HNN := Lib.hid hN
  clear hG hB00 hG0 hz0 hA hA0 hT hP hq0 hq1 hS hN
  go_enter Tryd.func6, Tryd.ntmps6
  go_wp2_with fail
  generalize hW0 : (w.alloc (.cells #[.int .u32 q0, .int .u32 q1] 24)) = w0 at *
  clear hW0
  with_reducible refine HT1.out.mono ?_
  rintro e w1 ⟨m1, ga, cga, rfl, hM1⟩
  have HM1 := Lib.hid hM1
  have y0 := kept hx0 hM1.bel
  have y1 := kept hx1 hM1.bel
  clear hM1 hx0 hx1
  go_wp2_with fail
  with_reducible refine (HT2.out _ HM1.out.bel).mono ?_
  rintro e w2 ⟨m2, gb, cgb, rfl, hM2⟩
  have HM2 := Lib.hid hM2
  have z0 := kept y0 hM2.bel
  have z1 := kept y1 hM2.bel
  clear hM2 y0 y1
  go_wp2_with fail
  with_reducible refine (awake_any _ HM2.out.sys.gok).mono ?_
  rintro e w3 ⟨rfl, hB3⟩
  have x0 := kept z0 hB3
  have x1 := kept z1 hB3
  have hd : ∀ k, m1.own k → ¬ m2.own k := fun k h1 h2 => by
    have := HM1.out.sys.own_lt k h1
    have := HM2.out.own k h2
    omega
  have HNA : Hid (¬ m2.own ga) := Lib.hid (fun h => by have := HM2.out.own ga h; have := HM1.out.gal.2; omega)
  have HNB : Hid (¬ m1.own gb) := Lib.hid (fun h => by have := HM1.out.sys.own_lt gb h; have := HM2.out.gal.1; omega)
  have hbz := HZ.out
  have HNX : Hid (¬ (m1.own w.heap.size ∨ m2.own w.heap.size)) := Lib.hid (fun h => by
    have := HM1.out.bel.size
    rcases h with h | h
    · have := HM1.out.own _ h; omega
    · have := HM2.out.own _ h; omega)
  have HPr : Hid (Pair m1 m2 w3 (sy0 T q0) (sy0 T q1) 2 2 w3) := Lib.hid ⟨(HM1.out.sys.keep HM2.out.bel).keep hB3, HM2.out.sys.keep hB3, Chg.refl _, hd⟩
  have HPA := Lib.hid (fun i (hi : i < m1.N) => kept (kept (HM1.out.ptr i hi) HM2.out.bel) hB3)
  have HPB := Lib.hid (fun i (hi : i < m2.N) => kept (HM2.out.ptr i hi) hB3)
  have HBw : Hid (Below w.heap.size w w3) := Lib.hid (by
    have h1 := HB0.out.size
    have h2 := HM1.out.bel
    have h3 := HM2.out.bel
    have h4 := h2.size
    have h5 := h3.size
    exact ((HB0.out.trans (h2.mono h1)).trans (h3.mono (by omega))).trans (hB3.mono (by omega)))
  have HO : Hid ((∀ k, m1.own k → w.heap.size ≤ k) ∧ (∀ k, m2.own k → w.heap.size ≤ k)) := Lib.hid (by
    have h1 := HB0.out.size
    have h4 := HM1.out.bel.size
    exact ⟨fun k hk => by have := HM1.out.own k hk; omega, fun k hk => by have := HM2.out.own k hk; omega⟩)
  have HGA := Lib.hid HM1.out.gan
  have HGB := Lib.hid HM2.out.gan
  have h1n := Lib.hid HM1.out.n3
  have h2n := Lib.hid HM2.out.n3
  have h1N : Hid (m1.N = N) := Lib.hid (by rw [HM1.out.N1, HNN.out])
  have h2N : Hid (m2.N = N) := Lib.hid (by rw [HM2.out.N1, HNN.out])
  clear hB3 z0 z1 hd HM1 HM2 hbz
  go_wp2_with fail
  go_loopw [15] (fun i wr => PairRel m1 m2 w3 (sy0 T q0) (sy0 T q1) p L N i wr) (fun i _ => 200 - (intOf i).toNat)
  case atStart => exact ⟨0, 2, 2, Nat.zero_le _, by omega, rfl, by omega, by omega, HPr.out⟩
  case round =>
    obtain ⟨k2, c1, c2, hk1, hk2, rfl, hc1, hc2, hPr⟩ := hrel
    have HQ := Lib.hid hPr
    have HC := Lib.hid (And.intro hc1 hc2)
    have HBr := Lib.hid (HBw.out.trans (hPr.below HO.out.1 HO.out.2 HBw.out.size))
    clear hPr hc1 hc2
    by_cases hlt : k2 < L
    · by_cases hlt2 : k2 < 200
      · obtain ⟨b, o, rfl⟩ := HP.out.head hlt
        have hcell := (HP.out.keep HBr.out).cell hlt
        have hsm := HSame.out k2
        have HSn := Lib.hid (HSame.out (k2 + 1))
        obtain ⟨s1, hs1⟩ : ∃ s, s = (sy0 T q0).runI 3 N p k2 := ⟨_, rfl⟩
        obtain ⟨s2, hs2⟩ : ∃ s, s = (sy0 T q1).runI 3 N p k2 := ⟨_, rfl⟩
        obtain ⟨t1, ht1⟩ : ∃ s, s = (sy0 T q0).runI 3 N p (k2 + 1) := ⟨_, rfl⟩
        obtain ⟨t2, ht2⟩ : ∃ s, s = (sy0 T q1).runI 3 N p (k2 + 1) := ⟨_, rfl⟩
        have e1 : s1.pickI 3 N (p k2) = t1 := by rw [hs1, ht1]; rfl
        have e2 : s2.pickI 3 N (p k2) = t2 := by rw [hs2, ht2]; rfl
        rw [← hs1, ← hs2] at HQ hsm
        rw [← ht1, ← ht2] at HSn
        have herr := hsm.err (p k2)
        obtain ⟨d, hd⟩ : ∃ d, d = s1.err N (p k2) := ⟨_, rfl⟩
        rw [← hd] at herr
        have hP1 := fun W (hB : Below wr.heap.size wr W) => pick_n m1 N h1n.out h1N.out s1 c1 (p k2) W (HQ.out.a.keep hB) (by have := HC.out; omega)
        have hP2 := fun c W (hc : 0 ≤ c ∧ c ≤ 1000000) (hB : Sys W m2 s2 c) => pick_n m2 N h2n.out h2N.out s2 c (p k2) W hB hc
        rw [e1, ← hd] at hP1
        rw [e2, ← herr] at hP2
        obtain ⟨y, hy⟩ : ∃ y, y = p k2 := ⟨_, rfl⟩
        rw [← hy] at hP1 hP2 hcell
        have HP1 := Lib.hid hP1
        have HP2 := Lib.hid hP2
        have HR1 := Lib.hid ht1
        have HR2 := Lib.hid ht2
        have HNow : Hid (b < w.heap.size) := Lib.hid (by
          obtain ⟨b', o', e, hb', _⟩ := HP.out _ hlt
          injection e with e; injection e with e; omega)
        clear hP1 hP2 hs1 hs2 ht1 ht2 e1 e2 hsm herr hd hy
        go_wp2_with fail
        go_region_held3 (fun w' => w'.cell? ⟨b, o + k2, none⟩ = some (.int .i64 y)) (go_keep)
          (first
            | (with_reducible refine (HP1.out _ (by first | exact (Below.refl _ _).drew | exact Below.refl _ _)).mono ?_
               rintro e w4 ⟨rfl, hs⟩
               obtain ⟨c3, hc3, hq3⟩ := (HQ.out.keep (by first | exact (Below.refl _ _).drew | exact Below.refl _ _)).one hs
               have HC3 := Lib.hid hc3
               have HQ3 := Lib.hid hq3
               have hcell4 : w4.cell? ⟨b, o + k2, none⟩ = some (.int .i64 y) := by
                 obtain ⟨_, _, _, _, hch⟩ := hs
                 exact hch.cell (by first | exact hcell | exact hcell5) (fun h => by have := HO.out.1 b h; have := HNow.out; omega)
               clear hs hc3 hq3)
            | (with_reducible refine (HP2.out c2 _ (by have := HC.out; omega) (by first | exact HQ3.out.b.drew | exact HQ3.out.b)).mono ?_
               rintro e w5 ⟨rfl, hs⟩
               obtain ⟨c4, hc4, hq4⟩ := (HQ3.out.keep (by first | exact (Below.refl _ _).drew | exact Below.refl _ _)).two hs
               have HC4 := Lib.hid hc4
               have HQ4 := Lib.hid hq4
               have hcell5 : w5.cell? ⟨b, o + k2, none⟩ = some (.int .i64 y) := by
                 obtain ⟨_, _, _, _, hch⟩ := hs
                 exact hch.cell hcell4 (fun h => by have := HO.out.2 b h; have := HNow.out; omega)
               clear hs hc4 hq4))
        all_goals
          have HL := load_at m1 t1 c3 2 2 rfl _ HQ4.out.a (by rw [h1n.out]; omega) (by have := HC.out; have := HC3.out; omega)
          have hcl := HSn.out.cell
          obtain ⟨v, hv⟩ : ∃ x, x = t1.f 2 := ⟨_, rfl⟩
          rw [← hv] at HL hcl
          have HLa := Lib.hid HL
          have HCl := Lib.hid hcl
          clear HL hcl hv hcell
          go_wp2_with fail
          with_reducible refine HLa.out.mono ?_
          rintro e w6 ⟨rfl, hs⟩
          obtain ⟨c5, hc5, hq5⟩ := HQ4.out.one hs
          have HC5 := Lib.hid hc5
          have HQ5 := Lib.hid hq5
          have HL := load_at m2 t2 c4 2 2 rfl _ hq5.b (by rw [h2n.out]; omega) (by have := HC.out; have := HC4.out; omega)
          rw [← HCl.out] at HL
          have HLb := Lib.hid HL
          clear hs hc5 hq5 HL
          go_wp2_with fail
          with_reducible refine HLb.out.mono ?_
          rintro e w7 ⟨rfl, hs⟩
          obtain ⟨c6, hc6, hq6⟩ := HQ5.out.two hs
          have HC6 := Lib.hid hc6
          have HQ6 := Lib.hid hq6
          have HE1 := left_n m1 N h1N.out t1 c5 w7 hq6.a
          have HE2 := left_n m2 N h2N.out t2 c6 w7 hq6.b
          rw [← HSn.out.left] at HE2
          obtain ⟨x, hx⟩ : ∃ x, x = leftN t1.l N := ⟨_, rfl⟩
          rw [← hx] at HE1 HE2
          have HEa := Lib.hid HE1
          have HEb := Lib.hid HE2
          have v0 := hq6.ch.cell x0 HNX.out
          have v1 := hq6.ch.cell x1 HNX.out
          clear hs hc6 hq6 HE1 HE2 hx
          go_wp2_with fail
          with_reducible refine HEa.out.mono ?_
          rintro e w8 ⟨rfl, rfl⟩
          go_wp2_with fail
          with_reducible refine HEb.out.mono ?_
          rintro e w8 ⟨rfl, rfl⟩
          go_wp2_with fail
          go_loopw [22] (fun j wr => ∃ j0 n : Nat, j0 ≤ N ∧ j = .int .i64 j0 ∧ wr = w7.drewN n) (fun j _ => N - (intOf j).toNat)
          case atStart => exact ⟨0, 0, Nat.zero_le _, rfl, rfl⟩
          case round =>
            obtain ⟨j, nd, hj, rfl, hwr⟩ := hrel
            have HWR := Lib.hid hwr
            clear hwr
            by_cases hlj : j < N
            · have hpa : wr.cell? ⟨ga, j, none⟩ = some (pt (m1.B j)) := by
                rw [HWR.out]
                exact HQ6.out.ch.cell (HPA.out j (by rw [h1N.out]; exact hlj)) (fun h => h.elim HGA.out HNA.out)
              have hpb : wr.cell? ⟨gb, j, none⟩ = some (pt (m2.B j)) := by
                rw [HWR.out]
                exact HQ6.out.ch.cell (HPB.out j (by rw [h2N.out]; exact hlj)) (fun h => h.elim HNB.out HGB.out)
              have u0 : wr.cell? ⟨w.heap.size, 0, none⟩ = some (.int .u32 q0) := by rw [HWR.out]; exact v0
              have u1 : wr.cell? ⟨w.heap.size, 1, none⟩ = some (.int .u32 q1) := by rw [HWR.out]; exact v1
              have hT1 := (HQ6.out.a.tsk j (by rw [h1N.out]; exact hlj)).drewN nd
              rw [← HWR.out] at hT1
              have hT2 := (HQ6.out.b.tsk j (by rw [h2N.out]; exact hlj)).drewN nd
              rw [← HWR.out] at hT2
              have A1 := fun n => quiet_mine (holds_any (m1.B j) (t1.l j) _ (hT1.drewN n))
              have A2 := fun n => quiet_mine (holds_any (m2.B j) (t2.l j) _ (hT2.drewN n))
              have A3 := fun n => quiet_mine (waits_any (m1.B j) (t1.l j) _ (hT1.drewN n))
              have A4 := fun n => quiet_mine (waits_any (m2.B j) (t2.l j) _ (hT2.drewN n))
              have A5 := fun n => quiet_mine (leftT_any (m1.B j) (t1.l j) _ (hT1.drewN n))
              have A6 := fun n => quiet_mine (leftT_any (m2.B j) (t2.l j) _ (hT2.drewN n))
              have A7 := fun n => quiet_mine (ticket_any (m1.B j) (t1.l j) _ (hT1.drewN n))
              have A8 := fun n => quiet_mine (ticket_any (m2.B j) (t2.l j) _ (hT2.drewN n))
              rw [← HSn.out.holds j hlj] at A2
              rw [← HSn.out.waits j hlj] at A4
              rw [← HSn.out.lefts j hlj] at A6
              have htk := HSn.out.tk j hlj
              obtain ⟨b1, hb1⟩ : ∃ b, b = (t1.l j).holds := ⟨_, rfl⟩
              obtain ⟨b2, hb2⟩ : ∃ b, b = (t1.l j).waits := ⟨_, rfl⟩
              obtain ⟨lf, hlf⟩ : ∃ b, b = (t1.l j).left := ⟨_, rfl⟩
              obtain ⟨k1, hk1'⟩ : ∃ b, b = (t1.l j).tk := ⟨_, rfl⟩
              obtain ⟨k3, hk3'⟩ : ∃ b, b = (t2.l j).tk := ⟨_, rfl⟩
              rw [← hb1] at A1 A2
              rw [← hb2] at A3 A4 htk
              rw [← hlf] at A5 A6
              rw [← hk1'] at A7 htk
              rw [← hk3'] at A8 htk
              have A1 := Lib.hid A1
              have A2 := Lib.hid A2
              have A3 := Lib.hid A3
              have A4 := Lib.hid A4
              have A5 := Lib.hid A5
              have A6 := Lib.hid A6
              have A7 := Lib.hid A7
              have A8 := Lib.hid A8
              have hji : (0 : Int) ≤ (j : Int) := by omega
              have hjn : (j : Int) < (N : Int) := by omega
              clear hT1 hT2 hb1 hb2 hlf hk1' hk3'
              cases b1
              all_goals cases b2
              all_goals try (
                have hsb := sub_same (htk rfl)
                obtain ⟨z, hz⟩ : ∃ z, z = IntKind.u32.wrap (k1 - q0) := ⟨_, rfl⟩
                rw [← hz] at hsb
                have hz1 := hz.symm
                have hz3 := hsb.symm
                clear hsb hz)
              all_goals
                clear htk
                go_wp2_with fail
                go_quiet (first | with_reducible exact A1.out _ | with_reducible exact A2.out _ | with_reducible exact A3.out _ | with_reducible exact A4.out _ | with_reducible exact A5.out _ | with_reducible exact A6.out _ | with_reducible exact A7.out _ | with_reducible exact A8.out _)
                go_wp2_with fail
                go_roundw
                case rel => exact ⟨j + 1, nd + nq, by omega, by go_num, by rw [HWR.out, World.drewN_drewN]⟩
                case measure => simp [intOf]; omega
            · obtain rfl : j = N := by omega
              go_wp2_with fail
              go_roundw
              case rel => exact ⟨k2 + 1, c5, c6, by omega, by omega, by go_num, by have := HC.out; have := HC3.out; have := HC5.out; omega, by have := HC.out; have := HC4.out; have := HC6.out; omega, by rw [← HR1.out, ← HR2.out, HWR.out]; exact HQ6.out.keep (below_drewN (Below.refl _ _) _)⟩
              case measure => simp [intOf]; omega
      · have hk200 : ¬ (k2 : Int) < 200 := by omega
        go_wp2_with fail
        go_ret
        exact ⟨rfl, HBr.out⟩
    · have hkL : ¬ (k2 : Int) < L := by omega
      go_wp2_with fail
      go_ret
      exact ⟨rfl, HBr.out⟩
end Go.Proofs.YtdegfadahlcgnaaDoor
