/-
  The walk of BarrierRuns.
-/
import Derived.Test.YtcjhbmkpfclmfaaDoorRunsA
namespace Go.Proofs.YtcjhbmkpfclmfaaDoor
open Go.RowKit

set_option maxHeartbeats 8000000 in
set_option maxRecDepth 100000 in
theorem walk_runs (P : Option Addr) (L cp : Nat) (p : Nat → Int) (x y : Int) (w : World) (hG : GOk w) (hy : 0 ≤ y ∧ y < 256) (hP : ArgN .i64 w.heap.size w P L p) (hnil : P = none → cp = 0) (_ : L ≤ 1000000000000000) :
    Calls Tryd.prog 6 #[.int .i64 x, .int .u8 y, .slice P L cp] w fun e w' => e = .returned (.bool true) ∧ Below w.heap.size w w' := by
  have HG := Lib.hid hG
  by_cases hL : ¬ L ≤ 300
  · have hL1 : (300 : Int) < L := by omega
    clear hG hP hnil hL
    go_enter Tryd.func6, Tryd.ntmps6
    go_wp2_with fail
    with_reducible refine (awake_any _ HG.out).mono ?_
    rintro e w2 ⟨rfl, hB2⟩
    have HB2 := Lib.hid hB2
    clear hB2
    go_wp2_with fail
    go_ret
    exact ⟨rfl, HB2.out⟩
  have hL : L ≤ 300 := by omega
  have hL1 : ¬ (300 : Int) < L := by omega
  obtain ⟨R, hR⟩ : ∃ R, R = y % 20 := ⟨_, rfl⟩
  have hR1 : 0 ≤ R ∧ R ≤ 19 := by omega
  obtain ⟨M, hM⟩ : ∃ M : Nat, (M : Int) = 10 * R + 10 := ⟨(10 * R + 10).toNat, by omega⟩
  have hm2 : y.tmod 20 = R := by rw [hR]; exact Int.tmod_eq_emod_of_nonneg (by omega)
  have hm3 : R.tmod 2 = R % 2 := Int.tmod_eq_emod_of_nonneg (by omega)
  have hw0 : IntKind.u32.wrap y = y := by rw [IntKind.wrap_u32']; omega
  have hw1 : IntKind.u32.wrap R = R := by rw [IntKind.wrap_u32']; omega
  have hw2 : IntKind.u32.wrap (R % 2) = R % 2 := by rw [IntKind.wrap_u32']; omega
  have hw3 : IntKind.i64.wrap R = R := IntWalk.i64_in _ (by omega)
  have hw4 : IntKind.i64.wrap (10 * R) = 10 * R := IntWalk.i64_in _ (by omega)
  have hw5 : IntKind.i64.wrap (10 * R + 10) = 10 * R + 10 := IntWalk.i64_in _ (by omega)
  have HP := Lib.hid hP
  have HNIL := Lib.hid hnil
  have HM := Lib.hid hM
  obtain ⟨hR1a, hR1b⟩ := hR1
  by_cases hn : ¬ (1 ≤ x ∧ x ≤ 8)
  · have hor : x < 1 ∨ (¬ x < 1 ∧ 8 < x) := by omega
    have HN := Lib.hid hn
    clear hG hP hnil hR hM hn
    rcases hor with hx1 | ⟨hx1, hx2⟩
    · go_enter Tryd.func6, Tryd.ntmps6
      go_wp2_with fail
      with_reducible refine (new_one 3 (by omega) (by omega) 3 rfl _).mono ?_
      rintro e w1 ⟨g, b, rfl, hM1, hg1, hb1, hB1⟩
      have HM1 := Lib.hid hM1
      have HI := Lib.hid (And.intro hg1 hb1)
      have HB1 := Lib.hid hB1
      clear hM1 hg1 hb1 hB1
      go_wp2_with fail
      with_reducible refine (awake_any _ (HG.out.below (six_of HG.out) HB1.out)).mono ?_
      rintro e w2 ⟨rfl, hB2⟩
      have HB2 := Lib.hid (HB1.out.trans (hB2.mono HB1.out.size))
      have HM2 := Lib.hid (HM1.out.keep hB2)
      clear hB2
      go_wp2_with (at_builtin; refine wpList_append_picks (S := fun k => k = g ∨ k = b) rfl _ _ rfl (HP.out.keep HB2.out) HNIL.out (by omega) (fun k hk => by have := HM2.out.ltg; have := HM2.out.row.lt; omega) (by rfl) (by rfl) ?_)
      intro A' cap' w4 hI4 hB4
      have HI4 := Lib.hid hI4
      have HM4 := Lib.hid (HM2.out.keep hB4)
      have HB4 := Lib.hid (HB2.out.trans (hB4.mono HB2.out.size))
      clear hI4 hB4
      go_wp2_with fail
      with_reducible refine (play_bad g 1 x R A' L cap' w4 HN.out).mono ?_
      rintro e w5 ⟨rfl, rfl⟩
      go_wp2_with fail
      go_ret
      exact ⟨rfl, HB4.out⟩
    · go_enter Tryd.func6, Tryd.ntmps6
      go_wp2_with fail
      with_reducible refine (new_one 3 (by omega) (by omega) 3 rfl _).mono ?_
      rintro e w1 ⟨g, b, rfl, hM1, hg1, hb1, hB1⟩
      have HM1 := Lib.hid hM1
      have HI := Lib.hid (And.intro hg1 hb1)
      have HB1 := Lib.hid hB1
      clear hM1 hg1 hb1 hB1
      go_wp2_with fail
      with_reducible refine (awake_any _ (HG.out.below (six_of HG.out) HB1.out)).mono ?_
      rintro e w2 ⟨rfl, hB2⟩
      have HB2 := Lib.hid (HB1.out.trans (hB2.mono HB1.out.size))
      have HM2 := Lib.hid (HM1.out.keep hB2)
      clear hB2
      go_wp2_with (at_builtin; refine wpList_append_picks (S := fun k => k = g ∨ k = b) rfl _ _ rfl (HP.out.keep HB2.out) HNIL.out (by omega) (fun k hk => by have := HM2.out.ltg; have := HM2.out.row.lt; omega) (by rfl) (by rfl) ?_)
      intro A' cap' w4 hI4 hB4
      have HI4 := Lib.hid hI4
      have HM4 := Lib.hid (HM2.out.keep hB4)
      have HB4 := Lib.hid (HB2.out.trans (hB4.mono HB2.out.size))
      clear hI4 hB4
      go_wp2_with fail
      with_reducible refine (play_bad g 1 x R A' L cap' w4 HN.out).mono ?_
      rintro e w5 ⟨rfl, rfl⟩
      go_wp2_with fail
      go_ret
      exact ⟨rfl, HB4.out⟩
  obtain ⟨n, hnx⟩ : ∃ n : Nat, x = n := ⟨x.toNat, by omega⟩
  subst hnx
  have hn1 : 1 ≤ n ∧ n ≤ 8 := by omega
  have HA := Lib.hid (runs_all n R p L M hn1 (by omega) hM)
  obtain ⟨hn1a, hn1b⟩ := hn1
  have hx1 : ¬ (n : Int) < 1 := by omega
  have hx2 : ¬ (8 : Int) < n := by omega
  clear hG hP hnil hR hM hn
  go_enter Tryd.func6, Tryd.ntmps6
  go_wp2_with fail
  with_reducible refine (new_one 3 (by omega) (by omega) 3 rfl _).mono ?_
  rintro e w1 ⟨g, b, rfl, hM1, hg1, hb1, hB1⟩
  have HM1 := Lib.hid hM1
  have HI := Lib.hid (And.intro hg1 hb1)
  have HB1 := Lib.hid hB1
  clear hM1 hg1 hb1 hB1
  go_wp2_with fail
  with_reducible refine (awake_any _ (HG.out.below (six_of HG.out) HB1.out)).mono ?_
  rintro e w2 ⟨rfl, hB2⟩
  have HB2 := Lib.hid (HB1.out.trans (hB2.mono HB1.out.size))
  have HM2 := Lib.hid (HM1.out.keep hB2)
  clear hB2
  go_wp2_with (at_builtin; refine wpList_append_picks (S := fun k => k = g ∨ k = b) rfl _ _ rfl (HP.out.keep HB2.out) HNIL.out (by omega) (fun k hk => by have := HM2.out.ltg; have := HM2.out.row.lt; omega) (by rfl) (by rfl) ?_)
  intro A' cap' w4 hI4 hB4
  have HI4 := Lib.hid hI4
  have HM4 := Lib.hid (HM2.out.keep hB4)
  have HB4 := Lib.hid (HB2.out.trans (hB4.mono HB2.out.size))
  clear hI4 hB4
  go_wp2_with fail
  with_reducible refine (play_any g b 3 1 n M 1 n R A' L cap' p 0 w4 rfl rfl (HG.out.below (six_of HG.out) HB4.out) (by omega) (by omega) (by omega) HM.out (by omega) HM4.out (by omega) (by have := HI.out; have := six_of HG.out; omega) (HI4.out.bound.mono fun k hk => by rcases hk with e | e | e; exact .inl (.inl e); exact .inl (.inr e); exact .inr e) (by omega) (by omega)).mono ?_
  rintro e w5 ⟨rfl, ⟨c5, hc5, hM5⟩, hC5⟩
  have HB5 := Lib.hid (HB4.out.trans (hC5.below (fun k hk => by have := HI.out; omega) HB4.out.size))
  have HM5 := Lib.hid hM5
  obtain ⟨cnt, hcnt⟩ : ∃ z, z = ((sy0 n 1 R).runI 3 n p L).count 3 n M := ⟨_, rfl⟩
  have HA1 := HA.out.1
  rw [← hcnt] at HA1 ⊢
  have HA1 := Lib.hid HA1
  clear hM5 hC5 hcnt
  go_wp2_with fail
  with_reducible refine (waiters_any n R w5 (HG.out.below (six_of HG.out) HB5.out) (by omega) (by omega) (by omega)).mono ?_
  rintro e w6 ⟨m, ga, cga, rfl, hMd⟩
  have HMd := Lib.hid hMd
  have HM6 := Lib.hid (HM5.out.keep hMd.bel)
  have HB6 := Lib.hid (HB5.out.trans (hMd.bel.mono HB5.out.size))
  have HX := Lib.hid (show ¬ m.own g ∧ ¬ m.own b from ⟨fun h => by have := hMd.own g h; have := HM5.out.ltg; omega, fun h => by have := hMd.own b h; have := HM5.out.row.lt; omega⟩)
  have hrun := run_any m _ 0 P L cp p w6 hMd.sys ((HP.out.keep HB6.out).ints fun k hk => Nat.le_trans HB5.out.size (hMd.own k hk)) (by omega) (by omega) (by omega)
  have HRN := Lib.hid hrun
  clear hMd hrun
  go_wp2_with fail
  with_reducible refine HRN.out.mono ?_
  rintro e w7 ⟨rfl, c7, hc1, hc2, hS7, hC7⟩
  have HS7 := Lib.hid hS7
  have HC7 := Lib.hid (And.intro hc1 hc2)
  have HM7 := Lib.hid (hC7.mem HM6.out HX.out.1 HX.out.2)
  have HB7 := Lib.hid (HB6.out.trans (hC7.below (fun k hk => Nat.le_trans HB5.out.size (HMd.out.own k hk)) HB6.out.size))
  clear hc1 hc2 hS7 hC7
  go_wp2_with fail
  with_reducible refine (words_any g b 3 _ c5 w7 HM7.out (by omega)).mono ?_
  rintro e w8 ⟨d, rfl, hU, hd, hB8⟩
  have HS8 := HS7.out.keep hB8
  have h0 := hU.cell (show 0 < 3 by omega)
  have h1 := hU.cell (show 1 < 3 by omega)
  have h2 := hU.cell (show 2 < 3 by omega)
  rw [HA.out.2.1] at h0
  rw [HA.out.2.2.1] at h1
  rw [HA.out.2.2.2] at h2
  have hdm : ¬ m.own d := fun h => by have := HS7.out.own_lt d h; omega
  have hrd := round_at m _ c7 M (10 * R + 10) (by rw [HM.out]) w8 HS8 (by have := HM.out; omega) (by rw [HMd.out.N1]; omega) (by have := HC7.out; omega) (by have := HC7.out; omega)
  rw [HMd.out.N1, HMd.out.n2, HA1.out] at hrd
  have HRD := Lib.hid hrd
  have HB8 := Lib.hid (HB7.out.trans (hB8.mono HB7.out.size))
  have H0 := Lib.hid h0
  have H1 := Lib.hid h1
  have H2 := Lib.hid h2
  have HDM := Lib.hid hdm
  clear hU hd hB8 HS8 h0 h1 h2 hdm hrd
  go_wp2_with fail
  with_reducible refine HRD.out.mono ?_
  rintro e w9 ⟨rfl, c9, _, _, _, hC9⟩
  have q0 : w9.cell? ⟨d, 0, none⟩ = some (.int .u32 0) := hC9.cell H0.out HDM.out
  have q1 : w9.cell? ⟨d, 1, none⟩ = some (.int .u32 0) := hC9.cell H1.out HDM.out
  have q2 : w9.cell? ⟨d, 2, none⟩ = some (.int .u32 (R % 2)) := hC9.cell H2.out HDM.out
  have HB9 := Lib.hid (HB8.out.trans (hC9.below (fun k hk => Nat.le_trans HB5.out.size (HMd.out.own k hk)) HB8.out.size))
  clear hC9
  go_wp2_with fail
  go_ret
  exact ⟨rfl, HB9.out⟩
end Go.Proofs.YtcjhbmkpfclmfaaDoor
