/-
  A piece of the walk.
-/
import Derived.Test.YtagfhlnedaagbaaWalkPlaysMain
namespace Go.Proofs.Ytagfhlnedaagbaa
open Go.RowKit
set_option linter.all false in
set_option maxHeartbeats 8000000 in
set_option maxRecDepth 100000 in
theorem part_WalkPlays_R : part_WalkPlays.R := by
  set_option tactic.hygienic false in intro
  set_option tactic.hygienic false in intros
  obtain ⟨pz, vA, vn, vc, rfl, rfl, HM⟩ := hcut
  have hq1 : (S.act (y0, y1, y2, y3)).q.length ≤ k + 1 ∧ (S.act (y0, y1, y2, y3)).n ≤ k + 1 := by
    have h1 := act_len S (y0, y1, y2, y3)
    have h2 := HQ.out
    omega
  obtain ⟨S', hS'⟩ : ∃ S', S' = S.act (y0, y1, y2, y3) := ⟨_, rfl⟩
  rw [← hS'] at HM hq1
  clear hS' HQ HW HPL
  have z0 := HM.out.z0
  have z1 := HM.out.z1
  obtain ⟨m0, m1, mf⟩ := HM.out.pm
  obtain ⟨w9, hw9⟩ : ∃ w9, w9 = (wc.setCell ⟨pm, 0, none⟩ (.slice vA vn vc)).setCell ⟨pm, 1, none⟩ (.int .i64 S'.now) := ⟨_, rfl⟩
  obtain ⟨v', L', hPL⟩ := HM.out.step hw9
  have hids := hPL.rel.ids hPL.lb.ln.ok
  have hLl : (L'.map toD).length ≤ 1000 := by rw [hPL.rel.len]; omega
  have HR := Lib.hid (listd_any (.slice vA vn vc) S'.now (L'.map toD) w9 hPL.row hLl)
  rw [hids] at HR
  have HPL := Lib.hid hPL
  have HQ1 := Lib.hid hq1
  obtain ⟨G, hG⟩ : ∃ G, G = S'.nums := ⟨_, rfl⟩
  rw [← hG] at HR
  have hGl : G.length ≤ 100000 := by rw [hG, nums_len]; omega
  have HG := Lib.hid hG
  clear HM hPL hids hLl hG hq1
  go_upto_region 10 with fail
  rw [← hw9]
  clear hw9 z0 z1 m0 m1 mf
  obtain ⟨m0, m1⟩ := And.intro HPL.out.m0 HPL.out.m1
  go_wp2_with fail
  with_reducible refine HR.out.mono ?_
  rintro e w10 ⟨vr, rfl, hRN, hB10, _⟩
  obtain ⟨rA, rc, rfl, hrA⟩ := hRN.len
  obtain ⟨n, hn⟩ : ∃ n, n = G.length := ⟨_, rfl⟩
  rw [← hn]
  rw [← hn] at hRN hrA
  have HPX := Lib.hid (HPL.out.keep hB10)
  have HF := Lib.hid (first_any w10 HPX.out.lb.ln)
  have HRN := Lib.hid hRN
  have HNN := Lib.hid hn
  clear hB10 hRN hn HR HPL m0 m1
  go_wp2_with fail
  with_reducible refine HF.out.mono ?_
  rintro e w11 ⟨rfl, rfl⟩
  clear HF
  have HL := Lib.hid (fun W (hB : Below w10.heap.size w10 W) => list_any W (HPX.out.keep hB).lb.ln (by have := HQ1.out.1; omega))
  rw [← HG.out] at HL
  have HNW := Lib.hid (fun W (hB : Below w10.heap.size w10 W) => now_any W (HPX.out.keep hB).lb.ln)
  have HM1 := Lib.hid (fun W (hB : Below w10.heap.size w10 W) => (HPX.out.keep hB).m1)
  obtain ⟨nw, hnw⟩ : ∃ nw, nw = S'.now := ⟨_, rfl⟩
  rw [← hnw] at HNW HM1
  have en : (nw != nw) = false := by simp
  clear hnw
  go_upto_region 12 with fail
  go_cut [8, 9, 10, 87] (fun _ _ _ bv wx => bv = .bool false ∧ Hid (Below w10.heap.size w10 wx))
  case first =>
    cases ha : S'.any with
    | true =>
      have hlen : 0 < n := by rw [HNN.out, HG.out, nums_len]; exact any_len ha
      have hfst : G.getD 0 0 = S'.first := by
        rw [HG.out]
        unfold Ln.nums Ln.first
        unfold Ln.any at ha
        cases hq : S'.q with
        | nil => rw [hq] at ha; cases ha
        | cons a r => rfl
      obtain ⟨f, hf⟩ : ∃ f, f = S'.first := ⟨_, rfl⟩
      rw [← hf] at hfst ⊢
      have ef : (f != f) = false := by simp
      have i5 : (0 : Int) < (n : Int) := by omega
      obtain ⟨rb, rfl⟩ := hrA hlen
      have HCZ := Lib.hid (fun W (hB : Below w10.heap.size w10 W) => show W.cell? ⟨rb, 0, none⟩ = some (nV f) from by rw [← hfst]; exact (HRN.out.keep hB).at (by rw [← HNN.out]; exact hlen))
      clear hfst hf ha
      refine wp_region_held_drew (S := fun W => Below w10.heap.size w10 W) (by kernel_rfl) (Below.refl _ _).drew (fun hHeld => ?_)
      refine wpAnyH_take (i := 0) (v := ?_) rfl (by kernel_rfl) (by kernel_rfl) (by kernel_rfl) (fun _ _ _ h => h) (Or.inl ⟨by rfl, ?_⟩) (by assumption) ?_
      rotate_left
      · intro W0 hSw
        try dsimp only at hSw
        go_simp
        try with_reducible rfl
      try go_simp
      refine wpAnyH_take (i := 1) (v := ?_) rfl (by kernel_rfl) (by kernel_rfl) (by kernel_rfl) (fun _ _ _ h => h) (Or.inl ⟨by rfl, ?_⟩) (by assumption) ?_
      rotate_left
      · intro W0 hSw
        try dsimp only at hSw
        go_simp
        try with_reducible rfl
      try go_simp
      refine wpAnyH_take (i := 2) (v := ?_) rfl (by kernel_rfl) (by kernel_rfl) (by kernel_rfl) (fun _ _ _ h => h) (Or.inl ⟨by rfl, ?_⟩) (by assumption) ?_
      rotate_left
      · intro W0 hSw
        try dsimp only at hSw
        go_simp
        try with_reducible rfl
      try go_simp
      refine wpAnyH_take (i := 3) (v := ?_) rfl (by kernel_rfl) (by kernel_rfl) (by kernel_rfl) (fun _ _ _ h => h) (Or.inl ⟨by rfl, ?_⟩) (by assumption) ?_
      rotate_left
      · intro W0 hSw
        try dsimp only at hSw
        go_simp
        try with_reducible rfl
      try go_simp
      refine wpAnyH_take (i := 5) (v := ?_) rfl (by kernel_rfl) (by kernel_rfl) (by kernel_rfl) (fun _ _ _ h => h) (Or.inl ⟨by rfl, ?_⟩) (by assumption) ?_
      rotate_left
      · intro W0 hSw
        try dsimp only at hSw
        go_simp
        try with_reducible rfl
      try go_simp
      obtain ⟨w4, hw4⟩ : ∃ w4, w4 = w10.drew := ⟨_, rfl⟩
      have hB4 : Below w10.heap.size w10 w4 := by rw [hw4]; exact hHeld
      rw [← hw4] at hHeld
      rw [← hw4]
      clear hw4
      refine wpAnyH_ready (rs := [4]) (by kernel_rfl) (by simp) (AllReadyH.cons rfl (fun K hK => ?_) AllReadyH.nil)
      go_simp
      refine (HL.out w4 hB4).mono ?_
      rintro e w5 ⟨vl, rfl, hN5, hB5, _⟩
      obtain ⟨lA, lc, rfl, _⟩ := hN5.len
      rw [← HNN.out]
      go_wp2_with fail
      refine hK.out _ _ ?hS (fun hHeld => ?_)
      case hS => exact below_two hB4 hB5
      clear hK K
      try go_simp
      have hB05 := below_two hB4 hB5
      have hsm := same_any lA (some ⟨rb, 0, none⟩) lc rc G G w5 hN5.ints (HRN.out.keep hB05).ints hGl
      rw [← HNN.out] at hsm
      refine wpAnyH_ready (rs := [6]) (by kernel_rfl) (by simp) (AllReadyH.cons rfl (fun K hK => ?_) AllReadyH.nil)
      go_simp
      refine (hsm).mono ?_
      rintro e w7 ⟨he, hB7⟩
      rw [decide_eq_true (show G = G from rfl)] at he
      obtain rfl := he
      go_wp2_with fail
      refine hK.out _ _ ?hS (fun hHeld => ?_)
      case hS => exact below_two hB05 hB7
      clear hK K
      try go_simp
      have hB07 := below_two hB05 hB7
      refine wpAnyH_take (i := 7) (v := ?_) rfl (by kernel_rfl) (by kernel_rfl) (by kernel_rfl) (fun _ _ _ h => h) (Or.inl ⟨by rfl, ?_⟩) (by assumption) ?_
      rotate_left
      · intro W0 hSw
        try dsimp only at hSw
        go_simp
        try with_reducible rfl
      try go_simp
      refine wpAnyH_take (i := 8) (v := ?_) rfl (by kernel_rfl) (by kernel_rfl) (by kernel_rfl) (fun _ _ _ h => h) (Or.inl ⟨by rfl, ?_⟩) (by assumption) ?_
      rotate_left
      · intro W0 hSw
        try dsimp only at hSw
        go_simp
        try with_reducible rfl
      try go_simp
      refine wpAnyH_take (i := 9) (v := ?_) rfl (by kernel_rfl) (by kernel_rfl) (by kernel_rfl) (fun _ _ _ h => h) (Or.inl ⟨by rfl, ?_⟩) (by assumption) ?_
      rotate_left
      · intro W0 hSw
        try dsimp only at hSw
        go_simp
        try with_reducible rfl
      try go_simp
      refine wpAnyH_take (i := 10) (v := ?_) rfl (by kernel_rfl) (by kernel_rfl) (by kernel_rfl) (fun _ _ _ h => h) (Or.inl ⟨by rfl, ?_⟩) (by assumption) ?_
      rotate_left
      · intro W0 hSw
        try dsimp only at hSw
        go_simp
        try with_reducible rfl
      try go_simp
      refine wpAnyH_take (i := 11) (v := ?_) rfl (by kernel_rfl) (by kernel_rfl) (by kernel_rfl) (fun _ _ _ h => h) (Or.inl ⟨by rfl, ?_⟩) (by assumption) ?_
      rotate_left
      · intro W0 hSw
        try dsimp only at hSw
        go_simp
        try with_reducible rfl
      try go_simp
      refine wpAnyH_take (i := 12) (v := ?_) rfl (by kernel_rfl) (by kernel_rfl) (by kernel_rfl) (fun _ _ _ h => h) (Or.inl ⟨by rfl, ?_⟩) (by assumption) ?_
      rotate_left
      · intro W0 hSw
        try dsimp only at hSw
        go_simp
        try with_reducible rfl
      try go_simp
      refine wpAnyH_take (i := 13) (v := ?_) rfl (by kernel_rfl) (by kernel_rfl) (by kernel_rfl) (fun _ _ _ h => h) (Or.inl ⟨by rfl, ?_⟩) (by assumption) ?_
      rotate_left
      · intro W0 hSw
        try dsimp only at hSw
        go_simp
        try with_reducible rfl
      try go_simp
      refine wpAnyH_take (i := 14) (v := ?_) rfl (by kernel_rfl) (by kernel_rfl) (by kernel_rfl) (fun _ _ _ h => h) (Or.inl ⟨by rfl, ?_⟩) (by assumption) ?_
      rotate_left
      · intro W0 hSw
        try dsimp only at hSw
        go_simp
        try with_reducible rfl
      try go_simp
      refine wpAnyH_take (i := 15) (v := ?_) rfl (by kernel_rfl) (by kernel_rfl) (by kernel_rfl) (fun _ _ _ h => h) (Or.inl ⟨by rfl, ?_⟩) (by assumption) ?_
      rotate_left
      · intro W0 hSw
        try dsimp only at hSw
        go_simp
        try with_reducible rfl
      try go_simp
      refine wpAnyH_take (i := 16) (v := ?_) rfl (by kernel_rfl) (by kernel_rfl) (by kernel_rfl) (fun _ _ _ h => h) (Or.inl ⟨by rfl, ?_⟩) (by assumption) ?_
      rotate_left
      · intro W0 hSw
        try dsimp only at hSw
        go_simp
        try with_reducible rfl
      try go_simp
      refine wpAnyH_take (i := 17) (v := ?_) rfl (by kernel_rfl) (by kernel_rfl) (by kernel_rfl) (fun _ _ _ h => h) (Or.inl ⟨by rfl, ?_⟩) (by assumption) ?_
      rotate_left
      · intro W0 hSw
        try dsimp only at hSw
        go_simp
        try with_reducible rfl
      try go_simp
      refine wpAnyH_take (i := 18) (v := ?_) rfl (by kernel_rfl) (by kernel_rfl) (by kernel_rfl) (fun _ _ _ h => h) (Or.inl ⟨by rfl, ?_⟩) (by assumption) ?_
      rotate_left
      · intro W0 hSw
        try dsimp only at hSw
        go_simp
        try with_reducible rfl
      try go_simp
      refine wpAnyH_take (i := 19) (v := ?_) rfl (by kernel_rfl) (by kernel_rfl) (by kernel_rfl) (fun _ _ _ h => h) (Or.inl ⟨by rfl, ?_⟩) (by assumption) ?_
      rotate_left
      · intro W0 hSw
        try dsimp only at hSw
        go_simp
        try with_reducible rfl
      try go_simp
      refine wpAnyH_take (i := 20) (v := ?_) rfl (by kernel_rfl) (by kernel_rfl) (by kernel_rfl) (fun _ _ _ h => h) (Or.inl ⟨by rfl, ?_⟩) (by assumption) ?_
      rotate_left
      · intro W0 hSw
        try dsimp only at hSw
        go_simp
        try with_reducible rfl
      try go_simp
      refine wpAnyH_take (i := 21) (v := ?_) rfl (by kernel_rfl) (by kernel_rfl) (by kernel_rfl) (fun _ _ _ h => h) (Or.inl ⟨by rfl, ?_⟩) (by assumption) ?_
      rotate_left
      · intro W0 hSw
        try dsimp only at hSw
        go_simp
        try with_reducible rfl
      try go_simp
      refine wpAnyH_take (i := 22) (v := ?_) rfl (by kernel_rfl) (by kernel_rfl) (by kernel_rfl) (fun _ _ _ h => h) (Or.inl ⟨by rfl, ?_⟩) (by assumption) ?_
      rotate_left
      · intro W0 hSw
        try dsimp only at hSw
        have kk := HCZ.out W0 hSw
        go_simp
        try with_reducible rfl
      try go_simp
      refine wpAnyH_take (i := 23) (v := ?_) rfl (by kernel_rfl) (by kernel_rfl) (by kernel_rfl) (fun _ _ _ h => h) (Or.inl ⟨by rfl, ?_⟩) (by assumption) ?_
      rotate_left
      · intro W0 hSw
        try dsimp only at hSw
        go_simp
        try with_reducible rfl
      try go_simp
      refine wpAnyH_take (i := 24) (v := ?_) rfl (by kernel_rfl) (by kernel_rfl) (by kernel_rfl) (fun _ _ _ h => h) (Or.inl ⟨by rfl, ?_⟩) (by assumption) ?_
      rotate_left
      · intro W0 hSw
        try dsimp only at hSw
        go_simp
        try with_reducible rfl
      try go_simp
      refine wpAnyH_take (i := 25) (v := ?_) rfl (by kernel_rfl) (by kernel_rfl) (by kernel_rfl) (fun _ _ _ h => h) (Or.inl ⟨by rfl, ?_⟩) (by assumption) ?_
      rotate_left
      · intro W0 hSw
        try dsimp only at hSw
        go_simp
        try with_reducible rfl
      try go_simp
      refine wpAnyH_take (i := 26) (v := ?_) rfl (by kernel_rfl) (by kernel_rfl) (by kernel_rfl) (fun _ _ _ h => h) (Or.inl ⟨by rfl, ?_⟩) (by assumption) ?_
      rotate_left
      · intro W0 hSw
        try dsimp only at hSw
        go_simp
        try with_reducible rfl
      try go_simp
      refine wpAnyH_take (i := 27) (v := ?_) rfl (by kernel_rfl) (by kernel_rfl) (by kernel_rfl) (fun _ _ _ h => h) (Or.inl ⟨by rfl, ?_⟩) (by assumption) ?_
      rotate_left
      · intro W0 hSw
        try dsimp only at hSw
        go_simp
        try with_reducible rfl
      try go_simp
      refine wpAnyH_take (i := 28) (v := ?_) rfl (by kernel_rfl) (by kernel_rfl) (by kernel_rfl) (fun _ _ _ h => h) (Or.inl ⟨by rfl, ?_⟩) (by assumption) ?_
      rotate_left
      · intro W0 hSw
        try dsimp only at hSw
        go_simp
        try with_reducible rfl
      try go_simp
      refine wpAnyH_take (i := 29) (v := ?_) rfl (by kernel_rfl) (by kernel_rfl) (by kernel_rfl) (fun _ _ _ h => h) (Or.inl ⟨by rfl, ?_⟩) (by assumption) ?_
      rotate_left
      · intro W0 hSw
        try dsimp only at hSw
        go_simp
        try with_reducible rfl
      try go_simp
      refine wpAnyH_take (i := 30) (v := undef) rfl (by kernel_rfl) (by kernel_rfl) (by kernel_rfl) (fun _ _ _ h => h) (Or.inr ⟨by rfl, rfl⟩) (by assumption) ?_
      try go_simp
      refine wpAnyH_take (i := 31) (v := undef) rfl (by kernel_rfl) (by kernel_rfl) (by kernel_rfl) (fun _ _ _ h => h) (Or.inr ⟨by rfl, rfl⟩) (by assumption) ?_
      try go_simp
      refine wpAnyH_take (i := 32) (v := ?_) rfl (by kernel_rfl) (by kernel_rfl) (by kernel_rfl) (fun _ _ _ h => h) (Or.inl ⟨by rfl, ?_⟩) (by assumption) ?_
      rotate_left
      · intro W0 hSw
        try dsimp only at hSw
        go_simp
        try with_reducible rfl
      try go_simp
      refine wpAnyH_take (i := 33) (v := ?_) rfl (by kernel_rfl) (by kernel_rfl) (by kernel_rfl) (fun _ _ _ h => h) (Or.inl ⟨by rfl, ?_⟩) (by assumption) ?_
      rotate_left
      · intro W0 hSw
        try dsimp only at hSw
        go_simp
        try with_reducible rfl
      try go_simp
      refine wpAnyH_take (i := 34) (v := ?_) rfl (by kernel_rfl) (by kernel_rfl) (by kernel_rfl) (fun _ _ _ h => h) (Or.inl ⟨by rfl, ?_⟩) (by assumption) ?_
      rotate_left
      · intro W0 hSw
        try dsimp only at hSw
        go_simp
        try with_reducible rfl
      try go_simp
      refine wpAnyH_take (i := 35) (v := ?_) rfl (by kernel_rfl) (by kernel_rfl) (by kernel_rfl) (fun _ _ _ h => h) (Or.inl ⟨by rfl, ?_⟩) (by assumption) ?_
      rotate_left
      · intro W0 hSw
        try dsimp only at hSw
        go_simp
        try with_reducible rfl
      try go_simp
      refine wpAnyH_take (i := 37) (v := ?_) rfl (by kernel_rfl) (by kernel_rfl) (by kernel_rfl) (fun _ _ _ h => h) (Or.inl ⟨by rfl, ?_⟩) (by assumption) ?_
      rotate_left
      · intro W0 hSw
        try dsimp only at hSw
        go_simp
        try with_reducible rfl
      try go_simp
      refine wpAnyH_take (i := 38) (v := ?_) rfl (by kernel_rfl) (by kernel_rfl) (by kernel_rfl) (fun _ _ _ h => h) (Or.inl ⟨by rfl, ?_⟩) (by assumption) ?_
      rotate_left
      · intro W0 hSw
        try dsimp only at hSw
        have kk := HM1.out W0 hSw
        go_simp
        try with_reducible rfl
      try go_simp
      refine wpAnyH_ready (rs := [36]) (by kernel_rfl) (by simp) (AllReadyH.cons rfl (fun K hK => ?_) AllReadyH.nil)
      go_simp
      refine (HNW.out w7 hB07).mono ?_
      rintro e _ ⟨rfl, rfl⟩
      go_wp2_with fail
      refine hK.out _ _ ?hS (fun hHeld => ?_)
      case hS => exact hB07
      clear hK K
      try go_simp
      refine wpAnyH_take (i := 39) (v := ?_) rfl (by kernel_rfl) (by kernel_rfl) (by kernel_rfl) (fun _ _ _ h => h) (Or.inl ⟨by rfl, ?_⟩) (by assumption) ?_
      rotate_left
      · intro W0 hSw
        try dsimp only at hSw
        go_simp
        try with_reducible rfl
      try go_simp
      refine wpAnyH_take (i := 40) (v := ?_) rfl (by kernel_rfl) (by kernel_rfl) (by kernel_rfl) (fun _ _ _ h => h) (Or.inl ⟨by rfl, ?_⟩) (by assumption) ?_
      rotate_left
      · intro W0 hSw
        try dsimp only at hSw
        go_simp
        try with_reducible rfl
      try go_simp
      have hBB : Hid (Below w10.heap.size w10 w7) := hB07
      clear hN5 hB5 hB7 hB05 hB07 hB4 hHeld hsm
      refine wpAnyH_done (by kernel_rfl) ?_ _
      go_wp2_with fail
      go_meet
      exact ⟨rfl, hBB⟩
    | false =>
      have hn0 : S'.q.length = 0 := any_not (by rw [ha]; simp)
      have hlen : n = 0 := by rw [HNN.out, HG.out, nums_len]; exact hn0
      have hfst : S'.first = 0 := by
        unfold Ln.first
        cases hq : S'.q with
        | nil => rfl
        | cons a r => rw [hq] at hn0; cases hn0
      rw [hfst]
      subst hlen
      clear hfst hn0 ha
      refine wp_region_held_drew (S := fun W => Below w10.heap.size w10 W) (by kernel_rfl) (Below.refl _ _).drew (fun hHeld => ?_)
      refine wpAnyH_take (i := 0) (v := ?_) rfl (by kernel_rfl) (by kernel_rfl) (by kernel_rfl) (fun _ _ _ h => h) (Or.inl ⟨by rfl, ?_⟩) (by assumption) ?_
      rotate_left
      · intro W0 hSw
        try dsimp only at hSw
        go_simp
        try with_reducible rfl
      try go_simp
      refine wpAnyH_take (i := 1) (v := ?_) rfl (by kernel_rfl) (by kernel_rfl) (by kernel_rfl) (fun _ _ _ h => h) (Or.inl ⟨by rfl, ?_⟩) (by assumption) ?_
      rotate_left
      · intro W0 hSw
        try dsimp only at hSw
        go_simp
        try with_reducible rfl
      try go_simp
      refine wpAnyH_take (i := 2) (v := ?_) rfl (by kernel_rfl) (by kernel_rfl) (by kernel_rfl) (fun _ _ _ h => h) (Or.inl ⟨by rfl, ?_⟩) (by assumption) ?_
      rotate_left
      · intro W0 hSw
        try dsimp only at hSw
        go_simp
        try with_reducible rfl
      try go_simp
      refine wpAnyH_take (i := 3) (v := ?_) rfl (by kernel_rfl) (by kernel_rfl) (by kernel_rfl) (fun _ _ _ h => h) (Or.inl ⟨by rfl, ?_⟩) (by assumption) ?_
      rotate_left
      · intro W0 hSw
        try dsimp only at hSw
        go_simp
        try with_reducible rfl
      try go_simp
      refine wpAnyH_take (i := 5) (v := ?_) rfl (by kernel_rfl) (by kernel_rfl) (by kernel_rfl) (fun _ _ _ h => h) (Or.inl ⟨by rfl, ?_⟩) (by assumption) ?_
      rotate_left
      · intro W0 hSw
        try dsimp only at hSw
        go_simp
        try with_reducible rfl
      try go_simp
      obtain ⟨w4, hw4⟩ : ∃ w4, w4 = w10.drew := ⟨_, rfl⟩
      have hB4 : Below w10.heap.size w10 w4 := by rw [hw4]; exact hHeld
      rw [← hw4] at hHeld
      rw [← hw4]
      clear hw4
      refine wpAnyH_ready (rs := [4]) (by kernel_rfl) (by simp) (AllReadyH.cons rfl (fun K hK => ?_) AllReadyH.nil)
      go_simp
      refine (HL.out w4 hB4).mono ?_
      rintro e w5 ⟨vl, rfl, hN5, hB5, _⟩
      obtain ⟨lA, lc, rfl, _⟩ := hN5.len
      rw [← HNN.out]
      go_wp2_with fail
      refine hK.out _ _ ?hS (fun hHeld => ?_)
      case hS => exact below_two hB4 hB5
      clear hK K
      try go_simp
      have hB05 := below_two hB4 hB5
      have hsm := same_any lA rA lc rc G G w5 hN5.ints (HRN.out.keep hB05).ints hGl
      rw [← HNN.out] at hsm
      refine wpAnyH_ready (rs := [6]) (by kernel_rfl) (by simp) (AllReadyH.cons rfl (fun K hK => ?_) AllReadyH.nil)
      go_simp
      refine (hsm).mono ?_
      rintro e w7 ⟨he, hB7⟩
      rw [decide_eq_true (show G = G from rfl)] at he
      obtain rfl := he
      go_wp2_with fail
      refine hK.out _ _ ?hS (fun hHeld => ?_)
      case hS => exact below_two hB05 hB7
      clear hK K
      try go_simp
      have hB07 := below_two hB05 hB7
      refine wpAnyH_take (i := 7) (v := ?_) rfl (by kernel_rfl) (by kernel_rfl) (by kernel_rfl) (fun _ _ _ h => h) (Or.inl ⟨by rfl, ?_⟩) (by assumption) ?_
      rotate_left
      · intro W0 hSw
        try dsimp only at hSw
        go_simp
        try with_reducible rfl
      try go_simp
      refine wpAnyH_take (i := 8) (v := ?_) rfl (by kernel_rfl) (by kernel_rfl) (by kernel_rfl) (fun _ _ _ h => h) (Or.inl ⟨by rfl, ?_⟩) (by assumption) ?_
      rotate_left
      · intro W0 hSw
        try dsimp only at hSw
        go_simp
        try with_reducible rfl
      try go_simp
      refine wpAnyH_take (i := 9) (v := ?_) rfl (by kernel_rfl) (by kernel_rfl) (by kernel_rfl) (fun _ _ _ h => h) (Or.inl ⟨by rfl, ?_⟩) (by assumption) ?_
      rotate_left
      · intro W0 hSw
        try dsimp only at hSw
        go_simp
        try with_reducible rfl
      try go_simp
      refine wpAnyH_take (i := 10) (v := ?_) rfl (by kernel_rfl) (by kernel_rfl) (by kernel_rfl) (fun _ _ _ h => h) (Or.inl ⟨by rfl, ?_⟩) (by assumption) ?_
      rotate_left
      · intro W0 hSw
        try dsimp only at hSw
        go_simp
        try with_reducible rfl
      try go_simp
      refine wpAnyH_take (i := 11) (v := ?_) rfl (by kernel_rfl) (by kernel_rfl) (by kernel_rfl) (fun _ _ _ h => h) (Or.inl ⟨by rfl, ?_⟩) (by assumption) ?_
      rotate_left
      · intro W0 hSw
        try dsimp only at hSw
        go_simp
        try with_reducible rfl
      try go_simp
      refine wpAnyH_take (i := 12) (v := ?_) rfl (by kernel_rfl) (by kernel_rfl) (by kernel_rfl) (fun _ _ _ h => h) (Or.inl ⟨by rfl, ?_⟩) (by assumption) ?_
      rotate_left
      · intro W0 hSw
        try dsimp only at hSw
        go_simp
        try with_reducible rfl
      try go_simp
      refine wpAnyH_take (i := 13) (v := ?_) rfl (by kernel_rfl) (by kernel_rfl) (by kernel_rfl) (fun _ _ _ h => h) (Or.inl ⟨by rfl, ?_⟩) (by assumption) ?_
      rotate_left
      · intro W0 hSw
        try dsimp only at hSw
        go_simp
        try with_reducible rfl
      try go_simp
      refine wpAnyH_take (i := 14) (v := ?_) rfl (by kernel_rfl) (by kernel_rfl) (by kernel_rfl) (fun _ _ _ h => h) (Or.inl ⟨by rfl, ?_⟩) (by assumption) ?_
      rotate_left
      · intro W0 hSw
        try dsimp only at hSw
        go_simp
        try with_reducible rfl
      try go_simp
      refine wpAnyH_take (i := 15) (v := ?_) rfl (by kernel_rfl) (by kernel_rfl) (by kernel_rfl) (fun _ _ _ h => h) (Or.inl ⟨by rfl, ?_⟩) (by assumption) ?_
      rotate_left
      · intro W0 hSw
        try dsimp only at hSw
        go_simp
        try with_reducible rfl
      try go_simp
      refine wpAnyH_take (i := 16) (v := ?_) rfl (by kernel_rfl) (by kernel_rfl) (by kernel_rfl) (fun _ _ _ h => h) (Or.inl ⟨by rfl, ?_⟩) (by assumption) ?_
      rotate_left
      · intro W0 hSw
        try dsimp only at hSw
        go_simp
        try with_reducible rfl
      try go_simp
      refine wpAnyH_take (i := 17) (v := ?_) rfl (by kernel_rfl) (by kernel_rfl) (by kernel_rfl) (fun _ _ _ h => h) (Or.inl ⟨by rfl, ?_⟩) (by assumption) ?_
      rotate_left
      · intro W0 hSw
        try dsimp only at hSw
        go_simp
        try with_reducible rfl
      try go_simp
      refine wpAnyH_take (i := 18) (v := ?_) rfl (by kernel_rfl) (by kernel_rfl) (by kernel_rfl) (fun _ _ _ h => h) (Or.inl ⟨by rfl, ?_⟩) (by assumption) ?_
      rotate_left
      · intro W0 hSw
        try dsimp only at hSw
        go_simp
        try with_reducible rfl
      try go_simp
      refine wpAnyH_take (i := 19) (v := undef) rfl (by kernel_rfl) (by kernel_rfl) (by kernel_rfl) (fun _ _ _ h => h) (Or.inr ⟨by rfl, rfl⟩) (by assumption) ?_
      try go_simp
      refine wpAnyH_take (i := 20) (v := undef) rfl (by kernel_rfl) (by kernel_rfl) (by kernel_rfl) (fun _ _ _ h => h) (Or.inr ⟨by rfl, rfl⟩) (by assumption) ?_
      try go_simp
      refine wpAnyH_take (i := 21) (v := undef) rfl (by kernel_rfl) (by kernel_rfl) (by kernel_rfl) (fun _ _ _ h => h) (Or.inr ⟨by rfl, rfl⟩) (by assumption) ?_
      try go_simp
      refine wpAnyH_take (i := 22) (v := undef) rfl (by kernel_rfl) (by kernel_rfl) (by kernel_rfl) (fun _ _ _ h => h) (Or.inr ⟨by rfl, rfl⟩) (by assumption) ?_
      try go_simp
      refine wpAnyH_take (i := 23) (v := undef) rfl (by kernel_rfl) (by kernel_rfl) (by kernel_rfl) (fun _ _ _ h => h) (Or.inr ⟨by rfl, rfl⟩) (by assumption) ?_
      try go_simp
      refine wpAnyH_take (i := 24) (v := ?_) rfl (by kernel_rfl) (by kernel_rfl) (by kernel_rfl) (fun _ _ _ h => h) (Or.inl ⟨by rfl, ?_⟩) (by assumption) ?_
      rotate_left
      · intro W0 hSw
        try dsimp only at hSw
        go_simp
        try with_reducible rfl
      try go_simp
      refine wpAnyH_take (i := 25) (v := ?_) rfl (by kernel_rfl) (by kernel_rfl) (by kernel_rfl) (fun _ _ _ h => h) (Or.inl ⟨by rfl, ?_⟩) (by assumption) ?_
      rotate_left
      · intro W0 hSw
        try dsimp only at hSw
        go_simp
        try with_reducible rfl
      try go_simp
      refine wpAnyH_take (i := 26) (v := ?_) rfl (by kernel_rfl) (by kernel_rfl) (by kernel_rfl) (fun _ _ _ h => h) (Or.inl ⟨by rfl, ?_⟩) (by assumption) ?_
      rotate_left
      · intro W0 hSw
        try dsimp only at hSw
        go_simp
        try with_reducible rfl
      try go_simp
      refine wpAnyH_take (i := 27) (v := ?_) rfl (by kernel_rfl) (by kernel_rfl) (by kernel_rfl) (fun _ _ _ h => h) (Or.inl ⟨by rfl, ?_⟩) (by assumption) ?_
      rotate_left
      · intro W0 hSw
        try dsimp only at hSw
        go_simp
        try with_reducible rfl
      try go_simp
      refine wpAnyH_take (i := 28) (v := ?_) rfl (by kernel_rfl) (by kernel_rfl) (by kernel_rfl) (fun _ _ _ h => h) (Or.inl ⟨by rfl, ?_⟩) (by assumption) ?_
      rotate_left
      · intro W0 hSw
        try dsimp only at hSw
        go_simp
        try with_reducible rfl
      try go_simp
      refine wpAnyH_take (i := 29) (v := ?_) rfl (by kernel_rfl) (by kernel_rfl) (by kernel_rfl) (fun _ _ _ h => h) (Or.inl ⟨by rfl, ?_⟩) (by assumption) ?_
      rotate_left
      · intro W0 hSw
        try dsimp only at hSw
        go_simp
        try with_reducible rfl
      try go_simp
      refine wpAnyH_take (i := 30) (v := ?_) rfl (by kernel_rfl) (by kernel_rfl) (by kernel_rfl) (fun _ _ _ h => h) (Or.inl ⟨by rfl, ?_⟩) (by assumption) ?_
      rotate_left
      · intro W0 hSw
        try dsimp only at hSw
        go_simp
        try with_reducible rfl
      try go_simp
      refine wpAnyH_take (i := 31) (v := ?_) rfl (by kernel_rfl) (by kernel_rfl) (by kernel_rfl) (fun _ _ _ h => h) (Or.inl ⟨by rfl, ?_⟩) (by assumption) ?_
      rotate_left
      · intro W0 hSw
        try dsimp only at hSw
        go_simp
        try with_reducible rfl
      try go_simp
      refine wpAnyH_take (i := 32) (v := ?_) rfl (by kernel_rfl) (by kernel_rfl) (by kernel_rfl) (fun _ _ _ h => h) (Or.inl ⟨by rfl, ?_⟩) (by assumption) ?_
      rotate_left
      · intro W0 hSw
        try dsimp only at hSw
        go_simp
        try with_reducible rfl
      try go_simp
      refine wpAnyH_take (i := 33) (v := ?_) rfl (by kernel_rfl) (by kernel_rfl) (by kernel_rfl) (fun _ _ _ h => h) (Or.inl ⟨by rfl, ?_⟩) (by assumption) ?_
      rotate_left
      · intro W0 hSw
        try dsimp only at hSw
        go_simp
        try with_reducible rfl
      try go_simp
      refine wpAnyH_take (i := 34) (v := ?_) rfl (by kernel_rfl) (by kernel_rfl) (by kernel_rfl) (fun _ _ _ h => h) (Or.inl ⟨by rfl, ?_⟩) (by assumption) ?_
      rotate_left
      · intro W0 hSw
        try dsimp only at hSw
        go_simp
        try with_reducible rfl
      try go_simp
      refine wpAnyH_take (i := 35) (v := ?_) rfl (by kernel_rfl) (by kernel_rfl) (by kernel_rfl) (fun _ _ _ h => h) (Or.inl ⟨by rfl, ?_⟩) (by assumption) ?_
      rotate_left
      · intro W0 hSw
        try dsimp only at hSw
        go_simp
        try with_reducible rfl
      try go_simp
      refine wpAnyH_take (i := 37) (v := ?_) rfl (by kernel_rfl) (by kernel_rfl) (by kernel_rfl) (fun _ _ _ h => h) (Or.inl ⟨by rfl, ?_⟩) (by assumption) ?_
      rotate_left
      · intro W0 hSw
        try dsimp only at hSw
        go_simp
        try with_reducible rfl
      try go_simp
      refine wpAnyH_take (i := 38) (v := ?_) rfl (by kernel_rfl) (by kernel_rfl) (by kernel_rfl) (fun _ _ _ h => h) (Or.inl ⟨by rfl, ?_⟩) (by assumption) ?_
      rotate_left
      · intro W0 hSw
        try dsimp only at hSw
        have kk := HM1.out W0 hSw
        go_simp
        try with_reducible rfl
      try go_simp
      refine wpAnyH_ready (rs := [36]) (by kernel_rfl) (by simp) (AllReadyH.cons rfl (fun K hK => ?_) AllReadyH.nil)
      go_simp
      refine (HNW.out w7 hB07).mono ?_
      rintro e _ ⟨rfl, rfl⟩
      go_wp2_with fail
      refine hK.out _ _ ?hS (fun hHeld => ?_)
      case hS => exact hB07
      clear hK K
      try go_simp
      refine wpAnyH_take (i := 39) (v := ?_) rfl (by kernel_rfl) (by kernel_rfl) (by kernel_rfl) (fun _ _ _ h => h) (Or.inl ⟨by rfl, ?_⟩) (by assumption) ?_
      rotate_left
      · intro W0 hSw
        try dsimp only at hSw
        go_simp
        try with_reducible rfl
      try go_simp
      refine wpAnyH_take (i := 40) (v := ?_) rfl (by kernel_rfl) (by kernel_rfl) (by kernel_rfl) (fun _ _ _ h => h) (Or.inl ⟨by rfl, ?_⟩) (by assumption) ?_
      rotate_left
      · intro W0 hSw
        try dsimp only at hSw
        go_simp
        try with_reducible rfl
      try go_simp
      have hBB : Hid (Below w10.heap.size w10 w7) := hB07
      clear hN5 hB5 hB7 hB05 hB07 hB4 hHeld hsm
      refine wpAnyH_done (by kernel_rfl) ?_ _
      go_wp2_with fail
      go_meet
      exact ⟨rfl, hBB⟩
  case rest =>
    obtain ⟨rfl, HBB⟩ := hcut
    have hPF := HPX.out.keep HBB.out
    have HX : Hid (LpK w.heap.size w wc pm g (k + 1)) := ⟨b, v', S', _, L', hPF, HQ1.out.1, HQ1.out.2⟩
    clear hPF HL HNW HM1 HRN HPX
    go_wp2_with fail
    go_roundw
    case rel => exact ⟨k + 1, by go_num, by omega, HX⟩
    case measure => first | (simp [intOf]; done) | (simp [intOf]; omega)
end Go.Proofs.Ytagfhlnedaagbaa
