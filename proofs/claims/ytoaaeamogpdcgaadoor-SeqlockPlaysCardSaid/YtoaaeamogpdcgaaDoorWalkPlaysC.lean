/-
  A piece of the walk.
-/
import Derived.Test.YtoaaeamogpdcgaaDoorWalkPlaysMain
namespace Go.Proofs.YtoaaeamogpdcgaaDoor
open Go.RowKit
set_option linter.all false in
set_option maxHeartbeats 8000000 in
set_option maxRecDepth 100000 in
theorem part_WalkPlays_C : part_WalkPlays.C := by
  set_option tactic.hygienic false in intro
  set_option tactic.hygienic false in intros
  have hgot : e2.got = true := by rw [hC.rs.gt, hp]; rfl
  have hl2 := hC.rs.l2 (.inr hp)
  have HG := Lib.hid (sq_got_yes hC.sq hp)
  have HC := Lib.hid hC
  have HB6 := Lib.hid hb6
  have HB8 := Lib.hid hb8
  have HL2 := Lib.hid hl2
  have HPK := Lib.hid (And.intro hgot (And.intro hqt (And.intro hdw (And.intro htw htt))))
  clear hC hb6 hb8 hl2 hgot hqt hdw htw htt hp
  go_wp2_with fail
  with_reducible refine HG.out.mono ?_
  rintro z w7 ⟨dd, rfl, hrow, hdd, hsq, hB7⟩
  have hC7 := HC.out.keep hB7
  have hb6 := HB6.out.same (hB7.block _ HC.out.vlt)
  have hb8 := HB8.out.same (hB7.block _ HC.out.qlt)
  obtain ⟨c7, hc70, hc71, hmem⟩ := hC7.sq.mem
  have husg : Us w7 (some ⟨dd, 0, none⟩) r2.k.n r2.ws := fun i hi => ⟨dd, 0, rfl, by rw [Nat.zero_add]; exact hrow.cell (by have := HNR2.out; omega)⟩
  have husl : Us w7 e2.pL r2.k.n r2.ws := HL2.out.2.keep hB7
  have HC7 := Lib.hid hC7
  have HU7 := Lib.hid (And.intro husg husl)
  have HBB7 := Lib.hid (HBZ.out.trans (hB7.mono HBZ.out.size))
  have HN6 := Lib.hid hb6
  have HN8 := Lib.hid hb8
  have K21 := Lib.hid (fun W (hB : Below w7.heap.size w7 W) => sq_written (hC7.sq.keep hB) tw (by rw [HPK.out.2.2.2.1]))
  have k22 := fun W (hB : Below w7.heap.size w7 W) => dwritten_any d2 _ _ _ (F 0).n W (hC7.ok.keep hB) HDLE.out.1 HDLE.out.2
  simp only [HPK.out.2.2.1, dwV] at k22
  have K22 := Lib.hid k22
  have K24 := Lib.hid (fun W (hB : Below w7.heap.size w7 W) => words_any g b 40 f2 c7 W (hmem.keep hB) (by omega))
  have K25 := Lib.hid (fun W (hB : Below w7.heap.size w7 W) => sq_tries (hC7.sq.keep hB) tt (by rw [HPK.out.2.2.2.2]))
  have HUU := Lib.hid hC7.us
  have HLN := Lib.hid HL2.out.1
  obtain ⟨v0, v1, v2, v3, v4, v5⟩ := hb6
  obtain ⟨_, _, _, _, y4, y5, _, y7⟩ := hb8
  rw [HPK.out.1] at y5
  rw [HPK.out.2.1] at y7
  rw [HLN.out] at y4
  have hnl : r2.k.n ≤ 32 := HNR2.out.2
  obtain ⟨nk, hnk⟩ : ∃ nk, nk = r2.k.n := ⟨_, rfl⟩
  rw [← hnk] at y4 hnl HU7 ⊢
  clear hrow hdd hsq hB7 hC7 hmem husg husl k22 hnk HG
  go_upto_region 31 with fail
  go_cut [238] (fun bv wx => bv = .bool false ∧ Hid (Below w7.heap.size w7 wx))
  case first =>
    refine wp_region_held_drew (S := fun W => Below w7.heap.size w7 W) (by kernel_rfl) (Below.refl _ _).drew (fun hHeld => ?_)
    refine wpAnyH_take (i := 0) (v := ?_) rfl (by kernel_rfl) (by kernel_rfl) (by kernel_rfl) (fun _ _ _ h => h) (Or.inl ⟨by rfl, ?_⟩) (by assumption) ?_
    rotate_left
    · intro W0 hSw
      try dsimp only at hSw
      go_simp
      try with_reducible rfl
    try go_simp
    refine wpAnyH_take (i := 2) (v := ?_) rfl (by kernel_rfl) (by kernel_rfl) (by kernel_rfl) (fun _ _ _ h => h) (Or.inl ⟨by rfl, ?_⟩) (by assumption) ?_
    rotate_left
    · intro W0 hSw
      try dsimp only at hSw
      have kv0 := kept v0 hSw
      have kv1 := kept v1 hSw
      have kv2 := kept v2 hSw
      have kv3 := kept v3 hSw
      have kv4 := kept v4 hSw
      have kv5 := kept v5 hSw
      go_simp
      try with_reducible rfl
    try go_simp
    obtain ⟨x4, hx4⟩ : ∃ x4, x4 = w7.drew := ⟨_, rfl⟩
    have hB4 : Below w7.heap.size w7 x4 := by rw [hx4]; exact hHeld
    rw [← hx4] at hHeld
    rw [← hx4]
    clear hx4
    refine wpAnyH_ready (rs := [1]) (by kernel_rfl) (by simp) (AllReadyH.cons rfl (fun K hK => ?_) AllReadyH.nil)
    go_simp
    refine (K21.out x4 hB4).mono ?_
    rintro e _ ⟨rfl, rfl⟩
    go_wp2_with fail
    refine hK.out _ _ ?hS (fun hHeld => ?_)
    case hS => exact hB4
    clear hK K
    try go_simp
    refine wpAnyH_ready (rs := [3]) (by kernel_rfl) (by simp) (AllReadyH.cons rfl (fun K hK => ?_) AllReadyH.nil)
    go_simp
    refine (K22.out x4 hB4).mono ?_
    rintro e x5 ⟨rfl, hB5⟩
    go_wp2_with fail
    refine hK.out _ _ ?hS (fun hHeld => ?_)
    case hS => exact hB4.trans (hB5.mono hB4.size)
    clear hK K
    try go_simp
    have hB05 := hB4.trans (hB5.mono hB4.size)
    refine wpAnyH_take (i := 4) (v := ?_) rfl (by kernel_rfl) (by kernel_rfl) (by kernel_rfl) (fun _ _ _ h => h) (Or.inl ⟨by rfl, ?_⟩) (by assumption) ?_
    rotate_left
    · intro W0 hSw
      try dsimp only at hSw
      go_simp
      try with_reducible rfl
    try go_simp
    refine wpAnyH_take (i := 5) (v := ?_) rfl (by kernel_rfl) (by kernel_rfl) (by kernel_rfl) (fun _ _ _ h => h) (Or.inl ⟨by rfl, ?_⟩) (by assumption) ?_
    rotate_left
    · intro W0 hSw
      try dsimp only at hSw
      go_simp
      try with_reducible rfl
    try go_simp
    refine wpAnyH_take (i := 6) (v := ?_) rfl (by kernel_rfl) (by kernel_rfl) (by kernel_rfl) (fun _ _ _ h => h) (Or.inl ⟨by rfl, ?_⟩) (by assumption) ?_
    rotate_left
    · intro W0 hSw
      try dsimp only at hSw
      go_simp
      try with_reducible rfl
    try go_simp
    refine wpAnyH_take (i := 8) (v := ?_) rfl (by kernel_rfl) (by kernel_rfl) (by kernel_rfl) (fun _ _ _ h => h) (Or.inl ⟨by rfl, ?_⟩) (by assumption) ?_
    rotate_left
    · intro W0 hSw
      try dsimp only at hSw
      go_simp
      try with_reducible rfl
    try go_simp
    refine wpAnyH_ready (rs := [7]) (by kernel_rfl) (by simp) (AllReadyH.cons rfl (fun K hK => ?_) AllReadyH.nil)
    go_simp
    refine (K24.out x5 hB05).mono ?_
    rintro e x6 ⟨dW, rfl, hOW, _, hB6⟩
    have HUW := Lib.hid (Us.of_row hOW)
    clear hOW
    go_wp2_with fail
    refine hK.out _ _ ?hS (fun hHeld => ?_)
    case hS => exact hB05.trans (hB6.mono hB05.size)
    clear hK K
    try go_simp
    have hB06 := hB05.trans (hB6.mono hB05.size)
    refine wpAnyH_ready (rs := [9]) (by kernel_rfl) (by simp) (AllReadyH.cons rfl (fun K hK => ?_) AllReadyH.nil)
    go_simp
    refine (same_yes (some ⟨dW, 0, none⟩) U2 40 cu2 40 f2 x6 HUW.out (HUU.out.keep hB06) (by omega)).mono ?_
    rintro e x7 ⟨rfl, hB7'⟩
    go_wp2_with fail
    refine hK.out _ _ ?hS (fun hHeld => ?_)
    case hS => exact hB06.trans (hB7'.mono hB06.size)
    clear hK K
    try go_simp
    have hB07 := hB06.trans (hB7'.mono hB06.size)
    refine wpAnyH_take (i := 10) (v := ?_) rfl (by kernel_rfl) (by kernel_rfl) (by kernel_rfl) (fun _ _ _ h => h) (Or.inl ⟨by rfl, ?_⟩) (by assumption) ?_
    rotate_left
    · intro W0 hSw
      try dsimp only at hSw
      go_simp
      try with_reducible rfl
    try go_simp
    refine wpAnyH_take (i := 11) (v := ?_) rfl (by kernel_rfl) (by kernel_rfl) (by kernel_rfl) (fun _ _ _ h => h) (Or.inl ⟨by rfl, ?_⟩) (by assumption) ?_
    rotate_left
    · intro W0 hSw
      try dsimp only at hSw
      go_simp
      try with_reducible rfl
    try go_simp
    refine wpAnyH_take (i := 12) (v := ?_) rfl (by kernel_rfl) (by kernel_rfl) (by kernel_rfl) (fun _ _ _ h => h) (Or.inl ⟨by rfl, ?_⟩) (by assumption) ?_
    rotate_left
    · intro W0 hSw
      try dsimp only at hSw
      go_simp
      try with_reducible rfl
    try go_simp
    refine wpAnyH_take (i := 13) (v := ?_) rfl (by kernel_rfl) (by kernel_rfl) (by kernel_rfl) (fun _ _ _ h => h) (Or.inl ⟨by rfl, ?_⟩) (by assumption) ?_
    rotate_left
    · intro W0 hSw
      try dsimp only at hSw
      go_simp
      try with_reducible rfl
    try go_simp
    refine wpAnyH_take (i := 14) (v := ?_) rfl (by kernel_rfl) (by kernel_rfl) (by kernel_rfl) (fun _ _ _ h => h) (Or.inl ⟨by rfl, ?_⟩) (by assumption) ?_
    rotate_left
    · intro W0 hSw
      try dsimp only at hSw
      go_simp
      try with_reducible rfl
    try go_simp
    refine wpAnyH_take (i := 15) (v := ?_) rfl (by kernel_rfl) (by kernel_rfl) (by kernel_rfl) (fun _ _ _ h => h) (Or.inl ⟨by rfl, ?_⟩) (by assumption) ?_
    rotate_left
    · intro W0 hSw
      try dsimp only at hSw
      have ky5 := kept y5 hSw
      go_simp
      try with_reducible rfl
    try go_simp
    refine wpAnyH_take (i := 16) (v := ?_) rfl (by kernel_rfl) (by kernel_rfl) (by kernel_rfl) (fun _ _ _ h => h) (Or.inl ⟨by rfl, ?_⟩) (by assumption) ?_
    rotate_left
    · intro W0 hSw
      try dsimp only at hSw
      go_simp
      try with_reducible rfl
    try go_simp
    refine wpAnyH_take (i := 17) (v := ?_) rfl (by kernel_rfl) (by kernel_rfl) (by kernel_rfl) (fun _ _ _ h => h) (Or.inl ⟨by rfl, ?_⟩) (by assumption) ?_
    rotate_left
    · intro W0 hSw
      try dsimp only at hSw
      go_simp
      try with_reducible rfl
    try go_simp
    refine wpAnyH_take (i := 18) (v := ?_) rfl (by kernel_rfl) (by kernel_rfl) (by kernel_rfl) (fun _ _ _ h => h) (Or.inl ⟨by rfl, ?_⟩) (by assumption) ?_
    rotate_left
    · intro W0 hSw
      try dsimp only at hSw
      go_simp
      try with_reducible rfl
    try go_simp
    refine wpAnyH_take (i := 19) (v := ?_) rfl (by kernel_rfl) (by kernel_rfl) (by kernel_rfl) (fun _ _ _ h => h) (Or.inl ⟨by rfl, ?_⟩) (by assumption) ?_
    rotate_left
    · intro W0 hSw
      try dsimp only at hSw
      go_simp
      try with_reducible rfl
    try go_simp
    refine wpAnyH_take (i := 20) (v := ?_) rfl (by kernel_rfl) (by kernel_rfl) (by kernel_rfl) (fun _ _ _ h => h) (Or.inl ⟨by rfl, ?_⟩) (by assumption) ?_
    rotate_left
    · intro W0 hSw
      try dsimp only at hSw
      go_simp
      try with_reducible rfl
    try go_simp
    refine wpAnyH_take (i := 21) (v := ?_) rfl (by kernel_rfl) (by kernel_rfl) (by kernel_rfl) (fun _ _ _ h => h) (Or.inl ⟨by rfl, ?_⟩) (by assumption) ?_
    rotate_left
    · intro W0 hSw
      try dsimp only at hSw
      go_simp
      try with_reducible rfl
    try go_simp
    refine wpAnyH_take (i := 22) (v := ?_) rfl (by kernel_rfl) (by kernel_rfl) (by kernel_rfl) (fun _ _ _ h => h) (Or.inl ⟨by rfl, ?_⟩) (by assumption) ?_
    rotate_left
    · intro W0 hSw
      try dsimp only at hSw
      go_simp
      try with_reducible rfl
    try go_simp
    refine wpAnyH_take (i := 23) (v := ?_) rfl (by kernel_rfl) (by kernel_rfl) (by kernel_rfl) (fun _ _ _ h => h) (Or.inl ⟨by rfl, ?_⟩) (by assumption) ?_
    rotate_left
    · intro W0 hSw
      try dsimp only at hSw
      have ky4 := kept y4 hSw
      go_simp
      try with_reducible rfl
    try go_simp
    refine wpAnyH_ready (rs := [24]) (by kernel_rfl) (by simp) (AllReadyH.cons rfl (fun K hK => ?_) AllReadyH.nil)
    go_simp
    refine (same_yes (some ⟨dd, 0, none⟩) e2.pL nk e2.cL nk r2.ws x7 (HU7.out.1.keep hB07) (HU7.out.2.keep hB07) (by omega)).mono ?_
    rintro e x8 ⟨rfl, hB8⟩
    go_wp2_with fail
    refine hK.out _ _ ?hS (fun hHeld => ?_)
    case hS => exact hB07.trans (hB8.mono hB07.size)
    clear hK K
    try go_simp
    have hB08 := hB07.trans (hB8.mono hB07.size)
    refine wpAnyH_take (i := 25) (v := ?_) rfl (by kernel_rfl) (by kernel_rfl) (by kernel_rfl) (fun _ _ _ h => h) (Or.inl ⟨by rfl, ?_⟩) (by assumption) ?_
    rotate_left
    · intro W0 hSw
      try dsimp only at hSw
      go_simp
      try with_reducible rfl
    try go_simp
    refine wpAnyH_take (i := 26) (v := ?_) rfl (by kernel_rfl) (by kernel_rfl) (by kernel_rfl) (fun _ _ _ h => h) (Or.inl ⟨by rfl, ?_⟩) (by assumption) ?_
    rotate_left
    · intro W0 hSw
      try dsimp only at hSw
      go_simp
      try with_reducible rfl
    try go_simp
    refine wpAnyH_take (i := 27) (v := ?_) rfl (by kernel_rfl) (by kernel_rfl) (by kernel_rfl) (fun _ _ _ h => h) (Or.inl ⟨by rfl, ?_⟩) (by assumption) ?_
    rotate_left
    · intro W0 hSw
      try dsimp only at hSw
      go_simp
      try with_reducible rfl
    try go_simp
    refine wpAnyH_take (i := 28) (v := ?_) rfl (by kernel_rfl) (by kernel_rfl) (by kernel_rfl) (fun _ _ _ h => h) (Or.inl ⟨by rfl, ?_⟩) (by assumption) ?_
    rotate_left
    · intro W0 hSw
      try dsimp only at hSw
      go_simp
      try with_reducible rfl
    try go_simp
    refine wpAnyH_take (i := 29) (v := ?_) rfl (by kernel_rfl) (by kernel_rfl) (by kernel_rfl) (fun _ _ _ h => h) (Or.inl ⟨by rfl, ?_⟩) (by assumption) ?_
    rotate_left
    · intro W0 hSw
      try dsimp only at hSw
      go_simp
      try with_reducible rfl
    try go_simp
    refine wpAnyH_take (i := 30) (v := ?_) rfl (by kernel_rfl) (by kernel_rfl) (by kernel_rfl) (fun _ _ _ h => h) (Or.inl ⟨by rfl, ?_⟩) (by assumption) ?_
    rotate_left
    · intro W0 hSw
      try dsimp only at hSw
      go_simp
      try with_reducible rfl
    try go_simp
    refine wpAnyH_take (i := 31) (v := ?_) rfl (by kernel_rfl) (by kernel_rfl) (by kernel_rfl) (fun _ _ _ h => h) (Or.inl ⟨by rfl, ?_⟩) (by assumption) ?_
    rotate_left
    · intro W0 hSw
      try dsimp only at hSw
      go_simp
      try with_reducible rfl
    try go_simp
    refine wpAnyH_take (i := 32) (v := undef) rfl (by kernel_rfl) (by kernel_rfl) (by kernel_rfl) (fun _ _ _ h => h) (Or.inr ⟨by rfl, rfl⟩) (by assumption) ?_
    try go_simp
    refine wpAnyH_take (i := 33) (v := undef) rfl (by kernel_rfl) (by kernel_rfl) (by kernel_rfl) (fun _ _ _ h => h) (Or.inr ⟨by rfl, rfl⟩) (by assumption) ?_
    try go_simp
    refine wpAnyH_take (i := 34) (v := undef) rfl (by kernel_rfl) (by kernel_rfl) (by kernel_rfl) (fun _ _ _ h => h) (Or.inr ⟨by rfl, rfl⟩) (by assumption) ?_
    try go_simp
    refine wpAnyH_take (i := 35) (v := ?_) rfl (by kernel_rfl) (by kernel_rfl) (by kernel_rfl) (fun _ _ _ h => h) (Or.inl ⟨by rfl, ?_⟩) (by assumption) ?_
    rotate_left
    · intro W0 hSw
      try dsimp only at hSw
      go_simp
      try with_reducible rfl
    try go_simp
    refine wpAnyH_take (i := 36) (v := ?_) rfl (by kernel_rfl) (by kernel_rfl) (by kernel_rfl) (fun _ _ _ h => h) (Or.inl ⟨by rfl, ?_⟩) (by assumption) ?_
    rotate_left
    · intro W0 hSw
      try dsimp only at hSw
      go_simp
      try with_reducible rfl
    try go_simp
    refine wpAnyH_take (i := 37) (v := ?_) rfl (by kernel_rfl) (by kernel_rfl) (by kernel_rfl) (fun _ _ _ h => h) (Or.inl ⟨by rfl, ?_⟩) (by assumption) ?_
    rotate_left
    · intro W0 hSw
      try dsimp only at hSw
      go_simp
      try with_reducible rfl
    try go_simp
    refine wpAnyH_take (i := 38) (v := ?_) rfl (by kernel_rfl) (by kernel_rfl) (by kernel_rfl) (fun _ _ _ h => h) (Or.inl ⟨by rfl, ?_⟩) (by assumption) ?_
    rotate_left
    · intro W0 hSw
      try dsimp only at hSw
      go_simp
      try with_reducible rfl
    try go_simp
    refine wpAnyH_take (i := 40) (v := ?_) rfl (by kernel_rfl) (by kernel_rfl) (by kernel_rfl) (fun _ _ _ h => h) (Or.inl ⟨by rfl, ?_⟩) (by assumption) ?_
    rotate_left
    · intro W0 hSw
      try dsimp only at hSw
      go_simp
      try with_reducible rfl
    try go_simp
    refine wpAnyH_take (i := 41) (v := ?_) rfl (by kernel_rfl) (by kernel_rfl) (by kernel_rfl) (fun _ _ _ h => h) (Or.inl ⟨by rfl, ?_⟩) (by assumption) ?_
    rotate_left
    · intro W0 hSw
      try dsimp only at hSw
      have ky7 := kept y7 hSw
      go_simp
      try with_reducible rfl
    try go_simp
    refine wpAnyH_ready (rs := [39]) (by kernel_rfl) (by simp) (AllReadyH.cons rfl (fun K hK => ?_) AllReadyH.nil)
    go_simp
    refine (K25.out x8 hB08).mono ?_
    rintro e _ ⟨rfl, rfl⟩
    go_wp2_with fail
    refine hK.out _ _ ?hS (fun hHeld => ?_)
    case hS => exact hB08
    clear hK K
    try go_simp
    refine wpAnyH_take (i := 42) (v := ?_) rfl (by kernel_rfl) (by kernel_rfl) (by kernel_rfl) (fun _ _ _ h => h) (Or.inl ⟨by rfl, ?_⟩) (by assumption) ?_
    rotate_left
    · intro W0 hSw
      try dsimp only at hSw
      go_simp
      try with_reducible rfl
    try go_simp
    refine wpAnyH_take (i := 43) (v := ?_) rfl (by kernel_rfl) (by kernel_rfl) (by kernel_rfl) (fun _ _ _ h => h) (Or.inl ⟨by rfl, ?_⟩) (by assumption) ?_
    rotate_left
    · intro W0 hSw
      try dsimp only at hSw
      go_simp
      try with_reducible rfl
    try go_simp
    have hBB : Hid (Below w7.heap.size w7 x8) := hB08
    refine wpAnyH_done (by kernel_rfl) ?_ _
    go_wp2_with fail
    go_meet
    exact ⟨rfl, hBB⟩
  case rest =>
    obtain ⟨rfl, HBX⟩ := hcut
    go_wp2_with fail
    go_roundw
    case rel => exact ⟨k + 1, s2, f2, r2, d2, e2, U2, cu2, by omega, by omega, rfl, by go_num, HC7.out.keep HBX.out, HN6.out.same (HBX.out.block _ HC7.out.vlt), HN8.out.same (HBX.out.block _ HC7.out.qlt), by have := HTZ.out; omega, HBB7.out.trans (HBX.out.mono HBB7.out.size)⟩
    case measure => first | (simp [intOf]; done) | (simp [intOf]; omega)
end Go.Proofs.YtoaaeamogpdcgaaDoor
