/-
  A piece of the walk.
-/
import Derived.Test.YtndipldcpnglgaaWalkPlaysMain
namespace Go.Proofs.Ytndipldcpnglgaa
open Go.RowKit
set_option linter.all false in
set_option maxHeartbeats 8000000 in
set_option maxRecDepth 100000 in
theorem part_WalkPlays_F : part_WalkPlays.F := by
  set_option tactic.hygienic false in intro
  set_option tactic.hygienic false in intros
  clear HPA HBD HCL d1 d2 d3 HW
  obtain ⟨g', b', vq', v', X', L', hPL, hBd⟩ := hcut
  have hrl : (L'.map toD).length ≤ 1000 := by rw [hPL.rel.len]; have := hBd.q; omega
  have hid' := hPL.rel.ids hPL.sb.sm.ln.ok
  have hml := meth_list g'
  have k0 := hPL.sb.sm.c0
  have HC := Lib.hid (fun W (hB : Below wc.heap.size wc W) => up_any W (hPL.keep hB).sb.sm)
  have HL := Lib.hid (fun W (hB : Below wc.heap.size wc W) => list_any W (hPL.keep hB).sb.sm.ln (by have := hBd.q; omega))
  have HK0 := Lib.hid (fun W (hB : Below wc.heap.size wc W) => (hPL.keep hB).sb.sm.c0)
  have HR := Lib.hid (fun W (hB : Below wc.heap.size wc W) => listd_any v' X'.S.now (L'.map toD) W (hPL.row.keep hB) hrl)
  rw [hid'] at HR
  have HBX := Lib.hid (fun W (hB : Below wc.heap.size wc W) => hPL.bx.keep hB)
  have HX := Lib.hid (show ∀ W, Below wc.heap.size wc W → Hid (PlK w.heap.size w W s pb (k + 1)) from fun W hB => ⟨g', b', vq', v', X', L', hPL.keep hB, hBd⟩)
  have hnl : X'.S.nums.length ≤ 100000 := by rw [nums_len]; have := hBd.q; omega
  obtain ⟨a0, a1, a2, fz⟩ := hPL.bx
  obtain ⟨G, hG⟩ : ∃ G, G = X'.S.nums := ⟨_, rfl⟩
  rw [← hG] at HL HR hnl
  obtain ⟨C, hC⟩ : ∃ C : Bool, C = X'.up := ⟨_, rfl⟩
  rw [← hC] at HC a2 HBX
  have e1 : (C != C) = false := by simp
  clear hPL hBd hrl hid' hG hC
  go_upto_region 35 with fail
  go_cut [170] (fun bv wx => bv = .bool false ∧ Hid (Below wc.heap.size wc wx))
  case first =>
    refine wp_region_held_drew (S := fun W => Below wc.heap.size wc W) (by kernel_rfl) (Below.refl _ _).drew (fun hHeld => ?_)
    refine wpAnyH_take (i := 0) (v := ?_) rfl (by kernel_rfl) (by kernel_rfl) (by kernel_rfl) (fun _ _ _ h => h) (Or.inl ⟨by rfl, ?_⟩) (by assumption) ?_
    rotate_left
    · intro W0 hSw
      try dsimp only at hSw
      go_simp
      try with_reducible rfl
    try go_simp
    refine wpAnyH_take (i := 2) (v := ?_) rfl (by kernel_rfl) (by kernel_rfl) (by kernel_rfl) (fun _ _ _ h => h) (Or.inl ⟨by rfl, ?_⟩) (by assumption) ?_
    rotate_left
    · intro W0 hSw
      try dsimp only at hSw
      go_simp
      try with_reducible rfl
    try go_simp
    refine wpAnyH_take (i := 3) (v := ?_) rfl (by kernel_rfl) (by kernel_rfl) (by kernel_rfl) (fun _ _ _ h => h) (Or.inl ⟨by rfl, ?_⟩) (by assumption) ?_
    rotate_left
    · intro W0 hSw
      try dsimp only at hSw
      obtain ⟨k0, k1, k2, _⟩ := HBX.out W0 hSw
      go_simp
      try with_reducible rfl
    try go_simp
    obtain ⟨w4, hw4⟩ : ∃ w4, w4 = wc.drew := ⟨_, rfl⟩
    have hB4 : Below wc.heap.size wc w4 := by rw [hw4]; exact hHeld
    rw [← hw4] at hHeld
    rw [← hw4]
    clear hw4
    refine wpAnyH_ready (rs := [1]) (by kernel_rfl) (by simp) (AllReadyH.cons rfl (fun K hK => ?_) AllReadyH.nil)
    go_simp
    refine (HC.out w4 hB4).mono ?_
    rintro e _ ⟨rfl, rfl⟩
    go_wp2_with fail
    refine hK.out _ _ ?hS (fun hHeld => ?_)
    case hS => exact hB4
    clear hK K
    try go_simp
    refine wpAnyH_take (i := 4) (v := ?_) rfl (by kernel_rfl) (by kernel_rfl) (by kernel_rfl) (fun _ _ _ h => h) (Or.inl ⟨by rfl, ?_⟩) (by assumption) ?_
    rotate_left
    · intro W0 hSw
      try dsimp only at hSw
      go_simp
      try with_reducible rfl
    try go_simp
    refine wpAnyH_take (i := 5) (v := ?_) rfl (by kernel_rfl) (by kernel_rfl) (by kernel_rfl) (fun _ _ _ h => h) (Or.inl ⟨by rfl, ?_⟩) (by assumption) ?_
    rotate_left
    · intro W0 hSw
      try dsimp only at hSw
      go_simp
      try with_reducible rfl
    try go_simp
    refine wpAnyH_take (i := 6) (v := ?_) rfl (by kernel_rfl) (by kernel_rfl) (by kernel_rfl) (fun _ _ _ h => h) (Or.inl ⟨by rfl, ?_⟩) (by assumption) ?_
    rotate_left
    · intro W0 hSw
      try dsimp only at hSw
      go_simp
      try with_reducible rfl
    try go_simp
    refine wpAnyH_take (i := 7) (v := ?_) rfl (by kernel_rfl) (by kernel_rfl) (by kernel_rfl) (fun _ _ _ h => h) (Or.inl ⟨by rfl, ?_⟩) (by assumption) ?_
    rotate_left
    · intro W0 hSw
      try dsimp only at hSw
      go_simp
      try with_reducible rfl
    try go_simp
    refine wpAnyH_take (i := 8) (v := ?_) rfl (by kernel_rfl) (by kernel_rfl) (by kernel_rfl) (fun _ _ _ h => h) (Or.inl ⟨by rfl, ?_⟩) (by assumption) ?_
    rotate_left
    · intro W0 hSw
      try dsimp only at hSw
      go_simp
      try with_reducible rfl
    try go_simp
    refine wpAnyH_take (i := 9) (v := ?_) rfl (by kernel_rfl) (by kernel_rfl) (by kernel_rfl) (fun _ _ _ h => h) (Or.inl ⟨by rfl, ?_⟩) (by assumption) ?_
    rotate_left
    · intro W0 hSw
      try dsimp only at hSw
      have kk := HK0.out W0 hSw
      go_simp
      try with_reducible rfl
    try go_simp
    refine wpAnyH_take (i := 11) (v := ?_) rfl (by kernel_rfl) (by kernel_rfl) (by kernel_rfl) (fun _ _ _ h => h) (Or.inl ⟨by rfl, ?_⟩) (by assumption) ?_
    rotate_left
    · intro W0 hSw
      try dsimp only at hSw
      go_simp
      try with_reducible rfl
    try go_simp
    refine wpAnyH_take (i := 12) (v := ?_) rfl (by kernel_rfl) (by kernel_rfl) (by kernel_rfl) (fun _ _ _ h => h) (Or.inl ⟨by rfl, ?_⟩) (by assumption) ?_
    rotate_left
    · intro W0 hSw
      try dsimp only at hSw
      obtain ⟨k0, k1, k2, _⟩ := HBX.out W0 hSw
      go_simp
      try with_reducible rfl
    try go_simp
    refine wpAnyH_ready (rs := [10]) (by kernel_rfl) (by simp) (AllReadyH.cons rfl (fun K hK => ?_) AllReadyH.nil)
    go_simp
    refine (HL.out w4 hB4).mono ?_
    rintro e w5 ⟨vl, rfl, hN5, hB5, _⟩
    obtain ⟨lA, lc, rfl, _⟩ := hN5.len
    go_wp2_with fail
    refine hK.out _ _ ?hS (fun hHeld => ?_)
    case hS => exact below_two hB4 hB5
    clear hK K
    try go_simp
    have hB05 := below_two hB4 hB5
    refine wpAnyH_ready (rs := [13]) (by kernel_rfl) (by simp) (AllReadyH.cons rfl (fun K hK => ?_) AllReadyH.nil)
    go_simp
    refine (HR.out w5 hB05).mono ?_
    rintro e w6 ⟨vr, rfl, hN6, hB6, _⟩
    obtain ⟨rA, rc, rfl, _⟩ := hN6.len
    go_wp2_with fail
    refine hK.out _ _ ?hS (fun hHeld => ?_)
    case hS => exact below_two hB05 hB6
    clear hK K
    try go_simp
    have hB06 := below_two hB05 hB6
    have hsm := same_any lA rA lc rc G G w6 (hN5.keep hB6).ints hN6.ints hnl
    refine wpAnyH_ready (rs := [14]) (by kernel_rfl) (by simp) (AllReadyH.cons rfl (fun K hK => ?_) AllReadyH.nil)
    go_simp
    refine (hsm).mono ?_
    rintro e w7 ⟨he, hB7⟩
    rw [decide_eq_true (show G = G from rfl)] at he
    obtain rfl := he
    go_wp2_with fail
    refine hK.out _ _ ?hS (fun hHeld => ?_)
    case hS => exact below_two hB06 hB7
    clear hK K
    try go_simp
    refine wpAnyH_take (i := 15) (v := ?_) rfl (by kernel_rfl) (by kernel_rfl) (by kernel_rfl) (fun _ _ _ h => h) (Or.inl ⟨by rfl, ?_⟩) (by assumption) ?_
    rotate_left
    · intro W0 hSw
      try dsimp only at hSw
      go_simp
      try with_reducible rfl
    try go_simp
    refine wpAnyH_take (i := 16) (v := ?_) rfl (by kernel_rfl) (by kernel_rfl) (by kernel_rfl) (fun _ _ _ h => h) (Or.inl ⟨by rfl, ?_⟩) (by assumption) ?_
    rotate_left
    · intro W0 hSw
      try dsimp only at hSw
      go_simp
      try with_reducible rfl
    try go_simp
    have hBB : Hid (Below wc.heap.size wc w7) := below_two hB06 hB7
    clear hN5 hN6 hB5 hB6 hB7 hB05 hB06 hB4 hHeld hsm
    refine wpAnyH_done (by kernel_rfl) ?_ _
    go_wp2_with fail
    go_meet
    exact ⟨rfl, hBB⟩
  case rest =>
    obtain ⟨rfl, HBB⟩ := hcut
    have HF := HX.out _ HBB.out
    clear HX HBX HR HL HC a0 a1 a2 fz k0
    go_wp2_with fail
    go_roundw
    case rel => exact ⟨k + 1, by go_num, by omega, HF⟩
    case measure => first | (simp [intOf]; done) | (simp [intOf]; omega)
end Go.Proofs.Ytndipldcpnglgaa
