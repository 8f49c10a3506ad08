/-
  Pieces of the walk of the given Check.
-/
import Derived.Test.YtmfelkdcoihkpaaDoorCbL4Main
import Derived.Deep.RegionHeld3
namespace Go.Proofs.YtmfelkdcoihkpaaDoor
open Go.RowKit
set_option linter.all false in
set_option maxHeartbeats 64000000 in
set_option maxRecDepth 100000 in
theorem part_CbL4_L4A : part_CbL4.L4A := by
  set_option tactic.hygienic false in intro
  set_option tactic.hygienic false in intros
  go_wp2_with fail
  go_loopw [16] (fun i wr => ∃ a : Nat, a ≤ k ∧ i = .int .i64 a ∧ NoDup P k a ∧ Below wx1.heap.size wx1 wr ∧ wr.cell? ⟨wo9.heap.size, 0, none⟩ = some (.int .u8 xA) ∧ wr.cell? ⟨wo9.heap.size, 1, none⟩ = some (.int .u8 xB)) (fun i _ => k - (intOf i).toNat)
  case atStart => exact ⟨0, Nat.zero_le _, rfl, fun j hj => by omega, HW9.out, by simp, by simp⟩
  case round => 
    obtain ⟨a, ha, rfl, hj, hB, h0, h1⟩ := hrel
    have HND := Lib.hid hj
    have HBa := Lib.hid hB
    have H0 := Lib.hid h0
    have H1 := Lib.hid h1
    obtain ⟨-, -, -, -, m4⟩ := HPB1.out.keep hB
    rw [← HN4.out, HA4.out] at m4
    clear hj hB
    by_cases hlt2 : a < k
    · have haw : a < P.2.2.2.2.length := by have := HLW.out; omega
      obtain ⟨f0, f1⟩ := pairs_at (Arr.keep HPR.out HBa.out) haw
      have HHD := Lib.hid (fun (h : prA P a = prA P k) => HHIT.out 48 (pair_dup HLW.out hlt2 h) (by omega))
      have HSN := Lib.hid (fun hx => HND.out.snoc (k := a) hx)
      obtain ⟨⟨uA, uB⟩, hu⟩ : ∃ x, x = prA P a := ⟨_, rfl⟩
      change _ = P.2.2.2.2.getD a dS at hu
      rw [← hu] at f0 f1
      have hu : (uA, uB) = prA P a := hu
      rw [← hu, ← HX.out] at HHD HSN
      dsimp only at f0 f1
      have i2 : (0 : Int) ≤ (a : Int) := Int.natCast_nonneg _
      have i3 : (a : Int) < (n4 : Int) := by omega
      clear hu haw
      by_cases hA : uA = xA
      · subst hA
        by_cases hBq : uB = xB
        · subst hBq
          have hc := HHD.out rfl
          have HC := Lib.hid hc
          clear hc HHD HSN
          go_wp2_with fail
          go_quiet (fail)
          go_wp2_with fail
          go_ret2
          exact ⟨ret_two HC.out, by repeat (first | exact below_two HB1.out HBa.out | refine below_drewN ?_ _)⟩
        · have hn := HSN.out (fun h => hBq (by injection h))
          have HNN := Lib.hid hn
          have hbn : (uB == xB) = false := by simpa using hBq
          clear hn HHD HSN hBq
          go_wp2_with fail
          go_quiet (fail)
          go_wp2_with fail
          go_roundw
          case rel => exact ⟨a + 1, by omega, by go_num, HNN.out, below_drewN HBa.out _, by simpa using H0.out, by simpa using H1.out⟩
          case measure => simp [intOf]; omega
      · have hn := HSN.out (fun h => hA (by injection h))
        have HNN := Lib.hid hn
        have han : (uA == xA) = false := by simpa using hA
        clear hn HHD HSN hA
        go_wp2_with fail
        go_quiet (fail)
        go_wp2_with fail
        go_roundw
        case rel => exact ⟨a + 1, by omega, by go_num, HNN.out, below_drewN HBa.out _, by simpa using H0.out, by simpa using H1.out⟩
        case measure => simp [intOf]; omega
    · obtain rfl : k = a := by omega
      clear m4 h0 h1
      go_wp2_with fail
      go_meet
      exact ⟨HND.out, HBa.out, H0.out, H1.out⟩
end Go.Proofs.YtmfelkdcoihkpaaDoor
namespace Go.Proofs.YtmfelkdcoihkpaaDoor
open Go.RowKit
set_option linter.all false in
set_option maxHeartbeats 64000000 in
set_option maxRecDepth 100000 in
theorem part_CbL4_L4B : part_CbL4.L4B := by
  set_option tactic.hygienic false in intro
  set_option tactic.hygienic false in intros
  clear hx HX HSN HHC HHIT HPR HPL1 HPB1 HOK HO HNDD HND HNC HN4 HN3 HN2 HN1 HN HLW HG HFE HBp HBd HBc HBa HB1 HB0 HARR HA4 H6 H5 H4 H3 H2 H12 H11 H1 H02 H00 H0 HW9 HW0 HR
  clear e0 e1 m2 m4 ma2 a1' a2' a3' y0 y1 z0 z1 k22 k21 k12 k11 i1 i0 hlt hl1 hl2 hl3 hl4 hk hf00 hf01 k01 ha hd hlt3 hlt4 HNle'
  clear zz_125 zz_4_1 zz_3_1 zz_2_1 zz_1_1 zz_2
  obtain ⟨qq, hqq⟩ : ∃ qq, qq = wo9.heap.size := ⟨_, rfl⟩
  rw [← hqq] at h0 h1 ⊢
  have HQQ := Lib.hid hqq
  clear hqq
  refine wp_region_held_drew (S := fun W => W.cell? ⟨b, o + a * 6 + 2, none⟩ = some (.int .u16 x0) ∧ W.cell? ⟨b, o + a * 6 + 3, none⟩ = some (.int .u16 x1) ∧ W.cell? ⟨b, o + a * 6 + 4, none⟩ = some (.int .u8 x2) ∧ W.cell? ⟨b, o + a * 6 + 5, none⟩ = some (.int .u8 x3) ∧ W.cell? ⟨b, o + d * 6 + 2, none⟩ = some (.int .u16 v0) ∧ W.cell? ⟨b, o + d * 6 + 3, none⟩ = some (.int .u16 v1) ∧ W.cell? ⟨b, o + d * 6 + 4, none⟩ = some (.int .u8 v2) ∧ W.cell? ⟨b, o + d * 6 + 5, none⟩ = some (.int .u8 v3) ∧ W.cell? ⟨qq, 0, none⟩ = some (.int .u8 x2) ∧ W.cell? ⟨qq, 1, none⟩ = some (.int .u8 v2)) (by kernel_rfl) ⟨c2, c3, c4, c5, d2, d3, d4, d5, h0, h1⟩ (fun hHeld => ?_)
  clear c2 c3 c4 c5 d2 d3 d4 d5 h0 h1
  refine wpAnyH_take (i := 0) (v := ?_) rfl (by kernel_rfl) (by kernel_rfl) (by kernel_rfl) (fun _ _ _ h => h) (Or.inl ⟨by rfl, ?_⟩) (by assumption) ?_
  rotate_left
  · intro W0 hSw
    obtain ⟨c2, c3, c4, c5, d2, d3, d4, d5, h0, h1⟩ := hSw
    go_simp
    try with_reducible rfl
  try go_simp
  refine wpAnyH_take (i := 1) (v := ?_) rfl (by kernel_rfl) (by kernel_rfl) (by kernel_rfl) (fun _ _ _ h => h) (Or.inl ⟨by rfl, ?_⟩) (by assumption) ?_
  rotate_left
  · intro W0 hSw
    obtain ⟨c2, c3, c4, c5, d2, d3, d4, d5, h0, h1⟩ := hSw
    go_simp
    try with_reducible rfl
  try go_simp
  refine wpAnyH_take (i := 2) (v := ?_) rfl (by kernel_rfl) (by kernel_rfl) (by kernel_rfl) (fun _ _ _ h => h) (Or.inl ⟨by rfl, ?_⟩) (by assumption) ?_
  rotate_left
  · intro W0 hSw
    obtain ⟨c2, c3, c4, c5, d2, d3, d4, d5, h0, h1⟩ := hSw
    go_simp
    try with_reducible rfl
  try go_simp
  refine wpAnyH_take (i := 3) (v := ?_) rfl (by kernel_rfl) (by kernel_rfl) (by kernel_rfl) (fun _ _ _ h => h) (Or.inl ⟨by rfl, ?_⟩) (by assumption) ?_
  rotate_left
  · intro W0 hSw
    obtain ⟨c2, c3, c4, c5, d2, d3, d4, d5, h0, h1⟩ := hSw
    go_simp
    try with_reducible rfl
  try go_simp
  refine wpAnyH_take (i := 4) (v := ?_) rfl (by kernel_rfl) (by kernel_rfl) (by kernel_rfl) (fun _ _ _ h => h) (Or.inl ⟨by rfl, ?_⟩) (by assumption) ?_
  rotate_left
  · intro W0 hSw
    obtain ⟨c2, c3, c4, c5, d2, d3, d4, d5, h0, h1⟩ := hSw
    go_simp
    try with_reducible rfl
  try go_simp
  refine wpAnyH_take (i := 5) (v := ?_) rfl (by kernel_rfl) (by kernel_rfl) (by kernel_rfl) (fun _ _ _ h => h) (Or.inl ⟨by rfl, ?_⟩) (by assumption) ?_
  rotate_left
  · intro W0 hSw
    obtain ⟨c2, c3, c4, c5, d2, d3, d4, d5, h0, h1⟩ := hSw
    go_simp
    try with_reducible rfl
  try go_simp
  refine wpAnyH_take (i := 6) (v := ?_) rfl (by kernel_rfl) (by kernel_rfl) (by kernel_rfl) (fun _ _ _ h => h) (Or.inl ⟨by rfl, ?_⟩) (by assumption) ?_
  rotate_left
  · intro W0 hSw
    obtain ⟨c2, c3, c4, c5, d2, d3, d4, d5, h0, h1⟩ := hSw
    go_simp
    try with_reducible rfl
  try go_simp
  refine wpAnyH_take (i := 7) (v := ?_) rfl (by kernel_rfl) (by kernel_rfl) (by kernel_rfl) (fun _ _ _ h => h) (Or.inl ⟨by rfl, ?_⟩) (by assumption) ?_
  rotate_left
  · intro W0 hSw
    obtain ⟨c2, c3, c4, c5, d2, d3, d4, d5, h0, h1⟩ := hSw
    go_simp
    try with_reducible rfl
  try go_simp
  refine wpAnyH_take (i := 8) (v := ?_) rfl (by kernel_rfl) (by kernel_rfl) (by kernel_rfl) (fun _ _ _ h => h) (Or.inl ⟨by rfl, ?_⟩) (by assumption) ?_
  rotate_left
  · intro W0 hSw
    obtain ⟨c2, c3, c4, c5, d2, d3, d4, d5, h0, h1⟩ := hSw
    go_simp
    try with_reducible rfl
  try go_simp
  refine wpAnyH_take (i := 9) (v := ?_) rfl (by kernel_rfl) (by kernel_rfl) (by kernel_rfl) (fun _ _ _ h => h) (Or.inl ⟨by rfl, ?_⟩) (by assumption) ?_
  rotate_left
  · intro W0 hSw
    obtain ⟨c2, c3, c4, c5, d2, d3, d4, d5, h0, h1⟩ := hSw
    go_simp
    try with_reducible rfl
  try go_simp
  refine wpAnyH_take (i := 10) (v := ?_) rfl (by kernel_rfl) (by kernel_rfl) (by kernel_rfl) (fun _ _ _ h => h) (Or.inl ⟨by rfl, ?_⟩) (by assumption) ?_
  rotate_left
  · intro W0 hSw
    obtain ⟨c2, c3, c4, c5, d2, d3, d4, d5, h0, h1⟩ := hSw
    go_simp
    try with_reducible rfl
  try go_simp
  refine wpAnyH_take (i := 11) (v := ?_) rfl (by kernel_rfl) (by kernel_rfl) (by kernel_rfl) (fun _ _ _ h => h) (Or.inl ⟨by rfl, ?_⟩) (by assumption) ?_
  rotate_left
  · intro W0 hSw
    obtain ⟨c2, c3, c4, c5, d2, d3, d4, d5, h0, h1⟩ := hSw
    go_simp
    try with_reducible rfl
  try go_simp
  refine wpAnyH_take (i := 12) (v := ?_) rfl (by kernel_rfl) (by kernel_rfl) (by kernel_rfl) (fun _ _ _ h => h) (Or.inl ⟨by rfl, ?_⟩) (by assumption) ?_
  rotate_left
  · intro W0 hSw
    obtain ⟨c2, c3, c4, c5, d2, d3, d4, d5, h0, h1⟩ := hSw
    go_simp
    try with_reducible rfl
  try go_simp
  refine wpAnyH_take (i := 13) (v := ?_) rfl (by kernel_rfl) (by kernel_rfl) (by kernel_rfl) (fun _ _ _ h => h) (Or.inl ⟨by rfl, ?_⟩) (by assumption) ?_
  rotate_left
  · intro W0 hSw
    obtain ⟨c2, c3, c4, c5, d2, d3, d4, d5, h0, h1⟩ := hSw
    go_simp
    try with_reducible rfl
  try go_simp
  refine wpAnyH_take (i := 14) (v := ?_) rfl (by kernel_rfl) (by kernel_rfl) (by kernel_rfl) (fun _ _ _ h => h) (Or.inl ⟨by rfl, ?_⟩) (by assumption) ?_
  rotate_left
  · intro W0 hSw
    obtain ⟨c2, c3, c4, c5, d2, d3, d4, d5, h0, h1⟩ := hSw
    go_simp
    try with_reducible rfl
  try go_simp
  refine wpAnyH_take (i := 15) (v := ?_) rfl (by kernel_rfl) (by kernel_rfl) (by kernel_rfl) (fun _ _ _ h => h) (Or.inl ⟨by rfl, ?_⟩) (by assumption) ?_
  rotate_left
  · intro W0 hSw
    obtain ⟨c2, c3, c4, c5, d2, d3, d4, d5, h0, h1⟩ := hSw
    go_simp
    try with_reducible rfl
  try go_simp
  refine wpAnyH_take (i := 16) (v := ?_) rfl (by kernel_rfl) (by kernel_rfl) (by kernel_rfl) (fun _ _ _ h => h) (Or.inl ⟨by rfl, ?_⟩) (by assumption) ?_
  rotate_left
  · intro W0 hSw
    obtain ⟨c2, c3, c4, c5, d2, d3, d4, d5, h0, h1⟩ := hSw
    go_simp
    try with_reducible rfl
  try go_simp
  refine wpAnyH_take (i := 17) (v := ?_) rfl (by kernel_rfl) (by kernel_rfl) (by kernel_rfl) (fun _ _ _ h => h) (Or.inl ⟨by rfl, ?_⟩) (by assumption) ?_
  rotate_left
  · intro W0 hSw
    obtain ⟨c2, c3, c4, c5, d2, d3, d4, d5, h0, h1⟩ := hSw
    go_simp
    try with_reducible rfl
  try go_simp
  refine wpAnyH_take (i := 18) (v := ?_) rfl (by kernel_rfl) (by kernel_rfl) (by kernel_rfl) (fun _ _ _ h => h) (Or.inl ⟨by rfl, ?_⟩) (by assumption) ?_
  rotate_left
  · intro W0 hSw
    obtain ⟨c2, c3, c4, c5, d2, d3, d4, d5, h0, h1⟩ := hSw
    go_simp
    try with_reducible rfl
  try go_simp
  refine wpAnyH_take (i := 19) (v := ?_) rfl (by kernel_rfl) (by kernel_rfl) (by kernel_rfl) (fun _ _ _ h => h) (Or.inl ⟨by rfl, ?_⟩) (by assumption) ?_
  rotate_left
  · intro W0 hSw
    obtain ⟨c2, c3, c4, c5, d2, d3, d4, d5, h0, h1⟩ := hSw
    go_simp
    try with_reducible rfl
  try go_simp
  refine wpAnyH_take (i := 20) (v := ?_) rfl (by kernel_rfl) (by kernel_rfl) (by kernel_rfl) (fun _ _ _ h => h) (Or.inl ⟨by rfl, ?_⟩) (by assumption) ?_
  rotate_left
  · intro W0 hSw
    obtain ⟨c2, c3, c4, c5, d2, d3, d4, d5, h0, h1⟩ := hSw
    go_simp
    try with_reducible rfl
  try go_simp
  refine wpAnyH_take (i := 21) (v := ?_) rfl (by kernel_rfl) (by kernel_rfl) (by kernel_rfl) (fun _ _ _ h => h) (Or.inl ⟨by rfl, ?_⟩) (by assumption) ?_
  rotate_left
  · intro W0 hSw
    obtain ⟨c2, c3, c4, c5, d2, d3, d4, d5, h0, h1⟩ := hSw
    go_simp
    try with_reducible rfl
  try go_simp
  refine wpAnyH_take (i := 22) (v := ?_) rfl (by kernel_rfl) (by kernel_rfl) (by kernel_rfl) (fun _ _ _ h => h) (Or.inl ⟨by rfl, ?_⟩) (by assumption) ?_
  rotate_left
  · intro W0 hSw
    obtain ⟨c2, c3, c4, c5, d2, d3, d4, d5, h0, h1⟩ := hSw
    go_simp
    try with_reducible rfl
  try go_simp
  refine wpAnyH_take (i := 23) (v := ?_) rfl (by kernel_rfl) (by kernel_rfl) (by kernel_rfl) (fun _ _ _ h => h) (Or.inl ⟨by rfl, ?_⟩) (by assumption) ?_
  rotate_left
  · intro W0 hSw
    obtain ⟨c2, c3, c4, c5, d2, d3, d4, d5, h0, h1⟩ := hSw
    go_simp
    try with_reducible rfl
  try go_simp
  refine wpAnyH_take (i := 24) (v := ?_) rfl (by kernel_rfl) (by kernel_rfl) (by kernel_rfl) (fun _ _ _ h => h) (Or.inl ⟨by rfl, ?_⟩) (by assumption) ?_
  rotate_left
  · intro W0 hSw
    obtain ⟨c2, c3, c4, c5, d2, d3, d4, d5, h0, h1⟩ := hSw
    go_simp
    try with_reducible rfl
  try go_simp
  refine wpAnyH_take (i := 25) (v := ?_) rfl (by kernel_rfl) (by kernel_rfl) (by kernel_rfl) (fun _ _ _ h => h) (Or.inl ⟨by rfl, ?_⟩) (by assumption) ?_
  rotate_left
  · intro W0 hSw
    obtain ⟨c2, c3, c4, c5, d2, d3, d4, d5, h0, h1⟩ := hSw
    go_simp
    try with_reducible rfl
  try go_simp
  refine wpAnyH_take (i := 26) (v := ?_) rfl (by kernel_rfl) (by kernel_rfl) (by kernel_rfl) (fun _ _ _ h => h) (Or.inl ⟨by rfl, ?_⟩) (by assumption) ?_
  rotate_left
  · intro W0 hSw
    obtain ⟨c2, c3, c4, c5, d2, d3, d4, d5, h0, h1⟩ := hSw
    go_simp
    try with_reducible rfl
  try go_simp
  refine wpAnyH_take (i := 27) (v := ?_) rfl (by kernel_rfl) (by kernel_rfl) (by kernel_rfl) (fun _ _ _ h => h) (Or.inl ⟨by rfl, ?_⟩) (by assumption) ?_
  rotate_left
  · intro W0 hSw
    obtain ⟨c2, c3, c4, c5, d2, d3, d4, d5, h0, h1⟩ := hSw
    go_simp
    try with_reducible rfl
  try go_simp
  refine wpAnyH_take (i := 28) (v := ?_) rfl (by kernel_rfl) (by kernel_rfl) (by kernel_rfl) (fun _ _ _ h => h) (Or.inl ⟨by rfl, ?_⟩) (by assumption) ?_
  rotate_left
  · intro W0 hSw
    obtain ⟨c2, c3, c4, c5, d2, d3, d4, d5, h0, h1⟩ := hSw
    go_simp
    try with_reducible rfl
  try go_simp
  refine wpAnyH_take (i := 29) (v := ?_) rfl (by kernel_rfl) (by kernel_rfl) (by kernel_rfl) (fun _ _ _ h => h) (Or.inl ⟨by rfl, ?_⟩) (by assumption) ?_
  rotate_left
  · intro W0 hSw
    obtain ⟨c2, c3, c4, c5, d2, d3, d4, d5, h0, h1⟩ := hSw
    go_simp
    try with_reducible rfl
  try go_simp
  refine wpAnyH_take (i := 30) (v := ?_) rfl (by kernel_rfl) (by kernel_rfl) (by kernel_rfl) (fun _ _ _ h => h) (Or.inl ⟨by rfl, ?_⟩) (by assumption) ?_
  rotate_left
  · intro W0 hSw
    obtain ⟨c2, c3, c4, c5, d2, d3, d4, d5, h0, h1⟩ := hSw
    go_simp
    try with_reducible rfl
  try go_simp
  refine wpAnyH_ready (rs := [31]) (by kernel_rfl) (by simp) (AllReadyH.cons rfl (fun K hK => ?_) AllReadyH.nil)
  go_simp
  refine (HOV.out _).mono ?_
  rintro e w7 ⟨rfl, hB⟩
  have hB7 : Below wo12.heap.size wo12 w7 := below_two (by repeat (first | exact Below.refl _ _ | refine Below.drew ?_)) hB
  have HB7 := Lib.hid hB7
  go_wp2_with fail
  refine hK.out _ _ ?hS (fun hHeld => ?_)
  case hS =>
    obtain ⟨c2, c3, c4, c5, d2, d3, d4, d5, h0, h1⟩ := hHeld
    exact ⟨kept c2 hB, kept c3 hB, kept c4 hB, kept c5 hB, kept d2 hB, kept d3 hB, kept d4 hB, kept d5 hB, kept h0 hB, kept h1 hB⟩
  clear hK K hB hB7
  try go_simp
  refine wpAnyH_take (i := 32) (v := ?_) rfl (by kernel_rfl) (by kernel_rfl) (by kernel_rfl) (fun _ _ _ h => h) (Or.inl ⟨by rfl, ?_⟩) (by assumption) ?_
  rotate_left
  · intro W0 hSw
    obtain ⟨c2, c3, c4, c5, d2, d3, d4, d5, h0, h1⟩ := hSw
    go_simp
    try with_reducible rfl
  try go_simp
  refine wpAnyH_done (by kernel_rfl) ?_ _
  all_goals have hqq := HQQ.out
  all_goals subst hqq
  all_goals go_wp2_with fail
  all_goals go_meet
  all_goals first | exact ⟨rfl, HB7.out⟩ | exact ⟨by simp, HB7.out⟩ | exact ⟨by go_simp, HB7.out⟩
end Go.Proofs.YtmfelkdcoihkpaaDoor
namespace Go.Proofs.YtmfelkdcoihkpaaDoor
open Go.RowKit
set_option linter.all false in
set_option maxHeartbeats 64000000 in
set_option maxRecDepth 100000 in
theorem part_CbL4_L4C : part_CbL4.L4C := by
  set_option tactic.hygienic false in intro
  set_option tactic.hygienic false in intros
  have hn := HSN.out (fun h => absurd h.2.2 (by simp))
  have HNN := Lib.hid hn
  clear hn HSN HHC HOV
  go_wp2_with fail
  go_roundw
  case rel => exact ⟨d + 1, by omega, by go_num, HNN.out, below_two HBd.out HB7.out, kept H02.out HB7.out, kept H12.out HB7.out⟩
  case measure => simp [intOf]; omega
end Go.Proofs.YtmfelkdcoihkpaaDoor
namespace Go.Proofs.YtmfelkdcoihkpaaDoor
open Go.RowKit
set_option linter.all false in
set_option maxHeartbeats 64000000 in
set_option maxRecDepth 100000 in
theorem part_CbL4_L4D : part_CbL4.L4D := by
  set_option tactic.hygienic false in intro
  set_option tactic.hygienic false in intros
  have hc := HHC.out ⟨rfl, rfl, rfl⟩
  have HC := Lib.hid hc
  clear hc HSN HHC HOV
  go_wp2_with fail
  go_ret2
  exact ⟨ret_two HC.out, below_two HB1.out (below_two HBd.out HB7.out)⟩
end Go.Proofs.YtmfelkdcoihkpaaDoor
namespace Go.Proofs.YtmfelkdcoihkpaaDoor
open Go.RowKit
set_option linter.all false in
set_option maxHeartbeats 64000000 in
set_option maxRecDepth 100000 in
theorem part_CbL4_L4E : part_CbL4.L4E := by
  set_option tactic.hygienic false in intro
  set_option tactic.hygienic false in intros
  have hn := HSN.out (fun h => hBq h.2.1)
  have HNN := Lib.hid hn
  have hbn : (v2 == xB) = false := by simpa using hBq
  clear hn HSN HHC HOV hBq
  go_wp2_with fail
  go_quiet (fail)
  go_wp2_with fail
  go_roundw
  case rel => exact ⟨d + 1, by omega, by go_num, HNN.out, below_drewN HBd.out _, by simpa using H02.out, by simpa using H12.out⟩
  case measure => simp [intOf]; omega
end Go.Proofs.YtmfelkdcoihkpaaDoor
namespace Go.Proofs.YtmfelkdcoihkpaaDoor
open Go.RowKit
set_option linter.all false in
set_option maxHeartbeats 64000000 in
set_option maxRecDepth 100000 in
theorem part_CbL4_L4F : part_CbL4.L4F := by
  set_option tactic.hygienic false in intro
  set_option tactic.hygienic false in intros
  have hn := HSN.out (fun h => hA h.1)
  have HNN := Lib.hid hn
  have han : (x2 == xA) = false := by simpa using hA
  clear hn HSN HHC HOV hA
  go_wp2_with fail
  go_quiet (fail)
  go_wp2_with fail
  go_roundw
  case rel => exact ⟨d + 1, by omega, by go_num, HNN.out, below_drewN HBd.out _, by simpa using H02.out, by simpa using H12.out⟩
  case measure => simp [intOf]; omega
end Go.Proofs.YtmfelkdcoihkpaaDoor
namespace Go.Proofs.YtmfelkdcoihkpaaDoor
open Go.RowKit
set_option linter.all false in
theorem part_Cb_L4 : part_Cb.L4 :=
  part_CbL4.imp ⟨part_CbL4_L4A⟩ ⟨part_CbL4_L4B⟩ ⟨part_CbL4_L4C⟩ ⟨part_CbL4_L4D⟩ ⟨part_CbL4_L4E⟩ ⟨part_CbL4_L4F⟩
end Go.Proofs.YtmfelkdcoihkpaaDoor
