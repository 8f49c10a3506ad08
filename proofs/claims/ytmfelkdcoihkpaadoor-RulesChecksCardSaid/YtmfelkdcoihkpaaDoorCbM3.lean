/-
  Pieces of the walk of the given Check.
-/
import Derived.Test.YtmfelkdcoihkpaaDoorCbMain
namespace Go.Proofs.YtmfelkdcoihkpaaDoor
open Go.RowKit
set_option linter.all false in
set_option maxHeartbeats 64000000 in
set_option maxRecDepth 100000 in
theorem part_Cb_L3A : part_Cb.L3A := by
  set_option tactic.hygienic false in intro
  set_option tactic.hygienic false in intros
  go_wp2_with fail
  go_loopw [10] (fun i wr => ∃ a : Nat, a ≤ k ∧ i = .int .i64 a ∧ NoA P.2.1 k a ∧ Below wx1.heap.size wx1 wr) (fun i _ => k - (intOf i).toNat)
  case atStart => exact ⟨0, Nat.zero_le _, rfl, fun j hj => by omega, HBo.out⟩
  case round =>
    obtain ⟨a, ha, rfl, hj, hB⟩ := hrel
    have HNA := Lib.hid hj
    have HBa := Lib.hid hB
    obtain ⟨c0, c1, -, -, -, c5⟩ := HCK.out _ hB
    clear hj hB
    by_cases hlt2 : a < k
    · have haw : a < N := by omega
      obtain ⟨d0, -, -, -, -, d5⟩ := plV_cells (Arr.keep HARR.out HBa.out) haw
      have HHA := Lib.hid (fun (hs : (pl P.2.1 a).1 = (pl P.2.1 k).1) (hg : gangB (plW P.2.1 a) (plW P.2.1 k) = true) => HHIT.out 46 (by rw [HX.out]; exact beside_hit HLW.out hlt2 hs hg) (by omega))
      have HSN := Lib.hid (fun hx => HNA.out.snoc (k := a) hx)
      obtain ⟨⟨c', q'⟩, hx'⟩ : ∃ x, x = pl P.2.1 a := ⟨_, rfl⟩
      obtain ⟨⟨v0, v1, v2, v3⟩, hy'⟩ : ∃ y, y = plW P.2.1 a := ⟨_, rfl⟩
      rw [← hx'] at d0
      rw [← hy'] at d5
      rw [← hx', ← hy', ← HX.out, ← HY.out] at HHA HSN
      dsimp only at d0 d5 HHA HSN
      have i2 : (0 : Int) ≤ (a : Int) := Int.natCast_nonneg _
      have i3 : (a : Int) < (N : Int) := by omega
      clear hx' hy'
      by_cases hcc : c' = c
      · subst hcc
        by_cases hgg : v3 = x3
        · subst hgg
          by_cases hg0 : v3 = 0
          · subst hg0
            have hn := HSN.out (fun _ => gang_no2)
            have HNN := Lib.hid hn
            clear hn HSN HHA
            go_wp2_with fail
            go_quiet (fail)
            go_wp2_with fail
            go_roundw
            case rel => exact ⟨a + 1, by omega, by go_num, HNN.out, below_drewN HBa.out _⟩
            case measure => simp [intOf]; omega
          · have hc := HHA.out rfl (gang_yes hg0)
            have HC := Lib.hid hc
            have hgn : (v3 != 0) = true := by simpa using hg0
            have hgn2 : (v3 == 0) = false := by simpa using hg0
            clear hc HSN HHA hg0
            go_wp2_with fail
            go_quiet (fail)
            go_wp2_with fail
            go_quiet (fail)
            go_wp2_with fail
            go_ret2
            exact ⟨ret_two HC.out, by repeat (first | exact below_two HB1.out HBa.out | refine below_drewN ?_ _)⟩
        · have hn := HSN.out (fun _ => gang_no1 hgg)
          have HNN := Lib.hid hn
          have hgn : (v3 == x3) = false := by simpa using hgg
          clear hn HSN HHA hgg
          go_wp2_with fail
          go_quiet (fail)
          go_wp2_with fail
          go_roundw
          case rel => exact ⟨a + 1, by omega, by go_num, HNN.out, below_drewN HBa.out _⟩
          case measure => simp [intOf]; omega
      · have hn := HSN.out (fun h => absurd h hcc)
        have HNN := Lib.hid hn
        have hcn : ((c' : Int) == (c : Int)) = false := beq_eq_false_iff_ne.2 (fun e => hcc (by omega))
        clear hn HSN HHA hcc
        go_wp2_with fail
        go_quiet (fail)
        go_wp2_with fail
        go_roundw
        case rel => exact ⟨a + 1, by omega, by go_num, HNN.out, below_drewN HBa.out _⟩
        case measure => simp [intOf]; omega
    · obtain rfl : k = a := by omega
      clear c0 c1 c5
      go_wp2_with fail
      go_meet
      exact ⟨HNA.out, HBa.out⟩
end Go.Proofs.YtmfelkdcoihkpaaDoor
namespace Go.Proofs.YtmfelkdcoihkpaaDoor
open Go.RowKit
set_option linter.all false in
set_option maxHeartbeats 64000000 in
set_option maxRecDepth 100000 in
theorem part_Cb_L3B : part_Cb.L3B := by
  set_option tactic.hygienic false in intro
  set_option tactic.hygienic false in intros
  go_region
  all_goals go_wp2_with fail
  all_goals go_meet
  all_goals
    first
      | exact ⟨_, _, rfl, rfl, (two_boxes _ _ _ _ _ _ _ _ _).1, (two_boxes _ _ _ _ _ _ _ _ _).2, (((Below.refl _ _).alloc (Nat.le_refl _) _).alloc (by simp) _).drew⟩
      | exact ⟨_, _, rfl, rfl, (two_boxes _ _ _ _ _ _ _ _ _).2, (two_boxes _ _ _ _ _ _ _ _ _).1, (((Below.refl _ _).alloc (Nat.le_refl _) _).alloc (by simp) _).drew⟩
end Go.Proofs.YtmfelkdcoihkpaaDoor
namespace Go.Proofs.YtmfelkdcoihkpaaDoor
open Go.RowKit
set_option linter.all false in
set_option maxHeartbeats 64000000 in
set_option maxRecDepth 100000 in
theorem part_Cb_L3C : part_Cb.L3C := by
  set_option tactic.hygienic false in intro
  set_option tactic.hygienic false in intros
  subst hcc
  have hn := HSN.out (fun h => absurd rfl h)
  have HNN := Lib.hid hn
  clear hn HSN HHL HTG HOV
  go_wp2_with fail
  go_quiet (fail)
  go_wp2_with fail
  go_roundw
  case rel => exact ⟨l + 1, by omega, by omega, by go_num, HNN.out, below_drewN HBc.out _⟩
  case measure => simp [intOf]; omega
end Go.Proofs.YtmfelkdcoihkpaaDoor
namespace Go.Proofs.YtmfelkdcoihkpaaDoor
open Go.RowKit
set_option linter.all false in
set_option maxHeartbeats 64000000 in
set_option maxRecDepth 100000 in
theorem part_Cb_L3D : part_Cb.L3D := by
  set_option tactic.hygienic false in intro
  set_option tactic.hygienic false in intros
  go_region_law ((
      go_simp
      go_at_call 17
      refine (HTG.out _).mono ?_
      rintro e w7 ⟨rfl, hB⟩
      have hB7 : Below wo7.heap.size wo7 w7 := below_two (by repeat (first | exact Below.refl _ _ | refine Below.drew ?_)) hB
      have HB7 := Lib.hid hB7
      clear hB hB7))
  all_goals go_wp2_with fail
  all_goals go_meet
  all_goals exact ⟨rfl, HB7.out⟩
end Go.Proofs.YtmfelkdcoihkpaaDoor
namespace Go.Proofs.YtmfelkdcoihkpaaDoor
open Go.RowKit
set_option linter.all false in
set_option maxHeartbeats 64000000 in
set_option maxRecDepth 100000 in
theorem part_Cb_L3E : part_Cb.L3E := by
  set_option tactic.hygienic false in intro
  set_option tactic.hygienic false in intros
  obtain ⟨rfl, hg0⟩ := hgg
  have hc := HHL.out 46 HCC.out (two_gang HTT.out.symm (gang_yes hg0)) (by omega)
  have HC := Lib.hid hc
  have hgn : (v3 != 0) = true := by simpa using hg0
  have hgn2 : (v3 == 0) = false := by simpa using hg0
  clear hc HSN HHL hg0 HTG HOV
  go_wp2_with fail
  go_quiet (fail)
  go_wp2_with fail
  go_ret2
  exact ⟨ret_two HC.out, by repeat (first | exact below_two HB1.out HB8.out | refine below_drewN ?_ _)⟩
end Go.Proofs.YtmfelkdcoihkpaaDoor
namespace Go.Proofs.YtmfelkdcoihkpaaDoor
open Go.RowKit
set_option linter.all false in
set_option maxHeartbeats 64000000 in
set_option maxRecDepth 100000 in
theorem part_Cb_L3F : part_Cb.L3F := by
  set_option tactic.hygienic false in intro
  set_option tactic.hygienic false in intros
  subst hpp
  obtain ⟨OO, hOO⟩ : ∃ OO, OO = ovB (v0, v1, v2, v3) (x0, x1, v2, x3) := ⟨_, rfl⟩
  rw [← hOO] at HOV
  have HOO := Lib.hid hOO
  clear hOO
  cases OO
  · have hn := HSN.out (fun _ => two_zero HTT.out.symm HGF.out (fun h => by rw [← HOO.out] at h; exact absurd h.2 (by simp)))
    have HNN := Lib.hid hn
    clear hn HSN HHL HTG
    by_cases hg3 : v3 = x3
    · obtain rfl : x3 = 0 := by omega
      subst hg3
      clear hgg
      go_wp2_with fail
      refine (HOV.out _).mono ?_
      rintro e w9 ⟨rfl, hB⟩
      have HB9 := Lib.hid (below_two HB8.out hB)
      clear hB
      go_wp2_with fail
      go_roundw
      case rel => exact ⟨l + 1, by omega, by omega, by go_num, HNN.out, HB9.out⟩
      case measure => simp [intOf]; omega
    · have hgn : (v3 == x3) = false := by simpa using hg3
      clear hgg hg3
      go_wp2_with fail
      refine (HOV.out _).mono ?_
      rintro e w9 ⟨rfl, hB⟩
      have HB9 := Lib.hid (below_two HB8.out hB)
      clear hB
      go_wp2_with fail
      go_roundw
      case rel => exact ⟨l + 1, by omega, by omega, by go_num, HNN.out, HB9.out⟩
      case measure => simp [intOf]; omega
  · have hc := HHL.out 47 HCC.out (two_same HTT.out.symm HGF.out rfl HOO.out.symm) (by omega)
    have HC := Lib.hid hc
    clear hc HSN HHL HTG
    by_cases hg3 : v3 = x3
    · obtain rfl : x3 = 0 := by omega
      subst hg3
      clear hgg
      go_wp2_with fail
      refine (HOV.out _).mono ?_
      rintro e w9 ⟨rfl, hB⟩
      replace c1 := kept c1 hB
      have HB9 := Lib.hid (below_two HB8.out hB)
      clear hB
      go_wp2_with fail
      go_quiet (fail)
      go_wp2_with fail
      go_ret2
      exact ⟨ret_two HC.out, by repeat (first | exact below_two HB1.out HB9.out | refine below_drewN ?_ _)⟩
    · have hgn : (v3 == x3) = false := by simpa using hg3
      clear hgg hg3
      go_wp2_with fail
      refine (HOV.out _).mono ?_
      rintro e w9 ⟨rfl, hB⟩
      replace c1 := kept c1 hB
      have HB9 := Lib.hid (below_two HB8.out hB)
      clear hB
      go_wp2_with fail
      go_quiet (fail)
      go_wp2_with fail
      go_ret2
      exact ⟨ret_two HC.out, by repeat (first | exact below_two HB1.out HB9.out | refine below_drewN ?_ _)⟩
end Go.Proofs.YtmfelkdcoihkpaaDoor
namespace Go.Proofs.YtmfelkdcoihkpaaDoor
open Go.RowKit
set_option linter.all false in
set_option maxHeartbeats 64000000 in
set_option maxRecDepth 100000 in
theorem part_Cb_L3G : part_Cb.L3G := by
  set_option tactic.hygienic false in intro
  set_option tactic.hygienic false in intros
  have hn := HSN.out (fun _ => two_zero HTT.out.symm HGF.out (fun h => absurd h.1 hpp))
  have HNN := Lib.hid hn
  have hpn : (v2 == x2) = false := by simpa using hpp
  clear hn HSN HHL HTG HOV hpp
  by_cases hg3 : v3 = x3
  · obtain rfl : x3 = 0 := by omega
    subst hg3
    clear hgg
    go_wp2_with fail
    go_roundw
    case rel => exact ⟨l + 1, by omega, by omega, by go_num, HNN.out, HB8.out⟩
    case measure => simp [intOf]; omega
  · have hgn : (v3 == x3) = false := by simpa using hg3
    clear hgg hg3
    go_wp2_with fail
    go_roundw
    case rel => exact ⟨l + 1, by omega, by omega, by go_num, HNN.out, HB8.out⟩
    case measure => simp [intOf]; omega
end Go.Proofs.YtmfelkdcoihkpaaDoor
namespace Go.Proofs.YtmfelkdcoihkpaaDoor
open Go.RowKit
set_option linter.all false in
set_option maxHeartbeats 64000000 in
set_option maxRecDepth 100000 in
theorem part_Cb_L3H : part_Cb.L3H := by
  set_option tactic.hygienic false in intro
  set_option tactic.hygienic false in intros
  have hn := HSN.out (fun _ => two_tog HTT.out.symm)
  have HNN := Lib.hid hn
  clear hn HSN HHL HOV
  go_wp2_with fail
  go_roundw
  case rel => exact ⟨l + 1, by omega, by omega, by go_num, HNN.out, below_two HBc7.out HB7.out⟩
  case measure => simp [intOf]; omega
end Go.Proofs.YtmfelkdcoihkpaaDoor
