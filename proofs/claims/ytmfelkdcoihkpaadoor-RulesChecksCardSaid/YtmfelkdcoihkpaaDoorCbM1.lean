/-
  Pieces of the walk of the given Check.
-/
import Derived.Test.YtmfelkdcoihkpaaDoorCbMain
namespace Go.Proofs.YtmfelkdcoihkpaaDoor
open Go.RowKit
set_option linter.all false in
set_option maxHeartbeats 64000000 in
set_option maxRecDepth 100000 in
theorem part_Cb_L1 : part_Cb.L1 := by
  set_option tactic.hygienic false in intro
  set_option tactic.hygienic false in intros
  go_wp2_with fail
  go_loop [4] (fun i => ∃ c : Nat, c ≤ n1 ∧ i = .int .i64 c ∧ ∀ j, j < c → manyE P j = 0) (fun i => n1 - (intOf i).toNat)
  case atStart => exact ⟨0, Nat.zero_le _, rfl, fun j hj => by omega⟩
  case round => 
    obtain ⟨c, hc, rfl, hj⟩ := hrel
    have HJ := Lib.hid hj
    clear hj
    by_cases hlt : c < n1
    · have hlw : c < P.2.1.length := by rw [← HN1.out]; exact hlt
      obtain ⟨Pf, q1, -⟩ := HP0.out.cores
      obtain ⟨b1, o1, hA⟩ := Arr.head q1 hlw
      rw [hA] at q1 k1
      have cc := Arr.at (j := 0) q1 hlw rfl
      obtain ⟨m, hm⟩ : ∃ m, m = (P.2.1.getD c []).length := ⟨_, rfl⟩
      have hli := HO.out.li _ (getD_mem [] hlw)
      rw [← hm] at hli
      simp only [slV, ← hm, Nat.mul_one, Nat.add_zero] at cc
      have HA := Lib.hid hA
      have HM := Lib.hid hm
      clear q1 hlw hm hA
      by_cases h256 : 256 < m
      · have hcc : R = (43, (c : Int)) := by
          rw [HR.out]
          refine at_rule (k := 3) (by omega) H3.out ?_ (by omega)
          show manyR P = _
          have he : manyE P c = 43 := by unfold manyE; rw [if_neg (by rw [← HM.out]; omega)]
          unfold manyR
          rw [hit_rg (by rw [← HN1.out]; exact hlt) HJ.out (by rw [he]; omega), he]
        have HC := Lib.hid hcc
        clear hcc
        go_wp2_with fail
        go_ret2
        exact ⟨ret_two HC.out, HB0.out⟩
      · go_wp2_with fail
        go_round
        case rel => exact ⟨c + 1, hlt, by go_num, fun j hj => (by
          rcases Nat.lt_or_ge j c with q | q
          · exact HJ.out j q
          · obtain rfl : j = c := by omega
            unfold manyE; rw [if_pos (by rw [← HM.out]; omega)])⟩
        case measure => simp [intOf]; omega
    · obtain rfl : n1 = c := by omega
      go_wp2_with fail
      go_meet
      exact ⟨HJ.out, Below.refl _ _⟩
end Go.Proofs.YtmfelkdcoihkpaaDoor
namespace Go.Proofs.YtmfelkdcoihkpaaDoor
open Go.RowKit
set_option linter.all false in
set_option maxHeartbeats 64000000 in
set_option maxRecDepth 100000 in
theorem part_Cb_L2 : part_Cb.L2 := by
  set_option tactic.hygienic false in intro
  set_option tactic.hygienic false in intros
  go_wp2_with fail
  go_loopw [6] (fun i wr => ∃ k : Nat, k ≤ N ∧ i = .int .i64 k ∧ NoP P k ∧ Below wx1.heap.size wx1 wr) (fun i _ => N - (intOf i).toNat)
  case atStart => exact ⟨0, Nat.zero_le _, rfl, fun j hj => by omega, Below.refl _ _⟩
  case round => 
    obtain ⟨k, hk, rfl, hj, hB⟩ := hrel
    have HJ := Lib.hid hj
    have HB := Lib.hid hB
    obtain ⟨m0, m1, m2, m3, m4⟩ := HPB1.out.keep hB
    rw [← HFE.out] at m0
    rw [← HN1.out] at m1
    rw [← HN2.out] at m2
    rw [← HN3.out] at m3
    rw [← HN4.out] at m4
    clear hj hB m1 m3 m4
    by_cases hlt : k < N
    · have hlw : k < (places P.2.1).length := by rw [← HN.out]; exact hlt
      obtain ⟨b, o, rfl⟩ := Arr.head HARR.out hlt
      obtain ⟨c0, c1, c2, c3, c4, c5⟩ := plV_cells (Arr.keep HARR.out HB.out) hlt
      have hfree := free_of (P := P) hlw
      obtain ⟨⟨y0, y1⟩, ⟨z0, z1⟩, ⟨t0, t1⟩, -⟩ := plW_wf HO.out.wf.2.1 hlw
      have P44 := Lib.hid (fun b hb h => hit_order H4.out hlw HJ.out (placed_44 (i := k) (b := b) hb h) (by omega))
      have P45 := Lib.hid (fun b hb h hp => hit_order H4.out hlw HJ.out (placed_45 (i := k) (b := b) hb h hp) (by omega))
      have P0 := Lib.hid (fun b hb h hp => HJ.out.snoc (placed_0 (i := k) (b := b) hb h hp))
      rw [← HR.out, ← HFE.out] at P44
      rw [← HR.out, ← HFE.out, ← HN2.out] at P45
      rw [← HFE.out, ← HN2.out] at P0
      unfold endW at P44 P45 P0
      obtain ⟨⟨c, q⟩, hx⟩ : ∃ x, x = pl P.2.1 k := ⟨_, rfl⟩
      obtain ⟨⟨x0, x1, x2, x3⟩, hy⟩ : ∃ y, y = plW P.2.1 k := ⟨_, rfl⟩
      rw [← hx] at c0 c1 hfree P44 P45
      rw [← hx] at P0
      rw [← hy] at c2 c3 c4 c5 y0 y1 z0 z1 t0 t1 P44 P45 P0
      dsimp only at c0 c1 c2 c3 c4 c5 y0 y1 z0 z1 t0 t1 hfree P44 P45 P0
      have hqp : 256 * (c : Int) + (q : Int) = ((256 * c + q : Nat) : Int) := by push_cast; rfl
      have i0 : (0 : Int) ≤ (k : Int) := Int.natCast_nonneg _
      have i1 : (k : Int) < (N : Int) := by omega
      have e0 : IntKind.i64.wrap (x0 + x1) = x0 + x1 := IntWalk.i64_in _ (by omega)
      obtain ⟨at_, hat⟩ : ∃ at_ : Int, at_ = 256 * (c : Int) + (q : Int) := ⟨_, rfl⟩
      rw [← hat] at c1 P44 P45
      clear hx hy hlw hqp hat
      obtain ⟨hb', hhb⟩ : ∃ bh : Int, bh = freeW P c q := ⟨_, rfl⟩
      have P44' := Lib.hid (P44.out _ hhb.symm)
      have P45' := Lib.hid (P45.out _ hhb.symm)
      have P0' := Lib.hid (P0.out _ hhb.symm)
      rw [← hhb] at hfree
      clear hhb P44 P45 P0
      have hba : Below wr.heap.size wr (wr.alloc (.cells #[.int .u16 x0, .int .u16 x1, .int .u8 x2, .int .u8 x3] 39)) := (Below.refl _ _).alloc (Nat.le_refl _) _
      have ma0 := kept m0 hba
      have ma2 := kept m2 hba
      have ca0 := kept c0 hba
      have ca1 := kept c1 hba
      by_cases hk0 : k = 0
      · rw [if_neg (by omega)] at hfree
        have hd : decide ((0 : Int) < (k : Int)) = false := decide_eq_false (by omega)
        have hd2 : decide (0 < k) = false := decide_eq_false (by omega)
        subst hfree
        clear hk0 hba
        go_wp2_with fail
        go_quiet (fail)
        by_cases t44 : x1 = 0
        · have hc := P44'.out (.inl t44)
          have HC := Lib.hid hc
          subst t44
          clear hc P44' P45' P0'
          go_wp2_with fail
          go_quiet (fail)
          go_wp2_with fail
          go_ret2
          exact ⟨ret_two HC.out, by repeat (first | exact below_two HB1.out HB.out | refine Below.drew ?_ | refine below_drewN ?_ _ | refine Below.alloc ?_ (Nat.le_trans (below_two HB1.out HB.out).size (by simp)) _)⟩
        · have t44' : (x1 == 0) = false := by simpa using t44
          by_cases t45 : x0 < 0
          · exact absurd t45 (by omega)
          · by_cases t46 : fr < x0 + x1
            · have hc := P44'.out (.inr (.inr t46))
              have HC := Lib.hid hc
              have t45' : 0 ≤ x0 := by omega
              clear hc P44' P45' P0' t44
              go_wp2_with fail
              go_quiet (fail)
              go_wp2_with fail
              go_ret2
              exact ⟨ret_two HC.out, by repeat (first | exact below_two HB1.out HB.out | refine Below.drew ?_ | refine below_drewN ?_ _ | refine Below.alloc ?_ (Nat.le_trans (below_two HB1.out HB.out).size (by simp)) _)⟩
            · by_cases t47 : (n2 : Int) ≤ x2
              · have hc := P45'.out (by omega) (by omega)
                have HC := Lib.hid hc
                have t45' : 0 ≤ x0 := by omega
                have t46' : x0 + x1 ≤ fr := by omega
                clear hc P44' P45' P0' t44
                go_wp2_with fail
                go_quiet (fail)
                go_wp2_with fail
                go_ret2
                exact ⟨ret_two HC.out, by repeat (first | exact below_two HB1.out HB.out | refine Below.drew ?_ | refine below_drewN ?_ _ | refine Below.alloc ?_ (Nat.le_trans (below_two HB1.out HB.out).size (by simp)) _)⟩
              · have hc := P0'.out (by omega) (by omega)
                have HC := Lib.hid hc
                have t45' : 0 ≤ x0 := by omega
                have t46' : x0 + x1 ≤ fr := by omega
                have t47' : x2 < (n2 : Int) := by omega
                clear hc P44' P45' P0' t44
                go_wp2_with fail
                go_roundw
                case rel => exact ⟨k + 1, hlt, by go_num, HC.out, by repeat (first | exact HB.out | refine Below.drew ?_ | refine below_drewN ?_ _ | refine Below.alloc ?_ (Nat.le_trans HB.out.size (by simp)) _)⟩
                case measure => simp [intOf]; omega
      · obtain ⟨m, hm⟩ : ∃ m, m + 1 = k := ⟨k - 1, by omega⟩
        have hkm : k - 1 = m := by omega
        rw [hkm] at hfree
        have hmN : m < N := by omega
        obtain ⟨d0, -, d2, d3, -, -⟩ := plV_cells (Arr.keep HARR.out HB.out) hmN
        obtain ⟨⟨v0, v1⟩, ⟨u0, u1⟩, -, -⟩ := plW_wf HO.out.wf.2.1 (show m < (places P.2.1).length by rw [← HN.out]; exact hmN)
        obtain ⟨⟨c', q'⟩, hx'⟩ : ∃ x, x = pl P.2.1 m := ⟨_, rfl⟩
        obtain ⟨⟨w0, wl, w2, w3⟩, hy'⟩ : ∃ y, y = plW P.2.1 m := ⟨_, rfl⟩
        rw [← hx'] at d0 hfree
        rw [← hy'] at d2 d3 v0 v1 u0 u1 hfree
        dsimp only at d0 d2 d3 v0 v1 u0 u1 hfree
        have e1 : IntKind.i64.wrap ((k : Int) - 1) = (m : Int) := by rw [show (k : Int) - 1 = (m : Int) by omega]; exact IntWalk.i64_in _ (by omega)
        have e2 : IntKind.i64.wrap (w0 + wl) = w0 + wl := IntWalk.i64_in _ (by omega)
        have i2 : (0 : Int) ≤ (m : Int) := Int.natCast_nonneg _
        have i3 : (m : Int) < (N : Int) := by omega
        have hd : decide ((0 : Int) < (k : Int)) = true := decide_eq_true (by omega)
        have hd2 : decide (0 < k) = true := decide_eq_true (by omega)
        have hd3 : 0 < k := by omega
        have da0 := kept d0 hba
        have da2 := kept d2 hba
        have da3 := kept d3 hba
        clear hx' hy' hkm hk0 hba
        by_cases hcc : c' = c
        · subst hcc
          rw [if_pos ⟨by omega, rfl⟩] at hfree
          unfold endW at hfree
          dsimp only at hfree
          subst hfree
          clear hm
          go_wp2_with fail
          go_quiet (fail)
          go_wp2_with fail
          go_quiet (fail)
          by_cases t44 : x1 = 0
          · have hc := P44'.out (.inl t44)
            have HC := Lib.hid hc
            subst t44
            clear hc P44' P45' P0'
            go_wp2_with fail
            go_quiet (fail)
            go_wp2_with fail
            go_ret2
            exact ⟨ret_two HC.out, by repeat (first | exact below_two HB1.out HB.out | refine Below.drew ?_ | refine below_drewN ?_ _ | refine Below.alloc ?_ (Nat.le_trans (below_two HB1.out HB.out).size (by simp)) _)⟩
          · have t44' : (x1 == 0) = false := by simpa using t44
            by_cases t45 : x0 < w0 + wl
            · have hc := P44'.out (.inr (.inl t45))
              have HC := Lib.hid hc
              clear hc P44' P45' P0' t44
              go_wp2_with fail
              go_quiet (fail)
              go_wp2_with fail
              go_ret2
              exact ⟨ret_two HC.out, by repeat (first | exact below_two HB1.out HB.out | refine Below.drew ?_ | refine below_drewN ?_ _ | refine Below.alloc ?_ (Nat.le_trans (below_two HB1.out HB.out).size (by simp)) _)⟩
            · by_cases t46 : fr < x0 + x1
              · have hc := P44'.out (.inr (.inr t46))
                have HC := Lib.hid hc
                have t45' : w0 + wl ≤ x0 := by omega
                clear hc P44' P45' P0' t44
                go_wp2_with fail
                go_quiet (fail)
                go_wp2_with fail
                go_ret2
                exact ⟨ret_two HC.out, by repeat (first | exact below_two HB1.out HB.out | refine Below.drew ?_ | refine below_drewN ?_ _ | refine Below.alloc ?_ (Nat.le_trans (below_two HB1.out HB.out).size (by simp)) _)⟩
              · by_cases t47 : (n2 : Int) ≤ x2
                · have hc := P45'.out (by omega) (by omega)
                  have HC := Lib.hid hc
                  have t45' : w0 + wl ≤ x0 := by omega
                  have t46' : x0 + x1 ≤ fr := by omega
                  clear hc P44' P45' P0' t44
                  go_wp2_with fail
                  go_quiet (fail)
                  go_wp2_with fail
                  go_ret2
                  exact ⟨ret_two HC.out, by repeat (first | exact below_two HB1.out HB.out | refine Below.drew ?_ | refine below_drewN ?_ _ | refine Below.alloc ?_ (Nat.le_trans (below_two HB1.out HB.out).size (by simp)) _)⟩
                · have hc := P0'.out (by omega) (by omega)
                  have HC := Lib.hid hc
                  have t45' : w0 + wl ≤ x0 := by omega
                  have t46' : x0 + x1 ≤ fr := by omega
                  have t47' : x2 < (n2 : Int) := by omega
                  clear hc P44' P45' P0' t44
                  go_wp2_with fail
                  go_roundw
                  case rel => exact ⟨k + 1, hlt, by go_num, HC.out, by repeat (first | exact HB.out | refine Below.drew ?_ | refine below_drewN ?_ _ | refine Below.alloc ?_ (Nat.le_trans HB.out.size (by simp)) _)⟩
                  case measure => simp [intOf]; omega
        · rw [if_neg (fun h => hcc h.2)] at hfree
          have hcn : ((c' : Int) == (c : Int)) = false := beq_eq_false_iff_ne.2 (fun e => hcc (by omega))
          subst hfree
          clear hm e2 d2 d3 da2 da3
          go_wp2_with fail
          go_quiet (fail)
          by_cases t44 : x1 = 0
          · have hc := P44'.out (.inl t44)
            have HC := Lib.hid hc
            subst t44
            clear hc P44' P45' P0'
            go_wp2_with fail
            go_quiet (fail)
            go_wp2_with fail
            go_ret2
            exact ⟨ret_two HC.out, by repeat (first | exact below_two HB1.out HB.out | refine Below.drew ?_ | refine below_drewN ?_ _ | refine Below.alloc ?_ (Nat.le_trans (below_two HB1.out HB.out).size (by simp)) _)⟩
          · have t44' : (x1 == 0) = false := by simpa using t44
            by_cases t45 : x0 < 0
            · exact absurd t45 (by omega)
            · by_cases t46 : fr < x0 + x1
              · have hc := P44'.out (.inr (.inr t46))
                have HC := Lib.hid hc
                have t45' : 0 ≤ x0 := by omega
                clear hc P44' P45' P0' t44
                go_wp2_with fail
                go_quiet (fail)
                go_wp2_with fail
                go_ret2
                exact ⟨ret_two HC.out, by repeat (first | exact below_two HB1.out HB.out | refine Below.drew ?_ | refine below_drewN ?_ _ | refine Below.alloc ?_ (Nat.le_trans (below_two HB1.out HB.out).size (by simp)) _)⟩
              · by_cases t47 : (n2 : Int) ≤ x2
                · have hc := P45'.out (by omega) (by omega)
                  have HC := Lib.hid hc
                  have t45' : 0 ≤ x0 := by omega
                  have t46' : x0 + x1 ≤ fr := by omega
                  clear hc P44' P45' P0' t44
                  go_wp2_with fail
                  go_quiet (fail)
                  go_wp2_with fail
                  go_ret2
                  exact ⟨ret_two HC.out, by repeat (first | exact below_two HB1.out HB.out | refine Below.drew ?_ | refine below_drewN ?_ _ | refine Below.alloc ?_ (Nat.le_trans (below_two HB1.out HB.out).size (by simp)) _)⟩
                · have hc := P0'.out (by omega) (by omega)
                  have HC := Lib.hid hc
                  have t45' : 0 ≤ x0 := by omega
                  have t46' : x0 + x1 ≤ fr := by omega
                  have t47' : x2 < (n2 : Int) := by omega
                  clear hc P44' P45' P0' t44
                  go_wp2_with fail
                  go_roundw
                  case rel => exact ⟨k + 1, hlt, by go_num, HC.out, by repeat (first | exact HB.out | refine Below.drew ?_ | refine below_drewN ?_ _ | refine Below.alloc ?_ (Nat.le_trans HB.out.size (by simp)) _)⟩
                  case measure => simp [intOf]; omega
    · obtain rfl : N = k := by omega
      go_wp2_with fail
      go_meet
      exact ⟨HJ.out, HB.out⟩
end Go.Proofs.YtmfelkdcoihkpaaDoor
namespace Go.Proofs.YtmfelkdcoihkpaaDoor
open Go.RowKit
set_option linter.all false in
set_option maxHeartbeats 64000000 in
set_option maxRecDepth 100000 in
theorem part_Cb_L6 : part_Cb.L6 := by
  set_option tactic.hygienic false in intro
  set_option tactic.hygienic false in intros
  go_wp2_with fail
  go_loopw [23] (fun i wr => ∃ k : Nat, k ≤ n2 ∧ i = .int .i64 k ∧ NoQ P k ∧ Below wx1.heap.size wx1 wr) (fun i _ => n2 - (intOf i).toNat)
  case atStart => exact ⟨0, Nat.zero_le _, rfl, fun j hj => by omega, HB8.out⟩
  case round =>
    obtain ⟨k, hk, rfl, hj, hB⟩ := hrel
    have HG := Lib.hid hj
    have HBp := Lib.hid hB
    obtain ⟨m0, m1, m2, m3, m4⟩ := HPB1.out.keep hB
    rw [← HN2.out] at m2
    clear hj hB m0 m1 m3 m4
    by_cases hlt : k < n2
    · have hlw : k < P.2.2.1.length := by rw [← HN2.out]; exact hlt
      obtain ⟨S, Q, hq1, hq2⟩ := HPL1.out.parts
      obtain ⟨b3, o3, hA3⟩ := Arr.head hq1 hlw
      rw [hA3] at hq1 m2
      have e0 := Arr.at (j := 0) (Arr.keep hq1 HBp.out) hlw rfl
      have e1 := Arr.at (j := 1) (Arr.keep hq1 HBp.out) hlw rfl
      have e2 := Arr.at (j := 2) (Arr.keep hq1 HBp.out) hlw rfl
      have e3 := Arr.at (j := 3) (Arr.keep hq1 HBp.out) hlw rfl
      have e4 := Arr.at (j := 4) (Arr.keep hq1 HBp.out) hlw rfl
      have e5 := Arr.at (j := 5) (Arr.keep hq1 HBp.out) hlw rfl
      obtain ⟨l1, l2⟩ := HO.out.lp _ (getD_mem dQ hlw)
      have hobj := object_any (P.2.2.1.getD k dQ) (S k) (Q k) wr (Arr.keep (hq2 k hlw).1 HBp.out) (Arr.keep (hq2 k hlw).2.1 HBp.out) (HO.out.wf.2.2.1 _ (getD_mem dQ hlw)) l1 l2
      have HHIT := Lib.hid (fun hx => hit_part H8.out hlw HG.out hx)
      have HSN := Lib.hid (fun hx => HG.out.snoc (k := k) hx)
      rw [← HR.out] at HHIT
      obtain ⟨r, hr⟩ : ∃ r, r = partB (P.2.2.1.getD k dQ) := ⟨_, rfl⟩
      rw [← hr] at hobj HHIT HSN
      obtain ⟨⟨ss, ev, pp, a0, a1, a2⟩, hx⟩ : ∃ x, x = P.2.2.1.getD k dQ := ⟨_, rfl⟩
      obtain ⟨⟨sA, sc⟩, hS⟩ : ∃ x, x = S k := ⟨_, rfl⟩
      obtain ⟨⟨qA, qc⟩, hQ⟩ : ∃ x, x = Q k := ⟨_, rfl⟩
      rw [← hx, ← hS, ← hQ] at hobj
      simp only [← hx, ← hS, ← hQ, Nat.add_zero, partV, slV] at e0 e1 e2 e3 e4 e5
      simp only [pv, slV] at hobj
      have HOB := Lib.hid hobj
      obtain ⟨ns, hns⟩ : ∃ n, n = ss.length := ⟨_, rfl⟩
      obtain ⟨np, hnp⟩ : ∃ n, n = pp.length := ⟨_, rfl⟩
      rw [← hns] at e0 HOB
      rw [← hnp] at e2 HOB
      clear hx hS hQ hobj hq1 hq2 hA3 hlw l1 l2 hr hns hnp
      cases r
      · have hc := HHIT.out rfl
        have HC := Lib.hid hc
        clear hc HSN HHIT
        go_wp2_with fail
        refine HOB.out.mono ?_
        rintro e w7 ⟨rfl, hB⟩
        have HB7 := Lib.hid hB
        clear hB
        go_wp2_with fail
        go_ret2
        exact ⟨ret_two HC.out, below_two HB1.out (below_two HBp.out HB7.out)⟩
      · have hn := HSN.out rfl
        have HNN := Lib.hid hn
        clear hn HSN HHIT
        go_wp2_with fail
        refine HOB.out.mono ?_
        rintro e w7 ⟨rfl, hB⟩
        have HB7 := Lib.hid hB
        clear hB
        go_wp2_with fail
        go_roundw
        case rel => exact ⟨k + 1, by omega, by go_num, HNN.out, below_two HBp.out HB7.out⟩
        case measure => simp [intOf]; omega
    · obtain rfl : n2 = k := by omega
      go_wp2_with fail
      go_meet
      exact ⟨HG.out, HBp.out⟩
end Go.Proofs.YtmfelkdcoihkpaaDoor
