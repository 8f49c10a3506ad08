/-
  The walk of PathsOut.
-/
import Derived.Test.YtjiikhfeacgjjaaWalkGoes
namespace Go.Proofs.Ytjiikhfeacgjjaa
open Go.RowKit

theorem apart_any (P : PlanA) (L : PlanL) (a : Nat) (b : Int) (w : World) (hP : PlanAt w P L) (hw : WfPlan P) (hl : P.2.2.1.length ≤ 140737488355328) (hl3 : P.2.2.2.1.length ≤ 140737488355328) (ha : a < P.2.2.1.length) :
    Calls Try.prog 16 #[planV P L, .int .i64 a, .int .i64 b] w fun e w' => e = .returned (.tuple #[.bool (isB P.2.2.1.length b && (!pathB P.2.2.1.length P.2.2.2.1 a b.toNat && !pathB P.2.2.1.length P.2.2.2.1 b.toNat a)), .int .i64 (if isB P.2.2.1.length b then 0 else 70)]) ∧ Below w.heap.size w w' := by
  by_cases hb : 0 ≤ b ∧ b < P.2.2.1.length
  · obtain ⟨t, rfl⟩ : ∃ t : Nat, b = t := ⟨b.toNat, by omega⟩
    rw [isB_nat (by omega), Int.toNat_natCast]
    exact apart_yes P L a t w hP hw hl hl3 ha (by omega)
  · rw [isB_no hb]
    exact apart_no P L a b w hP hw hl hl3 (fun h => hb h.2)

set_option maxHeartbeats 8000000 in
set_option maxRecDepth 100000 in
theorem walk_out (P : PlanA) (L : PlanL) (a b : Int) (w : World) (hP : PlanAt w P L) (hO : POk P L) : Calls Try.prog 4 #[planV P L, .int .i64 a, .int .i64 b] w fun e w' => e = .returned (.bool true) ∧ Below w.heap.size w w' := by
  have HFEW := Lib.hid (fun W hP => few_any P L W hP hO)
  have HOUT := Lib.hid (fun t W hP hF ht => out_yes P L t W hP hO.wf (l47 (Few.l2 hF)) (l47 (Few.l3 hF)) ht)
  have HOUT0 := Lib.hid (fun z W hz => out_no P L z W hO.l2 hz)
  have HAPA := Lib.hid (fun a W hP ha => apart_any P L a b W hP hO.wf hO.l2 hO.l3 ha)
  have HAP0 := Lib.hid (fun W hP hab => apart_no P L a b W hP hO.wf hO.l2 hO.l3 hab)
  have HISA := Lib.hid (fun W => is_any P L a W hO.l2)
  have HISB := Lib.hid (fun W => is_any P L b W hO.l2)
  have HPT := Lib.hid (fun a b W hP ha hb => refPath_yes P L a b W hP hO.wf hO.l2 hO.l3 ha hb)
  have HP := Lib.hid hP
  have hl2 := hO.l2
  obtain ⟨fr, cs, ps, hs, rs⟩ := P
  obtain ⟨A1, c1, A2, c2, A3, c3, A4, c4⟩ := L
  have HB0 : Hid (Below w.heap.size w (w.alloc (.cells #[.int .u16 fr, .slice A1 cs.length c1, .slice A2 ps.length c2, .slice A3 hs.length c3, .slice A4 rs.length c4] 28))) := (Below.refl _ _).alloc (Nat.le_refl _) _
  have HPB := Lib.hid (PBn.new w fr A1 cs.length c1 A2 ps.length c2 A3 hs.length c3 A4 rs.length c4)
  simp only [planV] at *
  clear hP hO
  by_cases ha : 0 ≤ a ∧ a < ps.length
  case neg =>
    have HA := Lib.hid (fun W => HOUT0.out a W ha)
    have HAA := Lib.hid (fun W hP => HAP0.out W hP (fun h => ha h.1))
    rw [isB_no ha] at HISA
    clear ha
    go_enter Try.func4, Try.ntmps4
    go_wp2_with fail
    refine (HFEW.out _ (HP.out.keep HB0.out)).mono ?_
    rintro e w1 ⟨⟨q, rfl, hb⟩, hB⟩
    obtain ⟨k0, k1, k2, k3, k4⟩ := HPB.out.keep hB
    have HB1 := Lib.hid (below_two HB0.out hB)
    have HPB1 := Lib.hid (HPB.out.keep hB)
    clear hB hb
    cases q
    · go_wp2_with fail
      refine (awake_any _).mono ?_
      rintro e w2 ⟨rfl, hB⟩
      have HB2 := Lib.hid (below_two HB1.out hB)
      clear hB
      go_wp2_with fail
      go_ret
      exact ⟨rfl, HB2.out⟩
    · go_wp2_with fail
      refine (HA.out _).mono ?_
      rintro e w2 ⟨rfl, hB⟩
      have HB2 := Lib.hid (below_two HB1.out hB)
      have HPB2 := Lib.hid (HPB1.out.keep hB)
      clear hB k0 k1 k2 k3 k4
      obtain ⟨k0, k1, k2, k3, k4⟩ := HPB2.out
      go_wp2_with fail
      refine (HAA.out _ (HP.out.keep HB2.out)).mono ?_
      rintro e w3 ⟨rfl, hB⟩
      have HB3 := Lib.hid (below_two HB2.out hB)
      have HPB3 := Lib.hid (HPB2.out.keep hB)
      clear hB k0 k1 k2 k3 k4
      obtain ⟨k0, k1, k2, k3, k4⟩ := HPB3.out
      go_wp2_with fail
      refine (HISA.out _).mono ?_
      rintro e w4 ⟨rfl, hB⟩
      have HB4 := Lib.hid (below_two HB3.out hB)
      clear hB k0 k1 k2 k3 k4
      go_wp2_with fail
      refine (awake_any _).mono ?_
      rintro e w5 ⟨rfl, hB⟩
      have HB5 := Lib.hid (below_two HB4.out hB)
      clear hB
      go_wp2_with fail
      go_ret
      exact ⟨rfl, HB5.out⟩
  obtain ⟨a, rfl⟩ : ∃ t : Nat, a = t := ⟨a.toNat, by omega⟩
  have haN : a < ps.length := by omega
  rw [isB_nat haN] at HISA
  have HA := Lib.hid (fun W hP hF => HOUT.out a W hP hF haN)
  have HAA := Lib.hid (fun W hP => HAPA.out a W hP haN)
  have HPA := Lib.hid (fun i W hP hi => HPT.out a i W hP haN hi)
  have HPTB : Hid (∀ t : Nat, b = t → t < ps.length → (∀ W (hP : PlanAt W (fr, cs, ps, hs, rs) ⟨A1, c1, A2, c2, A3, c3, A4, c4⟩), Calls Try.prog 18 #[.agg #[.int .u16 fr, .slice A1 cs.length c1, .slice A2 ps.length c2, .slice A3 hs.length c3, .slice A4 rs.length c4], .int .i64 a, .int .i64 b] W fun e w' => e = .returned (.bool (pathB ps.length hs a t)) ∧ Below W.heap.size W w') ∧ ∀ W (hP : PlanAt W (fr, cs, ps, hs, rs) ⟨A1, c1, A2, c2, A3, c3, A4, c4⟩), Calls Try.prog 18 #[.agg #[.int .u16 fr, .slice A1 cs.length c1, .slice A2 ps.length c2, .slice A3 hs.length c3, .slice A4 rs.length c4], .int .i64 b, .int .i64 a] W fun e w' => e = .returned (.bool (pathB ps.length hs t a)) ∧ Below W.heap.size W w') := fun t e ht => by
    subst e
    exact ⟨fun W (hP : PlanAt W (fr, cs, ps, hs, rs) ⟨A1, c1, A2, c2, A3, c3, A4, c4⟩) => HPT.out a t W hP haN ht, fun W hP => HPT.out t a W hP ht haN⟩
  have HAN := Lib.hid haN
  have i0 : (0 : Int) ≤ (a : Int) := Int.natCast_nonneg _
  have i1 : (a : Int) < (ps.length : Int) := by omega
  obtain ⟨N, hN⟩ : ∃ N, N = ps.length := ⟨_, rfl⟩
  have HNN := Lib.hid hN
  clear ha haN hN
  go_enter Try.func4, Try.ntmps4
  go_wp2_with fail
  refine (HFEW.out _ (HP.out.keep HB0.out)).mono ?_
  rintro e w1 ⟨⟨q, rfl, hb⟩, hB⟩
  obtain ⟨k0, k1, k2, k3, k4⟩ := HPB.out.keep hB
  have HB1 := Lib.hid (below_two HB0.out hB)
  have HPB1 := Lib.hid (HPB.out.keep hB)
  have HFB := Lib.hid hb
  clear hB hb
  cases q
  · go_wp2_with fail
    refine (awake_any _).mono ?_
    rintro e w2 ⟨rfl, hB⟩
    have HB2 := Lib.hid (below_two HB1.out hB)
    clear hB
    go_wp2_with fail
    go_ret
    exact ⟨rfl, HB2.out⟩
  have hF := HFB.out rfl
  have HFF := Lib.hid hF
  clear hF
  go_wp2_with fail
  refine (HA.out _ (HP.out.keep HB1.out) HFF.out).mono ?_
  rintro e w2 ⟨B2, d2, rfl, hx, hB⟩
  have HX := Lib.hid hx
  have HB2 := Lib.hid (below_two HB1.out hB)
  have HPB2 := Lib.hid (HPB1.out.keep hB)
  clear hB hx k0 k1 k2 k3 k4
  obtain ⟨k0, k1, k2, k3, k4⟩ := HPB2.out
  go_wp2_with fail
  refine (HAA.out _ (HP.out.keep HB2.out)).mono ?_
  rintro e w3 ⟨rfl, hB⟩
  have HX := Lib.hid (Arr.keep HX.out hB)
  have HB3 := Lib.hid (below_two HB2.out hB)
  have HPB3 := Lib.hid (HPB2.out.keep hB)
  clear hB k0 k1 k2 k3 k4
  obtain ⟨k0, k1, k2, k3, k4⟩ := HPB3.out
  obtain ⟨r, hr⟩ : ∃ r, r = isB ps.length b := ⟨_, rfl⟩
  rw [← hr] at HISB
  have HR := Lib.hid hr
  rw [← hr]
  obtain ⟨ap, hap⟩ : ∃ q, q = (r && (!pathB ps.length hs a b.toNat && !pathB ps.length hs b.toNat a)) := ⟨_, rfl⟩
  rw [← hap]
  have HAPP := Lib.hid hap
  obtain ⟨er, her⟩ : ∃ q : Int, q = (if r then 0 else 70) := ⟨_, rfl⟩
  rw [← her]
  have HER := Lib.hid her
  clear hr hap her
  go_wp2_with fail
  refine (HISA.out _).mono ?_
  rintro e w4 ⟨rfl, hB⟩
  have hx := Arr.keep HX.out hB
  have HX := Lib.hid hx
  have HB4 := Lib.hid (below_two HB3.out hB)
  have HPB4 := Lib.hid (HPB3.out.keep hB)
  clear hB hx k0 k1 k2 k3 k4
  obtain ⟨k0, k1, k2, k3, k4⟩ := HPB4.out
  have hd0 : ((ps.length : Int) != (ps.length : Int)) = false := by simp
  go_wp2_with fail
  go_loopw [11] (fun i wr => ∃ k : Nat, k ≤ ps.length ∧ i = .int .i64 k ∧ Below w4.heap.size w4 wr) (fun i _ => ps.length - (intOf i).toNat)
  case atStart => exact ⟨0, Nat.zero_le _, rfl, Below.refl _ _⟩
  case round =>
    obtain ⟨k, hk, rfl, hB⟩ := hrel
    have HBR := Lib.hid hB
    have HPBR := Lib.hid (HPB4.out.keep hB)
    clear k0 k1 k2 k3 k4
    obtain ⟨k0, k1, k2, k3, k4⟩ := HPBR.out
    by_cases hlt : k < ps.length
    · have hx := Arr.keep HX.out hB
      obtain ⟨b2, o2, rfl⟩ := Arr.head hx hlt
      have hr := Bools.cell hx hlt
      have HC := Lib.hid (fun W hB => HPA.out k W (HP.out.keep (below_two HB4.out hB)) hlt)
      obtain ⟨v, hv⟩ : ∃ v, v = pathB ps.length hs a k := ⟨_, rfl⟩
      rw [← hv] at hr HC
      have hvv : (v != v) = false := by simp
      have j0 : (0 : Int) ≤ (k : Int) := Int.natCast_nonneg _
      have j1 : (k : Int) < (ps.length : Int) := by omega
      clear hx hB hv
      go_wp2_with fail
      go_region_held3 (fun w' => w'.cell? ⟨b2, o2 + k, none⟩ = some (.bool v) ∧ w'.cell? ⟨w.heap.size, 0, none⟩ = some (.int .u16 fr) ∧ w'.cell? ⟨w.heap.size, 1, none⟩ = some (.slice A1 cs.length c1) ∧ w'.cell? ⟨w.heap.size, 2, none⟩ = some (.slice A2 ps.length c2) ∧ w'.cell? ⟨w.heap.size, 3, none⟩ = some (.slice A3 hs.length c3) ∧ w'.cell? ⟨w.heap.size, 4, none⟩ = some (.slice A4 rs.length c4)) (go_keep)
        ((refine (HC.out _ (by repeat (first | exact HBR.out | refine Below.drew ?_))).mono ?_; rintro e w5 ⟨rfl, hB⟩; have hB5 : Below wr.heap.size wr w5 := below_two (by repeat (first | exact Below.refl _ _ | refine Below.drew ?_)) hB; have hr' := kept hr hB5; have q0 := kept k0 hB5; have q1 := kept k1 hB5; have q2 := kept k2 hB5; have q3 := kept k3 hB5; have q4 := kept k4 hB5; have HB5 := Lib.hid (below_two HBR.out hB5); clear hB hB5))
      all_goals
        go_wp2_with fail
        go_roundw
        case rel => exact ⟨k + 1, by omega, by go_num, HB5.out⟩
        case measure => simp [intOf]; omega
    · obtain rfl : ps.length = k := by omega
      have HB5 := Lib.hid (below_two HB4.out HBR.out)
      clear hB hk hlt
      cases r
      · obtain rfl : ap = false := HAPP.out
        obtain rfl : er = 70 := HER.out
        go_wp2_with fail
        refine (HISB.out _).mono ?_
        rintro e w6 ⟨rfl, hB⟩
        have HB6 := Lib.hid (below_two HB5.out hB)
        clear hB k0 k1 k2 k3 k4
        go_wp2_with fail
        refine (awake_any _).mono ?_
        rintro e w7 ⟨rfl, hB⟩
        have HB7 := Lib.hid (below_two HB6.out hB)
        clear hB
        go_wp2_with fail
        go_ret
        exact ⟨rfl, HB7.out⟩
      · obtain rfl : er = 0 := HER.out
        have hbr := HR.out
        unfold isB at hbr
        simp only [Bool.true_eq, decide_eq_true_eq] at hbr
        obtain ⟨t, hbt⟩ : ∃ t : Nat, b = t := ⟨b.toNat, by omega⟩
        have htl : t < ps.length := by omega
        obtain ⟨HP1, HP2⟩ := HPTB.out t hbt htl
        have hap := HAPP.out
        rw [show b.toNat = t by omega] at hap
        obtain ⟨p1, hp1⟩ : ∃ q, q = pathB ps.length hs a t := ⟨_, rfl⟩
        obtain ⟨p2, hp2⟩ : ∃ q, q = pathB ps.length hs t a := ⟨_, rfl⟩
        rw [← hp1] at HP1 hap
        rw [← hp2] at HP2 hap
        have HPP1 := Lib.hid HP1
        have HPP2 := Lib.hid HP2
        have HAP2 := Lib.hid hap
        clear HP1 HP2 hbr hbt htl hap hp1 hp2
        go_wp2_with fail
        refine (HISB.out _).mono ?_
        rintro e w6 ⟨rfl, hB⟩
        have HB6 := Lib.hid (below_two HB5.out hB)
        have HPB6 := Lib.hid (HPBR.out.keep hB)
        clear hB k0 k1 k2 k3 k4
        go_wp2_with fail
        refine (awake_any _).mono ?_
        rintro e w7 ⟨rfl, hB⟩
        have HB7 := Lib.hid (below_two HB6.out hB)
        have HPB7 := Lib.hid (HPB6.out.keep hB)
        clear hB
        obtain ⟨k0, k1, k2, k3, k4⟩ := HPB7.out
        go_wp2_with fail
        refine (HPP1.out _ (HP.out.keep HB7.out)).mono ?_
        rintro e w8 ⟨rfl, hB⟩
        have HB8 := Lib.hid (below_two HB7.out hB)
        have HPB8 := Lib.hid (HPB7.out.keep hB)
        clear hB k0 k1 k2 k3 k4
        cases p1
        · obtain ⟨k0, k1, k2, k3, k4⟩ := HPB8.out
          go_wp2_with fail
          refine (HPP2.out _ (HP.out.keep HB8.out)).mono ?_
          rintro e w9 ⟨rfl, hB⟩
          have HB9 := Lib.hid (below_two HB8.out hB)
          clear hB k0 k1 k2 k3 k4
          obtain rfl : ap = !p2 := HAP2.out
          have hbb : (!p2 == !p2) = true := by simp
          go_wp2_with fail
          go_ret
          exact ⟨ret_b (by simp), HB9.out⟩
        · obtain rfl : ap = false := HAP2.out
          go_wp2_with fail
          go_ret
          exact ⟨rfl, HB8.out⟩
end Go.Proofs.Ytjiikhfeacgjjaa
