/-
  The document's count of a ring's words.
-/
import Derived.Test.YtnmobalgghggnaaDoorEndW
namespace Go.Proofs.YtnmobalgghggnaaDoor
open Go.RowKit

theorem capP_pow {j : Nat} (h : j < 16) : capP ((2 ^ j : Nat) : Int) = true := by
  unfold capP capN
  exact List.any_eq_true.2 ⟨j, List.mem_range.2 h, by rw [Int.toNat_natCast, beq_self_eq_true]⟩
theorem capP_not {x : Int} (h : ∀ j, j < 16 → x ≠ ((2 ^ j : Nat) : Int)) (h0 : 0 ≤ x) : capP x = false := by
  rw [Bool.eq_false_iff]
  unfold capP capN
  intro h1
  obtain ⟨j, hj, hx⟩ := List.any_eq_true.1 h1
  exact h j (List.mem_range.1 hj) (by have := eq_of_beq hx; omega)
set_option maxHeartbeats 2000000 in
theorem refplaces_any (x : Int) (w : World) (h0 : 0 ≤ x) (_ : x < 4294967296) : Calls Tryd.prog 29 #[.int .u32 x] w fun e w' => e = .returned (.bool (capP x)) ∧ w = w' := by
  go_enter Tryd.func29, Tryd.ntmps29
  go_wp2_with fail
  go_loop [3] (fun i => ∃ j : Nat, j ≤ 16 ∧ i = .int .u32 ((2 ^ j : Nat) : Int) ∧ ∀ k, k < j → x ≠ ((2 ^ k : Nat) : Int)) (fun i => 65536 - (intOf i).toNat)
  case atStart => exact ⟨0, by omega, rfl, fun k hk => absurd hk (Nat.not_lt_zero _)⟩
  case round =>
    obtain ⟨j, hj, rfl, hk⟩ := hrel
    have HK := Lib.hid hk
    have HJ := Lib.hid hj
    have hpow : (2 : Nat) ^ (j + 1) = 2 ^ j * 2 := Nat.pow_succ 2 j
    have HPOW := Lib.hid hpow
    have hp0 : 0 < (2 : Nat) ^ j := Nat.pow_pos (by omega)
    have hlt : 2 ^ j ≤ 32768 ↔ j < 16 := by
      constructor
      · intro h
        exact Nat.lt_of_not_le fun h16 => by have : (2:Nat)^16 ≤ 2 ^ j := Nat.pow_le_pow_right (by omega) h16; omega
      · intro h
        have : (2:Nat)^j ≤ 2 ^ 15 := Nat.pow_le_pow_right (by omega) (by omega)
        omega
    obtain ⟨P, hP⟩ : ∃ P, P = 2 ^ j := ⟨_, rfl⟩
    rw [← hP] at hlt hpow hp0 ⊢
    have HP := Lib.hid hP
    clear hk hj hP hpow
    by_cases hb : (P : Int) ≤ 32768
    · have hb2 : IntKind.u32.wrap ((P : Int) + P) = P + P := by rw [IntKind.wrap_u32']; omega
      by_cases hx : (P : Int) = x
      · have hxb : ((P : Int) == x) = true := by simpa using hx
        have hcap : Hid (capP x = true) := Lib.hid (by rw [← hx, HP.out]; exact capP_pow (hlt.1 (by omega)))
        clear hlt hb2 hx
        go_wp2_with fail
        go_ret
        exact ⟨by rw [hcap.out]; rfl, rfl⟩
      · have hxb : ((P : Int) == x) = false := by simpa using hx
        have hst : Hid (∀ k, k < j + 1 → x ≠ ((2 ^ k : Nat) : Int)) := Lib.hid (fun k hk => by
          by_cases e : k = j
          · rw [e, ← HP.out]; exact fun h => hx h.symm
          · exact HK.out k (by omega))
        have hj16 : Hid (j < 16) := Lib.hid (hlt.1 (by omega))
        have hm : Hid (65536 - (P + P) < 65536 - P) := Lib.hid (by omega)
        clear hlt hx
        go_wp2_with fail
        go_round
        case rel => exact ⟨j + 1, by have := hj16.out; omega, by rw [HPOW.out, ← HP.out]; congr 1; omega, hst.out⟩
        case measure => simp [intOf]; omega
    · have hcap : Hid (capP x = false) := Lib.hid (capP_not (fun k hk => HK.out k (by have := HJ.out; omega)) h0)
      clear hlt
      go_wp2_with fail
      go_ret
      exact ⟨by rw [hcap.out]; rfl, rfl⟩
set_option maxHeartbeats 4000000 in
theorem refwords_any (p z : Int) (hp : -9223372036854775808 ≤ p ∧ p ≤ 9223372036854775807) (w : World) : Calls Tryd.prog 11 #[.int .i64 p, .int .i64 z] w fun e w' => e = .returned (.tuple #[.int .i64 (wordsV p z), .int .i64 (wordsE p z)]) ∧ w = w' := by
  have HA := Lib.hid (fun W h0 h1 => refplaces_any p W h0 h1)
  by_cases h1 : p < 1
  · have hc := cap_small p (by omega)
    have e1 : wordsV p z = 0 := by unfold wordsV; rw [hc]; simp
    have e2 : wordsE p z = 120 := by unfold wordsE; rw [hc]; simp
    rw [e1, e2]
    clear e1 e2 hc
    go_enter Tryd.func11, Tryd.ntmps11
    go_wp2_with fail
    go_ret2
    exact ⟨rfl, rfl⟩
  by_cases h2 : 32768 < p
  · have hc := cap_big p h2
    have e1 : wordsV p z = 0 := by unfold wordsV; rw [hc]; simp
    have e2 : wordsE p z = 120 := by unfold wordsE; rw [hc]; simp
    rw [e1, e2]
    clear e1 e2 hc
    go_enter Tryd.func11, Tryd.ntmps11
    go_wp2_with fail
    go_ret2
    exact ⟨rfl, rfl⟩
  have hw : IntKind.u32.wrap p = p := by rw [IntKind.wrap_u32']; omega
  cases hc : capP p
  · have e1 : wordsV p z = 0 := by unfold wordsV; rw [hc]; simp
    have e2 : wordsE p z = 120 := by unfold wordsE; rw [hc]; simp
    rw [e1, e2]
    rw [hc] at HA
    clear e1 e2 hc
    go_enter Tryd.func11, Tryd.ntmps11
    go_wp2_with fail
    with_reducible refine (HA.out _ (by omega) (by omega)).mono ?_
    rintro e w1 ⟨rfl, rfl⟩
    go_wp2_with fail
    go_ret2
    exact ⟨rfl, rfl⟩
  · rw [hc] at HA
    by_cases hz : 1 ≤ z ∧ z ≤ 32
    · have e1 : wordsV p z = 2 + p * (per z.toNat : Nat) := by unfold wordsV; rw [if_pos ⟨hc, hz⟩]
      have e2 : wordsE p z = 0 := by unfold wordsE; rw [if_pos hc, if_pos hz]
      rw [e1, e2]
      obtain ⟨M, hM⟩ : ∃ M : Int, M = p * (per z.toNat : Nat) := ⟨_, rfl⟩
      rw [← hM]
      have HM := Lib.hid hM
      clear hM
      have hp9 : per z.toNat ≤ 9 := by have := need_le (n := z.toNat) (by omega); unfold per; omega
      have hper : Hid (per z.toNat = 1 + (z.toNat + 3) / 4) := Lib.hid rfl
      obtain ⟨hz0, hz1⟩ := hz
      clear e1 e2 hc
      go_enter Tryd.func11, Tryd.ntmps11
      go_wp2_with fail
      with_reducible refine (HA.out _ (by omega) (by omega)).mono ?_
      rintro e w1 ⟨rfl, rfl⟩
      go_wp2_with fail
      go_loop [6, 7] (fun v i => ∃ k : Nat, k ≤ 8 ∧ (k : Int) * 4 < z + 4 ∧ v = .int .i64 (1 + k) ∧ i = .int .i64 (4 * k)) (fun _ i => 36 - (intOf i).toNat)
      case atStart => exact ⟨0, by omega, by omega, rfl, rfl⟩
      case round =>
        obtain ⟨k, hk, hk4, rfl, rfl⟩ := hrel
        by_cases hlt : 4 * (k : Int) < z
        · go_wp2_with fail
          go_round
          case rel => exact ⟨k + 1, by omega, by omega, by go_num, by go_num⟩
          case measure => simp [intOf]; omega
        · have hpk : (per z.toNat : Nat) = 1 + k := by have := hper.out; omega
          obtain ⟨N, hN⟩ : ∃ N : Int, N = p * (1 + k) := ⟨_, rfl⟩
          have hN2 : 0 ≤ N ∧ N ≤ 294912 := by
            rw [hN]
            refine ⟨Int.mul_nonneg (by omega) (by omega), ?_⟩
            calc p * (1 + (k : Int)) ≤ 32768 * 9 := Int.mul_le_mul (by omega) (by omega) (by omega) (by omega)
              _ = 294912 := rfl
          have hN3 : p * ((1 + k : Nat) : Int) = N := by rw [hN]; congr 1
          have hMN : M = N := by rw [HM.out, hpk, hN3]
          have HMN := Lib.hid hMN
          have w1' : IntKind.i64.wrap (p * (1 + k)) = N := by rw [← hN]; exact IntWalk.i64_in _ (by omega)
          have w2' : IntKind.i64.wrap (2 + N) = 2 + N := IntWalk.i64_in _ (by omega)
          clear hpk hN hN3 hper hMN HM
          go_wp2_with fail
          go_ret2
          exact ⟨by first | rfl | (rw [HMN.out]; rfl), rfl⟩
    · have e1 : wordsV p z = 0 := by unfold wordsV; rw [if_neg (fun h => hz h.2)]
      have e2 : wordsE p z = 121 := by unfold wordsE; rw [if_pos hc, if_neg hz]
      rw [e1, e2]
      clear e1 e2 hc
      by_cases hz1 : z < 1
      · clear hz
        go_enter Tryd.func11, Tryd.ntmps11
        go_wp2_with fail
        with_reducible refine (HA.out _ (by omega) (by omega)).mono ?_
        rintro e w1 ⟨rfl, rfl⟩
        go_wp2_with fail
        go_ret2
        exact ⟨rfl, rfl⟩
      · have hz2 : 32 < z := by omega
        clear hz
        go_enter Tryd.func11, Tryd.ntmps11
        go_wp2_with fail
        with_reducible refine (HA.out _ (by omega) (by omega)).mono ?_
        rintro e w1 ⟨rfl, rfl⟩
        go_wp2_with fail
        go_ret2
        exact ⟨rfl, rfl⟩
end Go.Proofs.YtnmobalgghggnaaDoor
