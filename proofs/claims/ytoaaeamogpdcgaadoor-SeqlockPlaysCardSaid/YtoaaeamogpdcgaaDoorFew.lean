/-
  Few versions; a version's word; a counter made even.
-/
import Derived.Test.YtoaaeamogpdcgaaDoorInv
import Derived.Laws.BitsAllLaws
namespace Go.Proofs.YtoaaeamogpdcgaaDoor
open Go.RowKit

/-- Whether versions aren't too many or long. -/
def FewV (L : Nat) (F : Nat → Ver) : Prop := L ≤ 10 ∧ ∀ i, i < L → (F i).n ≤ 50
set_option maxHeartbeats 2000000 in
theorem few_yes (A : Option Addr) (L ca : Nat) (F : Nat → Ver) (w : World) (hV : VersN w.heap.size w A L F) (h : FewV L F) :
    Calls Tryd.prog 10 #[.slice A L ca] w fun e w' => e = .returned (.bool true) ∧ w = w' := by
  have HV := Lib.hid hV
  have HF := Lib.hid h.2
  have hL : (L : Int) ≤ 10 := by have := h.1; omega
  have hL2 : L ≤ 10 := h.1
  clear hV h
  go_enter Tryd.func10, Tryd.ntmps10
  go_wp2_with fail
  go_loop [3] (fun i => ∃ k : Nat, k ≤ L ∧ i = .int .i64 k) (fun i => L - (intOf i).toNat)
  case atStart => exact ⟨0, by omega, rfl⟩
  case round =>
    obtain ⟨k, hk, rfl⟩ := hrel
    by_cases hlt : k < L
    · obtain ⟨b, o, rfl⟩ := HV.out.head hlt
      have c1 := HV.out.cell hlt
      have hn : ((F k).n : Int) ≤ 50 := by have := HF.out k hlt; omega
      go_wp2_with fail
      go_round
      case rel => exact ⟨k + 1, by omega, by go_num⟩
      case measure => simp [intOf]; omega
    · go_wp2_with fail
      go_ret
      exact ⟨rfl, rfl⟩
set_option maxHeartbeats 2000000 in
theorem few_no (A : Option Addr) (L ca : Nat) (F : Nat → Ver) (w : World) (hV : VersN w.heap.size w A L F) (h : ¬ FewV L F) :
    Calls Tryd.prog 10 #[.slice A L ca] w fun e w' => e = .returned (.bool false) ∧ w = w' := by
  have HV := Lib.hid hV
  have HF := Lib.hid h
  clear hV h
  by_cases hL : L ≤ 10
  · have hL' : (L : Int) ≤ 10 := by omega
    go_enter Tryd.func10, Tryd.ntmps10
    go_wp2_with fail
    go_loop [3] (fun i => ∃ k : Nat, k ≤ L ∧ i = .int .i64 k ∧ ∀ j, j < k → (F j).n ≤ 50) (fun i => L - (intOf i).toNat)
    case atStart => exact ⟨0, by omega, rfl, fun j hj => absurd hj (by omega)⟩
    case round =>
      obtain ⟨k, hk, rfl, hall⟩ := hrel
      have HA := Lib.hid hall
      clear hall
      by_cases hlt : k < L
      · obtain ⟨b, o, rfl⟩ := HV.out.head hlt
        have c1 := HV.out.cell hlt
        by_cases hn : ((F k).n : Int) ≤ 50
        · go_wp2_with fail
          go_round
          case rel => exact ⟨k + 1, by omega, by go_num, fun j hj => by
            rcases Nat.lt_or_ge j k with h | h
            · exact HA.out j h
            · obtain rfl : j = k := by omega
              omega⟩
          case measure => simp [intOf]; omega
        · go_wp2_with fail
          go_ret
          exact ⟨rfl, rfl⟩
      · obtain rfl : k = L := by omega
        exact absurd ⟨hL, HA.out⟩ HF.out
  · have hL' : (10 : Int) < L := by omega
    go_enter Tryd.func10, Tryd.ntmps10
    go_wp2_with fail
    go_ret
    exact ⟨rfl, rfl⟩
set_option maxHeartbeats 2000000 in
theorem version_any (A : Option Addr) (L ca k j : Nat) (F : Nat → Ver) (w : World) (hV : VersN w.heap.size w A L F) (hk : k ≤ L) (hL : L ≤ 1000000) (hj : k ≠ 0 → j < (F (k - 1)).n) (hj2 : j < 1000000) :
    Calls Tryd.prog 26 #[.slice A L ca, .int .i64 k, .int .i64 j] w fun e w' => e = .returned (.int .u32 (verN F k j)) ∧ w = w' := by
  by_cases h0 : k = 0
  · subst h0
    clear hV hj
    go_enter Tryd.func26, Tryd.ntmps26
    go_wp2_with fail
    go_ret
    exact ⟨rfl, rfl⟩
  · have h1 : k - 1 < L := by omega
    obtain ⟨q, hq⟩ : ∃ q, k = q + 1 := ⟨k - 1, by omega⟩
    subst hq
    simp only [Nat.add_sub_cancel] at h1 hj
    have hj := hj (by omega)
    obtain ⟨b, o, rfl⟩ := hV.head h1
    have c1 := hV.cell h1
    have hv := hV.ver h1
    obtain ⟨b2, o2, hp⟩ := hv.head hj
    rw [hp] at hv c1
    have c2 := hv.cell hj
    have e1 : (((q + 1 : Nat) : Int) == 0) = false := beq_false_of_ne (by omega)
    have e2 : IntKind.i64.wrap (((q + 1 : Nat) : Int) - 1) = q := by rw [IntWalk.i64_in _ (by omega)]; omega
    have hq0 : (0 : Int) ≤ q := by omega
    have hqL : (q : Int) < L := by omega
    have hj0 : (0 : Int) ≤ j := by omega
    have hjn : (j : Int) < (F q).n := by omega
    obtain ⟨K, hK⟩ : ∃ K : Int, K = ((q + 1 : Nat) : Int) := ⟨_, rfl⟩
    rw [← hK] at e1 e2 ⊢
    have hvv : Hid (verN F (q + 1) j = (F q).v j) := Lib.hid rfl
    clear hv hV hK hj h0
    go_enter Tryd.func26, Tryd.ntmps26
    go_wp2_with fail
    go_ret
    exact ⟨by rw [hvv.out]; rfl, rfl⟩
theorem andNot_even (x : Int) (h : 0 ≤ x ∧ x < 4294967296) : 0 ≤ bits .andNot .u32 x 1 ∧ bits .andNot .u32 x 1 < 4294967296 ∧ bits .andNot .u32 x 1 % 2 = 0 := by
  rw [u32_andNot x 1 h.1 h.2 (by omega) (by omega)]
  have h1 : x.toNat &&& (4294967295 - (1 : Int).toNat) < 2 ^ 32 := Nat.and_lt_two_pow _ (by decide)
  have h2 : (x.toNat &&& (4294967295 - (1 : Int).toNat)) % 2 = 0 := by
    rw [Nat.mod_two_eq_zero_iff_testBit_zero, Nat.testBit_and]
    simp
  omega
theorem u8_and1 (y : Int) (h : 0 ≤ y ∧ y < 256) : bits .and .u8 y 1 = y % 2 := by
  rw [u8_and y 1 h.1 h.2 (by omega) (by omega)]
  have : y.toNat &&& (1 : Int).toNat = y.toNat % 2 := Nat.and_one_is_mod _
  omega
end Go.Proofs.YtoaaeamogpdcgaaDoor
