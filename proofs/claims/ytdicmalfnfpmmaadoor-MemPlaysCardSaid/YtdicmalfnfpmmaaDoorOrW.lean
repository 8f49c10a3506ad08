/-
  The given joining of bits, bit by bit, is the one of the language.
-/
import Derived.Test.YtdicmalfnfpmmaaDoorPerf
import Derived.Laws.BitsAllLaws
namespace Go.Proofs.YtdicmalfnfpmmaaDoor
open Go.RowKit

theorem vi {k : IntKind} {a b : Int} (h : a = b) : Value.int k a = .int k b := by rw [h]
theorem mod_step (x k : Nat) : x % 2 ^ (k + 1) = x % 2 ^ k + (if x / 2 ^ k % 2 = 1 then 2 ^ k else 0) := by
  rw [Nat.pow_succ, Nat.mod_mul]
  have := Nat.mod_lt (x / 2 ^ k) (by omega : 0 < 2)
  split
  · rename_i h; rw [h, Nat.mul_one]
  · have h : x / 2 ^ k % 2 = 0 := by omega
    rw [h, Nat.mul_zero]
theorem or_bit (a b k : Nat) : (a ||| b) / 2 ^ k % 2 = 1 ↔ a / 2 ^ k % 2 = 1 ∨ b / 2 ^ k % 2 = 1 := by
  have h := fun x => Nat.testBit_eq_decide_div_mod_eq (x := x) (i := k)
  have h1 := Nat.testBit_or a b k
  rw [h, h, h] at h1
  by_cases p : a / 2 ^ k % 2 = 1 <;> by_cases q : b / 2 ^ k % 2 = 1 <;> simp_all
/-- Joined up to bit k. -/
def orK (a b k : Nat) : Nat := (a ||| b) % 2 ^ k
theorem orK_yes {a b k : Nat} (h : a / 2 ^ k % 2 = 1 ∨ b / 2 ^ k % 2 = 1) : orK a b (k + 1) = orK a b k + 2 ^ k := by
  unfold orK; rw [mod_step, if_pos ((or_bit a b k).2 h)]
theorem orK_no {a b k : Nat} (h1 : ¬ a / 2 ^ k % 2 = 1) (h2 : ¬ b / 2 ^ k % 2 = 1) : orK a b (k + 1) = orK a b k := by
  unfold orK; rw [mod_step, if_neg (fun h => by rcases (or_bit a b k).1 h with h | h <;> contradiction), Nat.add_zero]
theorem orK_lt (a b k : Nat) : orK a b k < 2 ^ k := Nat.mod_lt _ (Nat.two_pow_pos k)
theorem orK_all {a b : Nat} (ha : a < 4294967296) (hb : b < 4294967296) : orK a b 32 = a ||| b := Nat.mod_eq_of_lt (Nat.or_lt_two_pow (n := 32) ha hb)
theorem pow_le32 {k : Nat} (h : k < 32) : 2 ^ k ≤ 2147483648 := Nat.pow_le_pow_right (by omega) (by omega : k ≤ 31)
theorem div_pow_succ (a k : Nat) : a / 2 ^ k / 2 = a / 2 ^ (k + 1) := by rw [Nat.div_div_eq_div_mul, Nat.pow_succ]
/-- The place's value, modulo 2^32. -/
def plK (k : Nat) : Nat := 2 ^ k % 4294967296
theorem plK_lt {k : Nat} (h : k < 32) : plK k = 2 ^ k := Nat.mod_eq_of_lt (by have := pow_le32 h; omega)
theorem plK_succ {k : Nat} (h : k < 32) : ((plK k : Int) + (plK k : Int)) % 4294967296 = (plK (k + 1) : Int) := by
  rw [plK_lt h]
  unfold plK
  rcases Nat.lt_or_ge k 31 with h1 | h1
  · have := Nat.pow_le_pow_right (n := 2) (by omega) (by omega : k + 1 ≤ 31)
    rw [Nat.mod_eq_of_lt (by omega), Nat.pow_succ]
    have h2 : (2:Nat) ^ 31 = 2147483648 := rfl
    rw [Nat.pow_succ] at this
    omega
  · obtain rfl : k = 31 := by omega
    decide

set_option maxHeartbeats 4000000 in
set_option maxRecDepth 100000 in
theorem or_any (a b : Nat) (w : World) (ha : a < 4294967296) (hb : b < 4294967296) :
    Calls Tryd.prog 25 #[.int .u32 a, .int .u32 b] w fun e w' => e = .returned (.int .u32 ((a ||| b : Nat) : Int)) ∧ w = w' := by
  have HF := Lib.hid (orK_all ha hb)
  go_enter Tryd.func25, Tryd.ntmps25
  go_wp2_with fail
  go_loop [0, 1, 5, 6, 7] (fun x y n p i => ∃ k : Nat, k ≤ 32 ∧ i = .int .i64 k ∧ x = .int .u32 (a / 2 ^ k : Nat) ∧ y = .int .u32 (b / 2 ^ k : Nat) ∧ n = .int .u32 (orK a b k : Nat) ∧ p = .int .u32 (plK k : Nat)) (fun _ _ _ _ i => 32 - (intOf i).toNat)
  case atStart => exact ⟨0, by omega, by simp, by simp, by simp, vi (by rw [show orK a b 0 = 0 from Nat.mod_one _]; rfl), rfl⟩
  case round =>
    obtain ⟨k, hk, rfl, rfl, rfl, rfl, rfl⟩ := hrel
    by_cases hlt : k < 32
    · have HDA := Lib.hid (div_pow_succ a k)
      have HDB := Lib.hid (div_pow_succ b k)
      have HPL := Lib.hid (plK_succ hlt)
      have hxa : a / 2 ^ k < 4294967296 := Nat.lt_of_le_of_lt (Nat.div_le_self _ _) ha
      have hxb : b / 2 ^ k < 4294967296 := Nat.lt_of_le_of_lt (Nat.div_le_self _ _) hb
      have HO1 := Lib.hid (fun h => (orK_yes (a := a) (b := b) (k := k) h).trans (by rw [← plK_lt hlt]))
      have HO2 := Lib.hid (fun h h2 => orK_no (a := a) (b := b) (k := k) h h2)
      have hpl := plK_lt hlt
      have hp32 := pow_le32 hlt
      have ho := orK_lt a b k
      rw [← hpl] at ho hp32
      clear hpl
      generalize a / 2 ^ k = x at *
      generalize b / 2 ^ k = y at *
      generalize plK k = p at *
      generalize orK a b k = o at *
      have dx : Int.tdiv (x : Int) 2 = ((x / 2 : Nat) : Int) := by rw [Int.tdiv_eq_ediv_of_nonneg (by omega)]; omega
      have dy : Int.tdiv (y : Int) 2 = ((y / 2 : Nat) : Int) := by rw [Int.tdiv_eq_ediv_of_nonneg (by omega)]; omega
      by_cases hx : x % 2 = 1
      · have ex : Int.tmod (x : Int) 2 = 1 := by rw [Int.tmod_eq_emod_of_nonneg (by omega)]; omega
        go_wp2_with fail
        go_round
        case rel => exact ⟨k + 1, by omega, by go_num, vi (by rw [← HDA.out]; omega), vi (by rw [← HDB.out]; omega), vi (by rw [HO1.out (.inl hx)]; omega), vi HPL.out⟩
        case measure => simp [intOf]; omega
      · have ex : Int.tmod (x : Int) 2 = 0 := by rw [Int.tmod_eq_emod_of_nonneg (by omega)]; omega
        by_cases hy : y % 2 = 1
        · have ey : Int.tmod (y : Int) 2 = 1 := by rw [Int.tmod_eq_emod_of_nonneg (by omega)]; omega
          go_wp2_with fail
          go_round
          case rel => exact ⟨k + 1, by omega, by go_num, vi (by rw [← HDA.out]; omega), vi (by rw [← HDB.out]; omega), vi (by rw [HO1.out (.inr hy)]; omega), vi HPL.out⟩
          case measure => simp [intOf]; omega
        · have ey : Int.tmod (y : Int) 2 = 0 := by rw [Int.tmod_eq_emod_of_nonneg (by omega)]; omega
          go_wp2_with fail
          go_round
          case rel => exact ⟨k + 1, by omega, by go_num, vi (by rw [← HDA.out]; omega), vi (by rw [← HDB.out]; omega), vi (by rw [HO2.out hx hy]), vi HPL.out⟩
          case measure => simp [intOf]; omega
    · go_wp2_with fail
      go_ret
      obtain rfl : k = 32 := by omega
      exact ⟨ret_i (by rw [HF.out]), rfl⟩
end Go.Proofs.YtdicmalfnfpmmaaDoor
