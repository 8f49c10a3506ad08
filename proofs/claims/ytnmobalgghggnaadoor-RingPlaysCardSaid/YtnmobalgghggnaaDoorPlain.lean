/-
  Plain arithmetic of layer 1: powers of two up to 32768; sets of eight cores as numbers below 256.
-/
import Derived.Laws.BitsAllLaws
namespace Go.Proofs.YtnmobalgghggnaaDoor

def capN (n : Nat) : Bool := (List.range 16).any fun j => n == 2 ^ j
/-- is a number one of 1, 2, 4 .. 32768? -/
def capP (n : Int) : Bool := capN n.toNat

theorem high_bit {x k : Nat} (h1 : 2 ^ k ≤ x) (h2 : x < 2 ^ (k + 1)) : x.testBit k = true := by
  have e : x / 2 ^ k = 1 := Nat.div_eq_of_lt_le (by omega) (by rw [Nat.pow_succ] at h2; omega)
  rw [Nat.testBit_eq_decide_div_mod_eq, e]; rfl
theorem cap_nat (p : Nat) (h : 0 < p) (h2 : p ≤ 32768) : (p &&& (p - 1) == 0) = capN p := by
  have l1 : 2 ^ p.log2 ≤ p := Nat.log2_self_le (by omega)
  have l2 : p < 2 ^ (p.log2 + 1) := Nat.lt_log2_self
  rw [Bool.eq_iff_iff]
  constructor
  · intro hz
    have hz' : p &&& (p - 1) = 0 := by simpa using hz
    have hp : p = 2 ^ p.log2 := by
      by_cases e : p = 2 ^ p.log2
      · exact e
      · have b1 := high_bit l1 l2
        have b2 := high_bit (x := p - 1) (k := p.log2) (by omega) (by omega)
        have b3 : (p &&& (p - 1)).testBit p.log2 = true := by rw [Nat.testBit_and, b1, b2]; rfl
        rw [hz'] at b3
        simp at b3
    have hl : p.log2 < 16 := by
      by_cases hl : p.log2 < 16
      · exact hl
      · have : 2 ^ 16 ≤ 2 ^ p.log2 := Nat.pow_le_pow_right (by decide) (by omega)
        omega
    unfold capN
    exact List.any_eq_true.2 ⟨p.log2, List.mem_range.2 hl, by rw [beq_iff_eq]; exact hp⟩
  · intro hc
    obtain ⟨j, _, he⟩ := List.any_eq_true.1 hc
    have he' : p = 2 ^ j := by simpa using he
    rw [he', Nat.and_two_pow_sub_one_eq_mod]
    simp

theorem cap_and (p : Int) (h : 0 < p) (h2 : p ≤ 32768) : (bits .and .u32 p (p - 1) == 0) = capP p := by
  rw [u32_and p (p - 1) (by omega) (by omega) (by omega) (by omega)]
  have e : (p - 1).toNat = p.toNat - 1 := by omega
  rw [e, capP, ← cap_nat p.toNat (by omega) (by omega)]
  rw [Bool.eq_iff_iff]; simp

theorem cap_big (p : Int) (h : 32768 < p) : capP p = false := by
  have h2 : 32768 < p.toNat := by omega
  unfold capP capN
  rw [Bool.eq_false_iff]
  intro hc
  obtain ⟨j, hj, he⟩ := List.any_eq_true.1 hc
  have hj' : j ≤ 15 := by have := List.mem_range.1 hj; omega
  have : 2 ^ j ≤ 2 ^ 15 := Nat.pow_le_pow_right (by decide) hj'
  have he' : p.toNat = 2 ^ j := by simpa using he
  omega

theorem cap_small (p : Int) (h : p ≤ 0) : capP p = false := by
  have e : p.toNat = 0 := by omega
  unfold capP; rw [e]; decide

theorem cap_bounds (p : Int) (h : capP p = true) : 1 ≤ p ∧ p ≤ 32768 := by
  constructor
  · by_cases hp : p ≤ 0
    · rw [cap_small p hp] at h; cases h
    · omega
  · by_cases hp : 32768 < p
    · rw [cap_big p hp] at h; cases h
    · omega

/-- what the reference's loop over the powers of two knows: q is one, and n none of the smaller ones -/
def PowRel (n q : Int) : Prop := ∃ k : Nat, k ≤ 16 ∧ q = ((2 ^ k : Nat) : Int) ∧ ∀ j < k, n ≠ ((2 ^ j : Nat) : Int)

theorem pow_start (n : Int) : PowRel n 1 := ⟨0, by omega, by simp, fun j hj => by omega⟩
theorem pow_bounds {n q : Int} (h : PowRel n q) : 1 ≤ q ∧ q ≤ 65536 := by
  obtain ⟨k, hk, rfl, _⟩ := h
  have h1 : 2 ^ k ≤ 2 ^ 16 := Nat.pow_le_pow_right (by decide) hk
  have h2 : 0 < 2 ^ k := Nat.pow_pos (by decide)
  omega
theorem pow_step {n q : Int} (h : PowRel n q) (hq : q ≤ 32768) (hn : q ≠ n) : PowRel n (q + q) := by
  obtain ⟨k, hk, rfl, hj⟩ := h
  have hk' : k ≠ 16 := by
    intro e; subst e; omega
  refine ⟨k + 1, by omega, by rw [Nat.pow_succ]; omega, fun j hj2 => ?_⟩
  by_cases e : j = k
  · subst e; exact fun h => hn h.symm
  · exact hj j (by omega)
theorem pow_yes {n q : Int} (h : PowRel n q) (hq : q ≤ 32768) (hn : q = n) : capP n = true := by
  obtain ⟨k, hk, rfl, hj⟩ := h
  have hk' : k ≠ 16 := by
    intro e; subst e; omega
  subst hn
  unfold capP capN
  refine List.any_eq_true.2 ⟨k, List.mem_range.2 (by omega), by rw [beq_iff_eq]; exact Int.toNat_natCast _⟩
theorem pow_no {n q : Int} (h : PowRel n q) (hn : 0 ≤ n) (hq : 32768 < q) : capP n = false := by
  obtain ⟨k, hk, rfl, hj⟩ := h
  have hk' : k = 16 := by
    by_cases e : k = 16
    · exact e
    · have : 2 ^ k ≤ 2 ^ 15 := Nat.pow_le_pow_right (by decide) (by omega)
      omega
  subst hk'
  unfold capP capN
  rw [Bool.eq_false_iff]
  intro hc
  obtain ⟨j, hj1, he⟩ := List.any_eq_true.1 hc
  have he' : n.toNat = 2 ^ j := by simpa using he
  refine hj j (List.mem_range.1 hj1) ?_
  omega

/-- tail less head, modulo 2^32 -/
def usedF (a b : Int) : Int := (b - a) % 4294967296
/-- ahead by less than half of all -/
def befB (a b : Int) : Bool := decide (0 < (b - a) % 4294967296 ∧ (b - a) % 4294967296 < 2147483648)
theorem befB_of {a b : Int} (h : 0 < (b - a) % 4294967296) : decide ((b - a) % 4294967296 < 2147483648) = befB a b := by
  unfold befB; simp [h]
theorem befB_neg {a b : Int} (h : (b - a) % 4294967296 ≤ 0) : false = befB a b := by
  unfold befB
  have h' : ¬ (0 < (b - a) % 4294967296 ∧ (b - a) % 4294967296 < 2147483648) := by omega
  simpa using h'
theorem usedF_bounds (a b : Int) : 0 ≤ usedF a b ∧ usedF a b < 4294967296 := by unfold usedF; omega
theorem rbef_of {a b : Int} (h : 1 ≤ usedF a b) : decide (usedF a b ≤ 2147483647) = befB a b := by
  unfold usedF at *; unfold befB; rw [Bool.eq_iff_iff]; simp; omega
theorem rbef_neg {a b : Int} (h : usedF a b < 1) : false = befB a b := by
  unfold usedF at h; exact befB_neg (by omega)
theorem rused_low {a b : Int} (h : a ≤ b) (ha : 0 ≤ a) (hb : b < 4294967296) : b - a = usedF a b := by unfold usedF; omega
theorem rused_high {a b : Int} (h : b < a) (hb : 0 ≤ b) (ha : a < 4294967296) : 4294967295 - a + b + 1 = usedF a b := by unfold usedF; omega

/-- the room of a ring, and what is wrong with it -/
def roomV (h t p : Int) : Int := if capP p then (if p < usedF h t then 0 else p - usedF h t) else 0
def roomE (h t p : Int) : Int := if capP p then (if p < usedF h t then 11 else 0) else 10
def slotV (i p : Int) : Int := if capP p then i % p else 0
def slotE (p : Int) : Int := if capP p then 0 else 10
theorem room_no {h t p : Int} (c : capP p = false) : roomV h t p = 0 ∧ roomE h t p = 10 := by unfold roomV roomE; simp [c]
theorem room_used {h t p : Int} (c : capP p = true) (u : p < usedF h t) : roomV h t p = 0 ∧ roomE h t p = 11 := by unfold roomV roomE; simp [c, u]
theorem room_ok {h t p : Int} (c : capP p = true) (u : ¬ p < usedF h t) : roomV h t p = p - usedF h t ∧ roomE h t p = 0 := by unfold roomV roomE; simp [c, u]
theorem slot_no {i p : Int} (c : capP p = false) : slotV i p = 0 ∧ slotE p = 10 := by unfold slotV slotE; simp [c]
theorem slot_ok {i p : Int} (c : capP p = true) : slotV i p = i % p ∧ slotE p = 0 := by unfold slotV slotE; simp [c]
end Go.Proofs.YtnmobalgghggnaaDoor
