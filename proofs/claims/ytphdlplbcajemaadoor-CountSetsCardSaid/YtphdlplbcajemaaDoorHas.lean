/-
  First finds the least core of a set; the reference's Has agrees with the program's; a list of cores is what a set holds.
-/
import Derived.Test.YtphdlplbcajemaaDoorOf
namespace Go.Proofs.YtphdlplbcajemaaDoor
open Go.RowKit

/-- The cores below k for which f holds, rising. -/
def coresL (f : Nat → Bool) : Nat → List Int
  | 0 => []
  | k + 1 => if f k then coresL f k ++ [(k : Int)] else coresL f k
theorem coresL_yes {f : Nat → Bool} {k : Nat} (h : f k = true) : coresL f (k + 1) = coresL f k ++ [(k : Int)] := by simp [coresL, h]
theorem coresL_no {f : Nat → Bool} {k : Nat} (h : f k = false) : coresL f (k + 1) = coresL f k := by simp [coresL, h]
theorem coresL_length (f : Nat → Bool) (k : Nat) : (coresL f k).length ≤ k := by
  induction k with
  | zero => simp [coresL]
  | succ k ih => cases hb : f k <;> simp [coresL, hb] <;> omega
theorem coresL_prefix (f : Nat → Bool) (k m : Nat) (h : k ≤ m) : ∃ r, coresL f m = coresL f k ++ r := by
  induction m with
  | zero => exact ⟨[], by rw [show k = 0 by omega]; simp⟩
  | succ m ih =>
    by_cases e : k = m + 1
    · exact ⟨[], by rw [e]; simp⟩
    · obtain ⟨r, hr⟩ := ih (by omega)
      cases hb : f m
      · exact ⟨r, by rw [coresL_no hb, hr]⟩
      · exact ⟨r ++ [(m : Int)], by rw [coresL_yes hb, hr]; simp⟩
def firstV (f : Nat → Bool) : Int := (coresL f 8).headD 0
def firstB (f : Nat → Bool) : Bool := !(coresL f 8).isEmpty
theorem first_at {f : Nat → Bool} {k : Nat} (hk : k < 8) (hno : coresL f k = []) (h : f k = true) : firstV f = k ∧ firstB f = true := by
  obtain ⟨r, hr⟩ := coresL_prefix f (k + 1) 8 (by omega)
  rw [coresL_yes h, hno] at hr
  unfold firstV firstB
  rw [hr]; simp
theorem first_none {f : Nat → Bool} (h : coresL f 8 = []) : firstV f = 0 ∧ firstB f = false := by
  unfold firstV firstB; rw [h]; simp

theorem ret_ib {a b : Int} {c d : Bool} (h : a = b ∧ c = d) : Ending.returned (.tuple #[.int .i64 a, .bool c]) = .returned (.tuple #[.int .i64 b, .bool d]) := by rw [h.1, h.2]

set_option maxHeartbeats 400000 in
theorem first_any (s : Int) (w : World) (ht : TabOk w) :
    Calls Tryd.prog 22 #[.int .u8 s] w fun e w' => e = .returned (.tuple #[.int .i64 (firstV (hasB s)), .bool (firstB (hasB s))]) ∧ w = w' := by
  have HT := Lib.hid ht
  clear ht
  go_enter Tryd.func22, Tryd.ntmps22
  go_wp2
  go_loop [5] (fun i => ∃ k : Nat, k ≤ 8 ∧ coresL (hasB s) k = [] ∧ i = .int .i64 k) (fun i => 8 - (intOf i).toNat)
  case atStart => exact ⟨0, by omega, rfl, rfl⟩
  case round =>
    obtain ⟨k, hk, hno, rfl⟩ := hrel
    have HNo := Lib.hid hno
    clear hno
    by_cases hlt : k < 8
    · have hck := HT.out k hlt
      cases hb : hasB s k
      · have HB := Lib.hid hb
        clear hb
        go_wp2_with (go_at_call 24; refine (has_in _ _ _ hlt hck).mono ?_; rintro e w' ⟨rfl, rfl⟩; simp only [HB.out])
        go_round
        case rel => exact ⟨k + 1, hlt, by rw [coresL_no HB.out]; exact HNo.out, by go_num⟩
        case measure => simp [intOf]; omega
      · have HB := Lib.hid hb
        clear hb
        go_wp2_with (go_at_call 24; refine (has_in _ _ _ hlt hck).mono ?_; rintro e w' ⟨rfl, rfl⟩; simp only [HB.out])
        go_ret2
        have hf := first_at hlt HNo.out HB.out
        exact ⟨ret_ib ⟨hf.1.symm, hf.2.symm⟩, rfl⟩
    · have hk8 : k = 8 := by omega
      subst hk8
      go_wp2
      go_ret2
      have hf := first_none HNo.out
      exact ⟨ret_ib ⟨hf.1.symm, hf.2.symm⟩, rfl⟩

/-- A bit of a set by halving. -/
theorem hasB_half (s : Int) (k : Nat) (h0 : 0 ≤ s) (h1 : s < 256) (hk : k < 8) : hasB s k = decide (s / ((2 ^ k : Nat) : Int) % 2 = 1) := by
  unfold hasB bitF
  have hp : 2 ^ k < 256 := Nat.lt_of_lt_of_le (Nat.pow_lt_pow_right (by decide) hk) (by decide)
  obtain ⟨n, rfl⟩ := Int.eq_ofNat_of_zero_le h0
  rw [u8_and_nat n (2 ^ k) (by omega) hp, nat_bit]
  have e : ((n : Int) / ((2 ^ k : Nat) : Int) % 2) = ((n / 2 ^ k % 2 : Nat) : Int) := by rw [Int.natCast_emod, Int.natCast_ediv]; rfl
  rw [e]
  have h2 : n / 2 ^ k % 2 = 0 ∨ n / 2 ^ k % 2 = 1 := by omega
  have hpos : 2 ^ k ≠ 0 := by have := Nat.pow_pos (n := k) (show 0 < 2 by decide); omega
  rcases h2 with h2 | h2
  · rw [h2]; simp
  · rw [h2]; simp; exact_mod_cast hpos

/-- What the reference's Has says of any number. -/
def rhasB (s c : Int) : Bool := if 0 ≤ c ∧ c < 8 then hasB s c.toNat else false
def halfF (s : Int) (k : Nat) : Int := s / ((2 ^ k : Nat) : Int)
theorem halfF_zero (s : Int) : s = halfF s 0 := by unfold halfF; simp
theorem halfF_bounds {s : Int} (k : Nat) (h0 : 0 ≤ s) (h1 : s < 256) : 0 ≤ halfF s k ∧ halfF s k < 256 := by
  unfold halfF
  have hpos : 0 < ((2 ^ k : Nat) : Int) := Int.natCast_pos.2 (Nat.pow_pos (by decide))
  constructor
  · exact Int.ediv_nonneg h0 (Int.le_of_lt hpos)
  · have : s / ((2 ^ k : Nat) : Int) ≤ s := Int.ediv_le_self _ h0
    omega
theorem halfF_succ (s : Int) (k : Nat) : halfF s k / 2 = halfF s (k + 1) := by
  unfold halfF
  rw [Int.ediv_ediv_of_nonneg (Int.natCast_nonneg _)]
  congr 1
theorem halfF_has {s : Int} {k : Nat} (h0 : 0 ≤ s) (h1 : s < 256) (hk : k < 8) : (halfF s k % 2 == 1) = rhasB s k := by
  unfold rhasB
  rw [if_pos (by omega), Int.toNat_natCast, hasB_half s k h0 h1 hk]
  rfl
theorem rhasB_out {s c : Int} (h : ¬ (0 ≤ c ∧ c < 8)) : false = rhasB s c := by unfold rhasB; rw [if_neg h]
theorem rhasB_in {s : Int} {k : Nat} (hk : k < 8) : rhasB s k = hasB s k := by unfold rhasB; rw [if_pos (by omega), Int.toNat_natCast]

theorem has_any (s c : Int) (w : World) (ht : TabOk w) :
    Calls Tryd.prog 24 #[.int .u8 s, .int .i64 c] w fun e w' => e = .returned (.bool (rhasB s c)) ∧ w = w' := by
  by_cases h : 0 ≤ c ∧ c < 8
  · obtain ⟨k, rfl⟩ := Int.eq_ofNat_of_zero_le h.1
    rw [rhasB_in (by omega)]
    exact has_in s k w (by omega) (ht k (by omega))
  · rw [← rhasB_out h]
    exact has_out s c w h

set_option maxHeartbeats 400000 in
theorem rhas_any (s c : Int) (w : World) (h0 : 0 ≤ s) (h1 : s < 256) :
    Calls Tryd.prog 25 #[.int .u8 s, .int .i64 c] w fun e w' => e = .returned (.bool (rhasB s c)) ∧ w = w' := by
  go_enter Tryd.func25, Tryd.ntmps25
  go_wp2
  go_loop [5, 6] (fun t i => ∃ (k : Nat) (x : Int), k ≤ 8 ∧ x = halfF s k ∧ (∀ j : Nat, j < k → (j : Int) ≠ c) ∧ i = .int .i64 k ∧ t = .int .i64 x) (fun _ i => 8 - (intOf i).toNat)
  case atStart => exact ⟨0, s, by omega, halfF_zero s, fun j hj => by omega, rfl, rfl⟩
  case round =>
    obtain ⟨k, x, hk, hx, hno, rfl, rfl⟩ := hrel
    have ⟨hx0, hx1⟩ := halfF_bounds k h0 h1
    rw [← hx] at hx0 hx1
    have HX := Lib.hid hx
    have HNo := Lib.hid hno
    clear hx hno
    by_cases hlt : k < 8
    · by_cases he : (k : Int) = c
      · subst he
        go_wp2
        go_ret
        exact ⟨ret_b (by rw [HX.out]; exact halfF_has h0 h1 hlt), rfl⟩
      · have hb : ((k : Int) == c) = false := by simpa using he
        have HE := Lib.hid he
        clear he
        go_wp2
        go_round
        case rel =>
          refine ⟨k + 1, _, hlt, by rw [HX.out]; exact halfF_succ s k, fun j hj => ?_, by go_num, rfl⟩
          by_cases e : j = k
          · subst e; exact HE.out
          · exact HNo.out j (by omega)
        case measure => simp [intOf]; omega
    · have hk8 : k = 8 := by omega
      subst hk8
      go_wp2
      go_ret
      refine ⟨ret_b (rhasB_out fun hc => ?_), rfl⟩
      obtain ⟨j, rfl⟩ := Int.eq_ofNat_of_zero_le hc.1
      exact HNo.out j (by omega) rfl

set_option maxHeartbeats 400000 in
/-- The predicate that awake hands over. -/
theorem awake1_any (k : Nat) (w : World) :
    Calls Tryd.prog 31 #[.int .i64 k] w fun e w' => e = .returned (.bool (decide (0 < k))) ∧ w = w' := by
  go_enter Tryd.func31, Tryd.ntmps31
  go_wp2
  go_ret
  exact ⟨ret_b (by simp), rfl⟩
end Go.Proofs.YtphdlplbcajemaaDoor
