/-
  The reference's reader: Take, Err, End.
-/
import Derived.Test.YtamcmkeoiomeiaaDoorCall
namespace Go.Proofs.YtamcmkeoiomeiaaDoor
open Go.RowKit

/-- A reference's reader, as a value. -/
def refV (s : ByteArray) (k : Nat) (bad : Bool) : Value := .agg #[.string s, .int .i64 k, .bool bad]

section
variable {s : ByteArray} {k : Nat}
theorem lacks_low {n : Int} (h : n < 1) (hk : k ≤ s.size) (bad : Bool) : lacks s k bad n = bad := by
  unfold lacks
  rw [decide_eq_false (by omega)]
  simp
theorem next_low {n : Int} (h : n < 1) (bad : Bool) : nextAt s k bad n = k := by
  unfold nextAt
  rw [show n.toNat = 0 by omega]
  simp
theorem read_low {n : Int} (h : n < 1) (bad : Bool) : readS s k bad n = ⟨#[]⟩ := by
  unfold readS
  rw [show n.toNat = 0 by omega]
  split
  · rfl
  · apply ByteArray.ext
    apply Array.toList_inj.1
    rw [Lib.extract_data]
    simp

set_option maxHeartbeats 1000000 in
theorem rtake_bad (n : Int) (w : World) : Calls Tryd.prog 26 #[refV s k true, .int .i64 n] w fun e w' => e = .returned (.tuple #[refV s k true, .string ⟨#[]⟩]) ∧ Below w.heap.size w w' := by
  unfold refV
  go_enter Tryd.func26, Tryd.ntmps26
  go_wp2
  refine bodyPost_ret (v := .tuple #[.agg #[.string s, .int .i64 k, .bool true], .string ⟨#[]⟩]) (by simp [results, Tryd.results26, go_sem]) rfl ⟨rfl, ?_⟩
  exact ((Below.refl _ _).alloc (Nat.le_refl _) _).alloc (by simp) _
set_option maxHeartbeats 1000000 in
theorem rtake_low (n : Int) (w : World) (hn : n < 1) : Calls Tryd.prog 26 #[refV s k false, .int .i64 n] w fun e w' => e = .returned (.tuple #[refV s k false, .string ⟨#[]⟩]) ∧ Below w.heap.size w w' := by
  unfold refV
  go_enter Tryd.func26, Tryd.ntmps26
  go_wp2
  refine bodyPost_ret (v := .tuple #[.agg #[.string s, .int .i64 k, .bool false], .string ⟨#[]⟩]) (by simp [results, Tryd.results26, go_sem]) rfl ⟨rfl, ?_⟩
  exact ((Below.refl _ _).alloc (Nat.le_refl _) _).alloc (by simp) _
set_option maxHeartbeats 1000000 in
theorem rtake_no (n : Int) (w : World) (hk : k ≤ s.size) (hs : s.size ≤ 9223372036854775807) (hn : 1 ≤ n) (hl : (s.size : Int) - k < n) :
    Calls Tryd.prog 26 #[refV s k false, .int .i64 n] w fun e w' => e = .returned (.tuple #[refV s k true, .string ⟨#[]⟩]) ∧ Below w.heap.size w w' := by
  unfold refV
  go_enter Tryd.func26, Tryd.ntmps26
  go_wp2
  refine bodyPost_ret (v := .tuple #[.agg #[.string s, .int .i64 k, .bool true], .string ⟨#[]⟩]) (by simp [results, Tryd.results26, go_sem]) rfl ⟨rfl, ?_⟩
  exact ((Below.refl _ _).alloc (Nat.le_refl _) _).alloc (by simp) _
set_option maxHeartbeats 1000000 in
set_option maxRecDepth 100000 in
theorem rtake_yes (n : Nat) (w : World) (hk : k + n ≤ s.size) (hs : s.size ≤ 9223372036854775807) (hn : 1 ≤ n) :
    Calls Tryd.prog 26 #[refV s k false, .int .i64 n] w fun e w' => e = .returned (.tuple #[refV s (k + n) false, .string (s.extract k (k + n))]) ∧ Below w.heap.size w w' := by
  unfold refV
  have hd : IntKind.i64.wrap ((s.size : Int) - k) = (s.size : Int) - k := IntWalk.i64_in _ (by omega)
  have hb0 : (k : Int) ≤ (k : Int) + n := by omega
  have hb1 : (k : Int) + n ≤ s.size := by omega
  go_enter Tryd.func26, Tryd.ntmps26
  go_wp2
  refine bodyPost_ret (v := .tuple #[.agg #[.string s, .int .i64 ((k + n : Nat) : Int), .bool false], .string (s.extract k (k + n))]) (by simp [results, Tryd.results26, go_sem]) rfl ⟨rfl, ?_⟩
  exact ((Below.refl _ _).alloc (Nat.le_refl _) _).alloc (by simp) _

theorem rtake_any (n : Int) (bad : Bool) (w : World) (hk : k ≤ s.size) (hs : s.size ≤ 9223372036854775807) :
    Calls Tryd.prog 26 #[refV s k bad, .int .i64 n] w fun e w' => e = .returned (.tuple #[refV s (nextAt s k bad n) (lacks s k bad n), .string (readS s k bad n)]) ∧ Below w.heap.size w w' := by
  cases bad
  · by_cases hn : n < 1
    · rw [lacks_low hn hk, next_low hn, read_low hn]
      exact rtake_low n w hn
    · by_cases hl : (s.size : Int) - k < n
      · have e0 : lacks s k false n = true := by
          unfold lacks
          rw [decide_eq_true hl]
          rfl
        have e1 : nextAt s k false n = k := by
          unfold nextAt
          rw [e0]
          rfl
        have e2 : readS s k false n = ⟨#[]⟩ := by
          unfold readS
          rw [e0]
          rfl
        rw [e0, e1, e2]
        exact rtake_no n w hk hs (by omega) hl
      · obtain ⟨m, rfl⟩ : ∃ m : Nat, n = m := ⟨n.toNat, by omega⟩
        have e0 : lacks s k false m = false := by
          unfold lacks
          rw [decide_eq_false hl]
          rfl
        have e1 : nextAt s k false m = k + m := by
          unfold nextAt
          rw [e0]
          simp
        have e2 : readS s k false m = s.extract k (k + m) := by
          unfold readS
          rw [e0]
          simp
        rw [e0, e1, e2]
        exact rtake_yes m w (by omega) hs (by omega)
  · have e0 : lacks s k true n = true := lacks_true s k n
    have e1 : nextAt s k true n = k := by
      unfold nextAt
      rw [e0]
      rfl
    have e2 : readS s k true n = ⟨#[]⟩ := by
      unfold readS
      rw [e0]
      rfl
    rw [e0, e1, e2]
    exact rtake_bad n w

/-- What went wrong, and where. -/
def errN (bad : Bool) : Int := if bad then 20 else 0
def errA (k : Nat) (bad : Bool) : Int := if bad then (k : Int) else 0
/-- The same, or that there is more. -/
def endN (s : ByteArray) (k : Nat) (bad : Bool) : Int := if bad then 20 else if k < s.size then 21 else 0
def endA (s : ByteArray) (k : Nat) (bad : Bool) : Int := if bad then (k : Int) else if k < s.size then (k : Int) else 0

set_option maxHeartbeats 1000000 in
theorem rerr_any (bad : Bool) (w : World) :
    Calls Tryd.prog 14 #[refV s k bad] w fun e w' => e = .returned (.tuple #[.int .i64 (errN bad), .int .i64 (errA k bad)]) ∧ Below w.heap.size w w' := by
  unfold refV
  cases bad
  · go_enter Tryd.func14, Tryd.ntmps14
    go_wp2
    go_ret2
    exact ⟨rfl, (Below.refl _ _).alloc (Nat.le_refl _) _⟩
  · go_enter Tryd.func14, Tryd.ntmps14
    go_wp2
    go_quiet (fail)
    go_wp2
    go_ret2
    exact ⟨rfl, below_drewN ((Below.refl _ _).alloc (Nat.le_refl _) _) _⟩

set_option maxHeartbeats 1000000 in
theorem rend_any (bad : Bool) (w : World) :
    Calls Tryd.prog 16 #[refV s k bad] w fun e w' => e = .returned (.tuple #[.int .i64 (endN s k bad), .int .i64 (endA s k bad)]) ∧ Below w.heap.size w w' := by
  cases bad
  · by_cases hk : k < s.size
    · have hN : endN s k false = 21 := by simp [endN, hk]
      have hA : endA s k false = k := by simp [endA, hk]
      rw [hN, hA]
      clear hN hA
      unfold refV
      go_enter Tryd.func16, Tryd.ntmps16
      go_wp2
      go_quiet (fail)
      go_wp2
      go_ret2
      exact ⟨rfl, below_drewN ((Below.refl _ _).alloc (Nat.le_refl _) _) _⟩
    · have hN : endN s k false = 0 := by simp [endN, hk]
      have hA : endA s k false = 0 := by simp [endA, hk]
      rw [hN, hA]
      clear hN hA
      have HR := fun W => Lib.hid (rerr_any (s := s) (k := k) false W)
      unfold refV at HR ⊢
      go_enter Tryd.func16, Tryd.ntmps16
      go_wp2_with fail
      refine (HR _).out.mono ?_
      rintro e w1 ⟨rfl, hB⟩
      have HB := Lib.hid hB
      clear hB
      go_wp2
      go_ret2
      exact ⟨rfl, ((Below.refl _ _).alloc (Nat.le_refl _) _).trans (HB.out.mono (by simp))⟩
  · have HR := fun W => Lib.hid (rerr_any (s := s) (k := k) true W)
    unfold refV at HR ⊢
    go_enter Tryd.func16, Tryd.ntmps16
    go_wp2_with fail
    refine (HR _).out.mono ?_
    rintro e w1 ⟨rfl, hB⟩
    have HB := Lib.hid hB
    clear hB
    go_wp2
    go_ret2
    exact ⟨rfl, ((Below.refl _ _).alloc (Nat.le_refl _) _).trans (HB.out.mono (by simp))⟩
end
end Go.Proofs.YtamcmkeoiomeiaaDoor
