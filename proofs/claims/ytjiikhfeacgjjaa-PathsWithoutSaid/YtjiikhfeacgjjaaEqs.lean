/-
  Two rows of Booleans, and of numbers, compared.
-/
import Derived.Test.YtjiikhfeacgjjaaBMem
namespace Go.Proofs.Ytjiikhfeacgjjaa
open Go.RowKit

noncomputable def eqU {α : Type} (n : Nat) (f h : Nat → α) : Bool := @decide (∀ i, i < n → f i = h i) (Classical.propDecidable _)
theorem eqU_yes {α : Type} {n : Nat} {f h : Nat → α} (e : ∀ i, i < n → f i = h i) : eqU n f h = true := by unfold eqU; exact @decide_eq_true _ (Classical.propDecidable _) e
theorem eqU_no {α : Type} {n : Nat} {f h : Nat → α} {k : Nat} (hk : k < n) (e : f k ≠ h k) : eqU n f h = false := by unfold eqU; exact @decide_eq_false _ (Classical.propDecidable _) (fun a => e (a k hk))
theorem eqU_iff {α : Type} {n : Nat} {f h : Nat → α} : eqU n f h = true ↔ ∀ i, i < n → f i = h i := by unfold eqU; exact @decide_eq_true_iff _ (Classical.propDecidable _)

/-- Numbers in memory. -/
def Nums (w : World) (A : Option Addr) (n : Nat) (f : Nat → Int) : Prop := Arr w A 1 n fun i => [.int .i64 (f i)]
theorem Nums.cell {w : World} {b o n : Nat} {f : Nat → Int} (h : Nums w (some ⟨b, o, none⟩) n f) {i : Nat} (hi : i < n) : w.cell? ⟨b, o + i, none⟩ = some (.int .i64 (f i)) := by
  have := Arr.at h (i := i) (j := 0) hi rfl
  simpa using this

def eqRel43 (w : World) (n : Nat) (f h : Nat → Bool) (i : Value) (wr : World) : Prop :=
  ∃ k : Nat, k ≤ n ∧ i = .int .i64 k ∧ (∀ j, j < k → f j = h j) ∧ Below w.heap.size w wr
set_option maxHeartbeats 4000000 in
set_option maxRecDepth 100000 in
theorem equal_any (A A2 : Option Addr) (c c2 n m : Nat) (f h : Nat → Bool) (w : World) (hA : Bools w A n f) (hA2 : Bools w A2 m h) (hn : n ≤ 1000000000000000) (hm : m ≤ 1000000000000000) :
    Calls Try.prog 43 #[.slice A n c, .slice A2 m c2] w fun e w' => e = .returned (.bool (decide (n = m) && eqU n f h)) ∧ Below w.heap.size w w' := by
  by_cases hl : n = m
  · subst hl
    have HA := Lib.hid hA
    have HA2 := Lib.hid hA2
    rw [decide_eq_true rfl, Bool.true_and]
    clear hA hA2
    obtain ⟨q, hq⟩ : ∃ q, q = eqU n f h := ⟨_, rfl⟩
    rw [← hq]
    have HQ := Lib.hid hq
    clear hq
    go_enter Try.func43, Try.ntmps43
    go_wp2_with fail
    go_loopw [13] (fun i wr => eqRel43 w n f h i wr) (fun i _ => n - (intOf i).toNat)
    case atStart => exact ⟨0, Nat.zero_le _, rfl, fun j hj => by omega, Below.refl _ _⟩
    case round =>
      obtain ⟨k, hk, rfl, hj, hB⟩ := hrel
      have HJ := Lib.hid hj
      have HB := Lib.hid hB
      by_cases hlt : k < n
      · obtain ⟨b, o, rfl⟩ := Arr.head HA.out hlt
        obtain ⟨b2, o2, rfl⟩ := Arr.head HA2.out hlt
        have c0 := kept (Bools.cell HA.out hlt) hB
        have d0 := kept (Bools.cell HA2.out hlt) hB
        obtain ⟨x, hx⟩ : ∃ x, x = f k := ⟨_, rfl⟩
        obtain ⟨y, hy⟩ : ∃ y, y = h k := ⟨_, rfl⟩
        rw [← hx] at c0
        rw [← hy] at d0
        have HX := Lib.hid hx
        have HY := Lib.hid hy
        clear hj hB hx hy
        by_cases hxy : x = y
        · subst hxy
          go_wp2_with fail
          go_quiet (fail)
          go_wp2_with fail
          all_goals
            go_roundw
            case rel => exact ⟨k + 1, by omega, by go_num, fun j hj => (by
              rcases Nat.lt_or_ge j k with h | h
              · exact HJ.out j h
              · obtain rfl : j = k := by omega
                rw [← HX.out, ← HY.out]), below_drewN HB.out _⟩
            case measure => simp [intOf]; omega
        · have HXY := Lib.hid hxy
          rcases x with _ | _ <;> rcases y with _ | _ <;> first | exact absurd rfl hxy | clear hxy
          all_goals
            go_wp2_with fail
            go_quiet (fail)
            go_wp2_with fail
            go_ret
            refine ⟨ret_b ?_, below_drewN HB.out _⟩
            rw [HQ.out, eqU_no hlt (by rw [← HX.out, ← HY.out]; exact HXY.out)]
      · have hk' : k = n := by omega
        subst hk'
        clear hj hB
        go_wp2_with fail
        go_ret
        exact ⟨ret_b (by rw [HQ.out, eqU_yes HJ.out]), HB.out⟩
  · have hne : ((n : Int) != (m : Int)) = true := by simpa using (show ¬ (n : Int) = (m : Int) by omega)
    have hne2 : (n != m) = true := by simpa using hl
    rw [decide_eq_false hl, Bool.false_and]
    clear hl hA hA2
    go_enter Try.func43, Try.ntmps43
    go_wp2_with fail
    go_ret
    exact ⟨rfl, Below.refl _ _⟩

def eqRel14 (w : World) (n : Nat) (f h : Nat → Bool) (i : Value) (wr : World) : Prop :=
  ∃ k : Nat, k ≤ n ∧ i = .int .i64 k ∧ (∀ j, j < k → f j = h j) ∧ Below w.heap.size w wr
set_option maxHeartbeats 4000000 in
set_option maxRecDepth 100000 in
theorem same_any (A A2 : Option Addr) (c c2 n m : Nat) (f h : Nat → Bool) (w : World) (hA : Bools w A n f) (hA2 : Bools w A2 m h) (hn : n ≤ 1000000000000000) (hm : m ≤ 1000000000000000) :
    Calls Try.prog 14 #[.slice A n c, .slice A2 m c2] w fun e w' => e = .returned (.bool (decide (n = m) && eqU n f h)) ∧ Below w.heap.size w w' := by
  by_cases hl : n = m
  · subst hl
    have HA := Lib.hid hA
    have HA2 := Lib.hid hA2
    rw [decide_eq_true rfl, Bool.true_and]
    clear hA hA2
    obtain ⟨q, hq⟩ : ∃ q, q = eqU n f h := ⟨_, rfl⟩
    rw [← hq]
    have HQ := Lib.hid hq
    clear hq
    go_enter Try.func14, Try.ntmps14
    go_wp2_with fail
    go_loopw [5] (fun i wr => eqRel14 w n f h i wr) (fun i _ => n - (intOf i).toNat)
    case atStart => exact ⟨0, Nat.zero_le _, rfl, fun j hj => by omega, Below.refl _ _⟩
    case round =>
      obtain ⟨k, hk, rfl, hj, hB⟩ := hrel
      have HJ := Lib.hid hj
      have HB := Lib.hid hB
      by_cases hlt : k < n
      · obtain ⟨b, o, rfl⟩ := Arr.head HA.out hlt
        obtain ⟨b2, o2, rfl⟩ := Arr.head HA2.out hlt
        have c0 := kept (Bools.cell HA.out hlt) hB
        have d0 := kept (Bools.cell HA2.out hlt) hB
        obtain ⟨x, hx⟩ : ∃ x, x = f k := ⟨_, rfl⟩
        obtain ⟨y, hy⟩ : ∃ y, y = h k := ⟨_, rfl⟩
        rw [← hx] at c0
        rw [← hy] at d0
        have HX := Lib.hid hx
        have HY := Lib.hid hy
        clear hj hB hx hy
        by_cases hxy : x = y
        · subst hxy
          go_wp2_with fail
          go_quiet (fail)
          go_wp2_with fail
          all_goals
            go_roundw
            case rel => exact ⟨k + 1, by omega, by go_num, fun j hj => (by
              rcases Nat.lt_or_ge j k with h | h
              · exact HJ.out j h
              · obtain rfl : j = k := by omega
                rw [← HX.out, ← HY.out]), below_drewN HB.out _⟩
            case measure => simp [intOf]; omega
        · have HXY := Lib.hid hxy
          rcases x with _ | _ <;> rcases y with _ | _ <;> first | exact absurd rfl hxy | clear hxy
          all_goals
            go_wp2_with fail
            go_quiet (fail)
            go_wp2_with fail
            go_ret
            refine ⟨ret_b ?_, below_drewN HB.out _⟩
            rw [HQ.out, eqU_no hlt (by rw [← HX.out, ← HY.out]; exact HXY.out)]
      · have hk' : k = n := by omega
        subst hk'
        clear hj hB
        go_wp2_with fail
        go_ret
        exact ⟨ret_b (by rw [HQ.out, eqU_yes HJ.out]), HB.out⟩
  · have hne : ((n : Int) != (m : Int)) = true := by simpa using (show ¬ (n : Int) = (m : Int) by omega)
    have hne2 : (n != m) = true := by simpa using hl
    rw [decide_eq_false hl, Bool.false_and]
    clear hl hA hA2
    go_enter Try.func14, Try.ntmps14
    go_wp2_with fail
    go_ret
    exact ⟨rfl, Below.refl _ _⟩

def eqRel21 (w : World) (n : Nat) (f h : Nat → Int) (i : Value) (wr : World) : Prop :=
  ∃ k : Nat, k ≤ n ∧ i = .int .i64 k ∧ (∀ j, j < k → f j = h j) ∧ Below w.heap.size w wr
set_option maxHeartbeats 4000000 in
set_option maxRecDepth 100000 in
theorem sameN_any (A A2 : Option Addr) (c c2 n m : Nat) (f h : Nat → Int) (w : World) (hA : Nums w A n f) (hA2 : Nums w A2 m h) (hn : n ≤ 1000000000000000) (hm : m ≤ 1000000000000000) :
    Calls Try.prog 21 #[.slice A n c, .slice A2 m c2] w fun e w' => e = .returned (.bool (decide (n = m) && eqU n f h)) ∧ Below w.heap.size w w' := by
  by_cases hl : n = m
  · subst hl
    have HA := Lib.hid hA
    have HA2 := Lib.hid hA2
    rw [decide_eq_true rfl, Bool.true_and]
    clear hA hA2
    obtain ⟨q, hq⟩ : ∃ q, q = eqU n f h := ⟨_, rfl⟩
    rw [← hq]
    have HQ := Lib.hid hq
    clear hq
    go_enter Try.func21, Try.ntmps21
    go_wp2_with fail
    go_loopw [5] (fun i wr => eqRel21 w n f h i wr) (fun i _ => n - (intOf i).toNat)
    case atStart => exact ⟨0, Nat.zero_le _, rfl, fun j hj => by omega, Below.refl _ _⟩
    case round =>
      obtain ⟨k, hk, rfl, hj, hB⟩ := hrel
      have HJ := Lib.hid hj
      have HB := Lib.hid hB
      by_cases hlt : k < n
      · obtain ⟨b, o, rfl⟩ := Arr.head HA.out hlt
        obtain ⟨b2, o2, rfl⟩ := Arr.head HA2.out hlt
        have c0 := kept (Nums.cell HA.out hlt) hB
        have d0 := kept (Nums.cell HA2.out hlt) hB
        obtain ⟨x, hx⟩ : ∃ x, x = f k := ⟨_, rfl⟩
        obtain ⟨y, hy⟩ : ∃ y, y = h k := ⟨_, rfl⟩
        rw [← hx] at c0
        rw [← hy] at d0
        have HX := Lib.hid hx
        have HY := Lib.hid hy
        clear hj hB hx hy
        by_cases hxy : x = y
        · subst hxy
          go_wp2_with fail
          go_quiet (fail)
          go_wp2_with fail
          all_goals
            go_roundw
            case rel => exact ⟨k + 1, by omega, by go_num, fun j hj => (by
              rcases Nat.lt_or_ge j k with h | h
              · exact HJ.out j h
              · obtain rfl : j = k := by omega
                rw [← HX.out, ← HY.out]), below_drewN HB.out _⟩
            case measure => simp [intOf]; omega
        · have HXY := Lib.hid hxy
          have hne : (x != y) = true := by simpa using hxy
          clear hxy
          all_goals
            go_wp2_with fail
            go_quiet (fail)
            go_wp2_with fail
            go_ret
            refine ⟨ret_b ?_, below_drewN HB.out _⟩
            rw [HQ.out, eqU_no hlt (by rw [← HX.out, ← HY.out]; exact HXY.out)]
      · have hk' : k = n := by omega
        subst hk'
        clear hj hB
        go_wp2_with fail
        go_ret
        exact ⟨ret_b (by rw [HQ.out, eqU_yes HJ.out]), HB.out⟩
  · have hne : ((n : Int) != (m : Int)) = true := by simpa using (show ¬ (n : Int) = (m : Int) by omega)
    have hne2 : (n != m) = true := by simpa using hl
    rw [decide_eq_false hl, Bool.false_and]
    clear hl hA hA2
    go_enter Try.func21, Try.ntmps21
    go_wp2_with fail
    go_ret
    exact ⟨rfl, Below.refl _ _⟩
end Go.Proofs.Ytjiikhfeacgjjaa
