/-
  What a word becomes by a use.
-/
import Derived.Test.YtoaaeamogpdcgaaDoorMem
namespace Go.Proofs.YtoaaeamogpdcgaaDoor
open Go.RowKit

set_option maxHeartbeats 2000000 in
set_option maxRecDepth 100000 in
theorem after0 (old v was : Int) (w : World) (hG : GOk w) :
    Calls Tryd.prog 35 #[useV 0 old v, .int .u32 was] w fun e w' => e = .returned (.int .u32 (afterS 0 old v was)) ∧ Below w.heap.size w w' := by
  obtain ⟨k0, k1, k2, k3⟩ := (hG 1 (by decide)).same (Below.heap_alloc w (.cells #[.bool true, .bool false, .bool false, .bool false, .int .u32 old, .int .u32 v] 82) _ (hG 1 (by decide)).lt)
  obtain ⟨s0, s1, s2, s3⟩ := (hG 2 (by decide)).same (Below.heap_alloc w (.cells #[.bool true, .bool false, .bool false, .bool false, .int .u32 old, .int .u32 v] 82) _ (hG 2 (by decide)).lt)
  obtain ⟨a0, a1, a2, a3⟩ := (hG 3 (by decide)).same (Below.heap_alloc w (.cells #[.bool true, .bool false, .bool false, .bool false, .int .u32 old, .int .u32 v] 82) _ (hG 3 (by decide)).lt)
  obtain ⟨o0, o1, o2, o3⟩ := (hG 4 (by decide)).same (Below.heap_alloc w (.cells #[.bool true, .bool false, .bool false, .bool false, .int .u32 old, .int .u32 v] 82) _ (hG 4 (by decide)).lt)
  obtain ⟨t0, t1, t2, t3⟩ := (hG 5 (by decide)).same (Below.heap_alloc w (.cells #[.bool true, .bool false, .bool false, .bool false, .int .u32 old, .int .u32 v] 82) _ (hG 5 (by decide)).lt)
  simp only [gK, kK, useV, afterS] at *
  clear hG
  go_enter Tryd.func35, Tryd.ntmps35
  go_wp2_with fail
  go_ret
  exact ⟨rfl, (Below.refl _ _).alloc (Nat.le_refl _) _⟩
set_option maxHeartbeats 2000000 in
set_option maxRecDepth 100000 in
theorem after1 (old v was : Int) (w : World) (hG : GOk w) :
    Calls Tryd.prog 35 #[useV 1 old v, .int .u32 was] w fun e w' => e = .returned (.int .u32 (afterS 1 old v was)) ∧ Below w.heap.size w w' := by
  obtain ⟨k0, k1, k2, k3⟩ := (hG 1 (by decide)).same (Below.heap_alloc w (.cells #[.bool false, .bool true, .bool false, .bool false, .int .u32 old, .int .u32 v] 82) _ (hG 1 (by decide)).lt)
  obtain ⟨s0, s1, s2, s3⟩ := (hG 2 (by decide)).same (Below.heap_alloc w (.cells #[.bool false, .bool true, .bool false, .bool false, .int .u32 old, .int .u32 v] 82) _ (hG 2 (by decide)).lt)
  obtain ⟨a0, a1, a2, a3⟩ := (hG 3 (by decide)).same (Below.heap_alloc w (.cells #[.bool false, .bool true, .bool false, .bool false, .int .u32 old, .int .u32 v] 82) _ (hG 3 (by decide)).lt)
  obtain ⟨o0, o1, o2, o3⟩ := (hG 4 (by decide)).same (Below.heap_alloc w (.cells #[.bool false, .bool true, .bool false, .bool false, .int .u32 old, .int .u32 v] 82) _ (hG 4 (by decide)).lt)
  obtain ⟨t0, t1, t2, t3⟩ := (hG 5 (by decide)).same (Below.heap_alloc w (.cells #[.bool false, .bool true, .bool false, .bool false, .int .u32 old, .int .u32 v] 82) _ (hG 5 (by decide)).lt)
  simp only [gK, kK, useV, afterS] at *
  clear hG
  go_enter Tryd.func35, Tryd.ntmps35
  go_wp2_with fail
  go_ret
  exact ⟨rfl, (Below.refl _ _).alloc (Nat.le_refl _) _⟩
set_option maxHeartbeats 2000000 in
set_option maxRecDepth 100000 in
theorem after2 (old v was : Int) (w : World) (hG : GOk w) :
    Calls Tryd.prog 35 #[useV 2 old v, .int .u32 was] w fun e w' => e = .returned (.int .u32 (afterS 2 old v was)) ∧ Below w.heap.size w w' := by
  obtain ⟨k0, k1, k2, k3⟩ := (hG 1 (by decide)).same (Below.heap_alloc w (.cells #[.bool false, .bool true, .bool false, .bool true, .int .u32 old, .int .u32 v] 82) _ (hG 1 (by decide)).lt)
  obtain ⟨s0, s1, s2, s3⟩ := (hG 2 (by decide)).same (Below.heap_alloc w (.cells #[.bool false, .bool true, .bool false, .bool true, .int .u32 old, .int .u32 v] 82) _ (hG 2 (by decide)).lt)
  obtain ⟨a0, a1, a2, a3⟩ := (hG 3 (by decide)).same (Below.heap_alloc w (.cells #[.bool false, .bool true, .bool false, .bool true, .int .u32 old, .int .u32 v] 82) _ (hG 3 (by decide)).lt)
  obtain ⟨o0, o1, o2, o3⟩ := (hG 4 (by decide)).same (Below.heap_alloc w (.cells #[.bool false, .bool true, .bool false, .bool true, .int .u32 old, .int .u32 v] 82) _ (hG 4 (by decide)).lt)
  obtain ⟨t0, t1, t2, t3⟩ := (hG 5 (by decide)).same (Below.heap_alloc w (.cells #[.bool false, .bool true, .bool false, .bool true, .int .u32 old, .int .u32 v] 82) _ (hG 5 (by decide)).lt)
  simp only [gK, kK, useV, afterS] at *
  clear hG
  go_enter Tryd.func35, Tryd.ntmps35
  by_cases e : was = old
  · rw [if_pos e]
    subst e
    go_wp2_with fail
    all_goals
      go_ret
      exact ⟨rfl, (Below.refl _ _).alloc (Nat.le_refl _) _⟩
  · rw [if_neg e]
    go_wp2_with fail
    all_goals
      go_ret
      exact ⟨rfl, (Below.refl _ _).alloc (Nat.le_refl _) _⟩
set_option maxHeartbeats 2000000 in
set_option maxRecDepth 100000 in
theorem after3 (old v was : Int) (w : World) (hG : GOk w) :
    Calls Tryd.prog 35 #[useV 3 old v, .int .u32 was] w fun e w' => e = .returned (.int .u32 (afterS 3 old v was)) ∧ Below w.heap.size w w' := by
  obtain ⟨k0, k1, k2, k3⟩ := (hG 1 (by decide)).same (Below.heap_alloc w (.cells #[.bool true, .bool true, .bool false, .bool false, .int .u32 old, .int .u32 v] 82) _ (hG 1 (by decide)).lt)
  obtain ⟨s0, s1, s2, s3⟩ := (hG 2 (by decide)).same (Below.heap_alloc w (.cells #[.bool true, .bool true, .bool false, .bool false, .int .u32 old, .int .u32 v] 82) _ (hG 2 (by decide)).lt)
  obtain ⟨a0, a1, a2, a3⟩ := (hG 3 (by decide)).same (Below.heap_alloc w (.cells #[.bool true, .bool true, .bool false, .bool false, .int .u32 old, .int .u32 v] 82) _ (hG 3 (by decide)).lt)
  obtain ⟨o0, o1, o2, o3⟩ := (hG 4 (by decide)).same (Below.heap_alloc w (.cells #[.bool true, .bool true, .bool false, .bool false, .int .u32 old, .int .u32 v] 82) _ (hG 4 (by decide)).lt)
  obtain ⟨t0, t1, t2, t3⟩ := (hG 5 (by decide)).same (Below.heap_alloc w (.cells #[.bool true, .bool true, .bool false, .bool false, .int .u32 old, .int .u32 v] 82) _ (hG 5 (by decide)).lt)
  simp only [gK, kK, useV, afterS] at *
  clear hG
  go_enter Tryd.func35, Tryd.ntmps35
  go_wp2_with fail
  go_ret
  exact ⟨rfl, (Below.refl _ _).alloc (Nat.le_refl _) _⟩
set_option maxHeartbeats 2000000 in
set_option maxRecDepth 100000 in
theorem after4 (old v was : Int) (w : World) (hG : GOk w) :
    Calls Tryd.prog 35 #[useV 4 old v, .int .u32 was] w fun e w' => e = .returned (.int .u32 (afterS 4 old v was)) ∧ Below w.heap.size w w' := by
  obtain ⟨k0, k1, k2, k3⟩ := (hG 1 (by decide)).same (Below.heap_alloc w (.cells #[.bool true, .bool true, .bool true, .bool false, .int .u32 old, .int .u32 v] 82) _ (hG 1 (by decide)).lt)
  obtain ⟨s0, s1, s2, s3⟩ := (hG 2 (by decide)).same (Below.heap_alloc w (.cells #[.bool true, .bool true, .bool true, .bool false, .int .u32 old, .int .u32 v] 82) _ (hG 2 (by decide)).lt)
  obtain ⟨a0, a1, a2, a3⟩ := (hG 3 (by decide)).same (Below.heap_alloc w (.cells #[.bool true, .bool true, .bool true, .bool false, .int .u32 old, .int .u32 v] 82) _ (hG 3 (by decide)).lt)
  obtain ⟨o0, o1, o2, o3⟩ := (hG 4 (by decide)).same (Below.heap_alloc w (.cells #[.bool true, .bool true, .bool true, .bool false, .int .u32 old, .int .u32 v] 82) _ (hG 4 (by decide)).lt)
  obtain ⟨t0, t1, t2, t3⟩ := (hG 5 (by decide)).same (Below.heap_alloc w (.cells #[.bool true, .bool true, .bool true, .bool false, .int .u32 old, .int .u32 v] 82) _ (hG 5 (by decide)).lt)
  simp only [gK, kK, useV, afterS] at *
  clear hG
  go_enter Tryd.func35, Tryd.ntmps35
  go_wp2_with fail
  go_ret
  exact ⟨rfl, (Below.refl _ _).alloc (Nat.le_refl _) _⟩
set_option maxHeartbeats 2000000 in
set_option maxRecDepth 100000 in
theorem after5 (old v was : Int) (w : World) (hG : GOk w) :
    Calls Tryd.prog 35 #[useV 5 old v, .int .u32 was] w fun e w' => e = .returned (.int .u32 (afterS 5 old v was)) ∧ Below w.heap.size w w' := by
  obtain ⟨k0, k1, k2, k3⟩ := (hG 1 (by decide)).same (Below.heap_alloc w (.cells #[.bool false, .bool false, .bool false, .bool false, .int .u32 old, .int .u32 v] 82) _ (hG 1 (by decide)).lt)
  obtain ⟨s0, s1, s2, s3⟩ := (hG 2 (by decide)).same (Below.heap_alloc w (.cells #[.bool false, .bool false, .bool false, .bool false, .int .u32 old, .int .u32 v] 82) _ (hG 2 (by decide)).lt)
  obtain ⟨a0, a1, a2, a3⟩ := (hG 3 (by decide)).same (Below.heap_alloc w (.cells #[.bool false, .bool false, .bool false, .bool false, .int .u32 old, .int .u32 v] 82) _ (hG 3 (by decide)).lt)
  obtain ⟨o0, o1, o2, o3⟩ := (hG 4 (by decide)).same (Below.heap_alloc w (.cells #[.bool false, .bool false, .bool false, .bool false, .int .u32 old, .int .u32 v] 82) _ (hG 4 (by decide)).lt)
  obtain ⟨t0, t1, t2, t3⟩ := (hG 5 (by decide)).same (Below.heap_alloc w (.cells #[.bool false, .bool false, .bool false, .bool false, .int .u32 old, .int .u32 v] 82) _ (hG 5 (by decide)).lt)
  simp only [gK, kK, useV, afterS] at *
  clear hG
  go_enter Tryd.func35, Tryd.ntmps35
  go_wp2_with fail
  go_ret
  exact ⟨rfl, (Below.refl _ _).alloc (Nat.le_refl _) _⟩
theorem after_any (K : Nat) (old v was : Int) (w : World) (hK : K ≤ 5) (hG : GOk w) :
    Calls Tryd.prog 35 #[useV K old v, .int .u32 was] w fun e w' => e = .returned (.int .u32 (afterS K old v was)) ∧ Below w.heap.size w w' := by
  match K, hK with
  | 0, _ => exact after0 old v was w hG
  | 1, _ => exact after1 old v was w hG
  | 2, _ => exact after2 old v was w hG
  | 3, _ => exact after3 old v was w hG
  | 4, _ => exact after4 old v was w hG
  | 5, _ => exact after5 old v was w hG
end Go.Proofs.YtoaaeamogpdcgaaDoor
