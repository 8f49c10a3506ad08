/-
  Small functions: comparing numbers, the first answer that isn't 0, whether one waits, who is first, the tick.
-/
import Derived.Test.YtagfhlnedaagbaaMem
namespace Go.Proofs.Ytagfhlnedaagbaa
open Go.RowKit

def cmpI (x y : Int) : Int := if x < y then -1 else if y < x then 1 else 0
theorem cmpI_neg {x y : Int} : cmpI x y < 0 ↔ x < y := by unfold cmpI; split <;> (try split) <;> omega
theorem cmpI_zero {x y : Int} : cmpI x y = 0 ↔ x = y := by unfold cmpI; split <;> (try split) <;> omega
theorem nan_any (x : Int) (w : World) : Calls Try.prog 50 #[nV x] w fun e w' => e = .returned (.bool false) ∧ w = w' := by
  go_enter Try.func50, Try.ntmps50
  go_wp2_with fail
  go_ret
  exact ⟨rfl, rfl⟩
theorem cmp_any (x y : Int) (w : World) : Calls Try.prog 44 #[nV x, nV y] w fun e w' => e = .returned (nV (cmpI x y)) ∧ w = w' := by
  have hx := nan_any x w
  have hy := nan_any y w
  by_cases h1 : x < y
  · have e : cmpI x y = -1 := by unfold cmpI; rw [if_pos h1]
    rw [e]
    go_enter Try.func44, Try.ntmps44
    go_wp2_with (first | (go_at_call 50; first | (refine hx.mono ?_; rintro e w' ⟨rfl, rfl⟩) | (refine hy.mono ?_; rintro e w' ⟨rfl, rfl⟩)))
    go_ret
    exact ⟨rfl, rfl⟩
  · by_cases h2 : y < x
    · have e : cmpI x y = 1 := by unfold cmpI; rw [if_neg h1, if_pos h2]
      rw [e]
      go_enter Try.func44, Try.ntmps44
      go_wp2_with (first | (go_at_call 50; first | (refine hx.mono ?_; rintro e w' ⟨rfl, rfl⟩) | (refine hy.mono ?_; rintro e w' ⟨rfl, rfl⟩)))
      go_ret
      exact ⟨rfl, rfl⟩
    · have e : cmpI x y = 0 := by unfold cmpI; rw [if_neg h1, if_neg h2]
      rw [e]
      go_enter Try.func44, Try.ntmps44
      go_wp2_with (first | (go_at_call 50; first | (refine hx.mono ?_; rintro e w' ⟨rfl, rfl⟩) | (refine hy.mono ?_; rintro e w' ⟨rfl, rfl⟩)))
      go_ret
      exact ⟨rfl, rfl⟩
def orI (x y : Int) : Int := if x ≠ 0 then x else y
theorem or_any (x y : Int) (b : Nat) (w : World) (h0 : w.cell? ⟨b, 0, none⟩ = some (nV x)) (h1 : w.cell? ⟨b, 1, none⟩ = some (nV y)) :
    Calls Try.prog 48 #[.slice (some ⟨b, 0, none⟩) 2 2] w fun e w' => e = .returned (nV (orI x y)) ∧ w = w' := by
  by_cases hx : x = 0
  · subst hx
    have e : orI 0 y = y := rfl
    rw [e]
    by_cases hy : y = 0
    · subst hy
      go_enter Try.func48, Try.ntmps48
      go_wp2_with fail
      go_loop [8] (fun i => ∃ k : Nat, k ≤ 2 ∧ i = .int .i64 k) (fun i => 2 - (intOf i).toNat)
      case atStart => exact ⟨0, by omega, rfl⟩
      case round =>
        obtain ⟨k, hk, rfl⟩ := hrel
        have hk' : k = 0 ∨ k = 1 ∨ k = 2 := by omega
        rcases hk' with rfl | rfl | rfl
        · go_wp2_with fail
          go_round
          case rel => exact ⟨1, by omega, rfl⟩
          case measure => simp [intOf]
        · go_wp2_with fail
          go_round
          case rel => exact ⟨2, by omega, rfl⟩
          case measure => simp [intOf]
        · go_wp2_with fail
          go_ret
          exact ⟨rfl, rfl⟩
    · go_enter Try.func48, Try.ntmps48
      go_wp2_with fail
      go_loop [8] (fun i => ∃ k : Nat, k ≤ 1 ∧ i = .int .i64 k) (fun i => 2 - (intOf i).toNat)
      case atStart => exact ⟨0, by omega, rfl⟩
      case round =>
        obtain ⟨k, hk, rfl⟩ := hrel
        have hk' : k = 0 ∨ k = 1 := by omega
        rcases hk' with rfl | rfl
        · go_wp2_with fail
          go_round
          case rel => exact ⟨1, by omega, rfl⟩
          case measure => simp [intOf]
        · go_wp2_with fail
          go_ret
          exact ⟨rfl, rfl⟩
  · have e : orI x y = x := by unfold orI; rw [if_pos hx]
    rw [e]
    go_enter Try.func48, Try.ntmps48
    go_wp2_with fail
    go_loop [8] (fun i => i = .int .i64 0) (fun i => 2 - (intOf i).toNat)
    case atStart => rfl
    case round =>
      subst hrel
      go_wp2_with fail
      go_ret
      exact ⟨rfl, rfl⟩

theorem waits_any {g b : Nat} {v : Value} {S : Ln} (x : Int) (hx : I64 x) (w : World) (h : LnAt w g b v S) :
    Calls Try.prog 28 #[.pointer (some ⟨g, 0, none⟩), nV x] w fun e w' => e = .returned (.bool (S.has x)) ∧ Below w.heap.size w w' ∧ w.drawn = w'.drawn := by
  have c0 := h.c0
  have hg := h.map.get2 hx
  obtain ⟨a, hl⟩ : ∃ a, a = S.look x := ⟨_, rfl⟩
  rw [← hl] at hg
  obtain ⟨a0, a1, a2⟩ := a
  obtain ⟨q, hq⟩ : ∃ q, q = S.has x := ⟨_, rfl⟩
  rw [← hq] at hg ⊢
  clear hl hq h
  simp only [wV] at hg
  go_enter Try.func28, Try.ntmps28
  go_wp2_with fail
  go_ret
  exact ⟨rfl, by repeat (first | exact Below.refl _ _ | refine Below.alloc ?_ (by simp) _ | refine Below.setCell ?_ _ _ (by simp)), rfl⟩
end Go.Proofs.Ytagfhlnedaagbaa
