/-
  New tasks.
-/
import Derived.Test.YtdhanenbcjmfkaaDoorStp
namespace Go.Proofs.YtdhanenbcjmfkaaDoor
open Go.RowKit

/-- A new task. -/
def tk0 (K : Nat) (a times : Int) : Tk := ⟨K, a, times, false, 0, false⟩
/-- A task as an interface value. -/
abbrev tv (K B : Nat) : Value := .iface 78 (.pointer (some ⟨cbT K B, 0, none⟩))
/-- What a call that makes a task does. -/
def NewP (K : Nat) (a times : Int) (w : World) (e : Ending) (w' : World) : Prop :=
  e = .returned (tv K w.heap.size) ∧ TaskAt w' w.heap.size (tk0 K a times) ∧ Below w.heap.size w w' ∧ w'.heap.size = w.heap.size + szT K

theorem al_cell {w : World} {o : Obj} {a : Addr} {v : Value} (h : w.cell? a = some v) : (w.alloc o).cell? a = some v := kept h ((Below.refl _ _).alloc (Nat.le_refl _) _)
theorem al_new (w : World) (c : Array Value) (t : TypeId) (j k : Nat) {v : Value} (hk : k = w.heap.size) (hv : c[j]? = some v) : (w.alloc (.cells c t)).cell? ⟨k, j, none⟩ = some v := by
  subst hk
  rw [World.cell?_alloc_new]
  exact hv
theorem frozen_at (w : World) (c : Array Value) (t : TypeId) (j k : Nat) (h : k = w.heap.size) : (w.alloc (.cells c t)).frozen? ⟨k, j, none⟩ = false := by subst h; exact frozen_new w c t j
theorem frozen_old (w : World) (o : Obj) (a : Addr) (h : a.block < w.heap.size) : (w.alloc o).frozen? a = w.frozen? a := World.frozen?_of_block (w := w) (Below.heap_alloc w o _ h)
set_option maxHeartbeats 2000000 in
set_option maxRecDepth 100000 in
theorem adds_new (a times : Int) (w : World) (ht : times ≤ 1000) :
    Calls Tryd.prog 22 #[.int .i64 a, .int .i64 times] w fun e w' => NewP 0 a times w e w' := by
  have HT := Lib.hid ht
  clear ht
  go_enter Tryd.func22, Tryd.ntmps22
  go_wp2_with fail
  go_ret
  refine ⟨rfl, ⟨fun _ => ⟨?_, ?_⟩, fun h => absurd rfl h, ?_, ?_, HT.out⟩, ?_, ?_⟩
  · simp [tk0]
  · simp
  · simp [tk0, cbT]
  · exact frozen_at _ _ _ 0 _ (by simp [tk0, cbT])
  · exact ((Below.refl _ _).alloc (Nat.le_refl _) _).alloc (by simp) _
  · simp [szT]
set_option maxHeartbeats 2000000 in
set_option maxRecDepth 100000 in
theorem lf_new (T : FuncId) (B : Nat) (a : Int) (w : World) :
    Calls Tryd.prog 32 #[.int .i64 a, .func (.func T) #[] #[.pointer (some ⟨B, 0, none⟩)]] w
      fun e w' => e = .returned (.func (.func 38) #[] #[.pointer (some ⟨w.heap.size + 3, 0, none⟩), .pointer (some ⟨w.heap.size + 1, 0, none⟩), .pointer (some ⟨w.heap.size + 2, 0, none⟩), .pointer (some ⟨w.heap.size, 0, none⟩)]) ∧
        w' = (((w.alloc (.cells #[.int .i64 a] 3)).alloc (.cells #[.func (.func T) #[] #[.pointer (some ⟨B, 0, none⟩)]] 77)).alloc (.cells #[.int .u32 0] 33)).alloc (.cells #[.bool false] 4) := by
  go_enter Tryd.func32, Tryd.ntmps32
  go_wp2_with fail
  go_ret
  exact ⟨rfl, rfl⟩
set_option maxHeartbeats 2000000 in
set_option maxRecDepth 100000 in
theorem bumps_new (a times : Int) (w : World) (ht : times ≤ 1000) :
    Calls Tryd.prog 24 #[.int .i64 a, .int .i64 times] w fun e w' => NewP 1 a times w e w' := by
  have HT := Lib.hid ht
  have HL := Lib.hid (lf_new 36 w.heap.size a (w.alloc (.cells #[.int .i64 a] 3)))
  clear ht
  go_enter Tryd.func24, Tryd.ntmps24
  go_wp2_with fail
  with_reducible refine HL.out.mono ?_
  rintro e w1 ⟨rfl, rfl⟩
  go_wp2_with fail
  go_ret
  refine ⟨rfl, ⟨fun h => absurd h (show ¬ (_ : Nat) = 0 by simp [tk0]), fun _ => ⟨⟨?_, ?_, ?_, ⟨0, ?_, fun h => by cases h⟩, ?_, ?_, ?_⟩, ?_, ?_⟩, ?_, ?_, HT.out⟩, ?_, ?_⟩
  · exact al_cell (al_cell (al_cell (al_cell (al_cell (al_new _ _ _ 0 _ (by simp) rfl)))))
  · exact al_cell (al_cell (al_cell (al_cell (al_new _ _ _ 0 _ (by simp) rfl))))
  · exact al_cell (al_cell (al_cell (al_new _ _ _ 0 _ (by simp) rfl)))
  · exact al_cell (al_cell (al_new _ _ _ 0 _ (by simp) rfl))
  · exact al_cell (al_new _ _ _ 0 _ (by simp) rfl)
  · rw [frozen_old _ _ _ (by simp), frozen_old _ _ _ (by simp)]; exact frozen_at _ _ _ 0 _ (by simp)
  · rw [frozen_old _ _ _ (by simp)]; exact frozen_at _ _ _ 0 _ (by simp)
  · exact al_new _ _ _ 1 _ (by simp) rfl
  · simp
  · exact al_new _ _ _ 0 _ (by simp [tk0, cbT]) (by simp [tk0])
  · exact frozen_at _ _ _ 0 _ (by simp [tk0, cbT])
  · exact ((((((Below.refl _ _).alloc (Nat.le_refl _) _).alloc (by simp) _).alloc (by simp; omega) _).alloc (by simp; omega) _).alloc (by simp; omega) _).alloc (by simp; omega) _
  · simp [szT]
set_option maxHeartbeats 2000000 in
set_option maxRecDepth 100000 in
theorem swaps_new (a times : Int) (w : World) (ht : times ≤ 1000) :
    Calls Tryd.prog 21 #[.int .i64 a, .int .i64 times] w fun e w' => NewP 2 a times w e w' := by
  have HT := Lib.hid ht
  have HL := Lib.hid (lf_new 30 w.heap.size a (w.alloc (.cells #[.int .i64 a] 3)))
  clear ht
  go_enter Tryd.func21, Tryd.ntmps21
  go_wp2_with fail
  with_reducible refine HL.out.mono ?_
  rintro e w1 ⟨rfl, rfl⟩
  go_wp2_with fail
  go_ret
  refine ⟨rfl, ⟨fun h => absurd h (show ¬ (_ : Nat) = 0 by simp [tk0]), fun _ => ⟨⟨?_, ?_, ?_, ⟨0, ?_, fun h => by cases h⟩, ?_, ?_, ?_⟩, ?_, ?_⟩, ?_, ?_, HT.out⟩, ?_, ?_⟩
  · exact al_cell (al_cell (al_cell (al_cell (al_cell (al_new _ _ _ 0 _ (by simp) rfl)))))
  · exact al_cell (al_cell (al_cell (al_cell (al_new _ _ _ 0 _ (by simp) rfl))))
  · exact al_cell (al_cell (al_cell (al_new _ _ _ 0 _ (by simp) rfl)))
  · exact al_cell (al_cell (al_new _ _ _ 0 _ (by simp) rfl))
  · exact al_cell (al_new _ _ _ 0 _ (by simp) rfl)
  · rw [frozen_old _ _ _ (by simp), frozen_old _ _ _ (by simp)]; exact frozen_at _ _ _ 0 _ (by simp)
  · rw [frozen_old _ _ _ (by simp)]; exact frozen_at _ _ _ 0 _ (by simp)
  · exact al_new _ _ _ 1 _ (by simp) rfl
  · simp
  · exact al_new _ _ _ 0 _ (by simp [tk0, cbT]) (by simp [tk0])
  · exact frozen_at _ _ _ 0 _ (by simp [tk0, cbT])
  · exact ((((((Below.refl _ _).alloc (Nat.le_refl _) _).alloc (by simp) _).alloc (by simp; omega) _).alloc (by simp; omega) _).alloc (by simp; omega) _).alloc (by simp; omega) _
  · simp [szT]
end Go.Proofs.YtdhanenbcjmfkaaDoor
